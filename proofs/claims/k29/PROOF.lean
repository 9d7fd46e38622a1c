import PyProof.Rows.All
import Wide.All
import OpenK.AllK
import Wide.FinOn
import Lean
import PyProof.EqAt
import PyProof.EqKinds
import PyProof.TupleCall
import PyProof.EnumMake
import PyProof.Draws
import PyProof.ZipIter
import PyProof.ConsumeWalk
import PyProof.NeKinds
import PyProof.ListRange
import PyProof.ReprRoads
import PyProof.ReprBulk
import PyProof.CallStr
import PyProof.Rows.SeqMore
import KE.KMinBuiltin
import PyProof.MinMaxWalk
import PyProof.DictRoadsH
import PyProof.Rows.SortShell
import PyProof.Rows.SetFrom
import PyProof.SetRoads
import PyProof.SumWalkG
import PyProof.Rows.SortShellK
import PyProof.Rows.SortWalk
import PyProof.WalksMore
import PyProof.FactsAll.subtypes_4
import PyProof.SetNew
import PyProof.Rows.SetObj
import KE.KRevSl
import PyProof.AutoSeq1
import PyProof.WalkInts
import PyProof.StationsW
import PyProof.ExcClass3
import KE.KDictOf
import PyProof.AttrMissHeap
import PyProof.DictCompW
import PyProof.FitsInt
import PySem.Challenge.RW_huedties_k29_halves
set_option Elab.async false
set_option linter.all false
set_option maxRecDepth 100000
open PySem.W renaming Frag→Sh,mg_none_of→TJ
open Bool renaming and_eq_true→Si,false_ne_true→Ss,not_eq_true'→Ta,or_eq_true→Tj,false_eq_true→U1,eq_iff_iff→UN,false_or→WU,or_false→WV,true_and→WW
open List renaming getElem?_eq_getElem→Sj,length_map→Sk,length_append→Sl,mem_of_getElem?→Sm,size_toArray→Sq,replicate→Su,range→Sx,mem_cons_of_mem→Sz,getElem?_append_left→T9,getElem?_map→TB,mem_cons→TC,append_assoc→TF,mem_singleton→TH,all_eq_true→TK,mem_cons_self→TM,getElem?_set_self→TN,mem_append→TQ,mem_append_right→TR,getD_eq_getElem?_getD→TU,getElem?_concat_length→TX,mem_range→TY,getElem?_append_right→TZ,length_take→Tb,length_set→Tc,prefix_refl→Te,replicate_succ→Tf,getElem?_set_ne→Th,length_drop→Ti,map_cons→To,length_cons→Tq,map_append→Tt,isEmpty_iff→Tz,take_succ→U2,pairwise_iff_getElem→U4,drop_eq_getElem_cons→U5,getElem?_range→U6,length_singleton→U8,take_append_drop→U9,all_cons→UB,mem_filter→UE,append_nil→UF,lookup_cons→UH,getElem_mem→UI,getElem?_of_mem→UJ,flatten_cons→UK,take_of_length_le→UL,length_range→UM,length_replicate→UO,getElem?_drop→UP,mem_map→UR,mem_append_left→US,mem_iff_getElem→UT,getElem?_replicate→UU,reverse_cons→UV,nodup_cons→UX,length_reverse→UY,any_cons→UZ,drop_length→Ua,take_length→Ub,prefix_append→Uc,perm_append_comm→Ud,countP_le_length→Ue,of_mem_zip→Uh,mem_of_mem_take→Uj,getD→Uk,length→Ul,pairwise_cons→Uo,pairwise_lt_range→Uq,find?_cons→Us,getElem?_eq_none→Uu,length_filter_le→Uv,mem_of_mem_drop→Uz,length_nil→V0,range_succ→V2,pairwise_singleton→V3,drop_zero→V5,nodup_append→V6,eraseIdxIfInBounds_toArray→V7,any_eq_true→V8,countP_cons→V9,eq_nil_of_length_eq_zero→VB,head?_drop→VC,filterMap_cons→VD,reverse_append→VE,getElem?_take→VJ,length_eraseIdx_of_lt→VL,tail_drop→VM,filter_append→VO,pairwise_map→VP,countP_congr→VQ,getElem?_take_of_lt→VR,filterMap_cons_some→VS,filter_cons→VW,length_eq_zero_iff→VX,drop_eq_nil_of_le→VZ,find?_cons_of_pos→Vb,find?_cons_of_neg→Vc,countP_nil→Ve,mem_iff_getElem?→Vf,set_append_right→Vg,dropLast_eq_take→Vh,getElem?_zipWith→Vi,lookup→Vj,pairwise_append→Vk,getElem_of_mem→Vm,flatMap_append→Vn,mem_filterMap→Vo,mem_replicate→Vr,countP_append→Vs,countP_filter→Vt,take_sublist→Vu,map_map→Vv,getElem_drop→Vw,ext_getElem?→Vz,all_map→W0,append_inj'→W8,mem_reverse→W9,nodup_range→WC,foldl_cons→WG,foldl→WL,take_zero→WM,nodup_nil→WR,map_take→WX,map_drop→WY,countP→Wj
open PySem.Heap renaming get?_push_of_some→So,lt_size→Sw,get?_push_size→Sy,SameBut→Tn,get?_update_self→Tu,get?_update_other→U3,size_push→UC,size_update→VU,ExtBut→WD,IsSliceOf→WK
open Nat renaming le_refl→Sr,ne_of_lt→TL,lt_of_lt_of_le→TV,le_trans→Td,zero_le→U7,lt_irrefl→UA,zero_add→UG,le_of_lt→Um,le_succ→Ux,lt_succ_of_lt→V4,lt_or_ge→VG,lt_of_le_of_lt→VI,min_eq_right→VY,sub_zero→Va,min_eq_left→Vd,lt_trichotomy→Vx,lt_of_succ_le→Vy,le_total→W1,succ_le_succ→W3,le_of_not_lt→W4,lt_succ_self→W5,le_add_right→W6,not_lt_of_gt→W7,max_eq_right→WB,not_lt_zero→WH,max_eq_left→WJ,mod_lt→WQ,ne_of_gt→Wa,le_of_eq→Wc,add_zero→Wd,sub_self→We,lt_trans→Wg,cast→Wi
open Array renaming length_toList→Sv,toList_append→Tp,getElem?_toList→Tv,toList_push→UW,toList_reverse→VA,getElem_toList→Vl,getD→WN,toList→WZ
open Int renaming le_trans→Tx,le_of_lt→U0,emod_lt_of_pos→Ur,natCast_inj→Ut,toNat_natCast→Uw,le_refl→Uy,emod_nonneg→V1,toNat_of_nonneg→VF,zero_add→VH,natCast_nonneg→VN,not_lt→Vq
open Option renaming isSome→UD,isSome_iff_exists→UQ,isNone_iff_eq_none→Ug,map_some→Ui,getD_none→VT,bind_some→VV,isSome_some→Vp,some→Wh
abbrev EE:=List (Nat×Nat)
theorem gM{α:Type}{l:List α}{i:Nat}{a:α}(h:l[i]?=some a):∃h:i<l.length,l[i]=a:=List.getElem?_eq_some_iff.mp h
theorem oj{α:Type}{a b:α}(h:some a=some b):a=b:=Wh.inj h
namespace L2
open PySem PySem.Spec PyProof.Rows
noncomputable abbrev Key:=Sum Int Str
noncomputable def OB:Key->Value->Bool
 | .inl k,v=>Value.isInt k v
 | .inr x,v=>Value.isStrOf x v
noncomputable def SF(w:World):Key->Int
 | .inl k=>hashInt k
 | .inr x=>hashStr w x
theorem j9:∀{k:Key} {v:Value},OB k v=true->(∃ i t,k=Sum.inl i/\v=Value.int i t)\/(∃ x t,k=Sum.inr x/\v=Value.str x t)
 | .inl i,v,h=>by
   obtain⟨t,e⟩:=Value.isInt_shape (k:=i) (v:=v) h;exact .inl ⟨i,t,rfl,e⟩
 | .inr x,v,h=>by
   obtain⟨t,e⟩:=Value.isStrOf_shape (x:=x) (v:=v) h;exact .inr ⟨x,t,rfl,e⟩
theorem Om(a b:Int):decide ((Sum.inl a:Key)=Sum.inl b)=(a == b):=by
 by_cases e:a=b
 ·subst e;simp
 ·have h:¬ (Sum.inl a:Key)=Sum.inl b:=fun q=>e (Sum.inl.inj q);rw[decide_eq_false h];exact(beq_eq_false_iff_ne.mpr e).symm
theorem Oo(a b:Str):decide ((Sum.inr a:Key)=Sum.inr b)=decide (a=b):=by
 by_cases e:a=b
 ·subst e;simp
 ·have h:¬ (Sum.inr a:Key)=Sum.inr b:=fun q=>e (Sum.inr.inj q);rw[decide_eq_false h,decide_eq_false e]
theorem Op(a:Int)(b:Str):decide ((Sum.inl a:Key)=Sum.inr b)=false:=decide_eq_false (fun q=>nomatch q)
theorem Oq(a:Str)(b:Int):decide ((Sum.inr a:Key)=Sum.inl b)=false:=decide_eq_false (fun q=>nomatch q)
noncomputable def Ct(prog:Program)(w:World):PySem.KeyKind prog w Key where
 is:=OB
 hash:=SF w
 inj:=fun v a b ha hb=>by
  rcases j9 ha with⟨i,t,rfl,rfl⟩ | ⟨x,t,rfl,rfl⟩
  ·rcases j9 hb with⟨j,u,rfl,e⟩ | ⟨y,u,rfl,e⟩
   ·injection e with e1 _;rw[e1]
   ·exact nomatch e
  ·rcases j9 hb with⟨j,u,rfl,e⟩ | ⟨y,u,rfl,e⟩
   ·exact nomatch e
   ·injection e with e1 _;rw[e1]
 byValue:=fun k v h=>by
   rcases j9 h with⟨i,t,rfl,rfl⟩ | ⟨x,t,rfl,rfl⟩<;>rfl
 pyHash:=fun hv h=>by
  rcases j9 hv with⟨i,t,rfl,rfl⟩ | ⟨x,t,rfl,rfl⟩
  ·exact wpAny_pyHash_int h
  ·exact wpAny_pyHash_str h
 eqBool:=fun hu hv h=>by
  rcases j9 hu with⟨i,t,rfl,rfl⟩ | ⟨x,t,rfl,rfl⟩
  ·rcases j9 hv with⟨j,u,rfl,rfl⟩ | ⟨y,u,rfl,rfl⟩
   ·rw[Om]at h;exact wpAny_eqBool_int h
   ·rw[Op]at h;exact SeqAt.EqAt.int_str i t y u _ _ _ _ h
  ·rcases j9 hv with⟨j,u,rfl,rfl⟩ | ⟨y,u,rfl,rfl⟩
   ·rw[Oq]at h;exact SeqAt.EqAt.str_int x t j u _ _ _ _ h
   ·rw[Oo]at h;exact wpAny_eqBool_str h
 «strs»:=fun k x t v h=>by
  rcases j9 h with⟨i,u,rfl,e⟩ | ⟨y,u,rfl,e⟩
  ·exact nomatch e
  ·injection e with e1 _;subst e1;cases v<;>rfl
open PySem PySem.Spec PyProof.Rows
inductive V where
 | non | bl (b:Bool) | int (i:Int) | str (x:Str) | byt (b:Array UInt8) | flt (b:UInt64) | ref (a:Addr) | ty (n:String)
 deriving DecidableEq
noncomputable def RelV:V->Value->Prop
 | .non,u=>u=Value.none
 | .bl b,u=>u=Value.bool b
 | .int i,u=>∃ t,u=Value.int i t
 | .str x,u=>∃ t,u=Value.str x t
 | .byt b,u=>∃ t,u=Value.bytes b t
 | .flt b,u=>∃ t,u=Value.float b t
 | .ref a,u=>u=Value.ref a
 | .ty n,u=>u=Value.type n
noncomputable abbrev Vals:List V->List Value->Prop:=Paired RelV
theorem Vals.length{xs:List V}{us:List Value}(r:Vals xs us):xs.length=us.length:=Paired.length r
theorem Vals.get:∀{xs:List V} {us:List Value} {i:Nat} {x:V},Vals xs us->xs[i]?=some x->∃ u,us[i]?=some u/\RelV x u
 | _,_,_,_,.nil,e=>by simp at e
 | _,_,0,_,.cons r _,e=>by simp at e;subst e;exact⟨_,rfl,r⟩
 | _,_,i+1,x,.cons _ t,e=>by
   obtain⟨u,h1,h2⟩:=Vals.get (i:=i) (x:=x) t (by simpa using e);exact⟨u,by simpa using h1,h2⟩
theorem Vals.set{x:V}{u:Value}(r:RelV x u):∀{xs:List V} {us:List Value} (i:Nat),Vals xs us->Vals (xs.set i x) (us.set i u)
 | _,_,_,.nil => .nil
 | _,_,0,.cons _ t => .cons r t
 | _,_,i+1,.cons q t => .cons q (Vals.set r i t)
theorem Vals.append:∀{xs ys:List V} {us ws:List Value},Vals xs us->Vals ys ws->Vals (xs++ys) (us++ws)
 | _,_,_,_,.nil,s=>s
 | _,_,_,_,.cons r t,s => .cons r (Vals.append t s)
theorem Vals.take:∀{xs:List V} {us:List Value} (n:Nat),Vals xs us->Vals (xs.take n) (us.take n)
 | _,_,0,_ => .nil
 | _,_,_+1,.nil => .nil
 | _,_,n+1,.cons r t => .cons r (Vals.take n t)
theorem Vals.drop:∀{xs:List V} {us:List Value} (n:Nat),Vals xs us->Vals (xs.drop n) (us.drop n)
 | _,_,0,r=>r
 | _,_,_+1,.nil => .nil
 | _,_,n+1,.cons _ t=>Vals.drop n t
noncomputable def RelO:Option V->Option Value->Prop
 | some v,some u=>RelV v u
 | none,none=>True
 | _,_=>False
noncomputable def KV{κ:Type}:List (κ×V)->List (κ×Value)->Prop:=Paired fun(p:κ×V) (q:κ×Value)=>p.1=q.1/\RelV p.2 q.2
noncomputable def kV:Key->V
 | .inl i => .int i
 | .inr x => .str x
inductive HO where
 /-- a list -/
 | lst (xs:List V)
 /-- a tuple (never changes) -/
 | tup (xs:List V)
 /-- a dict whose keys are ints and texts;one whose keys are tuples of ints and texts (the empty one is both) -/
 | dK (kvs:List (Key×V)) | dT (kvs:List (List Key×V))
 /-- a set of ints: its members,its size -/
 | set (S:Int->Bool) (n:Nat)
 /-- an instance of the class at C,its dict at dx,its attributes -/
 | ins (C dx:Addr) (fs:List (Str×V))
 /-- the dict of the instance at x -/
 | own (x:Addr)
 /-- the dict of an exception -/
 | xd (fs:List (Str×V))
 /-- a bound method,f of x -/
 | met (f x:Addr)
 /-- a range object lo,lo+1,.. below hi -/
 | rng (lo hi:Int)
 /-- a thing that is known to the object (the script;a dict while a loop walks it): read,never written while it is so -/
 | frz (o:Obj) (u:HO)
 /-- a code object's table -/
 | tbl (ps:Array Value)
 /-- any other thing,by what is true of its one object (a def of one's own: SetO a S n:=HO.ext fun h => ..) -/
 | ext (φ:Heap->Prop)
noncomputable abbrev Hp:=Addr->Option HO
noncomputable def upd(H:Hp)(a:Addr)(o:HO):Hp:=fun b=>if b=a then some o else H b
theorem n8{H:Hp}{a:Addr}{o:HO}:upd H a o a=some o:=by unfold upd;rw[if_pos rfl]
theorem upd_ne{H:Hp}{a b:Addr}{o:HO}(h:b≠a):upd H a o b=H b:=by unfold upd;rw[if_neg h]
theorem QZ{H:Hp}{a b:Addr}{o u:HO}(h:H a=some o)(h':H b=some u)(d:o≠u):a≠b:=by
 intro e;subst e;rw[h]at h';exact d (oj h')
theorem f6{H:Hp}{a b:Addr}{o:HO}(h:H a=some o)(h':H b=none):a≠b:=by
 intro e;subst e;rw[h]at h';cases h'
section
variable(P:Program)(w:World)
noncomputable def ObjOk(H:Hp)(h:Heap)(a:Addr):HO->Prop
 | .lst xs=>xs.length<=sizeLine/\∃(its:List Value) (n:Nat),Vals xs its/\h.get? a=some {cls := .type "list",data := .seq its.toArray n}
 | .tup xs=>xs.length<=sizeLine/\∃ its:List Value,Vals xs its/\IsTup h a its.toArray
 | .dK kvs=>kvs.length<=sizeLine/\(a == sysModules)=false/\∃ vs,KV kvs vs/\h.DictOf (Ct P w) a vs
 | .dT kvs=>kvs.length<=sizeLine/\(a == sysModules)=false/\∃ xs:List (List Key×Addr×Value),
    Paired (fun(p:List Key×V) (q:List Key×Addr×Value)=>p.1=q.1/\H q.2.1=some (.tup (p.1.map kV))/\RelV p.2 q.2.2) kvs xs/\
    ∃ o es ep,h.get? a=some o/\o.ExactDict/\o.data = .dict es ep/\es.toList=xs.map (entryOfKey (tupleKind (Ct P w)))/\(xs.map (·.1)).Nodup
 | .set S n=>h.SetOf (intKind P w) a S n
 | .ins C dx fs=>H dx=some (.own a)/\fs.length<=1000/\dx≠a/\h.get? a=some (PySem.W.instObj C dx)/\
    ∃ mA,h.Ns1 dx mA/\(∀ f,RelO (fs.lookup f) (mA f))/\PySem.Within mA (fs.map (·.1))
 | .own _=>∃ o,h.get? a=some o
 | .xd fs=>∃ mA,h.Ns1 a mA/\∀ f,RelO (fs.lookup f) (mA f)
 | .rng lo hi=>∃ t u v,h.get? a=some {cls := .type "range",data := .fields #[.int lo t,.int hi u,.int 1 v]}
 | .frz o u=>h.get? a=some o/\ObjOk H h a u
 | .tbl ps=>h.get? a=some {cls := .none,data := .fields ps}
 | .met f x=>h.get? a=some (PySem.W.methodObj (.ref f) (.ref x))
 | .ext φ=>φ h/\(∃ o,h.get? a=some o)/\∀ h1 h2:Heap,φ h1->(∀ o,h1.get? a=some o->h2.get? a=some o)->φ h2
noncomputable def HOk(H:Hp)(h:Heap):Prop:=∀ a o,H a=some o->ObjOk P w H h a o
end
section
variable{P:Program}{w:World}{H H':Hp}{h h':Heap}{a:Addr}{o:HO}
theorem ObjOk.lt(x:ObjOk P w H h a o):a<h.objs.size:=by
 cases o with
 | lst xs=>obtain⟨_,_,_,_,e⟩:=x;exact Sw e
 | tup xs=>obtain⟨_,_,_,p⟩:=x;exact p.lt
 | dK kvs=>obtain⟨_,_,_,_,o,_,_,e,_⟩:=x;exact Sw e
 | dT kvs=>obtain⟨_,_,_,_,o,_,_,e,_⟩:=x;exact Sw e
 | set S n=>obtain⟨o,_,_,_,e,_⟩:=x;exact Sw e
 | ins C dx fs=>obtain⟨_,_,_,e,_⟩:=x;exact Sw e
 | own y=>obtain⟨_,e⟩:=x;exact Sw e
 | xd fs=>obtain⟨_,⟨_,_,_,e,_⟩,_⟩:=x;exact Sw e
 | rng lo hi=>obtain⟨_,_,_,e⟩:=x;exact Sw e
 | frz ob u=>obtain⟨e,_⟩:=x;exact Sw e
 | tbl ps=>exact Sw (show h.get? a=some _ from x)
 | met f y=>exact Sw (show h.get? a=some _ from x)
 | ext φ=>obtain⟨_,⟨_,e⟩,_⟩:=x;exact Sw e
theorem Paired.mapP{α β:Type}{F G:α->β->Prop}:∀{l₁:List α} {l₂:List β},Paired F l₁ l₂->(∀ a b,F a b->G a b)->Paired G l₁ l₂
 | _,_,.nil,_ => .nil
 | _,_,.cons r t,f => .cons (f _ _ r) (Paired.mapP t f)
theorem ObjOk.stay(x:ObjOk P w H h a o)(k:∀ b u,(b=a\/H b=some (.own a))->h.get? b=some u->h'.get? b=some u)
 (ho:∀ b,H b=some (.own a)->H' b=some (.own a)) (ht:∀ b xs,H b=some (.tup xs)->H' b=some (.tup xs)):ObjOk P w H' h' a o:=by
 induction o with
 | lst xs=>obtain⟨z,its,n,r,e⟩:=x;exact⟨z,its,n,r,k _ _ (.inl rfl) e⟩
 | tup xs=>obtain⟨z,its,r,ob,e,c⟩:=x;exact⟨z,its,r,ob,k _ _ (.inl rfl) e,c⟩
 | dK kvs=>obtain⟨z,y,vs,r,ob,es,ep,e,c⟩:=x;exact⟨z,y,vs,r,ob,es,ep,k _ _ (.inl rfl) e,c⟩
 | dT kvs=>
   obtain⟨z,y,xs,r,ob,es,ep,e,c⟩:=x;exact⟨z,y,xs,Paired.mapP r fun p q z=>⟨z.1,ht _ _ z.2.1,z.2.2⟩,ob,es,ep,k _ _ (.inl rfl) e,c⟩
 | set S n=>obtain⟨ob,es,ep,t,e,c⟩:=x;exact⟨ob,es,ep,t,k _ _ (.inl rfl) e,c⟩
 | ins C dx fs=>
   obtain⟨d,z,ne,e,mA,⟨od,es,ep,e2,c⟩,r⟩:=x;exact⟨ho _ d,z,ne,k _ _ (.inl rfl) e,mA,⟨od,es,ep,k _ _ (.inr d) e2,c⟩,r⟩
 | own y=>obtain⟨ob,e⟩:=x;exact⟨ob,k _ _ (.inl rfl) e⟩
 | xd fs=>obtain⟨mA,⟨od,es,ep,e,c⟩,r⟩:=x;exact⟨mA,⟨od,es,ep,k _ _ (.inl rfl) e,c⟩,r⟩
 | rng lo hi=>obtain⟨t,u,v,e⟩:=x;exact⟨t,u,v,k _ _ (.inl rfl) e⟩
 | frz ob u ih=>obtain⟨e,q⟩:=x;exact⟨k _ _ (.inl rfl) e,ih q⟩
 | tbl ps=>
   have e:h.get? a=some {cls := .none,data := .fields ps}:=x;show h'.get? a=some {cls := .none,data := .fields ps};exact k a _ (.inl rfl) e
 | met f y=>
   have e:h.get? a=some (PySem.W.methodObj (.ref f) (.ref y)):=x;show h'.get? a=some (PySem.W.methodObj (.ref f) (.ref y));exact k a _ (.inl rfl) e
 | ext φ=>obtain⟨p,⟨o,e⟩,st⟩:=x;exact⟨st _ _ p fun o q=>k _ _ (.inl rfl) q,⟨o,k _ _ (.inl rfl) e⟩,st⟩
theorem HOk.lt(x:HOk P w H h)(e:H a=some o):a<h.objs.size:=(x a o e).lt
theorem HOk.fresh(x:HOk P w H h)(e:h.objs.size<=a):H a=none:=by
 cases q:H a with
 | none=>rfl
 | some u=>exact absurd (TV (x.lt q) e) (UA _)
theorem HOk.kept(x:HOk P w H h)(k:∀ b u,h.get? b=some u->h'.get? b=some u):HOk P w H h':=fun a o e=>
 (x a o e).stay (fun b u _ q=>k b u q) (fun _ q=>q) fun _ _ q=>q
theorem HOk.laid(x:HOk P w H h)(k:∀ b u,h.get? b=some u->h'.get? b=some u)(hp:h.objs.size<=a)(new:ObjOk P w (upd H a o) h' a o):HOk P w (upd H a o) h':=fun b u e=>by
 have hn:=x.fresh hp;by_cases hb:b=a
 ·subst hb;rw[n8]at e;cases e;exact new
 ·rw[upd_ne hb]at e;exact(x b u e).stay (fun c v _ q=>k c v q) (fun c q=>by rw[upd_ne (f6 q hn)];exact q) fun c xs q=>by rw[upd_ne (f6 q hn)];exact q
end
noncomputable def Rd(H:Hp)(a:Addr)(u:HO):Prop:=H a=some u\/∃ o,H a=some (.frz o u)
theorem Rd.ok{P:Program}{w:World}{H:Hp}{h:Heap}{a:Addr}{u:HO}(r:Rd H a u)(x:HOk P w H h):ObjOk P w H h a u:=by
 rcases r with r | ⟨o,r⟩
 ·exact x a u r
 ·obtain⟨_,q⟩:=x a _ r;exact q
noncomputable def Mut:Option HO->Prop
 | some (.lst _)=>True
 | some (.dK _)=>True
 | some (.dT _)=>True
 | some (.set _ _)=>True
 | some (.ins _ _ _)=>True
 | some (.ext _)=>True
 | _=>False
section
variable{P:Program}{w:World}{H:Hp}{h h':Heap}{x e:Addr}{o':HO}
theorem HOk.write(ok:HOk P w H h)(mu:Mut (H x))(he:e=x\/H e=some (.own x))(k:∀ b u,b≠e->h.get? b=some u->h'.get? b=some u)(heo:∃ u,h'.get? e=some u)
 (new:ObjOk P w (upd H x o') h' x o'):HOk P w (upd H x o') h':=fun b u q=>by
 have nown:∀ c y,H c=some (.own y)->c≠x:=fun c y r z=>by subst z;rw[r]at mu;exact mu
 have ntup:∀ c xs,H c=some (.tup xs)->c≠x:=fun c xs r z=>by subst z;rw[r]at mu;exact mu
 by_cases hb:b=x
 ·subst hb;rw[n8]at q;cases q;exact new
 ·rw[upd_ne hb]at q;by_cases hbe:b=e
  ·have q':H b=some (.own x):=by
    rcases he with z | z
    ·exact absurd (hbe.trans z) hb
    ·rw[hbe];exact z
   rw[q]at q';cases q';obtain⟨v,hv⟩:=heo;exact⟨v,by rw[hbe];exact hv⟩
  ·refine(ok b u q).stay (fun c v hc r=>k c v ?_ r) (fun c r=>by rw[upd_ne (nown c b r)];exact r) fun c xs r=>by rw[upd_ne (ntup c xs r)];exact r
   rcases hc with rfl | hc
   ·exact hbe
   ·rintro rfl;rcases he with z | z
    ·exact nown c b hc z
    ·rw[hc]at z;cases z;exact hb rfl
end
structure Un(fs ex:List Addr)(H H':Hp)(h h':Heap):Prop where
 keep:∀ b o,h.get? b=some o->H b=none->b∉fs->b∉ex->h'.get? b=some o
 slot:∀ b o,h.get? b=some o->H b=none->b∈fs->b∉ex->∃ sl,h'.get? b=some {o with slots:=sl}
 free:∀ b o,h.get? b=some o->H b=none->b∉ex->H' b=none
 there:∀ b o,h.get? b=some o->b∉ex->∃ o',h'.get? b=some o'
 tups:∀ b xs,H b=some (.tup xs)->H' b=some (.tup xs)
 frzs:∀ b o u,H b=some (.frz o (.lst u))->H' b=some (.frz o (.lst u))
 tbls:∀ b ps,H b=some (.tbl ps)->∃ more,H' b=some (.tbl (ps++more))
section
variable{fs fs' ex ex':List Addr}{H H1 H2:Hp}{h h1 h2 h':Heap}{a x e:Addr}{o:HO}
theorem Un.any(u:Un fs ex H H1 h h1){b:Addr}{ob:Obj}(q:h.get? b=some ob)(n:H b=none)(hx:b∉ex):∃ sl,h1.get? b=some {ob with slots:=sl}:=by
 by_cases hb:b∈fs
 ·exact u.slot b ob q n hb hx
 ·exact⟨ob.slots,u.keep b ob q n hb hx⟩
theorem Un.kept(k:∀ b u,h.get? b=some u->h'.get? b=some u):Un fs ex H H h h':=
 ⟨fun b ob q _ _ _=>k b ob q,fun b ob q _ _ _=>⟨ob.slots,k b ob q⟩,fun _ _ _ n _=>n,fun b ob q _=>⟨ob,k b ob q⟩,fun _ _ q=>q,fun _ _ _ q=>q,fun _ ps q=>⟨#[],by rw[q];simp⟩⟩
theorem Un.refl:Un fs ex H H h h:=Un.kept fun _ _ q=>q
theorem Un.laid(k:∀ b u,h.get? b=some u->h'.get? b=some u)(hp:h.objs.size<=a)(hn:H a=none):Un fs ex H (upd H a o) h h' where
 keep:=fun b u q _ _ _=>k b u q
 slot:=fun b u q _ _ _=>⟨u.slots,k b u q⟩
 free:=fun b u q n _=>by rw[upd_ne (TL (TV (Sw q) hp))];exact n
 there:=fun b u q _=>⟨u,k b u q⟩
 tups:=fun b xs q=>by rw[upd_ne (f6 q hn)];exact q
 frzs:=fun b u xs q=>by rw[upd_ne (f6 q hn)];exact q
 tbls:=fun b ps q=>⟨#[],by rw[upd_ne (f6 q hn),q];simp⟩
theorem Un.write(mu:Mut (H x))(he:e=x\/H e=some (.own x))(k:∀ b u,b≠e->h.get? b=some u->h'.get? b=some u)(heo:∃ u,h'.get? e=some u):Un fs ex H (upd H x o) h h':=by
 have hx:∀ b,H b=none->b≠x:=fun b n z=>by subst z;rw[n]at mu;exact mu
 have hb:∀ b,H b=none->b≠e:=fun b n z=>by
  subst z;rcases he with r | r
  ·exact hx b n r
  ·rw[n]at r;cases r
 have hm:∀ b u,H b=some u->¬ Mut (some u)->b≠x:=fun b u q nm z=>by subst z;rw[q]at mu;exact nm mu
 refine⟨fun b u q n _ _=>k b u (hb b n) q,fun b u q n _ _=>⟨u.slots,k b u (hb b n) q⟩,fun b u q n _=>by rw[upd_ne (hx b n)];exact n,fun b u q _=>?_,
  fun b xs q=>by rw[upd_ne (hm b _ q fun z=>z)];exact q,fun b u xs q=>by rw[upd_ne (hm b _ q fun z=>z)];exact q,fun b ps q=>⟨#[],by rw[upd_ne (hm b _ q fun z=>z),q];simp⟩⟩
 by_cases hbe:b=e
 ·subst hbe;exact heo
 ·exact⟨u,k b u hbe q⟩
end
noncomputable def trk(h:Heap)(H:Hp):List Addr:=(Sx h.objs.size).filter fun a=>(H a).isSome
noncomputable def EB(h:Heap)(H:Hp):Heap:=PySem.W.hideAll h (trk h H)
theorem Ie(h:Heap)(H:Hp):(EB h H).objs.size=h.objs.size:=PySem.W.hideAll_size _ _
theorem Js{h:Heap}{H:Hp}{b:Addr}{o:Obj}(e:h.get? b=some o)(n:H b=none):(EB h H).get? b=some o:=
 PySem.W.hideAll_get _ e fun hm=>by
  have q:(H b).isSome=true:=(UE.mp hm).2;rw[n]at q;simp at q
theorem MP{h:Heap}{H:Hp}{b:Addr}{o:Obj}(e:(EB h H).get? b=some o):h.get? b=some o/\H b=none:=by
 have e':h.get? b=some o:=PySem.W.of_hideAll (trk h H) e;refine⟨e',?_⟩;cases q:H b with
 | none=>rfl
 | some x=>
   have hm:b∈trk h H:=UE.mpr ⟨TY.mpr (Sw e'),by simp[q]⟩;have z:(EB h H).get? b=none:=PySem.W.hideAll_none (trk h H) hm;rw[z]at e;cases e
open PySem PySem.Spec PyProof.Rows
structure Mod(K:Sh)(mg:Str->Option Value)(base:Heap):Prop where
 kin:K.In base
 glob:base.Ns mainGlobals mg
 blt:∃ mb,base.Ns builtinsNs mb/\∀ x:Str,x≠"__name__"->mb x=bootBuiltins x
 nolimit:base.NoLimit
structure Cx where
 prog:Program
 w:World
 K:Sh
 mg:Str->Option Value
 base:Heap
 A:Around
 N:List Str
 s₀:Shared
 H₀:Hp
 env:Env
 outer:List Env
 stack:List Env
 ex:List Addr
 fn:Str->Bool
 calm:Bool
 pn:List (Addr×Obj)
 xe:Value->Shared->Prop
noncomputable def frs(l:List Env):List Addr:=l.filterMap (·.frame)
noncomputable abbrev Cx.fs(X:Cx):List Addr:=frs X.outer
noncomputable def Vis(sc:Scope)(x:Str):Prop:=sc.names.lookup x=some .local\/sc.names.lookup x=some .cell\/sc.names.lookup x=some .free
noncomputable def Loc(sc:Scope)(x:Str):Prop:=sc.names.lookup x=some .local\/sc.names.lookup x=some .cell
noncomputable def Look(env:Env)(h:Heap)(m:Str->Option Value)(x:Str)(u:Value):Prop:=
 (env.kindOf x=some .local/\m x=some u)\/((env.kindOf x=some .cell\/env.kindOf x=some .free)/\∃ c,env.cells.lookup x=some c/\h.IsCell c (some u))
structure Cx.Ok(X:Cx):Prop where
 mod:Mod X.K X.mg X.base
 kind:X.env.scope.kind = .function
 glob:X.env.globals=mainGlobals
 blt:X.env.builtins=builtinsNs
 above:X.s₀.heap.objs.size<=X.env.locals
 inj:∀ x y c,X.env.cells.lookup x=some c->X.env.cells.lookup y=some c->x=y
 has:∀ x,(X.env.kindOf x=some .cell\/X.env.kindOf x=some .free)->∃ c,X.env.cells.lookup x=some c
 cab:∀ x c,X.fn x=true->X.env.cells.lookup x=some c->X.s₀.heap.objs.size<=c
 hd:X.calm=true->X.A.handled=none
 frames:X.A.frames=some X.stack
 stk:X.stack=X.outer\/(X.stack=X.env::X.outer/\X.env.frame=some X.env.locals)
 exf:∀ b∈X.ex,b≠X.env.locals/\∀ x c,X.env.cells.lookup x=some c->c≠b
 bs:∀ b o,X.base.get? b=some o->X.s₀.heap.get? b=some o/\X.H₀ b=none
 bsz:X.base.objs.size<=X.s₀.heap.objs.size
 noex:∀ b o,X.base.get? b=some o->b∉X.ex
 exfs:∀ b∈X.ex,b∉X.fs
 funs:X.s₀.heap.FunFrames X.base X.outer
 frf:∀ b∈X.fs,X.H₀ b=none
structure Inv(X:Cx)(pins:List (Addr×Obj))(σ:List (Option V))(H:Hp)(s:Shared):Prop where
 ok:X.Ok
 os:s.os=X.s₀.os
 bare:AllBare s.gens
 base:Un X.fs X.ex X.H₀ H X.s₀.heap s.heap
 loc:∃ m,s.heap.Ns X.env.locals m/\∀(i:Nat) (x:Str) (v:V),X.N[i]?=some x->σ[i]?=some (some v)->Vis X.env.scope x->∃ u,RelV v u/\Look X.env s.heap m x u
 cell:∀ x c,X.env.cells.lookup x=some c->∃ v,s.heap.IsCell c v
 free:H X.env.locals=none
 freeC:∀ x c,X.env.cells.lookup x=some c->H c=none
 pin:∀ p∈X.pn++pins,s.heap.get? p.1=some p.2/\H p.1=none/\p.1≠X.env.locals/\p.1∉X.fs/\∀ v,p.2.data ≠ .cell v
 hok:HOk X.prog X.w H s.heap
 len:σ.length=X.N.length
section
variable{X:Cx}{pins:List (Addr×Obj)}{σ:List (Option V)}{H H':Hp}{s:Shared}{h':Heap}
theorem Cx.Ok.nofr(ok:X.Ok){b:Addr}{o:Obj}(e:X.base.get? b=some o):b∉X.fs:=fun hb=>by
 have:=(ok.funs.mem hb).1;rw[e]at this;cases this
theorem Inv.bs(I:Inv X pins σ H s):∀ b o,X.base.get? b=some o->s.heap.get? b=some o/\H b=none:=fun b o e=>
 ⟨I.base.keep b o (I.ok.bs b o e).1 (I.ok.bs b o e).2 (I.ok.nofr e) (I.ok.noex b o e),I.base.free b o (I.ok.bs b o e).1 (I.ok.bs b o e).2 (I.ok.noex b o e)⟩
theorem Inv.bk(I:Inv X pins σ H s):∀ b o,X.base.get? b=some o->s.heap.get? b=some o:=fun b o e=>(I.bs b o e).1
theorem Inv.mod(I:Inv X pins σ H s):Mod X.K X.mg X.base:=I.ok.mod
theorem Inv.kIn(I:Inv X pins σ H s):X.K.In s.heap:=I.ok.mod.kin.keeps I.bk
theorem Inv.lt(I:Inv X pins σ H s):X.env.locals<s.heap.objs.size:=let ⟨_,hn,_⟩:=I.loc;hn.lt
theorem Inv.sz(I:Inv X pins σ H s):X.s₀.heap.objs.size<=s.heap.objs.size:=Td I.ok.above (Um I.lt)
theorem Inv.nofs(I:Inv X pins σ H s){a:Addr}(h:s.heap.objs.size<=a):a∉X.fs:=fun hb=>by
 obtain⟨_,o,ho,_⟩:=I.ok.funs.mem hb;exact absurd (TV (Sw ho) (Td I.sz h)) (UA _)
theorem Inv.cne(I:Inv X pins σ H s):∀ x c,X.env.cells.lookup x=some c->c≠X.env.locals:=fun x c e z=>by
 obtain⟨v,o,ho,hd⟩:=I.cell x c e;obtain⟨m,⟨o',es,ep,ho',hd',_⟩,_⟩:=I.loc;rw[z,ho']at ho;cases ho;rw[hd']at hd;cases hd
theorem Inv.funs(I:Inv X pins σ H s):s.heap.FunFrames X.base X.outer:=by
 have all:∀(l:List Env),(∀ b∈frs l,b∈X.fs)->X.s₀.heap.FunFrames X.base l->s.heap.FunFrames X.base l:=by
  intro l
  induction l with
  | nil=>intro _ _;trivial
  | cons env r ih=>
    intro hs hl;obtain⟨hk,⟨L,o,hf,hn,ho,hd⟩,hr⟩:=hl;have hL:L∈X.fs:=hs L (by unfold frs;rw[VD,hf];exact TM);obtain⟨sl,e⟩:=I.base.slot L o ho (I.ok.frf L hL) hL fun z=>I.ok.exfs L z hL;exact⟨hk,⟨L,_,hf,hn,e,hd⟩,ih (fun b hb=>hs b (by unfold frs;rw[VD,hf];exact Sz _ hb)) hr⟩
 exact all X.outer (fun _ hb=>hb) I.ok.funs
theorem Inv.stack(I:Inv X pins σ H s):s.heap.FunFrames X.base X.stack:=by
 rcases I.ok.stk with e | ⟨e,hf⟩
 ·rw[e];exact I.funs
 ·rw[e];obtain⟨m,hn,_⟩:=I.loc;refine .cons (by rw[I.ok.kind];decide) hf hn ?_ I.funs;exact Heap.get?_none_of_le (Td I.ok.bsz I.ok.above)
theorem Inv.stkSub(I:Inv X pins σ H s):∀ b∈frs X.stack,b∈X.env.locals::X.fs:=fun b hb=>by
 rcases I.ok.stk with e | ⟨e,hf⟩
 ·rw[e]at hb;exact Sz _ hb
 ·rw[e]at hb;unfold frs at hb;rw[VD,hf]at hb;exact hb
theorem Inv.stkFree(I:Inv X pins σ H s):∀ b∈frs X.stack,H b=none:=fun b hb=>by
 rcases TC.mp (I.stkSub b hb) with e | hb
 ·rw[e];exact I.free
 ·obtain⟨_,o,ho,_⟩:=I.ok.funs.mem hb;exact I.base.free b o ho (I.ok.frf b hb) fun z=>I.ok.exfs b z hb
theorem Inv.step{g':Array GenState}{t':Nat}{d':Drawn}{ch:List Addr}(I:Inv X pins σ H s)
 (hch:∀ b∈ch,(b∈X.ex\/X.s₀.heap.objs.size<=b)/\b≠X.env.locals/\(∀ x c,X.env.cells.lookup x=some c->c≠b)/\∀ p∈X.pn++pins,p.1≠b)
 (keep:∀ b o,b≠X.env.locals->b∉X.fs->b∉ch->s.heap.get? b=some o->H b=none->h'.get? b=some o)
 (slot:∀ b o,b≠X.env.locals->b∈X.fs->b∉ch->s.heap.get? b=some o->H b=none->∃ sl,h'.get? b=some {o with slots:=sl}) (free:∀ b o,b∉ch->s.heap.get? b=some o->H b=none->H' b=none)
 (there:∀ b o,b∉ch->s.heap.get? b=some o->∃ o',h'.get? b=some o')
 (tups:∀ b xs,H b=some (.tup xs)->H' b=some (.tup xs)) (frzs:∀ b o u,H b=some (.frz o (.lst u))->H' b=some (.frz o (.lst u))) (tbls:∀ b ps,H b=some (.tbl ps)->∃ more,H' b=some (.tbl (ps++more)))
 (ns:∀ m,s.heap.Ns X.env.locals m->h'.Ns X.env.locals m) (hok:HOk X.prog X.w H' h') (hg:AllBare g'):
 Inv X pins σ H' {s with heap:=h',gens:=g',drawn:=d',toks:=t'}:=by
 have neL:∀ b o,X.s₀.heap.get? b=some o->b≠X.env.locals:=fun b o e=>TL (TV (Sw e) I.ok.above)
 have neC:∀ b o,X.s₀.heap.get? b=some o->b∉X.ex->b∉ch:=fun b o e hx hb=>by
  rcases(hch b hb).1 with z | z
  ·exact hx z
  ·exact absurd (TV (Sw e) z) (UA _)
 have cellK:∀ x c,X.env.cells.lookup x=some c->∀ v,s.heap.IsCell c v->h'.IsCell c v:=fun x c e v ⟨o,ho,hd⟩=>by
  have nch:c∉ch:=fun z=>(hch c z).2.2.1 x c e rfl;by_cases hc:c∈X.fs
  ·obtain⟨sl,q⟩:=slot c o (I.cne x c e) hc nch ho (I.freeC x c e);exact⟨_,q,hd⟩
  ·exact⟨o,keep c o (I.cne x c e) hc nch ho (I.freeC x c e),hd⟩
 refine⟨I.ok,I.os,hg,⟨fun b o e n hb hx=>?_,fun b o e n hb hx=>?_,fun b o e n hx=>?_,fun b o e hx=>?_,fun b xs e=>tups b xs (I.base.tups b xs e),fun b o xs e=>frzs b o xs (I.base.frzs b o xs e),fun b ps e=>?_⟩,?_,fun x c e=>?_,?_,fun x c e=>?_,fun p hp=>?_,hok,I.len⟩
 ·exact keep b o (neL b o e) hb (neC b o e hx) (I.base.keep b o e n hb hx) (I.base.free b o e n hx)
 ·obtain⟨sl,e1⟩:=I.base.slot b o e n hb hx;obtain⟨sl',e2⟩:=slot b _ (neL b o e) hb (neC b o e hx) e1 (I.base.free b o e n hx);exact⟨sl',e2⟩
 ·obtain⟨o',e1⟩:=I.base.there b o e hx;exact free b o' (neC b o e hx) e1 (I.base.free b o e n hx)
 ·obtain⟨o',e1⟩:=I.base.there b o e hx;exact there b o' (neC b o e hx) e1
 ·obtain⟨m1,e1⟩:=I.base.tbls b ps e;obtain⟨m2,e2⟩:=tbls b _ e1;exact⟨m1++m2,by rw[e2,Array.append_assoc]⟩
 ·obtain⟨m,hn,hl⟩:=I.loc;refine⟨m,ns m hn,fun i x v e1 e2 e3=>?_⟩;obtain⟨u,r,l⟩:=hl i x v e1 e2 e3;refine⟨u,r,?_⟩;rcases l with l | ⟨k,c,e,z⟩
  ·exact .inl l
  ·exact .inr ⟨k,c,e,cellK x c e _ z⟩
 ·obtain⟨v,z⟩:=I.cell x c e;exact⟨v,cellK x c e v z⟩
 ·obtain⟨m,⟨o,_,_,ho,_⟩,_⟩:=I.loc;exact free _ o (fun z=>(hch _ z).2.1 rfl) ho I.free
 ·obtain⟨v,o,ho,hd⟩:=I.cell x c e;exact free c o (fun z=>(hch c z).2.2.1 x c e rfl) ho (I.freeC x c e)
 ·obtain⟨e,n,ne,nf,d⟩:=I.pin p hp;have nch:p.1∉ch:=fun z=>(hch p.1 z).2.2.2 p hp rfl;exact⟨keep p.1 p.2 ne nf nch e n,free p.1 p.2 nch e n,ne,nf,d⟩
theorem Inv.un{t':Nat}(I:Inv X pins σ H s)(u:Un X.fs [] H H' s.heap h')(hok:HOk X.prog X.w H' h'):Inv X pins σ H' {s with heap:=h',toks:=t'}:=by
 obtain⟨m,⟨o,es,ep,ho,r⟩,_⟩:=id I.loc;obtain⟨sl,hL⟩:=u.any ho I.free (by simp)
 exact I.step (g':=s.gens) (d':=s.drawn) (ch:=[]) (fun _ z=>nomatch z) (fun b o _ hb _ e n=>u.keep b o e n hb (by simp)) (fun b o _ hb _ e n=>u.slot b o e n hb (by simp)) (fun b o _ e n=>u.free b o e n (by simp)) (fun b o _ e=>u.there b o e (by simp)) u.tups u.frzs u.tbls (fun m' hm=>by
  obtain⟨o',es',ep',ho',r'⟩:=hm;rw[ho]at ho';cases ho';exact⟨_,es',ep',hL,r'⟩) hok I.bare
theorem Inv.call{g':Array GenState}{t':Nat}{d':Drawn}{ch:List Addr}(I:Inv X pins σ H s)(u:Un (frs X.stack) ch H H' s.heap h')(hok:HOk X.prog X.w H' h')(hg:AllBare g')
 (hch:∀ b∈ch,(b∈X.ex\/X.s₀.heap.objs.size<=b)/\b≠X.env.locals/\(∀ x c,X.env.cells.lookup x=some c->c≠b)/\∀ p∈X.pn++pins,p.1≠b):
 Inv X pins σ H' {s with heap:=h',gens:=g',drawn:=d',toks:=t'}:=by
 obtain⟨m,⟨o,es,ep,ho,r⟩,_⟩:=id I.loc;obtain⟨sl,hL⟩:=u.any ho I.free fun z=>(hch _ z).2.1 rfl
 exact I.step (ch:=ch) hch (fun b o hL hb hc e n=>u.keep b o e n (fun z=>(TC.mp (I.stkSub b z)).elim hL hb) hc) (fun b o _ _ hc e n=>u.any e n hc) (fun b o hc e n=>u.free b o e n hc) (fun b o hc e=>u.there b o e hc) u.tups u.frzs u.tbls (fun m' hm=>by
  obtain⟨o',es',ep',ho',r'⟩:=hm;rw[ho]at ho';cases ho';exact⟨_,es',ep',hL,r'⟩) hok hg
theorem Inv.turned{t':Nat}{it:Addr}(I:Inv X pins σ H s)(k:∀ b o,b≠it->s.heap.get? b=some o->h'.get? b=some o)(hn:H it=none)(hL:it≠X.env.locals)
 (h1:it∈X.ex\/X.s₀.heap.objs.size<=it) (h2:∀ x c,X.env.cells.lookup x=some c->c≠it) (h3:∀ p∈X.pn++pins,p.1≠it):Inv X pins σ H {s with heap:=h',toks:=t'}:=by
 have nit:∀ b u,H b=some u->b≠it:=fun b u e z=>by rw[z,hn]at e;cases e
 refine I.step (g':=s.gens) (d':=s.drawn) (ch:=[it]) (fun b hb=>?_) (fun b o _ _ hc e _=>k b o (fun z=>hc (by simp[z])) e) (fun b o _ _ hc e _=>⟨o.slots,k b o (fun z=>hc (by simp[z])) e⟩) (fun _ _ _ _ n=>n)
  (fun b o hc e=>⟨o,k b o (fun z=>hc (by simp[z])) e⟩) (fun _ _ e=>e) (fun _ _ _ e=>e) (fun b ps e=>⟨#[],by rw[e];simp⟩) (fun m hm=>?_) (fun b u e=>?_) I.bare
 ·have e:b=it:=by simpa using hb
  subst e;exact⟨h1,hL,h2,h3⟩
 ·obtain⟨o,es,ep,ho,r⟩:=hm;exact⟨o,es,ep,k _ o (Ne.symm hL) ho,r⟩
 ·refine(I.hok b u e).stay (fun c v hc q=>k c v ?_ q) (fun _ q=>q) fun _ _ q=>q;rcases hc with z | z
  ·rw[z];exact nit b u e
  ·exact nit c _ z
theorem Inv.tok(I:Inv X pins σ H s)(t:Nat):Inv X pins σ H {s with toks:=t}:=I.un (h':=s.heap) (t':=t) Un.refl I.hok
theorem Inv.kept{t':Nat}(I:Inv X pins σ H s)(k:∀ b u,s.heap.get? b=some u->h'.get? b=some u):Inv X pins σ H {s with heap:=h',toks:=t'}:=I.un (Un.kept k) (I.hok.kept k)
theorem Inv.laid{a:Addr}{o:HO}{t':Nat}(I:Inv X pins σ H s)(k:∀ b u,s.heap.get? b=some u->h'.get? b=some u)(hp:s.heap.objs.size<=a)(new:ObjOk X.prog X.w (upd H a o) h' a o):
 Inv X pins σ (upd H a o) {s with heap:=h',toks:=t'}:=I.un (Un.laid k hp (I.hok.fresh hp)) (I.hok.laid k hp new)
theorem Inv.write{x e:Addr}{o:HO}{t':Nat}(I:Inv X pins σ H s)(mu:Mut (H x))(he:e=x\/H e=some (.own x))(k:∀ b u,b≠e->s.heap.get? b=some u->h'.get? b=some u)(heo:∃ u,h'.get? e=some u)
 (new:ObjOk X.prog X.w (upd H x o) h' x o):Inv X pins σ (upd H x o) {s with heap:=h',toks:=t'}:=I.un (Un.write mu he k heo) (I.hok.write mu he k heo new)
theorem Inv.weak{σ':List (Option V)}(I:Inv X pins σ H s)(hl:σ'.length=σ.length)(w:∀(i:Nat) v,σ'[i]?=some (some v)->σ[i]?=some (some v)):Inv X pins σ' H s:=
 ⟨I.ok,I.os,I.bare,I.base,let ⟨m,hn,hl'⟩:=I.loc;⟨m,hn,fun i x v e1 e2 e3=>hl' i x v e1 (w i v e2) e3⟩,I.cell,I.free,I.freeC,I.pin,I.hok,hl.trans I.len⟩
theorem Inv.pins_of{pins':List (Addr×Obj)}(I:Inv X pins σ H s)(h:∀ p∈pins',s.heap.get? p.1=some p.2/\H p.1=none/\p.1≠X.env.locals/\p.1∉X.fs/\∀ v,p.2.data ≠ .cell v):Inv X pins' σ H s:=
 ⟨I.ok,I.os,I.bare,I.base,I.loc,I.cell,I.free,I.freeC,fun p hp=>(TQ.mp hp).elim (fun z=>I.pin p (US _ z)) (h p),I.hok,I.len⟩
theorem En{N:List Str}(hN:N.Nodup){i j:Nat}{x:Str}(a:N[i]?=some x)(b:N[j]?=some x):i=j:=by
 obtain⟨h1,e1⟩:=gM a;obtain⟨h2,e2⟩:=gM b;exact(List.getElem_inj hN).mp (e1.trans e2.symm)
theorem CO{M:Model}{A:Around}{E:Value->Shared->Prop}{i:Nat}{x:Str}{v:V}{u:Value}{Q:Unit->Shared->Prop}(I:Inv X pins σ H s)(hN:X.N.Nodup)(hi:X.N[i]?=some x)(hx:Loc X.env.scope x)(r:RelV v u)
 (h:∀ s',Inv X pins (σ.set i (some v)) H s'->(∃ a,Tn a s.heap s'.heap/\(a=X.env.locals\/X.env.cells.lookup x=some a))->Q () s') (hf:X.fn x=true\/X.env.scope.names.lookup x=some .local:=by first | exact .inl rfl | exact .inr rfl | assumption):wpAny M A (storeName X.env x u) Q E s:=by
 obtain⟨m,hn,hl⟩:=id I.loc;have hcls:(X.env.scope.kind == .class||(X.env.scope.kind == .module&&X.env.locals != X.env.globals))=false:=by rw[I.ok.kind];rfl
 have hiσ:i<σ.length:=by rw[I.len];exact(gM hi).1
 have cne:=I.cne
 have tracked:∀{a:Addr} {h':Heap},(∃ o,s.heap.get? a=some o/\H a=none)->Tn a s.heap h'->HOk X.prog X.w H h':=fun{a h'} ha hs b ob e=>by
  obtain⟨_,_,hfree⟩:=ha;refine(I.hok b ob e).stay (fun c w' hc q=>(hs.2 c ?_).trans q) (fun _ q=>q) fun _ _ q=>q;rintro rfl;rcases hc with rfl | hc
  ·rw[hfree]at e;cases e
  ·rw[hfree]at hc;cases hc
 rcases hx with hk | hk
 ·refine wpAny_storeName_local hk hn (fun h' hn' hs=>?_) hcls;obtain⟨oL,_,_,hoL,_⟩:=id hn;refine h _ ⟨I.ok,I.os,I.bare,⟨fun b o e n hb hx=>?_,fun b o e n hb hx=>?_,I.base.free,fun b o e hx=>?_,I.base.tups,I.base.frzs,I.base.tbls⟩,⟨_,hn',fun j y v' e1 e2 e3=>?_⟩,fun y c e=>?_,I.free,I.freeC,fun p hp=>?_,tracked ⟨oL,hoL,I.free⟩ hs,by simpa using I.len⟩ ⟨_,hs,.inl rfl⟩
  ·exact(hs.2 b (TL (TV (Sw e) I.ok.above))).trans (I.base.keep b o e n hb hx)
  ·obtain⟨sl,e1⟩:=I.base.slot b o e n hb hx;exact⟨sl,(hs.2 b (TL (TV (Sw e) I.ok.above))).trans e1⟩
  ·obtain⟨o',e1⟩:=I.base.there b o e hx;exact⟨o',(hs.2 b (TL (TV (Sw e) I.ok.above))).trans e1⟩
  ·by_cases hj:j=i
   ·subst hj;rw[hi]at e1;cases e1;rw[TN hiσ]at e2;cases e2;exact⟨u,r,.inl ⟨hk,by simp⟩⟩
   ·rw[Th (Ne.symm hj)]at e2;obtain⟨u',r',q⟩:=hl j y v' e1 e2 e3;refine⟨u',r',?_⟩;rcases q with⟨k,e⟩ | ⟨k,c,e,z⟩
    ·refine .inl ⟨k,?_⟩;have:y≠x:=fun e=>hj (En hN e1 (e▸hi));simp[this,e]
    ·exact .inr ⟨k,c,e,z.sameBut hs (cne y c e)⟩
  ·obtain⟨w',z⟩:=I.cell y c e;exact⟨w',z.sameBut hs (cne y c e)⟩
  ·obtain⟨e,n,ne,nf,d⟩:=I.pin p hp;exact⟨(hs.2 p.1 ne).trans e,n,ne,nf,d⟩
 ·have hfn:X.fn x=true:=by
   rcases hf with z | z
   ·exact z
   ·rw[z]at hk;cases hk
  obtain⟨c,hc⟩:=I.ok.has x (.inl hk);obtain⟨w',z⟩:=I.cell x c hc;refine wpAny_storeName_cell I.ok.kind hk hc z (fun h' hc' hs=>?_);obtain⟨oc,hoc,hocd⟩:=id z;refine h {s with heap:=h'} ⟨I.ok,I.os,I.bare,⟨fun b o e n hb hx=>?_,fun b o e n hb hx=>?_,I.base.free,fun b o e hx=>?_,I.base.tups,I.base.frzs,I.base.tbls⟩,⟨m,hn.sameBut hs (Ne.symm (cne x c hc)),fun j y v' e1 e2 e3=>?_⟩,fun y c' e=>?_,I.free,I.freeC,fun p hp=>?_,tracked ⟨oc,hoc,I.freeC x c hc⟩ hs,by simpa using I.len⟩ ⟨c,hs,.inr hc⟩
  ·exact(hs.2 b (TL (TV (Sw e) (I.ok.cab x c hfn hc)))).trans (I.base.keep b o e n hb hx)
  ·obtain⟨sl,e1⟩:=I.base.slot b o e n hb hx;exact⟨sl,(hs.2 b (TL (TV (Sw e) (I.ok.cab x c hfn hc)))).trans e1⟩
  ·obtain⟨o',e1⟩:=I.base.there b o e hx;exact⟨o',(hs.2 b (TL (TV (Sw e) (I.ok.cab x c hfn hc)))).trans e1⟩
  ·by_cases hj:j=i
   ·subst hj;rw[hi]at e1;cases e1;rw[TN hiσ]at e2;cases e2;exact⟨u,r,.inr ⟨.inl hk,c,hc,hc'⟩⟩
   ·rw[Th (Ne.symm hj)]at e2;obtain⟨u',r',q⟩:=hl j y v' e1 e2 e3;refine⟨u',r',?_⟩;rcases q with q | ⟨k,c',e,z'⟩
    ·exact .inl q
    ·refine .inr ⟨k,c',e,z'.sameBut hs ?_⟩;rintro rfl;exact hj (En hN e1 (I.ok.inj _ _ _ e hc▸hi))
  ·by_cases hcc:c'=c
   ·subst hcc;exact⟨_,hc'⟩
   ·obtain⟨w2,z2⟩:=I.cell y c' e;exact⟨w2,z2.sameBut hs hcc⟩
  ·obtain⟨e,n,ne,nf,d⟩:=I.pin p hp;refine⟨(hs.2 p.1 ?_).trans e,n,ne,nf,d⟩;intro q;rw[q,hoc]at e;have q':oc=p.2:=oj e;exact d w' (by rw[<-q'];exact hocd)
theorem Ep{M:Model}{A:Around}{E:Value->Shared->Prop}{i:Nat}{x:Str}{v:V}{u:Value}{Q:Unit->Shared->Prop}(I:Inv X pins σ H s)(hN:X.N.Nodup)(hi:X.N[i]?=some x)(hx:Loc X.env.scope x)(r:RelV v u)
 (h:∀ s',Inv X pins (σ.set i (some v)) H s'->Q () s') (hf:X.fn x=true\/X.env.scope.names.lookup x=some .local:=by first | exact .inl rfl | exact .inr rfl | assumption):wpAny M A (storeName X.env x u) Q E s:=
 CO I hN hi hx r (fun s' I' _=>h s' I') hf
theorem Inv.call'{s':Shared}{ch:List Addr}(I:Inv X pins σ H s)(ho:s'.os=s.os)(u:Un (frs X.stack) ch H H' s.heap s'.heap)(hok:HOk X.prog X.w H' s'.heap)(hg:AllBare s'.gens)
 (hch:∀ b∈ch,(b∈X.ex\/X.s₀.heap.objs.size<=b)/\b≠X.env.locals/\(∀ x c,X.env.cells.lookup x=some c->c≠b)/\∀ p∈X.pn++pins,p.1≠b):Inv X pins σ H' s':=by
 obtain⟨h',g',d',t',o'⟩:=s';have e:o'=s.os:=ho;subst e;exact I.call (g':=g') (t':=t') (d':=d') u hok hg hch
end
noncomputable abbrev XK:=Value->Option Addr->Hp->Prop
noncomputable abbrev St:=List (Option V)
noncomputable abbrev VK:=V->Hp->Prop
noncomputable abbrev TE:=St->Hp->VK->Prop
noncomputable abbrev TT:=St->Hp->(Bool->Hp->Prop)->Prop
noncomputable abbrev TA:=St->Hp->(List V->Hp->Prop)->Prop
structure Ends where
 nx:St->Hp->Prop
 rt:VK
 bk:St->Hp->Prop:=fun _ _=>False
 ct:St->Hp->Prop:=fun _ _=>False
noncomputable abbrev TS:=Ends->St->Hp->Prop
noncomputable def EP(X:Cx)(pins:List (Addr×Obj))(σ:St)(Q:VK)(u:Value)(s':Shared):Prop:=∃ v H',Inv X pins σ H' s'/\RelV v u/\Q v H'
noncomputable def TP(X:Cx)(pins:List (Addr×Obj))(σ:St)(Q:Bool->Hp->Prop)(b:Bool)(s':Shared):Prop:=∃ H',Inv X pins σ H' s'/\Q b H'
noncomputable def AP(X:Cx)(pins:List (Addr×Obj))(σ:St)(Q:List V->Hp->Prop)(us:List Value)(s':Shared):Prop:=∃ vs H',Inv X pins σ H' s'/\Vals vs us/\Q vs H'
noncomputable def SP(X:Cx)(pins:List (Addr×Obj))(D:Ends)(f:Flow)(s':Shared):Prop:=
 match f with
 | .next=>∃ σ' H',Inv X pins σ' H' s'/\D.nx σ' H'
 | .brk=>∃ σ' H',Inv X pins σ' H' s'/\D.bk σ' H'
 | .cont=>∃ σ' H',Inv X pins σ' H' s'/\D.ct σ' H'
 | .ret u=>∃ v σ' H',Inv X pins σ' H' s'/\RelV v u/\D.rt v H'
noncomputable def PE(X:Cx)(e:Expr)(t:TE):Prop:=
 ∀(pins:List (Addr×Obj)) (s:Shared) (σ:St) (H:Hp) (Q:VK),Inv X pins σ H s->t σ H Q->wpAny (model X.prog X.w) X.A (eval e X.env) (EP X pins σ Q) X.xe s
noncomputable def PT(X:Cx)(e:Expr)(t:TT):Prop:=
 ∀(pins:List (Addr×Obj)) (s:Shared) (σ:St) (H:Hp) (Q:Bool->Hp->Prop),Inv X pins σ H s->t σ H Q->wpAny (model X.prog X.w) X.A (isTrue e X.env (eval e X.env)) (TP X pins σ Q) X.xe s
noncomputable def PW(X:Cx)(e:Expr)(t:TT):Prop:=
 ∀(whole:Sem Value) (pins:List (Addr×Obj)) (s:Shared) (σ:St) (H:Hp) (Q:Bool->Hp->Prop),Inv X pins σ H s->t σ H Q->wpAny (model X.prog X.w) X.A (isTrue e X.env whole) (TP X pins σ Q) X.xe s
theorem PW.pt{X:Cx}{e:Expr}{t:TT}(h:PW X e t):PT X e t:=h _
noncomputable def PA(X:Cx)(es:List Expr)(t:TA):Prop:=
 ∀(pos:Pos) (pins:List (Addr×Obj)) (s:Shared) (σ:St) (H:Hp) (Q:List V->Hp->Prop),Inv X pins σ H s->t σ H Q->wpAny (model X.prog X.w) X.A (spliced (backTo pos (starEach es X.env))) (AP X pins σ Q) X.xe s
noncomputable def PS(X:Cx)(st:Stmt)(t:TS):Prop:=
 ∀(pins:List (Addr×Obj)) (s:Shared) (σ:St) (H:Hp) (D:Ends),Inv X pins σ H s->t D σ H->wpAny (model X.prog X.w) X.A (exec st X.env) (SP X pins D) X.xe s
noncomputable def PSs(X:Cx)(st:List Stmt)(t:TS):Prop:=
 ∀(pins:List (Addr×Obj)) (s:Shared) (σ:St) (H:Hp) (D:Ends),Inv X pins σ H s->t D σ H->wpAny (model X.prog X.w) X.A (execs st X.env) (SP X pins D) X.xe s
theorem thn{α:Type}{t:Sem α}{Q Q':α->Shared->Prop}{M:Model}{A:Around}{E:Value->Shared->Prop}{s:Shared}(h:wpAny M A t Q E s)(hQ:∀ a s,Q a s->Q' a s):wpAny M A t Q' E s:=wpAny_mono h hQ fun _ _ x=>x
open PySem PySem.Spec PyProof.Rows
section
variable{X:Cx}
noncomputable def MQ(i:Nat):TE:=fun σ H Q=>∃ v,σ[i]?=some (some v)/\Q v H
noncomputable def tC(v:V):TE:=fun _ H Q=>Q v H
theorem Os{i:Nat}{x:Str}{pos:Pos}(hN:X.N[i]?=some x)(hv:Vis X.env.scope x)(hd:(x == ("__debug__":Str))=false:=by decide)(hcd:(x == ("__classdict__":Str))=false:=by decide):PE X (.Name x pos) (MQ i):=by
 intro pins s σ H Q I h;obtain⟨v,e,h⟩:=h;obtain⟨m,hn,hl⟩:=I.loc;obtain⟨u,r,l⟩:=hl i x v hN e hv;have fin:EP X pins σ Q u s:=⟨v,H,I,r,h⟩
 rcases l with⟨hk,hm⟩ | ⟨hk,c,hc,hcell⟩
 ·exact wpAny_Name (wpAny_loadName_local I.ok.kind hk hn hm fin) hd
 ·rcases hk with hk | hk
  ·exact wpAny_Name (wpAny_loadName_cell I.ok.kind hk hc hcell fin) hd
  ·exact wpAny_Name (wpAny_loadName_free I.ok.kind hk hc hcell fin hcd) hd
theorem GB{i j pos}:PE X (.Constant (.int i) j pos) (tC (.int i)):=fun _ _ _ H _ I h=>wpAny_Constant_int ⟨.int i,H,I.tok _,⟨_,rfl⟩,h⟩
theorem Qa{b j pos}:PE X (.Constant (.bool b) j pos) (tC (.bl b)):=fun _ _ _ H _ I h=>Constant_bool ⟨.bl b,H,I,rfl,h⟩
theorem Ot{j pos}:PE X (.Constant .none j pos) (tC .non):=fun _ _ _ H _ I h=>Constant_none ⟨.non,H,I,rfl,h⟩
theorem Ou{x j pos}:PE X (.Constant (.str x) j pos) (tC (.str x)):=fun _ _ _ H _ I h=>Calls.Constant_str ⟨.str x,H,I.tok _,⟨_,rfl⟩,h⟩
noncomputable def Gl(X:Cx)(x:Str):Prop:=X.env.kindOf x=some .globalImplicit
theorem MR{E:Value->Shared->Prop}{pins:List (Addr×Obj)}{s:Shared}{σ:St}{H:Hp}{x:Str}{u:Value}{pos:Pos}{Q:Value->Shared->Prop}(I:Inv X pins σ H s)(hg:Gl X x)(hm:X.mg x=some u)(h:Q u s)
 (hd:(x == ("__debug__":Str))=false:=by decide):wpAny (model X.prog X.w) X.A (eval (.Name x pos) X.env) Q E s:=
 Calls.Name_function_global I.ok.kind hg (Calls.loadGlobal_global (by rw[I.ok.glob];exact I.mod.glob.keeps I.bk) hm h) hd
theorem BE{E:Value->Shared->Prop}{pins:List (Addr×Obj)}{s:Shared}{σ:St}{H:Hp}{x:Str}{u:Value}{pos:Pos}{Q:Value->Shared->Prop}(I:Inv X pins σ H s)(hg:Gl X x)(hm:X.mg x=none)(hv:bootBuiltins x=some u)(h:Q u s)
 (hn:x≠"__name__":=by decide) (hd:(x == ("__debug__":Str))=false:=by decide):wpAny (model X.prog X.w) X.A (eval (.Name x pos) X.env) Q E s:=by
 obtain⟨mb,h1,h2⟩:=I.mod.blt;exact Calls.Name_function_global I.ok.kind hg (Calls.loadGlobal_builtin (by rw[I.ok.glob];exact I.mod.glob.keeps I.bk) hm (by rw[I.ok.blt];exact h1.keeps I.bk) ((h2 x hn).trans hv) h) hd
theorem MS{x:Str}{v:V}{u:Value}{pos:Pos}(hg:Gl X x)(hm:X.mg x=none)(hv:bootBuiltins x=some u)(r:RelV v u)(hn:x≠"__name__":=by decide)(hd:(x == ("__debug__":Str))=false:=by decide):PE X (.Name x pos) (tC v):=
 fun _ _ _ H _ I h=>BE I hg hm hv ⟨v,H,I,r,h⟩ hn hd
variable{a b:Expr}{ta tb:TE}{pos:Pos}
variable{tA tB':TT}{rest:List Expr}
noncomputable def Qb(t u:TT):TT:=fun σ H Q=>t σ H fun c H1=>if c=true then u σ H1 Q else Q false H1
noncomputable def tOr(t u:TT):TT:=fun σ H Q=>t σ H fun c H1=>if c=true then Q true H1 else u σ H1 Q
noncomputable def Qc(t:TT):TT:=fun σ H Q=>t σ H fun c H1=>Q (!c) H1
theorem MU(ha:PT X a tA):PW X (.BoolOp .And [a] pos) tA:=by
 intro wh pins s σ H Q I h;refine isTrue_and (thn (ha pins s σ H Q I h) fun c s1 e=>?_);cases c with
 | true=>exact isTrue_and_nil e
 | false=>exact e
theorem Ov(ha:PT X a tA):PW X (.BoolOp .Or [a] pos) tA:=by
 intro wh pins s σ H Q I h;refine isTrue_or (thn (ha pins s σ H Q I h) fun c s1 e=>?_);cases c with
 | false=>exact isTrue_or_nil e
 | true=>exact e
theorem Jt(ha:PT X a tA)(hb:PW X (.BoolOp .And (b::rest) pos) tB'):PW X (.BoolOp .And (a::b::rest) pos) (Qb tA tB'):=by
 intro wh pins s σ H Q I h;refine isTrue_and (thn (ha pins s σ H _ I h) fun c s1 ⟨H1,I1,q1⟩=>?_);cases c with
 | true=>exact hb wh pins s1 σ H1 Q I1 q1
 | false=>exact⟨H1,I1,q1⟩
theorem OC(ha:PT X a tA)(hb:PW X (.BoolOp .Or (b::rest) pos) tB'):PW X (.BoolOp .Or (a::b::rest) pos) (tOr tA tB'):=by
 intro wh pins s σ H Q I h;refine isTrue_or (thn (ha pins s σ H _ I h) fun c s1 ⟨H1,I1,q1⟩=>?_);cases c with
 | true=>exact⟨H1,I1,q1⟩
 | false=>exact hb wh pins s1 σ H1 Q I1 q1
theorem Ow(ha:PT X a tA):PT X (.UnaryOp .Not a pos) (Qc tA):=by
 intro pins s σ H Q I h;exact isTrue_not (ha pins s σ H (fun c H1=>Q (!c) H1) I h)
noncomputable def OD(ta tb:TE):TE:=fun σ H Q=>ta σ H fun x H1=>∃ c,x = .bl c/\if c=true then tb σ H1 Q else Q (.bl false) H1
noncomputable def Qd(ta tb:TE):TE:=fun σ H Q=>ta σ H fun x H1=>∃ c,x = .bl c/\if c=true then Q (.bl true) H1 else tb σ H1 Q
noncomputable def OE(ta:TE):TE:=fun σ H Q=>ta σ H fun x H1=>∃ c,x = .bl c/\Q (.bl (!c)) H1
theorem Ju{op}{t:TE}(h:PE X a t):PE X (.BoolOp op [a] pos) t:=fun pins s σ H Q I hw=>BoolOp_one (h pins s σ H Q I hw)
theorem Jv(ha:PE X a ta)(hb:PE X (.BoolOp .And (b::rest) pos) tb):PE X (.BoolOp .And (a::b::rest) pos) (OD ta tb):=by
 intro pins s σ H Q I h;refine BoolOp_and (thn (ha pins s σ H _ I h) fun v s1 ⟨x,H1,I1,r1,q1⟩=>?_);obtain⟨c,rfl,q1⟩:=q1;cases r1;refine wpAny_truthy_bool ?_;cases c with
 | true=>exact hb pins s1 σ H1 Q I1 q1
 | false=>exact⟨.bl false,H1,I1,rfl,q1⟩
theorem OF(ha:PE X a ta)(hb:PE X (.BoolOp .Or (b::rest) pos) tb):PE X (.BoolOp .Or (a::b::rest) pos) (Qd ta tb):=by
 intro pins s σ H Q I h;refine BoolOp_or (thn (ha pins s σ H _ I h) fun v s1 ⟨x,H1,I1,r1,q1⟩=>?_);obtain⟨c,rfl,q1⟩:=q1;cases r1;refine wpAny_truthy_bool ?_;cases c with
 | false=>exact hb pins s1 σ H1 Q I1 q1
 | true=>exact⟨.bl true,H1,I1,rfl,q1⟩
theorem Ox(ha:PE X a ta):PE X (.UnaryOp .Not a pos) (OE ta):=by
 intro pins s σ H Q I h;refine UnaryOp_ (thn (ha pins s σ H _ I h) fun v s1 ⟨x,H1,I1,r1,q1⟩=>?_);obtain⟨c,rfl,q1⟩:=q1;cases r1;exact not_of (wpAny_truthy_bool ⟨.bl (!c),H1,I1,rfl,q1⟩)
end
open PySem PySem.Spec PyProof.Rows
noncomputable def SqL(K:Sh)(H:Hp)(a:Addr)(xs:List V):Prop:=
 Rd H a (.lst xs)\/
  ∃(o:Obj) (its:Array Value) (n:Nat),K.lookup a=some o/\o.cls = .type "list"/\o.dict=none/\o.data = .seq its n/\its.size<=sizeLine/\Vals xs its.toList
noncomputable def SqT(K:Sh)(H:Hp)(a:Addr)(xs:List V):Prop:=
 Rd H a (.tup xs)\/
  ∃(o:Obj) (its:Array Value) (n:Nat),K.lookup a=some o/\o.cls = .type "tuple"/\o.data = .seq its n/\its.size<=sizeLine/\Vals xs its.toList
noncomputable def SG:Value->Option V
 | .none=>some .non
 | .bool b=>some (.bl b)
 | .int i _=>some (.int i)
 | .str x _=>some (.str x)
 | .bytes b _=>some (.byt b)
 | .float b _=>some (.flt b)
 | .ref a=>some (.ref a)
 | .type n=>some (.ty n)
 | _=>none
theorem RelV.abs{x:V}{u:Value}(r:RelV x u):SG u=some x:=by
 cases x with
 | non=>cases r;rfl
 | bl _=>cases r;rfl
 | int _=>obtain⟨t,rfl⟩:=r;rfl
 | str _=>obtain⟨t,rfl⟩:=r;rfl
 | byt _=>obtain⟨t,rfl⟩:=r;rfl
 | flt _=>obtain⟨t,rfl⟩:=r;rfl
 | ref _=>cases r;rfl
 | ty _=>cases r;rfl
theorem RelV.inj{x y:V}{u:Value}(r:RelV x u)(q:RelV y u):x=y:=oj (r.abs.symm.trans q.abs)
theorem Vals.inj:∀{xs ys:List V} {us:List Value},Vals xs us->Vals ys us->xs=ys
 | _,_,_,.nil,.nil=>rfl
 | _,_,_,.cons r t,.cons r' t'=>by rw[r.inj r',Vals.inj t t']
section
variable{X:Cx}{pins:List (Addr×Obj)}{σ:St}{H:Hp}{s:Shared}{a:Addr}{xs ys:List V}
theorem SqL.of{K:Sh}(h:H a=some (.lst xs)):SqL K H a xs := .inl (.inl h)
theorem SqT.of{K:Sh}(h:H a=some (.tup xs)):SqT K H a xs := .inl (.inl h)
theorem Inv.list(I:Inv X pins σ H s)(h:SqL X.K H a xs):∃ its:List Value,Vals xs its/\PlainL s.heap a its.toArray/\xs.length<=sizeLine:=by
 rcases h with h | ⟨o,its,n,hk,hc,hd,hs,hz,r⟩
 ·obtain⟨z,its,n,r,e⟩:=h.ok I.hok;exact⟨its,r,⟨_,n,e,rfl,rfl,rfl⟩,z⟩
 ·refine⟨its.toList,r,⟨o,n,I.kIn a o hk,hc,hd,by simpa using hs⟩,?_⟩;have e:=r.length;simp only[Sv]at e;omega
theorem Inv.tuple(I:Inv X pins σ H s)(h:SqT X.K H a xs):∃ its:List Value,Vals xs its/\IsTup s.heap a its.toArray/\xs.length<=sizeLine:=by
 rcases h with h | ⟨o,its,n,hk,hc,hs,hz,r⟩
 ·obtain⟨z,its,r,p⟩:=h.ok I.hok;exact⟨its,r,p,z⟩
 ·refine⟨its.toList,r,⟨o,I.kIn a o hk,hc,n,by simpa using hs⟩,?_⟩;have e:=r.length;simp only[Sv]at e;omega
theorem Inv.list_inj(I:Inv X pins σ H s)(h:SqL X.K H a xs)(h':SqL X.K H a ys):xs=ys:=by
 obtain⟨its,r,⟨o,n,e,_,_,d⟩,_⟩:=I.list h;obtain⟨its',r',⟨o',n',e',_,_,d'⟩,_⟩:=I.list h';rw[e]at e';cases e';rw[d]at d';injection d' with d1 _;have:its=its':=by simpa using congrArg WZ d1
 subst this;exact r.inj r'
theorem Inv.tuple_inj(I:Inv X pins σ H s)(h:SqT X.K H a xs)(h':SqT X.K H a ys):xs=ys:=by
 obtain⟨its,r,⟨o,e,_,n,d⟩,_⟩:=I.tuple h;obtain⟨its',r',⟨o',e',_,n',d'⟩,_⟩:=I.tuple h';rw[e]at e';cases e';rw[d]at d';injection d' with d1 _;have:its=its':=by simpa using congrArg WZ d1
 subst this;exact r.inj r'
end
noncomputable abbrev Cx.wish(X:Cx)(E:Value->Shared->Prop):Cx:={X with xe:=E}
noncomputable abbrev Cx.nox(X:Cx):Cx:=X.wish fun _ _=>False
theorem Cx.Ok.wish{X:Cx}(ok:X.Ok)(E:Value->Shared->Prop):(X.wish E).Ok:=
 ⟨ok.mod,ok.kind,ok.glob,ok.blt,ok.above,ok.inj,ok.has,ok.cab,ok.hd,ok.frames,ok.stk,ok.exf,ok.bs,ok.bsz,ok.noex,ok.exfs,ok.funs,ok.frf⟩
theorem Cx.Ok.unwish{X:Cx}{E:Value->Shared->Prop}(ok:(X.wish E).Ok):X.Ok:=
 ⟨ok.mod,ok.kind,ok.glob,ok.blt,ok.above,ok.inj,ok.has,ok.cab,ok.hd,ok.frames,ok.stk,ok.exf,ok.bs,ok.bsz,ok.noex,ok.exfs,ok.funs,ok.frf⟩
section
variable{X:Cx}{pins:List (Addr×Obj)}{σ:St}{H:Hp}{s:Shared}{E:Value->Shared->Prop}
theorem Inv.wish(I:Inv X pins σ H s)(E:Value->Shared->Prop):Inv (X.wish E) pins σ H s:=⟨I.ok.wish E,I.os,I.bare,I.base,I.loc,I.cell,I.free,I.freeC,I.pin,I.hok,I.len⟩
theorem Inv.unwish(I:Inv (X.wish E) pins σ H s):Inv X pins σ H s:=⟨I.ok.unwish,I.os,I.bare,I.base,I.loc,I.cell,I.free,I.freeC,I.pin,I.hok,I.len⟩
theorem SP.unwish{D:Ends}{f:Flow}{s':Shared}(h:SP (X.wish E) pins D f s'):SP X pins D f s':=by
 cases f with
 | next=>obtain⟨σ',H',I,q⟩:=h;exact⟨σ',H',I.unwish,q⟩
 | brk=>obtain⟨σ',H',I,q⟩:=h;exact⟨σ',H',I.unwish,q⟩
 | cont=>obtain⟨σ',H',I,q⟩:=h;exact⟨σ',H',I.unwish,q⟩
 | ret u=>obtain⟨v,σ',H',I,r,q⟩:=h;exact⟨v,σ',H',I.unwish,r,q⟩
theorem PSs.nox{st:List Stmt}{t:TS}(h:PSs X.nox st t):PSs X st t:=fun pins s σ H D I hw=>
 wpAny_mono (h pins s σ H D (I.wish _) hw) (fun _ _ q=>q.unwish) fun _ _ z=>False.elim z
end
section
variable{X:Cx}{st:Stmt}{rest:List Stmt}{t u:TS}{e:Expr}{te:TE}{pos:Pos}
noncomputable def Qf:TS:=fun D σ H=>D.nx σ H
noncomputable def SH(t u:TS):TS:=fun D σ H=>t {D with nx:=u D} σ H
theorem MV:PSs X [] Qf:=fun _ _ σ H _ I h=>wpAny_execs_nil ⟨σ,H,I,h⟩
theorem Jw(h1:PS X st t)(h2:PSs X rest u):PSs X (st::rest) (SH t u):=by
 intro pins s σ H D I h;refine wpAny_execs_cons (thn (h1 pins s σ H {D with nx:=u D} I h) fun f s1 q=>?_);cases f with
 | next=>
   obtain⟨σ',H',I',q⟩:=q;exact h2 pins s1 σ' H' D I' q
 | ret v=>exact q
 | brk=>exact q
 | cont=>exact q
theorem Inv.quiet{pins:List (Addr×Obj)}{σ:St}{H:Hp}{s:Shared}(I:Inv X pins σ H s):interactive X.env=false:=by simp[interactive,I.ok.kind]
noncomputable def Qg(te:TE):TS:=fun D σ H=>te σ H fun _ H1=>D.nx σ H1
theorem MW(he:PE X e te)(hs:swapsWith e none pos.line X.env=pure false:=by rfl):PS X (.Expr e pos) (Qg te):=by
 intro pins s σ H D I h;exact wpAny_Expr_any (thn (he pins s σ H _ I h) fun v s1 ⟨x,H1,I1,r1,q1⟩=>⟨σ,H1,I1,q1⟩) I.quiet hs
noncomputable def SJ(te:TE):TS:=fun D σ H=>te σ H D.rt
theorem Oy(he:PE X e te):PS X (.Return (some e) pos) (SJ te):=by
 intro pins s σ H D I h;exact wpAny_Return_some (thn (he pins s σ H _ I h) fun v s1 ⟨x,H1,I1,r1,q1⟩=>⟨x,σ,H1,I1,r1,q1⟩)
noncomputable def Qh(c:TT)(t u:TS):TS:=fun D σ H=>c σ H fun b H1=>if b=true then t D σ H1 else u D σ H1
theorem Qi{c:Expr}{a b:List Stmt}{tc:TT}(hc:PT X c tc)(ha:PSs X a t)(hb:PSs X b u):PS X (.If c a b pos) (Qh tc t u):=by
 intro pins s σ H D I h;refine wpAny_If (thn (hc pins s σ H _ I h) fun d s1 ⟨H1,I1,q1⟩=>?_);cases d with
 | true=>exact ha pins s1 σ H1 D I1 q1
 | false=>exact hb pins s1 σ H1 D I1 q1
end
noncomputable abbrev TG:=V->St->Hp->(St->Hp->Prop)->Prop
noncomputable abbrev TGs:=List V->St->Hp->(St->Hp->Prop)->Prop
noncomputable def PG(X:Cx)(target:Expr)(t:TG):Prop:=
 ∀(pins:List (Addr×Obj)) (s:Shared) (σ:St) (H:Hp) (v:V) (u:Value) (Q:St->Hp->Prop),Inv X pins σ H s->RelV v u->t v σ H Q->
  wpAny (model X.prog X.w) X.A (assign target X.env u) (fun _ s'=>∃ σ' H',Inv X pins σ' H' s'/\Q σ' H') X.xe s
noncomputable def PGs(X:Cx)(ts:List Expr)(t:TGs):Prop:=
 ∀(pins:List (Addr×Obj)) (s:Shared) (σ:St) (H:Hp) (vs:List V) (us:List Value) (Q:St->Hp->Prop),Inv X pins σ H s->Vals vs us->t vs σ H Q->
  wpAny (model X.prog X.w) X.A (assignInOrder ((assignEach ts X.env).map (·.2)) us) (fun _ s'=>∃ σ' H',Inv X pins σ' H' s'/\Q σ' H') X.xe s
noncomputable abbrev Oz:=V->V->V->Hp->(Hp->Prop)->Prop
noncomputable def Qj(X:Cx)(t:Oz):Prop:=
 ∀(pins:List (Addr×Obj)) (s:Shared) (σ:St) (H:Hp) (o i v:V) (ov iv u:Value) (Q:Hp->Prop),Inv X pins σ H s->RelV o ov->RelV i iv->RelV v u->t o i v H Q->
  wpAny (model X.prog X.w) X.A (setItem ov iv u) (fun _ s'=>∃ H',Inv X pins σ H' s'/\Q H') X.xe s
section
variable{X:Cx}{pos:Pos}
noncomputable def Er(i:Nat):TG:=fun v σ H Q=>Q (σ.set i (some v)) H
theorem MX{i:Nat}{x:Str}(hN:X.N.Nodup)(hi:X.N[i]?=some x)(hx:Loc X.env.scope x)(hf:X.fn x=true\/X.env.scope.names.lookup x=some .local:=by first | exact .inl rfl | exact .inr rfl | assumption):PG X (.Name x pos) (Er i):=by
 intro pins s σ H v u Q I r h;exact wpAny_assign_Name (Ep I hN hi hx r (fun s' I'=>⟨_,H,I',h⟩) hf)
noncomputable def SK:TGs:=fun vs σ H Q=>vs=[]/\Q σ H
noncomputable def Qk(t:TG)(u:TGs):TGs:=fun vs σ H Q=>∃ v r,vs=v::r/\t v σ H fun σ' H'=>u r σ' H' Q
theorem MY:PGs X [] SK:=by
 intro pins s σ H vs us Q I r h;obtain⟨e,h⟩:=h;subst e;cases r;exact assignInOrder_nil ⟨σ,H,I,h⟩
theorem Jx{e:Expr}{es:List Expr}{t:TG}{u:TGs}(h1:PG X e t)(h2:PGs X es u)
 (hs:(assignEach (e::es) X.env).map (·.2)=assign e X.env::(assignEach es X.env).map (·.2):=by rfl):PGs X (e::es) (Qk t u):=by
 intro pins s σ H vs us Q I r h;obtain⟨v,vr,e1,h⟩:=h;subst e1;cases r with
 | cons r rr=>
   rw[hs];refine assignInOrder_cons (thn (h1 pins s σ H _ _ _ I r h) fun _ s1 ⟨σ1,H1,I1,q1⟩=>?_);exact h2 pins s1 σ1 H1 _ _ Q I1 rr q1
noncomputable def SL(K:Sh)(n:Nat)(t:TGs):TG:=fun v σ H Q=>∃ a xs,v = .ref a/\SqT K H a xs/\xs.length=n/\t xs σ H Q
theorem P1{es:List Expr}{k:Nat}{t:TGs}{n:Nat}(hc:X.calm=true)(h:PGs X es t)
 (hn:(assignEach es X.env).length=n:=by rfl) (hst:(assignEach es X.env).findIdx? (·.1)=none:=by rfl):PG X (.Tuple es k pos) (SL X.K n t):=by
 intro pins s σ H v u Q I r hw;obtain⟨a,xs,e1,hq,hl,hw⟩:=hw;subst e1;cases r;obtain⟨its,rv,ht,hz⟩:=I.tuple hq;refine assign_Tuple_tuple (I.ok.hd hc) ht (by simp[hn,<-hl,rv.length]) hst fun h' hx=>?_;have I1:Inv X pins σ H {s with heap:=h'}:=I.kept (t':=s.toks) fun b o e=>hx b o (TL (Sw e)) e;exact h pins _ σ H xs _ Q I1 (by simpa using rv) hw
noncomputable def Ql(to ti:TE)(t:Oz):TG:=fun v σ H Q=>to σ H fun o H1=>ti σ H1 fun i H2=>t o i v H2 fun H3=>Q σ H3
theorem P2{o i:Expr}{to ti:TE}{t:Oz}(ho:PE X o to)(hi:PE X i ti)(hs:Qj X t)
 (ha:∀ v,assign (.Subscript o i pos) X.env v=(do
   let ov <- holding [v] (eval o X.env)
   let iv <- holding [v,ov] (eval i X.env)
   standAt pos
   holding [v,ov,iv] (setItem ov iv v)
   release [v,ov,iv] []):=by intro _;rfl):PG X (.Subscript o i pos) (Ql to ti t):=by
 intro pins s σ H v u Q I r h;rw[ha];refine wpAny_bind (wpAny_holding (thn (ho pins s σ H _ I h) fun ov s1 ⟨x,H1,I1,r1,q1⟩=>?_));refine wpAny_bind (wpAny_holding (thn (hi pins s1 σ H1 _ I1 q1) fun iv s2 ⟨y,H2,I2,r2,q2⟩=>?_));refine wpAny_bind (wpAny_standAt (wpAny_bind (wpAny_holding (thn (hs pins s2 σ H2 x y v ov iv u _ I2 r1 r2 r q2) fun _ s3 ⟨H3,I3,q3⟩=>?_))));exact wpAny_release ⟨σ,H3,I3,q3⟩
noncomputable def GC(te:TE)(g:TG):TS:=fun D σ H=>te σ H fun x H1=>g x σ H1 D.nx
theorem Jy{tg e:Expr}{te:TE}{g:TG}(he:PE X e te)(hg:PG X tg g)(hs:swapsWithSole [tg] e pos.line X.env=pure false:=by rfl)(hw:swappedStores [tg] e X.env=pure none:=by rfl)
 (h1:(assignEach [tg] X.env).map (·.2)=[assign tg X.env]:=by rfl):PS X (.Assign [tg] e pos) (GC te g):=by
 intro pins s σ H D I h;refine wpAny_Assign_stores (thn (he pins s σ H _ I h) fun v s1 ⟨x,H1,I1,r1,q1⟩=>?_) hs hw;rw[h1];exact thn (hg pins s1 σ H1 x v _ I1 r1 q1) fun _ s2 q=>q
theorem P3{i:Nat}{x:Str}{e:Expr}{te:TE}{pos':Pos}(hN:X.N.Nodup)(hi:X.N[i]?=some x)(hx:Loc X.env.scope x)(he:PE X e te)(hs:swapsWith e (some (.Name x pos')) pos.line X.env=pure false:=by rfl)(hf:X.fn x=true\/X.env.scope.names.lookup x=some .local:=by first | exact .inl rfl | exact .inr rfl | assumption):
 PS X (.Assign [.Name x pos'] e pos) (GC te (Er i)):=by
 intro pins s σ H D I h;refine wpAny_Assign_Name (thn (he pins s σ H _ I h) fun v s1 ⟨y,H1,I1,r1,q1⟩=>?_) hs;exact Ep I1 hN hi hx r1 (fun s2 I2=>⟨_,H1,I2,q1⟩) hf
end
section
variable{X:Cx}{pos:Pos}
noncomputable def Jz(c:TT)(tb:TS):TS:=fun D σ H=>∃ W:Nat->St->Hp->Prop,(∃ m,W m σ H)/\∀ m σ H,W m σ H->
 c σ H fun b H1=>if b=true then ∃ N:St->Hp->Prop,(∀ σ' H',N σ' H'->∃ m',m'<m/\W m' σ' H')/\tb {D with nx:=N,ct:=N,bk:=D.nx} σ H1 else D.nx σ H1
theorem K0{c:Expr}{body:List Stmt}{tc:TT}{tb:TS}(hp:PassesOwn (model X.prog X.w) X.A X.env X.xe)(hc:PT X c tc)(hb:PSs X body tb):PS X (.While c body [] pos) (Jz tc tb):=by
 intro pins s σ H D I h;obtain⟨W,⟨m0,w0⟩,turn⟩:=h;refine wpAny_While (codeAny_whileLoop (fun n s'=>∃ σ' H',Inv X pins σ' H' s'/\W n σ' H') ?_ m0 ⟨σ,H,I,w0⟩);rintro n s1 ⟨σ1,H1,I1,w1⟩;refine wpAny_passesOwn hp (thn (hc pins s1 σ1 H1 _ I1 (turn n σ1 H1 w1)) fun b s2 ⟨H2,I2,q2⟩=>?_);cases b with
 | true=>
   obtain⟨N,hN,q2⟩:=q2;rw[if_pos rfl];refine wpAny_passesOwn hp (thn (hb pins s2 σ1 H2 _ I2 q2) fun f s3 q3=>?_);cases f with
   | next=>
     obtain⟨σ3,H3,I3,n3⟩:=q3;obtain⟨m',hm,w3⟩:=hN σ3 H3 n3;exact⟨m',hm,σ3,H3,I3,w3⟩
   | cont=>
     obtain⟨σ3,H3,I3,n3⟩:=q3;obtain⟨m',hm,w3⟩:=hN σ3 H3 n3;exact⟨m',hm,σ3,H3,I3,w3⟩
   | brk=>exact q3
   | ret v=>exact q3
 | false=>
   rw[if_neg Ss];exact wpAny_execs_nil ⟨σ1,H2,I2,q2⟩
end
structure It where
 go:Nat->Hp->Prop
 yld:Nat->Hp->V->Hp->Prop
 stop:Nat->Hp->Prop
noncomputable def FpOk(X:Cx)(pins:List (Addr×Obj))(H:Hp)(b:Addr):Prop:=
 H b=none/\b≠X.env.locals/\b∉X.fs/\(b∈X.ex\/X.s₀.heap.objs.size<=b)/\(∀ x c,X.env.cells.lookup x=some c->c≠b)/\∀ p∈X.pn++pins,p.1≠b
theorem Inv.fpOk{X:Cx}{pins:List (Addr×Obj)}{σ:St}{H H':Hp}{s:Shared}{b:Addr}(I:Inv X pins σ H s)(hb:s.heap.objs.size<=b)(hn:H' b=none):FpOk X pins H' b:=by
 refine⟨hn,Wa (TV I.lt hb),I.nofs hb,.inr (Td I.sz hb),fun x c e z=>?_,fun p hp z=>?_⟩
 ·obtain⟨v,q⟩:=I.cell x c e;exact absurd (TV q.lt (by rw[z];exact hb)) (UA _)
 ·exact absurd (TV (Sw (I.pin p hp).1) (by rw[z];exact hb)) (UA _)
structure Turn(P:Program)(w:World)(K:Sh)(tg:Expr)(J:It)(fp:List Addr)(it:Addr)(tn:Nat->Heap->Prop):Prop where
 mem:it∈fp
 obj:∀ i h,tn i h->∀ b∈fp,∃ o,h.get? b=some o/\∀ v,o.data ≠ .cell v
 keep:∀ i h h',tn i h->(∀ b∈fp,∀ o,h.get? b=some o->h'.get? b=some o)->tn i h'
 item:∀(X:Cx),X.prog=P->X.w=w->X.K=K->X.calm=true->∀(i:Nat) (pins:List (Addr×Obj)) (s:Shared) (σ:St) (H:Hp) (E:Value->Shared->Prop),Inv X pins σ H s->(∀ b∈fp,FpOk X pins H b)->tn i s.heap->J.go i H->
  wpAny (model P w) X.A (pyNext (.ref it)) (fun r s1=>∃ u,r=some u/\
   wpAny (model P w) X.A (letOwnedTupleGo tg (.ref it) u) (fun _ s2=>∃ x H',Inv X pins σ H' s2/\RelV x u/\J.yld i H x H'/\tn (i+1) s2.heap/\∀ b∈fp,H' b=none) E s1) E s
 done:∀(X:Cx),X.prog=P->X.w=w->X.K=K->X.calm=true->∀(i:Nat) (pins:List (Addr×Obj)) (s:Shared) (σ:St) (H:Hp) (E:Value->Shared->Prop),Inv X pins σ H s->(∀ b∈fp,FpOk X pins H b)->tn i s.heap->J.stop i H->
   wpAny (model P w) X.A (pyNext (.ref it)) (fun r s1=>r=none/\Inv X pins σ H s1) E s
 self:∀(A:Around) (i:Nat) (s:Shared) (Q:Value->Shared->Prop) (E:Value->Shared->Prop),tn i s.heap->Q (.ref it) s->wpAny (model P w) A (pyIter (.ref it)) Q E s
noncomputable abbrev TI:=St->Hp->(It->Hp->Prop)->Prop
noncomputable def PIE(X:Cx)(pins:List (Addr×Obj))(σ:St)(tg:Expr)(R:It->Hp->Prop)(itv:Value)(s2:Shared):Prop:=
 ∃(it:Addr) (fp:List Addr) (tn:Nat->Heap->Prop) (J:It) (H':Hp),itv = .ref it/\Inv X pins σ H' s2/\Turn X.prog X.w X.K tg J fp it tn/\tn 0 s2.heap/\(∀ b∈fp,FpOk X pins H' b)/\R J H'
noncomputable def PI(X:Cx)(tg iter:Expr)(wi:TI):Prop:=
 ∀(pins:List (Addr×Obj)) (s:Shared) (σ:St) (H:Hp) (R:It->Hp->Prop),Inv X pins σ H s->wi σ H R->
  wpAny (model X.prog X.w) X.A (eval iter X.env) (fun v s1=>wpAny (model X.prog X.w) X.A (pyIter v) (PIE X pins σ tg R) X.xe s1) X.xe s
theorem HW{M:Model}{A:Around}{E:Value->Shared->Prop}{s:Shared}{tg:Expr}{it:Addr}{u:Value}{o:Obj}{n:String}{vs:Array Value}{Q:Unit->Shared->Prop}(ho:s.heap.get? it=some o)(hc:o.cls = .type n)(hd:o.data = .fields vs)
 (hn:["enumerate","zip","dict_itemiterator","dict_reverseitemiterator","odict_iterator","itertools.zip_longest","itertools.pairwise"].contains n=false) (hQ:Q () s):wpAny M A (letOwnedTupleGo tg (.ref it) u) Q E s:=by
 unfold letOwnedTupleGo
 cases tg<;>first
  | exact wpAny_pure hQ
  | (cases u<;>first
      | exact wpAny_pure hQ
      | (refine wpAny_bind (wpAny_load ho ?_)
         rw[hc,hd];show wpAny M A (if (["enumerate","zip","dict_itemiterator","dict_reverseitemiterator","odict_iterator","itertools.zip_longest","itertools.pairwise"].contains n&&vs[0]? == some (rawInt _))=true then _ else _) Q E s;rw[if_neg (by intro h;rw[hn,Bool.false_and]at h;cases h)];exact wpAny_pure hQ))
noncomputable def Itl(K:Sh)(a:Addr):It:=
 ⟨fun i H=>∃ xs x,SqL K H a xs/\xs[i]?=some x,fun i H x H'=>H'=H/\∀ xs,SqL K H a xs->xs[i]?=some x,fun i H=>∃ xs,SqL K H a xs/\xs.length<=i⟩
noncomputable def Itt(K:Sh)(a:Addr):It:=
 ⟨fun i H=>∃ xs x,SqT K H a xs/\xs[i]?=some x,fun i H x H'=>H'=H/\∀ xs,SqT K H a xs->xs[i]?=some x,fun i H=>∃ xs,SqT K H a xs/\xs.length<=i⟩
noncomputable def Itr(lo:Int)(n:Nat):It:=⟨fun i _=>i<n,fun i H x H'=>H'=H/\x = .int (lo+i),fun i _=>n<=i⟩
theorem Ig{P:Program}{w:World}{K:Sh}{tg:Expr}(a it:Addr):Turn P w K tg (Itl K a) [it] it (fun i h=>h.IsListIter it a i) where
 mem:=by simp
 obj:=fun i h st b hb=>by
  have e:b=it:=by simpa using hb
  subst e;obtain⟨o,e,c,d⟩:=st;exact⟨o,e,fun v z=>by rw[d]at z;cases z⟩
 keep:=fun i h h' st k=>st.at fun o e=>k it (by simp) o e
 item:=by
  intro X hP hw hK hc i pins s σ H E I hf st hg;subst hP hw hK;obtain⟨xs,x,hq,hx⟩:=hg;obtain⟨its,rv,p,hz⟩:=I.list hq;obtain⟨u,hu,ru⟩:=rv.get hx;obtain⟨f0,f1,f2,f3,f4,f5⟩:=hf it (by simp);refine wpAny_pyNext_list_item st p.isList (x:=u) (by simpa using hu) fun h' st' sb=>?_;have I1:Inv X pins σ H {s with heap:=h'}:=I.turned (t':=s.toks) (fun b o hb e=>(sb.2 b hb).trans e) f0 f1 f3 f4 f5;obtain⟨o,e,c,d⟩:=id st';exact⟨u,rfl,HW (s:={s with heap:=h'}) e c d (by decide) ⟨x,H,I1,ru,⟨rfl,fun ys hy=>by rw[I.list_inj hy hq];exact hx⟩,st',fun b hb=>(hf b hb).1⟩⟩
 done:=by
   intro X hP hw hK hc i pins s σ H E I hf st hg;subst hP hw hK;obtain⟨xs,hq,hx⟩:=hg;obtain⟨its,rv,p,hz⟩:=I.list hq;obtain⟨f0,f1,f2,f3,f4,f5⟩:=hf it (by simp);have hl:=rv.length;exact wpAny_pyNext_list_end (I.ok.hd hc) st p.isList (by simp;omega) fun h' eb=>⟨rfl,I.turned (t':=s.toks) (fun b o hb e=>eb b o hb e) f0 f1 f3 f4 f5⟩
 self:=fun _ _ _ _ _ st h=>wpAny_pyIter_listiter st h
theorem GD{P:Program}{w:World}{K:Sh}{tg:Expr}(a it:Addr):Turn P w K tg (Itt K a) [it] it (fun i h=>h.IsTupleIter it a i) where
 mem:=by simp
 obj:=fun i h st b hb=>by
  have e:b=it:=by simpa using hb
  subst e;obtain⟨o,e,c,d⟩:=st;exact⟨o,e,fun v z=>by rw[d]at z;cases z⟩
 keep:=fun i h h' st k=>st.at fun o e=>k it (by simp) o e
 item:=by
  intro X hP hw hK hc i pins s σ H E I hf st hg;subst hP hw hK;obtain⟨xs,x,hq,hx⟩:=hg;obtain⟨its,rv,p,hz⟩:=I.tuple hq;obtain⟨u,hu,ru⟩:=rv.get hx;obtain⟨f0,f1,f2,f3,f4,f5⟩:=hf it (by simp);refine wpAny_pyNext_tuple_item st (show s.heap.IsTuple a its.toArray from p) (x:=u) (by simpa using hu) fun h' st' sb=>?_;have I1:Inv X pins σ H {s with heap:=h'}:=I.turned (t':=s.toks) (fun b o hb e=>(sb.2 b hb).trans e) f0 f1 f3 f4 f5;obtain⟨o,e,c,d⟩:=id st';exact⟨u,rfl,HW (s:={s with heap:=h'}) e c d (by decide) ⟨x,H,I1,ru,⟨rfl,fun ys hy=>by rw[I.tuple_inj hy hq];exact hx⟩,st',fun b hb=>(hf b hb).1⟩⟩
 done:=by
   intro X hP hw hK hc i pins s σ H E I hf st hg;subst hP hw hK;obtain⟨xs,hq,hx⟩:=hg;obtain⟨its,rv,p,hz⟩:=I.tuple hq;obtain⟨f0,f1,f2,f3,f4,f5⟩:=hf it (by simp);have hl:=rv.length;exact wpAny_pyNext_tuple_end (I.ok.hd hc) st (show s.heap.IsTuple a its.toArray from p) (by simp;omega) fun h' eb=>⟨rfl,I.turned (t':=s.toks) (fun b o hb e=>eb b o hb e) f0 f1 f3 f4 f5⟩
 self:=fun _ _ _ _ _ st h=>wpAny_pyIter_tupleiter st h
theorem GE{P:Program}{w:World}{K:Sh}{tg:Expr}(it:Addr)(lo:Int)(n:Nat):Turn P w K tg (Itr lo n) [it] it (fun i h=>IsRangeIter h it (lo+(i:Nat) * 1) ((n:Int) - (i:Nat)) 1) where
 mem:=by simp
 obj:=fun i h st b hb=>by
  have e:b=it:=by simpa using hb
  subst e
  exact⟨_,st,fun v z=>by
   have z':Data.fields _=Data.cell v:=z;cases z'⟩
 keep:=fun i h h' st k=>k it (by simp) _ st
 item:=by
  intro X hP hw hK hc i pins s σ H E I hf st hg;subst hP hw hK;obtain⟨f0,f1,f2,f3,f4,f5⟩:=hf it (by simp);have W:=Walks.range (prog:=X.prog) (w:=X.w) (I.ok.hd hc) it lo 1 n;refine W.item i s _ _ hg st fun v h' tk hv st' kk=>?_;obtain⟨t,rfl⟩:=hv;have I1:Inv X pins σ H {s with heap:=h',toks:=tk}:=I.turned (fun b o hb e=>kk b o (by simpa using hb) e) f0 f1 f3 f4 f5;refine⟨_,rfl,HW (s:={s with heap:=h',toks:=tk}) (n:="range_iterator") st' rfl rfl (by decide) ⟨.int (lo+i),H,I1,⟨t,?_⟩,⟨rfl,rfl⟩,st',fun b hb=>(hf b hb).1⟩⟩;rw[Int.mul_one]
 done:=by
   intro X hP hw hK hc i pins s σ H E I hf st hg;subst hP hw hK;obtain⟨f0,f1,f2,f3,f4,f5⟩:=hf it (by simp);exact wpAny_pyNext_range_end (I.ok.hd hc) st (by have:n<=i:=hg;omega) fun h' eb=>⟨rfl,I.turned (t':=s.toks) (fun b o hb e=>eb b o hb e) f0 f1 f3 f4 f5⟩
 self:=fun _ _ _ _ _ st h=>wpAny_pyIter_rangeiter st h
open PySem PySem.Spec PyProof.Rows
section
variable{X:Cx}{tg:Expr}
theorem K1{pins:List (Addr×Obj)}{σ:St}{H:Hp}{s:Shared}{R:It->Hp->Prop}{E:Value->Shared->Prop}{lo hi:Int}{t u v:Tok}{tk:Nat}(I:Inv X pins σ H s)(h1:-(2 ^ 62)<=lo)(h2:lo<2 ^ 62)(h3:-(2 ^ 62)<=hi)(h4:hi<2 ^ 62)
 (q:R (Itr lo (hi - lo).toNat) H):wpAny (model X.prog X.w) X.A (pyIter (.ref s.heap.objs.size)) (PIE X pins σ tg R) E {s with heap:=s.heap.push {cls := .type "range",data := .fields #[.int lo t,.int hi u,.int 1 v]},toks:=tk}:=by
 refine wpAny_pyIter_range (IsRange.new ..) (small_one h1 h2 h3 h4) ?_;have I1:Inv X pins σ H {s with heap:=s.heap.push {cls := .type "range",data := .fields #[.int lo t,.int hi u,.int 1 v]},toks:=tk}:=I.kept fun b o e=>So _ e
 refine⟨(s.heap.push {cls := .type "range",data := .fields #[.int lo t,.int hi u,.int 1 v]}).objs.size,[(s.heap.push {cls := .type "range",data := .fields #[.int lo t,.int hi u,.int 1 v]}).objs.size],_,_,H,rfl,
  I1.kept (t':=tk) fun b o e=>So _ e,GE _ lo (hi - lo).toNat,?_,fun b hb=>?_,q⟩
 ·have e1:lo+((0:Nat):Int) * 1=lo:=by simp
  have e2:(((hi - lo).toNat:Nat):Int) - ((0:Nat):Int)=Builtin.Range.rangeSize lo hi 1:=by rw[rangeSize_one];split<;>omega
  show IsRangeIter _ _ (lo+((0:Nat):Int) * 1) ((((hi - lo).toNat:Nat):Int) - ((0:Nat):Int)) 1;rw[e1,e2];exact Sy _ rfl
 ·have e:b=(s.heap.push {cls := .type "range",data := .fields #[.int lo t,.int hi u,.int 1 v]}).objs.size:=by simpa using hb
  subst e;exact I1.fpOk (Sr _) (I1.hok.fresh (Sr _))
noncomputable def Qm(ta:TA):TI:=fun σ H R=>ta σ H fun vs H1=>∃ j:Int,vs=[.int j] /\ -(2 ^ 62)<=j/\j<2 ^ 62/\R (Itr 0 j.toNat) H1
theorem Ih{a:Expr}{ta:TA}{p pos:Pos}(hg:Gl X "range")(hm:X.mg "range"=none)(ha:PA X [a] ta)(hs:starEach [a] X.env=[(false,eval a X.env)]:=by rfl):PI X tg (.Call (.Name "range" p) [a] [] pos) (Qm ta):=by
 intro pins s σ H R I h;refine Call_ (BE I hg hm boot_range (PyProof.Rows.callWith_type1 (thn (ha pos pins s σ H _ I h) fun us s1 ⟨vs,H1,I1,r1,q1⟩=>?_) hs rfl));obtain⟨j,e,q1,q2,q⟩:=q1;subst e;cases r1 with
 | cons r rr=>
   cases rr;obtain⟨t,rfl⟩:=r;exact call_range_1 (K1 I1 (by omega) (by omega) q1 q2 (by simpa using q))
noncomputable def Qn(wi:TI)(g:TG)(tb:TS):TS:=fun D σ H=>wi σ H fun J H1=>∃ W:Nat->Nat->St->Hp->Prop,(∃ m,W 0 m σ H1)/\∀ i m σ H,W i m σ H->
 (J.stop i H/\D.nx σ H)\/(J.go i H/\∃ N:St->Hp->Prop,(∀ σ' H',N σ' H'->∃ m',m'<m/\W (i+1) m' σ' H')/\∀ x H',J.yld i H x H'->g x σ H' fun σ2 H2=>tb {D with nx:=N,ct:=N,bk:=D.nx} σ2 H2)
noncomputable def BF(fp:List Addr)(h:Heap):List (Addr×Obj):=fp.filterMap fun b=>(h.get? b).map fun o=>(b,o)
theorem AC{fp:List Addr}{h:Heap}{b:Addr}{o:Obj}(hb:b∈fp)(e:h.get? b=some o):(b,o)∈BF fp h:=Vo.mpr ⟨b,hb,by rw[e];rfl⟩
theorem Ii{fp:List Addr}{h:Heap}{p:Addr×Obj}(hp:p∈BF fp h):p.1∈fp/\h.get? p.1=some p.2:=by
 obtain⟨b,hb,e⟩:=Vo.mp hp;cases q:h.get? b with
 | none=>rw[q]at e;cases e
 | some o=>
   rw[q]at e;have e':(b,o)=p:=oj e;subst e';exact⟨hb,q⟩
theorem Inv.pinned{pins:List (Addr×Obj)}{σ:St}{H:Hp}{s:Shared}{fp:List Addr}(I:Inv X pins σ H s)(hf:∀ b∈fp,FpOk X pins H b)(ho:∀ b∈fp,∃ o,s.heap.get? b=some o/\∀ v,o.data ≠ .cell v):Inv X (pins++BF fp s.heap) σ H s:=
 I.pins_of fun p hp=>(TQ.mp hp).elim (fun z=>I.pin p (TR _ z)) fun z=>by
  obtain⟨hb,e⟩:=Ii z;obtain⟨f0,f1,f2,_⟩:=hf p.1 hb;obtain⟨o,e',d⟩:=ho p.1 hb;rw[e]at e';cases e';exact⟨e,f0,f1,f2,d⟩
theorem Inv.unpinned{pins pl:List (Addr×Obj)}{σ:St}{H:Hp}{s:Shared}(I:Inv X (pins++pl) σ H s):Inv X pins σ H s:=I.pins_of fun p hp=>I.pin p (TR _ (US _ hp))
theorem P4{iter:Expr}{body:List Stmt}{wi:TI}{g:TG}{tb:TS}{pos:Pos}(hp:PassesOwn (model X.prog X.w) X.A X.env X.xe)(hc:X.calm=true)(hi:PI X tg iter wi)(hg:PG X tg g)(hb:PSs X body tb)
 (hs:∀ x,foldedSetIterable iter X.env x=pure x:=by intro _;rfl):PS X (.For tg iter body [] pos) (Qn wi g tb):=by
 intro pins s σ H D I h;refine wpAny_For (thn (hi pins s σ H _ I h) fun v s1 h1=>thn h1 fun itv s2 h2=>?_) hs;obtain⟨it,fp,tn,J,H2,e,I2,T,st2,f2,W,⟨m0,w0⟩,turn⟩:=h2;subst e;have stat:∀{H':Hp},(∀ b∈fp,H' b=none)->∀ b∈fp,FpOk X pins H' b:=fun hn b hb=>⟨hn b hb,(f2 b hb).2⟩
 refine codeAny_forLoop_any (fun n s'=>∃ i σ' H',Inv X pins σ' H' s'/\tn i s'.heap/\(∀ b∈fp,H' b=none)/\W i n σ' H') ?_ m0 ⟨0,σ,H2,I2,st2,fun b hb=>(f2 b hb).1,w0⟩;rintro n s3 ⟨i,σ3,H3,I3,st3,fr3,w3⟩;rcases turn i n σ3 H3 w3 with⟨stop,qn⟩ | ⟨go,N,hN,step⟩
 ·refine wpAny_passesOwn hp (thn (T.done X rfl rfl rfl hc i pins s3 σ3 H3 X.xe I3 (stat fr3) st3 stop) fun r s4 ⟨hr,I4⟩=>?_);subst hr;exact wpAny_execs_nil ⟨σ3,H3,I4,qn⟩
 ·refine wpAny_passesOwn hp (thn (T.item X rfl rfl rfl hc i pins s3 σ3 H3 X.xe I3 (stat fr3) st3 go) fun r s4 ⟨u,hr,h4⟩=>?_);subst hr;refine wpAny_passesOwn hp (thn h4 fun _ s5 ⟨x,H5,I5,r5,y5,st5,fr5⟩=>?_);have I5':=I5.pinned (stat fr5) (T.obj _ _ st5);refine wpAny_passesOwn hp (thn (hg _ s5 σ3 H5 x u _ I5' r5 (step x H5 y5)) fun _ s6 ⟨σ6,H6,I6,q6⟩=>?_);refine wpAny_passesOwn hp (thn (hb _ s6 σ6 H6 _ I6 q6) fun f s7 q7=>?_)
  have again:∀{σ7:St} {H7:Hp},Inv X (pins++BF fp s5.heap) σ7 H7 s7->N σ7 H7->∃ m,m<n/\∃ i σ' H',Inv X pins σ' H' s7/\tn i s7.heap/\(∀ b∈fp,H' b=none)/\W i m σ' H':=fun{σ7 H7} I7 n7=>by
   obtain⟨m',hm,w7⟩:=hN σ7 H7 n7;refine⟨m',hm,i+1,σ7,H7,I7.unpinned,T.keep _ _ _ st5 fun b hb o e=>(I7.pin (b,o) (TR _ (TR _ (AC hb e)))).1,fun b hb=>?_,w7⟩;obtain⟨o,e,d⟩:=T.obj _ _ st5 b hb;exact(I7.pin (b,o) (TR _ (TR _ (AC hb e)))).2.1
  cases f with
  | next=>obtain⟨σ7,H7,I7,n7⟩:=q7;exact again I7 n7
  | cont=>obtain⟨σ7,H7,I7,n7⟩:=q7;exact again I7 n7
  | brk=>obtain⟨σ7,H7,I7,q7⟩:=q7;exact⟨σ7,H7,I7.unpinned,q7⟩
  | ret v=>obtain⟨x7,σ7,H7,I7,r7,q7⟩:=q7;exact⟨x7,σ7,H7,I7.unpinned,r7,q7⟩
end
open PySem PySem.Spec PyProof.Rows
noncomputable abbrev R2:=V->V->Hp->VK->Prop
noncomputable def OpR(X:Cx)(f:Value->Value->Sem Value)(r:R2):Prop:=
 ∀(pins:List (Addr×Obj)) (s:Shared) (σ:St) (H:Hp) (x y:V) (v u:Value) (Q:VK),Inv X pins σ H s->RelV x v->RelV y u->r x y H Q->
  wpAny (model X.prog X.w) X.A (f v u) (EP X pins σ Q) X.xe s
noncomputable def UnR(X:Cx)(f:Value->Sem Value)(r:V->Hp->VK->Prop):Prop:=
 ∀(pins:List (Addr×Obj)) (s:Shared) (σ:St) (H:Hp) (x:V) (v:Value) (Q:VK),Inv X pins σ H s->RelV x v->r x H Q->
  wpAny (model X.prog X.w) X.A (f v) (EP X pins σ Q) X.xe s
noncomputable def CallR(X:Cx)(f:Value)(r:List V->Hp->VK->Prop):Prop:=
 ∀(pins:List (Addr×Obj)) (s:Shared) (σ:St) (H:Hp) (xs:List V) (us:List Value) (Q:VK),Inv X pins σ H s->Vals xs us->r xs H Q->
  wpAny (model X.prog X.w) X.A (call f us) (EP X pins σ Q) X.xe s
noncomputable def SM(X:Cx)(r:V->Hp->(Bool->Hp->Prop)->Prop):Prop:=
 ∀(pins:List (Addr×Obj)) (s:Shared) (σ:St) (H:Hp) (x:V) (v:Value) (Q:Bool->Hp->Prop),Inv X pins σ H s->RelV x v->r x H Q->
  wpAny (model X.prog X.w) X.A (truthy v) (TP X pins σ Q) X.xe s
noncomputable def tOp(r:R2)(ta tb:TE):TE:=fun σ H Q=>ta σ H fun x H1=>tb σ H1 fun y H2=>r x y H2 Q
noncomputable def tUn(r:V->Hp->VK->Prop)(ta:TE):TE:=fun σ H Q=>ta σ H fun x H1=>r x H1 Q
noncomputable def rI(C:Int->Int->Prop)(g:Int->Int->V):R2:=fun x y H Q=>∃ i j,x = .int i/\y = .int j/\C i j/\Q (g i j) H
noncomputable def rI0(g:Int->Int->V):R2:=fun x y H Q=>∃ i j,x = .int i/\y = .int j/\Q (g i j) H
noncomputable def rU(g:Int->V):V->Hp->VK->Prop:=fun x H Q=>∃ i,x = .int i/\Q (g i) H
section
variable{X:Cx}{a b c:Expr}{ta tb tc:TE}{pos:Pos}
theorem P5(ha:PE X a ta)(hb:PE X b tb){pins:List (Addr×Obj)}{s:Shared}{σ:St}{H:Hp}{R:V->V->Hp->Prop}(I:Inv X pins σ H s)
 (h:ta σ H fun x H1=>tb σ H1 fun y H2=>R x y H2) {Q:Value->Shared->Prop} {f:Value->Value->Sem Value}
 (hf:∀ v u s2 x y H2,Inv X pins σ H2 s2->RelV x v->RelV y u->R x y H2->wpAny (model X.prog X.w) X.A (f v u) Q X.xe s2):
 wpAny (model X.prog X.w) X.A (eval a X.env) (fun v s₁=>wpAny (model X.prog X.w) X.A (eval b X.env) (fun u s₂=>wpAny (model X.prog X.w) X.A (f v u) Q X.xe s₂) X.xe s₁) X.xe s:=by
 refine thn (ha pins s σ H _ I h) fun v s1 ⟨x,H1,I1,r1,q1⟩=>?_;refine thn (hb pins s1 σ H1 _ I1 q1) fun u s2 ⟨y,H2,I2,r2,q2⟩=>?_;exact hf v u s2 x y H2 I2 r1 r2 q2
theorem Qo{op:Operator}{r:R2}(ho:OpR X (binaryOp op) r)(ha:PE X a ta)(hb:PE X b tb):PE X (.BinOp a op b pos) (tOp r ta tb):=by
 intro pins s σ H Q I h;exact wpAny_BinOp (P5 ha hb I h fun v u s2 x y H2 I2 rx ry q=>ho pins s2 σ H2 x y v u Q I2 rx ry q)
theorem OG{op:UnaryOp}{r:V->Hp->VK->Prop}(ho:UnR X (unaryOp op) r)(ha:PE X a ta):PE X (.UnaryOp op a pos) (tUn r ta):=by
 intro pins s σ H Q I h;exact UnaryOp_ (thn (ha pins s σ H _ I h) fun v s1 ⟨x,H1,I1,r1,q1⟩=>ho pins s1 σ H1 x v Q I1 r1 q1)
theorem opI{f:Value->Value->Sem Value}{C:Int->Int->Prop}{g:Int->Int->Int}
 (rule:∀(i j:Int) (t u:Tok) (s:Shared) (Q:Value->Shared->Prop) (E:Value->Shared->Prop),C i j->Q (.int (g i j) s.toks) {s with toks:=s.toks+1}->wpAny (model X.prog X.w) X.A (f (.int i t) (.int j u)) Q E s):
 OpR X f (rI C fun i j => .int (g i j)):=by
 intro pins s σ H x y v u Q I rx ry h;obtain⟨i,j,rfl,rfl,hc,q⟩:=h;obtain⟨t,rfl⟩:=rx;obtain⟨t',rfl⟩:=ry;exact rule i j t t' s _ _ hc ⟨.int (g i j),H,I.tok _,⟨_,rfl⟩,q⟩
theorem Qp{f:Value->Value->Sem Value}{g:Int->Int->Int}
 (rule:∀(i j:Int) (t u:Tok) (s:Shared) (Q:Value->Shared->Prop) (E:Value->Shared->Prop),Q (.int (g i j) s.toks) {s with toks:=s.toks+1}->wpAny (model X.prog X.w) X.A (f (.int i t) (.int j u)) Q E s):
 OpR X f (rI0 fun i j => .int (g i j)):=by
 intro pins s σ H x y v u Q I rx ry h;obtain⟨i,j,rfl,rfl,q⟩:=h;obtain⟨t,rfl⟩:=rx;obtain⟨t',rfl⟩:=ry;exact rule i j t t' s _ _ ⟨.int (g i j),H,I.tok _,⟨_,rfl⟩,q⟩
theorem MZ{f:Value->Value->Sem Value}{g:Int->Int->Bool}
 (rule:∀(i j:Int) (t u:Tok) (s:Shared) (Q:Value->Shared->Prop) (E:Value->Shared->Prop),Q (.bool (g i j)) s->wpAny (model X.prog X.w) X.A (f (.int i t) (.int j u)) Q E s):
 OpR X f (rI0 fun i j => .bl (g i j)):=by
 intro pins s σ H x y v u Q I rx ry h;obtain⟨i,j,rfl,rfl,q⟩:=h;obtain⟨t,rfl⟩:=rx;obtain⟨t',rfl⟩:=ry;exact rule i j t t' s _ _ ⟨.bl (g i j),H,I,rfl,q⟩
noncomputable def Qq(i j:Int):Prop:=0<j/\j<1073741824
noncomputable def Qr(i j:Int):Prop:=0<=j/\j<=1000000/\i.natAbs<2 ^ 64
noncomputable def CMul(i j:Int):Prop:=(-(2 ^ 64)<i/\i<2 ^ 64)\/(-(2 ^ 64)<j/\j<2 ^ 64)
theorem CMul.ok{i j:Int}(h:CMul i j):IntMulOk i j:=by
 rcases h with⟨h1,h2⟩ | ⟨h1,h2⟩
 ·exact .of_left (intBits_le_64 h1 h2)
 ·exact .of_right (intBits_le_64 h1 h2)
theorem op_add:OpR X (binaryOp .Add) (rI0 fun i j => .int (i+j)):=Qp fun _ _ _ _ _ _ _ q=>add_int q
theorem P6:OpR X (binaryOp .Sub) (rI0 fun i j => .int (i - j)):=Qp fun _ _ _ _ _ _ _ q=>sub_int q
theorem op_mul:OpR X (binaryOp .Mult) (rI CMul fun i j => .int (i * j)):=opI fun _ _ _ _ _ _ _ hc q=>mul_int q hc.ok
theorem Ma:OpR X (binaryOp .FloorDiv) (rI Qq fun i j => .int (i / j)):=opI fun i j _ _ _ _ _ hc q=>by
 have h1:(0:Int)<j:=hc.1;have h2:j<1073741824:=hc.2;exact floordiv_int (by omega) (by rw[Int.fdiv_eq_ediv_of_nonneg i (by omega)];exact q) (.inl (PyProof.noPylong_small (by omega)))
theorem P7:OpR X (binaryOp .Mod) (rI (fun _ j=>0<j) fun i j => .int (i % j)):=opI fun i j _ _ _ _ _ hc q=>by
 have h1:(0:Int)<j:=hc;exact mod_int' (by omega) (by rw[Int.fmod_eq_emod_of_nonneg i (by omega)];exact q)
theorem P8:OpR X (binaryOp .Pow) (rI Qr fun i j => .int (i ^ j.toNat)):=opI fun _ _ _ _ _ _ _ hc q=>pow_int_small hc.1 hc.2.1 hc.2.2 q
theorem unI{f:Value->Sem Value}{g:Int->Int}
 (rule:∀(i:Int) (t:Tok) (s:Shared) (Q:Value->Shared->Prop) (E:Value->Shared->Prop),Q (.int (g i) s.toks) {s with toks:=s.toks+1}->wpAny (model X.prog X.w) X.A (f (.int i t)) Q E s):
 UnR X f (rU fun i => .int (g i)):=by
 intro pins s σ H x v Q I rx h;obtain⟨i,rfl,q⟩:=h;obtain⟨t,rfl⟩:=rx;exact rule i t s _ _ ⟨.int (g i),H,I.tok _,⟨_,rfl⟩,q⟩
theorem K2:UnR X (unaryOp .USub) (rU fun i => .int (-i)):=unI fun _ _ _ _ _ q=>neg_int q
end
noncomputable def P9:V->V->Bool
 | .non,.non=>true | .non,.int _=>true | .int _,.non=>true | .non,.bl _=>true | .bl _,.non=>true | .non,.str _=>true | .str _,.non=>true
 | .int _,.int _=>true | .bl _,.bl _=>true | .str _,.str _=>true | .byt _,.byt _=>true
 | .int _,.str _=>true | .str _,.int _=>true | .bl _,.str _=>true | .str _,.bl _=>true
 | _,_=>false
noncomputable def rEq:R2:=fun x y H Q=>P9 x y=true/\Q (.bl (decide (x=y))) H
noncomputable def rNe:R2:=fun x y H Q=>P9 x y=true/\Q (.bl (!decide (x=y))) H
theorem HX{i j:Int}:decide (V.int i=V.int j)=(i == j):=by
 rw[UN];simp
theorem K3{i j:Bool}:decide (V.bl i=V.bl j)=(i == j):=by
 rw[UN];simp
theorem HY{i j:Str}:decide (V.str i=V.str j)=(i == j):=by
 rw[UN];simp
theorem HZ{i j:Array UInt8}:decide (V.byt i=V.byt j)=(i.toList == j.toList):=by
 rw[UN];cases i;cases j;simp
section
variable{X:Cx}{a b c:Expr}{ta tb tc:TE}{pos:Pos}
theorem f8{pins:List (Addr×Obj)}{σ:St}{H:Hp}{s:Shared}{Q:VK}{k k':Bool}(I:Inv X pins σ H s)(q:Q (.bl k) H)(e:k=k'):EP X pins σ Q (.bool k') s:=by
 subst e;exact⟨.bl k,H,I,rfl,q⟩
theorem op_eq:OpR X (compareOp .Eq) rEq:=by
 intro pins s σ H x y v u Q I rx ry h;obtain⟨hs,q⟩:=h;cases x with
 | non=>
   cases rx;cases y with
   | non=>cases ry;exact PySem.EqNone.eq_none_none (f8 I q (by simp))
   | bl j=>cases ry;exact PySem.EqNone.eq_none_bool (f8 I q (by simp))
   | int j=>obtain⟨t',rfl⟩:=ry;exact PySem.EqNone.eq_none_int (f8 I q (by simp))
   | str j=>obtain⟨t',rfl⟩:=ry;exact PySem.EqNone.eq_none_str (f8 I q (by simp))
   | _=>exact absurd (show false=true from hs) Ss
 | bl i=>
   cases rx;cases y with
   | non=>cases ry;exact PySem.EqNone.eq_bool_none (f8 I q (by simp))
   | bl j=>cases ry;exact eq_bool (f8 I q K3)
   | str j=>obtain⟨t',rfl⟩:=ry;exact PySem.EqMixed.eq_bool_str (f8 I q (by simp))
   | _=>exact absurd (show false=true from hs) Ss
 | int i=>
   obtain⟨t,rfl⟩:=rx;cases y with
   | non=>cases ry;exact PySem.EqNone.eq_int_none (f8 I q (by simp))
   | int j=>obtain⟨t',rfl⟩:=ry;exact eq_int (f8 I q HX)
   | str j=>obtain⟨t',rfl⟩:=ry;exact PySem.EqMixed.eq_int_str (f8 I q (by simp))
   | _=>exact absurd (show false=true from hs) Ss
 | str i=>
   obtain⟨t,rfl⟩:=rx;cases y with
   | non=>cases ry;exact PySem.EqNone.eq_str_none (f8 I q (by simp))
   | bl j=>cases ry;exact PySem.EqMixed.eq_str_bool (f8 I q (by simp))
   | int j=>obtain⟨t',rfl⟩:=ry;exact PySem.EqMixed.eq_str_int (f8 I q (by simp))
   | str j=>obtain⟨t',rfl⟩:=ry;exact eq_str (f8 I q HY)
   | _=>exact absurd (show false=true from hs) Ss
 | byt i=>
   obtain⟨t,rfl⟩:=rx;cases y with
   | byt j=>obtain⟨t',rfl⟩:=ry;exact PySem.W.eq_bytes (f8 I q HZ)
   | _=>exact absurd (show false=true from hs) Ss
 | _=>cases y<;>exact absurd (show false=true from hs) Ss
theorem op_ne:OpR X (compareOp .NotEq) rNe:=by
 intro pins s σ H x y v u Q I rx ry h;obtain⟨hs,q⟩:=h;cases x with
 | non=>
   cases rx;cases y with
   | non=>cases ry;exact PySem.EqNone.ne_none_none (f8 I q (by simp))
   | bl j=>cases ry;exact PySem.EqNone.ne_none_bool (f8 I q (by simp))
   | int j=>obtain⟨t',rfl⟩:=ry;exact PySem.EqNone.ne_none_int (f8 I q (by simp))
   | str j=>obtain⟨t',rfl⟩:=ry;exact PySem.EqNone.ne_none_str (f8 I q (by simp))
   | _=>exact absurd (show false=true from hs) Ss
 | bl i=>
   cases rx;cases y with
   | non=>cases ry;exact PySem.EqNone.ne_bool_none (f8 I q (by simp))
   | bl j=>cases ry;exact ne_bool (f8 I q (congrArg not K3))
   | str j=>obtain⟨t',rfl⟩:=ry;exact PySem.EqMixed.ne_bool_str (f8 I q (by simp))
   | _=>exact absurd (show false=true from hs) Ss
 | int i=>
   obtain⟨t,rfl⟩:=rx;cases y with
   | non=>cases ry;exact PySem.EqNone.ne_int_none (f8 I q (by simp))
   | int j=>obtain⟨t',rfl⟩:=ry;exact ne_int (f8 I q (congrArg not HX))
   | str j=>obtain⟨t',rfl⟩:=ry;exact PySem.EqMixed.ne_int_str (f8 I q (by simp))
   | _=>exact absurd (show false=true from hs) Ss
 | str i=>
   obtain⟨t,rfl⟩:=rx;cases y with
   | non=>cases ry;exact PySem.EqNone.ne_str_none (f8 I q (by simp))
   | bl j=>cases ry;exact PySem.EqMixed.ne_str_bool (f8 I q (by simp))
   | int j=>obtain⟨t',rfl⟩:=ry;exact PySem.EqMixed.ne_str_int (f8 I q (by simp))
   | str j=>obtain⟨t',rfl⟩:=ry;exact ne_str (f8 I q (congrArg not HY))
   | _=>exact absurd (show false=true from hs) Ss
 | byt i=>
   obtain⟨t,rfl⟩:=rx;cases y with
   | byt j=>obtain⟨t',rfl⟩:=ry;exact PySem.W.ne_bytes (f8 I q (congrArg not HZ))
   | _=>exact absurd (show false=true from hs) Ss
 | _=>cases y<;>exact absurd (show false=true from hs) Ss
theorem Qs:OpR X (compareOp .Lt) (rI0 fun i j => .bl (decide (i<j))):=MZ fun _ _ _ _ _ _ _ q=>lt_int q
theorem Qt:OpR X (compareOp .LtE) (rI0 fun i j => .bl (decide (i<=j))):=MZ fun _ _ _ _ _ _ _ q=>le_int q
theorem Qu:OpR X (compareOp .Gt) (rI0 fun i j => .bl (decide (j<i))):=MZ fun _ _ _ _ _ _ _ q=>gt_int q
theorem Qv:OpR X (compareOp .GtE) (rI0 fun i j => .bl (decide (j<=i))):=MZ fun _ _ _ _ _ _ _ q=>ge_int q
theorem PB:OpR X (compareOp .Is) (fun x y H Q=>y = .non/\Q (.bl (decide (x = .non))) H):=by
 intro pins s σ H x y v u Q I rx ry h;obtain⟨rfl,q⟩:=h;cases ry;refine is_none_gen (f8 I q ?_)
 cases x<;>first
  | (cases rx;rfl)
  | (obtain⟨t,rfl⟩:=rx;rfl)
theorem op_notN:OpR X (compareOp .IsNot) (fun x y H Q=>y = .non/\Q (.bl (!decide (x = .non))) H):=by
 intro pins s σ H x y v u Q I rx ry h;obtain⟨rfl,q⟩:=h;cases ry;refine isnot_none_gen (f8 I q ?_)
 cases x<;>first
  | (cases rx;rfl)
  | (obtain⟨t,rfl⟩:=rx;rfl)
theorem OpR.or{f:Value->Value->Sem Value}{r r':R2}(h:OpR X f r)(h':OpR X f r'):OpR X f (fun x y H Q=>r x y H Q\/r' x y H Q):=by
 intro pins s σ H x y v u Q I rx ry q;rcases q with q | q
 ·exact h pins s σ H x y v u Q I rx ry q
 ·exact h' pins s σ H x y v u Q I rx ry q
theorem Cu{op:CmpOp}{r:R2}(ho:OpR X (compareOp op) r)(ha:PE X a ta)(hb:PE X b tb)(hm:behindInMarks op b=false):PE X (.Compare a [op] [b] pos) (tOp r ta tb):=by
 intro pins s σ H Q I h;exact wpAny_Compare1 (P5 ha hb I h fun v u s2 x y H2 I2 rx ry q=>ho pins s2 σ H2 x y v u Q I2 rx ry q) hm
noncomputable def OH(t:TE):TT:=fun σ H Q=>t σ H fun x H'=>∃ k,x = .bl k/\Q k H'
theorem Cv{op:CmpOp}{r:R2}(ho:OpR X (compareOp op) r)(ha:PE X a ta)(hb:PE X b tb)(hm:behindInMarks op b=false):PT X (.Compare a [op] [b] pos) (OH (tOp r ta tb)):=by
 intro pins s σ H Q I h
 refine wpAny_isTrue_Compare1 (thn (ha pins s σ H _ I h) fun v s1 ⟨x,H1,I1,r1,q1⟩=>thn (hb pins s1 σ H1 _ I1 q1) fun u s2 ⟨y,H2,I2,r2,q2⟩=>
  thn (ho pins s2 σ H2 x y v u _ I2 r1 r2 q2) fun c s3 ⟨z,H3,I3,r3,k,e,q3⟩=>?_) hm
 subst e;cases r3;exact wpAny_truthy_bool ⟨H3,I3,q3⟩
noncomputable def GF(r r':R2)(ta tb tc:TE):TE:=fun σ H Q=>ta σ H fun x H1=>tb σ H1 fun y H2=>r x y H2 fun z H3=>∃ k,z = .bl k/\
 (if k=true then tc σ H3 fun w' H4=>r' y w' H4 Q else Q (.bl false) H3)
theorem K4{op op':CmpOp}{r r':R2}(ho:OpR X (compareOp op) r)(ho':OpR X (compareOp op') r')(ha:PE X a ta)(hb:PE X b tb)(hc:PE X c tc)
 (hm:lastMarks [op,op'] [b,c]=false:=by with_unfolding_all rfl):PE X (.Compare a [op,op'] [b,c] pos) (GF r r' ta tb tc):=by
 intro pins s σ H Q I h
 refine Compare_chain (thn (ha pins s σ H _ I h) fun v s1 ⟨x,H1,I1,r1,q1⟩=>chain_link (thn (hb pins s1 σ H1 _ I1 q1) fun u s2 ⟨y,H2,I2,r2,q2⟩=>
  thn (ho pins s2 σ H2 x y v u _ I2 r1 r2 q2) fun d s3 ⟨z,H3,I3,r3,k,e,q3⟩=>?_)) hm
 subst e;cases r3;refine wpAny_truthy_bool ?_;cases k with
 | false=>exact ite_ff ⟨.bl false,H3,I3,rfl,q3⟩
 | true=>exact ite_tt (chain_last (thn (hc pins s3 σ H3 _ I3 q3) fun w' s4 ⟨z',H4,I4,r4,q4⟩=>ho' pins s4 σ H4 y z' u w' Q I4 r2 r4 q4))
theorem K5{op op':CmpOp}{r r':R2}(ho:OpR X (compareOp op) r)(ho':OpR X (compareOp op') r')(ha:PE X a ta)(hb:PE X b tb)(hc:PE X c tc)
 (hm:lastMarks [op,op'] [b,c]=false:=by with_unfolding_all rfl):PT X (.Compare a [op,op'] [b,c] pos) (OH (GF r r' ta tb tc)):=by
 intro pins s σ H Q I h
 refine isTrue_chain (thn (ha pins s σ H _ I h) fun v s1 ⟨x,H1,I1,r1,q1⟩=>test_link (thn (hb pins s1 σ H1 _ I1 q1) fun u s2 ⟨y,H2,I2,r2,q2⟩=>
  thn (ho pins s2 σ H2 x y v u _ I2 r1 r2 q2) fun d s3 ⟨z,H3,I3,r3,k,e,q3⟩=>?_)) hm
 subst e;cases r3;refine wpAny_truthy_bool ?_;cases k with
 | false=>
   obtain⟨k',e',q'⟩:=q3;cases e';exact ite_ff ⟨H3,I3,q'⟩
 | true=>
   refine ite_tt (test_last (thn (hc pins s3 σ H3 _ I3 q3) fun w' s4 ⟨z',H4,I4,r4,q4⟩=>thn (ho' pins s4 σ H4 y z' u w' _ I4 r2 r4 q4) fun d' s5 ⟨z2,H5,I5,r5,k2,e2,q5⟩=>?_));subst e2;cases r5;exact wpAny_truthy_bool ⟨H5,I5,q5⟩
noncomputable def Mb(K:Sh)(x:V)(H:Hp)(k:Bool):Prop:=
 match x with
 | .non=>k=false
 | .bl b=>k=b
 | .int i=>k=(i != 0)
 | .str y=>y.length<=sizeLine/\k=((y.length:Int) != 0)
 | .byt y=>y.size<=sizeLine/\k=((y.size:Int) != 0)
 | .ref p=>(∃ xs,SqL K H p xs/\k=!xs.isEmpty)\/(∃ xs,SqT K H p xs/\k=!xs.isEmpty)\/∃ kvs,H p=some (.dK kvs)/\k=!kvs.isEmpty
 | _=>False
theorem GG{κ:Type}{kvs:List (κ×V)}{vs:List (κ×Value)}(r:KV kvs vs):(!vs.isEmpty)=!kvs.isEmpty:=by
 cases r<;>rfl
theorem D6{xs:List V}{its:List Value}(r:Vals xs its):(!its.toArray.isEmpty)=!xs.isEmpty:=by
 cases r<;>simp
theorem CP:(sizeLine:Nat)<2 ^ 63:=by rw[sizeLine_eq];decide
theorem PC:SM X (fun x H Q=>∃ k,Mb X.K x H k/\Q k H):=by
 intro pins s σ H x v Q I rx h;obtain⟨k,e,q⟩:=h;have hl:=CP;have hs:sizeLine=16777216:=sizeLine_eq;cases x with
 | non=>
   cases rx;have e':k=false:=e;subst e';exact truthy_none ⟨H,I,q⟩
 | bl b=>
   cases rx;have e':k=b:=e;subst e';exact wpAny_truthy_bool ⟨H,I,q⟩
 | int i=>
   obtain⟨t,rfl⟩:=rx;have e':k=(i != 0):=e;subst e';exact PySem.P.truthy_int ⟨H,I,q⟩
 | str y=>
   obtain⟨t,rfl⟩:=rx;obtain⟨hy,e'⟩:y.length<=sizeLine/\k=((y.length:Int) != 0):=e;subst e';exact PySem.P.truthy_str (by omega) ⟨H,I.tok _,q⟩
 | byt y=>
   obtain⟨t,rfl⟩:=rx;obtain⟨hy,e'⟩:y.size<=sizeLine/\k=((y.size:Int) != 0):=e;subst e';exact PySem.W.truthy_bytes (by omega) ⟨H,I.tok _,q⟩
 | ref p=>
   cases rx;have e':(∃ xs,SqL X.K H p xs/\k=!xs.isEmpty)\/(∃ xs,SqT X.K H p xs/\k=!xs.isEmpty)\/∃ kvs,H p=some (.dK kvs)/\k=!kvs.isEmpty:=e;rcases e' with⟨xs,hx,e'⟩ | ⟨xs,hx,e'⟩ | ⟨kvs,hx,e'⟩
   ·subst e';obtain⟨its,r,pl,hz⟩:=I.list hx;have hlen:=r.length;exact wpAny_truthy_list pl.isList (by simp only[Sq];omega) ⟨H,I.tok _,by rw[D6 r];exact q⟩
   ·subst e';obtain⟨its,r,pl,hz⟩:=I.tuple hx;have hlen:=r.length;exact truthy_tuple pl (by simp only[Sq];omega) ⟨H,I.tok _,by rw[D6 r];exact q⟩
   ·subst e';obtain⟨hz,hS,vs,r,m⟩:kvs.length<=sizeLine/\(p == sysModules)=false/\∃ vs,KV kvs vs/\s.heap.DictOf (Ct X.prog X.w) p vs:=I.hok p _ hx;have hlen:kvs.length=vs.length:=Paired.length r;exact wpAny_truthy_dict hS m (by omega) ⟨H,I.tok _,by rw[GG r];exact q⟩
 | _=>exact(show False from e).elim
theorem K6(ha:PE X a ta)(he:∀ whole,isTrue a X.env whole=(do let v <- whole;standAt a.pos;holding [v] (truthy v))):
 PT X a (fun σ H Q=>ta σ H fun x H'=>∃ k,Mb X.K x H' k/\Q k H'):=by
 intro pins s σ H Q I h;exact isTrue_plain (thn (ha pins s σ H _ I h) fun v s1 ⟨x,H1,I1,r1,q1⟩=>PC pins s1 σ H1 x v Q I1 r1 q1) (he _)
theorem Br{x:V}{us:List Value}(r:Vals [x] us):∃ u,us=[u]/\RelV x u:=by
 cases r with
 | cons r1 r2=>cases r2;exact⟨_,rfl,r1⟩
theorem OI{x y:V}{us:List Value}(r:Vals [x,y] us):∃ u w',us=[u,w']/\RelV x u/\RelV y w':=by
 cases r with
 | cons r1 r2=>
   cases r2 with
   | cons r3 r4=>cases r4;exact⟨_,_,rfl,r1,r3⟩
theorem K7:CallR X (.builtin "abs") (fun xs H Q=>∃ i,xs=[.int i]/\Q (.int (if i<0 then -i else i)) H):=by
 intro pins s σ H xs us Q I r h;obtain⟨i,rfl,q⟩:=h;obtain⟨u,rfl,t,rfl⟩:=Br r;exact call_abs_int fun u tk=>⟨.int (if i<0 then -i else i),H,I.tok _,⟨_,rfl⟩,q⟩
theorem Ij(hc:X.calm=true):CallR X (.builtin "max") (fun xs H Q=>∃ i j,xs=[.int i,.int j]/\Q (.int (if j>i then j else i)) H):=by
 intro pins s σ H xs us Q I r h;obtain⟨i,j,rfl,q⟩:=h;obtain⟨u,w',rfl,⟨t,rfl⟩,⟨t',rfl⟩⟩:=OI r;refine max_two_ints (I.ok.hd hc) fun h' tk k=>⟨_,H,I.kept k,?_,q⟩
 by_cases hj:j>i
 ·rw[if_pos hj,if_pos hj];exact⟨_,rfl⟩
 ·rw[if_neg hj,if_neg hj];exact⟨_,rfl⟩
theorem Il(hc:X.calm=true):CallR X (.builtin "min") (fun xs H Q=>∃ i j,xs=[.int i,.int j]/\Q (.int (if j<i then j else i)) H):=by
 intro pins s σ H xs us Q I r h;obtain⟨i,j,rfl,q⟩:=h;obtain⟨u,w',rfl,⟨t,rfl⟩,⟨t',rfl⟩⟩:=OI r;refine min_two_ints (I.ok.hd hc) fun h' tk k=>⟨_,H,I.kept k,?_,q⟩
 by_cases hj:j<i
 ·rw[if_pos hj,if_pos hj];exact⟨_,rfl⟩
 ·rw[if_neg hj,if_neg hj];exact⟨_,rfl⟩
theorem Im:CallR X (.type "int") (fun xs H Q=>(∃ i,xs=[.int i]/\Q (.int i) H)\/∃ k,xs=[.bl k]/\Q (.int (if k then 1 else 0)) H):=by
 intro pins s σ H xs us Q I r h;rcases h with⟨i,rfl,q⟩ | ⟨k,rfl,q⟩
 ·obtain⟨u,rfl,t,rfl⟩:=Br r;exact call_int_int ⟨.int i,H,I,⟨_,rfl⟩,q⟩
 ·obtain⟨u,rfl,r1⟩:=Br r;cases r1;exact call_int_bool ⟨.int (if k then 1 else 0),H,I.tok _,⟨_,rfl⟩,q⟩
end
open PySem PySem.Spec PyProof.Rows
structure ObjM(h:Heap)(x dx C:Addr)(mA:Str->Option Value):Prop where
 obj:h.get? x=some (PySem.W.instObj C dx)
 ns:h.Ns1 dx mA
 ne:dx≠x
theorem Io{h:Heap}{dx:Addr}{mA:Str->Option Value}(n:h.Ns1 dx mA):∃ od,h.get? dx=some od/\∀ name,PySem.W.lookIn name od=some (mA name):=by
 obtain⟨o,es,ep,ho,hd,hk,_,hm⟩:=n;refine⟨o,ho,fun name=>?_⟩;have e:=hm name;unfold nsFind findBy at e;rw[<-Array.find?_toList]at e;unfold PySem.W.lookIn;rw[hd];dsimp only;split
 ·rename_i y q;rw[q]at e;exact congrArg some e
 ·rename_i q;rw[q]at e
  have a:es.toList.any (·.refKey)=false:=by
   rw[List.any_eq_false];intro y hy;obtain⟨z,t,hkey⟩:=hk y (Array.mem_toList_iff.mp hy);simp[DictEntry.refKey,hkey]
  have a':¬ es.toList.any (·.refKey)=true:=by rw[a];exact Ss
  rw[if_neg a'];exact congrArg some e
theorem ObjM.look{h:Heap}{x dx C:Addr}{mA:Str->Option Value}(I:ObjM h x dx C mA):∃ od,PySem.W.InstAt h x (PySem.W.instObj C dx) C (some od)/\∀ name,PySem.W.lookIn name od=some (mA name):=
 let ⟨od,ho,hl⟩:=Io I.ns
 ⟨od,⟨I.obj,rfl,rfl,ho⟩,hl⟩
section
variable{P:Program}{w:World}{H H':Hp}{h h':Heap}{a C dx:Addr}{fs fs':List (Str×V)}
theorem Hb(hok:HOk P w H h)(e:H a=some (.ins C dx fs)):∃ mA,ObjM h a dx C mA/\(∀ f,RelO (fs.lookup f) (mA f))/\PySem.Within mA (fs.map (·.1))/\fs.length<=1000/\H dx=some (.own a):=by
 obtain⟨d,z,ne,ob,mA,n,r,q⟩:=(show ObjOk P w H h a (.ins C dx fs) from hok a _ e)
 exact⟨mA,⟨ob,n,ne⟩,r,q,z,d⟩
end
structure Cls(K:Sh)(C:Addr):Prop where
 pg:PySem.W.plainGet K C Str.empty=true
 hd:PySem.W.hasDictIn K C=true
 po:PySem.W.plainOver K C=true
 sa:PySem.W.findIn K (.ref C) "__setattr__"=some (some (.builtin "object.__setattr__"))
theorem Cls.get{K:Sh}{C:Addr}(c:Cls K C)(f:Str):PySem.W.plainGet K C f=true:=c.pg
section
variable{X:Cx}{pins:List (Addr×Obj)}{σ:St}{H:Hp}{s:Shared}{A:Around}{E:Value->Shared->Prop}{Q:Value->Shared->Prop}{c:Value}{b:Bool}
inductive TyOf(K:Sh)(H:Hp):V->Value->Prop where
 | non:TyOf K H .non (.type "NoneType")
 | bl (x:Bool):TyOf K H (.bl x) (.type "bool")
 | int (i:Int):TyOf K H (.int i) (.type "int")
 | str (x:Str):TyOf K H (.str x) (.type "str")
 | flt (x:UInt64):TyOf K H (.flt x) (.type "float")
 | lst {a:Addr} {xs:List V} (e:H a=some (.lst xs)):TyOf K H (.ref a) (.type "list")
 | frz {a:Addr} {o:Obj} {xs:List V} (e:H a=some (.frz o (.lst xs))):TyOf K H (.ref a) (.type "list")
 | tup {a:Addr} {xs:List V} (e:H a=some (.tup xs)):TyOf K H (.ref a) (.type "tuple")
 | dK {a:Addr} {kvs:List (Key×V)} (e:H a=some (.dK kvs)):TyOf K H (.ref a) (.type "dict")
 | dT {a:Addr} {kvs:List (List Key×V)} (e:H a=some (.dT kvs)):TyOf K H (.ref a) (.type "dict")
 | ins {a C dx:Addr} {fs:List (Str×V)} (e:H a=some (.ins C dx fs)) (cl:Cls K C) (ha:PySem.W.findIn K (.ref C) "__class__"=some (some (.builtin "object.__class__")))
    (hn:PySem.W.specialIn K (.builtin "object.__class__") "__get__"=some (some (.builtin "getset_descriptor.__get__"))) (htk:PySem.W.takesIn K (.builtin "object.__class__")=some true)
    (hm:PySem.W.mroIn K C (.type "object")=some true):TyOf K H (.ref a) (.ref C)
theorem Ip{x:V}{u t:Value}(I:Inv X pins σ H s)(rx:RelV x u)(ty:TyOf X.K H x t)(e:PySem.W.kitOne X.K t c=some b)(h:∀ tk,Q (.bool b) {s with toks:=tk}):
 wpAny (model X.prog X.w) A (call (.builtin "isinstance") [u,c]) Q E s:=by
 cases ty with
 | non=>cases(show u=Value.none from rx);exact PySem.W.kia_one PySem.W.kitx_none I.kIn True.intro e (fun z=>nomatch z) h
 | bl y=>cases(show u=Value.bool y from rx);exact PySem.W.kia_one PySem.W.kitx_bool I.kIn True.intro e (fun z=>nomatch z) h
 | int i=>obtain⟨t,q⟩:=(show ∃ t,u=Value.int i t from rx);cases q;exact PySem.W.kia_one PySem.W.kitx_int I.kIn True.intro e (fun z=>nomatch z) h
 | str y=>obtain⟨t,q⟩:=(show ∃ t,u=Value.str y t from rx);cases q;exact PySem.W.kia_one PySem.W.kitx_str I.kIn True.intro e (fun z=>nomatch z) h
 | flt y=>obtain⟨t,q⟩:=(show ∃ t,u=Value.float y t from rx);cases q;exact PySem.W.kia_one PySem.W.kitx_float I.kIn True.intro e (fun z=>nomatch z) h
 | @lst a xs ea=>
   cases(show u=Value.ref a from rx);obtain⟨_,_,n,_,h1⟩:=(show ObjOk X.prog X.w H s.heap a (.lst xs) from I.hok a _ ea)
   exact PySem.W.kia_one PySem.W.kitx_list I.kIn ⟨_,h1,rfl⟩ e (fun z=>nomatch z) h
 | @frz a ob xs ea=>
   cases(show u=Value.ref a from rx);obtain⟨_,_,_,n,_,h1⟩:=(show ObjOk X.prog X.w H s.heap a (.frz ob (.lst xs)) from I.hok a _ ea)
   exact PySem.W.kia_one PySem.W.kitx_list I.kIn ⟨_,h1,rfl⟩ e (fun z=>nomatch z) h
 | @tup a xs ea=>
   cases(show u=Value.ref a from rx);obtain⟨_,_,_,p⟩:=(show ObjOk X.prog X.w H s.heap a (.tup xs) from I.hok a _ ea)
   obtain⟨o,h1,h2,_⟩:=p;exact PySem.W.kia_one PySem.W.kitx_tuple I.kIn ⟨o,h1,h2⟩ e (fun z=>nomatch z) h
 | @dK a kvs ea=>
   cases(show u=Value.ref a from rx);obtain⟨_,_,vs,_,p⟩:=(show ObjOk X.prog X.w H s.heap a (.dK kvs) from I.hok a _ ea)
   obtain⟨o,es,ep,h1,h2,_⟩:=p;exact PySem.W.kia_one PySem.W.kitx_dict I.kIn ⟨o,h1,h2.1⟩ e (fun z=>nomatch z) h
 | @dT a kvs ea=>
   cases(show u=Value.ref a from rx);obtain⟨_,_,xs,_,o,es,ep,h1,h2,_⟩:=(show ObjOk X.prog X.w H s.heap a (.dT kvs) from I.hok a _ ea)
   exact PySem.W.kia_one PySem.W.kitx_dict I.kIn ⟨o,h1,h2.1⟩ e (fun z=>nomatch z) h
 | @ins a C dx fs ea cl ha hn htk hm=>
   cases(show u=Value.ref a from rx);obtain⟨mA,O,_⟩:=Hb I.hok ea;obtain⟨od,J,_⟩:=O.look;exact PySem.W.kia_one (PySem.W.kitx_own (cl.get _) cl.hd ha hn htk hm) I.kIn J e (fun z=>nomatch z) h
end
open PySem PySem.Spec PyProof.Rows
structure Room(k:Nat)(A:Around):Prop where
 hd:A.handled=none
 dp:A.depth+3 * k+5<recursionLimit
 un:A.units+16 * k+200<cLine
 gd:A.guards=some []
theorem Room.deeper{k:Nat}{A:Around}(r:Room (k+1) A)(env:Env):Room k (A.deeper env):=
 ⟨r.hd,by have:=r.dp;show A.depth+1+3 * k+5<_;omega,by have:=r.un;show A.units+3+16 * k+200<_;omega,r.gd⟩
theorem Room.depth{k:Nat}{A:Around}(r:Room k A):A.depth<recursionLimit:=by have:=r.dp;omega
noncomputable def SN:TA:=fun _ H Q=>Q [] H
noncomputable def OJ(ta:TE)(tr:TA):TA:=fun σ H Q=>ta σ H fun x H1=>tr σ H1 fun xs H2=>Q (x::xs) H2
section
variable{X:Cx}{e:Expr}{es:List Expr}{te:TE}{t:TA}{pos:Pos}
theorem CQ:PA X [] SN:=fun _ _ _ _ H Q I h=>Calls.spliced_nil ⟨[],H,I,.nil,h⟩
theorem Ac(ha:PE X e te)(hr:PA X es t)(hs:starEach (e::es) X.env=(false,eval e X.env)::starEach es X.env:=by rfl):PA X (e::es) (OJ te t):=by
 intro pos pins s σ H Q I h;rw[hs];show wpAny _ _ (spliced ((false,eval e X.env)::backTo pos (starEach es X.env))) _ _ s;refine Calls.spliced_cons (thn (ha pins s σ H _ I h) fun u s1 ⟨x,H1,I1,r1,q1⟩=>?_);exact thn (hr pos pins s1 σ H1 _ I1 q1) fun us s2 ⟨xs,H2,I2,r2,q2⟩=>⟨x::xs,H2,I2,.cons r1 r2,q2⟩
noncomputable def Qw(t:TA):TE:=fun σ H Q=>t σ H fun xs H1=>xs.length<=sizeLine/\∀ p,H1 p=none->Q (.ref p) (upd H1 p (.tup xs))
noncomputable def Qx(t:TA):TE:=fun σ H Q=>t σ H fun xs H1=>xs.length<=sizeLine/\∀ p,H1 p=none->Q (.ref p) (upd H1 p (.lst xs))
theorem PD{x1}(h:PA X es t):PE X (.Tuple es x1 pos) (Qw t):=by
 intro pins s σ H Q I hq;refine wpAny_Tuple_spliced (thn (h pos pins s σ H _ I hq) fun us s1 ⟨xs,H1,I1,r,z,q⟩=>⟨by rw[<-r.length];exact z,?_⟩);have hf:H1 s1.heap.objs.size=none:=I1.hok.fresh (Sr _);refine⟨.ref s1.heap.objs.size,upd H1 s1.heap.objs.size (.tup xs),I1.laid (t':=s1.toks) (fun b u e=>So _ e) (Sr _) ?_,rfl,q _ hf⟩;exact⟨z,us,r,⟨_,Sy _ rfl,rfl,_,rfl⟩⟩
theorem PF(h:PA X es t):PE X (.List es pos) (Qx t):=by
 intro pins s σ H Q I hq;refine wpAny_List_spliced (thn (h pos pins s σ H _ I hq) fun us s1 ⟨xs,H1,I1,r,z,q⟩=>⟨by rw[<-r.length];exact z,?_⟩);have hf:H1 s1.heap.objs.size=none:=I1.hok.fresh (Sr _);refine⟨.ref s1.heap.objs.size,upd H1 s1.heap.objs.size (.lst xs),I1.laid (t':=s1.toks) (fun b u e=>So _ e) (Sr _) ?_,rfl,q _ hf⟩;exact⟨z,us,0,r,Sy _ rfl⟩
end
noncomputable abbrev Sp:=List V->Hp->VK->XK->Prop
noncomputable abbrev CXT:=List Env->Hp->Shared->XK->Value->Shared->Prop
structure Env0(P:Program)(w:World)(K:Sh)(mg:Str->Option Value)(base:Heap)(A:Around)(outer:List Env)(s:Shared)(H:Hp):Prop where
 frames:A.frames=some outer
 mod:Mod K mg base
 bs:∀ b o,base.get? b=some o->s.heap.get? b=some o/\H b=none
 bsz:base.objs.size<=s.heap.objs.size
 funs:s.heap.FunFrames base outer
 frf:∀ b∈frs outer,H b=none
 hok:HOk P w H s.heap
 bare:AllBare s.gens
noncomputable def CE(outer:List Env)(P:Program)(w:World)(H:Hp)(s:Shared)(Q:VK)(u:Value)(s':Shared):Prop:=
 ∃ v H',s'.os=s.os/\AllBare s'.gens/\Un (frs outer) [] H H' s.heap s'.heap/\HOk P w H' s'.heap/\RelV v u/\Q v H'
noncomputable def CR(CX:CXT)(outer:List Env)(P:Program)(w:World)(H:Hp)(s:Shared)(Q:VK)(E:XK)(r:Result)(s':Shared):Prop:=
 match r with
 | .ok (.ret u)=>CE outer P w H s Q u s'
 | .ok _=>False
 | .error e=>CX outer H s E e s'
structure FnOk(P:Program)(w:World)(K:Sh)(mg:Str->Option Value)(base:Heap)(CX:CXT)(k:Nat)(f:Addr)(fd:FuncData)(ps:List Str)(sp:Sp):Prop where
 len:∀ vs H Q E,sp vs H Q E->vs.length=ps.length
 run:∀(A:Around) (outer:List Env) (s:Shared) (H:Hp) (args:Args) (us:List Value) (vs:List V) (Q:VK) (E:XK),Room k A->Env0 P w K mg base A outer s H->BindsTo s fd args (ps.zip us)->Vals vs us->sp vs H Q E->
  codeAny (model P w) A (.call (.ref f) args) (CR CX outer P w H s Q E) s
section
variable{X:Cx}{pins:List (Addr×Obj)}{σ:St}{H:Hp}{s s':Shared}
theorem Inv.env0(I:Inv X pins σ H s):Env0 X.prog X.w X.K X.mg X.base X.A X.stack s H:=
 ⟨I.ok.frames,I.ok.mod,I.bs,Td I.ok.bsz I.sz,I.stack,I.stkFree,I.hok,I.bare⟩
theorem Inv.after{Q:VK}{u:Value}(I:Inv X pins σ H s)(h:CE X.stack X.prog X.w H s Q u s'):EP X pins σ Q u s':=by
 obtain⟨v,H',os,bare,un,hok,r,q⟩:=h;obtain⟨hh,g,d,t,os'⟩:=s';obtain rfl:os'=s.os:=os;exact⟨v,H',I.call (h':=hh) (g':=g) (d':=d) (t':=t) (ch:=[]) un hok bare (fun b z=>absurd z (by simp)),r,q⟩
end
noncomputable def OK(sp:Sp)(dvs:List V)(E:XK)(t:TA):TE:=fun σ H Q=>t σ H fun vs H1=>sp (vs++dvs) H1 Q E
noncomputable def Binds(K:Sh)(fd:FuncData)(ps:List Str)(ds:List Value):Prop:=
 ∀(s:Shared) (us:List Value),K.In s.heap->(us++ds).length=ps.length->BindsTo s fd ⟨us,[]⟩ (ps.zip (us++ds))
theorem Binds.all{K:Sh}{fd:FuncData}{ps:List Str}(h:∀ us:List Value,us.length=ps.length->bindArgs fd ⟨us,[]⟩=pure (ps.zip us)):Binds K fd ps []:=fun s us _ hl=>by
 rw[UF]at hl ⊢;exact .of_eq (h us hl)
noncomputable def GH(CX:CXT)(X:Cx)(E:XK):Prop:=∀(pins:List (Addr×Obj)) (σ:St) (H:Hp) (s:Shared) (e:Value) (s':Shared),Inv X pins σ H s->CX X.stack H s E e s'->X.xe e s'
section
variable{X:Cx}{CX:CXT}{k:Nat}{f C:Addr}{fd:FuncData}{ps:List Str}{sp:Sp}{dvs:List V}{ds:List Value}{E:XK}{x m:Str}{p pos apos:Pos}{e o:Expr}{es:List Expr}{ta:TE}{t:TA}
theorem PH{pins:List (Addr×Obj)}{σ:St}{H:Hp}{s:Shared}{Q:VK}{us:List Value}{vs:List V}(F:FnOk X.prog X.w X.K X.mg X.base CX k f fd ps sp)(hr:Room k X.A)(hb:Binds X.K fd ps ds)(hd:Vals dvs ds)(hx:GH CX X E)
 (I:Inv X pins σ H s) (r:Vals vs us) (h:sp (vs++dvs) H Q E):wpAny (model X.prog X.w) X.A (call (.ref f) us) (EP X pins σ Q) X.xe s:=by
 have r2:Vals (vs++dvs) (us++ds):=r.append hd;have hl:(us++ds).length=ps.length:=by rw[<-r2.length];exact F.len _ _ _ _ h
 refine wpAny_call (codeAny_mono (F.run X.A X.stack s H ⟨us,[]⟩ (us++ds) (vs++dvs) Q E hr I.env0 (hb s us I.kIn hl) r2 h) fun r s' hq=>?_);cases r with
 | error e=>exact hx pins σ H s e s' I hq
 | ok fl=>
   cases fl with
   | ret u=>exact I.after hq
   | next=>exact False.elim hq
   | brk=>exact False.elim hq
   | cont=>exact False.elim hq
theorem Mc(F:FnOk X.prog X.w X.K X.mg X.base CX k f fd ps sp)(hr:Room k X.A)(hg:Gl X x)(hm:X.mg x=some (.ref f))(hk:PySem.W.keepIn X.K (.ref f)=true)(hb:Binds X.K fd ps ds)(hd:Vals dvs ds)(hx:GH CX X E)
 (ha:PA X (e::es) t) (hdb:(x == ("__debug__":Str))=false:=by decide) (he:starEach (e::es) X.env=(false,eval e X.env)::starEach es X.env:=by rfl) (hpl:(backTo pos (starEach es X.env)).any (·.1)=false:=by rfl):
 PE X (.Call (.Name x p) (e::es) [] pos) (OK sp dvs E t):=by
 intro pins s σ H Q I h;refine wpAny_Call_Name_kw (MR I hg hm ?_ hdb);refine PySem.W.callWith_K (h₀:=X.base) I.ok.mod.kin hk (thn (ha pos pins s σ H _ I h) fun us s1 ⟨vs,H1,I1,r,q⟩=>⟨I1.kIn,?_⟩) he hpl;exact PH F hr hb hd hx I1 r q
end
structure FnScope(N P:List Str)(sc:Scope):Prop where
 kind:sc.kind = .function
 co:sc.isCoroutine=false
 gen:sc.isGenerator=false
 nd:N.Nodup
 pre:N.take P.length=P
 par:∀ x∈P,sc.names.lookup x=some .local\/sc.names.lookup x=some .cell
 nofree:∀ y∈sc.names,y.2 ≠ .free
theorem Dl{kindOf:Str->Option NameKind}{x:Str}:∀{binds:List (Str×Value)} {m:Str->Option Value},(∀ v,(x,v)∉binds)->bindL kindOf binds m x=m x
 | [],_,_=>rfl
 | (n,v)::r,m,h=>by
   unfold bindL;rw[Dl fun w hw=>h w (Sz _ hw)];split
   ·have:x≠n:=by rintro rfl;exact h v TM
    simp[this]
   ·rfl
theorem Dm{kindOf:Str->Option NameKind}{x:Str}:∀{binds:List (Str×Value)} {m:Str->Option Value},(∀ v,(x,v)∉binds)->bindC kindOf binds m x=m x
 | [],_,_=>rfl
 | (n,v)::r,m,h=>by
   unfold bindC;rw[Dm fun w hw=>h w (Sz _ hw)];split
   ·rfl
   ·have:x≠n:=by rintro rfl;exact h v TM
    simp[this]
theorem Do{kindOf:Str->Option NameKind}{x:Str}{v:Value}:∀{P:List Str} {vs:List Value} {i:Nat} {m:Str->Option Value},P.Nodup->P[i]?=some x->vs[i]?=some v->kindOf x=some .local->
 bindL kindOf (P.zip vs) m x=some v
 | [],_,_,_,_,h,_,_=>by simp at h
 | _::_,[],_,_,_,_,h,_=>by simp at h
 | p::P,w::vs,0,m,nd,h1,h2,hk=>by
   simp at h1 h2;subst h1;subst h2;show bindL kindOf ((p,w)::P.zip vs) m p=_;unfold bindL;rw[Dl fun v hv=>(UX.mp nd).1 (Uh hv).1,if_pos hk];simp
 | p::P,w::vs,i+1,m,nd,h1,h2,hk=>by
   show bindL kindOf ((p,w)::P.zip vs) m x=_;unfold bindL;exact Do (i:=i) (UX.mp nd).2 (by simpa using h1) (by simpa using h2) hk
theorem Dp{kindOf:Str->Option NameKind}{x:Str}{v:Value}:∀{P:List Str} {vs:List Value} {i:Nat} {m:Str->Option Value},P.Nodup->P[i]?=some x->vs[i]?=some v->kindOf x≠some .local->
 bindC kindOf (P.zip vs) m x=some v
 | [],_,_,_,_,h,_,_=>by simp at h
 | _::_,[],_,_,_,_,h,_=>by simp at h
 | p::P,w::vs,0,m,nd,h1,h2,hk=>by
   simp at h1 h2;subst h1;subst h2;show bindC kindOf ((p,w)::P.zip vs) m p=_;unfold bindC;rw[Dm fun v hv=>(UX.mp nd).1 (Uh hv).1,if_neg hk];simp
 | p::P,w::vs,i+1,m,nd,h1,h2,hk=>by
   show bindC kindOf ((p,w)::P.zip vs) m x=_;unfold bindC;exact Dp (i:=i) (UX.mp nd).2 (by simpa using h1) (by simpa using h2) hk
noncomputable def start(N:List Str)(vs:List V):St:=vs.map some++Su (N.length - vs.length) none
noncomputable def GJ(CX:CXT)(P:Program)(w:World)(K:Sh)(mg:Str->Option Value)(base:Heap)(N:List Str)(qual:Str)(scope:Scope)(f:Addr)(cd:Value)(A:Around)(outer:List Env)(s:Shared)(H:Hp)(E:XK):Cx where
 prog:=P
 w:=w
 K:=K
 mg:=mg
 base:=base
 A:=A.deeper (envOfC qual scope s.heap.objs.size f cd)
 N:=N
 s₀:=s
 H₀:=H
 env:=envOfC qual scope s.heap.objs.size f cd
 outer:=outer
 stack:=envOfC qual scope s.heap.objs.size f cd::outer
 ex:=[]
 calm:=true
 fn:=fun _=>true
 pn:=[]
 xe:=fun e s'=>wpAny (model P w) (A.deeper (envOfC qual scope s.heap.objs.size f cd)) (leaving (envOfC qual scope s.heap.objs.size f cd) e) (fun _ s''=>CX outer H s E e s'') (fun e' s''=>CX outer H s E e' s'') s'
theorem Es{sc:Scope}{n:Nat}{x:Str}(h:sc.names.lookup x=some .cell):∃ c,(cellsFrom n sc.names []).lookup x=some c:=by
 have q:=PySem.W.cellsFrom_some sc.names n [] (.inl h);exact UQ.mp q
theorem Iq{CX:CXT}{P:Program}{w:World}{K:Sh}{mg:Str->Option Value}{base:Heap}{N ps:List Str}{qual:Str}{scope:Scope}{f:Addr}{cd:Value}{A:Around}{outer:List Env}{s s1:Shared}{H:Hp}{E:XK}{us:List Value}{vs:List V}
 (S:FnScope N ps scope) (hd:A.handled=none) (e0:Env0 P w K mg base A outer s H) (hl:vs.length=ps.length) (r:Vals vs us)
 (x:InCallC s s.heap.objs.size (bindL (envOfC qual scope s.heap.objs.size f cd).kindOf (ps.zip us) fun _=>none) (cellsFrom (s.heap.objs.size+1) scope.names []) (bindC (envOfC qual scope s.heap.objs.size f cd).kindOf (ps.zip us) fun _=>none) s1):
 Inv (GJ CX P w K mg base N qual scope f cd A outer s H E) [] (start N vs) H s1:=by
 have hpl:ps.length<=N.length:=by have:=congrArg Ul S.pre;rw[Tb]at this;omega
 obtain⟨h1,tk,rfl,hk⟩:=x.done;have noA:∀ b:Addr,b∉(GJ CX P w K mg base N qual scope f cd A outer s H E).ex:=fun b z=>absurd (show b∈([]:List Addr) from z) (by simp)
 refine⟨⟨e0.mod,S.kind,rfl,rfl,Sr _,fun y z c h1 h2=>?_,fun y hy=>?_,fun y c _ h=>?_,fun _=>hd,Around.frames_deeper e0.frames,.inr ⟨rfl,rfl⟩,fun b z=>absurd z (noA b),e0.bs,e0.bsz,fun b _ _=>noA b,fun b z=>absurd z (noA b),e0.funs,e0.frf⟩,
  rfl,e0.bare,Un.kept hk,⟨_,x.toInCall.ns,fun i y v h1 h2 h3=>?_⟩,fun y c h=>⟨_,x.cell y c h⟩,e0.hok.fresh (Sr _),fun y c h=>?_,fun p hp=>absurd (show p∈([]:List (Addr×Obj)) from hp) (by simp),e0.hok.kept hk,?_⟩
 ·exact name_of_addr x.apart (PySem.mem_of_lookup h1) (PySem.mem_of_lookup h2)
 ·have hy:scope.names.lookup y=some .cell\/scope.names.lookup y=some .free:=hy;rcases hy with hy | hy
  ·exact Es hy
  ·exact absurd rfl (S.nofree _ (PySem.mem_of_lookup hy))
 ·exact Um (x.above y c (PySem.mem_of_lookup h))
 ·have hi:i<vs.length:=by
   unfold start at h2;by_cases hi:i<vs.length
   ·exact hi
   ·rw[TZ (by simpa using hi)]at h2;rw[UU]at h2;split at h2<;>cases h2
  have ha:vs[i]?=some v:=by
   unfold start at h2;rw[T9 (by simpa using hi),TB]at h2;cases e:vs[i]? with
   | none=>rw[e]at h2;cases h2
   | some a=>rw[e]at h2;cases h2;rfl
  obtain⟨u,hu,rv⟩:=r.get ha
  have hp:ps[i]?=some y:=by
   rw[<-S.pre,VR (by omega)];exact h1
  have ndP:ps.Nodup:=by rw[<-S.pre];exact S.nd.sublist (Vu _ _)
  refine⟨u,rv,?_⟩;rcases S.par y (Sm hp) with k | k
  ·exact .inl ⟨k,Do ndP hp hu k⟩
  ·obtain⟨c,e⟩:=Es (n:=s.heap.objs.size+1) k;refine .inr ⟨.inl k,c,e,?_⟩;have q:=x.cell y c e;rw[Dp ndP hp hu (by show scope.names.lookup y≠_;rw[k];decide)]at q;exact q
 ·exact e0.hok.fresh (Um (x.above y c (PySem.mem_of_lookup h)))
 ·unfold start;show _=N.length;rw[Sl,Sk,UO];omega
theorem Qy{CX:CXT}{P:Program}{w:World}{K:Sh}{mg:Str->Option Value}{base:Heap}{k:Nat}{f:Addr}{name qual:Str}{params:Arguments}{body:List Stmt}{scope:Scope}{dV kV doc pm cdv ct oc:Value}{an od:Option Addr}
 {osl:Array (Option Value)} {N ps:List Str} {sp:Sp} (lk:K.lookup f=some ⟨oc,od,.func (PySem.W.fnOf name qual params body scope dV kV doc pm an cdv ct),osl⟩) (hcd:PySem.W.codeIn K cdv qual=true) (S:FnScope N ps scope)
 (len:∀ vs H Q E,sp vs H Q E->vs.length=ps.length)
 (hbody:∀(A:Around) (outer:List Env) (s:Shared) (H:Hp) (vs:List V) (Q:VK) (E:XK),Room k (A.deeper (envOfC qual scope s.heap.objs.size f cdv))->sp vs H Q E->
   ∃ t,PSs (GJ CX P w K mg base N qual scope f cdv A outer s H E) body t/\t {nx:=fun _ H'=>Q .non H',rt:=Q} (start N vs) H):
 FnOk P w K mg base CX (k+1) f (PySem.W.fnOf name qual params body scope dV kV doc pm an cdv ct) ps sp:=by
 refine⟨len,fun A outer s H args us vs Q E hr e0 hb r hsp=>?_⟩;have hl:=len _ _ _ _ hsp;have KX:K.In s.heap:=e0.mod.kin.keeps fun b o e=>(e0.bs b o e).1;have lim:s.heap.NoLimit:=e0.mod.nolimit.keeps fun b o e=>(e0.bs b o e).1
 have hkind:∀ y∈ps.zip us,scope.names.lookup y.1=some .local\/(scope.names.lookup y.1=some .cell/\((cellsFrom (s.heap.objs.size+1) scope.names []).lookup y.1).isSome=true):=fun⟨n,v⟩ hy=>by
  rcases S.par n (Uh hy).1 with q | q
  ·exact .inl q
  ·exact .inr ⟨q,PySem.W.cellsFrom_some _ _ _ (.inl q)⟩
 refine codeAny_call_function hr.depth (KX _ _ lk) rfl S.co S.gen rfl (PySem.W.codeRec_of KX hcd) (hb _ _ _ _ ?_);refine wpAny_newFunctionEnv_cells S.kind hkind fun env he s1 x=>?_;subst he;refine⟨lim.keeps x.toInCall.keep,codeAny_func ?_⟩;obtain⟨t,ht,hq⟩:=hbody A outer s H vs Q E (hr.deeper _) hsp;have I:Inv (GJ CX P w K mg base N qual scope f cdv A outer s H E) [] (start N vs) H s1:=Iq S hr.hd e0 hl r x;refine wpAny_mono (ht [] s1 (start N vs) H _ I hq) (fun fl s' hs=>?_) fun e s' hs=>hs
 have fin:∀{σ':St} {H':Hp} {v:V} {u:Value},Inv (GJ CX P w K mg base N qual scope f cdv A outer s H E) [] σ' H' s'->RelV v u->Q v H'->CE outer P w H s Q u s':=
  fun{σ' H' v u} J rv q=>⟨v,H',J.os,J.bare,J.base,J.hok,rv,q⟩
 cases fl with
 | ret u=>
   obtain⟨v,σ',H',J,rv,q⟩:=hs;exact fin J rv q
 | next=>
   obtain⟨σ',H',J,q⟩:=hs;exact fin (v:=V.non) (u:=Value.none) J rfl q
 | brk=>
   obtain⟨_,_,_,q⟩:=hs;exact False.elim q
 | cont=>
   obtain⟨_,_,_,q⟩:=hs;exact False.elim q
open PySem PySem.Spec PyProof.Rows
section
variable{X:Cx}{x:Str}{p pos:Pos}{e:Expr}{es:List Expr}{t:TA}{id T:String}{r:List V->Hp->VK->Prop}
noncomputable def tCB(r:List V->Hp->VK->Prop)(t:TA):TE:=fun σ H Q=>t σ H fun vs H1=>r vs H1 Q
theorem AK(hc:CallR X (.builtin id) r)(hg:Gl X x)(hm:X.mg x=none)(hv:bootBuiltins x=some (.builtin id))(ha:PA X (e::es) t)(hn:x≠"__name__":=by decide)(hdb:(x == ("__debug__":Str))=false:=by decide)
 (he:starEach (e::es) X.env=(false,eval e X.env)::starEach es X.env:=by rfl) (hpl:(backTo pos (starEach es X.env)).any (·.1)=false:=by rfl):PE X (.Call (.Name x p) (e::es) [] pos) (tCB r t):=by
 intro pins s σ H Q I h;refine wpAny_Call_Name_kw (BE I hg hm hv ?_ hn hdb);exact PyProof.Rows.callWith_builtin1 (thn (ha pos pins s σ H _ I h) fun us s1 ⟨vs,H1,I1,r1,q1⟩=>hc pins s1 σ H1 vs us Q I1 r1 q1) he hpl
theorem AS(hc:CallR X (.type T) r)(hg:Gl X x)(hm:X.mg x=none)(hv:bootBuiltins x=some (.type T))(ha:PA X (e::es) t)(hn:x≠"__name__":=by decide)(hdb:(x == ("__debug__":Str))=false:=by decide)
 (he:starEach (e::es) X.env=(false,eval e X.env)::starEach es X.env:=by rfl) (hpl:(backTo pos (starEach es X.env)).any (·.1)=false:=by rfl):PE X (.Call (.Name x p) (e::es) [] pos) (tCB r t):=by
 intro pins s σ H Q I h;refine wpAny_Call_Name_kw (BE I hg hm hv ?_ hn hdb);exact PyProof.Rows.callWith_type1 (thn (ha pos pins s σ H _ I h) fun us s1 ⟨vs,H1,I1,r1,q1⟩=>hc pins s1 σ H1 vs us Q I1 r1 q1) he hpl
end
end L2
namespace HT
open PySem PyProof.Rows
section
variable{prog:Program}{w:World}{A:Around}{E:Value->Shared->Prop}{s:Shared}
noncomputable def sIx(n d:Nat):Option Int->Nat
 | none=>d
 | some v=>if v<0 then (v+(n:Int)).toNat else min v.toNat n
theorem sIx_nat(n d k:Nat):sIx n d (some (k:Int))=min k n:=by
 show(if (k:Int)<0 then ((k:Int)+(n:Int)).toNat else min (k:Int).toNat n)=min k n;rw[if_neg (by omega),Uw]
theorem PJ(n d:Nat)(hd:d<=n)(o:Option Int):sIx n d o<=n:=by
 cases o with
 | none=>exact hd
 | some v=>
   show(if v<0 then (v+(n:Int)).toNat else min v.toNat n)<=n;by_cases hv:v<0
   ·rw[if_pos hv];omega
   ·rw[if_neg hv];exact Nat.min_le_right _ _
theorem Hc(v:Int)(n d:Nat):(if v<0 then max (v+(n:Int)) 0 else min v (n:Int))=((sIx n d (some v):Nat):Int):=by
 show(if v<0 then max (v+(n:Int)) 0 else min v (n:Int))=(((if v<0 then (v+(n:Int)).toNat else min v.toNat n):Nat):Int)
 by_cases hv:v<0
 ·simp only[if_pos hv];omega
 ·simp only[if_neg hv];omega
theorem GK(lo hi:Option Int)(n:Nat):Builtin.Slice.sliceAdjust lo hi 1 (n:Int)=(((sIx n 0 lo:Nat):Int),((sIx n n hi:Nat):Int)):=by
 have h1:¬ ((1:Int)<0):=by omega
 unfold Builtin.Slice.sliceAdjust;simp only[h1,if_false];refine Prod.ext ?_ ?_
 ·cases lo with
  | none=>rfl
  | some v=>exact Hc v n 0
 ·cases hi with
  | none=>rfl
  | some v=>exact Hc v n n
theorem GL(i j:Nat):Builtin.Slice.slicePlaces (i:Int) (j:Int) 1=j - i:=by
 unfold Builtin.Slice.slicePlaces;have h1:(1:Int)>0:=by omega
 simp only[h1,if_true,Int.ediv_one];split<;>omega
theorem D7{v:Value}{o:Option Int}{Q:Option Int->Shared->Prop}(p:IsPart v o)(h:Q o s):wpAny (model prog w) A (Builtin.Slice.slicePartIndex v) Q E s:=by
 cases p with
 | none=>exact slicePart_none h
 | int i t=>exact slicePart_int h
theorem Ao{sl:Addr}{vl vu:Value}{lo hi:Option Int}{n:Nat}{Q:Int×Int×Nat->Shared->Prop}(hs:s.heap.IsSliceOf sl vl vu .none)(pl:IsPart vl lo)(pu:IsPart vu hi)
 (h:Q (((sIx n 0 lo:Nat):Int),1,sIx n n hi - sIx n 0 lo) s):wpAny (model prog w) A (Builtin.Slice.sliceApplied (.ref sl) (pure (n:Int))) Q E s:=by
 obtain⟨os,hos,hcs,hds⟩:=id hs;unfold Builtin.Slice.sliceApplied Builtin.Slice.sliceFields;refine wpAny_bind (wpAny_bind (wpAny_field hos hds (x:=vl) rfl (wpAny_bind (wpAny_field hos hds (x:=vu) rfl (wpAny_bind (wpAny_field hos hds (x := .none) rfl (wpAny_pure ?_)))))));refine wpAny_bind (slicePart_none ?_);show wpAny _ _ (if ((1:Int) == 0)=true then _ else _) _ _ s;rw[if_neg (by decide)];refine wpAny_bind (D7 pl (wpAny_bind (D7 pu (wpAny_bind (wpAny_pure ?_)))));show wpAny _ _ (match Builtin.Slice.sliceAdjust lo hi 1 (n:Int) with | (lo,hi)=>pure (lo,(1:Int),Builtin.Slice.slicePlaces lo hi 1)) _ _ s;rw[GK lo hi n];show wpAny _ _ (pure (((sIx n 0 lo:Nat):Int),(1:Int),Builtin.Slice.slicePlaces ((sIx n 0 lo:Nat):Int) ((sIx n n hi:Nat):Int) 1)) _ _ s;rw[GL];exact wpAny_pure h
theorem K8(xs:Array Value)(i k:Nat):((Sx k).filterMap fun(m:Nat)=>xs[((i:Int)+(m:Int) * 1).toNat]?).toArray=((xs.toList.drop i).take k).toArray:=by
 have e:(fun(m:Nat)=>xs[((i:Int)+(m:Int) * 1).toNat]?)=fun m=>xs[i+m]?:=by
  funext m
  have:((i:Int)+(m:Int) * 1).toNat=i+m:=by omega
  rw[this]
 rw[e];have:=pick_run xs i k;rw[List.filterMap_map]at this;have e2:((fun x=>xs[x]?)∘fun x=>i+x)=fun m=>xs[i+m]?:=rfl;rw[e2]at this;rw[this]
theorem getItem_tuple_cut{t sl:Addr}{items:Array Value}{vl vu:Value}{lo hi:Option Int}{Q:Value->Shared->Prop}(ht:IsTup s.heap t items)(hs:s.heap.IsSliceOf sl vl vu .none)(pl:IsPart vl lo)(pu:IsPart vu hi)
 (hw:¬ (sIx items.size 0 lo=0/\sIx items.size items.size hi=items.size))
 (h:Q (.ref s.heap.objs.size) {s with heap:=s.heap.push {cls := .type "tuple",data := .seq ((items.toList.drop (sIx items.size 0 lo)).take (sIx items.size items.size hi - sIx items.size 0 lo)).toArray}})
 (hsz:items.size<=sizeLine):wpAny (model prog w) A (getItem (.ref t) (.ref sl)) Q E s:=by
 have htake:sizeOk (.seq ((items.toList.drop (sIx items.size 0 lo)).take (sIx items.size items.size hi - sIx items.size 0 lo)).toArray):=by
  show((items.toList.drop (sIx items.size 0 lo)).take (sIx items.size items.size hi - sIx items.size 0 lo)).toArray.size<=sizeLine;rw[Sq,Tb,Ti,Sv];omega
 have hj:sIx items.size items.size hi<=items.size:=PJ _ _ (Sr _) hi;obtain⟨os,hos,hcs,hds⟩:=id hs;have hTs:s.TypeIs (.ref sl) "slice":=⟨os,hos,hcs⟩
 unfold getItem
 try with_reducible refine wpAny_holding ?_
 first | refine wpAny_bind (wpAny_pure ?_) | skip
 refine wpAny_bind (wpAny_sequenceKey ht.typeIs (by decide) ?_)
 refine wpAny_bind (wpAny_callSpecial?_slot (name:=Str.ofString "__getitem__") ht.typeIs PyProof.Rows.slot_tuple_getitem
  (wpAny_call_entry PyProof.Rows.slot_tuple_getitem ht.typeIs entry_tuple_getitem ?_ (args_tuple_getitem _ _)))
 show wpAny _ _ (Builtin.Tuple.tupleItemsOf (.ref t) >>= _) _ _ s;refine wpAny_bind (tupleItemsOf_ ht ?_);refine wpAny_bind (wpAny_typeOf hTs ?_);rw[if_pos (by decide)];refine wpAny_bind (Ao hs pl pu ?_)
 have hno:¬ ((((sIx items.size 0 lo:Nat):Int) == 0&&(1:Int) == 1&&(sIx items.size items.size hi - sIx items.size 0 lo) == items.size)=true):=by
  intro q;rw[Si,Si]at q;have q1:((sIx items.size 0 lo:Nat):Int)=0:=eq_of_beq q.1.1;have q2:sIx items.size items.size hi - sIx items.size 0 lo=items.size:=eq_of_beq q.2;exact hw ⟨by omega,by omega⟩
 show wpAny _ _ (if (((sIx items.size 0 lo:Nat):Int) == 0&&(1:Int) == 1&&(sIx items.size items.size hi - sIx items.size 0 lo) == items.size)=true then _ else _) _ _ s;rw[if_neg hno,K8]
 first
  | exact wpAny_bind (m:=Builtin.Tuple.tupleExact _) (wpAny_newObj_type (wpAny_pure ⟨_,rfl,wpAny_pure h⟩) htake)
  | exact wpAny_bind (m:=Builtin.Tuple.tupleExact _) (wpAny_newObj_type (wpAny_bind (wpAny_pure (wpAny_pure ⟨_,rfl,wpAny_pure h⟩))) htake)
  | exact wpAny_bind (wpAny_bind (m:=Builtin.Tuple.tupleExact _) (wpAny_newObj_type (wpAny_pure (wpAny_pure ⟨_,rfl,wpAny_pure h⟩)) htake))
  | exact wpAny_bind (wpAny_bind (m:=Builtin.Tuple.tupleExact _) (wpAny_newObj_type (wpAny_pure ⟨_,rfl,wpAny_pure h⟩) htake))
end
end HT
namespace L2
open PySem PySem.Spec PyProof.Rows
noncomputable abbrev TO:=St->Hp->(Option Int->Hp->Prop)->Prop
noncomputable def PO(X:Cx)(e:Option Expr)(t:TO):Prop:=
 ∀(pins:List (Addr×Obj)) (s:Shared) (σ:St) (H:Hp) (Q:Option Int->Hp->Prop),Inv X pins σ H s->t σ H Q->
  wpAny (model X.prog X.w) X.A (evalPart e X.env) (fun u s'=>∃ o H',Inv X pins σ H' s'/\IsPart u o/\Q o H') X.xe s
noncomputable def Md:TO:=fun _ H Q=>Q none H
noncomputable def Qz(t:TE):TO:=fun σ H Q=>t σ H fun x H1=>∃ i,x = .int i/\Q (some i) H1
section
variable{X:Cx}{e:Expr}{te:TE}{lo hi:Option Expr}{tl th:TO}{pos p2:Pos}
theorem Me:PO X none Md:=by
 intro pins s σ H Q I h;rw[evalPart_none];exact wpAny_pure ⟨none,H,I,.none,h⟩
theorem Hd(h:PE X e te):PO X (some e) (Qz te):=by
 intro pins s σ H Q I hw;rw[evalPart_some];refine thn (h pins s σ H _ I hw) fun u s1 ⟨x,H1,I1,r1,q1⟩=>?_;obtain⟨i,rfl,q⟩:=q1;obtain⟨t,rfl⟩:=r1;exact⟨some i,H1,I1,.int i t,q⟩
noncomputable def SlR(X:Cx)(r:V->Option Int->Option Int->Hp->VK->Prop):Prop:=
 ∀(pins:List (Addr×Obj)) (s:Shared) (σ:St) (H:Hp) (x:V) (v vl vu:Value) (lo hi:Option Int) (sl:Addr) (Q:VK),Inv X pins σ H s->RelV x v->s.heap.IsSliceOf sl vl vu .none->IsPart vl lo->IsPart vu hi->r x lo hi H Q->
  ∃ T id,typeLookup (.type T) "__getitem__"=pure (some (.builtin id))/\s.TypeIs v T/\wpAny (model X.prog X.w) X.A (getItem v (.ref sl)) (EP X pins σ Q) X.xe s
theorem SlR.or{r r':V->Option Int->Option Int->Hp->VK->Prop}(h:SlR X r)(h':SlR X r'):SlR X (fun x lo hi H Q=>r x lo hi H Q\/r' x lo hi H Q):=by
 intro pins s σ H x v vl vu lo hi sl Q I rx hs pl pu q;rcases q with q | q
 ·exact h pins s σ H x v vl vu lo hi sl Q I rx hs pl pu q
 ·exact h' pins s σ H x v vl vu lo hi sl Q I rx hs pl pu q
noncomputable def tSl(r:V->Option Int->Option Int->Hp->VK->Prop)(te:TE)(tl th:TO):TE:=fun σ H Q=>te σ H fun x H1=>tl σ H1 fun l H2=>th σ H2 fun u H3=>r x l u H3 Q
theorem K9{r:V->Option Int->Option Int->Hp->VK->Prop}(hr:SlR X r)(he:PE X e te)(hl:PO X lo tl)(hu:PO X hi th):PE X (.Subscript e (.Slice lo hi none p2) pos) (tSl r te tl th):=by
 intro pins s σ H Q I h;refine Subscript_ (thn (he pins s σ H _ I h) fun v s1 ⟨x,H1,I1,r1,q1⟩=>?_);refine wpAny_Slice (thn (hl pins s1 σ H1 _ I1 q1) fun vl s2 ⟨l,H2,I2,pl,q2⟩=>thn (hu pins s2 σ H2 _ I2 q2) fun vu s3 ⟨u,H3,I3,pu,q3⟩=>?_);rw[evalPart_none];refine wpAny_pure ?_;have I4:Inv X pins σ H3 {s3 with heap:=s3.heap.push {cls := .type "slice",data := .fields #[vl,vu,.none]}}:=I3.kept (t':=s3.toks) fun b ob q=>So _ q;obtain⟨T,id,hT,ht,hg⟩:=hr pins {s3 with heap:=s3.heap.push {cls := .type "slice",data := .fields #[vl,vu,.none]}} σ H3 x v vl vu l u s3.heap.objs.size Q I4 r1 (WK.new ..) pl pu q3;show wpAny (model X.prog X.w) X.A (subscriptTail e (.Slice lo hi none p2) v (.ref s3.heap.objs.size)) (EP X pins σ Q) X.xe {s3 with heap:=s3.heap.push {cls := .type "slice",data := .fields #[vl,vu,.none]}};exact tail_any (ops:=[.ref s3.heap.objs.size,v]) ht hT hg (by with_unfolding_all rfl)
noncomputable def Et(xs:List V)(lo hi:Option Int):List V:=(xs.drop (HT.sIx xs.length 0 lo)).take (HT.sIx xs.length xs.length hi - HT.sIx xs.length 0 lo)
theorem Ck(xs:List V)(lo hi:Option Int):(Et xs lo hi).length<=xs.length:=by
 unfold Et;rw[Tb,Ti];omega
noncomputable def R0(K:Sh):V->Option Int->Option Int->Hp->VK->Prop:=fun x lo hi H Q=>∃ a xs,x = .ref a/\SqT K H a xs/\
 ¬ (HT.sIx xs.length 0 lo=0/\HT.sIx xs.length xs.length hi=xs.length)/\∀ p,H p=none->Q (.ref p) (upd H p (.tup (Et xs lo hi)))
theorem sl_tup:SlR X (R0 X.K):=by
 intro pins s σ H x v vl vu lo hi sl Q I rx hs pl pu h;obtain⟨a,xs,rfl,hx,hw,q⟩:=h;cases rx;obtain⟨its,r,ht,hz⟩:=I.tuple hx;have hlen:its.toArray.size=xs.length:=by rw[Sq];exact r.length.symm
 refine⟨"tuple",_,PyProof.Rows.slot_tuple_getitem.lookup,ht.typeIs,?_⟩;refine HT.getItem_tuple_cut ht hs pl pu (by rw[hlen];exact hw) ?_ (by rw[hlen];exact hz);rw[hlen];refine⟨.ref s.heap.objs.size,_,I.laid (t':=s.toks) (o := .tup (Et xs lo hi)) (fun b ob q=>So _ q) (Sr _) ?_,rfl,q _ (I.hok.fresh (Sr _))⟩;exact⟨Td (Ck xs lo hi) hz,_,(r.drop (HT.sIx xs.length 0 lo)).take (HT.sIx xs.length xs.length hi - HT.sIx xs.length 0 lo),IsTup.new _ _⟩
end
open PySem PySem.Spec PyProof.Rows
noncomputable def ixN(n:Nat)(i:Int):Option Nat:=if 0<=i then (if i<n then some i.toNat else none) else if -(n:Int)<=i then some (i+n).toNat else none
noncomputable def atI{α:Type}(xs:List α)(i:Int):Option α:=(ixN xs.length i).bind fun j=>xs[j]?
theorem He{n:Nat}{i:Int}{j:Nat}(h:ixN n i=some j):seqIndex? i n=some j/\j<n /\ -(n:Int)<=i/\i<n:=by
 unfold ixN at h;by_cases h0:0<=i
 ·rw[if_pos h0]at h;by_cases h1:i<n
  ·rw[if_pos h1]at h;have e:i.toNat=j:=oj h;exact⟨by rw[seqIndex_of h0 h1,e],by omega,by omega,h1⟩
  ·rw[if_neg h1]at h;cases h
 ·rw[if_neg h0]at h;by_cases h1:-(n:Int)<=i
  ·rw[if_pos h1]at h;have e:(i+n).toNat=j:=oj h;exact⟨by rw[seqIndex_neg (by omega) h1,e],by omega,h1,by omega⟩
  ·rw[if_neg h1]at h;cases h
theorem Hf{α:Type}{xs:List α}{i:Int}{v:α}(h:atI xs i=some v):∃ j,seqIndex? i xs.length=some j/\xs[j]?=some v/\j<xs.length /\ -(xs.length:Int)<=i/\i<xs.length:=by
 unfold atI at h;cases e:ixN xs.length i with
 | none=>rw[e]at h;cases h
 | some j=>
   rw[e]at h;obtain⟨h1,h2,h3,h4⟩:=He e;exact⟨j,h1,h,h2,h3,h4⟩
theorem i6{α:Type}{xs:List α}{j:Nat}{v:α}(h:xs[j]?=some v):atI xs (j:Int)=some v:=by
 have hj:j<xs.length:=(gM h).1
 have e:ixN xs.length (j:Int)=some j:=by
  unfold ixN;rw[if_pos (by omega),if_pos (by omega)];simp
 unfold atI;rw[e];exact h
theorem Eu{α:Type}(xs:List α)(v:α):atI (xs++[v]) (-1)=some v:=by
 have hl:(xs++[v]).length=xs.length+1:=by simp
 have e:ixN (xs++[v]).length (-1)=some xs.length:=by
  unfold ixN;rw[hl,if_neg (by decide),if_pos (by omega)]
  congr 1
  omega
 unfold atI;rw[e];show(xs++[v])[xs.length]?=some v;simp
noncomputable def Hg(b:Expr):Prop:=∀ o i,subscripted b false o i=operate [o,i] (getItem o i)
noncomputable def IxR(X:Cx)(r:R2):Prop:=
 ∀(value slice:Expr) (pins:List (Addr×Obj)) (s:Shared) (σ:St) (H:Hp) (x y:V) (v u:Value) (Q:VK),Inv X pins σ H s->RelV x v->RelV y u->r x y H Q->
  subscripted slice false v u=operate [v,u] (getItem v u)->wpAny (model X.prog X.w) X.A (subscriptTail value slice v u) (EP X pins σ Q) X.xe s
noncomputable def MtR(X:Cx)(id:String)(r:V->List V->Hp->VK->Prop):Prop:=
 ∀(pins:List (Addr×Obj)) (s:Shared) (σ:St) (H:Hp) (x:V) (xs:List V) (v:Value) (us:List Value) (Q:VK),Inv X pins σ H s->RelV x v->Vals xs us->r x xs H Q->
  wpAny (model X.prog X.w) X.A (call (.builtin id) (v::us)) (EP X pins σ Q) X.xe s
section
variable{X:Cx}{a b:Expr}{ta tb:TE}{pos:Pos}
theorem IxR.or{r r':R2}(h:IxR X r)(h':IxR X r'):IxR X (fun x y H Q=>r x y H Q\/r' x y H Q):=by
 intro value slice pins s σ H x y v u Q I rx ry q hs;rcases q with q | q
 ·exact h value slice pins s σ H x y v u Q I rx ry q hs
 ·exact h' value slice pins s σ H x y v u Q I rx ry q hs
theorem R3{r:R2}(hr:IxR X r)(ha:PE X a ta)(hb:PE X b tb)(hs:Hg b):PE X (.Subscript a b pos) (tOp r ta tb):=by
 intro pins s σ H Q I h;exact Subscript_ (P5 ha hb I h fun v u s2 x y H2 I2 rx ry q=>hr a b pins s2 σ H2 x y v u Q I2 rx ry q (hs _ _))
noncomputable def R4(K:Sh):R2:=fun x y H Q=>∃ p xs i v,x = .ref p/\y = .int i/\SqL K H p xs/\atI xs i=some v/\Q v H
noncomputable def R5(K:Sh):R2:=fun x y H Q=>∃ p xs i v,x = .ref p/\y = .int i/\SqT K H p xs/\atI xs i=some v/\Q v H
theorem ix_list:IxR X (R4 X.K):=by
 intro value slice pins s σ H x y v u Q I rx ry h hs;obtain⟨p,xs,i,z,rfl,rfl,hq,he,q⟩:=h;cases rx;obtain⟨t,rfl⟩:=ry;obtain⟨its,r,pl,hz⟩:=I.list hq;obtain⟨j,h1,h2,h3,h4,h5⟩:=Hf he;obtain⟨w,ew,rw'⟩:=r.get h2;have hl:=r.length;have hn:=CP;have fin:EP X pins σ Q w s:=⟨z,H,I,rw',q⟩
 by_cases h0:0<=i
 ·have hj:i.toNat=j:=by
   rw[seqIndex_of h0 h5]at h1;exact oj h1
  exact item_listR pl.isList h0 (by omega) (by rw[hj];simpa using ew) fin hs
 ·have hj:(i+(its.toArray.size:Int)).toNat=j:=by
   rw[seqIndex_neg (by omega) h4]at h1;rw[Sq,<-hl];exact oj h1
  exact subscriptTail_builtinR (x:=w) pl.isList.typeIs slot_list_getitem.lookup
   (wpAny_getItem_list_neg (Q:=fun r s'=>r=w/\EP X pins σ Q r s') pl.isList (by omega) (by rw[Sq]<;>omega) (by omega) (by rw[hj];simpa using ew) ⟨rfl,fin⟩) hs
theorem PK:IxR X (R5 X.K):=by
 intro value slice pins s σ H x y v u Q I rx ry h hs;obtain⟨p,xs,i,z,rfl,rfl,hq,he,q⟩:=h;cases rx;obtain⟨t,rfl⟩:=ry;obtain⟨its,r,pl,hz⟩:=I.tuple hq;obtain⟨j,h1,h2,h3,h4,h5⟩:=Hf he;obtain⟨w,ew,rw'⟩:=r.get h2;have hl:=r.length;have hn:=CP;have fin:EP X pins σ Q w s:=⟨z,H,I,rw',q⟩
 exact subscriptTail_builtinR (x:=w) pl.typeIs slot_tuple_getitem.lookup
  (getItem_tuple (j:=j) (Q:=fun r s'=>r=w/\EP X pins σ Q r s') pl (by omega) (by omega) (by rw[Sq,<-hl];exact h1) (by simpa using ew) ⟨rfl,fin⟩) hs
theorem GM(its:List Value)(n j:Nat)(u:Value):Obj.mapSeq (·.setIfInBounds j u) {cls := .type "list",data := .seq its.toArray n}={cls := .type "list",data := .seq (its.set j u).toArray n}:=by
 simp[Obj.mapSeq]
theorem Inv.lst{pins:List (Addr×Obj)}{σ:St}{H:Hp}{s:Shared}{p:Addr}{xs:List V}(I:Inv X pins σ H s)(h:H p=some (.lst xs)):
 ∃(its:List Value) (n:Nat),Vals xs its/\s.heap.get? p=some {cls := .type "list",data := .seq its.toArray n}/\xs.length<=sizeLine:=by
 obtain⟨z,its,n,r,e⟩:=I.hok p _ h;exact⟨its,n,r,e,z⟩
theorem Inv.lstUpd{pins:List (Addr×Obj)}{σ:St}{H:Hp}{s:Shared}{p:Addr}{xs ys:List V}{its its':List Value}{n n':Nat}{f:Obj->Obj}(I:Inv X pins σ H s)(h:H p=some (.lst xs))
 (ho:s.heap.get? p=some {cls := .type "list",data := .seq its.toArray n}) (hf:f {cls := .type "list",data := .seq its.toArray n}={cls := .type "list",data := .seq its'.toArray n'}) (r:Vals ys its') (hz:ys.length<=sizeLine) (t:Nat):
 Inv X pins σ (upd H p (.lst ys)) {s with heap:=s.heap.update p f,toks:=t}:=by
 have e:(s.heap.update p f).get? p=some {cls := .type "list",data := .seq its'.toArray n'}:=by
  rw[Tu f ho (by rw[hf]<;>rfl),hf]
 refine I.write (x:=p) (e:=p) (by rw[h];trivial) (.inl rfl) (fun b u hb q=>(U3 _ _ (Ne.symm hb)).trans q) ⟨_,e⟩ ?_;exact⟨hz,its',n',r,e⟩
noncomputable def KA:V->V->V->Hp->(Hp->Prop)->Prop:=fun o i v H Q=>∃ p xs k j,o = .ref p/\i = .int k/\H p=some (.lst xs)/\ixN xs.length k=some j/\Q (upd H p (.lst (xs.set j v)))
theorem KB:Qj X KA:=by
 intro pins s σ H o i v ov iv u Q I ro ri rv h;obtain⟨p,xs,k,j,rfl,rfl,hp,hj,q⟩:=h;cases ro;obtain⟨t,rfl⟩:=ri;obtain⟨its,n,r,ho,hz⟩:=I.lst hp;obtain⟨h1,h2,h3,h4⟩:=He hj;have hl:=r.length;have hn:=CP
 have I':Inv X pins σ (upd H p (.lst (xs.set j v))) {s with heap:=s.heap.update p (Obj.mapSeq (·.setIfInBounds j u))}:=
  I.lstUpd hp ho (GM its n j u) (r.set rv j) (by rw[Tc];exact hz) s.toks
 by_cases h0:0<=k
 ·have hk:k.toNat=j:=by
   rw[seqIndex_of h0 h4]at h1;exact oj h1
  exact PySem.W.ki_setAt ho h0 (by omega) (by rw[Sq,<-hl];exact h4) (by rw[hk];exact⟨_,I',q⟩)
 ·have hk:(k+(its.toArray.size:Int)).toNat=j:=by
   rw[seqIndex_neg (by omega) h3]at h1;rw[Sq,<-hl];exact oj h1
  exact PySem.W.ki_setBack ho (by omega) (by rw[Sq,<-hl];exact h3) (by omega) (by rw[hk];exact⟨_,I',q⟩)
theorem EC(lo hi:Option Int)(n:Nat):(sliceBounds lo hi none n).1=((HT.sIx n 0 lo:Nat):Int)/\(sliceBounds lo hi none n).2.1=((HT.sIx n n hi:Nat):Int)/\(sliceBounds lo hi none n).2.2=1:=by
 refine⟨?_,?_,rfl⟩
 ·cases lo with
  | none=>simp[sliceBounds,HT.sIx]
  | some i=>
    simp only[sliceBounds,HT.sIx,VT,show(1:Int)>0 by decide,if_true];by_cases h:i<0
    ·simp only[h,if_true]<;>omega
    ·simp only[h,if_false]<;>omega
 ·cases hi with
  | none=>simp[sliceBounds,HT.sIx]
  | some i=>
    simp only[sliceBounds,HT.sIx,VT,show(1:Int)>0 by decide,if_true];by_cases h:i<0
    ·simp only[h,if_true]<;>omega
    ·simp only[h,if_false]<;>omega
theorem Dc(its:List Value)(lo hi:Option Int):slicePick its.toArray lo hi none=((its.drop (HT.sIx its.length 0 lo)).take (HT.sIx its.length its.length hi - HT.sIx its.length 0 lo)).toArray:=by
 obtain⟨h1,h2,h3⟩:=EC lo hi its.toArray.size;unfold slicePick;rw[h1,h2,h3];simp only[sliceRange_one,pick_run,Sq]<;>rfl
noncomputable def R6(K:Sh):V->Option Int->Option Int->Hp->VK->Prop:=fun x lo hi H Q=>∃ a xs,x = .ref a/\SqL K H a xs/\∀ p,H p=none->Q (.ref p) (upd H p (.lst (Et xs lo hi)))
theorem sl_list:SlR X (R6 X.K):=by
 intro pins s σ H x v vl vu lo hi sl Q I rx hs pl pu h;obtain⟨a,xs,rfl,hx,q⟩:=h;cases rx;obtain⟨its,r,ht,hz⟩:=I.list hx;have hlen:=r.length;refine⟨"list",_,slot_list_getitem.lookup,ht.isList.typeIs,?_⟩;refine wpAny_getItem_list_slice ht.isList hs pl pu .none (by simp) ?_ (by rw[Sq]<;>omega);rw[Dc,<-hlen];refine⟨.ref s.heap.objs.size,_,I.laid (t':=s.toks) (o := .lst (Et xs lo hi)) (fun b ob q=>So _ q) (Sr _) ?_,rfl,q _ (I.hok.fresh (Sr _))⟩;exact⟨Td (Ck xs lo hi) hz,_,0,(r.drop (HT.sIx xs.length 0 lo)).take (HT.sIx xs.length xs.length hi - HT.sIx xs.length 0 lo),Sy _ rfl⟩
noncomputable def y9:V->Bool
 | .non=>true
 | .bl _=>true
 | .int _=>true
 | .str _=>true
 | _=>false
noncomputable def eqV:V->V->Bool
 | .non,.non=>true
 | .bl a,.bl b=>a == b
 | .bl a,.int b=>(if a then 1 else 0) == b
 | .int a,.bl b=>a == (if b then 1 else 0)
 | .int a,.int b=>a == b
 | .str a,.str b=>a == b
 | _,_=>false
theorem KC{A:Around}{s:Shared}{y x:V}{u v:Value}(ry:RelV y u)(rx:RelV x v)(fy:y9 y=true)(fx:y9 x=true):SeqAt.EqAt A s u v (eqV y x):=by
 cases y with
 | non=>
   cases ry;cases x with
   | non=>cases rx;exact SeqAt.EqAt.same _
   | bl b=>cases rx;exact SeqAt.EqAt.none_bool b
   | int b=>obtain⟨t,rfl⟩:=rx;exact SeqAt.EqAt.none_int b t
   | str b=>obtain⟨t,rfl⟩:=rx;exact SeqAt.EqAt.none_str b t
   | _=>exact absurd (show false=true from fx) Ss
 | bl a=>
   cases ry;cases x with
   | non=>cases rx;exact SeqAt.EqAt.bool_none a
   | bl b=>cases rx;exact SeqAt.EqAt.bool_bool a b
   | int b=>obtain⟨t,rfl⟩:=rx;exact SeqAt.EqAt.bool_int a b t
   | str b=>obtain⟨t,rfl⟩:=rx;exact SeqAt.EqAt.bool_str a b t
   | _=>exact absurd (show false=true from fx) Ss
 | int a=>
   obtain⟨t',rfl⟩:=ry;cases x with
   | non=>cases rx;exact SeqAt.EqAt.int_none a t'
   | bl b=>cases rx;exact SeqAt.EqAt.int_bool a t' b
   | int b=>obtain⟨t,rfl⟩:=rx;exact SeqAt.EqAt.int_int a t' b t
   | str b=>obtain⟨t,rfl⟩:=rx;exact SeqAt.EqAt.int_str a t' b t
   | _=>exact absurd (show false=true from fx) Ss
 | str a=>
   obtain⟨t',rfl⟩:=ry;cases x with
   | non=>cases rx;exact SeqAt.EqAt.str_none a t'
   | bl b=>cases rx;exact SeqAt.EqAt.str_bool a t' b
   | int b=>obtain⟨t,rfl⟩:=rx;exact SeqAt.EqAt.str_int a t' b t
   | str b=>obtain⟨t,rfl⟩:=rx;exact SeqAt.EqAt.str_str a t' b t
   | _=>exact absurd (show false=true from fx) Ss
 | _=>exact absurd (show false=true from fy) Ss
noncomputable def eqU(x:V)(u:Value):Bool:=match u with
 | .none=>eqV .non x
 | .bool b=>eqV (.bl b) x
 | .int i _=>eqV (.int i) x
 | .str z _=>eqV (.str z) x
 | _=>false
theorem KD{x y:V}{u:Value}(r:RelV y u)(f:y9 y=true):eqU x u=eqV y x:=by
 cases y with
 | non=>cases r;rfl
 | bl b=>cases r;rfl
 | int i=>obtain⟨t,rfl⟩:=r;rfl
 | str z=>obtain⟨t,rfl⟩:=r;rfl
 | _=>exact absurd (show false=true from f) Ss
theorem C5{x:V}:∀{xs:List V} {us:List Value},Vals xs us->xs.all y9=true->us.any (eqU x)=xs.any fun y=>eqV y x
 | _,_,.nil,_=>rfl
 | y::xs,u::us,.cons r t,f=>by
   rw[UB,Si]at f;rw[UZ,UZ,KD r f.1,C5 t f.2]
theorem BG{A:Around}{s:Shared}{x:V}{v:Value}(rx:RelV x v)(fx:y9 x=true):∀{xs:List V} {us:List Value},Vals xs us->xs.all y9=true->∀ u∈us,SeqAt.EqAt A s u v (eqU x u)
 | _,_,.nil,_=>fun u hu=>by cases hu
 | y::xs,u::us,.cons r t,f=>fun u' hu=>by
   rw[UB,Si]at f;rcases TC.mp hu with rfl | hu
   ·rw[KD r f.1];exact KC r rx f.1 fx
   ·exact BG rx fx t f.2 u' hu
noncomputable def inV(x:V)(xs:List V):Bool:=xs.any fun y=>eqV y x
noncomputable def rIn(K:Sh)(neg:Bool):R2:=fun x y H Q=>∃ p xs,y = .ref p/\(SqL K H p xs\/SqT K H p xs)/\y9 x=true/\xs.all y9=true/\Q (.bl (if neg then !inV x xs else inV x xs)) H
theorem Ir:OpR X (compareOp .In) (rIn X.K false):=by
 intro pins s σ H x y v u Q I rx ry h;obtain⟨p,xs,rfl,hq,fx,fs,q⟩:=h;cases ry;rcases hq with hq | hq
 ·obtain⟨its,r,pl,hz⟩:=I.list hq;refine SeqAt.in_listAt (eqU x) pl.isList (fun w hw=>BG rx fx r fs w (by simpa using hw)) ⟨.bl _,H,I,rfl,?_⟩;rw[show its.toArray.any (eqU x)=its.any (eqU x) by simp,C5 r fs];exact q
 ·obtain⟨its,r,pl,hz⟩:=I.tuple hq;refine SeqAt.in_tupleAt (eqU x) pl (fun w hw=>BG rx fx r fs w (by simpa using hw)) ⟨.bl _,H,I,rfl,?_⟩;rw[show its.toArray.any (eqU x)=its.any (eqU x) by simp,C5 r fs];exact q
theorem ED:OpR X (compareOp .NotIn) (rIn X.K true):=by
 intro pins s σ H x y v u Q I rx ry h;obtain⟨p,xs,rfl,hq,fx,fs,q⟩:=h;cases ry;rcases hq with hq | hq
 ·obtain⟨its,r,pl,hz⟩:=I.list hq;refine SeqAt.notIn_listAt (eqU x) pl.isList (fun w hw=>BG rx fx r fs w (by simpa using hw)) ⟨.bl _,H,I,rfl,?_⟩;rw[show its.toArray.any (eqU x)=its.any (eqU x) by simp,C5 r fs];exact q
 ·obtain⟨its,r,pl,hz⟩:=I.tuple hq;refine SeqAt.notIn_tupleAt (eqU x) pl (fun w hw=>BG rx fx r fs w (by simpa using hw)) ⟨.bl _,H,I,rfl,?_⟩;rw[show its.toArray.any (eqU x)=its.any (eqU x) by simp,C5 r fs];exact q
theorem EF:CallR X (.builtin "len") (fun xs H Q=>∃ p ys,xs=[.ref p]/\(SqL X.K H p ys\/SqT X.K H p ys)/\Q (.int ys.length) H):=by
 intro pins s σ H xs us Q I r h;obtain⟨p,ys,rfl,hq,q⟩:=h;obtain⟨u,rfl,rx⟩:=Br r;cases rx;have hn:=CP;rcases hq with hq | hq
 ·obtain⟨its,r',pl,hz⟩:=I.list hq;have hlen:=r'.length;exact Calls.call_len_list pl.isList (by simp only[Sq]<;>omega) ⟨.int ys.length,H,I.tok _,⟨s.toks+1,by rw[Sq,hlen]⟩,q⟩
 ·obtain⟨its,r',pl,hz⟩:=I.tuple hq;have hlen:=r'.length;exact len_tuple pl (by simp only[Sq]<;>omega) ⟨.int ys.length,H,I.tok _,⟨s.toks+1,by rw[Sq,hlen]⟩,q⟩
theorem CallR.or{f:Value}{r r':List V->Hp->VK->Prop}(h:CallR X f r)(h':CallR X f r'):CallR X f (fun xs H Q=>r xs H Q\/r' xs H Q):=by
 intro pins s σ H xs us Q I rs q;rcases q with q | q
 ·exact h pins s σ H xs us Q I rs q
 ·exact h' pins s σ H xs us Q I rs q
theorem EG:CallR X (.type "list") (fun xs H Q=>∃ p ys,xs=[.ref p]/\(SqL X.K H p ys\/SqT X.K H p ys)/\∀ l,H l=none->Q (.ref l) (upd H l (.lst ys))):=by
 intro pins s σ H xs us Q I r h;obtain⟨p,ys,rfl,hq,q⟩:=h;obtain⟨u,rfl,rx⟩:=Br r;cases rx
 have fin:∀(its:List Value),Vals ys its->ys.length<=sizeLine->∀(h':Heap) (c':Nat),(∀ b o',s.heap.get? b=some o'->h'.get? b=some o')->
  h'.get? s.heap.objs.size=some {cls := .type "list",dict:=none,data := .seq its.toArray c',slots:=#[]}->EP X pins σ Q (.ref s.heap.objs.size) {s with heap:=h'}:=fun its r' hz h' c' kp e=>
  ⟨.ref s.heap.objs.size,_,I.laid (t':=s.toks) kp (Sr _) (show ObjOk X.prog X.w _ h' _ (.lst ys) from ⟨hz,its,c',r',e⟩),rfl,q _ (I.hok.fresh (Sr _))⟩
 rcases hq with hq | hq
 ·obtain⟨its,r',pl,hz⟩:=I.list hq;have hlen:=r'.length;obtain⟨o,ho,hc,n,hd⟩:=pl.isList;exact call_list_seq p (.inl rfl) ho hc hd (fun h' c' kp e=>fin its r' hz h' c' kp e) (by simp only[Sq]<;>omega)
 ·obtain⟨its,r',pl,hz⟩:=I.tuple hq;have hlen:=r'.length;obtain⟨o,ho,hc,n,hd⟩:=pl;exact call_list_seq p (.inr rfl) ho hc hd (fun h' c' kp e=>fin its r' hz h' c' kp e) (by simp only[Sq]<;>omega)
theorem Dd:CallR X (.type "tuple") (fun xs H Q=>∃ p ys,xs=[.ref p]/\((SqL X.K H p ys/\∀ l,H l=none->Q (.ref l) (upd H l (.tup ys)))\/(SqT X.K H p ys/\Q (.ref p) H))):=by
 intro pins s σ H xs us Q I r h;obtain⟨p,ys,rfl,h⟩:=h;obtain⟨u,rfl,rx⟩:=Br r;cases rx;rcases h with⟨hq,q⟩ | ⟨hq,q⟩
 ·obtain⟨its,r',pl,hz⟩:=I.list hq;have hlen:=r'.length;refine call_tuple_list pl.isList (fun h' kp=>?_) (by simp only[Sq]<;>omega);have I1:Inv X pins σ H {s with heap:=h'}:=I.kept (t':=s.toks) kp
  have I2:Inv X pins σ (upd H h'.objs.size (.tup ys)) {s with heap:=h'.push {cls := .type "tuple",data := .seq its.toArray}}:=
   I1.laid (t':=s.toks) (fun b o e=>So _ e) (Sr _) (show ObjOk X.prog X.w _ _ _ (.tup ys) from ⟨hz,its,r',IsTup.new _ _⟩)
  exact⟨.ref h'.objs.size,_,I2,rfl,q _ (I1.hok.fresh (Sr _))⟩
 ·obtain⟨its,r',pl,hz⟩:=I.tuple hq;exact call_tuple_same pl ⟨.ref p,H,I,rfl,q⟩
noncomputable def tyV(K:Sh)(T:String)(x:V)(H:Hp):Prop:=match x with
 | .str _=>T="str"
 | .int _=>T="int"
 | .ref p=>(T="list"/\∃ xs,SqL K H p xs)\/(T="tuple"/\∃ o,K.lookup p=some o/\o.cls = .type "tuple"/\o.dict=none)\/
    (T="dict"/\((∃ kvs,H p=some (.dK kvs))\/∃ kvs,H p=some (.dT kvs)))\/(T="set"/\∃ S n,H p=some (.set S n))
 | _=>False
theorem KF{pins:List (Addr×Obj)}{σ:St}{H:Hp}{s:Shared}{T:String}{x:V}{v:Value}(I:Inv X pins σ H s)(r:RelV x v)(ty:tyV X.K T x H):
 s.TypeIs v T/\∀ a,v = .ref a->∃ ob,s.heap.get? a=some ob/\ob.dict=none:=by
 cases x with
 | str z=>
   obtain⟨t,rfl⟩:=r;cases(show T="str" from ty);exact⟨typeIs_str s z t,fun _ e=>nomatch e⟩
 | int i=>
   obtain⟨t,rfl⟩:=r;cases(show T="int" from ty);exact⟨typeIs_int s i t,fun _ e=>nomatch e⟩
 | ref p=>
   cases r;rcases ty with⟨rfl,xs,hq⟩ | ⟨rfl,o,hk,hc,hd⟩ | ⟨rfl,hk⟩ | ⟨rfl,S,n,hk⟩
   ·obtain⟨its,_,pl,_⟩:=I.list hq;refine⟨pl.isList.typeIs,fun a e=>?_⟩;cases e;obtain⟨o,n,e,c,hd,_⟩:=pl;exact⟨o,e,hd⟩
   ·refine⟨⟨o,I.kIn p o hk,hc⟩,fun a e=>?_⟩;cases e;exact⟨o,I.kIn _ o hk,hd⟩
   ·have z:∃ o,s.heap.get? p=some o/\o.ExactDict:=by
     rcases hk with⟨kvs,hk⟩ | ⟨kvs,hk⟩
     ·obtain⟨_,_,_,_,o,_,_,e,ex,_⟩:=I.hok p _ hk;exact⟨o,e,ex⟩
     ·obtain⟨_,_,_,_,o,_,_,e,ex,_⟩:=I.hok p _ hk;exact⟨o,e,ex⟩
    obtain⟨o,e,ex⟩:=z;refine⟨⟨o,e,ex.1⟩,fun a e2=>?_⟩;cases e2;exact⟨o,e,ex.2.1⟩
   ·obtain⟨o,_,_,_,e,ex,_⟩:=I.hok p _ hk;refine⟨⟨o,e,ex.1⟩,fun a e2=>?_⟩;cases e2;exact⟨o,e,ex.2.1⟩
 | _=>exact False.elim ty
noncomputable def PL(K:Sh)(T:String)(r:V->List V->Hp->VK->Prop)(to:TE):TE:=fun σ H Q=>to σ H fun x H1=>tyV K T x H1/\r x [] H1 Q
noncomputable def tBM(K:Sh)(T:String)(r:V->List V->Hp->VK->Prop)(to:TE)(t:TA):TE:=fun σ H Q=>to σ H fun x H1=>tyV K T x H1/\t σ H1 fun xs H2=>r x xs H2 Q
variable{o e:Expr}{es:List Expr}{to:TE}{t:TA}{name:Str}{apos cpos:Pos}{T id:String}{r:V->List V->Hp->VK->Prop}
theorem D8(pa:PlainAttrs T)(slot:Slot T name id)(hty:typeOf (.builtin id)=pure (.type "method_descriptor"))(hm:MtR X id r)(ho:PE X o to)
 (hbase:attributeBase o name X.env (eval o X.env)=eval o X.env:=by rfl) (hline:(apos.endLine == cpos.line)=true:=by rfl):PE X (.Call (.Attribute o name apos) [] [] cpos) (PL X.K T r to):=by
 intro pins s σ H Q I h;refine wpAny_Call_method0_late hbase hline (thn (ho pins s σ H _ I h) fun v s1 ⟨x,H1,I1,r1,ty,q1⟩=>?_);obtain⟨h1,h2⟩:=KF I1 r1 ty;exact⟨T,id,pa,slot,hty,h1,h2,Calls.callWith_builtin rfl (PySem.evalArgs_none (hm pins s1 σ H1 x [] v [] Q I1 r1 .nil q1))⟩
theorem Ev(pa:PlainAttrs T)(slot:Slot T name id)(hty:typeOf (.builtin id)=pure (.type "method_descriptor"))(hm:MtR X id r)(ho:PE X o to)(ha:PA X (e::es) t)
 (hbase:attributeBase o name X.env (eval o X.env)=eval o X.env:=by rfl)
 (hfew:((backTo cpos (starEach (e::es) X.env)).all (fun x=>!x.1)&&(backToKw cpos (keywordEach [] X.env)).all (fun x=>x.1.isSome)
   && decide ((e::es).length+([]:List Keyword).length+(if ([]:List Keyword).isEmpty then 0 else 1)<30))=true:=by rfl)
 (hline:(apos.endLine == cpos.line)=true:=by rfl) (hs:starEach (e::es) X.env=(false,eval e X.env)::starEach es X.env:=by rfl) (hplain:(backTo cpos (starEach es X.env)).any (·.1)=false:=by rfl):
 PE X (.Call (.Attribute o name apos) (e::es) [] cpos) (tBM X.K T r to t):=by
 intro pins s σ H Q I h;refine wpAny_Call_method_late hbase hfew hline rfl (thn (ho pins s σ H _ I h) fun v s1 ⟨x,H1,I1,r1,ty,q1⟩=>?_);obtain⟨h1,h2⟩:=KF I1 r1 ty;refine⟨T,id,pa,slot,hty,h1,h2,?_⟩;have hA:=ha cpos pins s1 σ H1 _ I1 q1;rw[hs]at hA ⊢;refine Calls.callWith_builtin (by show(false||(backTo cpos (starEach es X.env)).any (·.1))=false;rw[hplain]<;>rfl) (Calls.evalArgs_plain ?_);exact thn hA fun us s2 ⟨vs,H2,I2,r2,q2⟩=>hm pins s2 σ H2 x vs v us Q I2 r1 r2 q2
end
open PySem PySem.Spec PyProof.Rows
noncomputable def MtM(X:Cx)(id:String)(r:V->List V->Hp->VK->Prop):Prop:=
 ∀(pins:List (Addr×Obj)) (s:Shared) (σ:St) (H:Hp) (x:V) (xs:List V) (v:Value) (us:List Value) (Q:VK),Inv X pins σ H s->RelV x v->Vals xs us->r x xs H Q->
  wpAny (model X.prog X.w) X.A (call (.builtin id) (v::us)) (EP X pins σ Q) X.xe s
theorem Vals.one:∀{x:V} {us:List Value},Vals [x] us->∃ u,us=[u]/\RelV x u
 | _,_,.cons r .nil=>⟨_,rfl,r⟩
theorem Vals.two:∀{x y:V} {us:List Value},Vals [x,y] us->∃ u v,us=[u,v]/\RelV x u/\RelV y v
 | _,_,_,.cons r (.cons q .nil)=>⟨_,_,rfl,r,q⟩
theorem Vals.zero:∀{us:List Value},Vals [] us->us=[]
 | _,.nil=>rfl
theorem Vals.dropLast{xs:List V}{us:List Value}(h:Vals xs us):Vals xs.dropLast us.dropLast:=by
 induction h with
 | nil=>exact .nil
 | cons r t ih=>
   cases t with
   | nil=>exact .nil
   | cons q t'=>exact .cons r ih
theorem Vals.eraseIdx:∀{xs:List V} {us:List Value} (i:Nat),Vals xs us->Vals (xs.eraseIdx i) (us.eraseIdx i)
 | _,_,_,.nil => .nil
 | _,_,0,.cons _ t=>t
 | _,_,i+1,.cons r t => .cons r (Vals.eraseIdx i t)
theorem Vals.reverse{xs:List V}{us:List Value}(h:Vals xs us):Vals xs.reverse us.reverse:=by
 induction h with
 | nil=>exact .nil
 | cons r t ih=>rw[UV,UV];exact Vals.append ih (.cons r .nil)
theorem Vals.rep{xs:List V}{us:List Value}(h:Vals xs us):∀ k:Nat,Vals (Su k xs).flatten (Su k us).flatten
 | 0 => .nil
 | k+1=>by
   rw[Tf,Tf,UK,UK];exact Vals.append h (Vals.rep h k)
theorem GN{α:Type}(l:List α):l.eraseIdx (l.length - 1)=l.dropLast:=by
 induction l with
 | nil=>rfl
 | cons a r ih=>
   cases r with
   | nil=>rfl
   | cons b r=>
     have e:(a::b::r).length - 1=((b::r).length - 1)+1:=by
      have h1:(a::b::r).length=r.length+2:=rfl;have h2:(b::r).length=r.length+1:=rfl;omega
     rw[e,List.eraseIdx_cons_succ,ih]
     all_goals rfl
theorem Dq{α:Type}:∀(l:List α) (i:Nat),(l.eraseIdx i).length<=l.length
 | [],_=>Sr _
 | _::_,0=>Ux _
 | _::r,i+1=>W3 (Dq r i)
theorem Dr(its:List Value):∀(k:Nat) (acc:List Value),
 WL (fun x1 x2=>x1++x2) acc.toArray (Su k its.toArray)=(acc++(Su k its).flatten).toArray
 | 0,acc=>by simp
 | k+1,acc=>by
   have e:acc.toArray++its.toArray=(acc++its).toArray:=by simp
   have e2:(acc++its)++(Su k its).flatten=acc++(Su (k+1) its).flatten:=by
    rw[Tf,UK,TF]
   rw[<-e2,<-Dr its k (acc++its),<-e,Tf,WG]
section
variable{X:Cx}{pins:List (Addr×Obj)}{σ:St}{H:Hp}{s:Shared}{l b:Addr}{xs ys zs:List V}
theorem Inv.lset{its its':List Value}{n:Nat}{f:Array Value->Array Value}{t':Nat}(I:Inv X pins σ H s)(hH:H l=some (.lst xs))
 (e:s.heap.get? l=some {cls := .type "list",data := .seq its.toArray n}) (hf:f its.toArray=its'.toArray) (hv:Vals ys its') (hz:ys.length<=sizeLine):
 Inv X pins σ (upd H l (.lst ys)) {s with heap:=s.heap.update l (Obj.mapSeq f),toks:=t'}:=by
 have q:=PySem.IsL.update e f;rw[hf]at q;refine I.write (x:=l) (e:=l) (by rw[hH];exact trivial) (.inl rfl) (fun b' u hb hu=>(U3 s.heap (Obj.mapSeq f) (Ne.symm hb)).trans hu) ⟨_,q⟩ ?_;exact⟨hz,its',_,hv,q⟩
theorem Inv.lnew{its:List Value}{t':Nat}(I:Inv X pins σ H s)(hv:Vals ys its)(hz:ys.length<=sizeLine):
 Inv X pins σ (upd H s.heap.objs.size (.lst ys)) {s with heap:=s.heap.push {cls := .type "list",data := .seq its.toArray},toks:=t'}:=
 I.laid (fun _ _ q=>So _ q) (Sr _) ⟨hz,its,0,hv,Sy _ rfl⟩
theorem Inv.fresh(I:Inv X pins σ H s):H s.heap.objs.size=none:=I.hok.fresh (Sr _)
theorem Inv.lstM(I:Inv X pins σ H s)(hH:H l=some (.lst xs)):xs.length<=sizeLine/\∃(its:List Value) (n:Nat),Vals xs its/\xs.length=its.length/\s.heap.get? l=some {cls := .type "list",data := .seq its.toArray n}:=by
 obtain⟨z,its,n,r,e⟩:=I.hok l _ hH;exact⟨z,its,n,r,r.length,e⟩
theorem Ew{n:Nat}(h:n<=sizeLine):Builtin.List.listTooLong n=false:=by
 unfold Builtin.List.listTooLong;exact decide_eq_false (by omega)
end
section
variable{X:Cx}
noncomputable def Hh:V->List V->Hp->VK->Prop:=fun x vs H Q=>∃ l xs y,x = .ref l/\vs=[y]/\H l=some (.lst xs)/\xs.length<sizeLine/\Q .non (upd H l (.lst (xs++[y])))
theorem BZ:MtM X "list.append" Hh:=by
 intro pins s σ H x vs v us Q I rx rv h;obtain⟨l,xs,y,rfl,rfl,hH,hz,q⟩:=h;cases rx;obtain⟨u,rfl,ru⟩:=rv.one;obtain⟨z,its,n,r,hl,e⟩:=I.lstM hH;refine call_meets F.slot_list_append ⟨_,e,rfl⟩ F.entry_list_append (F.args_list_append_2 _ _) (PySem.list_append l its.toArray n u (by rw[Sq];omega)) ⟨e,?_⟩;refine⟨.non,_,I.lset (its':=its++[u]) hH e (by simp) (r.append (.cons ru .nil)) ?_,rfl,q⟩;rw[Sl,U8];omega
noncomputable def Hi:V->List V->Hp->VK->Prop:=fun x vs H Q=>∃ l b xs zs,x = .ref l/\vs=[.ref b]/\H l=some (.lst xs)/\H b=some (.lst zs)/\xs.length+zs.length<=sizeLine/\Q .non (upd H l (.lst (xs++zs)))
theorem Ds:MtM X "list.extend" Hi:=by
 intro pins s σ H x vs v us Q I rx rv h;obtain⟨l,b,xs,zs,rfl,rfl,hH,hB,hz,q⟩:=h;cases rx;obtain⟨u,rfl,ru⟩:=rv.one;cases ru;obtain⟨z,its,n,r,hl,e⟩:=I.lstM hH;obtain⟨z2,its2,n2,r2,hl2,e2⟩:=I.lstM hB;have hsz:its.toArray.size+its2.toArray.size<=sizeLine:=by rw[Sq,Sq];omega
 have hlong:¬ (!its.toArray.isEmpty&&Builtin.List.listTooLong (its.toArray.size+its2.toArray.size))=true:=by
  rw[Ew hsz,Bool.and_false];exact Ss
 refine call_meets F.slot_list_extend ⟨_,e,rfl⟩ F.entry_list_extend (F.args_list_extend_2 _ _)
  (AutoSeq1.list_extend_list_list_0 l its.toArray n b its2.toArray n2 hlong (by rw[Sq];omega) (by omega)) ⟨e,e2,?_⟩
 refine⟨.non,_,I.lset (its':=its++its2) hH e (by simp) (r.append r2) ?_,rfl,q⟩;rw[Sl];omega
noncomputable def R7:V->List V->Hp->VK->Prop:=fun x vs H Q=>∃ l xs y,x = .ref l/\vs=[]/\H l=some (.lst xs)/\xs[xs.length - 1]?=some y/\Q y (upd H l (.lst xs.dropLast))
theorem KG:MtM X "list.pop" R7:=by
 intro pins s σ H x vs v us Q I rx rv h;obtain⟨l,xs,y,rfl,rfl,hH,hy,q⟩:=h;cases rx;have hus:=rv.zero;subst hus;obtain⟨z,its,n,r,hl,e⟩:=I.lstM hH;obtain⟨u,hu,ru⟩:=r.get hy
 have hy':its.toArray[its.toArray.size - 1]?=some u:=by
  show its.toArray[its.length - 1]?=some u;rw[<-Tv,<-hl];exact hu
 refine call_meets F.slot_list_pop ⟨_,e,rfl⟩ F.entry_list_pop (F.args_list_pop_1 _) (MeetsSeq.list_pop_last l its.toArray n u hy' (by rw[Sq];omega)) ⟨e,?_⟩;refine⟨y,_,I.lset (its':=its.dropLast) hH e ?_ r.dropLast ?_,ru,q⟩
 ·show its.toArray.eraseIdxIfInBounds (its.toArray.size - 1)=its.dropLast.toArray;rw[Sq,V7,GN]
 ·rw[List.length_dropLast];omega
noncomputable def KH:V->List V->Hp->VK->Prop:=fun x vs H Q=>∃ l xs i k y,x = .ref l/\vs=[.int i]/\H l=some (.lst xs) /\ -(2 ^ 63)<=i/\i<2 ^ 63/\seqIndex? i xs.length=some k/\xs[k]?=some y/\Q y (upd H l (.lst (xs.eraseIdx k)))
theorem Ey:MtM X "list.pop" KH:=by
 intro pins s σ H x vs v us Q I rx rv h;obtain⟨l,xs,i,k,y,rfl,rfl,hH,h1,h2,hk,hy,q⟩:=h;cases rx;obtain⟨u,rfl,ru⟩:=rv.one;obtain⟨t,rfl⟩:=ru;obtain⟨z,its,n,r,hl,e⟩:=I.lstM hH;obtain⟨w,hw,rw'⟩:=r.get hy
 refine call_meets F.slot_list_pop ⟨_,e,rfl⟩ F.entry_list_pop (F.args_list_pop_2 _ _)
  (MeetsSeq.list_pop_at l its.toArray n i t k w (fitsIndex_both h1 h2) (by rw[Sq,<-hl];exact hk) (by rw[<-Tv];exact hw) (by rw[Sq];omega)) ⟨e,?_⟩
 refine⟨y,_,I.lset (its':=its.eraseIdx k) hH e ?_ (r.eraseIdx k) ?_,rw',q⟩
 ·show its.toArray.eraseIdxIfInBounds k=(its.eraseIdx k).toArray;rw[V7]
 ·have:=Dq xs k;omega
noncomputable def KI:V->List V->Hp->VK->Prop:=fun x vs H Q=>∃ l xs,x = .ref l/\vs=[]/\H l=some (.lst xs)/\Q .non (upd H l (.lst []))
theorem Ez:MtM X "list.clear" KI:=by
 intro pins s σ H x vs v us Q I rx rv h;obtain⟨l,xs,rfl,rfl,hH,q⟩:=h;cases rx;have hus:=rv.zero;subst hus;obtain⟨z,its,n,r,hl,e⟩:=I.lstM hH;refine call_meets F.slot_list_clear ⟨_,e,rfl⟩ F.entry_list_clear (F.args_list_clear_1 _) (AutoSeq1.list_clear_list_0 l its.toArray n (by rw[Sq];omega)) ⟨e,?_⟩;exact⟨.non,_,I.lset (its':=[]) (ys:=[]) hH e rfl .nil (U7 _),rfl,q⟩
noncomputable def R8:R2:=fun x y H Q=>∃ l b xs zs,x = .ref l/\y = .ref b/\H l=some (.lst xs)/\H b=some (.lst zs)/\xs.length+zs.length<=sizeLine/\∀ p,H p=none->Q (.ref p) (upd H p (.lst (xs++zs)))
theorem PM:OpR X (binaryOp .Add) R8:=by
 intro pins s σ H x y v u Q I rx ry h;obtain⟨l,b,xs,zs,rfl,rfl,hH,hB,hz,q⟩:=h;cases rx;cases ry;obtain⟨z,its,n,r,hl,e⟩:=I.lstM hH;obtain⟨z2,its2,n2,r2,hl2,e2⟩:=I.lstM hB;refine PySem.P.add_list e e2 ?_ (by rw[Sq,Sq];omega);have ea:its.toArray++its2.toArray=(its++its2).toArray:=by simp
 rw[ea];exact⟨.ref _,_,I.lnew (t':=s.toks) (r.append r2) (by rw[Sl];omega),rfl,q _ I.fresh⟩
noncomputable def R9:R2:=fun x y H Q=>∃ l k xs,x = .ref l/\y = .int k/\H l=some (.lst xs) /\ -(2 ^ 63)<=k/\k<2 ^ 63/\xs.length * k.toNat<=sizeLine/\
 ∀ p,H p=none->Q (.ref p) (upd H p (.lst (Su k.toNat xs).flatten))
theorem Mf{α:Type}(xs:List α)(k:Nat):(Su k xs).flatten.length=k * xs.length:=by
 induction k with
 | zero=>simp
 | succ k ih=>rw[Tf,UK,Sl,ih,Nat.succ_mul,Nat.add_comm]
theorem PN:OpR X (binaryOp .Mult) R9:=by
 intro pins s σ H x y v u Q I rx ry h;obtain⟨l,k,xs,rfl,rfl,hH,h1,h2,hz,q⟩:=h;cases rx;obtain⟨t,rfl⟩:=ry;obtain⟨z,its,n,r,hl,e⟩:=I.lstM hH;have hlen:its.toArray.size * k.toNat<=sizeLine:=by rw[Sq,<-hl];exact hz
 have hcap:¬ its.toArray.size * k.toNat>(2 ^ 63 - 1) / 8:=by
  have:(sizeLine:Nat)<=(2 ^ 63 - 1) / 8:=by decide
  omega
 have hfit:¬ (!Builtin.List.listFitsIndex k)=true:=by
  rw[fitsIndex_both h1 h2];exact Ss
 have hlong:¬ Builtin.List.listTooLong (its.toArray.size * k.toNat)=true:=by
  rw[Ew hlen];exact Ss
 have hnew:WL (fun x1 x2=>x1++x2) #[] (Su (if its.toArray.isEmpty=true then 0 else k.toNat) its.toArray)=(Su k.toNat its).flatten.toArray:=by
  have f0:∀ m:Nat,WL (fun x1 x2=>x1++x2) #[] (Su m its.toArray)=(Su m its).flatten.toArray:=fun m=>by
   have:=Dr its m [];rw[List.nil_append]at this;exact this
  rw[f0];cases its with
  | nil=>simp
  | cons a r'=>rw[if_neg (by simp)]
 refine wpAny_binaryOp_repeat_ref (T:="list") (U:="int") (by decide) ⟨_,e,rfl⟩ (fun s'=>typeIs_int s' k t) noFill_list_mul F.fills_int_mul F.slot_int_rmul repeat_list F.slot_int_index.lookup
  (call_meets F.slot_int_rmul (typeIs_int s k t) F.entry_int_rmul (F.args_int_rmul_2 _ _) (int___rmul___int_list k t l its.toArray n)
    ⟨e,rfl,⟨_,e,rfl⟩,call_meets F.slot_list_mul ⟨_,e,rfl⟩ F.entry_list_mul (F.args_list_mul_2 _ _) (AutoListH.list___mul___list_int_3 l its.toArray n k t hfit hcap hlong) ⟨e,?_⟩⟩)
 rw[hnew];exact⟨.ref _,_,I.lnew (t':=s.toks) (r.rep k.toNat) (by rw[Mf,Nat.mul_comm];exact hz),rfl,q _ I.fresh⟩
end
end L2
namespace Att
open PySem PySem.W PySem.Calls PyProof.Rows
theorem Cq{P:Params}{h:Heap}:∀(ns:List Int) (vs:List Value),WellAll P h vs (ns.map WData.int)->IntsAre vs ns:=by
 intro ns
 induction ns with
 | nil=>
   intro vs w;rw[List.map_nil]at w;cases w;exact .nil
 | cons n ns ih=>
   intro vs w;rw[To]at w;cases w with
   | cons a b=>
     cases a;exact .cons _ _ (ih _ b)
theorem Iu{l:OpenLaw}{n:Nat}(hn:l.most=some n){P:Params}{h:Heap}{args:List WData}{vals:List Value}
 (hpre:l.row.toRowW.claim.pre args=true) (hwl:WellAll P h vals args):
 ∃ a vs ns,vals=[Value.ref a]/\args=[WData.list (ns.map WData.int)]/\h.get? a=some {cls := .type "list",data := .seq vs.toArray}/\IntsAre vs ns/\ns.length<=n:=by
 have hsh:WShape.hasAll [] args [.list .int]=true:=(pre_splitW hpre).1;have hc:l.pre.holds [] {args:=args}=true:=(pre_splitW hpre).2;obtain⟨d,r,rfl,h1,h2⟩:=hasAllW_cons hsh;obtain rfl:=hasAllW_nil h2;obtain⟨xs,rfl,h3⟩:=hasW_list h1;obtain⟨ns,rfl⟩:=items_int h3
 have hlen:ns.length<=n:=by
  unfold OpenLaw.pre at hc
  have h4:(WTm.not (.lt (.lit (.int (n:Int))) (.len (.arg 0)))).holds [] {args:=[.list (ns.map .int)]}=true:=by
   have h4:=(holds_andW hc).1;rw[hn]at h4;exact h4
  have h5:=condW_of h4 (w_not (w_lt w_lit (w_len_list (w_arg rfl))));rw[Sk]at h5;refine W4 fun q=>?_;have q':(n:Int)<((ns.length:Nat):Int):=by omega
  first
   | (rw[decide_eq_true q']at h5;exact absurd h5 (by decide))
   | (simp at h5;omega)
 cases hwl with
 | cons w1 w2=>
   cases w2;cases w1 with
   | list ho hall=>exact⟨_,_,ns,rfl,rfl,ho,Cq ns _ hall,hlen⟩
theorem Iv(l:OpenLaw)(args:List WData):l.row.toRowW.claim.post args (.bool true) args=true:=
 postW_of (r:=l.row.toRowW) (X:=(true == true))
  (show WShape.has [] (.bool true) .bool=true by first | rfl | decide | simp[WShape.has,WShape.arms,WShape.armsAll])
  (show(WTm.eq .res (.lit (.bool true))).value [] {args:=args,res:=some (.bool true),after:=args}=some (.bool (true == true)) from w_eq_bool (w_res rfl) w_lit) rfl
theorem attach_call{l:OpenLaw}{n:Nat}{q:Program}{loose:List Str}{XP:(Str->Option Value)->Heap->Prop}{YP:World->Heap->Prop}{d:DefRec}
 (hn:l.most=some n) (hdf:d.params.defaults=[])
 (call:∀(w:World) (s₀ s₁:Shared) (mg mb:Str->Option Value) (fa:Addr) (o:Obj) (pm cd doc:Value) (a:Addr) (vs:List Value) (ns:List Int),
   Ground q loose [] XP w s₀ mg mb s₁.heap->YP w s₁.heap->
   s₁.heap.get? fa=some o->o.data = .func (docDef d.name d.params d.body d.scope pm cd doc)->s₁.heap.CodeRec cd d.name->mg d.name=some (.ref fa)->
   s₁.heap.get? a=some {cls := .type "list",data := .seq vs.toArray}->IntsAre vs ns->ns.length<=n->s₁.gens=#[]->
   codeAny (model l.prog w) callerA (.call (.ref fa) ⟨[.ref a],[]⟩) (fun r s'=>r = .ok (.ret (.bool true))/\OldK s₁.heap s'.heap/\s'.os=s₁.os/\AllBare s'.gens) s₁):
 WalkO q loose XP YP l.row.toRowW d [] (fun f vs=>PySem.call f vs):=by
 intro w s₀ s₁ mg mb G Y fa o pm cd doc dV kV ho hd hcd hD hmg hg args vals as hpre hlay hrd hwl hlo;obtain rfl:dV = .none:=Dflts.none hD hdf;obtain rfl:kV = .none:=Dflts.noKw hD;obtain⟨a,vs,ns,rfl,rfl,hobj,hints,hlen⟩:=Iu hn hpre hwl;refine enter_call (codeAny_mono (call w s₀ s₁ mg mb fa o pm cd doc a vs ns G Y ho (fd_plain hd) hcd hmg hobj hints hlen hg) fun r s' hq=>?_);obtain⟨rfl,h2,h3,h4⟩:=hq;exact⟨.inl ⟨.bool true,.bool true,[],rfl,fun _=>rfl,.bool true,Iv l _,fun _=>⟨List.Pairwise.nil,fun _ hm=>(nomatch hm)⟩⟩,h2,h3,h4⟩
end Att
namespace L2
open PySem PySem.Spec PyProof.Rows
theorem Dt:∀{vs:List Value} {ns:List Int},IntsAre vs ns->Vals (ns.map V.int) vs
 | _,_,.nil => .nil
 | _,_,.cons n t h => .cons ⟨t,rfl⟩ (Dt h)
noncomputable def Mg(H:Hp):Prop:=∀ b,H b=none\/∃ o xs,H b=some (.frz o (.lst xs))
theorem KJ{P:Program}{w:World}{K:Sh}{mg mb:Str->Option Value}{CX:CXT}{k:Nat}{fa a:Addr}{fd:FuncData}{x:Str}{sp:Sp}{s₁:Shared}{vs:List Value}{ns:List Int}
 (KX:K.In s₁.heap) (hns:s₁.heap.Ns mainGlobals mg) (hb:s₁.heap.Ns builtinsNs mb) (hbb:∀ x:Str,x≠"__name__"->mb x=bootBuiltins x) (hlim:s₁.heap.NoLimit) (hg:s₁.gens=#[])
 (ha:s₁.heap.get? a=some {cls := .type "list",data := .seq vs.toArray}) (hi:IntsAre vs ns) (hl:ns.length<=sizeLine) (hr:Room k callerA)
 (F:∀ base:Heap,K.In base->base.Ns mainGlobals mg->FnOk P w K mg base CX k fa fd [x] sp) (hbind:∀(s:Shared) (u:Value),BindsTo s fd ⟨[u],[]⟩ [(x,u)])
 (hsp:∀ H:Hp,Mg H->SqL K H a (ns.map V.int)->sp [.ref a] H (fun v _=>v = .bl true) fun _ _ _=>False)
 (hCX:∀ H e s',CX [] H s₁ (fun _ _ _=>False) e s'->False):
 codeAny (model P w) callerA (.call (.ref fa) ⟨[.ref a],[]⟩) (fun r s'=>r = .ok (.ret (.bool true))/\OldK s₁.heap s'.heap/\s'.os=s₁.os/\AllBare s'.gens) s₁:=by
 have rv:=Dt hi;have lenV:=hi.length
 have core:∀ H:Hp,Mg H->SqL K H a (ns.map V.int)->HOk P w H s₁.heap->(∀ b,H b≠none->b=a)->(H a≠none->K.lookup a=none)->
  codeAny (model P w) callerA (.call (.ref fa) ⟨[.ref a],[]⟩) (fun r s'=>r = .ok (.ret (.bool true))/\OldK s₁.heap s'.heap/\s'.os=s₁.os/\AllBare s'.gens) s₁:=by
  intro H hO hS hok hA hK;have v8:∀{b:Addr} {o:Obj},s₁.heap.get? b=some o->H b=none->(EB s₁.heap H).get? b=some o:=fun e n=>Js e n
  have noA:∀{b:Addr} {o:Obj} {es:Array DictEntry} {ep:Nat},s₁.heap.get? b=some o->o.data = .dict es ep->H b=none:=fun{b o es ep} e d=>by
   cases q:H b with
   | none=>rfl
   | some u=>
     have e':b=a:=hA b (by rw[q];simp);subst e';rw[ha]at e;cases e;have d':Data.seq vs.toArray _=Data.dict es ep:=d;cases d'
  have nsK:∀{b:Addr} {m:Str->Option Value},s₁.heap.Ns b m->(EB s₁.heap H).Ns b m:=fun{b m} ⟨o,es,ep,e,d,r⟩=>⟨o,es,ep,v8 e (noA e d),d,r⟩
  have hKb:K.In (EB s₁.heap H):=fun b o e=>v8 (KX b o e) (by
   cases q:H b with
   | none=>rfl
   | some u=>
     have e':b=a:=hA b (by rw[q];simp);subst e';rw[hK (by rw[q];simp)]at e;cases e)
  have hM:Mod K mg (EB s₁.heap H):=⟨hKb,nsK hns,⟨mb,nsK hb,hbb⟩,let ⟨mc,h1,h2⟩:=hlim;⟨mc,nsK h1,h2⟩⟩
  have e0:Env0 P w K mg (EB s₁.heap H) callerA [] s₁ H:=⟨rfl,hM,fun b o e=>MP e,Wc (Ie _ _),trivial,fun b hb=>absurd (show b∈([]:List Addr) from hb) (by simp),hok,.of_eq hg⟩
  refine codeAny_mono ((F _ hKb (nsK hns)).run callerA [] s₁ H ⟨[.ref a],[]⟩ [.ref a] [.ref a] _ _ hr e0 (hbind s₁ (.ref a)) (.cons rfl .nil) (hsp H hO hS)) fun r s' h=>?_;cases r with
  | error e=>exact(hCX H e s' h).elim
  | ok fl=>
    cases fl with
    | next=>exact False.elim h
    | brk=>exact False.elim h
    | cont=>exact False.elim h
    | ret u=>
      obtain⟨v,H',os,bare,un,hok',r',q⟩:=h;have q':v = .bl true:=q;subst q';obtain rfl:u=Value.bool true:=r';refine⟨rfl,OldK.of_keep fun b o e=>?_,os,bare⟩;cases q:H b with
      | none=>exact un.keep b o e q (by intro z;exact absurd (show b∈([]:List Addr) from z) (by simp)) (by simp)
      | some u=>
        rcases hO b with z | ⟨ob,xs,z⟩
        ·rw[q]at z;cases z
        ·have z2:=un.frzs b ob _ z;obtain⟨e1,_⟩:=hok b _ z;obtain⟨e2,_⟩:=hok' b _ z2;rw[e]at e1;cases e1;exact e2
 cases hk:K.lookup a with
 | some o=>
   have e:=KX a o hk;rw[ha]at e;cases e;refine core (fun _=>none) (fun _ => .inl rfl) (.inr ⟨_,vs.toArray,_,hk,rfl,rfl,rfl,by rw[Sq,lenV];exact hl,by simpa using rv⟩) (fun b u z=>by have z':(none:Option HO)=some u:=z;cases z') (fun b z=>absurd rfl z) fun z=>absurd rfl z
 | none=>
   refine core (fun b=>if b=a then some (.frz {cls := .type "list",data := .seq vs.toArray} (.lst (ns.map V.int))) else none) (fun b=>?_) (.inl (.inr ⟨{cls := .type "list",data := .seq vs.toArray},if_pos rfl⟩)) (fun b u z=>?_) (fun b z=>?_) fun _=>hk
   ·by_cases hb:b=a
    ·exact .inr ⟨_,_,if_pos hb⟩
    ·exact .inl (if_neg hb)
   ·by_cases hb:b=a
    ·have z':=(if_pos hb).symm.trans z;cases z';subst hb;exact⟨ha,by rw[Sk];exact hl,vs,_,rv,ha⟩
    ·have z':=(if_neg hb).symm.trans z;cases z'
   ·by_cases hb:b=a
    ·exact hb
    ·exact absurd (if_neg hb) z
open PySem PySem.Spec PyProof.Rows
theorem walk_of{l:PySem.W.OpenLaw}{n k:Nat}{q:Program}{loose:List Str}{XP:(Str->Option Value)->Heap->Prop}{YP:World->Heap->Prop}{d:DefRec}{K:Params->Sh}{CX:World->CXT}{sp:World->Sp}{x:Str}
 (hn:l.most=some n) (hn2:n<=sizeLine) (hdf:d.params.defaults=[]) (hr:Room k callerA)
 (hY:∀(w:World) (h:Heap),YP w h->(K w.params).In h)
 (F:∀(w:World) (mg:Str->Option Value) (fa:Addr) (h:Heap),(K w.params).In h->h.Ns mainGlobals mg->mg d.name=some (.ref fa)->
   ∃ fd:FuncData,(∀(s:Shared) (u:Value),BindsTo s fd ⟨[u],[]⟩ [(x,u)])/\
    ∀ base:Heap,(K w.params).In base->base.Ns mainGlobals mg->FnOk l.prog w (K w.params) mg base (CX w) k fa fd [x] (sp w))
 (hsp:∀(w:World) (H:Hp) (a:Addr) (ns:List Int),ns.length<=n->Mg H->SqL (K w.params) H a (ns.map V.int)->sp w [.ref a] H (fun v _=>v = .bl true) fun _ _ _=>False)
 (hCX:∀(w:World) (H:Hp) (s:Shared) (e:Value) (s':Shared),CX w [] H s (fun _ _ _=>False) e s'->False):
 PySem.W.WalkO q loose XP YP l.row.toRowW d [] (fun f vs=>PySem.call f vs):=by
 refine Att.attach_call hn hdf fun w s₀ s₁ mg mb fa o pm cd doc a vs ns G Y ho hd hcd hmg hobj hints hlen hg=>?_;have KX:=hY w _ Y;obtain⟨fd,hb,hF⟩:=F w mg fa _ KX G.T.g hmg;exact KJ KX G.T.g G.T.b G.T.builtins G.T.nolimit hg hobj hints (Td hlen hn2) hr hF hb (fun H hO hS=>hsp w H a ns hlen hO hS) fun H e s'=>hCX w H s₁ e s'
open PySem PySem.Spec PyProof.Rows
noncomputable def defArgs(s:Stmt):Arguments:=match s with
 | .FunctionDef _ a _ _ _ _ _ _ _ _=>a
 | _=>{posonlyargs:=[],args:=[],vararg:=none,kwonlyargs:=[],kw_defaults:=[],kwarg:=none,defaults:=[]}
noncomputable def defBody(s:Stmt):List Stmt:=match s with
 | .FunctionDef _ _ b _ _ _ _ _ _ _=>b
 | _=>[]
noncomputable def defScope(s:Stmt):Scope:=match s with
 | .FunctionDef _ _ _ _ _ _ sc _ _ _=>sc
 | _=>{kind := .function,names:=[],isGenerator:=false,isCoroutine:=false}
noncomputable abbrev CX0:CXT:=fun _ _ _ _ _ _=>False
noncomputable abbrev E0:XK:=fun _ _ _=>False
theorem RA{X:Cx}:GH CX0 X E0:=fun _ _ _ _ _ _ _ h=>h.elim
structure Fun(K:Sh)(x qual:Str)(st:Stmt)(f:Addr)(fd:FuncData):Prop where
 ex:∃(oc:Value) (od:Option Addr) (kV doc pm:Value) (an:Option Addr) (cdv ct:Value) (osl:Array (Option Value)),
  fd=PySem.W.fnOf x qual (defArgs st) (defBody st) (defScope st) .none kV doc pm an cdv ct/\K.lookup f=some ⟨oc,od,.func fd,osl⟩/\PySem.W.codeIn K cdv qual=true
 kp:PySem.W.keepIn K (.ref f)=true
section
variable{P:Program}{w:World}{K:Sh}{mg:Str->Option Value}{base:Heap}
theorem Fun.ok{x qual:Str}{st:Stmt}{f:Addr}{fd:FuncData}{N ps:List Str}{k:Nat}{sp:Sp}(F:Fun K x qual st f fd)(S:FnScope N ps (defScope st))(len:∀ vs H Q E,sp vs H Q E->vs.length=ps.length)
 (hbody:∀(cdv:Value) (A:Around) (outer:List Env) (s:Shared) (H:Hp) (vs:List V) (Q:VK) (E:XK),Room k (A.deeper (envOfC qual (defScope st) s.heap.objs.size f cdv))->sp vs H Q E->
   ∃ t,PSs (GJ CX0 P w K mg base N qual (defScope st) f cdv A outer s H E).nox (defBody st) t/\t {nx:=fun _ H'=>Q .non H',rt:=Q} (start N vs) H):FnOk P w K mg base CX0 (k+1) f fd ps sp:=by
 obtain⟨oc,od,kV,doc,pm,an,cdv,ct,osl,rfl,lk,hcd⟩:=F.ex;refine Qy lk hcd S len fun A outer s H vs Q E hr hsp=>?_;obtain⟨t,h,q⟩:=hbody cdv A outer s H vs Q E hr hsp;exact⟨t,h.nox,q⟩
theorem Fun.binds{x qual:Str}{st:Stmt}{f:Addr}{fd:FuncData}{ps:List Str}(F:Fun K x qual st f fd)
 (h:∀(kV doc pm:Value) (an:Option Addr) (cdv ct:Value) (us:List Value),us.length=ps.length->bindArgs (PySem.W.fnOf x qual (defArgs st) (defBody st) (defScope st) .none kV doc pm an cdv ct) ⟨us,[]⟩=pure (ps.zip us)):Binds K fd ps []:=by
 obtain⟨oc,od,kV,doc,pm,an,cdv,ct,osl,rfl,lk,hcd⟩:=F.ex;exact .all (h kV doc pm an cdv ct)
theorem GO{x qual:Str}{st:Stmt}{f:Addr}{oc:Value}{od an:Option Addr}{osl:Array (Option Value)}{kV doc pm cdv ct:Value}(l:K.lookup f=some ⟨oc,od,.func (PySem.W.fnOf x qual (defArgs st) (defBody st) (defScope st) .none kV doc pm an cdv ct),osl⟩)
 (c:PySem.W.codeIn K cdv qual=true) (k:PySem.W.keepIn K (.ref f)=true):Fun K x qual st f (PySem.W.fnOf x qual (defArgs st) (defBody st) (defScope st) .none kV doc pm an cdv ct):=⟨⟨oc,od,kV,doc,pm,an,cdv,ct,osl,rfl,l,c⟩,k⟩
end
theorem Iw{n:Nat}(h:n<=1000):n<sizeLine:=VI h (by decide)
end L2
set_option maxHeartbeats 4000000
namespace L2
open PySem PySem.Spec PyProof.Rows
noncomputable def y4(env:Env):List (Str×NameKind)->List (Str×Addr)->List (Str×Addr)
 | [],acc=>acc
 | (n,k)::r,acc=>if k == .free then y4 env r ((n,(env.cells.lookup n).getD 0)::acc) else y4 env r acc
theorem v7{env:Env}{scope:Scope}(h:∀ x∈scope.names,x.2 = .free->∃ c,env.cells.lookup x.1=some c):closureFor scope env=pure (y4 env scope.names []):=by
 unfold closureFor
 have go:∀(names:List (Str×NameKind)) (acc:List (Str×Addr)),(∀ x∈names,x.2 = .free->∃ c,env.cells.lookup x.1=some c)->
  (forIn names acc fun x r=>match x with
    | (name,kind)=>if (kind == NameKind.free)=true then do let __do_lift <- cellOf env name;pure (ForInStep.yield ((name,__do_lift)::r)) else pure (ForInStep.yield r):Sem (List (Str×Addr)))=pure (y4 env names acc):=by
  intro names
  induction names with
  | nil=>intro acc _;rfl
  | cons x r ih=>
    intro acc hx;obtain⟨n,k⟩:=x;rw[List.forIn_cons];have hr:=fun y hy=>hx y (Sz _ hy);by_cases hk:k = .free
    ·subst hk;obtain⟨c,hc⟩:=hx (n,.free) TM rfl;have hc':env.cells.lookup n=some c:=hc;unfold y4;simp only[beq_self_eq_true,if_true,cellOf,hc',Option.getD_some,pure_bind];exact ih _ hr
    ·have hb:(k == NameKind.free)=false:=by simpa using hk
     unfold y4;simp only[hb,U1,if_false,pure_bind];exact ih _ hr
 have:=go scope.names [] h;simp only[this]
 first | rfl | simp
theorem CS{env:Env}:∀(names:List (Str×NameKind)) (acc:List (Str×Addr)),(∀ x∈names,x.2 = .free->∃ c,env.cells.lookup x.1=some c)->(∀ p∈acc,env.cells.lookup p.1=some p.2)->
 ∀ p∈y4 env names acc,env.cells.lookup p.1=some p.2
 | [],_,_,ha,p,hp=>ha p hp
 | (n,k)::r,acc,h,ha,p,hp=>by
   unfold y4 at hp;have hr:=fun y hy=>h y (Sz _ hy);split at hp
   ·rename_i hk;have hk:k = .free:=by simpa using hk
    obtain⟨c,hc⟩:=h (n,k) TM hk;have hc':env.cells.lookup n=some c:=hc;refine CS r _ hr (fun q hq=>?_) p hp;rcases TC.mp hq with rfl | hq
    ·show env.cells.lookup n=some ((env.cells.lookup n).getD 0);rw[hc'];rfl
    ·exact ha q hq
   ·exact CS r acc hr ha p hp
theorem CT{env:Env}:∀(names:List (Str×NameKind)) (acc:List (Str×Addr)),∀ p∈acc,p∈y4 env names acc
 | [],_,_,hp=>hp
 | (n,k)::r,acc,p,hp=>by
   unfold y4;split
   ·exact CT r _ p (Sz _ hp)
   ·exact CT r acc p hp
theorem CU{env:Env}:∀(names:List (Str×NameKind)) (acc:List (Str×Addr)) (n:Str),(n,NameKind.free)∈names->∃ c,(n,c)∈y4 env names acc
 | (m,k)::r,acc,n,hn=>by
   unfold y4;rcases TC.mp hn with e | hn
   ·cases e;simp only[beq_self_eq_true,if_true];exact⟨_,CT r _ _ TM⟩
   ·split
    ·exact CU r _ n hn
    ·exact CU r _ n hn
theorem BH{env:Env}:∀(names:List (Str×NameKind)) (acc:List (Str×Addr)),∀ p∈y4 env names acc,p∈acc\/(p.1,NameKind.free)∈names
 | [],_,_,hp => .inl hp
 | (n,k)::r,acc,p,hp=>by
   unfold y4 at hp;split at hp
   ·rename_i hk;have hk:k = .free:=by simpa using hk
    subst hk;rcases BH r _ p hp with z | z
    ·rcases TC.mp z with rfl | z
     ·exact .inr TM
     ·exact .inl z
    ·exact .inr (Sz _ z)
   ·rcases BH r _ p hp with z | z
    ·exact .inl z
    ·exact .inr (Sz _ z)
theorem AF:∀(names:List (Str×NameKind)) (n:Nat) (acc:List (Str×Addr)),∀ p∈cellsFrom n names acc,p∈acc\/(n<=p.2/\(p.1,NameKind.cell)∈names)
 | [],_,_,_,hp => .inl hp
 | (x,k)::r,n,acc,p,hp=>by
   unfold cellsFrom at hp;split at hp
   ·rename_i hk;have hk:k = .cell:=by simpa using hk
    subst hk;rcases AF r (n+1) _ p hp with z | ⟨z,w⟩
    ·rcases TC.mp z with rfl | z
     ·exact .inr ⟨Sr _,TM⟩
     ·exact .inl z
    ·exact .inr ⟨Nat.le_of_succ_le z,Sz _ w⟩
   ·rcases AF r n acc p hp with z | ⟨z,w⟩
    ·exact .inl z
    ·exact .inr ⟨z,Sz _ w⟩
theorem AG:∀(names:List (Str×NameKind)) (n:Nat) (acc:List (Str×Addr)),∀ p∈acc,p∈cellsFrom n names acc
 | [],_,_,_,hp=>hp
 | (x,k)::r,n,acc,p,hp=>by
   unfold cellsFrom;split
   ·exact AG r _ _ p (Sz _ hp)
   ·exact AG r _ _ p hp
theorem Ai:∀(names:List (Str×NameKind)) (n:Nat) (acc:List (Str×Addr)) (x:Str),(x,NameKind.cell)∈names->∃ c,(x,c)∈cellsFrom n names acc
 | (y,k)::r,n,acc,x,hx=>by
   unfold cellsFrom;rcases TC.mp hx with e | hx
   ·cases e;simp only[beq_self_eq_true,if_true];exact⟨_,AG r _ _ _ TM⟩
   ·split
    ·exact Ai r _ _ x hx
    ·exact Ai r _ _ x hx
theorem Aj:∀(names:List (Str×NameKind)) (h:Heap) (acc:List (Str×Addr)),∀ p∈cellsFrom h.objs.size names acc,p∈acc\/(pushCells h names).IsCell p.2 none
 | [],_,_,_,hp => .inl hp
 | (x,k)::r,h,acc,p,hp=>by
   unfold cellsFrom at hp;unfold pushCells;split at hp
   ·rename_i hk;rw[if_pos hk];have:=Aj r (h.push {cls := .type "cell",data := .cell none}) ((x,h.objs.size)::acc) p (by rw[UC];exact hp);rcases this with z | z
    ·rcases TC.mp z with rfl | z
     ·exact .inr ⟨_,pushCells_keeps _ _ _ _ (Sy _ rfl),rfl⟩
     ·exact .inl z
    ·exact .inr z
   ·rename_i hk;rw[if_neg hk];exact Aj r h acc p hp
theorem AO:∀(names:List (Str×NameKind)) (n:Nat) (acc:List (Str×Addr)),(acc.Pairwise fun x y=>x.2≠y.2)->(∀ p∈acc,p.2<n)->(cellsFrom n names acc).Pairwise fun x y=>x.2≠y.2
 | [],_,_,h,_=>h
 | (x,k)::r,n,acc,h,hl=>by
   unfold cellsFrom;split
   ·refine AO r (n+1) _ (Uo.mpr ⟨fun y hy e=>?_,h⟩) fun p hp=>?_
    ·have h1:=hl y hy;have e':n=y.2:=e;exact absurd h1 (by rw[<-e'];exact UA _)
    ·rcases TC.mp hp with rfl | hp
     ·exact W5 _
     ·exact V4 (hl p hp)
   ·exact AO r n acc h hl
theorem BJ{env:Env}(inj:∀ x y c,env.cells.lookup x=some c->env.cells.lookup y=some c->x=y):∀(names:List (Str×NameKind)) (acc:List (Str×Addr)),(names.map (·.1)).Nodup->
 (∀ x∈names,x.2 = .free->∃ c,env.cells.lookup x.1=some c)->(acc.Pairwise fun x y=>x.2≠y.2)->(∀ p∈acc,env.cells.lookup p.1=some p.2/\p.1∉names.map (·.1))->(y4 env names acc).Pairwise fun x y=>x.2≠y.2
 | [],_,_,_,h,_=>h
 | (n,k)::r,acc,nd,hf,h,ha=>by
   unfold y4;have nd':=UX.mp nd;have hr:=fun y hy=>hf y (Sz _ hy);split
   ·rename_i hk;have hk:k = .free:=by simpa using hk
    obtain⟨c,hc⟩:=hf (n,k) TM hk;have hc':env.cells.lookup n=some c:=hc;refine BJ inj r _ nd'.2 hr (Uo.mpr ⟨fun y hy e=>?_,h⟩) fun p hp=>?_
    ·have e':(env.cells.lookup n).getD 0=y.2:=e;rw[hc']at e';have e2:c=y.2:=e';have q:=(ha y hy).1;have:=inj n y.1 c hc' (by rw[e2];exact q);exact(ha y hy).2 (by rw[<-this];exact TM)
    ·rcases TC.mp hp with rfl | hp
     ·refine⟨?_,nd'.1⟩;show env.cells.lookup n=some ((env.cells.lookup n).getD 0);rw[hc'];rfl
     ·exact⟨(ha p hp).1,fun z=>(ha p hp).2 (Sz _ z)⟩
   ·exact BJ inj r acc nd'.2 hr h fun p hp=>⟨(ha p hp).1,fun z=>(ha p hp).2 (Sz _ z)⟩
theorem A0{env:Env}:∀(names:List (Str×NameKind)) (x:Str),
 (names.map fun(n,k)=>if (k == NameKind.free&&env.scope.kind == .function&&env.kindOf n == some .cell) then (n,NameKind.cell) else (n,k)).lookup x=
   (names.lookup x).map fun k=>if (k == NameKind.free&&env.scope.kind == .function&&env.kindOf x == some .cell) then NameKind.cell else k
 | [],x=>rfl
 | (n,k)::r,x=>by
   have ih:=A0 (env:=env) r x;rw[To];show Vj x ((if (k == NameKind.free&&env.scope.kind == .function&&env.kindOf n == some .cell)=true then (n,NameKind.cell) else (n,k))::_)=_;split
   ·rename_i hc;rw[UH,UH];cases hx:x == n with
    | false=>exact ih
    | true=>
      have e:x=n:=by simpa using hx
      subst e;simp only[Ui];rw[if_pos hc]
   ·rename_i hc;rw[UH,UH];cases hx:x == n with
    | false=>exact ih
    | true=>
      have e:x=n:=by simpa using hx
      subst e;simp only[Ui];rw[if_neg hc]
theorem g8{α:Type}:∀{l:List (Str×α)} {n:Str} {c:α},(l.map (·.1)).Nodup->(n,c)∈l->l.lookup n=some c
 | (k,v)::r,n,c,nd,h=>by
   have nd':=UX.mp nd;rw[UH];rcases TC.mp h with e | h2
   ·cases e;simp
   ·cases hb:n == k with
    | true=>
      have e:n=k:=by simpa using hb
      exact absurd (UR.mpr ⟨(n,c),h2,e⟩:k∈r.map (·.1)) nd'.1
    | false=>exact g8 nd'.2 h2
theorem Bs{α:Type}:∀{l:List (Str×α)} {n:Str} {c:α},(n,c)∈l->∃ d,l.lookup n=some d
 | (k,v)::r,n,c,h=>by
   rw[UH];cases hb:n == k with
   | true=>exact⟨v,rfl⟩
   | false=>
     rcases TC.mp h with e | h
     ·cases e;simp at hb
     ·exact Bs h
noncomputable abbrev c8(X:Cx)(scope:Scope)(N':List Str)(s2:Shared)(H2:Hp)(cs:List (Str×Addr))(C:Addr)(fp:List Addr):Cx where
 prog:=X.prog
 w:=X.w
 K:=X.K
 mg:=X.mg
 base:=X.base
 A:=X.A
 N:=N'
 s₀:=s2
 H₀:=H2
 env:=compEnvC scope cs C X.env
 outer:=X.stack
 stack:=X.stack
 ex:=fp
 fn:=fun x=>scope.names.lookup x == some .cell
 calm:=X.calm
 pn:=X.pn
 xe:=fun _ _=>False
noncomputable def m4(sc0 sc:Scope)(own cn N:List Str)(js:List Nat):Bool:=
 (decide (sc.kind = .function))&&(sc.names.all fun x=>!decide (x.2 = .free)||decide (sc0.names.lookup x.1=some .cell)||decide (sc0.names.lookup x.1=some .free))
 && decide ((sc.names.map (·.1)).Nodup)&&(own.all fun x=>decide (sc.names.lookup x=some .local)||decide (sc.names.lookup x=some .cell))&&(cn.all fun x=>decide (sc.names.lookup x=some .free))
 && decide ((own++cn).Nodup)&&decide (js.map (fun j=>N[j]?)=cn.map some)
noncomputable def Ak(k:Nat)(js:List Nat)(σ:St):St:=Su k none++js.map fun j=>(σ[j]?).join
noncomputable def B4(X:Cx)(ifs:List Expr)(t:TT):Prop:=
 ∀(pins:List (Addr×Obj)) (s:Shared) (σ:St) (H:Hp) (Q:Bool->Hp->Prop),Inv X pins σ H s->t σ H Q->
  wpAny (model X.prog X.w) X.A (forIn ifs true fun c r=>if r=true then do let ok <- isTrue c X.env (eval c X.env);pure (ForInStep.yield ok) else pure (ForInStep.yield r)) (TP X pins σ Q) X.xe s
theorem KK{X:Cx}:B4 X [] (fun _ H Q=>Q true H):=fun _ _ _ H _ I h=>wpAny_tests_nil ⟨H,I,h⟩
theorem KL{X:Cx}{c:Expr}{t:TT}(h:PT X c t):B4 X [c] t:=fun pins s σ H Q I hw=>wpAny_tests_one (h pins s σ H Q I hw)
theorem KM{M:Model}{A:Around}{E:Value->Shared->Prop}{s:Shared}{scope:Scope}{env:Env}{cl:List (Str×Addr)}{Q:Env->Shared->Prop}
 (h:Q (newEnv scope s.heap.objs.size env.globals (cellsFrom (s.heap.objs.size+1) scope.names cl) env.qual none .none (some env) builtinsNs) {s with heap:=pushCells (s.heap.push {cls := .type "dict",data := .dict #[]}) scope.names}):
 wpAny M A (newFunctionEnv scope env.globals cl [] env.qual none .none (some env)) Q E s:=by
 simp only[newFunctionEnv,Vp,if_true];refine wpAny_bind (wpAny_alloc ?_);refine wpAny_bind (wpAny_layCells _ (fun name kind cells=>by cases hkc:kind == NameKind.cell<;>simp[hkc]) _ _ _ _ ?_);rw[show({s with heap:=s.heap.push {cls := .type "dict",data := .dict #[]}}:Shared).heap.objs.size=s.heap.objs.size+1 from UC ..];refine wpAny_bind ?_;rw[List.forIn_nil];exact wpAny_pure (wpAny_pure h)
structure CForm(prog:Program)(w:World)(A:Around)(E tg iter:Expr)(ifs:List Expr)(emit:Value->Env->Sem Unit)(dp:Nat:=0):Prop where
 turn:∀(it:Value) (D:Addr) (env:Env),compTurn E dp it (.ref D) env=(do
  standAt iter.pos
  match <- pyNext it with
  | none=>pure (.done .next)
  | some v=>
    letOwnedTupleGo tg it v
    assign tg env v
    let mut ok:=true
    for c in ifs do
     if ok then ok <- isTrue c env (eval c env)
    if ok then emit (.ref D) env
    again (.compLoop E dp it (.ref D) env))
 und:∀(it acc:Value) (env:Env),A.under (.compLoop E dp it acc env)=A
 den:∀(it acc:Value) (env:Env),(model prog w).den (.compLoop E dp it acc env)=(compTurn E dp it acc env).onRaise (fun x=>do noteFrame x env;theTreesLotGoes x)
 start:∀{R:Result->Shared->Prop} {s:Shared} {it acc:Value} {env:Env},codeAny (model prog w) A (.compLoop E dp it acc env) R s->wpAny (model prog w) A (pyIter it) (fun it' s'=>codeAny (model prog w) A (.compLoop E dp it' acc env) R s') (notedBy (model prog w) A env fun x s'=>R (.error x) s') s->
  codeAny (model prog w) A (.compStart E dp it acc env) R s
theorem CForm.loop{prog:Program}{w:World}{A:Around}{E tg iter:Expr}{ifs:List Expr}{emit:Value->Env->Sem Unit}{dp:Nat}(F:CForm prog w A E tg iter ifs emit dp){R:Result->Shared->Prop}{s:Shared}{it:Value}{D:Addr}{env:Env}(I:Nat->Shared->Prop)
 (turn:∀ n s,I n s->wpAny (model prog w) A (pyNext it) (fun r s₁=>match r with
   | none=>R (.ok .next) s₁
   | some v=>wpAny (model prog w) A (letOwnedTupleGo tg it v) (fun _ s₁'=>wpAny (model prog w) A (assign tg env v) (fun _ s₂=>
      wpAny (model prog w) A (forIn ifs true fun c r=>if r=true then do let ok <- isTrue c env (eval c env);pure (ForInStep.yield ok) else pure (ForInStep.yield r)) (fun ok s₃=>
       if ok=true then wpAny (model prog w) A (emit (.ref D) env) (fun _ s₅=>∃ m,m<n/\I m s₅) (fun _ _=>False) s₃
       else ∃ m,m<n/\I m s₃) (fun _ _=>False) s₂) (fun _ _=>False) s₁') (fun _ _=>False) s₁) (fun _ _=>False) s)
 (n:Nat) (h:I n s):
 codeAny (model prog w) A (.compLoop E dp it (.ref D) env) R s:=by
 refine codeAny_loop rfl I (fun n s hI=>?_) n h;rw[F.und,F.den];refine wpAny_noted ?_;rw[F.turn];refine wpAny_bind (wpAny_standAt (wpAny_bind (wpAny_mono (turn n s hI) (fun r s₁ h₁=>?_) fun _ _ h'=>False.elim h')));cases r with
 | none=>exact wpAny_pure h₁
 | some v=>
   refine wpAny_bind (wpAny_mono h₁ (fun _ s₁' h₁'=>?_) fun _ _ h'=>False.elim h');refine wpAny_bind (wpAny_mono h₁' (fun _ s₂ h₂=>wpAny_bind (wpAny_mono h₂ (fun ok s₃ h₃=>?_) fun _ _ h'=>False.elim h')) fun _ _ h'=>False.elim h');cases ok with
   | false=>exact wpAny_pure ⟨rfl,h₃⟩
   | true=>exact wpAny_bind (wpAny_mono h₃ (fun _ s₅ h₅=>wpAny_pure ⟨rfl,h₅⟩) fun _ _ h'=>False.elim h')
noncomputable def GP{α:Type}(J:It)(g:TG)(tt:TT)(tem:α->St->Hp->(α->Hp->Prop)->Prop)(σ':St)(Q:Hp->Prop)(W:Nat->Nat->α->Hp->Prop):Prop:=
 ∀ i m a H,W i m a H->(J.stop i H/\Q H)\/(J.go i H/\∃ N:α->Hp->Prop,(∀ a' H',N a' H'->∃ m',m'<m/\W (i+1) m' a' H')/\∀ x H',J.yld i H x H'->g x σ' H' fun σ2 H2=>tt σ2 H2 fun b H3=>if b=true then tem a σ2 H3 N else N a H3)
noncomputable def OL(elt:Expr)(acc:Value)(env:Env):Sem Unit:=do
 let x <- eval elt env
 let _ <- call (.builtin "list.append") [acc,x]
theorem GQ{prog:Program}{w:World}{A:Around}{elt tg iter:Expr}{ifs:List Expr}{scope:Scope}{pos:Pos}:CForm prog w A (.ListComp elt [⟨tg,iter,ifs,0⟩] scope pos) tg iter ifs (OL elt) where
 turn:=fun _ _ _=>compTurn_list ..
 und:=fun _ _ _=>rfl
 den:=fun _ _ _=>rfl
 start:=fun h0 h=>codeAny_compStart_list h0 h
noncomputable def SQ(te:TE)(D:Addr)(ys:List V)(σ:St)(H:Hp)(N:List V->Hp->Prop):Prop:=te σ H fun v H4=>H4 D=some (.lst ys)/\ys.length<sizeLine/\N (ys++[v]) (upd H4 D (.lst (ys++[v])))
noncomputable def OM(J:It)(g:TG)(tt:TT)(te:TE)(D:Addr)(σ':St)(Q:List V->Hp->Prop)(W:Nat->Nat->List V->Hp->Prop):Prop:=
 ∀ i m ys H,W i m ys H->(J.stop i H/\Q ys H)\/(J.go i H/\∃ N:List V->Hp->Prop,(∀ ys' H',N ys' H'->∃ m',m'<m/\W (i+1) m' ys' H')/\∀ x H',J.yld i H x H'->g x σ' H' fun σ2 H2=>tt σ2 H2 fun b H3=>
  if b=true then te σ2 H3 fun v H4=>H4 D=some (.lst ys)/\ys.length<sizeLine/\N (ys++[v]) (upd H4 D (.lst (ys++[v]))) else N ys H3)
noncomputable def KN(wi:TI)(g:TG)(tt:TT)(te:TE)(k:Nat)(js:List Nat):TE:=fun σ H Q=>wi σ H fun J H1=>∀ D,H1 D=none->
 ∃ W:Nat->Nat->List V->Hp->Prop,(∃ m,W 0 m [] (upd H1 D (.lst [])))/\OM J g tt te D (Ak k js σ) (fun _ H=>Q (.ref D) H) W
section
variable{X:Cx}{pins:List (Addr×Obj)}{σ:St}{H2:Hp}{s2:Shared}{tg elt iter:Expr}{ifs:List Expr}{scope:Scope}{pos:Pos}{own cn:List Str}{js:List Nat}{g:TG}{tt:TT}{te:TE}
theorem Cn{α:Type}{E:Expr}{emit:Value->Env->Sem Unit}{mk:Sem Value}{o0:Obj}{u0:HO}{a0:α}{tem:Addr->α->St->Hp->(α->Hp->Prop)->Prop}(F:CForm X.prog X.w X.A E tg iter ifs emit)(hmk:∀{Q:Value->Shared->Prop},Q (.ref s2.heap.objs.size) {s2 with heap:=s2.heap.push o0}->wpAny (model X.prog X.w) X.A mk Q X.xe s2)(nf0:o0.isFreed=false)(new0:∀(H:Hp) (h:Heap),h.get? s2.heap.objs.size=some o0->ObjOk X.prog X.w H h s2.heap.objs.size u0)(hok:m4 X.env.scope scope own cn X.N js=true)(hc:X.calm=true)
 (hg:∀ s2 H2 cs C fp,PG (c8 X scope (own++cn) s2 H2 cs C fp) tg g) (ht:∀ s2 H2 cs C fp,B4 (c8 X scope (own++cn) s2 H2 cs C fp) ifs tt) (hem:∀ D s2 H2 cs C fp pins s σ H (a:α) (N:α->Hp->Prop),Inv (c8 X scope (own++cn) s2 H2 cs C fp) pins σ H s->tem D a σ H N->wpAny (model X.prog X.w) X.A (emit (.ref D) (compEnvC scope cs C X.env)) (fun _ s1=>∃ σ1 a1 H1,Inv (c8 X scope (own++cn) s2 H2 cs C fp) pins σ1 H1 s1/\N a1 H1) (fun _ _=>False) s)
 (I2:Inv X pins σ H2 s2) {it:Addr} {fp:List Addr} {tn:Nat->Heap->Prop} {J:It} (T:Turn X.prog X.w X.K tg J fp it tn) (st2:tn 0 s2.heap) (f2:∀ b∈fp,FpOk X pins H2 b)
 {Qe:Hp->Prop} (hW:∃ W:Nat->Nat->α->Hp->Prop,(∃ m,W 0 m a0 (upd H2 s2.heap.objs.size u0))/\GP J g tt (tem s2.heap.objs.size) (Ak own.length js σ) Qe W)
 {RR:Value->Addr->Result->Shared->Prop}
 (hRR:∀ C H' s',Inv X pins σ H' s'->FpOk X pins H' C->(∃ m,s'.heap.Ns C m)->Qe H'->RR (.ref s2.heap.objs.size) C (.ok .next) s'):
 wpAny (model X.prog X.w) X.A mk (fun acc s₃=>wpAny (model X.prog X.w) X.A (newFunctionEnv scope X.env.globals (y4 X.env scope.names []) [] X.env.qual none .none (some X.env)) (fun cenv s₄=>
  codeAny (model X.prog X.w) X.A (.compStart E 0 (.ref it) acc {cenv with scope:=relabel scope X.env}) (RR acc cenv.locals) s₄) X.xe s₃) X.xe s2:=by
 unfold m4 at hok;simp only[Si,decide_eq_true_eq,TK,Tj,Ta,decide_eq_false_iff_not]at hok;obtain⟨⟨⟨⟨⟨⟨k1,k2⟩,k3⟩,k4⟩,k5⟩,k6⟩,k7⟩:=hok
 have hfreeK:∀ x∈scope.names,x.2 = .free->X.env.kindOf x.1=some .cell\/X.env.kindOf x.1=some .free:=fun x hx hf=>by
  rcases k2 x hx with(z | z) | z
  ·exact absurd hf z
  ·exact .inl z
  ·exact .inr z
 have hfree:∀ x∈scope.names,x.2 = .free->∃ c,X.env.cells.lookup x.1=some c:=fun x hx hf=>I2.ok.has x.1 (hfreeK x hx hf);refine hmk (KM ?_);have hsz3:(s2.heap.push o0).objs.size=s2.heap.objs.size+1:=UC ..;dsimp only;generalize hh3:s2.heap.push o0=h3 at hsz3 ⊢;have old3:∀ b o,s2.heap.get? b=some o->h3.get? b=some o:=fun b o e=>hh3▸So _ e;have hD3:h3.get? s2.heap.objs.size=some o0:=hh3▸Sy _ nf0;generalize hcs:cellsFrom (h3.objs.size+1) scope.names (y4 X.env scope.names [])=cs;generalize hh4:pushCells (h3.push {cls := .type "dict",data := .dict #[]}) scope.names=h4;have old4:∀ b o,h3.get? b=some o->h4.get? b=some o:=fun b o e=>hh4▸pushCells_keeps _ _ b o (So _ e);have old:∀ b o,s2.heap.get? b=some o->h4.get? b=some o:=fun b o e=>old4 b o (old3 b o e);have hD4:h4.get? s2.heap.objs.size=some o0:=old4 _ _ hD3;have hNs:h4.Ns h3.objs.size (fun _=>none):=hh4▸(Heap.Ns.new h3 (.type "dict")).keeps (pushCells_keeps _ _);generalize hC:h3.objs.size=C at hNs hcs ⊢;have hCD:@Eq Nat C (s2.heap.objs.size+1):=by rw[<-hC];exact hsz3
 have clM:=CS (env:=X.env) scope.names [] hfree (fun p hp=>absurd hp (by simp));have cellLt:∀ x c,X.env.cells.lookup x=some c->@LT.lt Nat _ c s2.heap.objs.size:=fun x c e=>by obtain⟨v,z⟩:=I2.cell x c e;exact z.lt
 have apart:cs.Pairwise fun x y=>x.2≠y.2:=by
  rw[<-hcs];refine AO _ _ _ (BJ I2.ok.inj scope.names [] k3 hfree List.Pairwise.nil fun p hp=>absurd hp (by simp)) fun p hp=>?_;have:=cellLt _ _ (clM p hp);show @LT.lt Nat _ p.2 (C+1);omega
 have csM:∀ p∈cs,X.env.cells.lookup p.1=some p.2\/(C+1<=p.2/\(p.1,NameKind.cell)∈scope.names/\h4.IsCell p.2 none):=fun p hp=>by
  have hp0:=hp;rw[<-hcs]at hp;rcases AF _ _ _ p hp with z | ⟨z,y⟩
  ·exact .inl (clM p z)
  ·have e:h3.objs.size+1=(h3.push {cls := .type "dict",data := .dict #[]}).objs.size:=by rw[UC]
   have hp':=hp;rw[<-hC,e]at hp';rcases Aj _ _ _ p hp' with q | q
   ·exact .inl (clM p q)
   ·exact .inr ⟨z,y,hh4▸q⟩
 have hX:(c8 X scope (own++cn) s2 H2 cs C fp).Ok:=by
  refine⟨I2.ok.mod,k1,I2.ok.glob,I2.ok.blt,by show @LE.le Nat _ s2.heap.objs.size C;omega,fun x y c h1 h2=>name_of_addr apart (PySem.mem_of_lookup h1) (PySem.mem_of_lookup h2),fun x hx=>?_,fun x c hf hx=>?_,I2.ok.hd,I2.ok.frames,.inl rfl,fun b hb=>?_,I2.bs,Td I2.ok.bsz I2.sz,fun b o e hb=>?_,fun b hb hf=>?_,I2.stack,I2.stkFree⟩
  ·have hx':(relabel scope X.env).names.lookup x=some .cell\/(relabel scope X.env).names.lookup x=some .free:=hx
   have hl:scope.names.lookup x=some .cell\/scope.names.lookup x=some .free:=by
    unfold relabel at hx';dsimp only at hx';rw[A0]at hx';cases e:scope.names.lookup x with
    | none=>rw[e]at hx';simp at hx'
    | some k=>
      rw[e]at hx';cases k<;>simp_all
   have:∃ c,(x,c)∈cs:=by
    rw[<-hcs];rcases hl with hl | hl
    ·exact Ai _ _ _ x (PySem.mem_of_lookup hl)
    ·obtain⟨c,hc'⟩:=CU (env:=X.env) scope.names [] x (PySem.mem_of_lookup hl);exact⟨c,AG _ _ _ _ hc'⟩
   obtain⟨c,hm⟩:=this;exact Bs hm
  ·have hf':scope.names.lookup x=some .cell:=by simpa using hf
   have hm:=PySem.mem_of_lookup (show cs.lookup x=some c from hx);rcases csM _ hm with z | ⟨z,_⟩
   ·
    rw[<-hcs]at hm;rcases AF _ _ _ _ hm with q | ⟨q,_⟩
    ·rcases BH (env:=X.env) scope.names [] _ q with q' | q'
     ·exact absurd q' (by simp)
     ·have:=g8 k3 q';have h2:scope.names.lookup x=some .free:=this;rw[hf']at h2;cases h2
    ·show @LE.le Nat _ s2.heap.objs.size c;have q2:@LE.le Nat _ (C+1) c:=q;omega
   ·show @LE.le Nat _ s2.heap.objs.size c;have z2:@LE.le Nat _ (C+1) c:=z;omega
  ·obtain⟨f0,f1,f2',f3,f4,f5⟩:=f2 b hb;obtain⟨o,ho,_⟩:=T.obj 0 _ st2 b hb;have hb2:@LT.lt Nat _ b s2.heap.objs.size:=Sw ho;refine⟨?_,fun x c e=>?_⟩
   ·show @Ne Nat b C;omega
   ·rcases csM _ (PySem.mem_of_lookup (show cs.lookup x=some c from e)) with z | ⟨z,_⟩
    ·exact f4 x c z
    ·have z2:@LE.le Nat _ (C+1) c:=z;show @Ne Nat c b;omega
  ·obtain⟨f0,f1,f2',f3,f4,f5⟩:=f2 b hb;rcases f3 with z | z
   ·exact I2.ok.noex b o e z
   ·exact absurd (TV (Sw e) (Td I2.ok.bsz z)) (UA _)
  ·obtain⟨f0,f1,f2',_⟩:=f2 b hb;rcases TC.mp (I2.stkSub b hf) with z | z
   ·exact f1 z
   ·exact f2' z
 have hDn:H2 s2.heap.objs.size=none:=I2.fresh;have hCn:H2 C=none:=I2.hok.fresh (show @LE.le Nat _ s2.heap.objs.size C by omega)
 have stkNe:∀ b,b≠X.env.locals->b∉X.fs->b∉frs X.stack:=fun b h1 h2 hb=>by
  rcases TC.mp (I2.stkSub b hb) with z | z
  ·exact h1 z
  ·exact h2 z
 have I4:Inv (c8 X scope (own++cn) s2 H2 cs C fp) pins (Ak own.length js σ) (upd H2 s2.heap.objs.size u0) {s2 with heap:=h4}:=by
  refine⟨hX,rfl,I2.bare,Un.laid old (Sr _) hDn,⟨fun _=>none,hNs,fun i x v e1 e2 e3=>?_⟩,fun x c e=>?_,?_,fun x c e=>?_,fun p hp=>?_,I2.hok.laid old (Sr _) (new0 _ _ hD4),?_⟩
  ·
   have hi:own.length<=i:=by
    rcases VG i own.length with z | z
    ·exfalso;unfold Ak at e2;rw[T9 (by simpa using z),UU,if_pos z]at e2;cases e2
    ·exact z
   have e1':cn[i - own.length]?=some x:=by
    have:(own++cn)[i]?=some x:=e1;rw[TZ hi]at this;exact this
   have e2':(js.map fun j=>(σ[j]?).join)[i - own.length]?=some (some v):=by
    unfold Ak at e2;rw[TZ (by simpa using hi)]at e2;simpa using e2
   rw[TB]at e2';cases hj:js[i - own.length]? with
   | none=>rw[hj]at e2';cases e2'
   | some j=>
     rw[hj]at e2';have e2'':(σ[j]?).join=some v:=by simpa using e2'
     have hσ:σ[j]?=some (some v):=by
      cases q:σ[j]? with
      | none=>rw[q]at e2'';cases e2''
      | some z=>rw[q]at e2'';simp at e2'';rw[e2'']
     have hNx:X.N[j]?=some x:=by
      have:=congrArg (fun l=>l[i - own.length]?) k7;simp only[TB,hj,e1',Ui]at this;exact oj this
     have hfx:scope.names.lookup x=some .free:=k5 x (Sm e1');have hK:=hfreeK (x,.free) (PySem.mem_of_lookup hfx) rfl;have hK':X.env.kindOf x=some .cell\/X.env.kindOf x=some .free:=hK;obtain⟨m,hn,hl⟩:=I2.loc
     have hvis:Vis X.env.scope x:=by
      rcases hK' with z | z
      ·exact .inr (.inl z)
      ·exact .inr (.inr z)
     obtain⟨u,r,l⟩:=hl j x v hNx hσ hvis;refine⟨u,r,.inr ?_⟩;rcases l with⟨l1,_⟩ | ⟨l1,c,l2,l3⟩
     ·rcases hK' with z | z
      ·rw[z]at l1;cases l1
      ·rw[z]at l1;cases l1
     ·have hrl:(compEnvC scope cs C X.env).kindOf x=some .cell\/(compEnvC scope cs C X.env).kindOf x=some .free:=by
       show(relabel scope X.env).names.lookup x=_\/(relabel scope X.env).names.lookup x=_;unfold relabel;dsimp only;rw[A0,hfx];simp only[Ui];split
       ·exact .inl rfl
       ·exact .inr rfl
      refine⟨hrl,c,?_,l3.keeps fun b o e=>old b o e⟩;show cs.lookup x=some c;obtain⟨c',hc'⟩:=hX.has x hrl;have hc2:cs.lookup x=some c':=hc';rw[hc2];have hm:=PySem.mem_of_lookup hc2
      have:X.env.cells.lookup x=some c':=by
       rcases csM _ hm with z | ⟨_,z,_⟩
       ·exact z
       ·have:=g8 k3 z;have h2:scope.names.lookup x=some .cell:=this;rw[hfx]at h2;cases h2
      rw[l2]at this;exact this.symm
  ·rcases csM _ (PySem.mem_of_lookup (show cs.lookup x=some c from e)) with z | ⟨_,_,z⟩
   ·obtain⟨v,q⟩:=I2.cell _ _ z;exact⟨v,q.keeps fun b o e=>old b o e⟩
   ·exact⟨none,z⟩
  ·show upd H2 s2.heap.objs.size u0 C=none;rw[upd_ne (show @Ne Nat C s2.heap.objs.size by omega)];exact hCn
  ·have hne:c≠s2.heap.objs.size/\H2 c=none:=by
    rcases csM _ (PySem.mem_of_lookup (show cs.lookup x=some c from e)) with z | ⟨z,_,_⟩
    ·exact⟨TL (cellLt _ _ z),I2.freeC _ _ z⟩
    ·have z2:@LE.le Nat _ (C+1) c:=z;exact⟨show @Ne Nat c s2.heap.objs.size by omega,I2.hok.fresh (show @LE.le Nat _ s2.heap.objs.size c by omega)⟩
   rw[upd_ne hne.1];exact hne.2
  ·obtain⟨e,n,ne,nf,d⟩:=I2.pin p hp;have hlt:@LT.lt Nat _ p.1 s2.heap.objs.size:=Sw e;refine⟨old _ _ e,?_,?_,stkNe _ ne nf,d⟩
   ·rw[upd_ne (TL hlt)];exact n
   ·show @Ne Nat p.1 C;omega
  ·show(Ak own.length js σ).length=(own++cn).length;unfold Ak;have hl:=congrArg Ul k7;simp only[Sk]at hl;simp[hl]
 have stat:∀{H':Hp},(∀ b∈fp,H' b=none)->∀ b∈fp,FpOk (c8 X scope (own++cn) s2 H2 cs C fp) pins H' b:=fun hn b hb=>by
  obtain⟨f0,f1,f2',f3,f4,f5⟩:=f2 b hb;exact⟨hn b hb,(hX.exf b hb).1,stkNe b f1 f2',.inl hb,fun x c e=>(hX.exf b hb).2 x c e,f5⟩
 have back:∀{σ':St} {H':Hp} {s':Shared},Inv (c8 X scope (own++cn) s2 H2 cs C fp) pins σ' H' s'->Inv X pins σ H' s':=fun{σ' H' s'} J'=>
  I2.call' (ch:=fp) J'.os J'.base J'.hok J'.bare fun b hb=>by
   obtain⟨f0,f1,f2',f3,f4,f5⟩:=f2 b hb;exact⟨f3,f1,f4,f5⟩
 obtain⟨W,⟨m0,w0⟩,turn⟩:=hW
 have loop:codeAny (model X.prog X.w) X.A (.compLoop E 0 (.ref it) (.ref s2.heap.objs.size) (compEnvC scope cs C X.env)) (RR (.ref s2.heap.objs.size) C) {s2 with heap:=h4}:=by
  refine F.loop (fun n s'=>∃ i ys H',Inv (c8 X scope (own++cn) s2 H2 cs C fp) pins (Ak own.length js σ) H' s'/\tn i s'.heap/\(∀ b∈fp,H' b=none)/\W i n ys H') ?_ m0
   ⟨0,a0,_,I4,T.keep _ _ _ st2 fun b hb o e=>old b o e,fun b hb=>?_,w0⟩
  ·rintro n s3 ⟨i,ys,H3,I3,st3,fr3,w3⟩;rcases turn i n ys H3 w3 with⟨stop,q⟩ | ⟨go,N,hN,step⟩
   ·refine thn (T.done (c8 X scope (own++cn) s2 H2 cs C fp) rfl rfl rfl hc i pins s3 _ H3 _ I3 (stat fr3) st3 stop) fun r s4 ⟨hr,I5⟩=>?_;subst hr;obtain⟨m,hn,_⟩:=I5.loc;exact hRR C H3 s4 (back I5) (I2.fpOk (show @LE.le Nat _ s2.heap.objs.size C by omega) I5.free) ⟨m,hn⟩ q
   ·refine thn (T.item (c8 X scope (own++cn) s2 H2 cs C fp) rfl rfl rfl hc i pins s3 _ H3 _ I3 (stat fr3) st3 go) fun r s4 ⟨u,hr,h4'⟩=>?_;subst hr;refine thn h4' fun _ s5 ⟨x,H5,I5,r5,y5,st5,fr5⟩=>?_;have I5':=I5.pinned (stat fr5) (T.obj _ _ st5);refine thn (hg s2 H2 cs C fp _ s5 _ H5 x u _ I5' r5 (step x H5 y5)) fun _ s6 ⟨σ6,H6,I6,q6⟩=>?_;refine thn (ht s2 H2 cs C fp _ s6 σ6 H6 _ I6 q6) fun b s7 ⟨H7,I7,q7⟩=>?_
    have again:∀{σ8:St} {H8:Hp} {s8:Shared} {ys8:α},Inv (c8 X scope (own++cn) s2 H2 cs C fp) (pins++BF fp s5.heap) σ8 H8 s8->(∀(j:Nat) v,(Ak own.length js σ)[j]?=some (some v)->σ8[j]?=some (some v))->(∃ m',m'<n/\W (i+1) m' ys8 H8)->
     ∃ m,m<n/\∃ i ys H',Inv (c8 X scope (own++cn) s2 H2 cs C fp) pins (Ak own.length js σ) H' s8/\tn i s8.heap/\(∀ b∈fp,H' b=none)/\W i m ys H':=fun{σ8 H8 s8 ys8} I8 hw8 ⟨m',hm,w8⟩=>by
     refine⟨m',hm,i+1,ys8,H8,I8.unpinned.weak (by rw[I8.len,I4.len]) hw8,T.keep _ _ _ st5 fun b hb o e=>(I8.pin (b,o) (TR _ (TR _ (AC hb e)))).1,fun b hb=>?_,w8⟩;obtain⟨o,e,d⟩:=T.obj _ _ st5 b hb;exact(I8.pin (b,o) (TR _ (TR _ (AC hb e)))).2.1
    have capK:∀{σ8:St} {H8:Hp} {s8:Shared},Inv (c8 X scope (own++cn) s2 H2 cs C fp) (pins++BF fp s5.heap) σ8 H8 s8->Inv (c8 X scope (own++cn) s2 H2 cs C fp) (pins++BF fp s5.heap) (Ak own.length js σ) H8 s8:=fun{σ8 H8 s8} I8=>by
     have IX:=back I8.unpinned;refine⟨I8.ok,I8.os,I8.bare,I8.base,?_,I8.cell,I8.free,I8.freeC,I8.pin,I8.hok,I4.len⟩;obtain⟨m,hn,_⟩:=I8.loc;refine⟨m,hn,fun i x v e1 e2 e3=>?_⟩;obtain⟨mx,hnx,hlx⟩:=IX.loc
     have hi:own.length<=i:=by
      rcases VG i own.length with z | z
      ·exfalso;unfold Ak at e2;rw[T9 (by simpa using z),UU,if_pos z]at e2;cases e2
      ·exact z
     have e1':cn[i - own.length]?=some x:=by
      have:(own++cn)[i]?=some x:=e1;rw[TZ hi]at this;exact this
     have e2':(js.map fun j=>(σ[j]?).join)[i - own.length]?=some (some v):=by
      unfold Ak at e2;rw[TZ (by simpa using hi)]at e2;simpa using e2
     rw[TB]at e2';cases hj:js[i - own.length]? with
     | none=>rw[hj]at e2';cases e2'
     | some j=>
       rw[hj]at e2';have e2'':(σ[j]?).join=some v:=by simpa using e2'
       have hσ:σ[j]?=some (some v):=by
        cases q:σ[j]? with
        | none=>rw[q]at e2'';cases e2''
        | some z=>rw[q]at e2'';simp at e2'';rw[e2'']
       have hNx:X.N[j]?=some x:=by
        have:=congrArg (fun l=>l[i - own.length]?) k7;simp only[TB,hj,e1',Ui]at this;exact oj this
       have hfx:scope.names.lookup x=some .free:=k5 x (Sm e1');have hK':X.env.kindOf x=some .cell\/X.env.kindOf x=some .free:=hfreeK (x,.free) (PySem.mem_of_lookup hfx) rfl
       have hvis:Vis X.env.scope x:=by
        rcases hK' with z | z
        ·exact .inr (.inl z)
        ·exact .inr (.inr z)
       obtain⟨u,r,l⟩:=hlx j x v hNx hσ hvis;refine⟨u,r,.inr ?_⟩;rcases l with⟨l1,_⟩ | ⟨l1,c,l2,l3⟩
       ·rcases hK' with z | z
        ·rw[z]at l1;cases l1
        ·rw[z]at l1;cases l1
       ·have hrl:(compEnvC scope cs C X.env).kindOf x=some .cell\/(compEnvC scope cs C X.env).kindOf x=some .free:=by
         show(relabel scope X.env).names.lookup x=_\/(relabel scope X.env).names.lookup x=_;unfold relabel;dsimp only;rw[A0,hfx];simp only[Ui];split
         ·exact .inl rfl
         ·exact .inr rfl
        refine⟨hrl,c,?_,l3⟩;show cs.lookup x=some c;obtain⟨c',hc'⟩:=hX.has x hrl;have hc2:cs.lookup x=some c':=hc';rw[hc2];have hm:=PySem.mem_of_lookup hc2
        have:X.env.cells.lookup x=some c':=by
         rcases csM _ hm with z | ⟨_,z,_⟩
         ·exact z
         ·have:=g8 k3 z;have h2:scope.names.lookup x=some .cell:=this;rw[hfx]at h2;cases h2
        rw[l2]at this;exact this.symm
    cases b with
    | false=>
      rw[if_neg Ss];rw[if_neg Ss]at q7;exact again (capK I7) (fun _ _ e=>e) (hN _ _ q7)
    | true=>
      rw[if_pos rfl];rw[if_pos rfl]at q7;exact thn (hem _ s2 H2 cs C fp _ s7 σ6 H7 _ _ I7 q7) fun _ s9 ⟨σ9,a9,H9,I9,q9⟩=>again (capK I9) (fun _ _ e=>e) (hN _ _ q9)
  ·obtain⟨f0,_⟩:=f2 b hb;obtain⟨o,ho,_⟩:=T.obj 0 _ st2 b hb;rw[upd_ne (TL (Sw ho))];exact f0
 exact F.start loop (T.self _ 0 _ _ _ (T.keep _ _ _ st2 fun b hb o e=>old b o e) loop)
theorem D9(hok:m4 X.env.scope scope own cn X.N js=true)(hc:X.calm=true)
 (hg:∀ s2 H2 cs C fp,PG (c8 X scope (own++cn) s2 H2 cs C fp) tg g) (ht:∀ s2 H2 cs C fp,B4 (c8 X scope (own++cn) s2 H2 cs C fp) ifs tt) (he:∀ s2 H2 cs C fp,PE (c8 X scope (own++cn) s2 H2 cs C fp) elt te)
 (I2:Inv X pins σ H2 s2) {it:Addr} {fp:List Addr} {tn:Nat->Heap->Prop} {J:It} (T:Turn X.prog X.w X.K tg J fp it tn) (st2:tn 0 s2.heap) (f2:∀ b∈fp,FpOk X pins H2 b)
 {Qe:Hp->Prop} (hW:∃ W:Nat->Nat->List V->Hp->Prop,(∃ m,W 0 m [] (upd H2 s2.heap.objs.size (.lst [])))/\OM J g tt te s2.heap.objs.size (Ak own.length js σ) (fun _ H=>Qe H) W)
 {RR:Value->Addr->Result->Shared->Prop}
 (hRR:∀ C H' s',Inv X pins σ H' s'->FpOk X pins H' C->(∃ m,s'.heap.Ns C m)->Qe H'->RR (.ref s2.heap.objs.size) C (.ok .next) s'):
 wpAny (model X.prog X.w) X.A (newList []) (fun acc s₃=>wpAny (model X.prog X.w) X.A (newFunctionEnv scope X.env.globals (y4 X.env scope.names []) [] X.env.qual none .none (some X.env)) (fun cenv s₄=>
  codeAny (model X.prog X.w) X.A (.compStart (.ListComp elt [⟨tg,iter,ifs,0⟩] scope pos) 0 (.ref it) acc {cenv with scope:=relabel scope X.env}) (RR acc cenv.locals) s₄) X.xe s₃) X.xe s2:=by
 obtain⟨W,w0,hw⟩:=hW;refine Cn (RR:=RR) (a0:=[]) (o0:={cls := .type "list",dict:=none,data := .seq ([]:List Value).toArray}) (u0 := .lst []) (tem:=SQ te) GQ (fun hq=>wpAny_newObj_type hq) rfl (fun _ _ hD=>⟨U7 _,[],0,.nil,hD⟩) hok hc hg ht (fun D s2 H2 cs C fp pins s σ H ys N I h=>?_) I2 T st2 f2 ⟨W,w0,hw⟩ hRR;refine wpAny_bind (thn (he s2 H2 cs C fp _ s σ H _ I h) fun y s8 ⟨v,H8,I8,r8,hD8,hz8,q8⟩=>?_);refine wpAny_bind (thn (BZ (X:=c8 X scope (own++cn) s2 H2 cs C fp) _ s8 σ H8 (.ref D) [v] (.ref D) [y] (fun _ H9=>H9=upd H8 D (.lst (ys++[v]))) I8 rfl (.cons r8 .nil) ⟨_,ys,v,rfl,rfl,hD8,hz8,rfl⟩) fun _ s9 ⟨z,H9,I9,r9,e9⟩=>?_);subst e9;exact wpAny_pure ⟨_,_,_,I9,q8⟩
theorem Mj{wi:TI}(own cn:List Str)(js:List Nat)(hi:PI X tg iter wi)(hg:∀ s2 H2 cs C fp,PG (c8 X scope (own++cn) s2 H2 cs C fp) tg g)(ht:∀ s2 H2 cs C fp,B4 (c8 X scope (own++cn) s2 H2 cs C fp) ifs tt)
 (he:∀ s2 H2 cs C fp,PE (c8 X scope (own++cn) s2 H2 cs C fp) elt te) (hc:X.calm=true:=by rfl) (hok:m4 X.env.scope scope own cn X.N js=true:=by kernel_rfl)
 (hs:∀ x,foldedSetIterable iter X.env x=pure x:=by intro _;rfl):PE X (.ListComp elt [⟨tg,iter,ifs,0⟩] scope pos) (KN wi g tt te own.length js):=by
 intro pins s σ H Q I h;have hok':=hok;unfold m4 at hok';simp only[Si,decide_eq_true_eq,TK,Tj,Ta,decide_eq_false_iff_not]at hok';obtain⟨⟨⟨⟨⟨⟨k1,k2⟩,k3⟩,k4⟩,k5⟩,k6⟩,k7⟩:=hok'
 have hfree:∀ x∈scope.names,x.2 = .free->∃ c,X.env.cells.lookup x.1=some c:=fun x hx hf=>I.ok.has x.1 (by
  rcases k2 x hx with(z | z) | z
  ·exact absurd hf z
  ·exact .inl z
  ·exact .inr z)
 rw[eval_ListComp];refine wpAny_comprehension_free (use:=none) rfl hs (v7 hfree) k1 (fun x hx hl=>?_) (thn (hi pins s σ H _ I h) fun v s1 h1=>thn h1 fun itv s2 h2=>?_)
 ·have:=g8 k3 (show(x.1,x.2)∈scope.names from hx);rw[this,hl]
 ·obtain⟨it,fp,tn,J,H2,e,I2,T,st2,f2,q⟩:=h2;subst e;refine D9 (RR:=fun acc C=>compPost (model X.prog X.w) X.A X.xe none (EP X pins σ Q) acc C) hok hc hg ht he I2 T st2 f2 (q _ I2.fresh) ?_;intro C H' s' I' fC ⟨m,hn⟩ q';obtain⟨f0,f1,f2',f3,f4,f5⟩:=fC;refine⟨m,hn,fun h' hs'=>⟨.ref s2.heap.objs.size,H',?_,rfl,q'⟩⟩;exact I'.turned (t':=s'.toks) (fun b o hb e=>(hs'.2 b hb).trans e) f0 f1 f3 f4 f5
theorem GR{wi:TI}{i:Nat}{x:Str}{px spos:Pos}(own cn:List Str)(js:List Nat)(hN:X.N.Nodup)(hix:X.N[i]?=some x)(hx:X.env.scope.names.lookup x=some .local)(hi:PI X tg iter wi)
 (hg:∀ s2 H2 cs C fp,PG (c8 X scope (own++cn) s2 H2 cs C fp) tg g) (ht:∀ s2 H2 cs C fp,B4 (c8 X scope (own++cn) s2 H2 cs C fp) ifs tt)
 (he:∀ s2 H2 cs C fp,PE (c8 X scope (own++cn) s2 H2 cs C fp) elt te) (hc:X.calm=true:=by rfl) (hok:m4 X.env.scope scope own cn X.N js=true:=by kernel_rfl)
 (hsw:swapsWith (.ListComp elt [⟨tg,iter,ifs,0⟩] scope pos) (some (.Name x px)) spos.line X.env=pure true:=by rfl)
 (hs:∀ x,foldedSetIterable iter X.env x=pure x:=by intro _;rfl):PS X (.Assign [.Name x px] (.ListComp elt [⟨tg,iter,ifs,0⟩] scope pos) spos) (GC (KN wi g tt te own.length js) (Er i)):=by
 intro pins s σ H D I h;have hok':=hok;unfold m4 at hok';simp only[Si,decide_eq_true_eq,TK,Tj,Ta,decide_eq_false_iff_not]at hok';obtain⟨⟨⟨⟨⟨⟨k1,k2⟩,k3⟩,k4⟩,k5⟩,k6⟩,k7⟩:=hok'
 have hfree:∀ x∈scope.names,x.2 = .free->∃ c,X.env.cells.lookup x.1=some c:=fun x hx hf=>I.ok.has x.1 (by
  rcases k2 x hx with(z | z) | z
  ·exact absurd hf z
  ·exact .inl z
  ·exact .inr z)
 rw[exec_Assign_Name_used _ _ _ _ hsw];refine wpAny_bind (wpAny_standAt (wpAny_bind ?_));show wpAny _ X.A (do let _ <- comprehension (.ListComp elt [⟨tg,iter,ifs,0⟩] scope pos) scope X.env _ (newList []) false (eval iter X.env) (some (assign (.Name x px) X.env))) _ _ s
 refine wpAny_bind (wpAny_mono (wpAny_comprehension_free (use:=some (assign (.Name x px) X.env)) (Q:=fun _ s'=>SP X pins D .next s') rfl hs (v7 hfree) k1 (fun x hx hl=>?_)
  (thn (hi pins s σ H _ I h) fun v s1 h1=>thn h1 fun itv s2 h2=>?_)) (fun _ s' hq=>wpAny_pure (wpAny_pure hq)) fun _ _ e=>e)
 ·have:=g8 k3 (show(x.1,x.2)∈scope.names from hx);rw[this,hl]
 ·obtain⟨it,fp,tn,J,H2,e,I2,T,st2,f2,q⟩:=h2;subst e;refine D9 (RR:=fun acc C=>compPost (model X.prog X.w) X.A X.xe (some (assign (.Name x px) X.env)) (fun _ s'=>SP X pins D .next s') acc C) hok hc hg ht he I2 T st2 f2 (q _ I2.fresh) ?_;intro C H' s' I' fC ⟨m,hn⟩ q';obtain⟨f0,f1,f2',f3,f4,f5⟩:=fC;show wpAny _ X.A (assign (.Name x px) X.env (.ref s2.heap.objs.size)) _ _ _;refine wpAny_assign_Name (CO I' hN hix (.inl hx) (v := .ref s2.heap.objs.size) rfl (fun s3 I3 hch=>?_) (.inr hx));obtain⟨a,hsb,ha⟩:=hch
  have hCa:C≠a:=by
   rcases ha with z | z
   ·rw[z];exact f1
   ·exact fun e=>f4 x a z e.symm
  refine⟨m,hn.sameBut hsb hCa,fun h' hs'=>?_⟩;exact⟨_,H',I3.turned (t':=s3.toks) (fun b o hb e=>(hs'.2 b hb).trans e) f0 f1 f3 f4 f5,q'⟩
end
end L2
namespace PySem
open AutoSeq1 (wpAny_loadPart')
section
variable{prog:Program}{w:World}{A:Around}{E:Value->Shared->Prop}{s:Shared}
theorem BC{it l:Addr}{i:Nat}{items}{x:Value}{Q:Value->Shared->Prop}(hit:s.heap.IsTupleIter it l i)
 (hl:s.heap.IsTuple l items) (hx:items[i]?=some x)
 (hQ:∀ h',h'.IsTupleIter it l (i+1)->Tn it s.heap h'->Q x {s with heap:=h'}):
 wpAny (model prog w) A (Builtin.SmallTypes.nextOf (.ref it)) Q E s:=by
 obtain⟨o,ho,hc,hd⟩:=id hit;obtain⟨ol,hol,_,nl,hdl⟩:=hl;unfold Builtin.SmallTypes.nextOf
 refine wpAny_bind (wpAny_callSpecial?_slot (name:=Str.ofString "__next__") hit.typeIs F.slot_tuple_iterator_next
  (wpAny_call_entry F.slot_tuple_iterator_next hit.typeIs F.entry_tuple_iterator_next ?_ (F.args_tuple_iterator_next_1 _)))
 show wpAny _ _ (field (.ref it) 0 >>= _) _ _ s;refine wpAny_bind (wpAny_field ho hd (x := .ref l) rfl ?_);show wpAny _ _ (if (Value.ref l == Value.none)=true then _ else _) _ _ s;rw[if_neg (show ¬ ((Value.ref l == Value.none)=true) from Ss)];show wpAny _ _ (field (.ref it) 1 >>= _) _ _ s;refine wpAny_bind (wpAny_field ho hd (x := .int i 0) rfl ?_);show wpAny _ _ (seqItems? (.ref l) >>= _) _ _ s;refine wpAny_bind (wpAny_seqItems hol hdl ?_);simp only[Uw,hx];refine wpAny_bind (wpAny_setField ho hd (by simp) (wpAny_pure ⟨x,rfl,wpAny_pure (hQ _ ?_ (Tn.update ..))⟩))
 exact⟨_,Tu _ ho (Obj.isFreed_of_fields (Obj.data_mapFields hd _)),(Obj.cls_mapFields ..).trans hc,by
  rw[Obj.data_mapFields hd];simp[rawInt]⟩
theorem BK{it l:Addr}{i:Nat}{items}{Q:Value->Shared->Prop}(hh:A.handled=none)
 (hit:s.heap.IsTupleIter it l i) (hl:s.heap.IsTuple l items) (hx:items[i]?=none)
 (hE:∀ h' e,WD it s.heap h'->(∃ o,h'.get? e=some o/\o.cls = .type "StopIteration")->E (.ref e) {s with heap:=h'}):
 wpAny (model prog w) A (Builtin.SmallTypes.nextOf (.ref it)) Q E s:=by
 obtain⟨o,ho,hc,hd⟩:=id hit;obtain⟨ol,hol,_,nl,hdl⟩:=hl;unfold Builtin.SmallTypes.nextOf
 refine wpAny_bind (wpAny_callSpecial?_slot (name:=Str.ofString "__next__") hit.typeIs F.slot_tuple_iterator_next
  (wpAny_call_entry F.slot_tuple_iterator_next hit.typeIs F.entry_tuple_iterator_next ?_ (F.args_tuple_iterator_next_1 _)))
 show wpAny _ _ (field (.ref it) 0 >>= _) _ _ s;refine wpAny_bind (wpAny_field ho hd (x := .ref l) rfl ?_);show wpAny _ _ (if (Value.ref l == Value.none)=true then _ else _) _ _ s;rw[if_neg (show ¬ ((Value.ref l == Value.none)=true) from Ss)];show wpAny _ _ (field (.ref it) 1 >>= _) _ _ s;refine wpAny_bind (wpAny_field ho hd (x := .int i 0) rfl ?_);show wpAny _ _ (seqItems? (.ref l) >>= _) _ _ s;refine wpAny_bind (wpAny_seqItems hol hdl ?_);simp only[Uw,hx];refine wpAny_bind (wpAny_rule (wpAny_bind (wpAny_setField ho hd (by simp) ?_)))
 first
  | refine wpAny_bind (wpAny_letGo ?_)
  | skip
 show wpAny _ _ (newExc (.type "StopIteration") [] >>= _) _ _ _;refine wpAny_bind ?_;simp only[newExc,newTuple];refine wpAny_bind (wpAny_newObj_type ?_ (by size_fits));refine wpAny_bind (m:=firstArgMember _ _) (wpAny_of_eq (a:=Value.none) (by first | rfl | (simp only[firstArgMember];rfl)) ?_);refine wpAny_newObj_type ?_ (by size_fits);simp only[raiseNew];refine wpAny_bind (wpAny_handled ?_)
 first | rw[show A.in1.handled=none from hh] | rw[hh]
 refine wpAny_bind (wpAny_pure (wpAny_throw ?_));exact hE _ _ (((Tn.update ..).extBut.push _).push _) ⟨_,Sy _ rfl,rfl⟩
end
theorem BA{prog:Program}{w:World}{A:Around}(hh:A.handled=none)(it l:Addr)(hne:l≠it)(items:Array Value):
 Draws prog w A it [it,l] items.size (fun i v=>items[i]?=some v) (fun i h=>h.IsTupleIter it l i/\h.IsTuple l items) where
 live:=fun _ _ st=>let ⟨o,ho,_⟩:=st.1;⟨o,ho⟩
 frame:=fun _ _ _ st hk=>⟨st.1.at fun o e=>hk it (by simp) o e,let ⟨o,ho,r⟩:=st.2;⟨o,hk l (by simp) o ho,r⟩⟩
 item:=fun i s Q E hi st hQ=>by
  refine BC st.1 st.2 (x:=items[i]) (by simp[hi]) fun h' hit' hs'=>?_;exact hQ _ h' s.toks (by simp[hi]) ⟨hit',st.2.extBut hs'.extBut hne⟩ hs'
 done:=fun s Q E st hE=>BK hh st.1 st.2 (by simp) hE
theorem Bv(l:Addr)(items:Array Value)(n:Nat)(dct:Option Addr)(sl:Array (Option Value)):
 Meets (Builtin.«enumerate.__new__» ⟨[.type "enumerate",.ref l],[]⟩) (fun _ R s=>s.heap.get? l=some {cls := .type "tuple",dict:=dct,data := .seq items n,slots:=sl}/\
  R (.ok (.ret (.ref (s.heap.push {cls := .type "tuple_iterator",data := .fields #[.ref l,.int 0 0]}).objs.size)))
   {s with heap:=(s.heap.push {cls := .type "tuple_iterator",data := .fields #[.ref l,.int 0 0]}).push {cls := .type "enumerate",data := .fields #[.none,.bool false,.ref s.heap.objs.size,rawInt 0,.none,.none]}}):=
 .of_wp fun prog w A R s h=>by
  obtain⟨hp,g,d,tk,os⟩:=s;obtain⟨hl,h⟩:=h;have hsub:=sub_enumerate;have hL:Heap.IsTuple (Shared.heap ⟨hp,g,d,tk,os⟩) l items:=⟨_,hl,rfl,n,rfl⟩
  wp_walk using wpAny_loadPart' hl
  refine wpAny_stack_any fun st=>wpAny_pure ?_;split
  ·rename_i c _ _ _ _ _;cases(c == Value.type "enumerate")
   ·wp_walk using wpAny_loadPart' hl,wpAny_pyIter_tuple hL
    exact⟨_,rfl,h⟩
   ·wp_walk using wpAny_loadPart' hl,wpAny_pyIter_tuple hL
    exact⟨_,rfl,h⟩
  ·wp_walk using wpAny_loadPart' hl,wpAny_pyIter_tuple hL
   exact⟨_,rfl,h⟩
section
variable{prog:Program}{w:World}{A:Around}{E:Value->Shared->Prop}{s:Shared}
theorem Al{l:Addr}{items:Array Value}{Q:Value->Shared->Prop}(hL:s.heap.IsTuple l items)
 (h:∀ h',IsEnum h' (s.heap.objs.size+1) s.heap.objs.size 0 .none->h'.IsTupleIter s.heap.objs.size l 0->h'.objs.size=s.heap.objs.size+2->
   (∀ b o,s.heap.get? b=some o->h'.get? b=some o)->Q (.ref (s.heap.objs.size+1)) {s with heap:=h'}):
 wpAny (model prog w) A (call (.type "enumerate") [.ref l]) Q E s:=by
 obtain⟨⟨c,dct,dt,sl⟩,hl,hc,n,hd⟩:=hL;replace hc:c = .type "tuple":=hc;replace hd:dt = .seq items n:=hd;subst hc hd
 refine callType_new F.called_enumerate (by decide) (F.typeCall_enumerate_1 _) (F.newCall_enumerate_1 _) (fun obj=>F.args_object_init_2 obj _) F.entry_enumerate_new
  (Bv l items n dct sl) ⟨hl,?_⟩
 have hz:(s.heap.push {cls := .type "tuple_iterator",data := .fields #[.ref l,.int 0 0]}).objs.size=s.heap.objs.size+1:=UC ..;show _/\_;rw[hz]
 have he:IsEnum ((s.heap.push {cls := .type "tuple_iterator",data := .fields #[.ref l,.int 0 0]}).push
  {cls := .type "enumerate",data := .fields #[.none,.bool false,.ref s.heap.objs.size,rawInt 0,.none,.none]}) (s.heap.objs.size+1) s.heap.objs.size 0 .none:=by
  have:=Sy (s.heap.push {cls := .type "tuple_iterator",data := .fields #[.ref l,.int 0 0]})
   (o:={cls := .type "enumerate",data := .fields #[.none,.bool false,.ref s.heap.objs.size,rawInt 0,.none,.none]}) rfl
  rw[hz]at this;exact this
 refine⟨⟨_,he,rfl⟩,h _ he ⟨_,So _ (Sy _ rfl),rfl,rfl⟩ (by rw[UC,hz]) fun b o x=>So _ (So _ x)⟩
end
end PySem
namespace L2
open PySem PySem.Spec PyProof.Rows
section
variable{X:Cx}{pins:List (Addr×Obj)}{σ:St}{H:Hp}{s:Shared}{h':Heap}
theorem Inv.turnedL{t':Nat}{ch:List Addr}(I:Inv X pins σ H s)(k:∀ b o,b∉ch->s.heap.get? b=some o->h'.get? b=some o)(hf:∀ b∈ch,FpOk X pins H b):Inv X pins σ H {s with heap:=h',toks:=t'}:=by
 have nit:∀ b u,H b=some u->b∉ch:=fun b u e z=>by rw[(hf b z).1]at e;cases e
 refine I.step (g':=s.gens) (d':=s.drawn) (ch:=ch) (fun b hb=>?_) (fun b o _ _ hc e _=>k b o hc e) (fun b o _ _ hc e _=>⟨o.slots,k b o hc e⟩) (fun _ _ _ _ n=>n)
  (fun b o hc e=>⟨o,k b o hc e⟩) (fun _ _ e=>e) (fun _ _ _ e=>e) (fun b ps e=>⟨#[],by rw[e];simp⟩) (fun m hm=>?_) (fun b u e=>?_) I.bare
 ·obtain⟨f0,f1,f2,f3,f4,f5⟩:=hf b hb;exact⟨f3,f1,f4,f5⟩
 ·obtain⟨o,es,ep,ho,r⟩:=hm;exact⟨o,es,ep,k _ o (fun z=>(hf _ z).2.1 rfl) ho,r⟩
 ·refine(I.hok b u e).stay (fun c v hc q=>k c v ?_ q) (fun _ q=>q) fun _ _ q=>q;rcases hc with z | z
  ·rw[z];exact nit b u e
  ·exact nit c _ z
theorem Inv.turnLay{t':Nat}{ch:List Addr}{o:HO}(I:Inv X pins σ H s)(k:∀ b u,b∉ch->s.heap.get? b=some u->h'.get? b=some u)(hf:∀ b∈ch,FpOk X pins H b)
 (new:ObjOk X.prog X.w (upd H s.heap.objs.size o) h' s.heap.objs.size o):Inv X pins σ (upd H s.heap.objs.size o) {s with heap:=h',toks:=t'}:=by
 have hT:H s.heap.objs.size=none:=I.fresh;have nit:∀ b u,H b=some u->b∉ch:=fun b u e z=>by rw[(hf b z).1]at e;cases e
 have lt:∀ b u,s.heap.get? b=some u->b≠s.heap.objs.size:=fun b u e=>TL (Sw e)
 refine I.step (g':=s.gens) (d':=s.drawn) (ch:=ch) (fun b hb=>?_) (fun b o _ _ hc e _=>k b o hc e) (fun b o _ _ hc e _=>⟨o.slots,k b o hc e⟩) (fun b u _ e n=>by rw[upd_ne (lt b u e)];exact n)
  (fun b o hc e=>⟨o,k b o hc e⟩) (fun b xs e=>by rw[upd_ne (f6 e hT)];exact e) (fun b u xs e=>by rw[upd_ne (f6 e hT)];exact e) (fun b ps e=>⟨#[],by rw[upd_ne (f6 e hT),e];simp⟩) (fun m hm=>?_) (fun b u e=>?_) I.bare
 ·obtain⟨f0,f1,f2,f3,f4,f5⟩:=hf b hb;exact⟨f3,f1,f4,f5⟩
 ·obtain⟨o,es,ep,ho,r⟩:=hm;exact⟨o,es,ep,k _ o (fun z=>(hf _ z).2.1 rfl) ho,r⟩
 ·by_cases hb:b=s.heap.objs.size
  ·subst hb;rw[n8]at e;cases e;exact new
  ·rw[upd_ne hb]at e;refine(I.hok b u e).stay (fun c v hc q=>k c v ?_ q) (fun c q=>by rw[upd_ne (f6 q hT)];exact q) fun c xs q=>by rw[upd_ne (f6 q hT)];exact q
   rcases hc with z | z
   ·rw[z];exact nit b u e
   ·exact nit c _ z
end
noncomputable def PP(K:Sh)(a:Addr):It:=
 ⟨fun i H=>∃ xs x,SqL K H a xs/\xs[i]?=some x,fun i H x H'=>∃ p v,H p=none/\x = .ref p/\(∀ xs,SqL K H a xs->xs[i]?=some v)/\H'=upd H p (.tup [.int i,v]),fun i H=>∃ xs,SqL K H a xs/\xs.length=i⟩
noncomputable def PQ(K:Sh)(a:Addr):It:=
 ⟨fun i H=>∃ xs x,SqT K H a xs/\xs[i]?=some x,fun i H x H'=>∃ p v,H p=none/\x = .ref p/\(∀ xs,SqT K H a xs->xs[i]?=some v)/\H'=upd H p (.tup [.int i,v]),fun i H=>∃ xs,SqT K H a xs/\xs.length=i⟩
theorem KO:2<=sizeLine:=by decide
theorem GT{P:Program}{w:World}{K:Sh}{elts:List Expr}{kx:Nat}{tp:Pos}(a e it:Addr)(hei:e≠it)(hae:a≠e)(hai:a≠it):Turn P w K (.Tuple elts kx tp) (PP K a) [e,it] e (fun i h=>(∃ old,IsEnum h e it i old)/\h.IsListIter it a i) where
 mem:=by simp
 obj:=fun i h st b hb=>by
  rcases TC.mp hb with rfl | hb
  ·obtain⟨⟨old,z⟩,_⟩:=st;exact⟨_,z,fun v q=>by cases q⟩
  ·have e':b=it:=by simpa using hb
   subst e';obtain⟨o,q,c,d⟩:=st.2;exact⟨o,q,fun v z=>by rw[d]at z;cases z⟩
 keep:=fun i h h' st k=>⟨let ⟨old,z⟩:=st.1;⟨old,k e (by simp) _ z⟩,st.2.at fun o q=>k it (by simp) o q⟩
 item:=by
  intro X hP hw hK hc i pins s σ H E I hf st hg;subst hP hw hK;obtain⟨xs,x,hq,hx⟩:=hg;obtain⟨its,rv,p,hz⟩:=I.list hq;obtain⟨u,hu,ru⟩:=rv.get hx;obtain⟨⟨old,he⟩,hli⟩:=st
  have hil:i<its.toArray.size:=by
   have:=(gM hu).1;simpa using this
  refine wpAny_pyNext_enum_itemD (Draws.list (prog:=X.prog) (w:=X.w) (A:=X.A.in1) (show X.A.in1.handled=none from I.ok.hd hc) it a hai its.toArray) he ⟨hli,p.isList⟩ hil hei (by simp[hei,Ne.symm hae]) fun y h' tk hy ho hs' hT hsz hk=>?_
  have hyu:y=u:=by
   have:its.toArray[i]?=some u:=by simpa using hu
   rw[this]at hy;exact(oj hy).symm
  subst hyu;refine⟨_,rfl,?_⟩
  have I1:Inv X pins σ (upd H s.heap.objs.size (.tup [.int i,x])) {s with heap:=h',toks:=tk+1}:=
   I.turnLay (ch:=[e,it]) (fun b o hb q=>hk b o (fun z=>hb (by simp[z])) (fun z=>hb (by simp[z])) q) hf ⟨KO,[.int i tk,y],.cons ⟨tk,rfl⟩ (.cons ru .nil),⟨_,hT,rfl,_,rfl⟩⟩
  refine wpAny_letOwnedTupleGo_enum ho fun h2 he2 hs2=>?_
  have hfp1:∀ b∈[e,it],FpOk X pins (upd H s.heap.objs.size (.tup [.int i,x])) b:=fun b hb=>by
   obtain⟨f0,f1⟩:=hf b hb
   have hbl:b≠s.heap.objs.size:=by
    rcases TC.mp hb with rfl | hb
    ·exact TL (Sw he)
    ·have e':b=it:=by simpa using hb
     subst e';obtain⟨o,q,_⟩:=hli;exact TL (Sw q)
   exact⟨by rw[upd_ne hbl];exact f0,f1⟩
  have I2:Inv X pins σ (upd H s.heap.objs.size (.tup [.int i,x])) {s with heap:=h2,toks:=tk+1}:=
   Inv.turnedL (s:={s with heap:=h',toks:=tk+1}) (t':=tk+1) (ch:=[e,it]) I1 (fun b o hb q=>(hs2.2 b (fun z=>hb (by simp[z]))).trans q) hfp1
  refine⟨.ref s.heap.objs.size,_,I2,rfl,⟨_,x,I.fresh,rfl,fun ys hy=>by rw[I.list_inj hy hq];exact hx,rfl⟩,⟨⟨y,by simpa using he2⟩,hs'.1.extBut hs2.extBut (Ne.symm hei)⟩,fun b hb=>(hfp1 b hb).1⟩
 done:=by
   intro X hP hw hK hc i pins s σ H E I hf st hg;subst hP hw hK;obtain⟨xs,hq,hx⟩:=hg;obtain⟨its,rv,p,hz⟩:=I.list hq;obtain⟨⟨old,he⟩,hli⟩:=st;have hl:=rv.length;have hn:its.toArray.size=i:=by simp;omega
   refine wpAny_pyNext_enum_endD (Draws.list (prog:=X.prog) (w:=X.w) (A:=X.A.in1) (show X.A.in1.handled=none from I.ok.hd hc) it a hai its.toArray) he (by rw[hn];exact⟨hli,p.isList⟩) fun h' eb=>⟨rfl,I.turnedL (t':=s.toks) (ch:=[e,it]) (fun b o hb q=>eb b o (fun z=>hb (by simp[z])) q) hf⟩
 self:=fun _ _ _ _ _ st h=>let ⟨old,z⟩:=st.1;wpAny_pyIter_enum z h
theorem GU{P:Program}{w:World}{K:Sh}{elts:List Expr}{kx:Nat}{tp:Pos}(a e it:Addr)(hei:e≠it)(hae:a≠e)(hai:a≠it):Turn P w K (.Tuple elts kx tp) (PQ K a) [e,it] e (fun i h=>(∃ old,IsEnum h e it i old)/\h.IsTupleIter it a i) where
 mem:=by simp
 obj:=fun i h st b hb=>by
  rcases TC.mp hb with rfl | hb
  ·obtain⟨⟨old,z⟩,_⟩:=st;exact⟨_,z,fun v q=>by cases q⟩
  ·have e':b=it:=by simpa using hb
   subst e';obtain⟨o,q,c,d⟩:=st.2;exact⟨o,q,fun v z=>by rw[d]at z;cases z⟩
 keep:=fun i h h' st k=>⟨let ⟨old,z⟩:=st.1;⟨old,k e (by simp) _ z⟩,st.2.at fun o q=>k it (by simp) o q⟩
 item:=by
  intro X hP hw hK hc i pins s σ H E I hf st hg;subst hP hw hK;obtain⟨xs,x,hq,hx⟩:=hg;obtain⟨its,rv,p,hz⟩:=I.tuple hq;obtain⟨u,hu,ru⟩:=rv.get hx;obtain⟨⟨old,he⟩,hli⟩:=st
  have hil:i<its.toArray.size:=by
   have:=(gM hu).1;simpa using this
  refine wpAny_pyNext_enum_itemD (BA (prog:=X.prog) (w:=X.w) (A:=X.A.in1) (show X.A.in1.handled=none from I.ok.hd hc) it a hai its.toArray) he ⟨hli,p⟩ hil hei (by simp[hei,Ne.symm hae]) fun y h' tk hy ho hs' hT hsz hk=>?_
  have hyu:y=u:=by
   have:its.toArray[i]?=some u:=by simpa using hu
   rw[this]at hy;exact(oj hy).symm
  subst hyu;refine⟨_,rfl,?_⟩
  have I1:Inv X pins σ (upd H s.heap.objs.size (.tup [.int i,x])) {s with heap:=h',toks:=tk+1}:=
   I.turnLay (ch:=[e,it]) (fun b o hb q=>hk b o (fun z=>hb (by simp[z])) (fun z=>hb (by simp[z])) q) hf ⟨KO,[.int i tk,y],.cons ⟨tk,rfl⟩ (.cons ru .nil),⟨_,hT,rfl,_,rfl⟩⟩
  refine wpAny_letOwnedTupleGo_enum ho fun h2 he2 hs2=>?_
  have hfp1:∀ b∈[e,it],FpOk X pins (upd H s.heap.objs.size (.tup [.int i,x])) b:=fun b hb=>by
   obtain⟨f0,f1⟩:=hf b hb
   have hbl:b≠s.heap.objs.size:=by
    rcases TC.mp hb with rfl | hb
    ·exact TL (Sw he)
    ·have e':b=it:=by simpa using hb
     subst e';obtain⟨o,q,_⟩:=hli;exact TL (Sw q)
   exact⟨by rw[upd_ne hbl];exact f0,f1⟩
  have I2:Inv X pins σ (upd H s.heap.objs.size (.tup [.int i,x])) {s with heap:=h2,toks:=tk+1}:=
   Inv.turnedL (s:={s with heap:=h',toks:=tk+1}) (t':=tk+1) (ch:=[e,it]) I1 (fun b o hb q=>(hs2.2 b (fun z=>hb (by simp[z]))).trans q) hfp1
  refine⟨.ref s.heap.objs.size,_,I2,rfl,⟨_,x,I.fresh,rfl,fun ys hy=>by rw[I.tuple_inj hy hq];exact hx,rfl⟩,⟨⟨y,by simpa using he2⟩,hs'.1.extBut hs2.extBut (Ne.symm hei)⟩,fun b hb=>(hfp1 b hb).1⟩
 done:=by
   intro X hP hw hK hc i pins s σ H E I hf st hg;subst hP hw hK;obtain⟨xs,hq,hx⟩:=hg;obtain⟨its,rv,p,hz⟩:=I.tuple hq;obtain⟨⟨old,he⟩,hli⟩:=st;have hl:=rv.length;have hn:its.toArray.size=i:=by simp;omega
   refine wpAny_pyNext_enum_endD (BA (prog:=X.prog) (w:=X.w) (A:=X.A.in1) (show X.A.in1.handled=none from I.ok.hd hc) it a hai its.toArray) he (by rw[hn];exact⟨hli,p⟩) fun h' eb=>⟨rfl,I.turnedL (t':=s.toks) (ch:=[e,it]) (fun b o hb q=>eb b o (fun z=>hb (by simp[z])) q) hf⟩
 self:=fun _ _ _ _ _ st h=>let ⟨old,z⟩:=st.1;wpAny_pyIter_enum z h
section
variable{X:Cx}
noncomputable def RB(K:Sh)(ta:TA):TI:=fun σ H R=>ta σ H fun vs H1=>∃ a,vs=[.ref a]/\(((∃ xs,SqL K H1 a xs)/\R (PP K a) H1)\/((∃ xs,SqT K H1 a xs)/\R (PQ K a) H1))
theorem DA:bootBuiltins "enumerate"=some (.type "enumerate"):=by decide +kernel
theorem Ml{a:Expr}{ta:TA}{p pos:Pos}{elts:List Expr}{kx:Nat}{tp:Pos}(hg:Gl X "enumerate")(hm:X.mg "enumerate"=none)(ha:PA X [a] ta)(hs:starEach [a] X.env=[(false,eval a X.env)]:=by rfl):
 PI X (.Tuple elts kx tp) (.Call (.Name "enumerate" p) [a] [] pos) (RB X.K ta):=by
 intro pins s σ H R I h;refine Call_ (BE I hg hm DA (PyProof.Rows.callWith_type1 (thn (ha pos pins s σ H _ I h) fun us s1 ⟨vs,H1,I1,r1,q1⟩=>?_) hs rfl));obtain⟨l,e,q1⟩:=q1;subst e;cases r1 with
 | cons r rr=>
   cases rr;cases r;rcases q1 with⟨⟨xs,hq⟩,q⟩ | ⟨⟨xs,hq⟩,q⟩
   ·obtain⟨its,rv,pl,hz⟩:=I1.list hq;have hlt:@LT.lt Nat _ l s1.heap.objs.size:=by obtain⟨o,n,e,_⟩:=pl;exact Sw e
    refine call_enumerate_list pl.isList fun h' he hli hsz hk=>?_;refine wpAny_pyIter_enum he ?_;have I2:Inv X pins σ H1 {s1 with heap:=h'}:=I1.kept (t':=s1.toks) hk;refine⟨s1.heap.objs.size+1,[s1.heap.objs.size+1,s1.heap.objs.size],_,_,H1,rfl,I2,GT l _ s1.heap.objs.size (show @Ne Nat _ _ by omega) (show @Ne Nat _ _ by omega) (show @Ne Nat _ _ by omega),⟨⟨_,he⟩,hli⟩,fun b hb=>?_,q⟩
    have hb2:@LE.le Nat _ s1.heap.objs.size b:=by
     rcases TC.mp hb with rfl | hb
     ·exact Ux _
     ·have e:b=s1.heap.objs.size:=by simpa using hb
      rw[e];exact Sr _
    exact I1.fpOk hb2 (I1.hok.fresh hb2)
   ·obtain⟨its,rv,pl,hz⟩:=I1.tuple hq;have hlt:@LT.lt Nat _ l s1.heap.objs.size:=by obtain⟨o,e,_⟩:=pl;exact Sw e
    refine Al (show s1.heap.IsTuple l its.toArray from pl) fun h' he hli hsz hk=>?_;refine wpAny_pyIter_enum he ?_;have I2:Inv X pins σ H1 {s1 with heap:=h'}:=I1.kept (t':=s1.toks) hk;refine⟨s1.heap.objs.size+1,[s1.heap.objs.size+1,s1.heap.objs.size],_,_,H1,rfl,I2,GU l _ s1.heap.objs.size (show @Ne Nat _ _ by omega) (show @Ne Nat _ _ by omega) (show @Ne Nat _ _ by omega),⟨⟨_,he⟩,hli⟩,fun b hb=>?_,q⟩
    have hb2:@LE.le Nat _ s1.heap.objs.size b:=by
     rcases TC.mp hb with rfl | hb
     ·exact Ux _
     ·have e:b=s1.heap.objs.size:=by simpa using hb
      rw[e];exact Sr _
    exact I1.fpOk hb2 (I1.hok.fresh hb2)
end
theorem Ix(its:List Value)(k:Nat)(y:Value):(its.toArray.extract 0 k).push y++its.toArray.extract k=(its.take k++y::its.drop k).toArray:=by
 apply Array.toList_inj.mp;simp
 first
  | done
  | exact UL (by simp)
section
variable{X:Cx}
noncomputable def Hj:V->List V->Hp->VK->Prop:=fun x vs H Q=>∃ l xs i y,x = .ref l/\vs=[.int i,y]/\H l=some (.lst xs)/\0<=i/\i<=xs.length/\xs.length<sizeLine/\Q .non (upd H l (.lst (xs.take i.toNat++y::xs.drop i.toNat)))
theorem Du:MtM X "list.insert" Hj:=by
 intro pins s σ H x vs v us Q I rx rv h;obtain⟨l,xs,i,y,rfl,rfl,hH,h0,h1,hz,q⟩:=h;cases rx;obtain⟨u1,u2,rfl,⟨t,rfl⟩,ru⟩:=Vals.two rv;obtain⟨z,its,n,r,hl,e⟩:=I.lstM hH;have hn:=CP;refine call_meets F.slot_list_insert ⟨_,e,rfl⟩ F.entry_list_insert (F.args_list_insert_3 _ _ _) (AutoSeq1.list_insert_list_int_val_1 l its.toArray n i t u2 (by rw[fitsIndex_both (by omega) (by omega)];exact Ss) (by rw[Sq];omega)) ⟨e,?_⟩;refine⟨.non,_,I.lset (its':=its.take i.toNat++u2::its.drop i.toNat) hH e ?_ (Vals.append (r.take _) (.cons ru (r.drop _))) ?_,rfl,q⟩
 ·have hk:(if i<0 then (i+(its.toArray.size:Int)).toNat else min i.toNat its.toArray.size)=i.toNat:=by
   rw[if_neg (by omega),Sq];omega
  show(let k:=if i<0 then (i+(its.toArray.size:Int)).toNat else min i.toNat its.toArray.size;(its.toArray.extract 0 k).push u2++its.toArray.extract k)=_;rw[hk];exact Ix its i.toNat u2
 ·rw[Sl,Tb,Tq,Ti];omega
noncomputable def Am(xs ys:List V):Bool:=xs.length == ys.length&&(xs.zip ys).all fun p=>eqV p.1 p.2
noncomputable def Mn(K:Sh)(neg:Bool):R2:=fun x y H Q=>∃ a b xs ys,x = .ref a/\y = .ref b/\SqL K H a xs/\SqL K H b ys/\((xs.all y9=true/\ys.all y9=true)\/xs=[]\/ys=[])/\Q (.bl (if neg then !Am xs ys else Am xs ys)) H
theorem DB{xs ys:List V}(hl:xs.length=ys.length):(Sx xs.length).all (fun j=>eqV (xs.getD j .non) (ys.getD j .non))=Am xs ys:=by
 have e1:Am xs ys=(xs.zip ys).all fun p=>eqV p.1 p.2:=by unfold Am;simp[hl]
 rw[e1,UN,TK,TK];constructor
 ·intro h p hp;obtain⟨j,hj,e⟩:=UT.mp hp;have hj1:j<xs.length:=by simp at hj;omega
  have hj2:j<ys.length:=by omega
  have:=h j (TY.mpr hj1);rw[<-e];simpa[Uk,hj1,hj2] using this
 ·intro h j hj;have hj1:j<xs.length:=TY.mp hj;have hj2:j<ys.length:=by omega
  have:=h (xs[j],ys[j]) (UT.mpr ⟨j,by simp;omega,by simp⟩);simpa[Uk,hj1,hj2] using this
theorem Bw{xs ys:List V}{us ws:List Value}{A:Around}{s:Shared}(r1:Vals xs us)(r2:Vals ys ws)(f:(xs.all y9=true/\ys.all y9=true)\/xs=[]\/ys=[]):
 ∀ j (h1:j<us.toArray.size) (h2:j<ws.toArray.size),SeqAt.EqAt A s us.toArray[j] ws.toArray[j] (eqV (xs.getD j .non) (ys.getD j .non)):=by
 intro j h1 h2;have l1:=r1.length;have l2:=r2.length;simp only[Sq]at h1 h2;have hj1:j<xs.length:=by omega
 have hj2:j<ys.length:=by omega
 obtain⟨f1,f2⟩:xs.all y9=true/\ys.all y9=true:=by
  rcases f with f | f | f
  ·exact f
  ·subst f;simp at hj1
  ·subst f;simp at hj2
 obtain⟨u,eu,ru⟩:=r1.get (i:=j) (x:=xs[j]) (by simp[hj1]);obtain⟨w',ew,rw'⟩:=r2.get (i:=j) (x:=ys[j]) (by simp[hj2])
 have e1:us.toArray[j]=u:=by
  have:=gM eu;obtain⟨_,q⟩:=this;simpa using q
 have e2:ws.toArray[j]=w':=by
  obtain⟨_,q⟩:=gM ew;simpa using q
 rw[e1,e2];have g1:xs.getD j .non=xs[j]:=by simp[Uk,hj1]
 have g2:ys.getD j .non=ys[j]:=by simp[Uk,hj2]
 rw[g1,g2];exact KC ru rw' (TK.mp f1 _ (UI hj1)) (TK.mp f2 _ (UI hj2))
theorem PR(hu:X.A.units<cLine):OpR X (compareOp .Eq) (Mn X.K false):=by
 intro pins s σ H x y v u Q I rx ry h;obtain⟨a,b,xs,ys,rfl,rfl,h1,h2,f,q⟩:=h;cases rx;cases ry;obtain⟨its1,r1,p1,_⟩:=I.list h1;obtain⟨its2,r2,p2,_⟩:=I.list h2;have l1:=r1.length;have l2:=r2.length;by_cases hl:xs.length=ys.length
 ·refine SeqAt.eq_listAt p1.isList p2.isList (by simp;omega) hu (Bw r1 r2 f) ⟨.bl _,H,I,rfl,?_⟩;rw[Sq,<-l1,DB hl];exact q
 ·refine SeqAt.eq_list_lengthsAt p1.isList p2.isList (by simp;omega) hu ⟨.bl false,H,I,rfl,?_⟩;have e:Am xs ys=false:=by unfold Am;simp[hl]
  rw[show(if false=true then !Am xs ys else Am xs ys)=Am xs ys from rfl,e]at q;exact q
theorem PU(hu:X.A.units<cLine):OpR X (compareOp .NotEq) (Mn X.K true):=by
 intro pins s σ H x y v u Q I rx ry h;obtain⟨a,b,xs,ys,rfl,rfl,h1,h2,f,q⟩:=h;cases rx;cases ry;obtain⟨its1,r1,p1,_⟩:=I.list h1;obtain⟨its2,r2,p2,_⟩:=I.list h2;have l1:=r1.length;have l2:=r2.length;by_cases hl:xs.length=ys.length
 ·refine(SeqAt.RcNeAt.lists p1.isList p2.isList (by simp;omega) hu (Bw r1 r2 f)) _ _ _ _ ?_;refine⟨.bl _,H,I,rfl,?_⟩;rw[Sq,<-l1,DB hl];exact q
 ·refine(SeqAt.RcNeAt.lists_lengths p1.isList p2.isList (by simp;omega) hu) _ _ _ _ ?_;refine⟨.bl true,H,I,rfl,?_⟩;have e:Am xs ys=false:=by unfold Am;simp[hl]
  rw[show(if true=true then !Am xs ys else Am xs ys)=!Am xs ys from rfl,e]at q;exact q
theorem call_isi1:CallR X (.builtin "isinstance") (fun xs H Q=>∃ x T t b,xs=[x,.ty T]/\TyOf X.K H x t/\PySem.W.kitOne X.K t (.type T)=some b/\Q (.bl b) H):=by
 intro pins s σ H xs us Q I r h;obtain⟨x,T,t,b,rfl,ty,e,q⟩:=h;obtain⟨u1,u2,rfl,r1,r2⟩:=Vals.two r;cases r2;exact Ip I r1 ty e fun tk=>⟨.bl b,H,I.tok tk,rfl,q⟩
theorem GV{pins:List (Addr×Obj)}{σ:St}{H:Hp}{s:Shared}{A:Around}{E:Value->Shared->Prop}{Q:Value->Shared->Prop}{b:Bool}{x:V}{u t:Value}{tp:Addr}{dd:Option Addr}{its:List Value}{n:Nat}{sl:Array (Option Value)}(I:Inv X pins σ H s)(rx:RelV x u)(ty:TyOf X.K H x t)
 (htp:s.heap.get? tp=some ⟨.type "tuple",dd,.seq its.toArray n,sl⟩) (e:PySem.W.kitAny X.K t its=some b) (h:∀ tk,Q (.bool b) {s with toks:=tk}):
 wpAny (model X.prog X.w) A (call (.builtin "isinstance") [u,.ref tp]) Q E s:=by
 cases ty with
 | non=>cases(show u=Value.none from rx);exact PySem.W.kia_tup PySem.W.kitx_none I.kIn True.intro htp e (fun z=>nomatch z) h
 | bl y=>cases(show u=Value.bool y from rx);exact PySem.W.kia_tup PySem.W.kitx_bool I.kIn True.intro htp e (fun z=>nomatch z) h
 | int i=>obtain⟨t,q⟩:=(show ∃ t,u=Value.int i t from rx);cases q;exact PySem.W.kia_tup PySem.W.kitx_int I.kIn True.intro htp e (fun z=>nomatch z) h
 | str y=>obtain⟨t,q⟩:=(show ∃ t,u=Value.str y t from rx);cases q;exact PySem.W.kia_tup PySem.W.kitx_str I.kIn True.intro htp e (fun z=>nomatch z) h
 | flt y=>obtain⟨t,q⟩:=(show ∃ t,u=Value.float y t from rx);cases q;exact PySem.W.kia_tup PySem.W.kitx_float I.kIn True.intro htp e (fun z=>nomatch z) h
 | @lst a xs ea=>
   cases(show u=Value.ref a from rx);obtain⟨_,_,n,_,h1⟩:=(show ObjOk X.prog X.w H s.heap a (.lst xs) from I.hok a _ ea)
   exact PySem.W.kia_tup PySem.W.kitx_list I.kIn ⟨_,h1,rfl⟩ htp e (fun z=>nomatch z) h
 | @frz a ob xs ea=>
   cases(show u=Value.ref a from rx);obtain⟨_,_,_,n,_,h1⟩:=(show ObjOk X.prog X.w H s.heap a (.frz ob (.lst xs)) from I.hok a _ ea)
   exact PySem.W.kia_tup PySem.W.kitx_list I.kIn ⟨_,h1,rfl⟩ htp e (fun z=>nomatch z) h
 | @tup a xs ea=>
   cases(show u=Value.ref a from rx);obtain⟨_,_,_,p⟩:=(show ObjOk X.prog X.w H s.heap a (.tup xs) from I.hok a _ ea)
   obtain⟨o,h1,h2,_⟩:=p;exact PySem.W.kia_tup PySem.W.kitx_tuple I.kIn ⟨o,h1,h2⟩ htp e (fun z=>nomatch z) h
 | @dK a kvs ea=>
   cases(show u=Value.ref a from rx);obtain⟨_,_,vs,_,p⟩:=(show ObjOk X.prog X.w H s.heap a (.dK kvs) from I.hok a _ ea)
   obtain⟨o,es,ep,h1,h2,_⟩:=p;exact PySem.W.kia_tup PySem.W.kitx_dict I.kIn ⟨o,h1,h2.1⟩ htp e (fun z=>nomatch z) h
 | @dT a kvs ea=>
   cases(show u=Value.ref a from rx);obtain⟨_,_,xs,_,o,es,ep,h1,h2,_⟩:=(show ObjOk X.prog X.w H s.heap a (.dT kvs) from I.hok a _ ea)
   exact PySem.W.kia_tup PySem.W.kitx_dict I.kIn ⟨o,h1,h2.1⟩ htp e (fun z=>nomatch z) h
 | @ins a C dx fs ea cl ha hn htk hm=>
   cases(show u=Value.ref a from rx);obtain⟨mA,O,_⟩:=Hb I.hok ea;obtain⟨od,J,_⟩:=O.look;exact PySem.W.kia_tup (PySem.W.kitx_own (cl.get _) cl.hd ha hn htk hm) I.kIn J htp e (fun z=>nomatch z) h
theorem Hk:∀(Ts:List String) {us:List Value},Vals (Ts.map V.ty) us->us=Ts.map Value.type
 | [],_,.nil=>rfl
 | T::r,_,.cons h t=>by cases h;rw[Hk r t];rfl
theorem Iy:CallR X (.builtin "isinstance") (fun xs H Q=>∃(x:V) (p:Addr) (Ts:List String) (t:Value) (b:Bool),xs=[x,.ref p]/\H p=some (.tup (Ts.map V.ty))/\TyOf X.K H x t/\PySem.W.kitAny X.K t (Ts.map Value.type)=some b/\Q (.bl b) H):=by
 intro pins s σ H xs us Q I r h;obtain⟨x,p,Ts,t,b,rfl,hp,ty,e,q⟩:=h;obtain⟨u1,u2,rfl,r1,r2⟩:=Vals.two r;cases r2;obtain⟨_,its,rv,⟨⟨c,dd,dt,sl⟩,h1,h2,n,h3⟩⟩:=(show ObjOk X.prog X.w H s.heap p (.tup (Ts.map V.ty)) from I.hok p _ hp)
 have ei:=Hk Ts rv;subst ei;replace h2:c = .type "tuple":=h2;replace h3:dt = .seq (Ts.map Value.type).toArray n:=h3;subst h2 h3;exact GV I r1 ty h1 e fun tk=>⟨.bl b,H,I.tok tk,rfl,q⟩
theorem Iz(hc:X.calm=true):CallR X (.builtin "all") (fun xs H Q=>∃(a:Addr) (bs:List Bool),xs=[.ref a]/\SqL X.K H a (bs.map V.bl)/\Q (.bl (bs.all id)) H):=by
 intro pins s σ H xs us Q I r h;obtain⟨a,bs,rfl,hq,q⟩:=h;obtain⟨u,rfl,ru⟩:=Br r;cases ru;obtain⟨its,rv,pl,hz⟩:=I.list hq;have hl:=rv.length;rw[Sk]at hl;refine call_all_walk (wpAny_pyIter_list pl.isList ?_);have hlt:a<s.heap.objs.size:=by obtain⟨o,n,e,_⟩:=pl;exact Sw e
 refine⟨s.heap.objs.size,_,_,_,_,_,fun i=>bs.getD i false,rfl,Walks.list (by exact I.ok.hd hc) s.heap.objs.size a (TL hlt) its.toArray,⟨⟨_,Sy _ rfl,rfl,rfl⟩,pl.isList.push _⟩,?_,fun h' tk hk=>?_⟩
 ·intro i v s' Q' E' hv hQ';have hv':its[i]?=some v:=by simpa using hv
  have hi:i<its.length:=(gM hv').1;have hb:(bs.map V.bl)[i]?=some (.bl (bs[i]'(by omega))):=by simp
  obtain⟨u',eu,ru'⟩:=rv.get hb;rw[hv']at eu;cases eu;cases ru';have hg:bs.getD i false=bs[i]'(by omega):=by simp[Uk,show i<bs.length by omega]
  have hQ2:Q' (bs.getD i false) s':=hQ';rw[hg]at hQ2;exact wpAny_truthy_bool hQ2
 ·have I1:Inv X pins σ H {s with heap:=h',toks:=tk}:=I.kept fun b o e=>hk b o (by simp;exact TL (Sw e)) (So _ e);refine⟨.bl _,H,I1,rfl,?_⟩
  have e:(Sx its.toArray.size).all (fun i=>bs.getD i false)=bs.all id:=by
   rw[Sq,<-hl,UN,TK,TK];constructor
   ·intro h b hb;obtain⟨j,hj,e⟩:=UT.mp hb;have:=h j (TY.mpr hj);simpa[Uk,hj,e] using this
   ·intro h j hj;have hj1:j<bs.length:=TY.mp hj;have:=h bs[j] (UI hj1);simpa[Uk,hj1] using this
  rw[e];exact q
theorem J0:CallR X (.type "range") (fun xs H Q=>∃ b,xs=[.int b]/\∀ p,H p=none->Q (.ref p) (upd H p (.rng 0 b))):=by
 intro pins s σ H xs us Q I r h;obtain⟨b,rfl,q⟩:=h;obtain⟨u1,rfl,⟨t,rfl⟩⟩:=Br r;refine call_range_1 ⟨.ref s.heap.objs.size,_,I.laid (o := .rng 0 b) (fun b o e=>So _ e) (Sr _) ⟨_,_,_,Sy _ rfl⟩,rfl,q _ I.fresh⟩
noncomputable def J1(lo:Int)(n:Nat):List V:=(Sx n).map fun(i:Nat)=>V.int (lo+(i:Int))
theorem F0(lo:Int)(n:Nat):(J1 lo n).length=n:=by unfold J1;simp
theorem EH(hc:X.calm=true):CallR X (.type "list") (fun xs H Q=>∃ p a b,xs=[.ref p]/\H p=some (.rng a b) /\ -(2 ^ 62)<=a/\a<2 ^ 62 /\ -(2 ^ 62)<=b/\b<2 ^ 62/\(b - a).toNat<=100000/\∀ l,H l=none->Q (.ref l) (upd H l (.lst (J1 a (b - a).toNat)))):=by
 intro pins s σ H xs us Q I r h;obtain⟨p,a,b,rfl,hp,h1,h2,h3,h4,h5,q⟩:=h;obtain⟨u,rfl,ru⟩:=Br r;cases ru;obtain⟨t,u',v,ho⟩:=(show ObjOk X.prog X.w H s.heap p (.rng a b) from I.hok p _ hp)
 have hn:Builtin.Range.rangeSize a b 1=(((b - a).toNat:Nat):Int):=by rw[rangeSize_one];split<;>omega
 refine call_list_range (I.ok.hd hc) (show IsRange s.heap p a b 1 t u' v from ho) (small_one h1 h2 h3 h4) hn (by omega) fun h' tk acc c' kp e hi=>?_;have hz:(b - a).toNat<=sizeLine:=Td h5 (by decide);refine⟨.ref s.heap.objs.size,_,I.laid kp (Sr _) (show ObjOk X.prog X.w _ h' _ (.lst (J1 a (b - a).toNat)) from ⟨by rw[F0];exact hz,acc.toList,c',?_,by simpa using e⟩),rfl,q _ I.fresh⟩;obtain⟨hs,hv⟩:=hi
 have key:∀(n:Nat) (l:List Value) (lo:Int),l.length=n->(∀(j:Nat) (v:Value),l[j]?=some v->∃ t,v=Value.int (lo+(j:Int)) t)->Vals ((Sx n).map fun(i:Nat)=>V.int (lo+(i:Int))) l:=by
  intro n
  induction n with
  | zero=>intro l lo hl _;cases l with | nil=>exact .nil | cons _ _=>simp at hl
  | succ n ih=>
    intro l lo hl hv;cases l with
    | nil=>simp at hl
    | cons x r=>
      rw[List.range_succ_eq_map,To,Vv];refine .cons ?_ ?_
      ·obtain⟨t,e⟩:=hv 0 x (by simp);exact⟨t,e⟩
      ·have:=ih r (lo+1) (by simpa using hl) fun j v hj=>by
        obtain⟨t,e⟩:=hv (j+1) v (by simpa using hj);refine⟨t,?_⟩;rw[e]
        congr 1
        omega
       have e2:((fun(i:Nat)=>V.int (lo+(i:Int)))∘Nat.succ)=fun(i:Nat)=>V.int (lo+1+(i:Int)):=by
        funext i
        show V.int (lo+((i+1:Nat):Int))=V.int (lo+1+(i:Int))
        congr 1
        omega
       rw[e2];exact this
 refine key _ _ a (by simpa using hs) fun j v hj=>?_;obtain⟨t,e⟩:=hv j v (by simpa using hj);exact⟨t,by rw[e];congr 1;omega⟩
end
open PySem PySem.Spec PyProof.Rows
noncomputable def srt(ns:List Int):List Int:=ns.mergeSort (fun a b=>decide (a<=b))
theorem F1(ns:List Int):(srt ns).Perm ns:=List.mergeSort_perm _ _
theorem PV(ns:List Int):(srt ns).Pairwise (·<=·):=by
 have h:=List.pairwise_mergeSort (le:=fun(a b:Int)=>decide (a<=b)) (fun a b c h1 h2=>by simp only[decide_eq_true_eq]at *;omega) (fun a b=>by simp only[Tj,decide_eq_true_eq];omega) ns;exact h.imp fun h=>of_decide_eq_true h
theorem EI{ns ns':List Int}(hp:ns'.Perm ns)(hs:ns'.Pairwise (·<=·)):ns'=srt ns:=
 List.Perm.eq_of_pairwise (fun _ _ _ _ a b=>Int.le_antisymm a b) hs (PV ns) (hp.trans (F1 ns).symm)
theorem B5:∀{ns:List Int} {us:List Value},Vals (ns.map V.int) us->IntsAre us ns
 | [],_,.nil => .nil
 | _::_,_,.cons ⟨_,e⟩ t=>by subst e;exact .cons _ _ (B5 t)
theorem CV:∀{ns:List Int} {us:List Value},IntsAre us ns->Vals (ns.map V.int) us
 | _,_,.nil => .nil
 | _,_,.cons _ _ t => .cons ⟨_,rfl⟩ (CV t)
theorem KP:bootBuiltins "sorted"=some (.builtin "sorted"):=by decide +kernel
end L2
set_option maxHeartbeats 1000000
namespace Srt
open PySem PyProof.Rows
noncomputable def Sg(xs:Array Keyed)(lo k:Nat):Prop:=∀ i j,i<=j->j<k->K xs (lo+i)<=K xs (lo+j)
noncomputable def Dg(xs:Array Keyed)(lo k:Nat):Prop:=∀ i j,i<=j->j<k->K xs (lo+j)<=K xs (lo+i)
structure Sb(a₀ a1:Array Keyed)(lo:Nat)(pd:Array (Nat×Nat×Nat))(st:SortSt):Prop where
 perm:(arrOf st).Perm a₀
 kind:kindOf st=oneType'
 failed:failedOf st=none
 pend:pendingOf st=pd
 pre:∀ i,i<lo->(arrOf st)[i]?=a1[i]?
section
variable{a₀ a1:Array Keyed}{lo:Nat}{pd:Array (Nat×Nat×Nat)}{st:SortSt}
theorem Sb.size(h:Sb a₀ a1 lo pd st):(arrOf st).size=a₀.size:=h.perm.size_eq
theorem Sb.put(h:Sb a₀ a1 lo pd st){xs:Array Keyed}(hp:xs.Perm (arrOf st))(hq:∀ i,i<lo->xs[i]?=(arrOf st)[i]?):Sb a₀ a1 lo pd (setArr st xs):=
 ⟨hp.trans h.perm,h.kind,h.failed,h.pend,fun i hi=>(hq i hi).trans (h.pre i hi)⟩
theorem Sb.at(h:Sb a₀ a1 lo pd st)(h0:IntKeys a₀){i:Nat}(hi:i<a₀.size):∃ t q,(arrOf st)[i]?=some (.int (K (arrOf st) i) t,q):=
 SBase.at (a₀:=a₀) (st:=SortSt.mk' oneType' (arrOf st) #[] 0 none) ⟨h.perm,rfl,rfl,rfl⟩ h0 hi
theorem Mo{xs:Array Keyed}{i j k:Nat}(hj:j<=xs.size)(h:k<i):(mirror xs i j ((j - i) / 2))[k]?=xs[k]?:=by
 rw[getElem?_mirror_all hj,if_neg (by omega)]
theorem Mp{xs:Array Keyed}{s d k:Nat}(hs:s<xs.size)(hd:d<=s)(h:k<s - d):(bubble xs s d)[k]?=xs[k]?:=by
 rw[getElem?_bubble hs d hd,if_neg (by omega),if_neg (by omega)]
end
section
variable{prog:Program}{w:World}{A:Around}{E:Value->Shared->Prop}{s:Shared}{a₀ a1:Array Keyed}{lo:Nat}{pd:Array (Nat×Nat×Nat)}
theorem F2{st:SortSt}{i j:Nat}{Q:Option Bool->SortSt->Prop}(hB:Sb a₀ a1 lo pd st)(h0:IntKeys a₀)(hi:i<a₀.size)(hj:j<a₀.size)
 (h:Q (some (decide (K (arrOf st) i<K (arrOf st) j))) st):wpS (model prog w) A E s (ltAt' i j) Q st:=by
 obtain⟨t,p,e1⟩:=hB.at h0 hi;obtain⟨u,q,e2⟩:=hB.at h0 hj;exact wpS_ltAt hB.kind e1 e2 h
theorem KQ{st:SortSt}{n ok:Nat}{Q:Bool->SortSt->Prop}(h0:IntKeys a₀)(hn:lo+n<=a₀.size)(hok:ok<=n)(hB:Sb a₀ a1 lo pd st)(hs:Sg (arrOf st) lo ok)
 (h:∀ st',Sb a₀ a1 lo pd st'->Sg (arrOf st') lo n->Q true st'):wpS (model prog w) A E s (binarySort' lo n ok) Q st:=by
 rw[binarySort'_eq]
 refine wpS_bind (wpS_mono (wpS_forRange (I:=fun k c st'=>c=(none,())/\Sb a₀ a1 lo pd st'/\Sg (arrOf st') lo (min k n))
  (Q:=fun c st'=>c=(none,())/\Sb a₀ a1 lo pd st'/\Sg (arrOf st') lo n) ?one ?out ?ini) ?beh)
 case beh=>rintro c st' ⟨rfl,b,g⟩;exact wpS_pure (h st' b g)
 case ini=>
  refine⟨rfl,hB,fun i j hij hj=>?_⟩;rcases Nat.eq_zero_or_pos ok with z | z
  ·rw[show i=j by omega];exact Uy _
  ·exact hs i j hij (by omega)
 case out=>
  rintro c st' ⟨e,b,g⟩;rw[show min (max (max ok 1) n) n=n by omega]at g;exact⟨e,b,g⟩
 case one=>
  rintro k c st' a b ⟨rfl,hb,g⟩;rw[show min k n=k by omega]at g;have hk:lo+k<a₀.size:=by omega
  refine wpS_bind (wpS_mono (wpS_forRange (I:=fun x c z=>z=st'/\∃ l r,c=(none,l,r)/\l<=r/\r<=k/\r - l<=k - x/\(∀ i,i<l->K (arrOf st') (lo+i)<=K (arrOf st') (lo+k))/\∀ i,r<=i->i<k->K (arrOf st') (lo+k)<K (arrOf st') (lo+i))
   (Q:=fun c z=>z=st'/\∃ l r,c=(none,l,r)/\l<=k/\(∀ i,i<l->K (arrOf st') (lo+i)<=K (arrOf st') (lo+k))/\∀ i,l<=i->i<k->K (arrOf st') (lo+k)<K (arrOf st') (lo+i)) ?i1 ?i2 ?i3) ?i4)
  case i3=>exact⟨rfl,0,k,rfl,by omega,by omega,by omega,fun i hi=>by omega,fun i h1 h2=>by omega⟩
  case i2=>
   rintro c z ⟨rfl,l,r,rfl,h1,h2,h3,h4,h5⟩;rw[show r=l by omega]at h5;exact⟨rfl,l,r,rfl,by omega,h4,h5⟩
  case i1=>
   rintro x c z _ hx ⟨rfl,l,r,rfl,h1,h2,h3,h4,h5⟩;dsimp only;by_cases ge:l≥r
   ·rw[if_pos ge];rw[show r=l by omega]at h5;exact wpS_pure ⟨rfl,l,r,rfl,by omega,h4,h5⟩
   ·rw[if_neg ge];refine wpS_bind (F2 hb h0 hk (by omega) ?_);by_cases y:K (arrOf z) (lo+k)<K (arrOf z) (lo+(l+r) / 2)
    ·simp only[y,decide_true,if_true];exact wpS_pure ⟨rfl,l,(l+r) / 2,rfl,by omega,by omega,by omega,h4,fun i p q=>Int.lt_of_lt_of_le y (g _ _ p q)⟩
    ·simp only[y,decide_false,U1,if_false];exact wpS_pure ⟨rfl,(l+r) / 2+1,r,rfl,by omega,by omega,by omega,fun i p=>Tx (g i ((l+r) / 2) (by omega) (by omega)) (Vq.mp y),h5⟩
  case i4=>
   rintro c z ⟨rfl,l,r,rfl,h1,h4,h5⟩;show wpS _ _ _ _ (do moveDown' (lo+k) (lo+l);pure (ForInStep.yield (none,()))) _ _;rw[moveDown'_eq];have hz:lo+k<(arrOf z).size:=by rw[hb.size];exact hk
   refine wpS_bind (wpS_modify (wpS_pure ⟨rfl,hb.put (bubble_perm _ _ _) (fun i hi=>Mp hz (by omega) (by omega)),?_⟩));rw[show min (k+1) n=k+1 by omega];intro i j hij hj;show K (bubble (arrOf z) (lo+k) (lo+k - (lo+l))) (lo+i)<=K (bubble (arrOf z) (lo+k) (lo+k - (lo+l))) (lo+j);rw[K_bubble hz (by omega),K_bubble hz (by omega),show lo+k - (lo+k - (lo+l))=lo+l by omega];by_cases i1:i<l
   ·rw[if_neg (by omega),if_neg (by omega)];by_cases j1:j<l
    ·rw[if_neg (by omega),if_neg (by omega)];exact g _ _ hij (by omega)
    ·by_cases j2:j=l
     ·rw[if_pos (by omega)];exact h4 _ i1
     ·rw[if_neg (by omega),if_pos (by omega),show lo+j - 1=lo+(j - 1) by omega];exact g _ _ (by omega) (by omega)
   ·by_cases i2:i=l
    ·rw[if_pos (by omega)];by_cases j2:j=l
     ·rw[if_pos (by omega)];exact Uy _
     ·rw[if_neg (by omega),if_pos (by omega),show lo+j - 1=lo+(j - 1) by omega];exact U0 (h5 _ (by omega) (by omega))
    ·rw[if_neg (by omega),if_pos (by omega),if_neg (by omega),if_pos (by omega),show lo+i - 1=lo+(i - 1) by omega,show lo+j - 1=lo+(j - 1) by omega];exact g _ _ (by omega) (by omega)
end
open PySem PyProof.Rows
noncomputable def upL(lo a m:Nat):StateT SortSt Sem AscSt:=
 forIn [a:m] ((none,a):AscSt) fun _ c=>do
  match <- ltAt' (lo+c.2) (lo+c.2 - 1) with
  | some b=>if b=true then pure (.done (none,c.2)) else pure (.yield (none,c.2+1))
  | _=>pure (.done (some none,c.2))
noncomputable def GW(lo n m:Nat):StateT SortSt Sem (Option Nat):=do
 reverseSlice' lo (lo+n)
 let c <- upL lo n m
 match c.1 with
 | some r=>pure r
 | none=>pure (some c.2)
noncomputable def dnL(lo n m:Nat):StateT SortSt Sem DescSt:=
 forIn [n:m] ((none,n,0):DescSt) fun _ c=>do
  match <- ltAt' (lo+c.2.1) (lo+c.2.1 - 1) with
  | some b=>
    if b=true then
     if c.2.2>0 then do
      reverseSlice' (lo+c.2.1 - (c.2.2+1)) (lo+c.2.1)
      pure (.yield (none,c.2.1+1,0))
     else pure (.yield (none,c.2.1+1,0))
    else do
     match <- ltAt' (lo+c.2.1 - 1) (lo+c.2.1) with
     | some d=>if d=true then pure (.done (none,c.2.1,c.2.2)) else pure (.yield (none,c.2.1+1,c.2.2+1))
     | _=>pure (.done (some none,c.2.1,c.2.2))
  | _=>pure (.done (some none,c.2.1,c.2.2))
noncomputable def dpL(lo n m:Nat):StateT SortSt Sem (Option Nat):=do
 liftM (rule "list.sort.descending-run")
 let c <- dnL lo (n+1) m
 match c.1 with
 | some r=>pure r
 | none=>
   if c.2.2>0 then do
    reverseSlice' (lo+c.2.1 - (c.2.2+1)) (lo+c.2.1)
    GW lo c.2.1 m
   else GW lo c.2.1 m
theorem PX(lo m:Nat):countRun' lo m=(do
 let c <- upL lo 1 m
 match c.1 with
 | some r=>pure r
 | none=>
   if (c.2 == m)=true then pure (some c.2)
   else if c.2>1 then do
    match <- ltAt' lo (lo+c.2 - 1) with
    | some b=>if b=true then pure (some c.2) else do
       reverseSlice' lo (lo+c.2)
       dpL lo c.2 m
    | _=>pure none
   else dpL lo c.2 m):=by
 rw[countRun'_eq];have e3:∀ n (f:PUnit->StateT SortSt Sem (Option Nat)),(∀ u,f u=(upL lo n m >>= fun c=>match c.1 with | some r=>pure r | none=>pure (some c.2)))->(reverseSlice' lo (lo+n) >>= f)=GW lo n m:=fun n f h=>congrArg (fun k=>reverseSlice' lo (lo+n) >>= k) (funext h);have up:∀ n (f g:AscSt->StateT SortSt Sem (Option Nat)),(∀ r n,f (r,n)=g (r,n))->(upL lo n m >>= f)=(upL lo n m >>= g):=fun n f g h=>congrArg (fun k=>upL lo n m >>= k) (funext fun c=>h c.1 c.2);have dn:∀ n (f g:DescSt->StateT SortSt Sem (Option Nat)),(∀ r n q,f (r,n,q)=g (r,n,q))->(dnL lo n m >>= f)=(dnL lo n m >>= g):=fun n f g h=>congrArg (fun k=>dnL lo n m >>= k) (funext fun c=>h c.1 c.2.1 c.2.2)
 have dp:∀ n (f:PUnit->StateT SortSt Sem (Option Nat)),(∀ u,f u=(dnL lo (n+1) m >>= fun c=>match c.1 with
  | some r=>pure r
  | none=>if c.2.2>0 then do
     reverseSlice' (lo+c.2.1 - (c.2.2+1)) (lo+c.2.1)
     GW lo c.2.1 m
    else GW lo c.2.1 m))->(liftM (rule "list.sort.descending-run") >>= f)=dpL lo n m:=fun n f h=>congrArg (fun k=>liftM (rule "list.sort.descending-run") >>= k) (funext h)
 refine up 1 _ _ fun r n=>?_;cases r with
 | some r=>rfl
 | none=>
   dsimp only;split
   ·rfl
   ·split
    ·refine congrArg (fun k=>ltAt' lo (lo+n - 1) >>= k) (funext fun x=>?_);cases x with
     | none=>rfl
     | some b=>
       dsimp only;split
       ·rfl
       ·refine congrArg (fun k=>reverseSlice' lo (lo+n) >>= k) (funext fun u=>?_);refine dp n _ fun u=>dn (n+1) _ _ fun r n q=>?_;cases r with
        | some r=>rfl
        | none=>
          dsimp only;split
          ·refine congrArg (fun k=>reverseSlice' (lo+n - (q+1)) (lo+n) >>= k) (funext fun u=>?_);exact e3 n _ fun u=>up n _ _ fun r n=>by cases r<;>rfl
          ·exact e3 n _ fun u=>up n _ _ fun r n=>by cases r<;>rfl
    ·refine dp n _ fun u=>dn (n+1) _ _ fun r n q=>?_;cases r with
     | some r=>rfl
     | none=>
       dsimp only;split
       ·refine congrArg (fun k=>reverseSlice' (lo+n - (q+1)) (lo+n) >>= k) (funext fun u=>?_);exact e3 n _ fun u=>up n _ _ fun r n=>by cases r<;>rfl
       ·exact e3 n _ fun u=>up n _ _ fun r n=>by cases r<;>rfl
section
variable{prog:Program}{w:World}{A:Around}{E:Value->Shared->Prop}{s:Shared}{a₀ a1:Array Keyed}{lo:Nat}{pd:Array (Nat×Nat×Nat)}
theorem EJ{st:SortSt}{i j:Nat}{Q:Unit->SortSt->Prop}(h:Q () (setArr st (mirror (arrOf st) i j ((j - i) / 2)))):wpS (model prog w) A E s (reverseSlice' i j) Q st:=by
 rw[reverseSlice'_eq];exact wpS_modify h
theorem Sb.mir{st:SortSt}(hB:Sb a₀ a1 lo pd st){i j:Nat}(hi:lo<=i)(hj:j<=a₀.size):Sb a₀ a1 lo pd (setArr st (mirror (arrOf st) i j ((j - i) / 2))):=
 hB.put (mirror_perm _ _ _ _) fun k hk=>Mo (by rw[hB.size];exact hj) (by omega)
theorem Sg.more{xs:Array Keyed}{x:Nat}(h:Sg xs lo x)(h1:1<=x)(hx:K xs (lo+x - 1)<=K xs (lo+x)):Sg xs lo (x+1):=fun i j hij hj=>by
 by_cases z:j<x
 ·exact h i j hij z
 ·rw[show j=x by omega];by_cases y:i=x
  ·rw[y];exact Uy _
  ·refine Tx (h i (x - 1) (by omega) (by omega)) ?_;rw[show lo+(x - 1)=lo+x - 1 by omega];exact hx
theorem Dg.more{xs ys:Array Keyed}{x:Nat}(h:Dg xs lo x)(e:∀ k,K ys k=K xs k)(h1:1<=x)(hx:K xs (lo+x)<=K xs (lo+x - 1)):Dg ys lo (x+1):=fun i j hij hj=>by
 rw[e,e];by_cases z:j<x
 ·exact h i j hij z
 ·rw[show j=x by omega];by_cases y:i=x
  ·rw[y];exact Uy _
  ·have:=h i (x - 1) (by omega) (by omega);rw[show lo+(x - 1)=lo+x - 1 by omega]at this;exact Tx hx this
theorem up_at{st:SortSt}{a m:Nat}{Q:AscSt->SortSt->Prop}(h0:IntKeys a₀)(hm:lo+m<=a₀.size)(ha:1<=a)(ham:a<=m)(hB:Sb a₀ a1 lo pd st)(hs:Sg (arrOf st) lo a)
 (h:∀ n,a<=n->n<=m->Sg (arrOf st) lo n->(n=m\/K (arrOf st) (lo+n)<K (arrOf st) (lo+n - 1))->Q (none,n) st):wpS (model prog w) A E s (upL lo a m) Q st:=by
 unfold upL;refine wpS_forRange (I:=fun x c z=>z=st/\c=(none,x)/\Sg (arrOf st) lo x) (fun x c z hx hxm=>?_) (fun c z=>?_) ⟨rfl,rfl,hs⟩
 ·rintro⟨rfl,rfl,g⟩;refine wpS_bind (F2 hB h0 (by omega) (by omega) ?_);by_cases y:K (arrOf z) (lo+x)<K (arrOf z) (lo+x - 1)
  ·simp only[y,decide_true,if_true];exact wpS_pure (h x hx (by omega) g (.inr y))
  ·simp only[y,decide_false,U1,if_false];exact wpS_pure ⟨rfl,rfl,g.more (by omega) (Vq.mp y)⟩
 ·rintro⟨rfl,rfl,g⟩;rw[show max a m=m by omega]at g ⊢;exact h m ham (Sr _) g (.inl rfl)
theorem KR{st:SortSt}{n m:Nat}{Q:Option Nat->SortSt->Prop}(h0:IntKeys a₀)(hm:lo+m<=a₀.size)(h1:1<=n)(hnm:n<=m)(hB:Sb a₀ a1 lo pd st)(hs:Dg (arrOf st) lo n)
 (h:∀ k st',Sb a₀ a1 lo pd st'->1<=k->k<=m->Sg (arrOf st') lo k->Q (some k) st'):wpS (model prog w) A E s (GW lo n m) Q st:=by
 unfold GW;have hz:lo+n<=(arrOf st).size:=by rw[hB.size];omega
 have hB':=hB.mir (i:=lo) (j:=lo+n) (Sr _) (by omega);refine wpS_bind (EJ (wpS_bind (up_at h0 hm h1 hnm hB' (fun i j hij hj=>?_) fun k k1 k2 g _=>wpS_pure (h k _ hB' (by omega) k2 g))));show K (mirror (arrOf st) lo (lo+n) _) (lo+i)<=K (mirror (arrOf st) lo (lo+n) _) (lo+j);rw[K_mirror hz,K_mirror hz,if_pos (by omega),if_pos (by omega)];have:=hs (n - 1 - j) (n - 1 - i) (by omega) (by omega);rw[show lo+(n - 1 - j)=lo+(lo+n) - 1 - (lo+j) by omega,show lo+(n - 1 - i)=lo+(lo+n) - 1 - (lo+i) by omega]at this;exact this
theorem RC{st:SortSt}{n m:Nat}{Q:DescSt->SortSt->Prop}(h0:IntKeys a₀)(hm:lo+m<=a₀.size)(h1:1<=n)(hnm:n<=m)(hB:Sb a₀ a1 lo pd st)(hs:Dg (arrOf st) lo n)
 (h:∀ x q st',Sb a₀ a1 lo pd st'->n<=x->x<=m->Dg (arrOf st') lo x->q+1<=x->(∀ i,lo+x - (q+1)<=i->i<lo+x->K (arrOf st') i=K (arrOf st') (lo+x - 1))->Q (none,x,q) st'):wpS (model prog w) A E s (dnL lo n m) Q st:=by
 unfold dnL;refine wpS_forRange (I:=fun x c z=>∃ q,c=(none,x,q)/\Sb a₀ a1 lo pd z/\Dg (arrOf z) lo x/\q+1<=x/\∀ i,lo+x - (q+1)<=i->i<lo+x->K (arrOf z) i=K (arrOf z) (lo+x - 1)) (fun x c z hx hxm=>?_) (fun c z=>?_) ⟨0,rfl,hB,hs,by omega,fun i a b=>by congr 1;omega⟩
 ·rintro⟨q,rfl,hb,g,hq,he⟩;have hz:lo+x<=(arrOf z).size:=by rw[hb.size];omega
  dsimp only;refine wpS_bind (F2 hb h0 (by omega) (by omega) ?_);by_cases y:K (arrOf z) (lo+x)<K (arrOf z) (lo+x - 1)
  ·simp only[y,decide_true,if_true];by_cases p:q>0
   ·rw[if_pos p];exact wpS_bind (EJ (wpS_pure ⟨0,rfl,hb.mir (by omega) (by omega),g.more (K_mirror_equal hz he) (by omega) (U0 y),by omega,fun i a b=>by congr 1;omega⟩))
   ·rw[if_neg p];exact wpS_pure ⟨0,rfl,hb,g.more (fun _=>rfl) (by omega) (U0 y),by omega,fun i a b=>by congr 1;omega⟩
  ·simp only[y,decide_false,U1,if_false];refine wpS_bind (F2 hb h0 (by omega) (by omega) ?_);by_cases v:K (arrOf z) (lo+x - 1)<K (arrOf z) (lo+x)
   ·simp only[v,decide_true,if_true];exact wpS_pure (h x q z hb hx (by omega) g hq he)
   ·simp only[v,decide_false,U1,if_false];have e:K (arrOf z) (lo+x)=K (arrOf z) (lo+x - 1):=by omega
    refine wpS_pure ⟨q+1,rfl,hb,g.more (fun _=>rfl) (by omega) (by omega),by omega,fun i a b=>?_⟩;rw[show lo+(x+1) - 1=lo+x by omega];by_cases u:i=lo+x
    ·rw[u]
    ·rw[e];exact he i (by omega) (by omega)
 ·rintro⟨q,rfl,hb,g,hq,he⟩;rw[show max n m=m by omega]at g hq he ⊢;exact h m q z hb hnm (Sr _) g hq he
theorem ON{st:SortSt}{n m:Nat}{Q:Option Nat->SortSt->Prop}(h0:IntKeys a₀)(hm:lo+m<=a₀.size)(hnm:n+1<=m)(hB:Sb a₀ a1 lo pd st)(hs:Dg (arrOf st) lo (n+1))
 (h:∀ k st',Sb a₀ a1 lo pd st'->1<=k->k<=m->Sg (arrOf st') lo k->Q (some k) st'):wpS (model prog w) A E s (dpL lo n m) Q st:=by
 unfold dpL;refine wpS_bind (wpS_lift (wpAny_rule ⟨rfl,?_⟩));refine wpS_bind (RC h0 hm (by omega) hnm hB hs fun x q st' hb hx1 hx2 g hq he=>?_);have hz:lo+x<=(arrOf st').size:=by rw[hb.size];omega
 dsimp only;by_cases p:q>0
 ·rw[if_pos p];refine wpS_bind (EJ (KR h0 hm (by omega) hx2 (hb.mir (by omega) (by omega)) (fun i j hij hj=>?_) h));show K (mirror (arrOf st') _ _ _) (lo+j)<=K (mirror (arrOf st') _ _ _) (lo+i);rw[K_mirror_equal hz he,K_mirror_equal hz he];exact g i j hij hj
 ·rw[if_neg p];exact KR h0 hm (by omega) hx2 hb g h
theorem KS{st:SortSt}{m:Nat}{Q:Option Nat->SortSt->Prop}(h0:IntKeys a₀)(hm:lo+m<=a₀.size)(h1:1<=m)(hB:Sb a₀ a1 lo pd st)
 (h:∀ k st',Sb a₀ a1 lo pd st'->1<=k->k<=m->Sg (arrOf st') lo k->Q (some k) st'):wpS (model prog w) A E s (countRun' lo m) Q st:=by
 rw[PX];refine wpS_bind (up_at h0 hm (Sr 1) h1 hB (fun i j hij hj=>by rw[show i=j by omega];exact Uy _) fun n n1 n2 g hor=>?_);dsimp only;by_cases e:n=m
 ·rw[if_pos (by simpa using e)];exact wpS_pure (h n st hB n1 n2 g)
 ·rw[if_neg (by simpa using e)];have hlt:=hor.resolve_left e;by_cases z:n>1
  ·rw[if_pos z];refine wpS_bind (F2 hB h0 (by omega) (by omega) ?_);by_cases y:K (arrOf st) lo<K (arrOf st) (lo+n - 1)
   ·simp only[y,decide_true,if_true];exact wpS_pure (h n st hB n1 n2 g)
   ·simp only[y,decide_false,U1,if_false];have hz:lo+n<=(arrOf st).size:=by rw[hB.size];omega
    have al:∀ k,lo<=k->k<lo+n->K (arrOf st) k=K (arrOf st) (lo+n - 1):=fun k a b=>by
     have p:=g 0 (k - lo) (by omega) (by omega);have q:=g (k - lo) (n - 1) (by omega) (by omega);rw[show lo+(k - lo)=k by omega]at p q;rw[show lo+(n - 1)=lo+n - 1 by omega]at q;rw[Wd]at p;omega
    refine wpS_bind (EJ (ON h0 hm (by omega) (hB.mir (Sr _) (by omega)) ?_ h));refine Dg.more (xs:=arrOf st) (fun i j hij hj=>?_) (K_mirror_equal hz al) (by omega) (U0 hlt);rw[al _ (by omega) (by omega),al (lo+i) (by omega) (by omega)];exact Uy _
  ·rw[if_neg z];have:n=1:=by omega
   subst this;refine ON h0 hm (by omega) hB ?_ h;exact Dg.more (xs:=arrOf st) (fun i j hij hj=>by rw[show i=j by omega];exact Uy _) (fun _=>rfl) (Sr _) (U0 hlt)
end
open PySem PyProof.Rows
noncomputable def F3:Bool->Keyed->Array Keyed->Nat->Nat->Nat->StateT SortSt Sem (Option Nat):=sortPriv% PySem.Builtin.gallop
noncomputable abbrev GS:=Option (Option Nat)×Nat×Nat
noncomputable def bey(l:Bool)(k:Keyed)(a:Array Keyed)(o i:Nat):StateT SortSt Sem (Option Bool):=do
 let x <- elem' a (o+i)
 if l=true then lt' x k else do
  let r <- lt' k x
  pure (r.map fun b=>!b)
noncomputable def Mq(f:Nat->StateT SortSt Sem (Option Bool))(n lo hi:Nat):StateT SortSt Sem GS:=
 forIn [:n] ((none,lo,hi):GS) fun _ c=>if c.2.1≥c.2.2 then pure (.done (none,c.2.1,c.2.2)) else do
  match <- f (c.2.1+(c.2.2 - c.2.1) / 2) with
  | some b=>if b=true then pure (.yield (none,c.2.1+(c.2.2 - c.2.1) / 2+1,c.2.2)) else pure (.yield (none,c.2.1,c.2.1+(c.2.2 - c.2.1) / 2))
  | _=>pure (.done (some none,c.2.1,c.2.2))
noncomputable def Mr(f:Nat->StateT SortSt Sem (Option Bool))(n lo hi:Nat):StateT SortSt Sem (Option Nat):=do
 let c <- Mq f n lo hi
 match c.1 with
 | some r=>pure r
 | none=>pure (some c.2.2)
noncomputable def PY(f:Nat->StateT SortSt Sem (Option Bool))(n h:Nat):StateT SortSt Sem GS:=
 forIn [:n] ((none,0,1):GS) fun _ c=>if c.2.2≥n - h then pure (.done (none,c.2.1,c.2.2)) else do
  match <- f (h+c.2.2) with
  | some b=>if (!b)=true then pure (.done (none,c.2.1,c.2.2)) else pure (.yield (none,c.2.2,2 * c.2.2+1))
  | _=>pure (.done (some none,c.2.1,c.2.2))
noncomputable def PZ(f:Nat->StateT SortSt Sem (Option Bool))(n h:Nat):StateT SortSt Sem GS:=
 forIn [:n] ((none,0,1):GS) fun _ c=>if c.2.2≥h+1 then pure (.done (none,c.2.1,c.2.2)) else do
  match <- f (h - c.2.2) with
  | some b=>if b=true then pure (.done (none,c.2.1,c.2.2)) else pure (.yield (none,c.2.2,2 * c.2.2+1))
  | _=>pure (.done (some none,c.2.1,c.2.2))
noncomputable def Mt(f:Nat->StateT SortSt Sem (Option Bool))(n h:Nat):StateT SortSt Sem (Option Nat):=do
 match <- f h with
 | some r=>
   if r=true then do
    let c <- PY f n h
    match c.1 with
    | some r=>pure r
    | none=>Mr f n (h+c.2.1+1) (h+min c.2.2 (n - h))
   else do
    let c <- PZ f n h
    match c.1 with
    | some r=>pure r
    | none=>Mr f n (h+1 - min c.2.2 (h+1)) (h - c.2.1)
 | _=>pure none
theorem Pa(l:Bool)(k:Keyed)(a:Array Keyed)(o n h:Nat):F3 l k a o n h=Mt (bey l k a o) n h:=by
 unfold Mt;refine congrArg (fun g=>bey l k a o h >>= g) (funext fun x=>?_);cases x with
 | none=>rfl
 | some r=>
   cases r with
   | true=>
     refine congrArg (fun g=>PY (bey l k a o) n h >>= g) (funext fun c=>?_);obtain⟨c,d,e⟩:=c;cases c with
     | some r=>rfl
     | none=>
       refine congrArg (fun g=>Mq (bey l k a o) n (h+d+1) (h+min e (n - h)) >>= g) (funext fun c=>?_);obtain⟨c,d,e⟩:=c;cases c<;>rfl
   | false=>
     refine congrArg (fun g=>PZ (bey l k a o) n h >>= g) (funext fun c=>?_);obtain⟨c,d,e⟩:=c;cases c with
     | some r=>rfl
     | none=>
       refine congrArg (fun g=>Mq (bey l k a o) n (h+1 - min e (h+1)) (h - d) >>= g) (funext fun c=>?_);obtain⟨c,d,e⟩:=c;cases c<;>rfl
section
variable{prog:Program}{w:World}{A:Around}{E:Value->Shared->Prop}{s:Shared}
noncomputable def OO(prog:Program)(w:World)(A:Around)(E:Value->Shared->Prop)(s:Shared)(f:Nat->StateT SortSt Sem (Option Bool))(b:Nat->Bool)(n:Nat)(st:SortSt):Prop:=
 ∀ i,i<n->∀ Q:Option Bool->SortSt->Prop,Q (some (b i)) st->wpS (model prog w) A E s (f i) Q st
structure Many(b:Nat->Bool)(n k:Nat):Prop where
 le:k<=n
 yes:∀ i,i<k->b i=true
 no:∀ i,k<=i->i<n->b i=false
theorem KU{f:Nat->StateT SortSt Sem (Option Bool)}{b:Nat->Bool}{n lo hi:Nat}{st:SortSt}{Q:Option Nat->SortSt->Prop}(hf:OO prog w A E s f b n st)(mono:∀ i j,i<=j->b j=true->b i=true)(h1:lo<=hi)(h2:hi<=n)(y:∀ i,i<lo->b i=true)(z:∀ i,hi<=i->i<n->b i=false)
 (q:∀ k,Many b n k->Q (some k) st):wpS (model prog w) A E s (Mr f n lo hi) Q st:=by
 unfold Mr Mq
 refine wpS_bind (wpS_mono (wpS_forRange (I:=fun x c t=>t=st/\∃ l r,c=(none,l,r)/\l<=r/\r<=n/\r - l<=n - x/\(∀ i,i<l->b i=true)/\∀ i,r<=i->i<n->b i=false)
  (Q:=fun c t=>t=st/\∃ l r,c=(none,l,r)/\Many b n r) ?a ?b ⟨rfl,lo,hi,rfl,h1,h2,by omega,y,z⟩) ?c)
 case a=>
  rintro x c t _ hx ⟨rfl,l,r,rfl,a1,a2,a3,a4,a5⟩;dsimp only;by_cases g:l≥r
  ·rw[if_pos g];exact wpS_pure ⟨rfl,l,r,rfl,a2,fun i hi=>a4 i (by omega),a5⟩
  ·rw[if_neg g];refine wpS_bind (hf (l+(r - l) / 2) (by omega) _ ?_);cases e:b (l+(r - l) / 2) with
   | true=>exact wpS_pure ⟨rfl,_,r,rfl,by omega,a2,by omega,fun i hi=>mono i _ (by omega) e,a5⟩
   | false=>
     refine wpS_pure ⟨rfl,l,_,rfl,by omega,by omega,by omega,a4,fun i hi hn=>?_⟩;cases e':b i with
     | false=>rfl
     | true=>rw[mono _ i hi e']at e;cases e
 case b=>
  rintro c t ⟨rfl,l,r,rfl,a1,a2,a3,a4,a5⟩;have:l=r:=by omega
  subst this;exact⟨rfl,l,l,rfl,a2,a4,a5⟩
 case c=>
  rintro c t ⟨rfl,l,r,rfl,m⟩;exact wpS_pure (q r m)
theorem Pb{f:Nat->StateT SortSt Sem (Option Bool)}{b:Nat->Bool}{n h:Nat}{st:SortSt}{Q:Option Nat->SortSt->Prop}(hf:OO prog w A E s f b n st)(mono:∀ i j,i<=j->b j=true->b i=true)(hn:h<n)
 (q:∀ k,Many b n k->Q (some k) st):wpS (model prog w) A E s (Mt f n h) Q st:=by
 have anti:∀ i j,i<=j->b i=false->b j=false:=fun i j hij e=>by
  cases e':b j with
  | false=>rfl
  | true=>rw[mono i j hij e']at e;cases e
 unfold Mt;refine wpS_bind (hf h hn _ ?_);cases e:b h with
 | true=>
   dsimp only;rw[if_pos rfl];unfold PY
   refine wpS_bind (wpS_mono (wpS_forRange (I:=fun x c t=>t=st/\∃ l o,c=(none,l,o)/\l<o/\x+1<=o/\l<n - h/\b (h+l)=true)
    (Q:=fun c t=>t=st/\∃ l o,c=(none,l,o)/\l<o/\l<n - h/\b (h+l)=true/\(n - h<=o\/b (h+o)=false)) ?a ?b ⟨rfl,0,1,rfl,by omega,by omega,by omega,e⟩) ?c)
   case a=>
    rintro x c t _ hx ⟨rfl,l,o,rfl,a1,a2,a3,a4⟩;dsimp only;by_cases g:o≥n - h
    ·rw[if_pos g];exact wpS_pure ⟨rfl,l,o,rfl,a1,a3,a4,.inl g⟩
    ·rw[if_neg g];refine wpS_bind (hf (h+o) (by omega) _ ?_);cases e':b (h+o) with
     | true=>exact wpS_pure ⟨rfl,o,_,rfl,by omega,by omega,by omega,e'⟩
     | false=>exact wpS_pure ⟨rfl,l,o,rfl,a1,a3,a4,.inr e'⟩
   case b=>
    rintro c t ⟨rfl,l,o,rfl,a1,a2,a3,a4⟩;exact⟨rfl,l,o,rfl,a1,a3,a4,.inl (by omega)⟩
   case c=>
    rintro c t ⟨rfl,l,o,rfl,a1,a3,a4,a5⟩;dsimp only;refine KU hf mono (by omega) (by omega) (fun i hi=>mono i _ (by omega) a4) (fun i hi hn'=>?_) q;rcases a5 with z | z
    ·omega
    ·exact anti _ i (by omega) z
 | false=>
   dsimp only;rw[if_neg (by decide)];unfold PZ
   refine wpS_bind (wpS_mono (wpS_forRange (I:=fun x c t=>t=st/\∃ l o,c=(none,l,o)/\l<o/\x+1<=o/\l<=h/\b (h - l)=false)
    (Q:=fun c t=>t=st/\∃ l o,c=(none,l,o)/\l<o/\l<=h/\b (h - l)=false/\(h+1<=o\/b (h - o)=true)) ?a ?b ⟨rfl,0,1,rfl,by omega,by omega,by omega,e⟩) ?c)
   case a=>
    rintro x c t _ hx ⟨rfl,l,o,rfl,a1,a2,a3,a4⟩;dsimp only;by_cases g:o≥h+1
    ·rw[if_pos g];exact wpS_pure ⟨rfl,l,o,rfl,a1,a3,a4,.inl g⟩
    ·rw[if_neg g];refine wpS_bind (hf (h - o) (by omega) _ ?_);cases e':b (h - o) with
     | true=>exact wpS_pure ⟨rfl,l,o,rfl,a1,a3,a4,.inr e'⟩
     | false=>exact wpS_pure ⟨rfl,o,_,rfl,by omega,by omega,by omega,e'⟩
   case b=>
    rintro c t ⟨rfl,l,o,rfl,a1,a2,a3,a4⟩;exact⟨rfl,l,o,rfl,a1,a3,a4,.inl (by omega)⟩
   case c=>
    rintro c t ⟨rfl,l,o,rfl,a1,a3,a4,a5⟩;dsimp only;refine KU hf mono (by omega) (by omega) (fun i hi=>?_) (fun i hi hn'=>anti _ i (by omega) a4) q;rcases a5 with z | z
    ·omega
    ·exact mono i _ (by omega) z
end
open PySem PyProof.Rows
noncomputable def nk(p:Keyed):Int:=numOf p.1
noncomputable def Ik(p:Keyed):Prop:=∃ n t,p.1 = .int n t
noncomputable def Up(l:List Keyed):Prop:=l.Pairwise fun x y=>nk x<=nk y
structure Res(A B r:List Keyed):Prop where
 pm:r.Perm (A++B)
 so:Up r
structure Mi(A B O:List Keyed)(i j:Nat):Prop where
 pm:O.Perm (A.take i++B.take j)
 so:Up O
 la:∀ x∈O,∀ y∈A.drop i,nk x<=nk y
 lb:∀ x∈O,∀ y∈B.drop j,nk x<=nk y
section
variable{A B O:List Keyed}{i j:Nat}
theorem Up.app{l m:List Keyed}(a:Up l)(b:Up m)(h:∀ x∈l,∀ y∈m,nk x<=nk y):Up (l++m):=Vk.mpr ⟨a,b,h⟩
theorem Up.get{l:List Keyed}(a:Up l){i j:Nat}{x y:Keyed}(hi:l[i]?=some x)(hj:l[j]?=some y)(hij:i<=j):nk x<=nk y:=by
 obtain⟨h1,rfl⟩:=gM hi;obtain⟨h2,rfl⟩:=gM hj;rcases VG i j with z | z
 ·exact(U4.mp a) i j h1 h2 z
 ·have:i=j:=by omega
  subst this;exact Uy _
theorem l6{l:List Keyed}{i:Nat}{y:Keyed}(h:y∈l.drop i):∃ k,i<=k/\l[k]?=some y:=by
 obtain⟨k,hk⟩:=Vf.mp h;rw[UP]at hk;exact⟨i+k,by omega,hk⟩
theorem p0{l:List Keyed}{i:Nat}{y:Keyed}(h:y∈l.take i):∃ k,k<i/\l[k]?=some y:=by
 obtain⟨k,hk⟩:=Vf.mp h;rw[VJ]at hk;split at hk
 ·rename_i z;exact⟨k,z,hk⟩
 ·cases hk
theorem Ap{l:List Keyed}{i:Nat}{x:Keyed}(h:l[i]?=some x):l.drop i=x::l.drop (i+1):=by
 obtain⟨h1,rfl⟩:=gM h;exact U5 h1
theorem Aq{l:List Keyed}{i:Nat}{x:Keyed}(h:l[i]?=some x):l.take (i+1)=l.take i++[x]:=by rw[U2,h];rfl
theorem Mi.pushA(M:Mi A B O i j)(hA:Up A){x:Keyed}(hx:A[i]?=some x)(h:∀ y∈B.drop j,nk x<=nk y):Mi A B (O++[x]) (i+1) j:=by
 have dx:=Ap hx;refine⟨?_,M.so.app (V3 _ _) fun a ha b hb=>?_,fun a ha y hy=>?_,fun a ha y hy=>?_⟩
 ·rw[Aq hx,TF];refine(M.pm.append_right [x]).trans ?_;rw[TF];exact List.Perm.append_left _ Ud
 ·rw[TH.mp hb];exact M.la a ha x (by rw[dx];exact TM ..)
 ·rcases TQ.mp ha with ha | ha
  ·exact M.la a ha y (by rw[dx];exact Sz _ hy)
  ·rw[TH.mp ha];obtain⟨k,hk,e⟩:=l6 hy;exact hA.get hx e (by omega)
 ·rcases TQ.mp ha with ha | ha
  ·exact M.lb a ha y hy
  ·rw[TH.mp ha];exact h y hy
theorem Mi.pushB(M:Mi A B O i j)(hB:Up B){x:Keyed}(hx:B[j]?=some x)(h:∀ y∈A.drop i,nk x<=nk y):Mi A B (O++[x]) i (j+1):=by
 have dx:=Ap hx;refine⟨?_,M.so.app (V3 _ _) fun a ha b hb=>?_,fun a ha y hy=>?_,fun a ha y hy=>?_⟩
 ·rw[Aq hx,<-TF];exact M.pm.append_right [x]
 ·rw[TH.mp hb];exact M.lb a ha x (by rw[dx];exact TM ..)
 ·rcases TQ.mp ha with ha | ha
  ·exact M.la a ha y hy
  ·rw[TH.mp ha];exact h y hy
 ·rcases TQ.mp ha with ha | ha
  ·exact M.lb a ha y (by rw[dx];exact Sz _ hy)
  ·rw[TH.mp ha];obtain⟨k,hk,e⟩:=l6 hy;exact hB.get hx e (by omega)
theorem Mi.moreA(hA:Up A)(M:Mi A B O i j):∀ k,i+k<=A.length->(∀ t x,t<k->A[i+t]?=some x->∀ y∈B.drop j,nk x<=nk y)->Mi A B (O++(A.drop i).take k) (i+k) j
 | 0,_,_=>by rw[WM,UF];exact M
 | k+1,hk,h=>by
   have ih:=Mi.moreA hA M k (by omega) fun t x ht=>h t x (by omega);have hx:=Sj (show i+k<A.length by omega);have:=ih.pushA hA hx (h k _ (by omega) hx);rw[TF]at this;have e:(A.drop i).take (k+1)=(A.drop i).take k++[A[i+k]]:=by rw[U2,UP,hx];rfl
   rw[e];exact this
theorem Mi.moreB(hB:Up B)(M:Mi A B O i j):∀ k,j+k<=B.length->(∀ t x,t<k->B[j+t]?=some x->∀ y∈A.drop i,nk x<=nk y)->Mi A B (O++(B.drop j).take k) i (j+k)
 | 0,_,_=>by rw[WM,UF];exact M
 | k+1,hk,h=>by
   have ih:=Mi.moreB hB M k (by omega) fun t x ht=>h t x (by omega);have hx:=Sj (show j+k<B.length by omega);have:=ih.pushB hB hx (h k _ (by omega) hx);rw[TF]at this;have e:(B.drop j).take (k+1)=(B.drop j).take k++[B[j+k]]:=by rw[U2,UP,hx];rfl
   rw[e];exact this
theorem Cw{l:List Keyed}(h:Up l)(i:Nat):Up (l.drop i):=List.Pairwise.sublist (List.drop_sublist i l) h
theorem Mi.done(M:Mi A B O i j)(hA:Up A)(hj:B.length<=j):Res A B (O++A.drop i):=by
 refine⟨?_,M.so.app (Cw hA i) M.la⟩;have p:=M.pm;rw[UL hj]at p;refine(p.append_right _).trans ?_;rw[TF];refine(List.Perm.append_left _ Ud).trans ?_;rw[<-TF,U9]
theorem Mi.last(M:Mi A B O i j)(hB:Up B){x:Keyed}(hx:A[i]?=some x)(hi:i+1=A.length)(h:∀ y∈B,nk y<=nk x):Res A B (O++B.drop j++A.drop i):=by
 have dx:=Ap hx;rw[show A.drop (i+1)=[] from VZ (by omega)]at dx;rw[dx];refine⟨?_,(M.so.app (Cw hB j) M.lb).app (V3 _ _) fun a ha b hb=>?_⟩
 ·have p:=M.pm;have tA:A.take i++[x]=A:=by rw[<-Aq hx,UL (by omega)]
  refine((p.append_right (B.drop j)).append_right [x]).trans ?_;rw[TF (A.take i),U9,TF];refine(List.Perm.append_left _ Ud).trans ?_;rw[<-TF,tA]
 ·rw[TH.mp hb];rcases TQ.mp ha with ha | ha
  ·exact M.la a ha x (by rw[dx];exact List.mem_singleton_self _)
  ·exact h a (Uz ha)
end
section
variable{prog:Program}{w:World}{A:Around}{E:Value->Shared->Prop}{s:Shared}
theorem Hl{st:SortSt}{x y:Keyed}{Q:Option Bool->SortSt->Prop}(hx:Ik x)(hy:Ik y)(hk:kindOf st=oneType')(h:Q (some (decide (nk x<nk y))) st):wpS (model prog w) A E s (lt' x y) Q st:=by
 obtain⟨a,t,ea⟩:=hx;obtain⟨b,u,eb⟩:=hy;obtain⟨x1,x2⟩:=x;obtain⟨y1,y2⟩:=y;cases ea;cases eb;rw[lt'_eq];refine wpS_bind (wpS_get ?_);rw[hk,keyLt'_oneType];refine wpS_bind (wpS_lift (wpAny_attempt (oneLt_int ⟨rfl,?_⟩)));exact wpS_pure h
theorem w5{st:SortSt}{a:Array Keyed}{i:Nat}{x:Keyed}{Q:Keyed->SortSt->Prop}(h:a.toList[i]?=some x)(q:Q x st):wpS (model prog w) A E s (elem' a i) Q st:=by
 have e:a[i]?=some x:=by rw[<-Tv];exact h
 rw[elem'_eq,e];exact wpS_pure q
noncomputable def bB(l:Bool)(k:Keyed)(L:List Keyed)(o n i:Nat):Bool:=match L[o+i]? with
 | some x=>decide (i<n)&&if l then decide (nk x<nk k) else !decide (nk k<nk x)
 | none=>false
theorem Mu{l:Bool}{k:Keyed}{L:List Keyed}{o n:Nat}(hL:∀ i j x y,o<=i->i<=j->j<o+n->L[i]?=some x->L[j]?=some y->nk x<=nk y)(hn:o+n<=L.length):∀ i j,i<=j->bB l k L o n j=true->bB l k L o n i=true:=by
 intro i j hij h;unfold bB at h ⊢;cases hj:L[o+j]? with
 | none=>rw[hj]at h;cases h
 | some y=>
   rw[hj]at h;simp only[Si,decide_eq_true_eq]at h;have hi:=Sj (show o+i<L.length by omega);rw[hi];have:=hL _ _ _ _ (by omega) (by omega) (by omega) hi hj;simp only[Si,decide_eq_true_eq];refine⟨by omega,?_⟩;cases l with
   | true=>simp only[if_true,decide_eq_true_eq]at h ⊢;omega
   | false=>simp only[U1,if_false,Ta,decide_eq_false_iff_not]at h ⊢;omega
theorem Dv{st:SortSt}{l:Bool}{k:Keyed}{a:Array Keyed}{o n h:Nat}{Q:Option Nat->SortSt->Prop}(hk:kindOf st=oneType')(ik:Ik k)(ia:∀ x∈a.toList,Ik x)(hL:∀ i j x y,o<=i->i<=j->j<o+n->a.toList[i]?=some x->a.toList[j]?=some y->nk x<=nk y)(hn:o+n<=a.toList.length)(hh:h<n)
 (q:∀ c,Many (bB l k a.toList o n) n c->Q (some c) st):wpS (model prog w) A E s (F3 l k a o n h) Q st:=by
 rw[Pa];refine Pb (b:=bB l k a.toList o n) (fun i hi Q q=>?_) (Mu hL hn) hh q;have hx:=Sj (show o+i<a.toList.length by omega);unfold bey;refine wpS_bind (w5 hx ?_);have ix:=ia _ (Sm hx);unfold bB at q;rw[hx]at q;cases l with
 | true=>
   rw[if_pos rfl];refine Hl ix ik hk ?_;simpa[hi] using q
 | false=>
   rw[if_neg (by decide)];refine wpS_bind (Hl ik ix hk (wpS_pure ?_));simpa[hi] using q
end
open PySem PyProof.Rows
section
variable{prog:Program}{w:World}{A:Around}{E:Value->Shared->Prop}{s:Shared}
theorem v9{α:Type}{c:Prop}[Decidable c]{m1 m2:StateT SortSt Sem α}{Q:α->SortSt->Prop}{st:SortSt}(h1:c->wpS (model prog w) A E s m1 Q st)(h2:¬c->wpS (model prog w) A E s m2 Q st):wpS (model prog w) A E s (if c then m1 else m2) Q st:=by
 split
 ·exact h1 ‹_›
 ·exact h2 ‹_›
theorem j0{α:Type}{c:Prop}[Decidable c]{m1 m2:StateT SortSt Sem α}{Q:α->SortSt->Prop}{st:SortSt}(h:c)(k:wpS (model prog w) A E s m1 Q st):wpS (model prog w) A E s (if c then m1 else m2) Q st:=by rw[if_pos h];exact k
theorem j4{α:Type}{c:Prop}[Decidable c]{m1 m2:StateT SortSt Sem α}{Q:α->SortSt->Prop}{st:SortSt}(h:¬c)(k:wpS (model prog w) A E s m2 Q st):wpS (model prog w) A E s (if c then m1 else m2) Q st:=by rw[if_neg h];exact k
end
noncomputable def RD:Array Keyed->Array Keyed->StateT SortSt Sem (Array Keyed):=sortPriv% PySem.Builtin.mergeLo
structure Ks(st z:SortSt):Prop where
 k:kindOf z=kindOf st
 a:arrOf z=arrOf st
 p:pendingOf z=pendingOf st
 f:failedOf z=failedOf st
theorem Ks.refl(st:SortSt):Ks st st:=⟨rfl,rfl,rfl,rfl⟩
theorem Ks.gal{st z:SortSt}(h:Ks st z)(g:Nat):Ks st (SortSt.mk' (kindOf z) (arrOf z) (pendingOf z) g (failedOf z)):=⟨h.k,h.a,h.p,h.f⟩
theorem AH(a:Array Keyed)(i j:Nat):(a.extract i j).toList=(a.toList.drop i).take (j - i):=by
 rw[Array.toList_extract,List.extract_eq_take_drop]
theorem EK(a:Array Keyed)(i:Nat):(a.extract i a.size).toList=a.toList.drop i:=by
 rw[AH,UL (by rw[Ti,Sv];exact Sr _)]
theorem Mi.nil(A B:List Keyed):Mi A B [] 0 0:=⟨.nil,.nil,(fun _ h=>nomatch h),fun _ h=>nomatch h⟩
noncomputable abbrev LS:=Option (Array Keyed)×Array Keyed×Nat×Nat×Nat×Nat×Nat
noncomputable abbrev dn(a b o:Array Keyed)(i j:Nat):Array Keyed:=o++a.extract i a.size++b.extract j b.size
noncomputable abbrev ls(a b o:Array Keyed)(i j:Nat):Array Keyed:=o++b.extract j b.size++a.extract i a.size
noncomputable def loC(a b o:Array Keyed)(i j g m k:Nat):StateT SortSt Sem (ForInStep LS):=do
 let x <- elem' a i
 if (i+1+1 == a.size)=true then pure (.done (some (ls a b (o.push x) (i+1) j),o.push x,i+1,j,g,m,k))
 else if (decide (m<7)&&decide (k<7))=true then pure (.done (none,o.push x,i+1,j,g,m,k))
 else pure (.yield (none,o.push x,i+1,j,g,m,k))
noncomputable def loB(a b o:Array Keyed)(i j g m n:Nat):StateT SortSt Sem (ForInStep LS):=do
 let x <- elem' b j
 if (j+1 == b.size)=true then pure (.done (some (dn a b (o.push x) i (j+1)),o.push x,i,j+1,g,m,n)) else do
  let y <- elem' a i
  match <- F3 true y b (j+1) (b.size - (j+1)) 0 with
  | some k=>(if k>0 then (if (j+1+k == b.size)=true then pure (.done (some (dn a b (o.push x++b.extract (j+1) (j+1+k)) i (j+1+k)),o.push x++b.extract (j+1) (j+1+k),i,j+1+k,g,m,k))
     else loC a b (o.push x++b.extract (j+1) (j+1+k)) i (j+1+k) g m k) else loC a b (o.push x) i (j+1) g m k)
  | _=>pure (.done (some (dn a b (o.push x) i (j+1)),o.push x,i,j+1,g,m,n))
noncomputable def loA(a b o:Array Keyed)(i j g m n:Nat):StateT SortSt Sem (ForInStep LS):=do
 modify fun z=>SortSt.mk' (kindOf z) (arrOf z) (pendingOf z) g (failedOf z)
 let y <- elem' b j
 match <- F3 false y a i (a.size - i) 0 with
 | some k=>(if k>0 then (if (i+k+1 == a.size)=true then pure (.done (some (ls a b (o++a.extract i (i+k)) (i+k) j),o++a.extract i (i+k),i+k,j,g,k,n))
    else if (i+k == a.size)=true then pure (.done (some (dn a b (o++a.extract i (i+k)) (i+k) j),o++a.extract i (i+k),i+k,j,g,k,n))
    else loB a b (o++a.extract i (i+k)) (i+k) j g k n) else loB a b o i j g k n)
 | _=>pure (.done (some (dn a b o i j),o,i,j,g,m,n))
theorem CW{k:Keyed}{L:List Keyed}{o n c:Nat}(M:Many (bB false k L o n) n c){t:Nat}{x:Keyed}(hx:L[o+t]?=some x)(ht:t<n):(t<c->nk x<=nk k)/\(c<=t->nk k<nk x):=by
 constructor
 ·intro h;have:=M.yes t h;unfold bB at this;rw[hx]at this;simp[ht]at this;omega
 ·intro h;have:=M.no t h ht;unfold bB at this;rw[hx]at this;simp[ht]at this;omega
theorem DC{k:Keyed}{L:List Keyed}{o n c:Nat}(M:Many (bB true k L o n) n c){t:Nat}{x:Keyed}(hx:L[o+t]?=some x)(ht:t<n):(t<c->nk x<nk k)/\(c<=t->nk k<=nk x):=by
 constructor
 ·intro h;have:=M.yes t h;unfold bB at this;rw[hx]at this;simp[ht]at this;omega
 ·intro h;have:=M.no t h ht;unfold bB at this;rw[hx]at this;simp[ht]at this;omega
structure Two(a b:Array Keyed)(la:Keyed):Prop where
 ia:∀ x∈a.toList,Ik x
 ib:∀ x∈b.toList,Ik x
 hA:Up a.toList
 hB:Up b.toList
 hla:a.toList[a.size - 1]?=some la
 hlt:∀ y∈b.toList,nk y<nk la
section
variable{a b:Array Keyed}{la:Keyed}(T:Two a b la)
include T
theorem Two.gA{i:Nat}(h:i<a.size):∃ x,a.toList[i]?=some x/\Ik x:=by
 have e:=Sj (show i<a.toList.length by rw[Sv];exact h);exact⟨_,e,T.ia _ (Sm e)⟩
theorem Two.gB{i:Nat}(h:i<b.size):∃ x,b.toList[i]?=some x/\Ik x:=by
 have e:=Sj (show i<b.toList.length by rw[Sv];exact h);exact⟨_,e,T.ib _ (Sm e)⟩
theorem Two.fin{o:Array Keyed}{i j:Nat}(M:Mi a.toList b.toList o.toList i j)(hj:b.size<=j):Res a.toList b.toList (dn a b o i j).toList:=by
 have lb1:b.toList.length=b.size:=Sv;unfold dn;rw[Tp,Tp,EK,EK,VZ (as:=b.toList) (by omega),UF];exact M.done T.hA (by omega)
theorem Two.lst{o:Array Keyed}{i j:Nat}(M:Mi a.toList b.toList o.toList i j)(hi:i+1=a.size):Res a.toList b.toList (ls a b o i j).toList:=by
 have la1:a.toList.length=a.size:=Sv;unfold ls;rw[Tp,Tp,EK,EK];have e:i=a.size - 1:=by omega
 subst e;exact M.last T.hB T.hla (by omega) fun y hy=>U0 (T.hlt y hy)
end
@[elab_as_elim] theorem ex4{τ α β γ δ:Type}{f:α->β->γ->δ->τ}{R:α->β->γ->δ->Prop}{P:τ->Prop}(c:τ)(h:∃ x y z u,c=f x y z u/\R x y z u)(k:∀ x y z u,R x y z u->P (f x y z u)):P c:=by
  obtain⟨x,y,z,u,rfl,r⟩:=h;exact k x y z u r
@[elab_as_elim] theorem ex5{τ α β γ δ ε:Type}{f:α->β->γ->δ->ε->τ}{R:α->β->γ->δ->ε->Prop}{P:τ->Prop}(c:τ)(h:∃ x y z u v,c=f x y z u v/\R x y z u v)(k:∀ x y z u v,R x y z u v->P (f x y z u v)):P c:=by
  obtain⟨x,y,z,u,v,rfl,r⟩:=h;exact k x y z u v r
@[elab_as_elim] theorem ex6{τ α β γ δ ε ζ:Type}{f:α->β->γ->δ->ε->ζ->τ}{R:α->β->γ->δ->ε->ζ->Prop}{P:τ->Prop}(c:τ)(h:∃ x y z u v w,c=f x y z u v w/\R x y z u v w)(k:∀ x y z u v w,R x y z u v w->P (f x y z u v w)):P c:=by
  obtain⟨x,y,z,u,v,w,rfl,r⟩:=h;exact k x y z u v w r
@[elab_as_elim] theorem ex2{τ α β:Type}{f:α->β->τ}{R:α->β->Prop}{P:τ->Prop}(c:τ)(h:∃ x y,c=f x y/\R x y)(k:∀ x y,R x y->P (f x y)):P c:=by
  obtain⟨x,y,rfl,r⟩:=h;exact k x y r
noncomputable def Ends(a b:Array Keyed)(st:SortSt)(x:Nat)(c:LS)(z:SortSt):Prop:=Ks st z/\((∃ r d,c=(some r,d)/\Res a.toList b.toList r.toList)\/∃ o i j g m n,c=(none,o,i,j,g,m,n)/\Mi a.toList b.toList o.toList i j/\i+1<a.size/\j<b.size/\x<=i+j)
noncomputable def Mv(a b:Array Keyed)(st:SortSt)(x:Nat)(r:ForInStep LS)(z:SortSt):Prop:=match r with
 | .done c=>Ends a b st x c z
 | .yield c=>∃ o i j g m n,c=(none,o,i,j,g,m,n)/\Ks st z/\Mi a.toList b.toList o.toList i j/\i+1<a.size/\j<b.size/\x<=i+j
section
variable{prog:Program}{w:World}{A:Around}{E:Value->Shared->Prop}{s:Shared}{a b:Array Keyed}{la:Keyed}
theorem KW(T:Two a b la){st z:SortSt}{o:Array Keyed}{x i j g m k:Nat}(K:Ks st z)(M:Mi a.toList b.toList o.toList i j)(hi:i+1<a.size)(hj:j<b.size)(hx:x<=i+j)(h:∀ u,a.toList[i]?=some u->∀ y∈b.toList.drop j,nk u<=nk y):
 wpS (model prog w) A E s (loC a b o i j g m k) (Mv a b st x) z:=by
 obtain⟨u,hu,iu⟩:=T.gA (i:=i) (by omega);unfold loC;refine wpS_bind (w5 hu ?_);have M':Mi a.toList b.toList (o.push u).toList (i+1) j:=by rw[UW];exact M.pushA T.hA hu (h u hu)
 by_cases e:i+1+1=a.size
 ·refine j0 (by simpa using e) ?_;exact wpS_pure ⟨K,.inl ⟨_,_,rfl,T.lst M' e⟩⟩
 ·refine j4 (by simpa using e) ?_;by_cases f:(decide (m<7)&&decide (k<7))=true
  ·refine j0 f ?_;exact wpS_pure ⟨K,.inr ⟨_,_,_,_,_,_,rfl,M',by omega,hj,by omega⟩⟩
  ·refine j4 f ?_;exact wpS_pure ⟨_,_,_,_,_,_,rfl,K,M',by omega,hj,by omega⟩
theorem KY(T:Two a b la){st z:SortSt}(hk:kindOf st=oneType'){o:Array Keyed}{x i j g m n:Nat}(K:Ks st z)(M:Mi a.toList b.toList o.toList i j)(hi:i+1<a.size)(hj:j<b.size)(hx:x<=i+j)(h:∀ u,b.toList[j]?=some u->∀ y∈a.toList.drop i,nk u<=nk y):
 wpS (model prog w) A E s (loB a b o i j g m n) (Mv a b st x) z:=by
 have lb1:b.toList.length=b.size:=Sv;obtain⟨u,hu,iu⟩:=T.gB hj;unfold loB;refine wpS_bind (w5 hu ?_);have M':Mi a.toList b.toList (o.push u).toList i (j+1):=by rw[UW];exact M.pushB T.hB hu (h u hu)
 by_cases e:j+1=b.size
 ·refine j0 (by simpa using e) ?_;exact wpS_pure ⟨K,.inl ⟨_,_,rfl,T.fin M' (by omega)⟩⟩
 refine j4 (by simpa using e) ?_;obtain⟨v,hv,iv⟩:=T.gA (i:=i) (by omega);refine wpS_bind (w5 hv ?_);refine wpS_bind (Dv (K.k.trans hk) iv T.ib (fun p q x y _ h2 _ h3 h4=>T.hB.get h3 h4 h2) (by omega) (by omega) fun k Mk=>?_);have kl:=Mk.le
 have M2:=M'.moreB T.hB k (by omega) fun t x ht hx y hy=>by
  have:=(DC Mk hx (by omega)).1 ht;obtain⟨p,hp,e⟩:=l6 hy;exact Tx (U0 this) (T.hA.get hv e hp)
 have rest:∀ u',a.toList[i]?=some u'->∀ y∈b.toList.drop (j+1+k),nk u'<=nk y:=fun u' hu' y hy=>by
  rw[hv]at hu';rw[<-oj hu'];obtain⟨p,hp,e⟩:=l6 hy;have pl:=(gM e).1;have e':b.toList[j+1+(p - (j+1))]?=some y:=by rw[show j+1+(p - (j+1))=p by omega];exact e
  exact(DC Mk e' (by omega)).2 (by omega)
 dsimp only;by_cases k0:k>0
 ·refine j0 k0 ?_
  have M3:Mi a.toList b.toList (o.push u++b.extract (j+1) (j+1+k)).toList i (j+1+k):=by
   rw[Tp,AH,show j+1+k - (j+1)=k by omega];exact M2
  by_cases e2:j+1+k=b.size
  ·refine j0 (by simpa using e2) ?_;exact wpS_pure ⟨K,.inl ⟨_,_,rfl,T.fin M3 (by omega)⟩⟩
  ·refine j4 (by simpa using e2) ?_;exact KW T K M3 hi (by omega) (by omega) rest
 ·refine j4 k0 ?_;have:k=0:=by omega
  subst this;exact KW T K M' hi (by omega) (by omega) rest
theorem KZ(T:Two a b la){st z:SortSt}(hk:kindOf st=oneType'){o:Array Keyed}{x i j g m n:Nat}(K:Ks st z)(M:Mi a.toList b.toList o.toList i j)(hi:i+1<a.size)(hj:j<b.size)(hx:x<=i+j):
 wpS (model prog w) A E s (loA a b o i j g m n) (Mv a b st x) z:=by
 have la1:a.toList.length=a.size:=Sv;obtain⟨u,hu,iu⟩:=T.gB hj;unfold loA;refine wpS_bind (wpS_modify ?_);have K:=K.gal g;refine wpS_bind (w5 hu ?_);refine wpS_bind (Dv (K.k.trans hk) iu T.ia (fun p q x y _ h2 _ h3 h4=>T.hA.get h3 h4 h2) (by omega) (by omega) fun k Mk=>?_);have kl:=Mk.le;have lt:=T.hlt u (Sm hu)
 have kn:i+k<a.size:=by
  rcases VG (i+k) a.size with z | z
  ·exact z
  ·have e:a.toList[i+(a.size - 1 - i)]?=some la:=by rw[show i+(a.size - 1 - i)=a.size - 1 by omega];exact T.hla
   have:=(CW Mk e (by omega)).1 (by omega);omega
 have M2:=M.moreA T.hA k (by omega) fun t x ht hx y hy=>by
  have:=(CW Mk hx (by omega)).1 ht;obtain⟨p,hp,e⟩:=l6 hy;exact Tx this (T.hB.get hu e hp)
 have rest:∀ u',b.toList[j]?=some u'->∀ y∈a.toList.drop (i+k),nk u'<=nk y:=fun u' hu' y hy=>by
  rw[hu]at hu';rw[<-oj hu'];obtain⟨p,hp,e⟩:=l6 hy;have pl:=(gM e).1;have e':a.toList[i+(p - i)]?=some y:=by rw[show i+(p - i)=p by omega];exact e
  exact U0 ((CW Mk e' (by omega)).2 (by omega))
 dsimp only;by_cases k0:k>0
 ·refine j0 k0 ?_
  have M3:Mi a.toList b.toList (o++a.extract i (i+k)).toList (i+k) j:=by
   rw[Tp,AH,show i+k - i=k by omega];exact M2
  by_cases e2:i+k+1=a.size
  ·refine j0 (by simpa using e2) ?_;exact wpS_pure ⟨K,.inl ⟨_,_,rfl,T.lst M3 e2⟩⟩
  ·refine j4 (by simpa using e2) ?_;refine j4 (by simp;omega) ?_;exact KY T hk K M3 (by omega) hj (by omega) rest
 ·refine j4 k0 ?_;have:k=0:=by omega
  subst this;exact KY T hk K M hi hj hx rest
end
section
variable{prog:Program}{w:World}{A:Around}{E:Value->Shared->Prop}{s:Shared}
theorem RE{a b:Array Keyed}{la:Keyed}(T:Two a b la){st:SortSt}{Q:Array Keyed->SortSt->Prop}(hk:kindOf st=oneType')(hb0:1<=b.size)(h00:∀ x y,a.toList[0]?=some x->b.toList[0]?=some y->nk y<=nk x)(q:∀ r z,Ks st z->Res a.toList b.toList r.toList->Q r z):wpS (model prog w) A E s (RD a b) Q st:=by
 have la1:a.toList.length=a.size:=Sv;have lb1:b.toList.length=b.size:=Sv;have ha0:1<=a.size:=by have:=(gM T.hla).1;omega
 obtain⟨b0,hb,_⟩:=T.gB (i:=0) (by omega)
 have M0:Mi a.toList b.toList (#[b0]:Array Keyed).toList 0 1:=(Mi.nil _ _).pushB T.hB hb fun y hy=>by
  obtain⟨k,_,e⟩:=l6 hy;obtain⟨x,hx,_⟩:=T.gA (i:=0) (by omega);exact Tx (h00 x b0 hx hb) (T.hA.get hx e (by omega))
 refine wpS_bind (wpS_lift (wpAny_rule ⟨rfl,?_⟩));refine wpS_bind (w5 hb ?_);refine v9 (fun c1=>?_) fun c1=>?_
 ·exact wpS_pure (q _ _ (Ks.refl st) (T.fin M0 (by simp at c1;omega)))
 refine v9 (fun c2=>?_) fun c2=>?_
 ·exact wpS_pure (q _ _ (Ks.refl st) (T.lst M0 (by simpa using c2)))
 replace c1:¬ 1=b.size:=by simpa using c1
 replace c2:¬ 0+1=a.size:=by simpa using c2
 refine wpS_bind (wpS_get ?_)
 refine wpS_bind (wpS_mono (wpS_forRange (I:=fun x c z=>∃ out i j g,c=(none,out,i,j,g)/\Ks st z/\Mi a.toList b.toList out.toList i j/\i+1<a.size/\j<b.size/\x<=i+j)
  (Q:=fun c z=>∃ r d,c=(some r,d)/\Ks st z/\Res a.toList b.toList r.toList) ?out ?no ⟨#[b0],0,1,_,rfl,Ks.refl st,M0,by omega,by omega,by omega⟩) ?beh)
 case beh=>
  exact fun c z h=>ex2 c h fun r d h=>wpS_pure (q r z h.1 h.2)
 case no=>
  rintro c z ⟨out,i,j,g,rfl,K,M,h1,h2,h3⟩;omega
 case out=>
  refine fun x c z _ hx h=>ex4 c h fun out i j g h=>?_;dsimp only;have K:=h.1;have M:=h.2.1;have h1:=h.2.2.1;have h2:=h.2.2.2.1;have h3:=h.2.2.2.2;clear h
  refine wpS_bind (wpS_mono (wpS_forRange (I:=fun y c z=>∃ out i j m n,c=(none,out,i,j,m,n)/\Ks st z/\Mi a.toList b.toList out.toList i j/\i+1<a.size/\j<b.size/\x+y<=i+j)
   (Q:=fun c z=>Ks st z/\((∃ r d,c=(some r,d)/\Res a.toList b.toList r.toList)\/∃ out i j m n,c=(none,out,i,j,m,n)/\Mi a.toList b.toList out.toList i j/\i+1<a.size/\j<b.size/\x+1<=i+j)) ?one ?none ⟨out,i,j,0,0,rfl,K,M,h1,h2,by omega⟩) ?two)
  case none=>
   rintro c z ⟨out,i,j,m,n,rfl,K,M,h1,h2,h3⟩;omega
  case one=>
   clear h1 h2 h3 M K;refine fun y c z _ hy h=>ex5 c h fun out i j m n h=>?_;dsimp only;have K:=h.1;have M:=h.2.1;have h1:=h.2.2.1;have h2:=h.2.2.2.1;have h3:=h.2.2.2.2;clear h;obtain⟨u,hu,iu⟩:=T.gB h2;obtain⟨v,hv,iv⟩:=T.gA (i:=i) (by omega);refine wpS_bind (w5 hu ?_);refine wpS_bind (w5 hv ?_);refine wpS_bind (Hl iu iv (K.k.trans hk) ?_);refine v9 (fun w=>?_) fun w=>?_
   ·replace w:nk u<nk v:=by simpa using w
    refine wpS_bind (w5 hu ?_)
    have M':Mi a.toList b.toList (out.push u).toList i (j+1):=by
     rw[UW];refine M.pushB T.hB hu fun y hy=>?_;obtain⟨p,hp,e⟩:=l6 hy;exact Tx (U0 w) (T.hA.get hv e hp)
    refine v9 (fun e=>?_) fun e=>?_
    ·exact wpS_pure ⟨K,.inl ⟨_,_,rfl,T.fin M' (by simp at e;omega)⟩⟩
    replace e:¬ j+1=b.size:=by simpa using e
    refine v9 (fun _=>?_) fun _=>?_
    ·exact wpS_pure ⟨K,.inr ⟨_,_,_,_,_,rfl,M',h1,by omega,by omega⟩⟩
    ·exact wpS_pure ⟨_,_,_,_,_,rfl,K,M',h1,by omega,by omega⟩
   ·replace w:¬ nk u<nk v:=by simpa using w
    refine wpS_bind (w5 hv ?_)
    have M':Mi a.toList b.toList (out.push v).toList (i+1) j:=by
     rw[UW];refine M.pushA T.hA hv fun y hy=>?_;obtain⟨p,hp,e⟩:=l6 hy;exact Tx (Vq.mp w) (T.hB.get hu e hp)
    refine v9 (fun e=>?_) fun e=>?_
    ·exact wpS_pure ⟨K,.inl ⟨_,_,rfl,T.lst M' (by simpa using e)⟩⟩
    replace e:¬ i+1+1=a.size:=by simpa using e
    refine v9 (fun _=>?_) fun _=>?_
    ·exact wpS_pure ⟨K,.inr ⟨_,_,_,_,_,rfl,M',by omega,h2,by omega⟩⟩
    ·exact wpS_pure ⟨_,_,_,_,_,rfl,K,M',by omega,h2,by omega⟩
  case two=>
   clear h1 h2 h3 M K;refine fun c z h=>h.2.elim (fun R=>ex2 c R fun r d R=>wpS_pure ⟨r,_,rfl,h.1,R⟩) fun h'=>ex5 c h' fun out i j m n M=>?_
   ·have K:=h.1;have h1:=M.2.1;have h2:=M.2.2.1;have h3:=M.2.2.2;replace M:=M.1;dsimp only;refine wpS_bind (wpS_lift (wpAny_rule ⟨rfl,?_⟩))
    refine wpS_bind (wpS_mono (wpS_forRange (I:=fun y c z=>∃ o i j g m n,c=(none,o,i,j,g,m,n)/\Ks st z/\Mi a.toList b.toList o.toList i j/\i+1<a.size/\j<b.size/\x+1<=i+j)
     (Q:=Ends a b st (x+1)) ?aa ?bb ⟨_,_,_,_,_,_,rfl,K,M,h1,h2,h3⟩) ?cc)
    case aa=>
     clear h1 h2 h3 M K h;refine fun y c z _ hy h=>ex6 c h fun o i j g m n h=>?_;dsimp only;have K:=h.1;have M:=h.2.1;have h1:=h.2.2.1;have h2:=h.2.2.2.1;have h3:=h.2.2.2.2;refine wpS_mono (Q:=Mv a b st (x+1)) ?_ fun r z h=>?_
     ·refine v9 (fun _=>?_) fun _=>?_
      ·exact KZ T hk (g:=g - 1) (m:=m) (n:=n) K M h1 h2 h3
      ·exact KZ T hk (g:=g) (m:=m) (n:=n) K M h1 h2 h3
     ·cases r with
      | done c=>exact h
      | yield c=>exact h
    case bb=>
     rintro c z ⟨o,i,j,g,m,n,rfl,K,M,h1,h2,h3⟩;exact⟨K,.inr ⟨_,_,_,_,_,_,rfl,M,h1,h2,h3⟩⟩
    case cc=>
     refine fun c z h=>h.2.elim (fun R=>ex2 c R fun r d R=>wpS_pure ⟨r,_,rfl,h.1,R⟩) fun h'=>ex6 c h' fun o i j g m n M=>?_;dsimp only;exact wpS_bind (wpS_modify (wpS_pure ⟨o,i,j,_,rfl,h.1.gal _,M⟩))
end
open PySem PyProof.Rows
noncomputable def RF:Array Keyed->Array Keyed->StateT SortSt Sem (Array Keyed):=sortPriv% PySem.Builtin.mergeHi
structure Mh(A B O:List Keyed)(i j:Nat):Prop where
 pm:O.Perm (A.drop i++B.drop j)
 so:Up O
 la:∀ x∈O,∀ y∈A.take i,nk y<=nk x
 lb:∀ x∈O,∀ y∈B.take j,nk y<=nk x
section
variable{A B O:List Keyed}{i j:Nat}
theorem Up.cons{x:Keyed}{l:List Keyed}(a:Up l)(h:∀ y∈l,nk x<=nk y):Up (x::l):=Uo.mpr ⟨h,a⟩
theorem Mh.pushA(M:Mh A B O (i+1) j)(hA:Up A){x:Keyed}(hx:A[i]?=some x)(h:∀ y∈B.take j,nk y<=nk x):Mh A B (x::O) i j:=by
 have tx:=Aq hx;have mx:x∈A.take (i+1):=by rw[tx];simp
 refine⟨?_,M.so.cons fun y hy=>M.la y hy x mx,fun u hu y hy=>?_,fun u hu y hy=>?_⟩
 ·rw[Ap hx];exact M.pm.cons x
 ·rcases TC.mp hu with e | hu
  ·rw[e];obtain⟨k,hk,e⟩:=p0 hy;exact hA.get e hx (by omega)
  ·exact M.la u hu y (by rw[tx];exact US _ hy)
 ·rcases TC.mp hu with e | hu
  ·rw[e];exact h y hy
  ·exact M.lb u hu y hy
theorem Mh.pushB(M:Mh A B O i (j+1))(hB:Up B){x:Keyed}(hx:B[j]?=some x)(h:∀ y∈A.take i,nk y<=nk x):Mh A B (x::O) i j:=by
 have tx:=Aq hx;have mx:x∈B.take (j+1):=by rw[tx];simp
 refine⟨?_,M.so.cons fun y hy=>M.lb y hy x mx,fun u hu y hy=>?_,fun u hu y hy=>?_⟩
 ·rw[Ap hx];exact(M.pm.cons x).trans List.perm_middle.symm
 ·rcases TC.mp hu with e | hu
  ·rw[e];exact h y hy
  ·exact M.la u hu y hy
 ·rcases TC.mp hu with e | hu
  ·rw[e];obtain⟨k,hk,e⟩:=p0 hy;exact hB.get e hx (by omega)
  ·exact M.lb u hu y (by rw[tx];exact US _ hy)
theorem Mh.moreA(hA:Up A){p:Nat}:∀ k {O:List Keyed},Mh A B O (p+k) j->p+k<=A.length->(∀ t x,p<=t->t<p+k->A[t]?=some x->∀ y∈B.take j,nk y<=nk x)->Mh A B ((A.drop p).take k++O) p j
 | 0,_,M,_,_=>M
 | k+1,_,M,hk,h=>by
   have hx:=Sj (show p+k<A.length by omega);have M1:=Mh.pushA (i:=p+k) M hA hx (h _ _ (by omega) (by omega) hx);have:=Mh.moreA hA k M1 (by omega) fun t x h1 h2=>h t x h1 (by omega);have e:(A.drop p).take (k+1)=(A.drop p).take k++[A[p+k]]:=by rw[U2,UP,hx];rfl
   rw[e,TF];exact this
theorem Mh.moreB(hB:Up B){p:Nat}:∀ k {O:List Keyed},Mh A B O i (p+k)->p+k<=B.length->(∀ t x,p<=t->t<p+k->B[t]?=some x->∀ y∈A.take i,nk y<=nk x)->Mh A B ((B.drop p).take k++O) i p
 | 0,_,M,_,_=>M
 | k+1,_,M,hk,h=>by
   have hx:=Sj (show p+k<B.length by omega);have M1:=Mh.pushB (j:=p+k) M hB hx (h _ _ (by omega) (by omega) hx);have:=Mh.moreB hB k M1 (by omega) fun t x h1 h2=>h t x h1 (by omega);have e:(B.drop p).take (k+1)=(B.drop p).take k++[B[p+k]]:=by rw[U2,UP,hx];rfl
   rw[e,TF];exact this
theorem Ba{l:List Keyed}(h:Up l)(i:Nat):Up (l.take i):=List.Pairwise.sublist (Vu i l) h
theorem OP(A B O:List Keyed)(i j:Nat)(p:O.Perm (A.drop i++B.drop j)):(A.take i++B.take j++O).Perm (A++B):=by
 refine(List.Perm.append_left _ p).trans ?_;rw[TF];refine(List.Perm.append_left _ ?_).trans (l₂:=A.take i++(A.drop i++(B.take j++B.drop j))) ?_
 ·rw[<-TF,<-TF];exact List.Perm.append_right _ Ud
 ·rw[U9,<-TF,U9]
theorem Mh.done(M:Mh A B O i j)(hA:Up A)(hB:Up B)(h:i=0\/j=0):Res A B (A.take i++B.take j++O):=by
 refine⟨OP A B O i j M.pm,?_⟩;refine Up.app (Up.app (Ba hA i) (Ba hB j) fun x hx y hy=>?_) M.so fun x hx y hy=>?_
 ·rcases h with rfl | rfl
  ·cases hx
  ·cases hy
 ·rcases TQ.mp hx with hx | hx
  ·exact M.la y hy x hx
  ·exact M.lb y hy x hx
theorem Mh.first(M:Mh A B O i j)(hA:Up A)(hB:Up B)(h:∀ x∈B.take j,∀ y∈A,nk x<=nk y):Res A B (B.take j++A.take i++O):=by
 refine⟨(List.Perm.append_right O Ud).trans (OP A B O i j M.pm),?_⟩;refine Up.app (Up.app (Ba hB j) (Ba hA i) fun x hx y hy=>h x hx y (Uj hy)) M.so fun x hx y hy=>?_;rcases TQ.mp hx with hx | hx
 ·exact M.lb y hy x hx
 ·exact M.la y hy x hx
end
noncomputable abbrev LH:=Option (Array Keyed)×Nat×Nat×Array Keyed×Nat×Nat×Nat
noncomputable abbrev dh(a b o:Array Keyed)(i j:Nat):Array Keyed:=a.extract 0 i++b.extract 0 j++o.reverse
noncomputable abbrev fh(a b o:Array Keyed)(i j:Nat):Array Keyed:=b.extract 0 j++a.extract 0 i++o.reverse
noncomputable def hiC(a b o:Array Keyed)(i j g m k:Nat):StateT SortSt Sem (ForInStep LH):=do
 let x <- elem' a (i - 1)
 if (i - 1 == 0)=true then pure (.done (some (dh a b (o.push x) (i - 1) j),i - 1,j,o.push x,g,m,k))
 else if (decide (m<7)&&decide (k<7))=true then pure (.done (none,i - 1,j,o.push x,g,m,k))
 else pure (.yield (none,i - 1,j,o.push x,g,m,k))
noncomputable def hiB(a b o:Array Keyed)(i j g m n:Nat):StateT SortSt Sem (ForInStep LH):=do
 let x <- elem' b (j - 1)
 if (j - 1 == 1)=true then pure (.done (some (fh a b (o.push x) i (j - 1)),i,j - 1,o.push x,g,m,n)) else do
  let y <- elem' a (i - 1)
  match <- F3 true y b 0 (j - 1) (j - 1 - 1) with
  | some p=>(if j - 1 - p>0 then (if (p == 1)=true then pure (.done (some (fh a b (o.push x++(b.extract p (j - 1)).reverse) i p),i,p,o.push x++(b.extract p (j - 1)).reverse,g,m,j - 1 - p))
     else if (p == 0)=true then pure (.done (some (dh a b (o.push x++(b.extract p (j - 1)).reverse) i p),i,p,o.push x++(b.extract p (j - 1)).reverse,g,m,j - 1 - p))
     else hiC a b (o.push x++(b.extract p (j - 1)).reverse) i p g m (j - 1 - p)) else hiC a b (o.push x) i (j - 1) g m (j - 1 - p))
  | _=>pure (.done (some (dh a b (o.push x) i (j - 1)),i,j - 1,o.push x,g,m,n))
noncomputable def hiA(a b o:Array Keyed)(i j g m n:Nat):StateT SortSt Sem (ForInStep LH):=do
 modify fun z=>SortSt.mk' (kindOf z) (arrOf z) (pendingOf z) g (failedOf z)
 let y <- elem' b (j - 1)
 match <- F3 false y a 0 i (i - 1) with
 | some p=>(if i - p>0 then (if (p == 0)=true then pure (.done (some (dh a b (o++(a.extract p i).reverse) p j),p,j,o++(a.extract p i).reverse,g,i - p,n))
    else hiB a b (o++(a.extract p i).reverse) p j g (i - p) n) else hiB a b o i j g (i - p) n)
 | _=>pure (.done (some (dh a b o i j),i,j,o,g,m,n))
noncomputable def OQ(a b:Array Keyed)(st:SortSt)(x:Nat)(c:LH)(z:SortSt):Prop:=Ks st z/\((∃ r d,c=(some r,d)/\Res a.toList b.toList r.toList)\/∃ i j o g m n,c=(none,i,j,o,g,m,n)/\Mh a.toList b.toList o.toList.reverse i j/\1<=i/\i<=a.size/\2<=j/\j<=b.size/\x+(i+j)<=a.size+b.size)
noncomputable def Mw(a b:Array Keyed)(st:SortSt)(x:Nat)(r:ForInStep LH)(z:SortSt):Prop:=match r with
 | .done c=>OQ a b st x c z
 | .yield c=>∃ i j o g m n,c=(none,i,j,o,g,m,n)/\Ks st z/\Mh a.toList b.toList o.toList.reverse i j/\1<=i/\i<=a.size/\2<=j/\j<=b.size/\x+(i+j)<=a.size+b.size
structure Tw(a b:Array Keyed)(fb:Keyed):Prop where
 ia:∀ x∈a.toList,Ik x
 ib:∀ x∈b.toList,Ik x
 hA:Up a.toList
 hB:Up b.toList
 hfb:b.toList[0]?=some fb
 hlt:∀ y∈a.toList,nk fb<nk y
section
variable{a b:Array Keyed}{fb:Keyed}(T:Tw a b fb)
include T
theorem Tw.gA{i:Nat}(h:i<a.size):∃ x,a.toList[i]?=some x/\Ik x:=by
 have e:=Sj (show i<a.toList.length by rw[Sv];exact h);exact⟨_,e,T.ia _ (Sm e)⟩
theorem Tw.gB{i:Nat}(h:i<b.size):∃ x,b.toList[i]?=some x/\Ik x:=by
 have e:=Sj (show i<b.toList.length by rw[Sv];exact h);exact⟨_,e,T.ib _ (Sm e)⟩
theorem Tw.fin{o:Array Keyed}{i j:Nat}(M:Mh a.toList b.toList o.toList.reverse i j)(h:i=0\/j=0):Res a.toList b.toList (dh a b o i j).toList:=by
 unfold dh;rw[Tp,Tp,AH,AH,VA,V5,V5,Va,Va];exact M.done T.hA T.hB h
theorem Tw.fst{o:Array Keyed}{i:Nat}(M:Mh a.toList b.toList o.toList.reverse i 1):Res a.toList b.toList (fh a b o i 1).toList:=by
 unfold fh;rw[Tp,Tp,AH,AH,VA,V5,V5,Va,Va];refine M.first T.hA T.hB fun x hx y hy=>?_
 obtain⟨k,hk,e⟩:=p0 hx;rw[show k=0 by omega,T.hfb]at e;rw[<-oj e];exact U0 (T.hlt y hy)
end
theorem C6(o:Array Keyed)(x:Keyed):(o.push x).toList.reverse=x::o.toList.reverse:=by rw[UW,VE];rfl
theorem Hm(o a:Array Keyed)(p i:Nat):(o++(a.extract p i).reverse).toList.reverse=(a.toList.drop p).take (i - p)++o.toList.reverse:=by rw[Tp,VE,VA,List.reverse_reverse,AH]
section
variable{prog:Program}{w:World}{A:Around}{E:Value->Shared->Prop}{s:Shared}{a b:Array Keyed}{fb:Keyed}
theorem Ka(T:Tw a b fb){st z:SortSt}{o:Array Keyed}{x i j g m k:Nat}(K:Ks st z)(M:Mh a.toList b.toList o.toList.reverse i j)(h1:1<=i)(h2:i<=a.size)(h3:2<=j)(h4:j<=b.size)(hx:x+(i+j)<=a.size+b.size)(h:∀ u,a.toList[i - 1]?=some u->∀ y∈b.toList.take j,nk y<=nk u):
 wpS (model prog w) A E s (hiC a b o i j g m k) (Mw a b st x) z:=by
 obtain⟨u,hu,iu⟩:=T.gA (i:=i - 1) (by omega);unfold hiC;refine wpS_bind (w5 hu ?_)
 have M':Mh a.toList b.toList (o.push u).toList.reverse (i - 1) j:=by
  rw[C6];exact Mh.pushA (by rw[show i - 1+1=i by omega];exact M) T.hA hu (h u hu)
 by_cases e:i - 1=0
 ·refine j0 (by simpa using e) ?_;exact wpS_pure ⟨K,.inl ⟨_,_,rfl,T.fin M' (.inl e)⟩⟩
 ·refine j4 (by simpa using e) ?_;by_cases f:(decide (m<7)&&decide (k<7))=true
  ·refine j0 f ?_;exact wpS_pure ⟨K,.inr ⟨_,_,_,_,_,_,rfl,M',by omega,by omega,h3,h4,by omega⟩⟩
  ·refine j4 f ?_;exact wpS_pure ⟨_,_,_,_,_,_,rfl,K,M',by omega,by omega,h3,h4,by omega⟩
theorem Kb(T:Tw a b fb){st z:SortSt}(hk:kindOf st=oneType'){o:Array Keyed}{x i j g m n:Nat}(K:Ks st z)(M:Mh a.toList b.toList o.toList.reverse i j)(h1:1<=i)(h2:i<=a.size)(h3:2<=j)(h4:j<=b.size)(hx:x+(i+j)<=a.size+b.size)(h:∀ u,b.toList[j - 1]?=some u->∀ y∈a.toList.take i,nk y<=nk u):
 wpS (model prog w) A E s (hiB a b o i j g m n) (Mw a b st x) z:=by
 have lb1:b.toList.length=b.size:=Sv;obtain⟨u,hu,iu⟩:=T.gB (i:=j - 1) (by omega);unfold hiB;refine wpS_bind (w5 hu ?_)
 have M':Mh a.toList b.toList (o.push u).toList.reverse i (j - 1):=by
  rw[C6];exact Mh.pushB (by rw[show j - 1+1=j by omega];exact M) T.hB hu (h u hu)
 by_cases e:j - 1=1
 ·refine j0 (by simpa using e) ?_;rw[e]at M' ⊢;exact wpS_pure ⟨K,.inl ⟨_,_,rfl,T.fst M'⟩⟩
 refine j4 (by simpa using e) ?_;obtain⟨v,hv,iv⟩:=T.gA (i:=i - 1) (by omega);refine wpS_bind (w5 hv ?_);refine wpS_bind (Dv (K.k.trans hk) iv T.ib (fun p q x y _ h2 _ h3 h4=>T.hB.get h3 h4 h2) (by omega) (by omega) fun p Mk=>?_);have kl:=Mk.le
 have up:∀ t x,p<=t->t<j - 1->b.toList[t]?=some x->∀ y∈a.toList.take i,nk y<=nk x:=fun t x a1 a2 hx y hy=>by
  obtain⟨c,hc,e⟩:=p0 hy;have:=(DC Mk (t:=t) (by rw[UG];exact hx) a2).2 a1;exact Tx (T.hA.get e hv (by omega)) this
 have rest:∀ u',a.toList[i - 1]?=some u'->∀ y∈b.toList.take p,nk y<=nk u':=fun u' hu' y hy=>by
  rw[hv]at hu';rw[<-oj hu'];obtain⟨c,hc,e⟩:=p0 hy;exact U0 ((DC Mk (t:=c) (by rw[UG];exact e) (by omega)).1 hc)
 dsimp only;by_cases k0:j - 1 - p>0
 ·refine j0 k0 ?_
  have M3:Mh a.toList b.toList (o.push u++(b.extract p (j - 1)).reverse).toList.reverse i p:=by
   rw[Hm];exact Mh.moreB T.hB (j - 1 - p) (by rw[show p+(j - 1 - p)=j - 1 by omega];exact M') (by omega) fun t x a1 a2=>up t x a1 (by omega)
  by_cases e1:p=1
  ·refine j0 (by simpa using e1) ?_;subst e1;exact wpS_pure ⟨K,.inl ⟨_,_,rfl,T.fst M3⟩⟩
  refine j4 (by simpa using e1) ?_;by_cases e2:p=0
  ·refine j0 (by simpa using e2) ?_;exact wpS_pure ⟨K,.inl ⟨_,_,rfl,T.fin M3 (.inr e2)⟩⟩
  refine j4 (by simpa using e2) ?_;exact Ka T K M3 h1 h2 (by omega) (by omega) (by omega) rest
 ·refine j4 k0 ?_;have:p=j - 1:=by omega
  subst this;exact Ka T K M' h1 h2 (by omega) (by omega) (by omega) rest
theorem Kc(T:Tw a b fb){st z:SortSt}(hk:kindOf st=oneType'){o:Array Keyed}{x i j g m n:Nat}(K:Ks st z)(M:Mh a.toList b.toList o.toList.reverse i j)(h1:1<=i)(h2:i<=a.size)(h3:2<=j)(h4:j<=b.size)(hx:x+(i+j)<=a.size+b.size):
 wpS (model prog w) A E s (hiA a b o i j g m n) (Mw a b st x) z:=by
 have la1:a.toList.length=a.size:=Sv;obtain⟨u,hu,iu⟩:=T.gB (i:=j - 1) (by omega);unfold hiA;refine wpS_bind (wpS_modify ?_);have K:=K.gal g;refine wpS_bind (w5 hu ?_);refine wpS_bind (Dv (K.k.trans hk) iu T.ia (fun p q x y _ h2 _ h3 h4=>T.hA.get h3 h4 h2) (by omega) (by omega) fun p Mk=>?_);have kl:=Mk.le
 have up:∀ t x,p<=t->t<i->a.toList[t]?=some x->∀ y∈b.toList.take j,nk y<=nk x:=fun t x a1 a2 hx y hy=>by
  obtain⟨c,hc,e⟩:=p0 hy;have:=(CW Mk (t:=t) (by rw[UG];exact hx) a2).2 a1;exact Tx (T.hB.get e hu (by omega)) (U0 this)
 have rest:∀ u',b.toList[j - 1]?=some u'->∀ y∈a.toList.take p,nk y<=nk u':=fun u' hu' y hy=>by
  rw[hu]at hu';rw[<-oj hu'];obtain⟨c,hc,e⟩:=p0 hy;exact(CW Mk (t:=c) (by rw[UG];exact e) (by omega)).1 hc
 dsimp only;by_cases k0:i - p>0
 ·refine j0 k0 ?_
  have M3:Mh a.toList b.toList (o++(a.extract p i).reverse).toList.reverse p j:=by
   rw[Hm];exact Mh.moreA T.hA (i - p) (by rw[show p+(i - p)=i by omega];exact M) (by omega) fun t x a1 a2=>up t x a1 (by omega)
  by_cases e2:p=0
  ·refine j0 (by simpa using e2) ?_;exact wpS_pure ⟨K,.inl ⟨_,_,rfl,T.fin M3 (.inl e2)⟩⟩
  refine j4 (by simpa using e2) ?_;exact Kb T hk K M3 (by omega) (by omega) h3 h4 (by omega) rest
 ·refine j4 k0 ?_;have:p=i:=by omega
  subst this;exact Kb T hk K M h1 h2 h3 h4 hx rest
end
open PySem PyProof.Rows
theorem Mh.nil(A B:List Keyed):Mh A B [] A.length B.length:=⟨by rw[Ua,Ua];exact .refl _,List.Pairwise.nil,(fun _ h=>nomatch h),fun _ h=>nomatch h⟩
section
variable{prog:Program}{w:World}{A:Around}{E:Value->Shared->Prop}{s:Shared}
theorem RG{a b:Array Keyed}{fb:Keyed}(T:Tw a b fb){st:SortSt}{Q:Array Keyed->SortSt->Prop}(hk:kindOf st=oneType')(ha0:1<=a.size)(hll:∀ x,a.toList[a.size - 1]?=some x->∀ y∈b.toList,nk y<=nk x)(q:∀ r z,Ks st z->Res a.toList b.toList r.toList->Q r z):wpS (model prog w) A E s (RF a b) Q st:=by
 have la1:a.toList.length=a.size:=Sv;have lb1:b.toList.length=b.size:=Sv;have hb0:1<=b.size:=by have:=(gM T.hfb).1;omega
 obtain⟨a0,ha,_⟩:=T.gA (i:=a.size - 1) (by omega)
 have M0:Mh a.toList b.toList (#[a0]:Array Keyed).toList.reverse (a.size - 1) b.size:=by
  refine Mh.pushA (O:=[]) ?_ T.hA ha fun y hy=>hll a0 ha y (Uj hy);have:=Mh.nil a.toList b.toList;rw[la1,lb1]at this;rw[show a.size - 1+1=a.size by omega];exact this
 refine wpS_bind (wpS_lift (wpAny_rule ⟨rfl,?_⟩));refine wpS_bind (w5 ha ?_);refine v9 (fun c1=>?_) fun c1=>?_
 ·exact wpS_pure (q _ _ (Ks.refl st) (T.fin M0 (.inl (by simpa using c1))))
 replace c1:¬ a.size - 1=0:=by simpa using c1
 refine v9 (fun c2=>?_) fun c2=>?_
 ·replace c2:b.size=1:=by simpa using c2
  refine wpS_pure (q _ _ (Ks.refl st) ?_);rw[c2]at M0 ⊢;exact T.fst M0
 replace c2:¬ b.size=1:=by simpa using c2
 refine wpS_bind (wpS_get ?_)
 refine wpS_bind (wpS_mono (wpS_forRange (I:=fun x c z=>∃ i j out g,c=(none,i,j,out,g)/\Ks st z/\Mh a.toList b.toList out.toList.reverse i j/\1<=i/\i<=a.size/\2<=j/\j<=b.size/\x+(i+j)<=a.size+b.size)
  (Q:=fun c z=>∃ r d,c=(some r,d)/\Ks st z/\Res a.toList b.toList r.toList) ?out ?no ⟨a.size - 1,b.size,#[a0],_,rfl,Ks.refl st,M0,by omega,by omega,by omega,by omega,by omega⟩) ?beh)
 case beh=>
  exact fun c z h=>ex2 c h fun r d h=>wpS_pure (q r z h.1 h.2)
 case no=>
  rintro c z ⟨i,j,out,g,rfl,K,M,h1,h2,h3,h4,h5⟩;omega
 case out=>
  refine fun x c z _ hx h=>ex4 c h fun i j out g h=>?_;dsimp only;have K:=h.1;have M:=h.2.1;have h1:=h.2.2.1;have h2:=h.2.2.2.1;have h3:=h.2.2.2.2.1;have h4:=h.2.2.2.2.2.1;have h5:=h.2.2.2.2.2.2;clear h
  refine wpS_bind (wpS_mono (wpS_forRange (I:=fun y c z=>∃ i j out m n,c=(none,i,j,out,m,n)/\Ks st z/\Mh a.toList b.toList out.toList.reverse i j/\1<=i/\i<=a.size/\2<=j/\j<=b.size/\x+y+(i+j)<=a.size+b.size)
   (Q:=fun c z=>Ks st z/\((∃ r d,c=(some r,d)/\Res a.toList b.toList r.toList)\/∃ i j out m n,c=(none,i,j,out,m,n)/\Mh a.toList b.toList out.toList.reverse i j/\1<=i/\i<=a.size/\2<=j/\j<=b.size/\x+1+(i+j)<=a.size+b.size)) ?one ?none ⟨i,j,out,0,0,rfl,K,M,h1,h2,h3,h4,by omega⟩) ?two)
  case none=>
   rintro c z ⟨i,j,out,m,n,rfl,K,M,h1,h2,h3,h4,h5⟩;omega
  case one=>
   clear h1 h2 h3 h4 h5 M K;refine fun y c z _ hy h=>ex5 c h fun i j out m n h=>?_;dsimp only;have K:=h.1;have M:=h.2.1;have h1:=h.2.2.1;have h2:=h.2.2.2.1;have h3:=h.2.2.2.2.1;have h4:=h.2.2.2.2.2.1;have h5:=h.2.2.2.2.2.2;clear h;obtain⟨u,hu,iu⟩:=T.gB (i:=j - 1) (by omega);obtain⟨v,hv,iv⟩:=T.gA (i:=i - 1) (by omega);refine wpS_bind (w5 hu ?_);refine wpS_bind (w5 hv ?_);refine wpS_bind (Hl iu iv (K.k.trans hk) ?_);refine v9 (fun w=>?_) fun w=>?_
   ·replace w:nk u<nk v:=by simpa using w
    refine wpS_bind (w5 hv ?_)
    have M':Mh a.toList b.toList (out.push v).toList.reverse (i - 1) j:=by
     rw[C6];refine Mh.pushA (by rw[show i - 1+1=i by omega];exact M) T.hA hv fun y hy=>?_;obtain⟨p,hp,e⟩:=p0 hy;exact Tx (T.hB.get e hu (by omega)) (U0 w)
    refine v9 (fun e=>?_) fun e=>?_
    ·exact wpS_pure ⟨K,.inl ⟨_,_,rfl,T.fin M' (.inl (by simpa using e))⟩⟩
    replace e:¬ i - 1=0:=by simpa using e
    refine v9 (fun _=>?_) fun _=>?_
    ·exact wpS_pure ⟨K,.inr ⟨_,_,_,_,_,rfl,M',by omega,by omega,h3,h4,by omega⟩⟩
    ·exact wpS_pure ⟨_,_,_,_,_,rfl,K,M',by omega,by omega,h3,h4,by omega⟩
   ·replace w:¬ nk u<nk v:=by simpa using w
    refine wpS_bind (w5 hu ?_)
    have M':Mh a.toList b.toList (out.push u).toList.reverse i (j - 1):=by
     rw[C6];refine Mh.pushB (by rw[show j - 1+1=j by omega];exact M) T.hB hu fun y hy=>?_;obtain⟨p,hp,e⟩:=p0 hy;exact Tx (T.hA.get e hv (by omega)) (Vq.mp w)
    refine v9 (fun e=>?_) fun e=>?_
    ·replace e:j - 1=1:=by simpa using e
     rw[e]at M' ⊢;exact wpS_pure ⟨K,.inl ⟨_,_,rfl,T.fst M'⟩⟩
    replace e:¬ j - 1=1:=by simpa using e
    refine v9 (fun _=>?_) fun _=>?_
    ·exact wpS_pure ⟨K,.inr ⟨_,_,_,_,_,rfl,M',h1,h2,by omega,by omega,by omega⟩⟩
    ·exact wpS_pure ⟨_,_,_,_,_,rfl,K,M',h1,h2,by omega,by omega,by omega⟩
  case two=>
   clear h1 h2 h3 h4 h5 M K;refine fun c z h=>h.2.elim (fun R=>ex2 c R fun r d R=>wpS_pure ⟨r,_,rfl,h.1,R⟩) fun h'=>ex5 c h' fun i j out m n M=>?_
   ·have K:=h.1;have h1:=M.2.1;have h2:=M.2.2.1;have h3:=M.2.2.2.1;have h4:=M.2.2.2.2.1;have h5:=M.2.2.2.2.2;replace M:=M.1;dsimp only;refine wpS_bind (wpS_lift (wpAny_rule ⟨rfl,?_⟩))
    refine wpS_bind (wpS_mono (wpS_forRange (I:=fun y c z=>∃ i j o g m n,c=(none,i,j,o,g,m,n)/\Ks st z/\Mh a.toList b.toList o.toList.reverse i j/\1<=i/\i<=a.size/\2<=j/\j<=b.size/\x+1+(i+j)<=a.size+b.size)
     (Q:=OQ a b st (x+1)) ?aa ?bb ⟨_,_,_,_,_,_,rfl,K,M,h1,h2,h3,h4,h5⟩) ?cc)
    case aa=>
     clear h1 h2 h3 h4 h5 M K h;refine fun y c z _ hy h=>ex6 c h fun i j o g m n h=>?_;dsimp only;have K:=h.1;have M:=h.2.1;have h1:=h.2.2.1;have h2:=h.2.2.2.1;have h3:=h.2.2.2.2.1;have h4:=h.2.2.2.2.2.1;have h5:=h.2.2.2.2.2.2;clear h;refine wpS_mono (Q:=Mw a b st (x+1)) ?_ fun r z h=>?_
     ·refine v9 (fun _=>?_) fun _=>?_
      ·exact Kc T hk (g:=g - 1) (m:=m) (n:=n) K M h1 h2 h3 h4 h5
      ·exact Kc T hk (g:=g) (m:=m) (n:=n) K M h1 h2 h3 h4 h5
     ·cases r with
      | done c=>exact h
      | yield c=>exact h
    case bb=>
     exact fun c z h=>ex6 c h fun i j o g m n h=>⟨h.1,.inr ⟨_,_,_,_,_,_,rfl,h.2⟩⟩
    case cc=>
     refine fun c z h=>h.2.elim (fun R=>ex2 c R fun r d R=>wpS_pure ⟨r,_,rfl,h.1,R⟩) fun h'=>ex6 c h' fun i j o g m n M=>?_;dsimp only;exact wpS_bind (wpS_modify (wpS_pure ⟨i,j,o,_,rfl,h.1.gal _,M⟩))
end
open PySem PyProof.Rows
theorem Pc(i:Nat):mergeAt' i=(do
 let s <- get
 let (some (sa,na,power),some (sb,nb,_)):=((pendingOf s)[i]?,(pendingOf s)[i+1]?) | unsupported "internal:list.sort.pending"
 set (setPending s (((pendingOf s).setIfInBounds i (sa,na+nb,power)).eraseIdxIfInBounds (i+1)))
 let some k <- F3 false (<- elem' (arrOf s) sb) (arrOf s) sa na 0 | return false
 let (sa,na):=(sa+k,na - k)
 if na == 0 then return true
 let some nb <- F3 true (<- elem' (arrOf s) (sa+na - 1)) (arrOf s) sb nb (nb - 1) | return false
 if nb == 0 then return true
 let x:=(arrOf s).extract sa sb
 let y:=(arrOf s).extract sb (sb+nb)
 let merged <- if na<=nb then RD x y else RF x y
 modify fun s=>setArr s (merged.toList.zipIdx.foldl (fun a (p,j)=>a.setIfInBounds (sa+j) p) (arrOf s))
 return (failedOf (<- get)).isNone):=rfl
theorem Hn(sa:Nat):∀(m M:List Keyed) (o:Nat) (P S:List Keyed) (a:Array Keyed),a.toList=P++(M++S)->m.length=M.length->P.length=sa+o->
 ((m.zipIdx o).foldl (fun a (x:Keyed×Nat)=>a.setIfInBounds (sa+x.2) x.1) a).toList=P++(m++S)
 | [],[],_,_,_,_,e,_,_=>e
 | p::m,x::M,o,P,S,a,e,hl,hp=>by
   rw[List.zipIdx_cons,WG]
   have:=Hn sa m M (o+1) (P++[p]) S (a.setIfInBounds (sa+o) p) (by
    rw[Array.toList_setIfInBounds,e,<-hp,Vg _ _ (Sr _),We,TF];rfl) (by simpa using hl) (by rw[Sl,hp];rfl)
   rw[this,TF];rfl
 | [],_::_,_,_,_,_,_,h,_=>by simp at h
 | _::_,[],_,_,_,_,_,h,_=>by simp at h
structure Ru(L1 L2:List Keyed)(st:SortSt):Prop where
 k:kindOf st=oneType'
 f:failedOf st=none
 a:(arrOf st).toList=L1++L2
 u1:Up L1
 u2:Up L2
 ik:∀ x∈L1++L2,Ik x
structure Fi(L:List Keyed)(st:SortSt):Prop where
 f:failedOf st=none
 a:(arrOf st).toList.Perm L
 u:Up (arrOf st).toList
 p:(pendingOf st).size<=1
section
variable{prog:Program}{w:World}{A:Around}{E:Value->Shared->Prop}{s:Shared}
theorem Pd{L1 L2:List Keyed}{st:SortSt}{pw p2:Nat}{Q:Bool->SortSt->Prop}(R:Ru L1 L2 st)(h1:1<=L1.length)(h2:1<=L2.length)(hp:pendingOf st=#[(0,L1.length,pw),(L1.length,L2.length,p2)])
 (q:∀ z,Fi (L1++L2) z->Q true z):wpS (model prog w) A E s (mergeAt' 0) Q st:=by
 rw[Pc];refine wpS_bind (wpS_get ?_);have e1:(pendingOf st)[0]?=some (0,L1.length,pw):=by rw[hp];rfl
 have e2:(pendingOf st)[0+1]?=some (L1.length,L2.length,p2):=by rw[hp];rfl
 simp only[e1,e2];refine wpS_bind (wpS_modify (f:=fun _=>setPending st (((pendingOf st).setIfInBounds 0 (0,L1.length+L2.length,pw)).eraseIdxIfInBounds (0+1))) ?_);generalize hz:setPending st (((pendingOf st).setIfInBounds 0 (0,L1.length+L2.length,pw)).eraseIdxIfInBounds (0+1))=z0;have zk:kindOf z0=oneType':=by rw[<-hz];exact R.k
 have za:arrOf z0=arrOf st:=by rw[<-hz]
 have zf:failedOf z0=none:=by rw[<-hz];exact R.f
 have zp:(pendingOf z0).size<=1:=by
  rw[<-hz];show(((pendingOf st).setIfInBounds 0 (0,L1.length+L2.length,pw)).eraseIdxIfInBounds (0+1)).size<=1;rw[hp];simp[Array.eraseIdxIfInBounds]
 have ll:(arrOf st).toList.length=L1.length+L2.length:=by rw[R.a,Sl]
 have ls:(arrOf st).size=L1.length+L2.length:=by rw[<-Sv];exact ll
 have gA:∀{i x},L1[i]?=some x->(arrOf st).toList[i]?=some x:=fun{i x} h=>by
  rw[R.a,T9 (gM h).1];exact h
 have gB:∀{i x},L2[i]?=some x->(arrOf st).toList[L1.length+i]?=some x:=fun{i x} h=>by
  rw[R.a,TZ (by omega),show L1.length+i - L1.length=i by omega];exact h
 have gA':∀{i x},i<L1.length->(arrOf st).toList[i]?=some x->L1[i]?=some x:=fun{i x} h e=>by
  rw[R.a,T9 h]at e;exact e
 have gB':∀{i x},L1.length<=i->(arrOf st).toList[i]?=some x->L2[i - L1.length]?=some x:=fun{i x} h e=>by
  rw[R.a,TZ h]at e;exact e
 have ik:∀ x∈(arrOf st).toList,Ik x:=fun x hx=>R.ik x (by rw[<-R.a];exact hx);have hb0:=Sj (show 0<L2.length by omega);have hal:=Sj (show L1.length - 1<L1.length by omega);generalize L2[0]=b0 at hb0;generalize L1[L1.length - 1]=al at hal;have ib0:=ik b0 (Sm (gB hb0));have ial:=ik al (Sm (gA hal));have whole:(∀ x∈L1,∀ y∈L2,nk x<=nk y)->Fi (L1++L2) z0:=fun h=>⟨zf,by rw[za,R.a],by rw[za,R.a];exact R.u1.app R.u2 h,zp⟩
 refine wpS_bind (w5 (by have:=gB hb0;rwa [Wd]at this) ?_);refine wpS_bind (Dv zk ib0 ik (fun i j x y _ a1 a2 a3 a4=>R.u1.get (gA' (by omega) a3) (gA' (by omega) a4) a1) (by omega) (by omega) fun k Mk=>?_);have kl:=Mk.le;have fy:∀ t x,L1[t]?=some x->(t<k->nk x<=nk b0)/\(k<=t->nk b0<nk x):=fun t x hx=>CW Mk (t:=t) (by rw[UG];exact gA hx) (gM hx).1;dsimp only;by_cases c1:L1.length - k=0
 ·refine j0 (by simpa using c1) ?_;refine wpS_pure (q _ (whole fun x hx y hy=>?_));obtain⟨i,hi⟩:=UJ hx;obtain⟨j,hj⟩:=UJ hy;have:=(gM hi).1;exact Tx ((fy i x hi).1 (by omega)) (R.u2.get hb0 hj (by omega))
 refine j4 (by simpa using c1) ?_;refine wpS_bind (w5 (by rw[show 0+k+(L1.length - k) - 1=L1.length - 1 by omega];exact gA hal) ?_);refine wpS_bind (Dv zk ial ik (fun i j x y a0 a1 a2 a3 a4=>R.u2.get (gB' (by omega) a3) (gB' (by omega) a4) (by omega)) (by omega) (by omega) fun m Mm=>?_);have ml:=Mm.le;have sy:∀ t x,L2[t]?=some x->(t<m->nk x<nk al)/\(m<=t->nk al<=nk x):=fun t x hx=>DC Mm (t:=t) (gB hx) (gM hx).1;dsimp only;by_cases c2:m=0
 ·refine j0 (by simpa using c2) ?_;refine wpS_pure (q _ (whole fun x hx y hy=>?_));obtain⟨i,hi⟩:=UJ hx;obtain⟨j,hj⟩:=UJ hy;have:=(gM hi).1;exact Tx (R.u1.get hi hal (by omega)) ((sy j y hj).2 (by omega))
 refine j4 (by simpa using c2) ?_
 have ex:((arrOf st).extract (0+k) L1.length).toList=L1.drop k:=by
  rw[AH,R.a,UG,List.drop_append_of_le_length kl,List.take_append_of_le_length (by rw[Ti];exact Sr _),UL (by rw[Ti];exact Sr _)]
 have ey:((arrOf st).extract L1.length (L1.length+m)).toList=L2.take m:=by
  rw[AH,R.a,List.drop_left,show L1.length+m - L1.length=m by omega]
 have sx:((arrOf st).extract (0+k) L1.length).size=L1.length - k:=by rw[<-Sv,ex,Ti]
 have sY:((arrOf st).extract L1.length (L1.length+m)).size=m:=by rw[<-Sv,ey,Tb];omega
 generalize (arrOf st).extract (0+k) L1.length=x at ex sx ⊢;generalize (arrOf st).extract L1.length (L1.length+m)=y at ey sY ⊢;have ia:∀ u∈x.toList,Ik u:=fun u hu=>R.ik u (US _ (Uz (by rw[<-ex];exact hu)));have ib:∀ u∈y.toList,Ik u:=fun u hu=>R.ik u (TR _ (Uj (by rw[<-ey];exact hu)));have hA:Up x.toList:=by rw[ex];exact Cw R.u1 k
 have hB:Up y.toList:=by rw[ey];exact Ba R.u2 m
 have xa:x.toList[x.size - 1]?=some al:=by rw[ex,UP,sx,show k+(L1.length - k - 1)=L1.length - 1 by omega];exact hal
 have yb:y.toList[0]?=some b0:=by rw[ey,VJ,if_pos (by omega)];exact hb0
 have lt1:∀ u∈y.toList,nk u<nk al:=fun u hu=>by
  rw[ey]at hu;obtain⟨i,hi,e⟩:=p0 hu;exact(sy i u e).1 hi
 have lt2:∀ u∈x.toList,nk b0<nk u:=fun u hu=>by
  rw[ex]at hu;obtain⟨i,hi,e⟩:=l6 hu;exact(fy i u e).2 hi
 have fin:∀(r:Array Keyed) (z:SortSt),Ks z0 z->Res x.toList y.toList r.toList->Q true (setArr z (r.toList.zipIdx.foldl (fun a (p:Keyed×Nat)=>a.setIfInBounds (0+k+p.2) p.1) (arrOf z))):=fun r z K Rs=>by
  have pr:=Rs.1;have ur:=Rs.2;rw[ex,ey]at pr;have lr:r.toList.length=(L1.drop k++L2.take m).length:=pr.length_eq
  have ez:(arrOf z).toList=L1.take k++((L1.drop k++L2.take m)++L2.drop m):=by
   rw[K.a,za,R.a,TF,U9,<-TF,U9]
  have bk:=Hn (0+k) r.toList (L1.drop k++L2.take m) 0 (L1.take k) (L2.drop m) (arrOf z) ez lr (by rw[Tb];omega);have mr:∀ u∈r.toList,u∈L1.drop k\/u∈L2.take m:=fun u hu=>TQ.mp (pr.mem_iff.mp hu);refine q _ ⟨K.f.trans zf,?_,?_,by show(pendingOf z).size<=1;rw[K.p];exact zp⟩
  ·show(r.toList.zipIdx.foldl (fun a (p:Keyed×Nat)=>a.setIfInBounds (0+k+p.2) p.1) (arrOf z)).toList.Perm _;rw[bk];refine((pr.append_right (L2.drop m)).append_left (L1.take k)).trans ?_;rw[<-ez,K.a,za,R.a]
  ·show Up (r.toList.zipIdx.foldl (fun a (p:Keyed×Nat)=>a.setIfInBounds (0+k+p.2) p.1) (arrOf z)).toList;rw[bk];refine(Ba R.u1 k).app (ur.app (Cw R.u2 m) ?_) ?_
   ·intro u hu v hv;obtain⟨j,hj,ej⟩:=l6 hv;rcases mr u hu with h | h
    ·obtain⟨i,hi,ei⟩:=l6 h;have:=(gM ei).1;exact Tx (R.u1.get ei hal (by omega)) ((sy j v ej).2 hj)
    ·obtain⟨i,hi,ei⟩:=p0 h;exact R.u2.get ei ej (by omega)
   ·intro u hu v hv;obtain⟨i,hi,ei⟩:=p0 hu;have a1:=(fy i u ei).1 hi;rcases TQ.mp hv with hv | hv
    ·rcases mr v hv with h | h
     ·obtain⟨j,hj,ej⟩:=l6 h;exact R.u1.get ei ej (by omega)
     ·obtain⟨j,hj,ej⟩:=p0 h;exact Tx a1 (R.u2.get hb0 ej (by omega))
    ·obtain⟨j,hj,ej⟩:=l6 hv;exact Tx a1 (R.u2.get hb0 ej (by omega))
 have tail:∀(r:Array Keyed) (z:SortSt),Ks z0 z->Res x.toList y.toList r.toList->wpS (model prog w) A E s (do
  modify fun s=>setArr s (r.toList.zipIdx.foldl (fun a (p,j)=>a.setIfInBounds (0+k+j) p) (arrOf s))
  return (failedOf (<- get)).isNone) Q z:=fun r z K Rs=>by
  refine wpS_bind (wpS_modify (wpS_bind (wpS_get (wpS_pure ?_))));have:=fin r z K Rs;have e:(failedOf z).isNone=true:=by rw[K.f,zf];rfl
  show Q (failedOf z).isNone _;rw[e];exact this
 by_cases c3:L1.length - k<=m
 ·refine j0 c3 ?_;refine wpS_bind (RE (la:=al) ⟨ia,ib,hA,hB,xa,lt1⟩ zk (by omega) (fun u v a1 a2=>?_) fun r z K Rs=>tail r z K Rs);rw[yb]at a2;rw[<-oj a2];exact U0 (lt2 u (Sm a1))
 ·refine j4 c3 ?_;refine wpS_bind (RG (fb:=b0) ⟨ia,ib,hA,hB,yb,lt2⟩ zk (by omega) (fun u a1 v hv=>?_) fun r z K Rs=>tail r z K Rs);rw[xa]at a1;rw[<-oj a1];exact U0 (lt1 v hv)
end
open PySem PyProof.Rows
theorem Ho{xs:Array Keyed}{i:Nat}{x:Keyed}(h:xs.toList[i]?=some x):K xs i=nk x:=by
 rw[Tv]at h;unfold K;rw[h];rfl
theorem OR{xs:Array Keyed}{lo k:Nat}(h:Sg xs lo k):Up ((xs.toList.drop lo).take k):=by
 refine U4.mpr fun i j hi hj hij=>?_;have a1:=Sj hi;have a2:=Sj hj;have jk:j<k:=by rw[Tb]at hj;omega
 rw[VJ,if_pos (by omega),UP]at a1 a2;rw[<-Ho a1,<-Ho a2];exact h i j (by omega) jk
theorem RH{xs:Array Keyed}(h:Up xs.toList):SortedTo xs xs.size:=fun i j hij hj=>by
 have a1:=Sj (show i<xs.toList.length by rw[Sv];omega);have a2:=Sj (show j<xs.toList.length by rw[Sv];omega);rw[Ho a1,Ho a2];exact h.get a1 a2 hij
theorem Sg.pre{xs ys:Array Keyed}{n:Nat}(h:Sg xs 0 n)(e:∀ i,i<n->ys[i]?=xs[i]?):Sg ys 0 n:=fun i j hij hj=>by
 have k:∀ i,i<n->K ys (0+i)=K xs (0+i):=fun i hi=>by unfold K;rw[UG,e i hi]
 rw[k i (by omega),k j hj];exact h i j hij hj
structure Lv(a₀:Array Keyed)(st:SortSt):Prop where
 perm:(arrOf st).Perm a₀
 kind:kindOf st=oneType'
 failed:failedOf st=none
 runs:((pendingOf st).size<=1/\SortedTo (arrOf st) a₀.size)\/∃ n1 pw,1<=n1/\n1<a₀.size/\pendingOf st=#[(0,n1,pw),(n1,a₀.size - n1,0)]/\Sg (arrOf st) 0 n1/\Sg (arrOf st) n1 (a₀.size - n1)
section
variable{prog:Program}{w:World}{A:Around}{E:Value->Shared->Prop}{s:Shared}{a₀:Array Keyed}
theorem Lv.one{st:SortSt}(h:Sb a₀ a₀ 0 #[] st)(g:Sg (arrOf st) 0 a₀.size):Lv a₀ (setPending st ((pendingOf st).push (0,a₀.size,0))):=
 ⟨h.perm,h.kind,h.failed,.inl ⟨by show((pendingOf st).push _).size<=1;rw[h.pend];exact Sr 1,fun i j hij hj=>by have:=g i j hij hj;rwa [UG,UG]at this⟩⟩
theorem Kd{st:SortSt}{Q:Bool->SortSt->Prop}(h0:IntKeys a₀){n1 pw:Nat}(h1:1<=n1)(h2:n1<a₀.size)(L:Lv a₀ st)(hp:pendingOf st=#[(0,n1,pw),(n1,a₀.size - n1,0)])(g1:Sg (arrOf st) 0 n1)(g2:Sg (arrOf st) n1 (a₀.size - n1))
 (q:∀ z,(arrOf z).Perm a₀->failedOf z=none->SortedTo (arrOf z) a₀.size->(pendingOf z).size<=1->Q true z):wpS (model prog w) A E s (mergeAt' 0) Q st:=by
 have sz:(arrOf st).toList.length=a₀.size:=by rw[Sv];exact L.perm.size_eq
 have l1:((arrOf st).toList.take n1).length=n1:=by rw[Tb];omega
 have l2:((arrOf st).toList.drop n1).length=a₀.size - n1:=by rw[Ti];omega
 have e:=U9 n1 (arrOf st).toList;refine Pd (L1:=(arrOf st).toList.take n1) (L2:=(arrOf st).toList.drop n1) (pw:=pw) (p2:=0) ⟨L.kind,L.failed,e.symm,?_,?_,?_⟩ (by omega) (by omega) (by rw[l1,l2];exact hp) fun z F=>?_
 ·have:=OR g1;rwa [V5]at this
 ·have:=OR g2;rwa [UL (by omega)]at this
 ·intro x hx;rw[e]at hx;exact h0 x (L.perm.toList.mem_iff.mp hx)
 ·have pm:(arrOf z).toList.Perm a₀.toList:=by have:=F.a;rw[e]at this;exact this.trans L.perm.toList
  have pz:(arrOf z).Perm a₀:=Array.perm_iff_toList_perm.mpr pm;have:=RH F.u;rw[pz.size_eq]at this;exact q z pz F.f this F.p
theorem Mx{st:SortSt}{Q:Unit->SortSt->Prop}(h0:IntKeys a₀)(hB:SBase a₀ st)(h64:64<=a₀.size)(h128:a₀.size<128)
 (h:∀ st',(arrOf st').Perm a₀->failedOf st'=none->SortedTo (arrOf st') a₀.size->Q () st'):wpS (model prog w) A E s sortRuns' Q st:=by
 rw[sortRuns'_eq];refine wpS_bind (wpS_get ?_);dsimp only
 obtain⟨mr,hmr,m1,m2⟩:∃ mr,minRun' a₀.size a₀.size 0=mr/\a₀.size<=2 * mr/\1<=mr/\mr<a₀.size:=by
  refine⟨a₀.size / 2+max 0 (a₀.size % 2),?_,by omega,by omega,by omega⟩;obtain⟨f,hf⟩:∃ f,a₀.size=f+1+1:=⟨a₀.size - 2,by omega⟩
  have:minRun' (f+1+1) a₀.size 0=a₀.size / 2+max 0 (a₀.size % 2):=by rw[minRun'_succ,if_neg (by omega),minRun'_succ,if_pos (by omega)]
  rwa [<-hf]at this
 simp only[hB.size,hmr];have S0:Sb a₀ a₀ 0 #[] st:=⟨hB.perm,hB.kind,hB.failed,hB.pend,fun i hi=>by omega⟩
 refine wpS_bind (wpS_mono (wpS_forRange
  (I:=fun x c z=>(x=0/\c=(none,0)/\Sb a₀ a₀ 0 #[] z)\/(x=1/\∃ n1,c=(none,n1)/\mr<=n1/\n1<a₀.size/\Sb a₀ (arrOf z) n1 #[(0,n1,0)] z/\Sg (arrOf z) 0 n1)\/(1<=x/\c=(none,a₀.size)/\Lv a₀ z))
  (Q:=fun c z=>c=(none,a₀.size)/\Lv a₀ z) ?step ?fin (.inl ⟨rfl,rfl,S0⟩)) ?post)
 case fin=>
  rintro c z (⟨hx,_,_⟩ | ⟨hx,_⟩ | ⟨_,hc,hD⟩)
  ·omega
  ·omega
  ·exact⟨hc,hD⟩
 case step=>
  rintro x c z _ hx (⟨rfl,rfl,hB'⟩ | ⟨rfl,n1,rfl,hn1,hn2,hB',g1⟩ | ⟨hx1,rfl,hD⟩)
  ·dsimp only;refine j4 (by omega) ?_
   have go:∀ n z,Sb a₀ a₀ 0 #[] z->mr<=n->n<=a₀.size->Sg (arrOf z) 0 n->wpS (model prog w) A E s (do
    modify fun s=>setPending s ((pendingOf s).push (0,n,0))
    pure (ForInStep.yield ((none:Option Unit),0+n))) (fun r st'=>match r with
    | .done b=>b=(none,a₀.size)/\Lv a₀ st'
    | .yield b=>(0+1=0/\b=(none,0)/\Sb a₀ a₀ 0 #[] st')\/(0+1=1/\∃ n1,b=(none,n1)/\mr<=n1/\n1<a₀.size/\Sb a₀ (arrOf st') n1 #[(0,n1,0)] st'/\Sg (arrOf st') 0 n1)\/(1<=0+1/\b=(none,a₀.size)/\Lv a₀ st')) z:=fun n z S a1 a2 g=>by
    refine wpS_bind (wpS_modify (wpS_pure ?_));by_cases e:n=a₀.size
    ·subst e;exact .inr (.inr ⟨by omega,by rw[UG],Lv.one S g⟩)
    ·exact .inr (.inl ⟨rfl,n,by rw[UG],a1,by omega,⟨S.perm,S.kind,S.failed,by show(pendingOf z).push _=_;rw[S.pend];rfl,fun _ _=>rfl⟩,g⟩)
   refine wpS_bind (KS h0 (by omega) (by omega) hB' fun m z2 S2 a1 a2 g2=>?_);dsimp only;by_cases hlt:m<mr
   ·refine j0 hlt ?_;refine wpS_bind (wpS_lift (wpAny_rule ⟨rfl,?_⟩));refine wpS_bind (KQ h0 (by omega) (by omega) S2 g2 fun z3 S3 g3=>?_);rw[if_neg (by decide)];refine wpS_bind (wpS_get ?_);have hb:(pendingOf z3).back?=none:=by rw[S3.pend];rfl
    rw[hb];dsimp only;exact go _ z3 S3 (by omega) (by omega) g3
   ·refine j4 hlt ?_;refine wpS_bind (wpS_get ?_);have hb:(pendingOf z2).back?=none:=by rw[S2.pend];rfl
    rw[hb];dsimp only;exact go _ z2 S2 (by omega) (by omega) g2
  ·dsimp only;refine j4 (by omega) ?_;refine wpS_bind (KS h0 (by omega) (by omega) hB' fun m z2 S2 a1 a2 g2=>?_);dsimp only;by_cases hlt:m<mr
   ·refine j0 hlt ?_;refine wpS_bind (wpS_lift (wpAny_rule ⟨rfl,?_⟩));refine wpS_bind (KQ h0 (by omega) (by omega) S2 g2 fun z3 S3 g3=>?_);rw[if_neg (by decide)];refine wpS_bind (wpS_get ?_);have hb:(pendingOf z3).back?=some (0,n1,0):=by rw[S3.pend];rfl
    rw[hb];dsimp only;have e:min (a₀.size - n1) mr=a₀.size - n1:=by omega
    refine wpS_bind (wpS_mono (wpS_forRange (I:=fun _ c z''=>z''=z3/\c=(none,())) (Q:=fun c z''=>z''=z3/\c=(none,())) ?_ (fun _ _ hh=>hh) ⟨rfl,rfl⟩) ?_)
    ·rintro y c z'' _ _ ⟨rfl,rfl⟩;refine wpS_bind (wpS_get ?_);rw[if_neg (by rw[S3.pend];exact UA 1)];exact wpS_pure ⟨rfl,rfl⟩
    ·rintro c z'' ⟨rfl,rfl⟩;refine wpS_bind (wpS_modify (wpS_bind (wpS_modify (wpS_pure ?_))));refine .inr (.inr ⟨by omega,by rw[e,show n1+(a₀.size - n1)=a₀.size by omega],S3.perm,S3.kind,S3.failed,.inr ⟨n1,power' a₀.size (2 * 0+n1) (2 * 0+n1+n1+min (a₀.size - n1) mr) a₀.size,by omega,hn2,?_,g1.pre S3.pre,by rw[<-e];exact g3⟩⟩);show((pendingOf _).modify ((pendingOf _).size - 1) _).push (n1,min (a₀.size - n1) mr,0)=_;rw[S3.pend];generalize power' a₀.size (2 * 0+n1) (2 * 0+n1+n1+min (a₀.size - n1) mr) a₀.size=pw;rw[e];rfl
   ·refine j4 hlt ?_;refine wpS_bind (wpS_get ?_);have hb:(pendingOf z2).back?=some (0,n1,0):=by rw[S2.pend];rfl
    rw[hb];dsimp only;have e:m=a₀.size - n1:=by omega
    refine wpS_bind (wpS_mono (wpS_forRange (I:=fun _ c z''=>z''=z2/\c=(none,())) (Q:=fun c z''=>z''=z2/\c=(none,())) ?_ (fun _ _ hh=>hh) ⟨rfl,rfl⟩) ?_)
    ·rintro y c z'' _ _ ⟨rfl,rfl⟩;refine wpS_bind (wpS_get ?_);rw[if_neg (by rw[S2.pend];exact UA 1)];exact wpS_pure ⟨rfl,rfl⟩
    ·rintro c z'' ⟨rfl,rfl⟩;refine wpS_bind (wpS_modify (wpS_bind (wpS_modify (wpS_pure ?_))));refine .inr (.inr ⟨by omega,by rw[e,show n1+(a₀.size - n1)=a₀.size by omega],S2.perm,S2.kind,S2.failed,.inr ⟨n1,power' a₀.size (2 * 0+n1) (2 * 0+n1+n1+m) a₀.size,by omega,hn2,?_,g1.pre S2.pre,by rw[<-e];exact g2⟩⟩);show((pendingOf _).modify ((pendingOf _).size - 1) _).push (n1,m,0)=_;rw[S2.pend];generalize power' a₀.size (2 * 0+n1) (2 * 0+n1+n1+m) a₀.size=pw;rw[e];rfl
  ·dsimp only;refine j0 (Sr _) ?_;exact wpS_pure ⟨rfl,hD⟩
 case post=>
  rintro c z ⟨rfl,hD⟩;dsimp only
  refine wpS_bind (wpS_mono (wpS_forRange (I:=fun x c z=>c=(none,())/\((x=0/\Lv a₀ z)\/((arrOf z).Perm a₀/\failedOf z=none/\SortedTo (arrOf z) a₀.size/\(pendingOf z).size<=1)))
   (Q:=fun c z=>c=(none,())/\(arrOf z).Perm a₀/\failedOf z=none/\SortedTo (arrOf z) a₀.size) ?one ?two ⟨rfl,.inl ⟨rfl,hD⟩⟩) ?beh)
  case two=>
   rintro c z ⟨rfl,⟨e,_⟩ | ⟨b1,b2,b3,b4⟩⟩
   ·omega
   ·exact⟨rfl,b1,b2,b3⟩
  case beh=>
   rintro c z ⟨rfl,b1,b2,b3⟩;exact wpS_pure (h _ b1 b2 b3)
  case one=>
   have stop:∀ z,(arrOf z).Perm a₀->failedOf z=none->SortedTo (arrOf z) a₀.size->(pendingOf z).size<=1->True:=fun _ _ _ _ _=>trivial;rintro x c z _ _ ⟨rfl,⟨rfl,L⟩ | ⟨b1,b2,b3,b4⟩⟩
   ·refine wpS_bind (wpS_get ?_);rcases L.runs with⟨r1,r2⟩ | ⟨n1,pw,r1,r2,r3,r4,r5⟩
    ·refine j0 r1 ?_;exact wpS_pure ⟨rfl,L.perm,L.failed,r2⟩
    ·rw[if_neg (by rw[r3];exact(by decide:¬ (2:Nat)<=1))];have ei:(pendingOf z).size - 2=0:=by rw[r3];rfl
     rw[ei];refine wpS_bind (Kd h0 r1 r2 L r3 r4 r5 fun z' c1 c2 c3 c4=>?_);exact wpS_pure ⟨rfl,.inr ⟨c1,c2,c3,c4⟩⟩
   ·refine wpS_bind (wpS_get ?_);refine j0 b4 ?_;exact wpS_pure ⟨rfl,b1,b2,b3⟩
end
open PySem PyProof.Rows
section
variable{prog:Program}{w:World}{A:Around}{E:Value->Shared->Prop}{s:Shared}
theorem J3{a:Addr}{vs:List Value}{ns:List Int}{n:Nat}{P:Fin->Shared->Prop}(ho:s.heap.get? a=some (seqObj "list" vs.toArray n))(hI:IntsAre vs ns)(h64:64<=vs.length)(h128:vs.length<128)
 (h:∀(out:Array Value) (ns':List Int),IntsAre out.toList ns'->ns'.Perm ns->ns'.Pairwise (·<=·)->P (.done (.ret .none)) {s with heap:=sortedHeap s.heap a vs out}):
 wpAny (model prog w) A (Builtin.«list.sort» ⟨[.ref a],[]⟩) P E s:=by
 rw[list_sort_plain];refine wpAny_bind (listItems_at ho rfl (wpAny_bind (listUpdate_at ho rfl ?_)));obtain⟨e1,ho1⟩:∃ e1,(s.heap.update a (Obj.mapSeq fun _=>#[])).get? a=some (seqObj "list" #[] e1):=⟨_,get?_update_seq ho (fun _=>#[])⟩
 refine wpAny_bind (seqEpoch_at ho1 rfl (wpAny_bind (wpAny_newTuple (wpAny_bind (wpAny_newList (wpAny_holding ?_))))))
 have ho6:(((s.heap.update a (Obj.mapSeq fun _=>#[])).push (seqObj "tuple" vs.toArray 0)).push (seqObj "list" #[] 0)).get? a=some (seqObj "list" #[] e1):=
  So _ (So _ ho1)
 show wpAny (model prog w) A _ P E {s with heap:=((s.heap.update a (Obj.mapSeq fun _=>#[])).push (seqObj "tuple" vs.toArray 0)).push (seqObj "list" #[] 0)};dsimp only;have c:¬ vs.toArray.size<2:=by simp;omega
 rw[if_neg c,if_neg c]
 match vs,hI,h64 with
 | v::u::vs,hI,h64=>
   rw[keyKind_ints hI];refine wpAny_bind (wpAny_pure ?_)
   refine wpAny_bind (wpAny_mono (Mx (a₀:=pairsOf (v::u::vs)) (st:=SortSt.mk' oneType' (pairsOf (v::u::vs)) #[] 7 none)
    (Q:=fun _ z=>(arrOf z).Perm (pairsOf (v::u::vs))/\failedOf z=none/\SortedTo (arrOf z) (pairsOf (v::u::vs)).size)
    hI.intKeys ⟨Array.Perm.refl _,rfl,rfl,rfl⟩ (by rw[pairsOf_size];exact h64) (by rw[pairsOf_size];exact h128) fun z a1 a2 a3=>⟨a1,a2,a3⟩) ?_ fun _ _ e=>e)
   rintro⟨⟨⟩,z⟩ s' ⟨rfl,hp,hf,hs⟩;obtain⟨ns',b1,b2,b3⟩:=sorted_out hI hp hs;dsimp only;refine wpAny_bind (seqEpoch_at ho6 rfl (wpAny_bind (listUpdate_at ho6 rfl ?_ (hsz2:=by refine Td (Wc ((Array.size_map ..).trans (hp.size_eq.trans (pairsOf_size _)))) ?_;rw[sizeLine_eq];omega))));rw[hf];simp only[bne_self_eq_false,U1,if_false];exact wpAny_pure (h _ ns' b1 b2 b3)
theorem sort_all{a:Addr}{vs:List Value}{ns:List Int}{n:Nat}{P:Fin->Shared->Prop}(ho:s.heap.get? a=some (seqObj "list" vs.toArray n))(hI:IntsAre vs ns)(h128:vs.length<128)
 (h:∀(out:Array Value) (ns':List Int),IntsAre out.toList ns'->ns'.Perm ns->ns'.Pairwise (·<=·)->P (.done (.ret .none)) {s with heap:=sortedHeap s.heap a vs out}):
 wpAny (model prog w) A (Builtin.«list.sort» ⟨[.ref a],[]⟩) P E s:=by
 rcases VG vs.length 64 with c | c
 ·exact list_sort_tree ho hI c h
 ·exact J3 ho hI c h128 h
theorem sorted_all{l:Addr}{vs:List Value}{ns:List Int}{Q:Value->Shared->Prop}(hl:s.heap.IsList l vs.toArray)(hI:IntsAre vs ns)(h128:vs.length<128)
 (h:∀(out:Array Value) (ns':List Int),IntsAre out.toList ns'->ns'.Perm ns->ns'.Pairwise (·<=·)->Q (.ref (s.heap.objs.size+1)) {s with heap:=sortedAll s.heap vs out}):
 wpAny (model prog w) A (call (.builtin "sorted") [.ref l]) Q E s:=by
 refine Calls.call_function_entry kind_sorted plain_sorted entry_sorted (args_sorted1 _) ?_;unfold Builtin.«sorted»;refine wpAny_bind (m:=checkCount "sorted" 1 1 _) (wpAny_pure (wpAny_bind (collect_list hl (wpAny_bind (wpAny_newList ?_)))));have hz:((s.heap.push (seqObj "list" #[] 0)).update s.heap.objs.size (Obj.mapSeq (·++vs.toArray))).objs.size=s.heap.objs.size+1:=by rw[VU,size_push']
 have hg:(((s.heap.push (seqObj "list" #[] 0)).update s.heap.objs.size (Obj.mapSeq (·++vs.toArray))).push (seqObj "list" vs.toArray 0)).get? (s.heap.objs.size+1)=some (seqObj "list" vs.toArray 0):=by
  rw[<-hz];exact Sy _ rfl
 show wpAny _ _ _ _ _ {s with heap:=((s.heap.push (seqObj "list" #[] 0)).update s.heap.objs.size (Obj.mapSeq (·++vs.toArray))).push (seqObj "list" vs.toArray 0)};rw[hz];exact wpAny_bind (wpAny_holding (wpAny_call_entry slot_list_sort ⟨_,hg,rfl⟩ entry_list_sort (sort_all hg hI h128 fun out ns' a1 a2 a3=>⟨_,rfl,wpAny_pure ⟨_,rfl,h out ns' a1 a2 a3⟩⟩) (args_list_sort _)))
end
end Srt
namespace L2
open PySem PySem.Spec PyProof.Rows
section
variable{X:Cx}
theorem EL:CallR X (.builtin "sorted") (fun xs H Q=>∃ p ns,xs=[.ref p]/\SqL X.K H p (ns.map V.int)/\ns.length<128/\∀ l,H l=none->Q (.ref l) (upd H l (.lst ((srt ns).map V.int)))):=by
 intro pins s σ H xs us Q I r h;obtain⟨p,ns,rfl,hq,hb,q⟩:=h;obtain⟨u,rfl,rx⟩:=Br r;cases rx;obtain⟨its,r',pl,hz⟩:=I.list hq;have hlen:=r'.length;rw[Sk]at hlen;refine Srt.sorted_all pl.isList (B5 r') (by omega) fun out ns' a1 a2 a3=>?_;obtain⟨e,he⟩:=sortedAll_at s.heap its out;have en:=EI a2 a3;subst en;refine⟨.ref (s.heap.objs.size+1),_,I.laid (t':=s.toks) (fun b o h=>sortedAll_old h) (Ux _) (show ObjOk X.prog X.w _ _ _ (.lst ((srt ns).map V.int)) from ⟨?_,out.toList,e,CV a1,by simpa using he⟩),rfl,q _ (I.hok.fresh (Ux _))⟩;rw[Sk,a2.length_eq];exact Td (Um hb) (by decide)
end
end L2
namespace Rf
open PySem L2
inductive TyN where
 | int | bool | str | list | tuple | none
 deriving DecidableEq
noncomputable def TyN.nm:TyN->String
 | .int=>"int" | .bool=>"bool" | .str=>"str" | .list=>"list" | .tuple=>"tuple" | .none=>"NoneType"
inductive SV where
 | non | bl (b:Bool) | int (i:Int) | str (x:Str) | tup (xs:List SV) | loc (k:Nat) | ro (xs:List SV) | ty (t:TyN)
inductive SO where
 | lst (xs:List SV)
 /-- a set of ints -/
 | iset (ms:List Int)
 /-- a dict with int keys;one that is held fast (walked) -/
 | dct (kvs:List (Int×SV)) | dcf (o:Obj) (ks:List (Key×V)) (kvs:List (Int×SV))
noncomputable abbrev Sto:=List SO
noncomputable abbrev EnvS:=List (Option SV)
noncomputable def FzL(K:Sh)(H:Hp)(a:Addr)(vs:List V):Prop:=(∃ o,H a=some (.frz o (.lst vs)))\/
 ∃(o:Obj) (its:Array Value) (n:Nat),K.lookup a=some o/\o.cls = .type "list"/\o.dict=none/\o.data = .seq its n/\its.size<=sizeLine/\Vals vs its.toList
theorem FzL.sq{K:Sh}{H:Hp}{a:Addr}{vs:List V}(h:FzL K H a vs):SqL K H a vs:=h.imp (fun⟨o,e⟩ => .inr ⟨o,e⟩) id
mutual
noncomputable def Rl(K:Sh)(as:List Addr)(H:Hp):V->SV->Prop
 | v,.non=>v = .non
 | v,.bl b=>v = .bl b
 | v,.int i=>v = .int i
 | v,.str x=>v = .str x
 | v,.tup xs=>∃ p vs,v = .ref p/\H p=some (.tup vs)/\RlAll K as H vs xs
 | v,.loc k=>∃ a,as[k]?=some a/\v = .ref a
 | v,.ro xs=>∃ a vs,v = .ref a/\FzL K H a vs/\RlAll K as H vs xs
 | v,.ty t=>v = .ty t.nm
noncomputable def RlAll(K:Sh)(as:List Addr)(H:Hp):List V->List SV->Prop
 | vs,[]=>vs=[]
 | vs,x::xs=>∃ v r,vs=v::r/\Rl K as H v x/\RlAll K as H r xs
end
noncomputable def imm:HO->Bool
 | .tup _=>true
 | .frz _ (.lst _)=>true
 | _=>false
noncomputable def KeepU(H H':Hp):Prop:=∀ b o,H b=some o->imm o=true->H' b=some o
theorem KeepU.refl(H:Hp):KeepU H H:=fun _ _ h _=>h
theorem KeepU.trans{H H' H'':Hp}(a:KeepU H H')(b:KeepU H' H''):KeepU H H'':=fun x o h i=>b x o (a x o h i) i
theorem Ar{H:Hp}{p:Addr}{o:HO}(hp:H p=none):KeepU H (upd H p o):=fun b u h _=>by
 rw[upd_ne (f6 h hp)];exact h
theorem Bb{H:Hp}{a:Addr}{u o:HO}(h:H a=some u)(i:imm u=false):KeepU H (upd H a o):=fun b v hb iv=>by
 rw[upd_ne (QZ hb h (by intro z;rw[z,i]at iv;cases iv))];exact hb
theorem FzL.mono{K:Sh}{H H':Hp}{a:Addr}{vs:List V}(k:KeepU H H')(h:FzL K H a vs):FzL K H' a vs:=h.imp (fun⟨o,e⟩=>⟨o,k _ _ e rfl⟩) id
theorem My{α:Type}{as as':List α}(h:as <+: as'){k:Nat}{a:α}(e:as[k]?=some a):as'[k]?=some a:=by
 obtain⟨t,rfl⟩:=h;rw[T9 ((gM e).1)];exact e
mutual
theorem Rl.mono{K:Sh}{as as':List Addr}{H H':Hp}(ha:as <+: as')(hH:KeepU H H'):∀(x:SV) (v:V),Rl K as H v x->Rl K as' H' v x
 | .non,v,h=>by unfold Rl at h ⊢;exact h
 | .bl _,v,h=>by unfold Rl at h ⊢;exact h
 | .int _,v,h=>by unfold Rl at h ⊢;exact h
 | .str _,v,h=>by unfold Rl at h ⊢;exact h
 | .tup xs,v,h=>by
   unfold Rl at h ⊢;obtain⟨p,vs,e,hp,h⟩:=h;exact⟨p,vs,e,hH p _ hp rfl,RlAll.mono ha hH xs vs h⟩
 | .ro xs,v,h=>by
   unfold Rl at h ⊢;obtain⟨p,vs,e,hp,h⟩:=h;exact⟨p,vs,e,hp.mono hH,RlAll.mono ha hH xs vs h⟩
 | .ty _,v,h=>by unfold Rl at h ⊢;exact h
 | .loc k,v,h=>by
   unfold Rl at h ⊢;obtain⟨a,e,z⟩:=h;exact⟨a,My ha e,z⟩
theorem RlAll.mono{K:Sh}{as as':List Addr}{H H':Hp}(ha:as <+: as')(hH:KeepU H H'):∀(xs:List SV) (vs:List V),RlAll K as H vs xs->RlAll K as' H' vs xs
 | [],vs,h=>by unfold RlAll at h ⊢;exact h
 | x::xs,vs,h=>by
   unfold RlAll at h ⊢;obtain⟨v,r,e,h1,h2⟩:=h;exact⟨v,r,e,Rl.mono ha hH x v h1,RlAll.mono ha hH xs r h2⟩
end
section
variable{K:Sh}{as:List Addr}{H:Hp}
theorem rl_non{v:V}:Rl K as H v .non↔v = .non:=by unfold Rl;exact Iff.rfl
theorem rl_bl{v:V}{b:Bool}:Rl K as H v (.bl b)↔v = .bl b:=by unfold Rl;exact Iff.rfl
theorem rl_int{v:V}{i:Int}:Rl K as H v (.int i)↔v = .int i:=by unfold Rl;exact Iff.rfl
theorem rl_str{v:V}{x:Str}:Rl K as H v (.str x)↔v = .str x:=by unfold Rl;exact Iff.rfl
theorem rl_tup{v:V}{xs:List SV}:Rl K as H v (.tup xs)↔∃ p vs,v = .ref p/\H p=some (.tup vs)/\RlAll K as H vs xs:=by rw[Rl]
theorem rl_loc{v:V}{k:Nat}:Rl K as H v (.loc k)↔∃ a,as[k]?=some a/\v = .ref a:=by unfold Rl;exact Iff.rfl
theorem rl_ro{v:V}{xs:List SV}:Rl K as H v (.ro xs)↔∃ a vs,v = .ref a/\FzL K H a vs/\RlAll K as H vs xs:=by rw[Rl]
theorem rl_ty{v:V}{n:TyN}:Rl K as H v (.ty n)↔v = .ty n.nm:=by unfold Rl;exact Iff.rfl
theorem rla_nil{vs:List V}:RlAll K as H vs []↔vs=[]:=by unfold RlAll;exact Iff.rfl
theorem rla_cons{vs:List V}{x:SV}{xs:List SV}:RlAll K as H vs (x::xs)↔∃ v r,vs=v::r/\Rl K as H v x/\RlAll K as H r xs:=by rw[RlAll]
theorem RlAll.nil:RlAll K as H [] []:=rla_nil.mpr rfl
theorem RlAll.cons{v:V}{x:SV}{vs:List V}{xs:List SV}(h:Rl K as H v x)(t:RlAll K as H vs xs):RlAll K as H (v::vs) (x::xs):=rla_cons.mpr ⟨v,vs,rfl,h,t⟩
theorem RlAll.length:∀{xs:List SV} {vs:List V},RlAll K as H vs xs->vs.length=xs.length
 | [],_,h=>by rw[rla_nil.mp h];rfl
 | x::xs,_,h=>by
   obtain⟨v,r,rfl,_,t⟩:=rla_cons.mp h;simp[t.length]
theorem RlAll.get:∀{xs:List SV} {vs:List V} {i:Nat} {x:SV},RlAll K as H vs xs->xs[i]?=some x->∃ v,vs[i]?=some v/\Rl K as H v x
 | [],_,i,_,_,e=>by simp at e
 | y::xs,_,0,_,h,e=>by
   obtain⟨v,r,rfl,a,_⟩:=rla_cons.mp h;simp at e;subst e;exact⟨v,rfl,a⟩
 | y::xs,_,i+1,_,h,e=>by
   obtain⟨v,r,rfl,_,t⟩:=rla_cons.mp h;simpa using t.get (by simpa using e)
theorem RlAll.append:∀{xs ys:List SV} {vs us:List V},RlAll K as H vs xs->RlAll K as H us ys->RlAll K as H (vs++us) (xs++ys)
 | [],_,_,_,h,h'=>by rw[rla_nil.mp h];exact h'
 | x::xs,_,_,_,h,h'=>by
   obtain⟨v,r,rfl,a,t⟩:=rla_cons.mp h;exact .cons a (t.append h')
theorem RlAll.take:∀{xs:List SV} {vs:List V} (n:Nat),RlAll K as H vs xs->RlAll K as H (vs.take n) (xs.take n)
 | _,_,0,_=>by simpa using RlAll.nil
 | [],_,n+1,h=>by rw[rla_nil.mp h];exact .nil
 | x::xs,_,n+1,h=>by
   obtain⟨v,r,rfl,a,t⟩:=rla_cons.mp h;exact .cons a (t.take n)
theorem RlAll.drop:∀{xs:List SV} {vs:List V} (n:Nat),RlAll K as H vs xs->RlAll K as H (vs.drop n) (xs.drop n)
 | _,_,0,h=>h
 | [],_,n+1,h=>by rw[rla_nil.mp h];exact .nil
 | x::xs,_,n+1,h=>by
   obtain⟨v,r,rfl,a,t⟩:=rla_cons.mp h;exact t.drop n
theorem RlAll.set{x:SV}{v:V}(hx:Rl K as H v x):∀{xs:List SV} {vs:List V} (n:Nat),RlAll K as H vs xs->RlAll K as H (vs.set n v) (xs.set n x)
 | [],_,n,h=>by rw[rla_nil.mp h];exact .nil
 | y::xs,_,0,h=>by
   obtain⟨_,r,rfl,_,t⟩:=rla_cons.mp h;exact .cons hx t
 | y::xs,_,n+1,h=>by
   obtain⟨_,r,rfl,a,t⟩:=rla_cons.mp h;exact .cons a (t.set hx n)
theorem RlAll.rev:∀{xs:List SV} {vs:List V},RlAll K as H vs xs->RlAll K as H vs.reverse xs.reverse
 | [],_,h=>by rw[rla_nil.mp h];exact .nil
 | x::xs,_,h=>by
   obtain⟨v,r,rfl,a,t⟩:=rla_cons.mp h;rw[UV,UV];exact t.rev.append (.cons a .nil)
theorem RlAll.ins{x:SV}{v:V}(hx:Rl K as H v x){xs:List SV}{vs:List V}(h:RlAll K as H vs xs)(n:Nat):RlAll K as H (vs.take n++v::vs.drop n) (xs.take n++x::xs.drop n):=(h.take n).append (.cons hx (h.drop n))
theorem RlAll.ints{is:List Int}:RlAll K as H (is.map V.int) (is.map SV.int):=by
 induction is with
 | nil=>exact .nil
 | cons i is ih=>exact .cons (rl_int.mpr rfl) ih
end
noncomputable def RlD(K:Sh)(as:List Addr)(H:Hp):List (Key×V)->List (Int×SV)->Prop
 | ks,[]=>ks=[]
 | ks,p::r=>∃ v t,ks=(.inl p.1,v)::t/\Rl K as H v p.2/\RlD K as H t r
theorem RlD.mono{K:Sh}{as as':List Addr}{H H':Hp}(ha:as <+: as')(hH:KeepU H H'):∀(kvs:List (Int×SV)) (ks:List (Key×V)),RlD K as H ks kvs->RlD K as' H' ks kvs
 | [],_,h=>h
 | p::r,_,⟨v,t,e,h1,h2⟩=>⟨v,t,e,Rl.mono ha hH p.2 v h1,RlD.mono ha hH r t h2⟩
noncomputable def RlO(K:Sh)(as:List Addr)(H:Hp)(a:Addr):SO->Prop
 | .lst xs=>∃ vs,H a=some (.lst vs)/\RlAll K as H vs xs
 | .iset ms=>∃ F,H a=some (.set F ms.length)/\∀ k,F k=decide (k∈ms)
 | .dct kvs=>∃ ks,H a=some (.dK ks)/\RlD K as H ks kvs
 | .dcf o ks kvs=>H a=some (.frz o (.dK ks))/\RlD K as H ks kvs
structure Ok(K:Sh)(as:List Addr)(H:Hp)(S:Sto):Prop where
 len:as.length=S.length
 nd:as.Nodup
 obj:∀(k:Nat) (o:SO) (a:Addr),S[k]?=some o->as[k]?=some a->RlO K as H a o
noncomputable def EnvOk(K:Sh)(as:List Addr)(H:Hp)(σ:St)(ρ:EnvS):Prop:=σ.length=ρ.length/\∀(i:Nat) (x:SV),ρ[i]?=some (some x)->∃ v,σ[i]?=some (some v)/\Rl K as H v x
theorem EnvOk.mono{K:Sh}{as as':List Addr}{H H':Hp}{σ:St}{ρ:EnvS}(h:EnvOk K as H σ ρ)(ha:as <+: as')(hH:KeepU H H'):EnvOk K as' H' σ ρ:=⟨h.1,fun i x e=>let ⟨v,a,b⟩:=h.2 i x e;⟨v,a,Rl.mono ha hH x v b⟩⟩
theorem EnvOk.set{K:Sh}{as:List Addr}{H:Hp}{σ:St}{ρ:EnvS}(h:EnvOk K as H σ ρ){i:Nat}{v:V}{x:SV}(hx:Rl K as H v x):EnvOk K as H (σ.set i (some v)) (ρ.set i (some x)):=⟨by rw[Tc,Tc];exact h.1,fun j y e=>by
 by_cases hij:i=j
 ·subst hij;have hi:i<ρ.length:=by have:=(gM e).1;rwa [Tc]at this
  rw[TN hi]at e;rw[TN (by rw[h.1];exact hi)];cases e;exact⟨v,rfl,hx⟩
 ·rw[Th hij]at e ⊢;exact h.2 j y e⟩
section
variable{K:Sh}{as:List Addr}{H:Hp}{S:Sto}
theorem RlO.mono{as':List Addr}{H':Hp}{a:Addr}(ha:as <+: as')(hH:KeepU H H')(e:∀ u,H a=some u->H' a=some u):∀{o:SO},RlO K as H a o->RlO K as' H' a o
 | .lst xs,⟨vs,h1,h2⟩=>⟨vs,e _ h1,RlAll.mono ha hH xs vs h2⟩
 | .iset ms,⟨F,h1,h2⟩=>⟨F,e _ h1,h2⟩
 | .dct kvs,⟨ks,h1,h2⟩=>⟨ks,e _ h1,RlD.mono ha hH kvs ks h2⟩
 | .dcf _ ks kvs,⟨h1,h2⟩=>⟨e _ h1,RlD.mono ha hH kvs ks h2⟩
theorem RlO.some{a:Addr}:∀{o:SO},RlO K as H a o->∃ u,H a=some u/\imm u=false
 | .lst _,⟨_,h,_⟩=>⟨_,h,rfl⟩
 | .iset _,⟨_,h,_⟩=>⟨_,h,rfl⟩
 | .dct _,⟨_,h,_⟩=>⟨_,h,rfl⟩
 | .dcf _ _ _,⟨h,_⟩=>⟨_,h,rfl⟩
theorem Ok.of(h:Ok K as H S){k:Nat}{a:Addr}(e:as[k]?=some a):∃ o,S[k]?=some o/\RlO K as H a o:=by
 have hk:k<S.length:=by rw[<-h.len];exact(gM e).1
 exact⟨S[k],Sj hk,h.obj k _ a (Sj hk) e⟩
theorem Ok.new(h:Ok K as H S){p:Addr}{o:HO}(hp:H p=none):Ok K as (upd H p o) S:=⟨h.len,h.nd,fun k u a e ea=>by
 have r:=h.obj k u a e ea;obtain⟨z,hz,_⟩:=r.some;exact r.mono (Te as) (Ar hp) fun vs hv=>by rw[upd_ne (f6 hz hp)];exact hv⟩
theorem Ok.free(h:Ok K as H S){p:Addr}(hp:H p=none):p∉as:=fun hm=>by
 obtain⟨k,hk⟩:=UJ hm;obtain⟨o,_,r⟩:=h.of hk;obtain⟨z,hz,_⟩:=r.some;rw[hp]at hz;cases hz
theorem Ok.pushO(h:Ok K as H S){p:Addr}(hp:H p=none){u:HO}{x:SO}(r:RlO K (as++[p]) (upd H p u) p x):Ok K (as++[p]) (upd H p u) (S++[x]):=by
 have pre:as <+: as++[p]:=Uc _ _;refine⟨by rw[Sl,Sl,h.len];rfl,?_,fun k o a e ea=>?_⟩
 ·rw[V6];refine⟨h.nd,by simp,fun a ha b hb=>?_⟩;rw[TH.mp hb];intro z;subst z;exact h.free hp ha
 ·by_cases hk:k<S.length
  ·rw[T9 hk]at e;rw[T9 (by rw[h.len];exact hk)]at ea;exact((h.new (o:=u) hp).obj k o a e ea).mono pre (KeepU.refl _) fun _ z=>z
  ·have hk':k=S.length:=by
    have:=(gM e).1;rw[Sl,U8]at this;omega
   subst hk';rw[TX]at e;rw[<-h.len,TX]at ea;cases e;cases ea;exact r
theorem Ok.push(h:Ok K as H S){p:Addr}(hp:H p=none){vs:List V}{xs:List SV}(r:RlAll K as H vs xs):Ok K (as++[p]) (upd H p (.lst vs)) (S++[.lst xs]):=h.pushO hp ⟨vs,n8,RlAll.mono (Uc _ _) (Ar hp) xs vs r⟩
theorem Ok.writeO(h:Ok K as H S){k:Nat}{a:Addr}{y x:SO}{u:HO}(e:S[k]?=some y)(ea:as[k]?=some a)(r:KeepU H (upd H a u)->RlO K as (upd H a u) a x):Ok K as (upd H a u) (S.set k x)/\KeepU H (upd H a u):=by
 obtain⟨z,h1,iz⟩:=(h.obj k _ a e ea).some;have ku:KeepU H (upd H a u):=Bb h1 iz;refine⟨⟨by rw[Tc];exact h.len,h.nd,fun j o b eo eb=>?_⟩,ku⟩;by_cases hj:k=j
 ·subst hj;rw[TN ((gM e).1)]at eo;rw[ea]at eb;cases eo;cases eb;exact r ku
 ·rw[Th hj]at eo
  have hab:b≠a:=fun z=>by
   subst z;exact hj ((List.getElem?_inj ((gM ea).1) h.nd).mp (ea.trans eb.symm))
  exact(h.obj j o b eo eb).mono (Te as) ku fun ws hw=>by rw[upd_ne hab];exact hw
theorem Ok.write(h:Ok K as H S){k:Nat}{a:Addr}{ys xs:List SV}{vs:List V}(e:S[k]?=some (.lst ys))(ea:as[k]?=some a)(r:RlAll K as H vs xs):Ok K as (upd H a (.lst vs)) (S.set k (.lst xs))/\KeepU H (upd H a (.lst vs)):=h.writeO e ea fun ku=>⟨vs,n8,RlAll.mono (Te as) ku xs vs r⟩
end
structure Go(as:List Addr)(H:Hp)(as':List Addr)(H':Hp):Prop where
 pre:as <+: as'
 keep:∀ b o,H b=some o->b∉as->H' b=some o/\b∉as'
theorem Go.refl(as:List Addr)(H:Hp):Go as H as H:=⟨Te _,fun _ _ h n=>⟨h,n⟩⟩
theorem Go.trans{as as1 as2:List Addr}{H H1 H2:Hp}(a:Go as H as1 H1)(b:Go as1 H1 as2 H2):Go as H as2 H2:=⟨a.pre.trans b.pre,fun x o h n=>let ⟨h1,n1⟩:=a.keep x o h n;b.keep x o h1 n1⟩
theorem Go.new{as:List Addr}{H:Hp}{p:Addr}{o:HO}(hp:H p=none):Go as H as (upd H p o):=⟨Te _,fun b u h n=>⟨by rw[upd_ne (f6 h hp)];exact h,n⟩⟩
theorem Go.push{as:List Addr}{H:Hp}{p:Addr}{o:HO}(hp:H p=none):Go as H (as++[p]) (upd H p o):=⟨Uc _ _,fun b u h n=>⟨by rw[upd_ne (f6 h hp)];exact h,by
 rw[TQ,TH];rintro(z | z)
 ·exact n z
 ·exact f6 h hp z⟩⟩
theorem Go.write{as:List Addr}{H:Hp}{a:Addr}{o:HO}(ha:a∈as):Go as H as (upd H a o):=⟨Te _,fun b u h n=>⟨by rw[upd_ne (fun z=>n (by rw[z];exact ha))];exact h,n⟩⟩
section
variable{K:Sh}{as as':List Addr}{H H':Hp}{S:Sto}
theorem Ok.away(h:Ok K as H S){b:Addr}{o:HO}(e:H b=some o)(i:imm o=true):b∉as:=fun hm=>by
 obtain⟨k,hk⟩:=UJ hm;obtain⟨_,_,r⟩:=h.of hk;obtain⟨z,hz,iz⟩:=r.some;rw[e]at hz;cases hz;rw[i]at iz;cases iz
theorem Go.ku(g:Go as H as' H')(ok:Ok K as H S):KeepU H H':=fun b o h i=>(g.keep b o h (ok.away h i)).1
theorem Ok.other(h:Ok K as H S){b:Addr}{vs us:List V}(hb:H b=some (.lst vs))(n:b∉as):Ok K as (upd H b (.lst us)) S:=⟨h.len,h.nd,fun k o a e ea=>(h.obj k o a e ea).mono (Te as) (Bb hb rfl) fun ws hw=>by
 rw[upd_ne (fun z=>n (by rw[<-z];exact Sm ea))];exact hw⟩
end
end Rf
namespace L2
open PySem PySem.Spec PyProof.Rows
section
variable{κ:Type}[DecidableEq κ]
noncomputable def C7(kvs:List (κ×V))(k:κ):Option V:=(kvs.find? fun kv=>decide (kv.1=k)).map (·.2)
noncomputable def J4(kvs:List (κ×V))(k:κ)(v:V):List (κ×V):=
 if (kvs.any fun kv=>decide (kv.1=k))=true then kvs.map (fun kv=>if kv.1=k then (kv.1,v) else kv) else kvs++[(k,v)]
theorem DD{p:κ×V}{r:List (κ×V)}{k:κ}(e:p.1=k):C7 (p::r) k=some p.2:=by simp[C7,Us,e]
theorem DE{p:κ×V}{r:List (κ×V)}{k:κ}(e:¬ p.1=k):C7 (p::r) k=C7 r k:=by simp[C7,Us,e]
theorem F4(k:κ):∀ kvs:List (κ×V),(kvs.any fun kv=>decide (kv.1=k))=(C7 kvs k).isSome
 | []=>rfl
 | p::r=>by
   rw[UZ];by_cases e:p.1=k
   ·simp only[DD e,decide_eq_true e,Bool.true_or,Vp]
   ·rw[DE e,decide_eq_false e,WU];exact F4 k r
theorem RelO.isSome_eq{o:Option V}{u:Option Value}(r:RelO o u):o.isSome=u.isSome:=by
 cases o with
 | none=>cases u with
   | none=>rfl
   | some _=>exact(show False from r).elim
 | some _=>cases u with
   | none=>exact(show False from r).elim
   | some _=>rfl
theorem KV.val{kvs:List (κ×V)}{vs:List (κ×Value)}(r:KV kvs vs)(k:κ):RelO (C7 kvs k) (valueAt vs k):=by
 unfold KV at r
 induction r with
 | nil=>exact True.intro
 | @cons p q ps qs h t ih=>
   obtain⟨h1,h2⟩:=h;by_cases e:p.1=k
   ·have e':q.1=k:=h1.symm.trans e;have b:valueAt (q::qs) k=some q.2:=by simp[valueAt,Us,e']
    rw[DD e,b];exact h2
   ·have e':¬ q.1=k:=fun z=>e (h1.trans z);have b:valueAt (q::qs) k=valueAt qs k:=by simp[valueAt,Us,e']
    rw[DE e,b];exact ih
theorem KV.any{kvs:List (κ×V)}{vs:List (κ×Value)}(r:KV kvs vs)(k:κ):(kvs.any fun kv=>decide (kv.1=k))=vs.any fun kv=>decide (kv.1=k):=by
 unfold KV at r
 induction r with
 | nil=>rfl
 | cons h t ih=>rw[UZ,UZ,ih,h.1]
theorem KV.repl{kvs:List (κ×V)}{vs:List (κ×Value)}(r:KV kvs vs)(k:κ){y:V}{u:Value}(ry:RelV y u):
 KV (kvs.map fun kv=>if kv.1=k then (kv.1,y) else kv) (vs.map fun kv=>if kv.1=k then (kv.1,u) else kv):=by
 unfold KV at r ⊢
 induction r with
 | nil=>exact .nil
 | @cons p q ps qs h t ih=>
   rw[To,To];refine .cons ?_ ih;obtain⟨h1,h2⟩:=h;by_cases e:p.1=k
   ·rw[if_pos e,if_pos (h1.symm.trans e)];exact⟨h1,ry⟩
   ·rw[if_neg e,if_neg (fun z=>e (h1.trans z))];exact⟨h1,h2⟩
theorem KV.put{kvs:List (κ×V)}{vs:List (κ×Value)}(r:KV kvs vs)(k:κ){y:V}{u:Value}(ry:RelV y u):KV (J4 kvs k y) (stored vs k u):=by
 unfold J4 stored;rw[r.any k];by_cases e:(vs.any fun kv=>decide (kv.1=k))=true
 ·rw[if_pos e,if_pos e];exact r.repl k ry
 ·rw[if_neg e,if_neg e];exact Paired.snoc r ⟨rfl,ry⟩
theorem KV.keys{kvs:List (κ×V)}{vs:List (κ×Value)}(r:KV kvs vs):kvs.map (·.1)=vs.map (·.1):=by
 unfold KV at r
 induction r with
 | nil=>rfl
 | cons h t ih=>rw[To,To,ih,h.1]
theorem KV.length{kvs:List (κ×V)}{vs:List (κ×Value)}(r:KV kvs vs):kvs.length=vs.length:=Paired.length r
end
noncomputable abbrev KT(H:Hp):List (List Key×V)->List (List Key×Addr×Value)->Prop:=Paired fun p q=>p.1=q.1/\H q.2.1=some (.tup (p.1.map kV))/\RelV p.2 q.2.2
theorem KT.val{H:Hp}{kvs:List (List Key×V)}{xs:List (List Key×Addr×Value)}(r:KT H kvs xs)(k:List Key):RelO (C7 kvs k) ((atKey xs k).map (·.2)):=by
 induction r with
 | nil=>exact True.intro
 | @cons p q ps qs h t ih=>
   obtain⟨h1,_,h2⟩:=h;by_cases e:p.1=k
   ·have e':q.1=k:=h1.symm.trans e;have b:atKey (q::qs) k=some q.2:=by simp[atKey,Us,e']
    rw[DD e,b];exact h2
   ·have e':¬ q.1=k:=fun z=>e (h1.trans z);have b:atKey (q::qs) k=atKey qs k:=by simp[atKey,Us,e']
    rw[DE e,b];exact ih
theorem KT.repl{H:Hp}{kvs:List (List Key×V)}{xs:List (List Key×Addr×Value)}(r:KT H kvs xs)(k:List Key){y:V}{u:Value}(ry:RelV y u):
 KT H (kvs.map fun kv=>if kv.1=k then (kv.1,y) else kv) (xs.map (putAt k u)):=by
 induction r with
 | nil=>exact .nil
 | @cons p q ps qs h t ih=>
   rw[To,To];refine .cons ?_ ih;obtain⟨h1,h2,h3⟩:=h;unfold putAt;by_cases e:p.1=k
   ·rw[if_pos e,if_pos (h1.symm.trans e)];exact⟨h1,h2,ry⟩
   ·rw[if_neg e,if_neg (fun z=>e (h1.trans z))];exact⟨h1,h2,h3⟩
theorem KT.put{H:Hp}{kvs:List (List Key×V)}{xs:List (List Key×Addr×Value)}(r:KT H kvs xs)(k:List Key){b:Addr}{y:V}{u:Value}(hb:H b=some (.tup (k.map kV)))(ry:RelV y u):
 KT H (J4 kvs k y) (storedH xs k b u):=by
 have e:(kvs.any fun kv=>decide (kv.1=k))=(atKey xs k).isSome:=by
  rw[F4,(r.val k).isSome_eq,Option.isSome_map]
 unfold J4 storedH;rw[e];by_cases q:(atKey xs k).isSome=true
 ·rw[if_pos q,if_pos q];exact r.repl k ry
 ·rw[if_neg q,if_neg q];exact Paired.snoc r ⟨rfl,hb,ry⟩
theorem KT.keeps{H H':Hp}{kvs:List (List Key×V)}{xs:List (List Key×Addr×Value)}(r:KT H kvs xs)(ht:∀ b ys,H b=some (.tup ys)->H' b=some (.tup ys)):KT H' kvs xs:=
 Paired.mapP r fun _ _ z=>⟨z.1,ht _ _ z.2.1,z.2.2⟩
section
variable{X:Cx}{pins:List (Addr×Obj)}{σ:St}{H:Hp}{s:Shared}{a:Addr}{y v:V}{u r:Value}{o:Option V}{A:Around}{E:Value->Shared->Prop}
theorem Inv.big(I:Inv X pins σ H s):sysModules<s.heap.objs.size:=by
 have h:mainGlobals<s.heap.objs.size:=(I.mod.glob.keeps I.bk).lt;exact Wg (by decide) h
end
open PySem PySem.Spec PyProof.Rows
mutual
noncomputable def Dat(H:Hp):V->PyData->Prop
 | x,.none=>x = .non
 | x,.bool b=>x = .bl b
 | x,.int i=>x = .int i
 | x,.str s=>x = .str s
 | x,.list ds=>∃ a xs,x = .ref a/\H a=some (.lst xs)/\DatAll H xs ds
 | x,.tuple ds=>∃ a xs,x = .ref a/\H a=some (.tup xs)/\DatAll H xs ds
 | _,.dict _=>False
noncomputable def DatAll(H:Hp):List V->List PyData->Prop
 | [],[]=>True
 | x::xs,d::ds=>Dat H x d/\DatAll H xs ds
 | [],_::_=>False
 | _::_,[]=>False
end
mutual
theorem Dat.mono{H H':Hp}(k:∀ b o,H b=some o->H' b=some o):∀(x:V) (d:PyData),Dat H x d->Dat H' x d
 | _,.none,h=>by unfold Dat at h ⊢;exact h
 | _,.bool _,h=>by unfold Dat at h ⊢;exact h
 | _,.int _,h=>by unfold Dat at h ⊢;exact h
 | _,.str _,h=>by unfold Dat at h ⊢;exact h
 | x,.list ds,h=>by
   unfold Dat at h ⊢;obtain⟨a,xs,e,h1,h2⟩:=h;exact⟨a,xs,e,k _ _ h1,DatAll.mono k xs ds h2⟩
 | x,.tuple ds,h=>by
   unfold Dat at h ⊢;obtain⟨a,xs,e,h1,h2⟩:=h;exact⟨a,xs,e,k _ _ h1,DatAll.mono k xs ds h2⟩
 | _,.dict _,h=>by unfold Dat at h;exact h.elim
theorem DatAll.mono{H H':Hp}(k:∀ b o,H b=some o->H' b=some o):∀(xs:List V) (ds:List PyData),DatAll H xs ds->DatAll H' xs ds
 | [],[],_=>by unfold DatAll;trivial
 | x::xs,d::ds,h=>by
   unfold DatAll at h ⊢;exact⟨Dat.mono k x d h.1,DatAll.mono k xs ds h.2⟩
 | [],_::_,h=>by unfold DatAll at h;exact h.elim
 | _::_,[],h=>by unfold DatAll at h;exact h.elim
end
section
variable{X:Cx}{a b:Expr}{ta:TE}{pos:Pos}
theorem J5:OpR X (compareOp .IsNot) (fun x y H Q=>∃ c d,x = .bl c/\y = .bl d/\Q (.bl (c != d)) H):=by
 intro pins s σ H x y v u Q I rx ry h;obtain⟨c,d,rfl,rfl,q⟩:=h;cases rx;cases ry;exact isnot_bool ⟨.bl (c != d),H,I,rfl,q⟩
end
section
variable{prog:Program}{w:World}{A:Around}{E:Value->Shared->Prop}{s:Shared}
open HT in
theorem De{t sl:Addr}{items:Array Value}{vl vu:Value}{lo hi:Option Int}{Q:Value->Shared->Prop}(ht:IsTup s.heap t items)(hs:s.heap.IsSliceOf sl vl vu .none)(pl:IsPart vl lo)(pu:IsPart vu hi)
 (hw:sIx items.size 0 lo=0/\sIx items.size items.size hi=items.size) (h:Q (.ref t) s):wpAny (model prog w) A (getItem (.ref t) (.ref sl)) Q E s:=by
 obtain⟨os,hos,hcs,hds⟩:=id hs;have hTs:s.TypeIs (.ref sl) "slice":=⟨os,hos,hcs⟩
 unfold getItem
 try with_reducible refine wpAny_holding ?_
 first | refine wpAny_bind (wpAny_pure ?_) | skip
 refine wpAny_bind (wpAny_sequenceKey ht.typeIs (by decide) ?_)
 refine wpAny_bind (wpAny_callSpecial?_slot (name:=Str.ofString "__getitem__") ht.typeIs PyProof.Rows.slot_tuple_getitem
  (wpAny_call_entry PyProof.Rows.slot_tuple_getitem ht.typeIs entry_tuple_getitem ?_ (args_tuple_getitem _ _)))
 show wpAny _ _ (Builtin.Tuple.tupleItemsOf (.ref t) >>= _) _ _ s;refine wpAny_bind (tupleItemsOf_ ht ?_);refine wpAny_bind (wpAny_typeOf hTs ?_);rw[if_pos (by decide)];refine wpAny_bind (Ao hs pl pu ?_)
 have hyes:(((sIx items.size 0 lo:Nat):Int) == 0&&(1:Int) == 1&&(sIx items.size items.size hi - sIx items.size 0 lo) == items.size)=true:=by
  rw[hw.1,hw.2];simp
 show wpAny _ _ (if (((sIx items.size 0 lo:Nat):Int) == 0&&(1:Int) == 1&&(sIx items.size items.size hi - sIx items.size 0 lo) == items.size)=true then _ else _) _ _ s;rw[if_pos hyes];unfold Builtin.Tuple.tupleIsExact;refine wpAny_bind (wpAny_bind (wpAny_typeOf ht.typeIs (wpAny_pure ?_)));rw[if_pos (by decide)];exact wpAny_bind (wpAny_rule (wpAny_pure ⟨_,rfl,wpAny_pure h⟩))
end
section
variable{X:Cx}
noncomputable def RI(K:Sh):V->Option Int->Option Int->Hp->VK->Prop:=fun x lo hi H Q=>∃ a xs,x = .ref a/\SqT K H a xs/\(HT.sIx xs.length 0 lo=0/\HT.sIx xs.length xs.length hi=xs.length)/\Q (.ref a) H
theorem Mz:SlR X (RI X.K):=by
 intro pins s σ H x v vl vu lo hi sl Q I rx hs pl pu h;obtain⟨a,xs,rfl,hx,hw,q⟩:=h;cases rx;obtain⟨its,r,ht,hz⟩:=I.tuple hx;have hlen:its.toArray.size=xs.length:=by rw[Sq];exact r.length.symm
 exact⟨"tuple",_,PyProof.Rows.slot_tuple_getitem.lookup,ht.typeIs,De ht hs pl pu (by rw[hlen];exact hw) ⟨.ref a,H,I,rfl,q⟩⟩
end
open PySem PySem.Spec PyProof.Rows
theorem b_set:bootBuiltins "set"=some (.type "set"):=by decide +kernel
open PySem PySem.Spec PyProof.Rows
noncomputable def Up(xs:Array Nat):Prop:=∀ i j (hi:i<xs.size) (hj:j<xs.size),i<j->xs[i]<xs[j]
theorem up_list{xs:Array Nat}:Up xs↔xs.toList.Pairwise (·<·):=by
 rw[U4]
 exact⟨fun h i j hi hj hij=>by simpa using h i j (by simpa using hi) (by simpa using hj) hij,fun h i j hi hj hij=>by
  have:=h i j (by simpa using hi) (by simpa using hj) hij
  rwa [Vl,Vl]at this⟩
theorem Ke{xs:Array Nat}(hu:Up xs)(j:Nat):∀(f lo hi:Nat),hi<=xs.size->lo<=hi->hi - lo<=f->(∀ i (h:i<xs.size),i<lo->xs[i]<j)->(∀ i (h:i<xs.size),hi<=i->j<=xs[i])->
 (SetTable.below.go xs j f lo hi)<=xs.size/\(∀ i (h:i<xs.size),i<SetTable.below.go xs j f lo hi->xs[i]<j)/\(∀ i (h:i<xs.size),SetTable.below.go xs j f lo hi<=i->j<=xs[i]):=by
 intro f
 induction f with
 | zero=>
   intro lo hi h1 h2 h3 h4 h5;have:lo=hi:=by omega
   subst this;unfold SetTable.below.go;exact⟨h1,h4,h5⟩
 | succ f ih=>
   intro lo hi h1 h2 h3 h4 h5;unfold SetTable.below.go;by_cases hlh:lo<hi
   ·rw[if_pos hlh];have hm:(lo+hi) / 2<xs.size:=by omega
    have e:xs.getD ((lo+hi) / 2) j=xs[(lo+hi) / 2]:=by simp[WN,hm]
    dsimp only;rw[e];by_cases hc:xs[(lo+hi) / 2]<j
    ·rw[if_pos hc];refine ih _ _ h1 (by omega) (by omega) (fun i h hi'=>?_) h5;by_cases z:i=(lo+hi) / 2
     ·subst z;exact hc
     ·exact Wg (hu i _ h hm (by omega)) hc
    ·rw[if_neg hc];refine ih _ _ (by omega) (by omega) (by omega) h4 (fun i h hi'=>?_);by_cases z:i=(lo+hi) / 2
     ·subst z;omega
     ·have:=hu _ i hm h (by omega);omega
   ·rw[if_neg hlh];have:lo=hi:=by omega
    subst this;exact⟨h1,h4,h5⟩
theorem F5{xs:Array Nat}(hu:Up xs)(j:Nat):SetTable.below xs j<=xs.size/\(∀ i (h:i<xs.size),i<SetTable.below xs j->xs[i]<j)/\(∀ i (h:i<xs.size),SetTable.below xs j<=i->j<=xs[i]):=
 Ke hu j xs.size 0 xs.size (Sr _) (U7 _) (by omega) (fun i _ h=>absurd h (WH _)) (fun i h h'=>absurd h (Nat.not_lt.mpr h'))
theorem Pe{xs:Array Nat}(hu:Up xs){j:Nat}(hn:xs[SetTable.below xs j]?≠some j):Up (SetTable.insertAt xs (SetTable.below xs j) j):=by
 obtain⟨h1,h2,h3⟩:=F5 hu j;rw[up_list,SetTable.toList_insertAt];have hl:=up_list.mp hu
 have hgt:∀ i (h:i<xs.size),SetTable.below xs j<=i->j<xs[i]:=by
  intro i h hi;have:=h3 i h hi;by_cases z:SetTable.below xs j=i
  ·have:xs[i]≠j:=fun e=>hn (by rw[z];simp[h,e]);omega
  ·have a:=hu _ i (by omega) h (Nat.lt_of_le_of_ne hi z);have b:=h3 (SetTable.below xs j) (by omega) (Sr _);omega
 rw[Vk];refine⟨hl.take,?_,?_⟩
 ·rw[Uo];refine⟨fun y hy=>?_,hl.drop⟩;obtain⟨i,hi,e⟩:=UT.mp hy;rw[Vw]at e;have hi':SetTable.below xs j+i<xs.size:=by simp at hi;omega
  have:=hgt _ hi' (W6 _ _);rw[<-e];simpa using this
 ·intro x hx y hy;obtain⟨i,hi,e⟩:=UT.mp hx;have hib:i<SetTable.below xs j:=by simp at hi;omega
  have hx':x<j:=by
   rw[<-e,List.getElem_take];have:=h2 i (by omega) hib;simpa using this
  rcases TC.mp hy with rfl | hy
  ·exact hx'
  ·obtain⟨k,hk,e2⟩:=UT.mp hy;rw[Vw]at e2;have hk':SetTable.below xs j+k<xs.size:=by simp at hk;omega
   have:=hgt _ hk' (W6 _ _);have h:xs.toList[SetTable.below xs j+k]'(by simpa using hk')=xs[SetTable.below xs j+k]:=by simp
   rw[h]at e2;omega
structure Tab(w:World)(t:SetTable):Prop where
 up:Up t.place
 no:t.dummies=#[]
 led:t.led=!w.params.followText "set-order"
theorem Kf{w:World}{t:SetTable}(T:Tab w t)(j:Nat):t.slot j ≠ .dummy:=by
 unfold SetTable.slot;rw[T.no];dsimp only;split
 ·exact fun z=>nomatch z
 ·have:SetTable.has #[] j=false:=rfl;rw[this];exact fun z=>nomatch z
theorem Pf{w:World}{t:SetTable}(T:Tab w t)(g:Nat->Int)(h:Int):∀(f:Nat) (p:SetTable.Probe) (j:Nat) (d:Option Nat),p.dummy=none->SetTable.probe.go t g h f p=some (.empty j d)->t.slot j = .empty/\d=none:=by
 intro f
 induction f with
 | zero=>intro p j d _ e;unfold SetTable.probe.go at e;cases e
 | succ f ih=>
   intro p j d hp e
   have adv:∀ q:SetTable.Probe,q.dummy=none->(t.advance q).dummy=none:=by
    intro q hq;unfold SetTable.advance;split
    ·exact hq
    ·exact hq
   unfold SetTable.probe.go at e;split at e
   ·rename_i hs;cases e;exact⟨hs,hp⟩
   ·rename_i hs;exact absurd hs (Kf T _)
   ·split at e
    ·cases e
    ·exact ih _ _ _ (adv _ hp) e
theorem Kg{w:World}{t:SetTable}(T:Tab w t){h:Int}{j:Nat}{b:Bool}(e:t.freeSlot h=some (j,b)):t.place[SetTable.below t.place j]?≠some j:=by
 unfold SetTable.freeSlot at e;split at e
 ·rename_i j' d hp;unfold SetTable.probe at hp;obtain⟨hs,hd⟩:=Pf T _ _ _ _ _ _ rfl hp;subst hd;cases e;unfold SetTable.slot at hs;dsimp only[VT]at hs ⊢;split at hs
  ·cases hs
  ·rename_i hn;intro z;exact hn (by rw[z];simp)
 ·cases e
theorem Bc{w:World}{t:SetTable}(T:Tab w t)(n:Nat):Tab w (t.standIn n):=by
 refine⟨?_,rfl,T.led⟩;show Up (Array.range n);intro i j hi hj hij;simpa using hij
theorem Pg{w:World}{t:SetTable}(T:Tab w t)(n:Nat):Tab w (t.orStandIn n):=by
 unfold SetTable.orStandIn;split
 ·exact T
 ·exact Bc T n
theorem N0{w:World}{t:SetTable}(T:Tab w t)(es:Array (Int×Value))(h:Int)(x:Value):Tab w (layNew t es h x).2.1:=by
 unfold layNew;split
 ·rename_i j b e;refine Pg (t:=(t.put j).1) ⟨Pe T.up (Kg T e),?_,T.led⟩ _;show(if SetTable.has t.dummies j=true then _ else t.dummies)=#[];rw[T.no];rfl
 ·exact Bc T _
theorem J6{w:World}{t:SetTable}(T:Tab w t)(es:Array (Int×Value))(n:Nat):Tab w (relayAll t es n).2.1:=by
 unfold relayAll;split
 ·rename_i t' order e;dsimp only;split
  ·unfold SetTable.relaid SetTable.laid at e;obtain⟨owner,_,e⟩:=Option.bind_eq_some_iff.mp e;have e':=oj e;have e1:=congrArg Prod.fst e';subst e1;refine⟨?_,rfl,T.led⟩;rw[up_list]
   have key:∀ l:List Nat,l.Pairwise (·<·)->((l.filterMap fun j=>(owner.getD j none).map (j,·)).map (·.1)).Pairwise (·<·):=by
    intro l hl
    have:(l.filterMap fun j=>(owner.getD j none).map (j,·)).map (·.1)=l.filter fun j=>(owner.getD j none).isSome:=by
     induction l with
     | nil=>rfl
     | cons a l ih=>
       have ih:=ih (Uo.mp hl).2;cases ho:owner.getD a none with
       | none=>rw[List.filterMap_cons_none (by rw[ho];rfl),List.filter_cons_of_neg (by rw[ho];simp),ih]
       | some b=>rw[VS (b:=(a,b)) (by rw[ho];rfl),List.filter_cons_of_pos (by rw[ho];rfl),To,ih]
    rw[this];exact hl.filter _
   simpa using key _ Uq
  ·exact Bc T _
 ·exact Bc T _
noncomputable def SetX(prog:Program)(w:World)(h:Heap)(a:Addr)(L:List Int):Prop:=
 ∃ o es ep t,h.get? a=some o/\o.ExactSet/\o.data = .set es ep t/\ElemsOf (intKind prog w) es.toList/\es.size<scanBound/\t.fits es.size=true/\Tab w t/\(es.toList.map fun e=>numOf e.2).Perm L
section
variable{prog:Program}{w:World}{A:Around}{E:Value->Shared->Prop}{s:Shared}
theorem SetX.keep{h h':Heap}{a:Addr}{L:List Int}(x:SetX prog w h a L)(k:∀ o,h.get? a=some o->h'.get? a=some o):SetX prog w h' a L:=by
 obtain⟨o,es,ep,t,ho,r⟩:=x;exact⟨o,es,ep,t,k o ho,r⟩
theorem Cy{k:Int}{v:Value}(h:(intKind prog w).is k v=true):numOf v=k:=by
 obtain⟨t,rfl⟩:=Value.isInt_shape (k:=k) (v:=v) h;rfl
theorem Kh{h:Heap}{a:Addr}{o:Obj}{es es':Array (Int×Value)}{ep:Nat}{t t':SetTable}{L:List Int}(ho:h.get? a=some o)(hx:o.ExactSet)(hd:o.data = .set es ep t)
 (he:ElemsOf (intKind prog w) es'.toList) (hb:es'.size<scanBound) (hf:t'.fits es'.size=true) (hT:Tab w t') (hp:(es'.toList.map fun e=>numOf e.2).Perm L):
 (h.update a (Obj.putSet es' t')).get? a=some {o with data := .set es' (ep+1) t'}/\SetX prog w (h.update a (Obj.putSet es' t')) a L:=by
 have g:=Tu (Obj.putSet es' t') ho (by rw[putSet_of es' t' hd];rfl);rw[putSet_of es' t' hd]at g;exact⟨g,_,es',ep+1,t',g,hx,rfl,he,hb,hf,hT,hp⟩
theorem OS{g:Bool->Sem Unit}(hg:∀(b:Bool) (s₁:Shared) (Q':Unit->Shared->Prop),Q' () s₁->wpAny (model prog w) A (g b) Q' E s₁){a:Addr}{o:Obj}{es es1:Array (Int×Value)}{ep:Nat}{t t2:SetTable}{L:List Int}{dm:Bool}
 {R:Option Bool->Shared->Prop} (ho:s.heap.get? a=some o) (hx:o.ExactSet) (hd:o.data = .set es ep t) (he:ElemsOf (intKind prog w) es1.toList) (hb:es1.size<scanBound) (hf:t2.fits es1.size=true) (hT:Tab w t2) (hp:(es1.toList.map fun e=>numOf e.2).Perm L)
 (h:∀ h',Tn a s.heap h'->SetX prog w h' a L->R (some true) {s with heap:=h'}):
 wpAny (model prog w) A (do
  storeSet a es1 t2
  if (!dm&&t2.tooFull)=true then do
      g (relayAll t2 es1 (SetTable.grown es1.size)).2.2
      storeSet a (relayAll t2 es1 (SetTable.grown es1.size)).1 (relayAll t2 es1 (SetTable.grown es1.size)).2.1
      pure (some true)
   else pure (some true)) R E s:=by
 obtain⟨g1,x1⟩:=Kh (prog:=prog) ho hx hd he hb hf hT hp;have b1:=Tn.update s.heap a (Obj.putSet es1 t2);refine wpAny_bind (wpAny_storeSet_of ho hd ?_ (fits_of_scanBound hb));by_cases hc:(!dm&&t2.tooFull)=true
 ·rw[if_pos hc];have hpr:=relayAll_perm t2 es1 (SetTable.grown es1.size);have hfr:=relayAll_fits t2 es1 (SetTable.grown es1.size);have hTr:=J6 hT es1 (SetTable.grown es1.size)
  have hsz:(relayAll t2 es1 (SetTable.grown es1.size)).1.size<scanBound:=by
   rw[<-Sv,hpr.length_eq,Sv];exact hb
  obtain⟨_,x2⟩:=Kh (prog:=prog) g1 hx rfl (he.perm hpr) hsz hfr hTr ((hpr.map _).trans hp);exact wpAny_bind (hg _ _ _ (wpAny_bind (wpAny_storeSet_of g1 rfl (wpAny_pure (h _ (b1.trans (Tn.update _ a _)) x2)) (fits_of_scanBound hsz))))
 ·rw[if_neg hc];exact wpAny_pure (h _ b1 x1)
theorem SR{a:Addr}{L:List Int}{k:Int}{tk:Tok}{Q:Bool->Shared->Prop}(hX:SetX prog w s.heap a L)(hroom:L.length+1<scanBound)
 (h:∀ h' b,Tn a s.heap h'->SetX prog w h' a (step_dedup L k)->Q b {s with heap:=h'}):wpAny (model prog w) A (setAddHashed a (.int k tk) ((intKind prog w).hash k)) Q E s:=by
 obtain⟨o,es,ep,t,ho,hx,hd,hel,hb,hf,hT,hp⟩:=hX;have hkey:(intKind prog w).is k (.int k tk)=true:=intKind_is _ _ _ _;have hsz:es.size=L.length:=by rw[<-hp.length_eq,Sk,Sv]
 unfold setAddHashed setAddHashedIn;refine wpAny_holding (wpAny_bind (wpAny_setState_of ho hd hf ?_));dsimp only;rw[byScan_of (knd:=intKind prog w) rfl hb hel,if_pos rfl];unfold setAddByScan;refine wpAny_bind (wpAny_bind (wpAny_rule (wpAny_bind (wpAny_setScan_of hkey ho hd hf hel ?_))))
 have hin:(L.any (· == k))=true↔∃ e∈es.toList,(intKind prog w).is k e.2=true:=by
  rw[V8];constructor
  ·rintro⟨x,hxL,e⟩;obtain⟨y,hy,ey⟩:=UR.mp (hp.mem_iff.mpr hxL);obtain⟨⟨k',hk',_⟩,_⟩:=hel y hy;have:numOf y.2=k':=Cy hk';have:k'=k:=by rw[<-this,ey];simpa using e
   subst this;exact⟨y,hy,hk'⟩
  ·rintro⟨y,hy,hk'⟩;refine⟨k,hp.mem_iff.mp (UR.mpr ⟨y,hy,Cy hk'⟩),by simp⟩
 cases hr:List.findIdx? (fun e=>(intKind prog w).is k e.2) es.toList with
 | some j=>
   obtain⟨hj,hpj,_⟩:=List.findIdx?_eq_some_iff_getElem.mp hr;have hL:step_dedup L k=L:=by unfold step_dedup;rw[if_pos (hin.mpr ⟨_,UI hj,hpj⟩)]
   refine wpAny_pure (wpAny_pure ?_);exact h s.heap _ (Tn.refl a s.heap) (by rw[hL];exact⟨o,es,ep,t,ho,hx,hd,hel,hb,hf,hT,hp⟩)
 | none=>
   have hL:step_dedup L k=L++[k]:=by
    unfold step_dedup;rw[if_neg];intro z;obtain⟨e,he,hk'⟩:=hin.mp z;have:=List.findIdx?_eq_none_iff.mp hr e he;rw[hk']at this;cases this
   have q1:=layNew_perm t es ((intKind prog w).hash k) (.int k tk);have q2:=layNew_fits t es ((intKind prog w).hash k) (.int k tk);have q3:=N0 hT es ((intKind prog w).hash k) (.int k tk);generalize layNew t es ((intKind prog w).hash k) (.int k tk)=lay at q1 q2 q3 ⊢;obtain⟨es1,t1,dm,gv⟩:=lay;dsimp only at q1 q2 q3 ⊢;rw[UW]at q1;have he1:ElemsOf (intKind prog w) es1.toList:=(hel.push hkey rfl).perm q1
   have hz1:es1.size<scanBound:=by
    rw[<-Sv,q1.length_eq,Sl,Sv,hsz];simpa using hroom
   have hp1:(es1.toList.map fun e=>numOf e.2).Perm (step_dedup L k):=by
    rw[hL];refine(q1.map _).trans ?_;rw[Tt];exact hp.append_right _
   have hgw:∀(b:Bool) (s₁:Shared) (Q':Unit->Shared->Prop),Q' () s₁->wpAny (model prog w) A (match b with | true=>rule "set.scan.the-table-gave-way" | false=>pure ()) Q' E s₁:=
    fun b s₁ Q' hq=>by cases b<;>first | exact wpAny_pure hq | exact wpAny_rule hq
   refine wpAny_bind (hgw _ _ _ ?_);split
   ·refine wpAny_bind ?_;rw[hashByValue_scannable 8 rfl];refine wpAny_pure (OS hgw ho hx hd he1 hz1 q2 q3 hp1 fun h' hsb hX'=>?_);exact wpAny_pure (h h' _ hsb hX')
   ·refine wpAny_bind (wpAny_pure ?_);rw[if_pos rfl];refine OS hgw ho hx hd he1 hz1 q2 q3 hp1 fun h' hsb hX'=>?_;exact wpAny_pure (h h' _ hsb hX')
end
section
variable{prog:Program}{w:World}{A:Around}{R:Result->Shared->Prop}{I:Addr}{fp wr:List Addr}{G:Array GenState->Array GenState->Prop}{n:Nat}{P:Nat->Value->Prop}{St:Nat->Shared->Prop}
theorem SS(W:WalksS prog w A.in1 I fp wr G n P St)(S:Addr)(hSf:S∉fp)(val:Nat->Int)(hval:∀ i v,P i v->∃ t,v = .int (val i) t)(hb:n+1<scanBound):
 ∀(k i:Nat) (s:Shared),i+k=n->St i s->SetX prog w s.heap S (firstMet val i)->
  (∀ s',Moved (S::wr) G s s'->SetX prog w s'.heap S (firstMet val n)->R (.ok (.ret .none)) s')->
  codeAny (model prog w) A (.builtin "set.update.loop" ⟨[.ref S,.ref I],[]⟩) R s:=by
 have nw:S∉wr:=fun z=>hSf (W.sub _ z);have up:∀ b∈wr,b∈S::wr:=fun b hb=>Sz _ hb;intro k
 induction k with
 | zero=>
   intro i s hk hst hX hR;obtain rfl:i=n:=hk;refine codeAny_builtin F.entry_set_update_loop ?_;rw[Around.under_plainId F.plain_set_update_loop _];exact wpAny_bind (m:=pyNext (.ref I)) (W.done s _ _ hst fun s' hm=>wpAny_pure (hR s' (hm.mono up) (hX.keep fun o e=>hm.heap S o nw e)))
 | succ k ih=>
   intro i s hk hst hX hR;refine codeAny_builtin F.entry_set_update_loop ?_;rw[Around.under_plainId F.plain_set_update_loop _];refine wpAny_bind (m:=pyNext (.ref I)) (W.item i s _ _ (by omega) hst fun v s1 hP st1 hm=>?_);obtain⟨t,rfl⟩:=hval i v hP;refine wpAny_bind (m:=holding [Value.int (val i) t] (setAdd S (.int (val i) t))) (wpAny_holding ?_);unfold setAdd;have X1:SetX prog w s1.heap S (firstMet val i):=hX.keep fun o e=>hm.heap S o nw e;have room:(firstMet val i).length+1<scanBound:=by have:=firstMet_length_le val i;omega
   refine wpAny_holding (wpAny_bind ((intKind prog w).pyHash (k:=val i) (intKind_is _ _ _ _) ?_));refine SR (s:={s1 with toks:=s1.toks+1}) X1 room fun h2 b hsb X2=>?_;rw[<-firstMet_succ]at X2;have oth:∀ b o,b≠S->s1.heap.get? b=some o->h2.get? b=some o:=fun b o hne e=>(hsb.2 b hne).trans e;refine wpAny_pure ⟨plainId_quiet F.plain_set_update_loop _,ih (i+1) _ (by omega) (W.frame _ s1 _ _ st1 (Ux _) fun b hbf o e=>oth b o (fun z=>hSf (z▸hbf)) e) X2 fun s3 m3 X3=>?_⟩;exact hR s3 (Moved.trans W.gtrans ((hm.mono up).then_heap (Ux _) fun b o hb e=>oth b o (fun z=>hb (by rw[z];exact TM)) e) m3) X3
end
section
variable{prog:Program}{w:World}{A:Around}{E:Value->Shared->Prop}{s:Shared}
noncomputable abbrev DF(w:World):Obj:={cls := .type "set",dict:=none,data := .set #[] 0 (.fresh 0 0 (!w.params.followText "set-order"))}
theorem ST(a:Value){Q₁:Value->Shared->Prop}(h:Q₁ (.ref s.heap.objs.size) {s with heap:=s.heap.push (DF w)}):codeAny (model prog w) A (.call (.builtin "set.__new__") ⟨[.type "set",a],[]⟩) (wants Q₁ E) s:=by
 refine codeAny_of_tree ?_;show wpAny _ A.in1 (checkBuiltinCall "set.__new__" ⟨[.type "set",a],[]⟩ >>= fun _=>again (.builtin "set.__new__" ⟨[.type "set",a],[]⟩)) _ _ s;refine wpAny_bind (wpAny_of_eq (F.newCall_set_1 a) (wpAny_pure ⟨plainId_quiet F.plain_set_new _,codeAny_builtin F.entry_set_new ?_⟩));rw[Around.under_plainId F.plain_set_new _];unfold Builtin.«set.__new__» Builtin.Frozenset.newClass;have sub:=sub_set_self;obtain⟨hp,g,d,tk,os⟩:=s;dsimp only
 wp_walk
 refine wpAny_askSetting (wpAny_pure ?_);dsimp only;simp only[newObj];exact wpAny_bind (wpAny_alloc (wpAny_pure (wpAny_pure h)))
theorem Ph(h:Heap):SetX prog w (h.push (DF w)) h.objs.size []:=
 ⟨_,#[],0,_,Sy _ rfl,⟨rfl,rfl,rfl⟩,rfl,fun e he=>by simp at he,by decide,rfl,⟨fun i j hi=>absurd hi (WH _),rfl,rfl⟩,by simp⟩
set_option maxHeartbeats 8000000 in
theorem RJ{l:Addr}{items:Array Value}{ns:List Int}{Q:Value->Shared->Prop}(hh:A.handled=none)(hl:s.heap.IsList l items)(hi:IntsAre items.toList ns)(hb:items.size+1<scanBound)
 (h:∀(h':Heap) (tk:Nat),SetX prog w h' s.heap.objs.size (firstMet (fun i=>ns.getD i 0) items.size)->(∀ b o,b<s.heap.objs.size->s.heap.get? b=some o->h'.get? b=some o)->Q (.ref s.heap.objs.size) {s with heap:=h',toks:=tk}):
 wpAny (model prog w) A (call (.type "set") [.ref l]) Q E s:=by
 obtain⟨c,tl,hmro⟩:=F.called_set.mro;have made:=F.called_set.made;have sub:=F.called_set.sub;have u1:=F.called_set.notType;have u2:=F.called_set.canCreate;have u3:=F.typeCall_set_1 (.ref l);refine wpAny_call (codeAny_of_tree ?_);show wpAny _ _ (callAny (.type "set") _) _ _ _;refine wpAny_pure ⟨Code.quiet_builtin _ (by decide +kernel),codeAny_builtin F.entry_type_call ?_⟩;rw[Around.under_plain (weight_type_call_type "set" [.ref l] []) rfl]
 repeat (any_goals (first | assumption | wp_step))
 refine codeAny_mono (ST (.ref l) (E:=E) (Q₁:=fun obj s₁=>obj = .ref s.heap.objs.size/\s₁={s with heap:=s.heap.push (DF w)}) ⟨rfl,rfl⟩) fun r s₁ hr=>?_;cases r with
 | error e=>exact hr
 | ok fl=>
   cases fl with
   | ret obj=>
     obtain⟨rfl,rfl⟩:=hr;have gS:(s.heap.push (DF w)).get? s.heap.objs.size=some (DF w):=Sy _ rfl;have hT:Shared.TypeIs {s with heap:=s.heap.push (DF w)} (.ref s.heap.objs.size) "set":=⟨_,gS,rfl⟩
     have u4:=F.called_set.init.lookup;have u5:=F.called_set.init.bind (.ref s.heap.objs.size)
     repeat (any_goals (first | assumption | wp_step))
     refine codeAny_mono (codeAny_call_builtin (R:=wants (fun r s₂=>r = .none/\∃ h' tk,s₂={s with heap:=h',toks:=tk}/\SetX prog w h' s.heap.objs.size (firstMet (fun i=>ns.getD i 0) items.size)/\
      (∀ b o,b<s.heap.objs.size->s.heap.get? b=some o->h'.get? b=some o)) E) F.called_set.init.plain F.entry_set_init (check_set_init_1 hT ?_)) fun r₂ s₂ hr₂=>?_
     ·obtain⟨⟨cl,di,da,sl⟩,ol,cl',nl,da'⟩:=hl;simp only at cl' da';subst cl' da';have hol:(s.heap.push (DF w)).get? l=some {cls := .type "list",dict:=di,data := .seq items nl,slots:=sl}:=So _ ol;have v1:=F.sub_list_set;have v2:=F.sub_list_frozenset;have v3:(Value.type "list" == Value.type "dict")=false:=by decide
      have hl1:(s.heap.push (DF w)).IsList l items:=⟨_,hol,rfl,nl,rfl⟩
      unfold Builtin.«set.__init__» noKeywords Builtin.Frozenset.updateFrom;generalize hPI:pyIter=PI
      wp_walk
      subst hPI;refine wpAny_pyIter_list hl1 (wpAny_bind (wpAny_runValue ?_));have lS:l<s.heap.objs.size:=Sw ol;have z1:(s.heap.push (DF w)).objs.size=s.heap.objs.size+1:=UC _ _;have lI:l≠(s.heap.push (DF w)).objs.size:=by rw[z1];exact TL (V4 lS)
      have hSf:s.heap.objs.size∉[(s.heap.push (DF w)).objs.size,l]:=by
       rw[z1];intro z;rcases TC.mp z with z | z
       ·exact absurd z (TL (W5 _))
       ·exact absurd (TH.mp z) (Wa lS)
      have hval:∀(i:Nat) (v:Value),items[i]?=some v->∃ t,v = .int ((fun i=>ns.getD i 0) i) t:=fun i v hv=>IntsAre.int_at hi i v (by rw[Tv];exact hv)
      refine SS ((Walks.list (by simp[hh]) _ l lI items).toS) s.heap.objs.size hSf (fun i=>ns.getD i 0) hval hb items.size 0 _ (UG _)
       ⟨⟨_,Sy _ rfl,rfl,rfl⟩,hl1.push _⟩ ((Ph s.heap).keep fun o e=>So _ e) fun s' hm X'=>?_
      obtain⟨h',g',d',tk',os'⟩:=s';obtain rfl:g'=s.gens:=hm.gens;obtain rfl:d'=s.drawn:=hm.drawn;obtain rfl:os'=s.os:=hm.os;refine wpAny_pure (wpAny_pure ⟨rfl,h',tk',rfl,X',fun b o hb e=>hm.heap b o (fun z=>?_) (So _ (So _ e))⟩);rcases TC.mp z with z | z
      ·exact absurd z (TL hb)
      ·have z':=TH.mp z;rw[z1]at z';exact absurd z' (TL (V4 hb))
     ·cases r₂ with
      | error e=>exact hr₂
      | ok fl₂=>
        cases fl₂ with
        | ret r=>
          obtain⟨rfl,h',tk,rfl,X',hk'⟩:=hr₂
          repeat (any_goals (first | assumption | wp_step))
          exact h _ _ X' hk'
        | _=>exact hr₂.elim
   | _=>exact hr.elim
end
open PySem PySem.Spec PyProof.Rows
namespace SiF
theorem slot_si_next:Slot "set_iterator" "__next__" "set_iterator.__next__":=
 .of (owner:="set_iterator") (n:="__next__") (by rw[typeLookup_type,builtinLookup_eq_fast];kernel_rfl) (by decide +kernel) (by decide +kernel) (by decide +kernel)
  (by first | exact .inl (by decide +kernel) | exact .inr (by decide +kernel)) (by rw[isSubtype_type];kernel_rfl)
theorem entry_si_next:entryFor table "set_iterator.__next__"=some Builtin.«set_iterator.__next__»:=entryFor_of_fast (by kernel_rfl)
theorem args_si_next(a:Value):argsOk "set_iterator.__next__" ⟨[a],[]⟩:=by unfold argsOk;kernel_rfl
theorem slot_si_iter:Slot "set_iterator" "__iter__" "set_iterator.__iter__":=
 .of (owner:="set_iterator") (n:="__iter__") (by rw[typeLookup_type,builtinLookup_eq_fast];kernel_rfl) (by decide +kernel) (by decide +kernel) (by decide +kernel)
  (by first | exact .inl (by decide +kernel) | exact .inr (by decide +kernel)) (by rw[isSubtype_type];kernel_rfl)
theorem entry_si_iter:entryFor table "set_iterator.__iter__"=some Builtin.«dict_keyiterator.__iter__»:=entryFor_alias (id':="dict_keyiterator.__iter__") (by kernel_rfl) rfl (by decide +kernel) (by kernel_rfl)
theorem args_si_iter(a:Value):argsOk "set_iterator.__iter__" ⟨[a],[]⟩:=by unfold argsOk;kernel_rfl
theorem entry_set_iter:entryFor table "set.__iter__"=some Builtin.«frozenset.__iter__»:=entryFor_alias (id':="frozenset.__iter__") (by kernel_rfl) rfl (by decide +kernel) (by kernel_rfl)
end SiF
theorem Bx{α:Type}:∀{l:List α} {i:Nat} (h:i<l.length),(l[i]::l.eraseIdx i).Perm l
 | a::l,0,h => .rfl
 | a::l,i+1,h=>(List.Perm.swap a _ _).trans ((Bx (l:=l) (i:=i) (by simpa using h)).cons a)
section
variable{prog:Program}{w:World}{A:Around}{E:Value->Shared->Prop}
theorem N1{src:Source}{n:Nat}(hn:n≠0){s:Shared}{Q:Nat->Shared->Prop}(h:∀ i d,i<n->Q i {s with drawn:=d}):wpAny (model prog w) A (choose src n) Q E s:=by
 intro Γ p hΓ;show Sem.wp _ _ (.choose src n .pure) _ _ _ _;rw[Sem.wp_choose];exact⟨hn,h _ _ (WQ _ (Nat.pos_of_ne_zero hn))⟩
theorem OT{α:Type}:∀(n:Nat) (xs:List α) (s:Shared) (Q:List α->Shared->Prop),xs.length=n->(∀ ys d,ys.Perm xs->Q ys {s with drawn:=d})->wpAny (model prog w) A (drawOrder n xs) Q E s
 | 0,xs,s,Q,hl,h=>by
   unfold drawOrder;have:xs=[]:=VB hl;subst this;exact wpAny_pure (h [] s.drawn .rfl)
 | n+1,[],s,Q,hl,h=>by cases hl
 | n+1,x::xs,s,Q,hl,h=>by
   unfold drawOrder;refine wpAny_bind (N1 (by simp) fun i d hi=>?_);rw[Sj hi];dsimp only;refine wpAny_bind (OT n _ _ _ (by rw[VL hi];simp at hl ⊢;omega) fun ys d' hp=>wpAny_pure (h _ d' ?_));exact((hp.cons _)).trans (Bx hi)
end
theorem Hq{α:Type}(f:Nat->Nat):∀(n k:Nat) (left:List α) (out:Array α),left.length=n->(pickOrder.go f n k left out).toList.Perm (out.toList++left)
 | 0,k,left,out,hl=>by
   have:left=[]:=VB hl;subst this;unfold pickOrder.go;simp
 | n+1,k,left,out,hl=>by
   unfold pickOrder.go;have hi:f k % left.length<left.length:=WQ _ (by omega);rw[Sj hi];dsimp only;refine(Hq f n (k+1) _ _ (by rw[VL hi];omega)).trans ?_;rw[UW,TF];exact List.Perm.append_left _ (Bx hi)
theorem J7{α:Type}(f:Nat->Nat)(xs:Array α):(pickOrder f xs).toList.Perm xs.toList:=by
 unfold pickOrder;simpa using Hq f xs.size 0 xs.toList #[] (by simp)
end L2
set_option maxHeartbeats 400000
namespace L2
open PySem PySem.Spec PyProof.Rows
noncomputable def SetAt(w:World)(h:Heap)(a:Addr)(es:Array (Int×Value))(ep:Nat)(t:SetTable):Prop:=∃ o,h.get? a=some o/\o.cls = .type "set"/\o.data = .set es ep t/\t.fits es.size=true/\Tab w t
theorem SetAt.keep{w:World}{h h':Heap}{a:Addr}{es:Array (Int×Value)}{ep:Nat}{t:SetTable}(x:SetAt w h a es ep t)(k:∀ o,h.get? a=some o->h'.get? a=some o):SetAt w h' a es ep t:=let ⟨o,e,r⟩:=x;⟨o,k o e,r⟩
noncomputable def slotAt(t:SetTable)(i:Nat):Nat:=if i=0 then 0 else t.place.getD (i - 1) 0+1
theorem GX{w:World}{t:SetTable}(T:Tab w t){i:Nat}(hi:i<=t.place.size):SetTable.below t.place (slotAt t i)=i:=by
 obtain⟨h1,h2,h3⟩:=F5 T.up (slotAt t i);by_cases z:i=0
 ·subst z;have e:slotAt t 0=0:=rfl;rw[e]at h2 h1 ⊢;by_cases q:SetTable.below t.place 0=0
  ·exact q
  ·have:=h2 0 (by omega) (by omega);omega
 ·have e:slotAt t i=t.place[i - 1]'(by omega)+1:=by unfold slotAt;rw[if_neg z];simp[WN,show i - 1<t.place.size by omega]
  rw[e]at h1 h2 h3 ⊢;rcases Vx (SetTable.below t.place (t.place[i - 1]'(by omega)+1)) i with q | q | q
  ·have:=h3 (i - 1) (by omega) (by omega);omega
  ·exact q
  ·have hi2:i<t.place.size:=by omega
   have a:=h2 i hi2 q;have b:=T.up (i - 1) i (by omega) hi2 (by omega);omega
inductive Way(w:World)(h:Heap)(T0 S:Addr)(es:Array (Int×Value))(ep:Nat)(t:SetTable)(fs:List (Int×Value))(i:Nat):Value->Prop where
 | text (hw:w.params.followText "set-order"=true) (hf:fs=(pickOrder (w.params.setOrder S ep) es).toList):Way w h T0 S es ep t fs i (.int 0 0)
 | table (hw:w.params.followText "set-order"=false) (hd:(!t.plain&&decide (es.size>1))=false) (hf:fs=es.toList):Way w h T0 S es ep t fs i (.int (slotAt t i:Nat) 0)
 | drawn (hw:w.params.followText "set-order"=false) (pl:List Nat) (o:Obj) (n:Nat) (ho:h.get? T0=some o) (hd:o.data = .seq (pl.map fun k=>Value.int (k:Nat) 0).toArray n) (hl:pl.length=fs.length)
    (hf:∀(k:Nat) p,pl[k]?=some p->es[p]?=fs[k]?):Way w h T0 S es ep t fs i (.ref T0)
noncomputable def Sit(w:World)(h:Heap)(T0 I S:Addr)(es:Array (Int×Value))(ep:Nat)(t:SetTable)(fs:List (Int×Value))(i:Nat):Prop:=
 ∃ o first,h.get? I=some o/\o.cls = .type "set_iterator"/\o.data = .fields #[first,.int (i:Nat) 0,.ref S,.int (es.size:Nat) 0,.int (ep:Nat) 0]/\Way w h T0 S es ep t fs i first
section
variable{prog:Program}{w:World}{A:Around}{E:Value->Shared->Prop}{s:Shared}{T0 I S:Addr}{es:Array (Int×Value)}{ep:Nat}{t:SetTable}{fs:List (Int×Value)}{i:Nat}
theorem Sit.typeIs(x:Sit w s.heap T0 I S es ep t fs i):s.TypeIs (.ref I) "set_iterator":=let ⟨o,_,e,c,_⟩:=x;⟨o,e,c⟩
theorem As{b:Bool}(hw:w.params.followText "set-order"=b){Q:Bool->Shared->Prop}(h:Q b s):wpAny (model prog w) A setsByText Q E s:=by
 unfold setsByText;refine wpAny_bind (wpAny_askSetting (wpAny_pure ?_));show Q (w.params.followText "set-order") s;rw[hw];exact h
theorem C8{sl:Nat}{Q:Option (Value×Nat)->Shared->Prop}(y:SetAt w s.heap S es ep t)(hw:w.params.followText "set-order"=true)(h:Q (((pickOrder (w.params.setOrder S ep) es)[i]?).map fun e=>(e.2,sl)) s):
 wpAny (model prog w) A (setNext S sl i ep) Q E s:=by
 obtain⟨oS,hoS,hcS,hdS,hf,T⟩:=y;unfold setNext;refine wpAny_bind (wpAny_setState_of hoS hdS hf ?_);dsimp only;refine wpAny_bind (As hw ?_);rw[if_pos rfl,if_neg (by simp)];refine wpAny_bind ?_;unfold setWalk;refine wpAny_bind (wpAny_setState_of hoS hdS hf ?_);dsimp only;refine wpAny_bind (As hw ?_);rw[if_pos rfl];refine wpAny_bind (wpAny_askSetting (wpAny_pure ?_));exact wpAny_pure h
theorem Bt{Q:Option (Value×Nat)->Shared->Prop}(y:SetAt w s.heap S es ep t)(hw:w.params.followText "set-order"=false)(hd:(!t.plain&&decide (es.size>1))=false)(hi:i<=es.size)
 (h:Q (match es[i]?,t.place[i]? with | some (_,x),some j=>some (x,j+1) | _,_=>none) s):wpAny (model prog w) A (setNext S (slotAt t i) i ep) Q E s:=by
 obtain⟨oS,hoS,hcS,hdS,hf,T⟩:=y
 have hsz:t.place.size=es.size:=by
  simp only[SetTable.fits,Si,beq_iff_eq]at hf;exact hf.1
 unfold setNext;refine wpAny_bind (wpAny_setState_of hoS hdS hf ?_);dsimp only;refine wpAny_bind (As hw ?_);rw[if_neg Ss];show wpAny _ _ (if (!t.plain&&decide (es.size>1))=true then _ else _) _ _ _;rw[hd,if_neg Ss];show wpAny _ _ ((if (!t.led&&!es.isEmpty)=true then unsupported "set:maker-not-led" else pure ()) >>= _) _ _ _;rw[T.led,hw];refine wpAny_bind ?_;rw[show(!(!false)&&!es.isEmpty)=false from rfl,if_neg Ss];refine wpAny_pure (wpAny_pure ?_);rw[GX T (by omega)];exact h
theorem J8{e:Int×Value}{Q:Option Value->Shared->Prop}(x:Sit w s.heap T0 I S es ep t fs i)(y:SetAt w s.heap S es ep t)(hl:fs.length=es.size)(hi:fs[i]?=some e)
 (hQ:∀ h',Tn I s.heap h'->Sit w h' T0 I S es ep t fs (i+1)->Q (some e.2) {s with heap:=h'}):wpAny (model prog w) A (pyNext (.ref I)) Q E s:=by
 obtain⟨o,first,ho,hc,hd,W⟩:=id x;obtain⟨oS,hoS,hcS,hdS,hf,T⟩:=id y;have hlt:i<es.size:=by rw[<-hl];exact(gM hi).1
 unfold pyNext;refine wpAny_bind (wpAny_attempt (wpAny_callSpecial?_slot (name:=Str.ofString "__next__") x.typeIs SiF.slot_si_next (wpAny_call_entry SiF.slot_si_next x.typeIs SiF.entry_si_next ?_ (SiF.args_si_next _))));unfold Builtin.«set_iterator.__next__»;refine wpAny_bind (m:=slotArgs "__next__" 0 ⟨[.ref I],[]⟩) (wpAny_pure ?_);refine wpAny_bind (wpAny_fieldsOf ho hd ?_);dsimp only;refine wpAny_bind (wpAny_setEntries_of hoS hdS hf ?_);rw[if_neg (by simp)]
 have step2:∀(nx:Nat) (v:Value),v=e.2->(∀ h',(∀ T o,T≠I->s.heap.get? T=some o->h'.get? T=some o)->Way w h' T0 S es ep t fs (i+1) (.int nx 0))->
  wpAny (model prog w) A.in1 (do setField (.ref I) 0 (rawInt nx);setField (.ref I) 1 (rawInt ((i:Int)+1));ret v) (fun fin s'=>∃ v,fin=Fin.done (Flow.ret v)/\wpAny (model prog w) A (pure (some v)) Q E s')
   (fun e s'=>wpAny (model prog w) A (do let __do_lift <- isInstance e (Value.type "StopIteration");if __do_lift=true then pure none else throw e) Q E s') s:=by
  intro nx v hv hW;subst hv;refine wpAny_bind (wpAny_setField ho hd (by simp) ?_);have g1:=Tu (Obj.mapFields (·.setIfInBounds 0 (rawInt nx))) ho (Obj.isFreed_of_fields (Obj.data_mapFields hd _));refine wpAny_bind (wpAny_setField g1 (Obj.data_mapFields hd _) (by simp) ?_);have g2:=Tu (Obj.mapFields (·.setIfInBounds 1 (rawInt ((i:Int)+1)))) g1 (Obj.isFreed_of_fields (Obj.data_mapFields (Obj.data_mapFields hd _) _));refine wpAny_pure ⟨_,rfl,wpAny_pure (hQ _ ((Tn.update _ I _).trans (Tn.update _ I _)) ⟨_,_,g2,?_,?_,hW _ fun T o hT e=>?_⟩)⟩
  ·exact((Obj.cls_mapFields ..).trans (Obj.cls_mapFields ..)).trans hc
  ·rw[Obj.data_mapFields (Obj.data_mapFields hd _)];simp[rawInt]
  ·exact(U3 _ _ (Ne.symm hT)).trans ((U3 _ _ (Ne.symm hT)).trans e)
 cases W with
 | text hw hf'=>
   dsimp only;refine wpAny_bind (C8 (i:=i) (ep:=ep) y hw ?_);have:(pickOrder (w.params.setOrder S ep) es)[i]?=some e:=by rw[<-Tv,<-hf'];exact hi
   rw[this];exact step2 0 e.2 rfl fun h' _ => .text hw hf'
 | table hw hd' hf'=>
   dsimp only;refine wpAny_bind (Bt (i:=i) (ep:=ep) y hw hd' (by omega) ?_)
   have hsz:t.place.size=es.size:=by
    simp only[SetTable.fits,Si,beq_iff_eq]at hf;exact hf.1
   have e1:es[i]?=some e:=by rw[<-Tv,<-hf'];exact hi
   have e2:t.place[i]?=some (t.place[i]'(by omega)):=by simp[show i<t.place.size by omega]
   rw[e1,e2];refine step2 _ e.2 rfl fun h' _=>?_;have:t.place[i]'(by omega)+1=slotAt t (i+1):=by unfold slotAt;rw[if_neg (by omega)];simp[WN,show i<t.place.size by omega]
   rw[this];exact .table hw hd' hf'
 | drawn hw pl oT nT hoT hdT hlT hfT=>
   dsimp only;refine wpAny_bind (wpAny_seqItems hoT hdT ?_);have hip:i<pl.length:=by omega
   have e1:pl[i]?=some (pl[i]'hip):=by simp
   have e2:(pl.map fun k=>Value.int (k:Nat) 0).toArray[(i:Int).toNat]?=some (.int ((pl[i]'hip:Nat):Int) 0):=by simp[hip]
   dsimp only;rw[e2];dsimp only;have e3:es[pl[i]'hip]?=some e:=by rw[hfT i _ e1];exact hi
   refine wpAny_bind ?_;unfold setNextDrawn;refine wpAny_bind (wpAny_setState_of hoS hdS hf ?_);dsimp only;rw[if_neg (by simp),Uw,e3];refine wpAny_pure (wpAny_bind (wpAny_setField ho hd (by simp) ?_));have g1:=Tu (Obj.mapFields (·.setIfInBounds 1 (rawInt ((i:Int)+1)))) ho (Obj.isFreed_of_fields (Obj.data_mapFields hd _));have hTI:T0≠I:=fun z=>by subst z;rw[ho]at hoT;cases hoT;rw[hd]at hdT;cases hdT
   refine wpAny_pure ⟨_,rfl,wpAny_pure (hQ _ (Tn.update _ I _) ⟨_,_,g1,(Obj.cls_mapFields ..).trans hc,?_,.drawn hw pl oT nT ((U3 _ _ (Ne.symm hTI)).trans hoT) hdT hlT hfT⟩)⟩;rw[Obj.data_mapFields hd];simp[rawInt]
theorem Ki{Q:Option Value->Shared->Prop}(hh:A.handled=none)(hQ:∀ h',WD I s.heap h'->Q none {s with heap:=h'})(k:Sem Unit)(hk:∀(Q':Unit->Shared->Prop) (E':Value->Shared->Prop),(∀ h',Tn I s.heap h'->Q' () {s with heap:=h'})->wpAny (model prog w) A.in1 k Q' E' s):
 wpAny (model prog w) A.in1 (k >>= fun _=>newExc (.type "StopIteration") [] >>= fun e=>raiseNew (α:=Fin) e) (fun fin s'=>∃ v,fin=Fin.done (Flow.ret v)/\wpAny (model prog w) A (pure (some v)) Q E s')
  (fun e s'=>wpAny (model prog w) A (do let __do_lift <- isInstance e (Value.type "StopIteration");if __do_lift=true then pure none else throw e) Q E s') s:=by
 refine wpAny_bind (hk _ _ fun h' hs=>?_);refine wpAny_bind ?_;simp only[newExc,newTuple];refine wpAny_bind (wpAny_newObj_type ?_ (by size_fits));refine wpAny_bind (m:=firstArgMember _ _) (wpAny_of_eq (a:=Value.none) (by first | rfl | (simp only[firstArgMember];rfl)) ?_);refine wpAny_newObj_type ?_ (by size_fits);simp only[raiseNew];refine wpAny_bind (wpAny_handled ?_);rw[show A.in1.handled=none from hh];refine wpAny_bind (wpAny_pure (wpAny_throw ?_));refine wpAny_bind (wpAny_isInstance (T:="StopIteration") (b:=true) ⟨_,Sy _ rfl,rfl⟩ isSubtype_stop ?_);exact wpAny_pure (hQ _ ((hs.extBut.push _).push _))
theorem Kj{Q:Option Value->Shared->Prop}(hh:A.handled=none)(x:Sit w s.heap T0 I S es ep t fs es.size)(y:SetAt w s.heap S es ep t)(hl:fs.length=es.size)
 (hQ:∀ h',WD I s.heap h'->Q none {s with heap:=h'}):wpAny (model prog w) A (pyNext (.ref I)) Q E s:=by
 obtain⟨o,first,ho,hc,hd,W⟩:=id x;obtain⟨oS,hoS,hcS,hdS,hf,T⟩:=id y;unfold pyNext;refine wpAny_bind (wpAny_attempt (wpAny_callSpecial?_slot (name:=Str.ofString "__next__") x.typeIs SiF.slot_si_next (wpAny_call_entry SiF.slot_si_next x.typeIs SiF.entry_si_next ?_ (SiF.args_si_next _))));unfold Builtin.«set_iterator.__next__»;refine wpAny_bind (m:=slotArgs "__next__" 0 ⟨[.ref I],[]⟩) (wpAny_pure ?_);refine wpAny_bind (wpAny_fieldsOf ho hd ?_);dsimp only;refine wpAny_bind (wpAny_setEntries_of hoS hdS hf ?_);rw[if_neg (by simp)];have one:∀(Q':Unit->Shared->Prop) (E':Value->Shared->Prop),(∀ h',Tn I s.heap h'->Q' () {s with heap:=h'})->wpAny (model prog w) A.in1 (setField (.ref I) 2 .none) Q' E' s:=fun Q' E' q=>wpAny_setField ho hd (by simp) (q _ (Tn.update ..));cases W with
 | text hw hf'=>
   dsimp only;refine wpAny_bind (C8 (i:=es.size) (ep:=ep) y hw ?_);have:(pickOrder (w.params.setOrder S ep) es)[es.size]?=none:=by rw[<-Tv,<-hf'];exact Uu (by omega)
   rw[this];exact Ki hh hQ _ one
 | table hw hd' hf'=>
   dsimp only;refine wpAny_bind (Bt (i:=es.size) (ep:=ep) y hw hd' (Sr _) ?_);rw[show es[es.size]?=none by simp];exact Ki hh hQ _ one
 | drawn hw pl oT nT hoT hdT hlT hfT=>
   dsimp only;refine wpAny_bind (wpAny_seqItems hoT hdT ?_);have e2:(pl.map fun k=>Value.int (k:Nat) 0).toArray[((es.size:Nat):Int).toNat]?=none:=by simp;omega
   dsimp only;rw[e2];dsimp only
   have two:=Ki (prog:=prog) (w:=w) (A:=A) (E:=E) (s:=s) (I:=I) (Q:=Q) hh hQ (setField (.ref I) 0 (rawInt 0) >>= fun _=>setField (.ref I) 2 .none) fun Q' E' q=>by
    refine wpAny_bind (wpAny_setField ho hd (by simp) ?_);have g1:=Tu (Obj.mapFields (·.setIfInBounds 0 (rawInt 0))) ho (Obj.isFreed_of_fields (Obj.data_mapFields hd _));exact wpAny_setField g1 (Obj.data_mapFields hd _) (by simp) (q _ ((Tn.update _ I _).trans (Tn.update _ I _)))
   rw[bind_assoc]at two;exact two
theorem J9{Q:Value->Shared->Prop}(x:Sit w s.heap T0 I S es ep t fs i)(h:Q (.ref I) s):wpAny (model prog w) A (pyIter (.ref I)) Q E s:=by
 refine wpAny_pyIter_slot x.typeIs SiF.slot_si_iter (wpAny_call_entry SiF.slot_si_iter x.typeIs SiF.entry_si_iter ?_ (SiF.args_si_iter _));show wpAny _ _ (ret (.ref I)) _ _ s;exact wpAny_pure ⟨_,rfl,"set_iterator",_,x.typeIs,SiF.slot_si_next.lookup,h⟩
theorem Sit.keep{h h':Heap}(x:Sit w h T0 I S es ep t fs i)(k:∀ b,b=I\/b=T0->∀ o,h.get? b=some o->h'.get? b=some o):Sit w h' T0 I S es ep t fs i:=by
 obtain⟨o,first,ho,hc,hd,W⟩:=x;refine⟨o,first,k I (.inl rfl) _ ho,hc,hd,?_⟩;cases W with
 | text hw hf=>exact .text hw hf
 | table hw hp hf=>exact .table hw hp hf
 | drawn hw pl oT n hoT hdT hl hf=>exact .drawn hw pl oT n (k T0 (.inr rfl) _ hoT) hdT hl hf
theorem RK(hh:A.handled=none)(T0 I S:Addr)(hne:S≠I)(es:Array (Int×Value))(ep:Nat)(t:SetTable)(fs:List (Int×Value))(hl:fs.length=es.size):
 Walks prog w A I [I,S,T0] [I] es.size (fun i v=>∃ e,fs[i]?=some e/\e.2=v) (fun i h=>Sit w h T0 I S es ep t fs i/\SetAt w h S es ep t) where
 sub:=fun b hb=>by simp at hb;simp[hb]
 frame:=fun _ _ _ st hk=>⟨st.1.keep fun b hb o e=>hk b (by rcases hb with rfl | rfl<;>simp) o e,st.2.keep fun o e=>hk S (by simp) o e⟩
 item:=fun i s Q E hi st hQ=>by
  have hi':i<fs.length:=by omega
  refine J8 (e:=fs[i]) st.1 st.2 hl (by simp) fun h' hs' x'=>?_;exact hQ fs[i].2 h' s.toks ⟨fs[i],by simp,rfl⟩ ⟨x',st.2.keep fun o e=>hs'.extBut _ _ hne e⟩ fun b o hb e=>hs'.extBut b o (fun h=>hb (by simp[h])) e
 done:=fun s Q E st hQ=>Kj hh st.1 st.2 hl fun h' he'=>hQ h' s.toks fun b o hb e=>he' b o (fun h=>hb (by simp[h])) e
 self:=fun _ _ _ _ st hQ=>J9 st.1 hQ
theorem RL{Q:Value->Shared->Prop}(y:SetAt w s.heap S es ep t)(hz:es.size<=sizeLine)
 (hQ:∀ h' d I T0 fs,(∀ b o,s.heap.get? b=some o->h'.get? b=some o)->s.heap.objs.size<=I->s.heap.objs.size<=T0->h'.objs.size=I+1->fs.Perm es.toList->Sit w h' T0 I S es ep t fs 0->Q (.ref I) {s with heap:=h',drawn:=d}):wpAny (model prog w) A (pyIter (.ref S)) Q E s:=by
 obtain⟨oS,hoS,hcS,hdS,hf,T⟩:=id y;have hT:s.TypeIs (.ref S) "set":=⟨oS,hoS,hcS⟩
 refine wpAny_pyIter_slot hT F.slot_set_iter (wpAny_call_entry F.slot_set_iter hT SiF.entry_set_iter ?_ (F.args_set_iter_1 _));unfold Builtin.«frozenset.__iter__»;refine wpAny_bind (m:=Builtin.Frozenset.slot0 "__iter__" ⟨[.ref S],[]⟩) (wpAny_pure ?_);refine wpAny_bind (m:=Builtin.Frozenset.sizeOf S) ?_;unfold Builtin.Frozenset.sizeOf;refine wpAny_bind (wpAny_setEntries_of hoS hdS hf (wpAny_pure ?_));refine wpAny_bind ?_;unfold setDrawn;refine wpAny_bind (wpAny_setState_of hoS hdS hf ?_);dsimp only
 have fin:∀(first:Value) (h:Heap) (d:Drawn) (fs:List (Int×Value)) (T0:Addr),(∀ b o,s.heap.get? b=some o->h.get? b=some o)->s.heap.objs.size<=h.objs.size->s.heap.objs.size<=T0->fs.Perm es.toList->(∀ h',(∀ b o,h.get? b=some o->h'.get? b=some o)->Way w h' T0 S es ep t fs 0 first)->
  wpAny (model prog w) A.in1 (setEpoch S >>= fun e=>newFields "set_iterator" [first,rawInt 0,.ref S,rawInt (es.size:Nat),rawInt e] >>= fun v=>ret v)
   (fun fin s'=>∃ r,fin=Fin.done (Flow.ret r)/\∃ T' r_1,s'.TypeIs r T'/\typeLookup (.type T') "__next__"=pure (some r_1)/\Q r s') E {s with heap:=h,drawn:=d}:=by
  intro first h d fs T0 hk h1 h2 hp hW
  refine wpAny_bind (wpAny_setEpoch_of (hk _ _ hoS) hdS hf ?_);refine wpAny_bind (wpAny_newObj_type ?_ (by size_fits));refine wpAny_pure ⟨_,rfl,"set_iterator",_,⟨_,Sy _ rfl,rfl⟩,SiF.slot_si_next.lookup,?_⟩;have kp:∀ b o,h.get? b=some o->(h.push {cls := .type "set_iterator",data := .fields #[first,rawInt 0,.ref S,rawInt (es.size:Nat),rawInt (ep:Nat)]}).get? b=some o:=fun b o e=>So _ e;exact hQ _ d h.objs.size T0 fs (fun b o e=>kp b o (hk b o e)) h1 h2 (UC _ _) hp ⟨_,first,Sy _ rfl,rfl,rfl,hW _ kp⟩
 cases hw:w.params.followText "set-order" with
 | true=>
   refine wpAny_bind (As hw (wpAny_pure ?_));show wpAny _ _ (if (!true&&(!t.plain&&decide (es.size>1)))=true then _ else _) _ _ _;rw[if_neg (by simp)];refine wpAny_bind (wpAny_pure ?_);exact fin _ s.heap s.drawn _ s.heap.objs.size (fun _ _ e=>e) (Sr _) (Sr _) (J7 (w.params.setOrder S ep) es) fun h' _ => .text hw rfl
 | false=>
   refine wpAny_bind (As hw (wpAny_pure ?_));show wpAny _ _ (if (!false&&(!t.plain&&decide (es.size>1)))=true then _ else _) _ _ _;cases hpl:(!t.plain&&decide (es.size>1)) with
   | false=>
     rw[if_neg (by simp)];refine wpAny_bind (wpAny_pure ?_);exact fin _ s.heap s.drawn es.toList s.heap.objs.size (fun _ _ e=>e) (Sr _) (Sr _) .rfl fun h' _ => .table hw hpl rfl
   | true=>
     rw[if_pos (by simp)];refine wpAny_bind (OT es.size (Sx es.size) s _ (by simp) fun pl d hp=>?_);refine wpAny_bind (wpAny_newTuple ?_ (by rw[Sk,hp.length_eq,UM];exact hz));have hin:∀ p∈pl,p<es.size:=fun p hpm=>TY.mp (hp.mem_iff.mp hpm);have efs:∃ fs:List (Int×Value),fs=pl.filterMap (fun p=>es[p]?):=⟨_,rfl⟩
     obtain⟨fs,efs⟩:=efs
     have hfs:∀(l:List Nat),(∀ p∈l,p<es.size)->(l.filterMap fun p=>es[p]?).length=l.length/\∀(k:Nat) p,l[k]?=some p->es[p]?=(l.filterMap fun p=>es[p]?)[k]?:=by
      intro l
      induction l with
      | nil=>intro _;exact⟨rfl,fun k p h=>by simp at h⟩
      | cons a l ih=>
        intro hl;obtain⟨i1,i2⟩:=ih fun p hp=>hl p (Sz _ hp);have ha:=hl a (TM ..);have ea:es[a]?=some es[a]:=by simp[ha]
        rw[VS ea];refine⟨by simp[i1],fun k p h=>?_⟩;cases k with
        | zero=>simp at h;subst h;simp[ha]
        | succ k=>simpa using i2 k p (by simpa using h)
     obtain⟨l1,l2⟩:=hfs pl hin;refine fin _ _ d fs s.heap.objs.size (fun b o e=>So _ e) (by rw[UC];exact Ux _) (Sr _) ?_ fun h' k=>?_
     ·rw[efs];exact(hp.filterMap _).trans (by rw[filterMap_getElem?_range])
     ·exact .drawn hw pl _ 0 (k _ _ (Sy _ rfl)) rfl (by rw[efs,l1]) (fun k p h=>by rw[efs];exact l2 k p h)
end
end L2
set_option maxHeartbeats 800000
namespace L2
open PySem PySem.Spec PyProof.Rows
section
variable{prog:Program}{w:World}{A:Around}{E:Value->Shared->Prop}{s:Shared}{S:Addr}{es:Array (Int×Value)}{ep:Nat}{t:SetTable}
theorem RM{Q:Bool->Shared->Prop}(hT:s.TypeIs (.ref S) "set")(h:Q false s):wpAny (model prog w) A (Builtin.List.listLengthHint (.ref S)) Q E s:=by
 unfold Builtin.List.listLengthHint;refine wpAny_bind (wpAny_specialOf hT PySem.F.slot_set_len.lookup ?_);generalize hid:("set.__len__":String)=id0
 wp_delta
 rw[show splitId id0=some ("set","__len__") from by subst hid;decide +kernel];subst hid;refine wpAny_bind (wpAny_isInstance (T:="set") (b:=true) hT sub_set_self ?_);refine wpAny_ite_split (fun z=>absurd z (by decide)) (fun _=>?_);refine wpAny_ite_split (fun _=>?_) (fun z=>absurd (by decide +kernel) z);exact wpAny_bind (wpAny_typeOf hT (wpAny_pure h))
theorem Kk{Q:List Value->Shared->Prop}(hh:A.handled=none)(y:SetAt w s.heap S es ep t)(hz:es.size<=sizeLine)
 (hQ:∀ h' tk d (acc:List Value) (fs:List (Int×Value)),(∀ b o,s.heap.get? b=some o->h'.get? b=some o)->s.heap.objs.size<=h'.objs.size->fs.Perm es.toList->acc=fs.map (·.2)->Q acc {s with heap:=h',toks:=tk,drawn:=d}):
 wpAny (model prog w) A (collect (.ref S)) Q E s:=by
 obtain⟨oS,hoS,hcS,hdS,hf,T⟩:=id y;unfold collect;refine wpAny_bind (wpAny_runValue (codeAny_builtin PySem.F.entry_proto_collect ?_));rw[Around.under_plainId PySem.F.plain_proto_collect _];refine wpAny_bind (m:=newList []) (wpAny_newObj_type ?_);refine wpAny_pure ⟨plainId_quiet PySem.F.plain_list_iadd _,codeAny_builtin PySem.F.entry_list_iadd ?_⟩;rw[Around.under_plainId PySem.F.plain_list_iadd _];show wpAny _ A.in1 (Builtin.List.listExtendWith (.ref s.heap.objs.size) (.ref S) (.ref s.heap.objs.size)) _ _ {s with heap:=s.heap.push {cls := .type "list",data := .seq ([]:List Value).toArray}};have y1:SetAt w (s.heap.push {cls := .type "list",data := .seq ([]:List Value).toArray}) S es ep t:=y.keep fun o e=>So _ e;have hne:s.heap.objs.size≠S:=fun z=>by rw[<-z]at hoS;exact absurd (Sw hoS) (UA _)
 have hL:(s.heap.push {cls := .type "list",data := .seq ([]:List Value).toArray}).get? s.heap.objs.size=some {cls := .type "list",data := .seq #[]}:=Sy _ rfl;have hz1:(s.heap.push {cls := .type "list",data := .seq ([]:List Value).toArray}).objs.size=s.heap.objs.size+1:=UC _ _;unfold Builtin.List.listExtendWith;refine wpAny_bind (wpAny_typeOf (T:="set") ⟨oS,So _ hoS,hcS⟩ ?_);have b1:Builtin.List.listSameRef (.ref s.heap.objs.size) (.ref S)=false:=by simp[Builtin.List.listSameRef,hne]
 have b2:(Value.type "set" == Value.type "list")=false:=by decide
 have b3:(Value.type "set" == Value.type "tuple")=false:=by decide
 simp only[b1,b2,b3,WV,U1,if_false];refine wpAny_bind (RL (s:={s with heap:=s.heap.push {cls := .type "list",data := .seq ([]:List Value).toArray}}) y1 hz fun h2 d I T0 fs k2 hI hT0 hz2 hp x2=>?_);have y2:SetAt w h2 S es ep t:=y1.keep fun o e=>k2 _ _ e;refine wpAny_bind (wpAny_holding (RM (s:={s with heap:=h2,drawn:=d}) ⟨oS,k2 _ _ (So _ hoS),hcS⟩ ?_));have hL2:=k2 _ _ hL;have LI:s.heap.objs.size≠I:=by rw[hz1]at hI;exact TL hI
 have LT:s.heap.objs.size≠T0:=by rw[hz1]at hT0;exact TL hT0
 have SI:S≠I:=fun z=>by
  have h1:=Sw hoS;rw[hz1,<-z]at hI;exact absurd (Vy hI) (W7 h1)
 have nf:s.heap.objs.size∉[I,S,T0]:=by
  simp only[TC,List.not_mem_nil,or_false,not_or];exact⟨LI,hne,LT⟩
 have hlen:fs.length=es.size:=by rw[hp.length_eq,Sv]
 have W:=(RK (prog:=prog) (w:=w) (A:=A.in1) hh T0 I S SI es ep t fs hlen).toS
 have key:∀(h:Heap) (c tk:Nat),Sit w h T0 I S es ep t fs 0->SetAt w h S es ep t->(∀ b o,b≠s.heap.objs.size->h2.get? b=some o->h.get? b=some o)->h.get? s.heap.objs.size=some {cls := .type "list",dict:=none,data := .seq #[] c,slots:=#[]}->s.heap.objs.size<=h.objs.size->
  codeAny (model prog w) A (.builtin "list.extend.loop" ⟨[.ref s.heap.objs.size,.ref I,.ref s.heap.objs.size],[]⟩) (wants (fun v s'=>∃ h' tk' acc c',v = .ref s.heap.objs.size/\s'={s with heap:=h',toks:=tk',drawn:=d}/\(∀ b o,s.heap.get? b=some o->h'.get? b=some o)/\s.heap.objs.size<=h'.objs.size/\h'.get? s.heap.objs.size=some {cls := .type "list",dict:=none,data := .seq acc c',slots:=#[]}/\ItemsOf (fun i v=>∃ e,fs[i]?=some e/\e.2=v) acc es.size) E) {s with heap:=h,toks:=tk,drawn:=d}:=by
  intro h c tk x3 y3 k3 hL3 hz3;refine codeAny_extend_loopS W hz s.heap.objs.size nf (.ref s.heap.objs.size) es.size 0 _ #[] c rfl (U7 _) ⟨x3,y3⟩ hL3 (ItemsOf.nil _) fun s' acc c' hm hS' hacc=>?_;rw[Moved.eq_with hm];refine⟨s'.heap,s'.toks,acc,c',rfl,rfl,fun b o e=>hm.heap b o (fun z=>?_) (k3 b o (TL (Sw e)) (k2 _ _ (So _ e))),Um (Sw hS'),hS',hacc⟩;rcases TC.mp z with z | z
  ·exact absurd z (TL (Sw e))
  ·have z':=TH.mp z;rw[hz1]at hI;have:=Sw e;rw[z']at this;exact absurd this (W7 (Vy hI))
 have fin:∀ r s',wants (fun v s'=>∃ h' tk' acc c',v = .ref s.heap.objs.size/\s'={s with heap:=h',toks:=tk',drawn:=d}/\(∀ b o,s.heap.get? b=some o->h'.get? b=some o)/\s.heap.objs.size<=h'.objs.size/\h'.get? s.heap.objs.size=some {cls := .type "list",dict:=none,data := .seq acc c',slots:=#[]}/\ItemsOf (fun i v=>∃ e,fs[i]?=some e/\e.2=v) acc es.size) E r s'->
  wants (fun v s'=>wpAny (model prog w) A (match v with | .ref a=>load a >>= fun o=>(match o.data with | .seq xs _=>pure xs.toList | _=>unsupported "internal:collect") | _=>unsupported "internal:collect") Q E s') E r s':=by
  intro r s' hr;cases r with
  | error e=>exact hr
  | ok fl=>
    cases fl with
    | ret v=>
      obtain⟨h',tk',acc,c',rfl,rfl,h3,h4,h5,h6⟩:=hr;refine wpAny_bind (wpAny_load (s:={s with heap:=h',toks:=tk',drawn:=d}) h5 (wpAny_pure (hQ h' tk' d _ fs h3 h4 hp ?_)));refine Vz fun k=>?_;rw[TB,Tv];by_cases hk:k<es.size
      ·have ha:acc[k]?=some (acc[k]'(by rw[h6.1];exact hk)):=by simp[h6.1,hk]
       obtain⟨e,he,ev⟩:=h6.2 k _ ha;rw[ha,he,<-ev];rfl
      ·rw[Array.getElem?_eq_none (by rw[h6.1];omega),Uu (by omega)];rfl
    | _=>exact hr.elim
 refine wpAny_ite_split (fun _=>?_) (fun _=>wpAny_pure ⟨plainId_quiet PySem.F.plain_extend_loop _,codeAny_mono (key _ _ _ x2 y2 (fun _ _ _ e=>e) hL2 (Um (Sw hL2))) fin⟩);refine wpAny_bind (wpAny_rule (wpAny_bind ?_));show wpAny _ _ (updateSeq s.heap.objs.size (·.push .none) >>= fun _=>updateSeq s.heap.objs.size (·.pop)) _ _ _;refine wpAny_bind (wpAny_updateSeq hL2 rfl ?_);have u1:=Tu (Obj.mapSeq (·.push Value.none)) hL2 rfl;refine wpAny_updateSeq (hz:=by seq_fits) u1 rfl ?_;have u2:=Tu (Obj.mapSeq (·.pop)) u1 rfl;have oth:∀ b o,b≠s.heap.objs.size->h2.get? b=some o->((h2.update s.heap.objs.size (Obj.mapSeq (·.push Value.none))).update s.heap.objs.size (Obj.mapSeq (·.pop))).get? b=some o:=fun b o hb e=>(U3 _ _ (Ne.symm hb)).trans ((U3 _ _ (Ne.symm hb)).trans e);refine wpAny_pure ⟨plainId_quiet PySem.F.plain_extend_loop _,codeAny_mono (key _ _ _ (x2.keep fun b hb o e=>oth b o (by rcases hb with rfl | rfl;exact LI.symm;exact LT.symm) e) (y2.keep fun o e=>oth _ o hne.symm e) oth u2 ?_) fin⟩;rw[VU,VU];exact Um (Sw hL2)
end
theorem _root_.L2.Inv.dr{X:Cx}{pins:List (Addr×Obj)}{σ:St}{H:Hp}{s:Shared}(I:Inv X pins σ H s)(d:Drawn):Inv X pins σ H {s with drawn:=d}:=
 ⟨I.ok,I.os,I.bare,I.base,I.loc,I.cell,I.free,I.freeC,I.pin,I.hok,I.len⟩
section
variable{prog:Program}{w:World}{A:Around}{E:Value->Shared->Prop}{s:Shared}
theorem N3{S:Addr}{L:List Int}{Q:Value->Shared->Prop}(hh:A.handled=none)(x:SetX prog w s.heap S L)(h64:L.length<128)
 (h:∀(h':Heap) (tk:Nat) (d:Drawn) (l:Addr) (out:Array Value) (e:Nat),(∀ b o,s.heap.get? b=some o->h'.get? b=some o)->s.heap.objs.size<=l->h'.get? l=some (seqObj "list" out e)->IntsAre out.toList (srt L)->Q (.ref l) {s with heap:=h',toks:=tk,drawn:=d}):
 wpAny (model prog w) A (call (.builtin "sorted") [.ref S]) Q E s:=by
 obtain⟨o,es,ep,t,ho,hx,hd,hel,hb,hf,hT,hp⟩:=x;refine Calls.call_function_entry kind_sorted plain_sorted entry_sorted (args_sorted1 _) ?_;unfold Builtin.«sorted»;refine wpAny_bind (m:=checkCount "sorted" 1 1 _) (wpAny_pure ?_);refine wpAny_bind (Kk (A:=A.in1) hh ⟨o,ho,hx.1,hd,hf,hT⟩ (fits_of_scanBound hb) fun h2 tk d acc fs k2 hz2 hpf hacc=>?_)
 have hints:∀ v∈acc,∃ n tt,v=Value.int n tt:=by
  intro v hv;rw[hacc]at hv;obtain⟨e,he,rfl⟩:=UR.mp hv;obtain⟨⟨k,hk,_⟩,_⟩:=hel e (hpf.mem_iff.mp he);obtain⟨tt,e2⟩:=Value.isInt_shape (k:=k) (v:=e.2) hk;exact⟨k,tt,e2⟩
 have hI:IntsAre acc (acc.map numOf):=intsAre_map acc hints
 have hpL:(acc.map numOf).Perm L:=by
  rw[hacc,Vv];exact(hpf.map _).trans hp
 have hl64:acc.length<128:=by have:=hpL.length_eq;rw[Sk]at this;omega
 refine wpAny_bind (wpAny_newList ?_ (by rw[sizeLine_eq];omega));have hoL:(h2.push (seqObj "list" acc.toArray 0)).get? h2.objs.size=some (seqObj "list" acc.toArray 0):=Sy _ rfl;refine wpAny_bind (wpAny_holding (wpAny_call_entry (s:={s with heap:=h2.push (seqObj "list" acc.toArray 0),toks:=tk,drawn:=d}) slot_list_sort ⟨_,hoL,rfl⟩ entry_list_sort (Srt.sort_all hoL hI hl64 fun out ns' a1 a2 a3=>⟨_,rfl,?_⟩) (args_list_sort _)));have en:ns'=srt L:=EI (a2.trans hpL) a3;subst en;obtain⟨e,he⟩:=sortedHeap_at (vs:=acc) (out:=out) hoL;refine wpAny_pure ⟨_,rfl,h _ tk d h2.objs.size out e (fun b o eb=>?_) hz2 he a1⟩;have hlt:=Sw (k2 b o eb);rw[sortedHeap_old (TL hlt) (by rw[UC];exact V4 hlt)];exact So _ (k2 b o eb)
end
section
variable{X:Cx}
theorem JA:bootBuiltins "sorted"=some (.builtin "sorted"):=by decide +kernel
noncomputable def CY(ns:List Int):List Int:=firstMet (fun i=>ns.getD i 0) ns.length
noncomputable def Kl(K:Sh)(te:TE):TE:=fun σ H Q=>te σ H fun x H1=>∃(p:Addr) (ns:List Int),x = .ref p/\SqL K H1 p (ns.map V.int)/\ns.length<128/\∀ l,H1 l=none->Q (.ref l) (upd H1 l (.lst ((srt (CY ns)).map V.int)))
theorem GY{e:Expr}{te:TE}{p1 p2 pos1 pos2:Pos}(hc:X.calm=true)(hl:Gl X "sorted")(hml:X.mg "sorted"=none)(hs:Gl X "set")(hms:X.mg "set"=none)(he:PE X e te)
 (h1:starEach [e] X.env=(false,eval e X.env)::starEach [] X.env:=by rfl)
 (h2:starEach [.Call (.Name "set" p2) [e] [] pos2] X.env=(false,eval (.Call (.Name "set" p2) [e] [] pos2) X.env)::starEach [] X.env:=by rfl)
 (h3:(backTo pos1 (starEach [] X.env)).any (·.1)=false:=by rfl) (h4:(backTo pos2 (starEach [] X.env)).any (·.1)=false:=by rfl):
 PE X (.Call (.Name "sorted" p1) [.Call (.Name "set" p2) [e] [] pos2] [] pos1) (Kl X.K te):=by
 intro pins s σ H Q I h;refine wpAny_Call_Name_kw (BE I hl hml JA ?_ (by decide) (by decide));refine PyProof.Rows.callWith_builtin1 ?_ h2 h3;rw[h2];show wpAny _ _ (spliced ((false,eval (.Call (.Name "set" p2) [e] [] pos2) X.env)::backTo pos1 (starEach [] X.env))) _ _ s;refine Calls.spliced_cons ?_;refine wpAny_Call_Name_kw (BE I hs hms b_set ?_ (by decide) (by decide));refine PyProof.Rows.callWith_type1 ?_ h1 h4;rw[h1];show wpAny _ _ (spliced ((false,eval e X.env)::backTo pos2 (starEach [] X.env))) _ _ s;refine Calls.spliced_cons (thn (he pins s σ H _ I h) fun u s1 ⟨x,H1,I1,rx,p,ns,ex,hq,hb,q1⟩=>Calls.spliced_nil ?_);subst ex;cases rx;obtain⟨its,r',pl,hz⟩:=I1.list hq;have hlen:=r'.length;rw[Sk]at hlen;refine RJ (items:=its.toArray) (ns:=ns) (I1.ok.hd hc) pl.isList (by simpa using B5 r') (by simp only[Sq];show its.length+1<4096;omega) fun h' tk hX hk=>?_;refine Calls.spliced_nil ?_;have k1:∀ b o,s1.heap.get? b=some o->h'.get? b=some o:=fun b o e=>hk b o (Sw e) e;have I2:Inv X pins σ H1 {s1 with heap:=h',toks:=tk}:=I1.kept k1
 have hX:SetX X.prog X.w h' s1.heap.objs.size (CY ns):=by
  have e:its.toArray.size=ns.length:=by rw[Sq,hlen]
  rw[e]at hX;exact hX
 have hl64:(CY ns).length<128:=VI (firstMet_length_le _ _) hb;refine N3 (s:={s1 with heap:=h',toks:=tk}) (I1.ok.hd hc) hX hl64 fun h3 tk3 d l out e k3 hz3 hl3 ho3=>?_;have J:=(I2.dr d).laid (h':=h3) (a:=l) (o := .lst ((srt (CY ns)).map V.int)) (t':=tk3) k3 hz3 (show ObjOk X.prog X.w _ _ _ (.lst ((srt (CY ns)).map V.int)) from ⟨?_,out.toList,e,CV ho3,by simpa using hl3⟩)
 ·exact⟨.ref l,_,J,rfl,q1 l ((I2.dr d).hok.fresh hz3)⟩
 ·rw[Sk,(F1 _).length_eq];exact Um (Iw (by omega))
end
end L2
set_option maxHeartbeats 2000000
namespace L2
open PySem PySem.Spec PyProof.Rows
open PySem.AutoSeq1 (wpAny_loadPart')
section
variable{X:Cx}
theorem RN:bootBuiltins "any"=some (.builtin "any"):=by decide +kernel
end
end L2
namespace Rf
open PySem L2
noncomputable abbrev QE:=SV->Sto->Prop
noncomputable abbrev WE:=EnvS->Sto->QE->Prop
noncomputable abbrev WA:=EnvS->Sto->(List SV->Sto->Prop)->Prop
noncomputable abbrev WT:=EnvS->Sto->(Bool->Sto->Prop)->Prop
noncomputable def Post(K:Sh)(as:List Addr)(H:Hp)(Q:VK):QE:=fun x S'=>∀ as' H' v,Go as H as' H'->Ok K as' H' S'->Rl K as' H' v x->Q v H'
noncomputable def RO(K:Sh)(as:List Addr)(H:Hp)(Q:List V->Hp->Prop):List SV->Sto->Prop:=fun xs S'=>∀ as' H' vs,Go as H as' H'->Ok K as' H' S'->RlAll K as' H' vs xs->Q vs H'
noncomputable def PostT(K:Sh)(as:List Addr)(H:Hp)(Q:Bool->Hp->Prop):Bool->Sto->Prop:=fun b S'=>∀ as' H',Go as H as' H'->Ok K as' H' S'->Q b H'
noncomputable def lift(K:Sh)(w:WE):TE:=fun σ H Q=>∃ as ρ S,Ok K as H S/\EnvOk K as H σ ρ/\w ρ S (Post K as H Q)
noncomputable def liftA(K:Sh)(w:WA):TA:=fun σ H Q=>∃ as ρ S,Ok K as H S/\EnvOk K as H σ ρ/\w ρ S (RO K as H Q)
noncomputable def liftT(K:Sh)(w:WT):TT:=fun σ H Q=>∃ as ρ S,Ok K as H S/\EnvOk K as H σ ρ/\w ρ S (PostT K as H Q)
noncomputable def Mono(w:WE):Prop:=∀ ρ S (P P':QE),(∀ x S',P x S'->P' x S')->w ρ S P->w ρ S P'
noncomputable def MonoA(w:WA):Prop:=∀ ρ S (P P':List SV->Sto->Prop),(∀ x S',P x S'->P' x S')->w ρ S P->w ρ S P'
noncomputable def MonoT(w:WT):Prop:=∀ ρ S (P P':Bool->Sto->Prop),(∀ x S',P x S'->P' x S')->w ρ S P->w ρ S P'
theorem f9{X:Cx}{e:Expr}{t:TE}(t':TE)(h:PE X e t)(imp:∀ σ H Q,t' σ H Q->t σ H Q):PE X e t':=fun pins s σ H Q I hw=>h pins s σ H Q I (imp σ H Q hw)
theorem By{X:Cx}{e:Expr}{t:TT}(t':TT)(h:PT X e t)(imp:∀ σ H Q,t' σ H Q->t σ H Q):PT X e t':=fun pins s σ H Q I hw=>h pins s σ H Q I (imp σ H Q hw)
theorem Km{X:Cx}{e:List Expr}{t:TA}(t':TA)(h:PA X e t)(imp:∀ σ H Q,t' σ H Q->t σ H Q):PA X e t':=fun p pins s σ H Q I hw=>h p pins s σ H Q I (imp σ H Q hw)
section
variable{K:Sh}{as as1 as2:List Addr}{H H1 H2:Hp}
theorem Post.mono{Q:VK}{x:SV}{S:Sto}(h:Post K as H Q x S)(g:Go as H as1 H1):Post K as1 H1 Q x S:=fun as' H' v g'=>h as' H' v (g.trans g')
end
noncomputable abbrev S2:=SV->SV->Sto->QE->Prop
noncomputable abbrev S1:=SV->Sto->QE->Prop
noncomputable abbrev Sn:=List SV->Sto->QE->Prop
noncomputable def w2(s:S2)(a b:WE):WE:=fun ρ S Q=>a ρ S fun x S1=>b ρ S1 fun y S2=>s x y S2 Q
noncomputable def w1(s:S1)(a:WE):WE:=fun ρ S Q=>a ρ S fun x S1=>s x S1 Q
noncomputable def wn(s:Sn)(a:WA):WE:=fun ρ S Q=>a ρ S fun xs S1=>s xs S1 Q
noncomputable def Mono2(s:S2):Prop:=∀ x y S (P P':QE),(∀ x S',P x S'->P' x S')->s x y S P->s x y S P'
noncomputable def Dw(s:S1):Prop:=∀ x S (P P':QE),(∀ x S',P x S'->P' x S')->s x S P->s x S P'
noncomputable def MonoN(s:Sn):Prop:=∀ x S (P P':QE),(∀ x S',P x S'->P' x S')->s x S P->s x S P'
theorem Mono.two{s:S2}{a b:WE}(hs:Mono2 s)(ha:Mono a)(hb:Mono b):Mono (w2 s a b):=fun ρ S P P' i h=>ha _ _ _ _ (fun _ _ h=>hb _ _ _ _ (fun _ _ h=>hs _ _ _ _ _ i h) h) h
theorem Mono.one{s:S1}{a:WE}(hs:Dw s)(ha:Mono a):Mono (w1 s a):=fun ρ S P P' i h=>ha _ _ _ _ (fun _ _ h=>hs _ _ _ _ i h) h
theorem Mono.n{s:Sn}{a:WA}(hs:MonoN s)(ha:MonoA a):Mono (wn s a):=fun ρ S P P' i h=>ha _ _ _ _ (fun _ _ h=>hs _ _ _ _ i h) h
noncomputable def BD(K:Sh)(s:S2)(r:R2):Prop:=∀ as H S x y v u Q,Ok K as H S->Rl K as H v x->Rl K as H u y->s x y S (Post K as H Q)->r v u H Q
noncomputable def SU(K:Sh)(s:S1)(r:V->Hp->VK->Prop):Prop:=∀ as H S x v Q,Ok K as H S->Rl K as H v x->s x S (Post K as H Q)->r v H Q
noncomputable def RP(K:Sh)(s:Sn)(r:List V->Hp->VK->Prop):Prop:=∀ as H S xs vs Q,Ok K as H S->RlAll K as H vs xs->s xs S (Post K as H Q)->r vs H Q
theorem AI{K:Sh}{s:S2}{r:R2}{wa wb:WE}(sim:BD K s r)(ms:Mono2 s)(ma:Mono wa)(mb:Mono wb):∀ σ H Q,lift K (w2 s wa wb) σ H Q->tOp r (lift K wa) (lift K wb) σ H Q:=by
 rintro σ H Q ⟨as,ρ,S,ok,en,h⟩;refine⟨as,ρ,S,ok,en,ma _ _ _ _ (fun x S1 hb as1 H1 v g1 ok1 rv=>?_) h⟩;refine⟨as1,ρ,S1,ok1,en.mono g1.pre (g1.ku ok),mb _ _ _ _ (fun y S2 hs as2 H2 u g2 ok2 ru=>?_) hb⟩;exact sim as2 H2 S2 x y v u Q ok2 (Rl.mono g2.pre (g2.ku ok1) x v rv) ru (ms _ _ _ _ _ (fun z S3 hz=>hz.mono (g1.trans g2)) hs)
theorem Pi{K:Sh}{s:S1}{r:V->Hp->VK->Prop}{wa:WE}(sim:SU K s r)(ms:Dw s)(ma:Mono wa):∀ σ H Q,lift K (w1 s wa) σ H Q->tUn r (lift K wa) σ H Q:=by
 rintro σ H Q ⟨as,ρ,S,ok,en,h⟩;refine⟨as,ρ,S,ok,en,ma _ _ _ _ (fun x S1 hs as1 H1 v g1 ok1 rv=>?_) h⟩;exact sim as1 H1 S1 x v Q ok1 rv (ms _ _ _ _ (fun z S3 hz=>hz.mono g1) hs)
theorem RQ{K:Sh}{s:Sn}{r:List V->Hp->VK->Prop}{wa:WA}(sim:RP K s r)(ms:MonoN s)(ma:MonoA wa):∀ σ H Q,lift K (wn s wa) σ H Q->tCB r (liftA K wa) σ H Q:=by
 rintro σ H Q ⟨as,ρ,S,ok,en,h⟩;refine⟨as,ρ,S,ok,en,ma _ _ _ _ (fun x S1 hs as1 H1 v g1 ok1 rv=>?_) h⟩;exact sim as1 H1 S1 x v Q ok1 rv (ms _ _ _ _ (fun z S3 hz=>hz.mono g1) hs)
noncomputable def Dx:WA:=fun _ S Q=>Q [] S
noncomputable def DG(a:WE)(b:WA):WA:=fun ρ S Q=>a ρ S fun x S1=>b ρ S1 fun xs S2=>Q (x::xs) S2
theorem MonoA.nil:MonoA Dx:=fun _ _ _ _ i h=>i _ _ h
theorem MonoA.cons{a:WE}{b:WA}(ha:Mono a)(hb:MonoA b):MonoA (DG a b):=fun _ _ _ _ i h=>ha _ _ _ _ (fun _ _ h=>hb _ _ _ _ (fun _ _ h=>i _ _ h) h) h
theorem N4{X:Cx}{K:Sh}:PA X [] (liftA K Dx):=Km _ CQ fun σ H Q ⟨as,ρ,S,ok,en,h⟩=>h as H [] (Go.refl _ _) ok .nil
theorem Kn{K:Sh}{a:WE}{b:WA}(ma:Mono a)(mb:MonoA b):∀ σ H Q,liftA K (DG a b) σ H Q->OJ (lift K a) (liftA K b) σ H Q:=by
 rintro σ H Q ⟨as,ρ,S,ok,en,h⟩;refine⟨as,ρ,S,ok,en,ma _ _ _ _ (fun x S1 hs as1 H1 v g1 ok1 rv=>?_) h⟩;refine⟨as1,ρ,S1,ok1,en.mono g1.pre (g1.ku ok),mb _ _ _ _ (fun xs S2 hq as2 H2 vs g2 ok2 rs=>?_) hs⟩;exact hq as2 H2 _ (g1.trans g2) ok2 (.cons (Rl.mono g2.pre (g2.ku ok1) x v rv) rs)
theorem Ko{X:Cx}{K:Sh}{e:Expr}{es:List Expr}{a:WE}{b:WA}(ma:Mono a)(mb:MonoA b)(h1:PE X e (lift K a))(h2:PA X es (liftA K b))(hs:starEach (e::es) X.env=(false,eval e X.env)::starEach es X.env):PA X (e::es) (liftA K (DG a b)):=Km _ (Ac h1 h2 hs) (Kn ma mb)
noncomputable def Pj(i:Nat):WE:=fun ρ S Q=>∃ x,ρ[i]?=some (some x)/\Q x S
noncomputable def wC(x:SV):WE:=fun _ S Q=>Q x S
theorem Mono.var{i:Nat}:Mono (Pj i):=fun _ _ _ _ i ⟨x,a,b⟩=>⟨x,a,i _ _ b⟩
theorem Mono.c{x:SV}:Mono (wC x):=fun _ _ _ _ i h=>i _ _ h
theorem N5{K:Sh}{i:Nat}:∀ σ H Q,lift K (Pj i) σ H Q->MQ i σ H Q:=fun σ H Q ⟨as,ρ,S,ok,en,x,e,h⟩=>let ⟨v,ev,rv⟩:=en.2 i x e;⟨v,ev,h as H v (Go.refl _ _) ok rv⟩
theorem F6{K:Sh}{x:SV}{v:V}(hx:∀ as H,Rl K as H v x):∀ σ H Q,lift K (wC x) σ H Q->tC v σ H Q:=fun σ H Q ⟨as,ρ,S,ok,en,h⟩=>h as H v (Go.refl _ _) ok (hx as H)
noncomputable def big:Nat:=100000
theorem BL{n:Nat}(h:n<=big):n<=sizeLine:=Td h (by decide)
theorem EM{n:Nat}(h:n<big):n<sizeLine:=TV h (by decide)
noncomputable def N6:Sn:=fun xs S Q=>xs.length<=big/\Q (.tup xs) S
noncomputable def N7:Sn:=fun xs S Q=>xs.length<=big/\Q (.loc S.length) (S++[.lst xs])
theorem MonoN.tup:MonoN N6:=fun _ _ _ _ i h=>⟨h.1,i _ _ h.2⟩
theorem MonoN.lst:MonoN N7:=fun _ _ _ _ i h=>⟨h.1,i _ _ h.2⟩
theorem Pk{K:Sh}{as:List Addr}{H:Hp}{S:Sto}{p:Addr}(ok:Ok K as H S):Rl K (as++[p]) (upd H p (.lst vs)) (.ref p) (.loc S.length):=rl_loc.mpr ⟨p,by rw[<-ok.len,TX],rfl⟩
theorem A6{K:Sh}{as:List Addr}{H:Hp}{S:Sto}{Q:VK}{xs:List SV}{vs:List V}(ok:Ok K as H S)(r:RlAll K as H vs xs)(h:Post K as H Q (.loc S.length) (S++[.lst xs])):∀ p,H p=none->Q (.ref p) (upd H p (.lst vs)):=fun p hp=>
 h (as++[p]) _ (.ref p) (Go.push hp) (ok.push hp r) (Pk ok)
theorem C9{K:Sh}{as:List Addr}{H:Hp}{S:Sto}{Q:VK}{xs:List SV}{vs:List V}(ok:Ok K as H S)(r:RlAll K as H vs xs)(h:Post K as H Q (.tup xs) S):∀ p,H p=none->Q (.ref p) (upd H p (.tup vs)):=fun p hp=>
 h as _ (.ref p) (Go.new hp) (ok.new hp) (rl_tup.mpr ⟨p,vs,rfl,n8,RlAll.mono (Te _) (Ar hp) xs vs r⟩)
theorem N8{K:Sh}{wa:WA}(ma:MonoA wa):∀ σ H Q,lift K (wn N6 wa) σ H Q->Qw (liftA K wa) σ H Q:=by
 rintro σ H Q ⟨as,ρ,S,ok,en,h⟩;refine⟨as,ρ,S,ok,en,ma _ _ _ _ (fun xs S1 hs as1 H1 vs g1 ok1 rv=>?_) h⟩;exact⟨by rw[rv.length];exact BL hs.1,C9 ok1 rv (hs.2.mono g1)⟩
theorem N9{K:Sh}{wa:WA}(ma:MonoA wa):∀ σ H Q,lift K (wn N7 wa) σ H Q->Qx (liftA K wa) σ H Q:=by
 rintro σ H Q ⟨as,ρ,S,ok,en,h⟩;refine⟨as,ρ,S,ok,en,ma _ _ _ _ (fun xs S1 hs as1 H1 vs g1 ok1 rv=>?_) h⟩;exact⟨by rw[rv.length];exact BL hs.1,A6 ok1 rv (hs.2.mono g1)⟩
end Rf
namespace L2
open PySem PySem.Spec PyProof.Rows
section
variable{prog:Program}{w:World}{A:Around}{E:Value->Shared->Prop}{s:Shared}
theorem SetX.kind{h:Heap}{a:Addr}{L:List Int}(x:SetX prog w h a L):h.SetOf (intKind prog w) a (fun k=>decide (k∈L)) L.length:=by
 obtain⟨o,es,ep,t,ho,hx,hd,hel,hb,hf,hT,hp⟩:=x;refine⟨o,es,ep,t,ho,hx,hd,hel,fun k=>?_,hb,hf,by rw[<-hp.length_eq];simp⟩;rw[decide_eq_true_eq,<-hp.mem_iff,UR];constructor
 ·rintro⟨e,he,rfl⟩;obtain⟨⟨k,hk,_⟩,_⟩:=hel e he;exact⟨e,he,by rw[Cy hk];exact hk⟩
 ·rintro⟨e,he,hk⟩;exact⟨e,he,Cy hk⟩
end
section
variable{X:Cx}
theorem Kp:OpR X (compareOp .In) (fun x y H Q=>∃(k:Int) (p:Addr) (S:Int->Bool) (n:Nat),x = .int k/\y = .ref p/\H p=some (.set S n)/\Q (.bl (S k)) H):=by
 intro pins s σ H x y v u Q I rx ry h;obtain⟨k,p,S,n,rfl,rfl,hp,q⟩:=h;obtain⟨t,rfl⟩:=rx;cases ry;have hS:s.heap.SetOf (intKind X.prog X.w) p S n:=I.hok p _ hp;exact wpAny_inSet_of (k:=k) (intKind_is _ _ _ _) rfl hS ⟨.bl _,H,I.tok _,rfl,q⟩
end
open PySem PySem.Spec PyProof.Rows
section
variable{X:Cx}
theorem Hr(hu:X.A.units<cLine):OpR X (compareOp .Eq) (fun x y H Q=>∃ a b xs,x = .ref a/\y = .ref b/\SqT X.K H a xs/\SqT X.K H b []/\Q (.bl xs.isEmpty) H):=by
 intro pins s σ H x y v u Q I rx ry h;obtain⟨a,b,xs,rfl,rfl,ha,hb,q⟩:=h;cases rx;cases ry;obtain⟨its1,r1,p1,_⟩:=I.tuple ha;obtain⟨its2,r2,p2,_⟩:=I.tuple hb;cases r2;refine SeqAt.eq_tupleAt (e:=fun _=>true) (show s.heap.IsTuple a its1.toArray from p1) (show s.heap.IsTuple b _ from p2) hu (fun j _ h2=>by simp at h2) ?_;refine⟨.bl xs.isEmpty,H,I,?_,q⟩;show Value.bool _=Value.bool _
 congr 1
 cases xs with
 | nil=>cases r1;rfl
 | cons x xs=>cases r1;simp
end
open PySem PySem.Spec PyProof.Rows
theorem Vals.rev:∀{xs:List V} {us:List Value},Vals xs us->Vals xs.reverse us.reverse
 | _,_,.nil => .nil
 | _,_,.cons r rr=>by
   rw[UV,UV];exact(Vals.rev rr).append (.cons r .nil)
section
variable{X:Cx}{e st:Expr}{te:TE}{tp:TO}{pos p2:Pos}
noncomputable def SW(K:Sh)(te:TE)(tp:TO):TE:=fun σ H Q=>te σ H fun x H1=>tp σ H1 fun u H2=>u=some (-1)/\∃ a xs,x = .ref a/\SqL K H2 a xs/\∀ p,H2 p=none->Q (.ref p) (upd H2 p (.lst xs.reverse))
theorem Pl(he:PE X e te)(hp:PO X (some st) tp):PE X (.Subscript e (.Slice none none (some st) p2) pos) (SW X.K te tp):=by
 intro pins s σ H Q I h;refine Subscript_ (thn (he pins s σ H _ I h) fun v s1 ⟨x,H1,I1,r1,q1⟩=>?_);refine wpAny_Slice ?_;rw[evalPart_none];refine wpAny_pure (wpAny_pure ?_);refine thn (hp pins s1 σ H1 _ I1 q1) fun vu s3 ⟨u,H3,I3,pu,q3⟩=>?_;obtain⟨rfl,a,xs,rfl,hx,q⟩:=q3;cases r1;have I4:Inv X pins σ H3 {s3 with heap:=s3.heap.push {cls := .type "slice",data := .fields #[.none,.none,vu]}}:=I3.kept (t':=s3.toks) fun b ob q=>So _ q;show wpAny (model X.prog X.w) X.A (subscriptTail e (.Slice none none (some st) p2) (.ref a) (.ref s3.heap.objs.size)) (EP X pins σ Q) X.xe {s3 with heap:=s3.heap.push {cls := .type "slice",data := .fields #[.none,.none,vu]}};obtain⟨its,r,ht,hz⟩:=I4.list hx;have hlen:=r.length;refine tail_any (ops:=[.ref a,.ref s3.heap.objs.size]) ht.isList.typeIs slot_list_getitem.lookup ?_ (by with_unfolding_all rfl);refine wpAny_getItem_list_slice ht.isList (WK.new ..) .none .none pu (by decide) ?_ (by rw[Sq]<;>omega);rw[PySem.W.krv_pick];refine⟨.ref _,_,I4.laid (t':=s3.toks) (o := .lst xs.reverse) (fun b ob q=>So _ q) (Sr _) ?_,rfl,q _ (I4.hok.fresh (Sr _))⟩;exact⟨by rw[UY];exact hz,_,0,r.rev,Sy _ rfl⟩
end
end L2
namespace Rf
open PySem L2
noncomputable def AV:SV->Bool
 | .non=>true | .bl _=>true | .int _=>true | .str _=>true | _=>false
noncomputable def toV:SV->V
 | .non => .non | .bl b => .bl b | .int i => .int i | .str x => .str x | _ => .non
noncomputable def eqF:SV->SV->Bool
 | .non,.non=>true
 | .bl a,.bl b=>a == b
 | .bl a,.int b=>(if a then 1 else 0) == b
 | .int a,.bl b=>a == (if b then 1 else 0)
 | .int a,.int b=>a == b
 | .str a,.str b=>a == b
 | _,_=>false
noncomputable def EN(xs ys:List SV):Bool:=xs.length == ys.length&&(xs.zip ys).all fun p=>eqF p.1 p.2
noncomputable def inS(x:SV)(xs:List SV):Bool:=xs.any fun y=>eqF y x
section
variable{K:Sh}{as:List Addr}{H:Hp}
theorem Hs{x:SV}{v:V}(f:AV x=true)(r:Rl K as H v x):v=toV x:=by
 cases x with
 | non=>exact rl_non.mp r
 | bl _=>exact rl_bl.mp r
 | int _=>exact rl_int.mp r
 | str _=>exact rl_str.mp r
 | _=>cases f
theorem At:∀{xs:List SV} {vs:List V},xs.all AV=true->RlAll K as H vs xs->vs=xs.map toV
 | [],_,_,r=>rla_nil.mp r
 | x::xs,_,f,r=>by
   rw[UB,Si]at f;obtain⟨v,vs,rfl,r1,r2⟩:=rla_cons.mp r;rw[Hs f.1 r1,At f.2 r2];rfl
theorem F7{x:SV}(f:AV x=true):y9 (toV x)=true:=by cases x<;>first | rfl | cases f
theorem CZ{xs:List SV}(f:xs.all AV=true):(xs.map toV).all y9=true:=by
 rw[TK]at f ⊢;intro v hv;obtain⟨x,hx,rfl⟩:=UR.mp hv;exact F7 (f x hx)
theorem EO{x y:SV}(fx:AV x=true)(fy:AV y=true):eqV (toV x) (toV y)=eqF x y:=by
 cases x<;>first | cases fx;done | (cases y<;>first | rfl | cases fy)
theorem Pm{x:SV}{xs:List SV}(fx:AV x=true)(f:xs.all AV=true):inV (toV x) (xs.map toV)=inS x xs:=by
 unfold inV inS;rw[List.any_map];rw[TK]at f;rw[UN,V8,V8];constructor
 ·rintro⟨y,hy,e⟩;exact⟨y,hy,by rw[<-EO (f y hy) fx];exact e⟩
 ·rintro⟨y,hy,e⟩;exact⟨y,hy,by show eqV (toV y) (toV x)=true;rw[EO (f y hy) fx];exact e⟩
theorem NA:∀{xs ys:List SV},xs.all AV=true->ys.all AV=true->Am (xs.map toV) (ys.map toV)=EN xs ys:=by
 intro xs ys fx fy;unfold Am EN;rw[Sk,Sk,List.zip_map,W0]
 congr 1
 rw[UN,TK,TK];rw[TK]at fx fy;constructor
 ·rintro h ⟨a,b⟩ hm;have:=h (a,b) hm;rw[<-EO (fx a (Uh hm).1) (fy b (Uh hm).2)];exact this
 ·rintro h ⟨a,b⟩ hm;have:=h (a,b) hm;show eqV (toV a) (toV b)=true;rw[EO (fx a (Uh hm).1) (fy b (Uh hm).2)];exact this
noncomputable def Aa:SV->Sto->Option (List SV)
 | .tup xs,_=>some xs
 | .ro xs,_=>some xs
 | .loc k,S=>match S[k]? with | some (.lst xs)=>some xs | _=>none
 | _,_=>none
theorem EQ{x:SV}{v:V}{S:Sto}{xs:List SV}(ok:Ok K as H S)(r:Rl K as H v x)(h:Aa x S=some xs):∃ a vs,v = .ref a/\(SqL K H a vs\/SqT K H a vs)/\RlAll K as H vs xs:=by
 cases x with
 | tup ys=>
   cases h;obtain⟨p,vs,rfl,hp,rr⟩:=rl_tup.mp r;exact⟨p,vs,rfl,.inr (SqT.of hp),rr⟩
 | ro ys=>
   cases h;obtain⟨p,vs,rfl,hp,rr⟩:=rl_ro.mp r;exact⟨p,vs,rfl,.inl hp.sq,rr⟩
 | loc k=>
   obtain⟨a,ea,rfl⟩:=rl_loc.mp r;unfold Aa at h;cases hs:S[k]? with
   | none=>simp only[hs]at h;cases h
   | some o=>
     cases o with
     | lst ys=>
       simp only[hs]at h;cases h;obtain⟨vs,h1,rr⟩:=ok.obj k _ a hs ea;exact⟨a,vs,rfl,.inl (SqL.of h1),rr⟩
     | iset _=>simp only[hs]at h;cases h
     | dct _=>simp only[hs]at h;cases h
     | dcf _ _ _=>simp only[hs]at h;cases h
 | _=>cases h
theorem v5{k:Nat}{v:V}{S:Sto}{xs:List SV}(ok:Ok K as H S)(r:Rl K as H v (.loc k))(h:S[k]?=some (.lst xs)):∃ a vs,v = .ref a/\as[k]?=some a/\H a=some (.lst vs)/\RlAll K as H vs xs:=by
 obtain⟨a,ea,rfl⟩:=rl_loc.mp r;obtain⟨vs,h1,rr⟩:=ok.obj k _ a h ea;exact⟨a,vs,rfl,ea,h1,rr⟩
end
noncomputable def Kq:S2
 | .int i,.int j,S,Q=>Q (.int (i+j)) S
 | .loc k,.loc l,S,Q=>∃ xs ys,S[k]?=some (.lst xs)/\S[l]?=some (.lst ys)/\xs.length+ys.length<=big/\Q (.loc S.length) (S++[.lst (xs++ys)])
 | _,_,_,_=>False
noncomputable def GZ(C:Int->Int->Prop)(g:Int->Int->SV):S2
 | .int i,.int j,S,Q=>C i j/\Q (g i j) S
 | _,_,_,_=>False
noncomputable def CA(g:Int->Int->SV):S2
 | .int i,.int j,S,Q=>Q (g i j) S
 | _,_,_,_=>False
noncomputable def Kr:S2
 | .int i,.int j,S,Q=>CMul i j/\Q (.int (i * j)) S
 | .loc k,.int j,S,Q=>∃ xs,S[k]?=some (.lst xs)/\(-1000000<j/\j<1000000)/\xs.length * j.toNat<=big/\Q (.loc S.length) (S++[.lst (Su j.toNat xs).flatten])
 | _,_,_,_=>False
theorem Mono2.add:Mono2 Kq:=fun x y S P P' i h=>by
 unfold Kq at h ⊢
 split at h<;>first
  | exact i _ _ h
  | exact⟨h.1,i _ _ h.2⟩
  | (obtain⟨xs,ys,a,b,c,d⟩:=h;exact⟨xs,ys,a,b,c,i _ _ d⟩)
  | exact h.elim
theorem Mono2.int{C:Int->Int->Prop}{g:Int->Int->SV}:Mono2 (GZ C g):=fun x y S P P' i h=>by
 unfold GZ at h ⊢;split at h
 ·exact⟨h.1,i _ _ h.2⟩
 ·exact h.elim
theorem Mono2.int0{g:Int->Int->SV}:Mono2 (CA g):=fun x y S P P' i h=>by
 unfold CA at h ⊢;split at h
 ·exact i _ _ h
 ·exact h.elim
theorem Mono2.mul:Mono2 Kr:=fun x y S P P' i h=>by
 unfold Kr at h ⊢;split at h
 ·exact⟨h.1,i _ _ h.2⟩
 ·obtain⟨xs,a,b,c,d⟩:=h;exact⟨xs,a,b,c,i _ _ d⟩
 ·exact h.elim
section
variable{K:Sh}
theorem Post.here{as:List Addr}{H:Hp}{Q:VK}{x:SV}{S:Sto}{v:V}(h:Post K as H Q x S)(ok:Ok K as H S)(r:Rl K as H v x):Q v H:=h as H v (Go.refl _ _) ok r
theorem ER{C:Int->Int->Prop}{g:Int->Int->SV}{g':Int->Int->V}(hg:∀ as H i j,Rl K as H (g' i j) (g i j)):BD K (GZ C g) (rI C g'):=fun as H S x y v u Q ok rx ry h=>by
 unfold GZ at h;split at h
 ·rw[rl_int]at rx ry;exact⟨_,_,rx,ry,h.1,h.2.here ok (hg _ _ _ _)⟩
 ·exact h.elim
theorem BM{g:Int->Int->SV}{g':Int->Int->V}(hg:∀ as H i j,Rl K as H (g' i j) (g i j)):BD K (CA g) (rI0 g'):=fun as H S x y v u Q ok rx ry h=>by
 unfold CA at h;split at h
 ·rw[rl_int]at rx ry;exact⟨_,_,rx,ry,h.here ok (hg _ _ _ _)⟩
 ·exact h.elim
noncomputable def RS(K:Sh):R2:=fun x y H Q=>(rI0 fun i j => .int (i+j)) x y H Q\/R8 x y H Q
theorem NB{X:Cx}:OpR X (binaryOp .Add) (RS X.K):=op_add.or PM
theorem NC:BD K Kq (RS K):=fun as H S x y v u Q ok rx ry h=>by
 unfold Kq at h;split at h
 ·rw[rl_int]at rx ry;exact .inl ⟨_,_,rx,ry,h.here ok (rl_int.mpr rfl)⟩
 ·obtain⟨xs,ys,h1,h2,h3,h4⟩:=h;obtain⟨a,vs,rfl,_,ha,ra⟩:=v5 ok rx h1;obtain⟨b,us,rfl,_,hb,rb⟩:=v5 ok ry h2;exact(.inr (⟨a,b,vs,us,rfl,rfl,ha,hb,by rw[ra.length,rb.length];exact BL h3,A6 ok (ra.append rb) h4⟩))
 ·exact h.elim
theorem RlAll.rep{as:List Addr}{H:Hp}{vs:List V}{xs:List SV}(h:RlAll K as H vs xs):∀ n,RlAll K as H (Su n vs).flatten (Su n xs).flatten
 | 0=>by simpa using RlAll.nil
 | n+1=>by
   rw[Tf,Tf,UK,UK];exact h.append (RlAll.rep h n)
theorem ND:BD K Kr (fun x y H Q=>(rI CMul fun i j => .int (i * j)) x y H Q\/R9 x y H Q):=fun as H S x y v u Q ok rx ry h=>by
 unfold Kr at h;split at h
 ·rw[rl_int]at rx ry;exact .inl ⟨_,_,rx,ry,h.1,h.2.here ok (rl_int.mpr rfl)⟩
 ·rename_i k j;obtain⟨xs,h1,h2,h3,h4⟩:=h;obtain⟨a,vs,rfl,_,ha,ra⟩:=v5 ok rx h1;rw[rl_int]at ry;subst ry;exact .inr (⟨a,j,vs,rfl,rfl,ha,by omega,by omega,by rw[ra.length];exact BL h3,A6 ok (ra.rep _) h4⟩)
 ·exact h.elim
end
noncomputable def scS:SV->SV->Option Bool
 | .int i,.int j=>some (decide (i=j))
 | .bl i,.bl j=>some (decide (i=j))
 | .str i,.str j=>some (decide (i=j))
 | .non,.non=>some true
 | .non,.int _=>some false | .int _,.non=>some false | .non,.bl _=>some false | .bl _,.non=>some false | .non,.str _=>some false | .str _,.non=>some false
 | .int _,.str _=>some false | .str _,.int _=>some false | .bl _,.str _=>some false | .str _,.bl _=>some false
 | _,_=>none
noncomputable def Gb:SV->SV->Sto->(Bool->Prop)->Prop
 | .loc k,.loc l,S,Q=>∃ xs ys,S[k]?=some (.lst xs)/\S[l]?=some (.lst ys)/\((xs.all AV=true/\ys.all AV=true)\/xs=[]\/ys=[])/\Q (EN xs ys)
 | _,_,_,_=>False
noncomputable def sEq:S2:=fun x y S Q=>match scS x y with | some b=>Q (.bl b) S | none=>Gb x y S fun b=>Q (.bl b) S
noncomputable def sNe:S2:=fun x y S Q=>match scS x y with | some b=>Q (.bl (!b)) S | none=>Gb x y S fun b=>Q (.bl (!b)) S
noncomputable def Kt:SV->Sto->Option (List Int)
 | .loc k,S=>match S[k]? with | some (.iset ms)=>some ms | _=>none
 | _,_=>none
noncomputable def sIn(neg:Bool):S2:=fun x y S Q=>match Kt y S with
 | some ms=>∃ i,x = .int i/\neg=false/\Q (.bl (decide (i∈ms))) S
 | none=>AV x=true/\∃ ys,Aa y S=some ys/\ys.all AV=true/\Q (.bl (if neg then !inS x ys else inS x ys)) S
noncomputable def Ku:SV->Bool
 | .non=>true
 | _=>false
noncomputable def Kv(neg:Bool):S2:=fun x y S Q=>(y = .non/\Q (.bl (if neg then !Ku x else Ku x)) S)\/∃ c d,neg=true/\x = .bl c/\y = .bl d/\Q (.bl (c != d)) S
theorem Dy{x y:SV}{S:Sto}{P P':Bool->Prop}(i:∀ b,P b->P' b)(h:Gb x y S P):Gb x y S P':=by
 unfold Gb at h ⊢;split at h
 ·obtain⟨xs,ys,a,b,c,d⟩:=h;exact⟨xs,ys,a,b,c,i _ d⟩
 ·exact h.elim
theorem Mono2.eq:Mono2 sEq:=fun x y S P P' i h=>by
 unfold sEq at h ⊢;split at h
 ·exact i _ _ h
 ·exact Dy (fun _=>i _ _) h
theorem Mono2.ne:Mono2 sNe:=fun x y S P P' i h=>by
 unfold sNe at h ⊢;split at h
 ·exact i _ _ h
 ·exact Dy (fun _=>i _ _) h
theorem Mono2.in'{n:Bool}:Mono2 (sIn n):=fun x y S P P' i h=>by
 unfold sIn at h ⊢;split at h
 ·obtain⟨j,e,z,h⟩:=h;exact⟨j,e,z,i _ _ h⟩
 ·obtain⟨f,ys,a,b,h⟩:=h;exact⟨f,ys,a,b,i _ _ h⟩
theorem Mono2.isN{n:Bool}:Mono2 (Kv n):=fun x y S P P' i h=>h.imp (fun h=>⟨h.1,i _ _ h.2⟩) fun⟨c,d,z,a,b,h⟩=>⟨c,d,z,a,b,i _ _ h⟩
section
variable{K:Sh}
theorem Kw{as:List Addr}{H:Hp}{x y:SV}{v u:V}{b:Bool}(e:scS x y=some b)(rx:Rl K as H v x)(ry:Rl K as H u y):P9 v u=true/\decide (v=u)=b:=by
 cases x<;>first | (unfold scS at e;cases e;done) | (cases y<;>first | (unfold scS at e;cases e;done) | (simp only[rl_non,rl_bl,rl_int,rl_str]at rx ry;subst rx ry;unfold scS at e;injection e with e;subst e;exact⟨rfl,by simp⟩))
theorem Ht{as:List Addr}{H:Hp}{S:Sto}{x y:SV}{v u:V}{Q:Bool->Prop}(ok:Ok K as H S)(rx:Rl K as H v x)(ry:Rl K as H u y)(h:Gb x y S Q):∃ a b xs ys,v = .ref a/\u = .ref b/\SqL K H a xs/\SqL K H b ys/\((xs.all y9=true/\ys.all y9=true)\/xs=[]\/ys=[])/\Q (Am xs ys):=by
 unfold Gb at h;split at h
 ·obtain⟨xs,ys,h1,h2,h3,h4⟩:=h;obtain⟨a,vs,rfl,_,ha,ra⟩:=v5 ok rx h1;obtain⟨b,us,rfl,_,hb,rb⟩:=v5 ok ry h2;refine⟨a,b,vs,us,rfl,rfl,SqL.of ha,SqL.of hb,?_,?_⟩
  ·rcases h3 with⟨f1,f2⟩ | h3 | h3
   ·rw[At f1 ra,At f2 rb];exact .inl ⟨CZ f1,CZ f2⟩
   ·subst h3;exact .inr (.inl (rla_nil.mp ra))
   ·subst h3;exact .inr (.inr (rla_nil.mp rb))
  ·have e:Am vs us=EN xs ys:=by
    rcases h3 with⟨f1,f2⟩ | h3 | h3
    ·rw[At f1 ra,At f2 rb,NA f1 f2]
    ·subst h3;have:=rla_nil.mp ra;subst this;have l:=rb.length;unfold Am EN;simp[l]
    ·subst h3;have:=rla_nil.mp rb;subst this;have l:=ra.length;unfold Am EN;simp[l]
   rw[e];exact h4
 ·exact h.elim
theorem Pn:BD K sEq (fun x y H Q=>rEq x y H Q\/Mn K false x y H Q):=fun as H S x y v u Q ok rx ry h=>by
 unfold sEq at h;split at h
 ·rename_i b e;obtain⟨h1,h2⟩:=Kw e rx ry;exact .inl ⟨h1,by rw[h2];exact h.here ok (rl_bl.mpr rfl)⟩
 ·obtain⟨a,b,xs,ys,e1,e2,h1,h2,h3,h4⟩:=Ht ok rx ry h;exact .inr ⟨a,b,xs,ys,e1,e2,h1,h2,h3,h4.here ok (rl_bl.mpr rfl)⟩
theorem Po:BD K sNe (fun x y H Q=>rNe x y H Q\/Mn K true x y H Q):=fun as H S x y v u Q ok rx ry h=>by
 unfold sNe at h;split at h
 ·rename_i b e;obtain⟨h1,h2⟩:=Kw e rx ry;exact .inl ⟨h1,by rw[h2];exact h.here ok (rl_bl.mpr rfl)⟩
 ·obtain⟨a,b,xs,ys,e1,e2,h1,h2,h3,h4⟩:=Ht ok rx ry h;exact .inr ⟨a,b,xs,ys,e1,e2,h1,h2,h3,h4.here ok (rl_bl.mpr rfl)⟩
theorem NE{as:List Addr}{H:Hp}{S:Sto}{y:SV}{u:V}{ms:List Int}(ok:Ok K as H S)(r:Rl K as H u y)(h:Kt y S=some ms):∃ a k F,y = .loc k/\u = .ref a/\as[k]?=some a/\S[k]?=some (.iset ms)/\H a=some (.set F ms.length)/\∀ k,F k=decide (k∈ms):=by
 cases y with
 | loc k=>
   obtain⟨a,ea,rfl⟩:=rl_loc.mp r;unfold Kt at h;cases hs:S[k]? with
   | none=>simp only[hs]at h;cases h
   | some o=>
     cases o with
     | lst ys=>simp only[hs]at h;cases h
     | iset ns=>
       simp only[hs]at h;cases h;obtain⟨F,h1,h2⟩:=ok.obj k _ a hs ea;exact⟨a,k,F,rfl,rfl,ea,hs,h1,h2⟩
     | dct _=>simp only[hs]at h;cases h
     | dcf _ _ _=>simp only[hs]at h;cases h
 | _=>cases h
noncomputable def Pp(K:Sh)(neg:Bool):R2:=fun x y H Q=>rIn K neg x y H Q\/(neg=false/\∃(k:Int) (p:Addr) (S:Int->Bool) (n:Nat),x = .int k/\y = .ref p/\H p=some (.set S n)/\Q (.bl (S k)) H)
theorem Pq{X:Cx}:OpR X (compareOp .In) (Pp X.K false):=fun pins s σ H x y v u Q I rx ry h=>h.elim (Ir pins s σ H x y v u Q I rx ry) fun h=>Kp pins s σ H x y v u Q I rx ry h.2
theorem JB{X:Cx}:OpR X (compareOp .NotIn) (Pp X.K true):=fun pins s σ H x y v u Q I rx ry h=>h.elim (ED pins s σ H x y v u Q I rx ry) fun h=>by cases h.1
theorem Kx{n:Bool}:BD K (sIn n) (Pp K n):=fun as H S x y v u Q ok rx ry h=>by
 unfold sIn at h;split at h
 ·rename_i ms hi;obtain⟨i,rfl,rfl,h⟩:=h;obtain⟨a,k,F,rfl,rfl,ea,es,hF,hk⟩:=NE ok ry hi;rw[rl_int]at rx;exact .inr ⟨rfl,i,a,F,_,rx,rfl,hF,by rw[hk];exact h.here ok (rl_bl.mpr rfl)⟩
 ·obtain⟨f,ys,hs,fs,h⟩:=h;obtain⟨a,vs,rfl,hq,rr⟩:=EQ ok ry hs;have ev:=Hs f rx;have es:=At fs rr;subst ev es;exact .inl ⟨a,_,rfl,hq,F7 f,CZ fs,by rw[Pm f fs];exact h.here ok (rl_bl.mpr rfl)⟩
theorem F8{as:List Addr}{H:Hp}{x:SV}{v:V}(r:Rl K as H v x):decide (v=V.non)=Ku x:=by
 cases x with
 | non=>rw[rl_non.mp r];rfl
 | bl _=>rw[rl_bl.mp r];rfl
 | int _=>rw[rl_int.mp r];rfl
 | str _=>rw[rl_str.mp r];rfl
 | tup _=>obtain⟨p,vs,rfl,_⟩:=rl_tup.mp r;rfl
 | loc _=>obtain⟨p,_,rfl⟩:=rl_loc.mp r;rfl
 | ro _=>obtain⟨p,vs,rfl,_⟩:=rl_ro.mp r;rfl
 | ty _=>rw[rl_ty.mp r];rfl
theorem NF:BD K (Kv false) (fun x y H Q=>y = .non/\Q (.bl (decide (x = .non))) H):=fun as H S x y v u Q ok rx ry h=>by
 rcases h with⟨e,h⟩ | ⟨c,d,z,_⟩
 ·subst e;exact⟨rl_non.mp ry,by rw[F8 rx];exact h.here ok (rl_bl.mpr rfl)⟩
 ·cases z
theorem Ky:BD K (Kv true) (fun x y H Q=>(y = .non/\Q (.bl (!decide (x = .non))) H)\/∃ c d,x = .bl c/\y = .bl d/\Q (.bl (c != d)) H):=fun as H S x y v u Q ok rx ry h=>by
 rcases h with⟨e,h⟩ | ⟨c,d,_,rfl,rfl,h⟩
 ·subst e;exact .inl ⟨rl_non.mp ry,by rw[F8 rx];exact h.here ok (rl_bl.mpr rfl)⟩
 ·exact .inr ⟨c,d,rl_bl.mp rx,rl_bl.mp ry,h.here ok (rl_bl.mpr rfl)⟩
end
noncomputable def sIx:S2
 | x,.int i,S,Q=>∃ xs y,Aa x S=some xs/\atI xs i=some y/\Q y S
 | _,_,_,_=>False
theorem Mono2.ix:Mono2 sIx:=fun x y S P P' i h=>by
 unfold sIx at h ⊢;split at h
 ·obtain⟨xs,z,a,b,c⟩:=h;exact⟨xs,z,a,b,i _ _ c⟩
 ·exact h.elim
section
variable{K:Sh}
theorem RlAll.atI{as:List Addr}{H:Hp}{xs:List SV}{vs:List V}{i:Int}{y:SV}(h:RlAll K as H vs xs)(e:L2.atI xs i=some y):∃ v,L2.atI vs i=some v/\Rl K as H v y:=by
 unfold L2.atI at e ⊢;rw[h.length];cases hj:ixN xs.length i with
 | none=>rw[hj]at e;cases e
 | some j=>
   rw[hj]at e;exact h.get e
theorem Pr:BD K sIx (fun x y H Q=>R4 K x y H Q\/R5 K x y H Q):=fun as H S x y v u Q ok rx ry h=>by
 unfold sIx at h;split at h
 ·obtain⟨xs,z,h1,h2,h3⟩:=h;obtain⟨a,vs,rfl,hq,rr⟩:=EQ ok rx h1;obtain⟨w,hw,rw'⟩:=rr.atI h2;rw[rl_int]at ry;rcases hq with hq | hq
  ·exact .inl ⟨a,vs,_,w,rfl,ry,hq,hw,h3.here ok rw'⟩
  ·exact .inr ⟨a,vs,_,w,rfl,ry,hq,hw,h3.here ok rw'⟩
 ·exact h.elim
end
open PySem L2
inductive BI where
 | len | abs | min | max | int | list | tuple | all | any | sorted | isi | str
 deriving DecidableEq
noncomputable def BI.name:BI->Str
 | .len=>"len" | .abs=>"abs" | .min=>"min" | .max=>"max" | .int=>"int" | .list=>"list" | .tuple=>"tuple" | .all=>"all" | .any=>"any" | .sorted=>"sorted" | .isi=>"isinstance" | .str=>"str"
noncomputable def blS:List SV->Option (List Bool)
 | []=>some []
 | .bl b::xs=>(blS xs).map (b::·)
 | _::_=>none
noncomputable def ES:List SV->Option (List Int)
 | []=>some []
 | .int i::xs=>(ES xs).map (i::·)
 | _::_=>none
noncomputable def tyS:SV->Sto->Option TyN
 | .non,_=>some .none
 | .bl _,_=>some .bool
 | .int _,_=>some .int
 | .str _,_=>some .str
 | .tup _,_=>some .tuple
 | .loc k,S=>match S[k]? with | some (.lst _)=>some .list | _=>none
 | _,_=>none
noncomputable def Gc:TyN->TyN->Bool
 | .bool,.int=>true
 | a,b=>decide (a=b)
noncomputable def JC:List SV->Option (List TyN)
 | []=>some []
 | .ty t::xs=>(JC xs).map (t::·)
 | _::_=>none
noncomputable def a0(f:Sto->QE->Prop):Sn:=fun xs S Q=>match xs with | []=>f S Q | _=>False
noncomputable def a1(f:S1):Sn:=fun xs S Q=>match xs with | [x]=>f x S Q | _=>False
noncomputable def a2(f:S2):Sn:=fun xs S Q=>match xs with | [x,y]=>f x y S Q | _=>False
noncomputable def oI(f:Int->Sto->QE->Prop):S1:=fun x S Q=>match x with | .int i=>f i S Q | _=>False
theorem RT{f:Sto->QE->Prop}{xs:List SV}{S:Sto}{Q:QE}(h:a0 f xs S Q):xs=[]/\f S Q:=match xs,h with | [],h=>⟨rfl,h⟩
theorem Dh{f:S1}{xs:List SV}{S:Sto}{Q:QE}(h:a1 f xs S Q):∃ x,xs=[x]/\f x S Q:=match xs,h with | [x],h=>⟨x,rfl,h⟩
theorem Kz{f:S2}{xs:List SV}{S:Sto}{Q:QE}(h:a2 f xs S Q):∃ x y,xs=[x,y]/\f x y S Q:=match xs,h with | [x,y],h=>⟨x,y,rfl,h⟩
theorem Ca{f:Int->Sto->QE->Prop}{x:SV}{S:Sto}{Q:QE}(h:oI f x S Q):∃ i,x = .int i/\f i S Q:=match x,h with | .int i,h=>⟨i,rfl,h⟩
theorem AQ{f:S1}(m:Dw f):MonoN (a1 f):=fun xs S P P' i h=>by
 replace h:=Dh h;obtain⟨x,rfl,h⟩:=h;exact m x S P P' i h
theorem Cz{f:S2}(m:Mono2 f):MonoN (a2 f):=fun xs S P P' i h=>by
 replace h:=Kz h;obtain⟨x,y,rfl,h⟩:=h;exact m x y S P P' i h
theorem NG{f:Int->Sto->QE->Prop}(m:∀ k S P P',(∀ x S',P x S'->P' x S')->f k S P->f k S P'):Dw (oI f):=fun x S P P' i h=>by
 replace h:=Ca h;obtain⟨k,rfl,h⟩:=h;exact m k S P P' i h
noncomputable def RU:S1
 | .int i,S,Q=>Q (.int i) S
 | .bl b,S,Q=>Q (.int (if b then 1 else 0)) S
 | _,_,_=>False
theorem OU{x:SV}{S:Sto}{Q:QE}(h:RU x S Q):(∃ i,x = .int i/\Q (.int i) S)\/∃ b,x = .bl b/\Q (.int (if b then 1 else 0)) S:=match x,h with
 | .int i,h => .inl ⟨i,rfl,h⟩
 | .bl b,h => .inr ⟨b,rfl,h⟩
noncomputable def RV:S2:=fun x y S Q=>match y with
 | .ty t=>∃ a,t ≠ .none/\tyS x S=some a/\Q (.bl (Gc a t)) S
 | .tup ts=>∃ a bs,TyN.none∉bs/\tyS x S=some a/\JC ts=some bs/\Q (.bl (bs.any (Gc a))) S
 | _=>False
theorem OV{x y:SV}{S:Sto}{Q:QE}(h:RV x y S Q):(∃ t a,y = .ty t/\t ≠ .none/\tyS x S=some a/\Q (.bl (Gc a t)) S)\/∃ ts a bs,y = .tup ts/\TyN.none∉bs/\tyS x S=some a/\JC ts=some bs/\Q (.bl (bs.any (Gc a))) S:=match y,h with
 | .ty t,⟨a,h⟩ => .inl ⟨t,a,rfl,h⟩
 | .tup ts,⟨a,bs,h⟩ => .inr ⟨ts,a,bs,rfl,h⟩
noncomputable def SX:S1:=fun x S Q=>∃ xs,Aa x S=some xs/\Q (.int xs.length) S
noncomputable def SY:S1:=oI fun i S Q=>Q (.int (if i<0 then -i else i)) S
noncomputable def SZ:S2:=fun x y S Q=>oI (fun i S Q=>oI (fun j S Q=>Q (.int (if j<i then j else i)) S) y S Q) x S Q
noncomputable def Sc:S2:=fun x y S Q=>oI (fun i S Q=>oI (fun j S Q=>Q (.int (if j>i then j else i)) S) y S Q) x S Q
noncomputable def RW:S1:=fun x S Q=>∃ xs,Aa x S=some xs/\Q (.loc S.length) (S++[.lst xs])
noncomputable def Ps:S1:=fun x S Q=>∃ xs,Aa x S=some xs/\Q (.tup xs) S
noncomputable def Sd:S1:=fun x S Q=>∃ xs bs,x ≠ .tup xs/\Aa x S=some xs/\blS xs=some bs/\Q (.bl (bs.all id)) S
noncomputable def NH:S1:=fun x S Q=>∃ xs ns,x ≠ .tup xs/\Aa x S=some xs/\ES xs=some ns/\ns.length<128/\Q (.loc S.length) (S++[.lst ((srt ns).map SV.int)])
noncomputable def sBi:BI->Sn
 | .len=>a1 SX
 | .abs=>a1 SY
 | .min=>a2 SZ
 | .max=>a2 Sc
 | .int=>a1 RU
 | .list=>a1 RW
 | .tuple=>a1 Ps
 | .all=>a1 Sd
 | .any=>fun _ _ _=>False
 | .sorted=>a1 NH
 | .isi=>a2 RV
 | .str=>fun _ _ _=>False
theorem MonoN.bi:∀{b:BI},MonoN (sBi b)
 | .len=>AQ fun _ _ _ _ i ⟨a,c,d⟩=>⟨a,c,i _ _ d⟩
 | .abs=>AQ (NG fun _ _ _ _ i h=>i _ _ h)
 | .min=>Cz fun x y S P P' i h=>by
   replace h:=Ca h;obtain⟨k,rfl,h1⟩:=h;obtain⟨l,rfl,h2⟩:=Ca h1;exact i _ _ h2
 | .max=>Cz fun x y S P P' i h=>by
   replace h:=Ca h;obtain⟨k,rfl,h1⟩:=h;obtain⟨l,rfl,h2⟩:=Ca h1;exact i _ _ h2
 | .int=>AQ fun x S P P' i h=>by
   replace h:=OU h;rcases h with⟨k,rfl,h⟩ | ⟨b,rfl,h⟩
   ·exact i _ _ h
   ·exact i _ _ h
 | .list=>AQ fun _ _ _ _ i ⟨a,c,d⟩=>⟨a,c,i _ _ d⟩
 | .tuple=>AQ fun _ _ _ _ i ⟨a,c,d⟩=>⟨a,c,i _ _ d⟩
 | .all=>AQ fun _ _ _ _ i ⟨a,b,c,d,e,f⟩=>⟨a,b,c,d,e,i _ _ f⟩
 | .any=>fun _ _ _ _ _ h=>h
 | .sorted=>AQ fun _ _ _ _ i ⟨a,b,c,d,e,f,g⟩=>⟨a,b,c,d,e,f,i _ _ g⟩
 | .isi=>Cz fun x y S P P' i h=>by
   replace h:=OV h;rcases h with⟨t,a,rfl,h1,h2,h⟩ | ⟨ts,a,bs,rfl,h1,h2,h3,h⟩
   ·exact⟨a,h1,h2,i _ _ h⟩
   ·exact⟨a,bs,h1,h2,h3,i _ _ h⟩
 | .str=>fun _ _ _ _ _ h=>h
section
variable{K:Sh}{as:List Addr}{H:Hp}{S:Sto}
theorem L0:∀{xs:List SV} {bs:List Bool} {vs:List V},blS xs=some bs->RlAll K as H vs xs->vs=bs.map V.bl
 | [],_,_,e,r=>by cases e;exact rla_nil.mp r
 | .bl b::xs,_,_,e,r=>by
   obtain⟨v,vs,rfl,r1,r2⟩:=rla_cons.mp r;unfold blS at e;cases h:blS xs with
   | none=>rw[h]at e;cases e
   | some cs=>
     rw[h]at e;cases e;rw[rl_bl.mp r1,L0 h r2];rfl
 | .non::_,_,_,e,_=>by cases e
 | .int _::_,_,_,e,_=>by cases e
 | .str _::_,_,_,e,_=>by cases e
 | .tup _::_,_,_,e,_=>by cases e
 | .loc _::_,_,_,e,_=>by cases e
 | .ro _::_,_,_,e,_=>by cases e
 | .ty _::_,_,_,e,_=>by cases e
theorem ET:∀{xs:List SV} {bs:List Int} {vs:List V},ES xs=some bs->RlAll K as H vs xs->vs=bs.map V.int
 | [],_,_,e,r=>by cases e;exact rla_nil.mp r
 | .int b::xs,_,_,e,r=>by
   obtain⟨v,vs,rfl,r1,r2⟩:=rla_cons.mp r;unfold ES at e;cases h:ES xs with
   | none=>rw[h]at e;cases e
   | some cs=>
     rw[h]at e;cases e;rw[rl_int.mp r1,ET h r2];rfl
 | .non::_,_,_,e,_=>by cases e
 | .bl _::_,_,_,e,_=>by cases e
 | .str _::_,_,_,e,_=>by cases e
 | .tup _::_,_,_,e,_=>by cases e
 | .loc _::_,_,_,e,_=>by cases e
 | .ro _::_,_,_,e,_=>by cases e
 | .ty _::_,_,_,e,_=>by cases e
theorem AR{x:SV}{v:V}{xs:List SV}(ok:Ok K as H S)(r:Rl K as H v x)(n:x ≠ .tup xs)(h:Aa x S=some xs):∃ a vs,v = .ref a/\SqL K H a vs/\RlAll K as H vs xs:=by
 cases x with
 | tup ys=>cases h;exact absurd rfl n
 | ro ys=>
   cases h;obtain⟨p,vs,rfl,hp,rr⟩:=rl_ro.mp r;exact⟨p,vs,rfl,hp.sq,rr⟩
 | loc k=>
   obtain⟨a,ea,rfl⟩:=rl_loc.mp r;unfold Aa at h;cases hs:S[k]? with
   | none=>simp only[hs]at h;cases h
   | some o=>
     cases o with
     | lst ys=>
       simp only[hs]at h;cases h;obtain⟨vs,h1,rr⟩:=ok.obj k _ a hs ea;exact⟨a,vs,rfl,SqL.of h1,rr⟩
     | iset _=>simp only[hs]at h;cases h
     | dct _=>simp only[hs]at h;cases h
     | dcf _ _ _=>simp only[hs]at h;cases h
 | _=>cases h
theorem DH{vs:List V}{x:SV}(r:RlAll K as H vs [x]):∃ v,vs=[v]/\Rl K as H v x:=by
 obtain⟨v,t,rfl,r1,r2⟩:=rla_cons.mp r;rw[rla_nil.mp r2];exact⟨v,rfl,r1⟩
theorem NI{vs:List V}{x y:SV}(r:RlAll K as H vs [x,y]):∃ v u,vs=[v,u]/\Rl K as H v x/\Rl K as H u y:=by
 obtain⟨v,t,rfl,r1,r2⟩:=rla_cons.mp r;obtain⟨u,rfl,r3⟩:=DH r2;exact⟨v,u,rfl,r1,r3⟩
end
theorem L3{K:Sh}{as:List Addr}{H:Hp}{S:Sto}{Q:VK}{x:SV}{v:V}{ys:List SV}(ok:Ok K as H S)(r1:Rl K as H v x)(h1:Aa x S=some ys)(h2:Post K as H Q (.tup ys) S):∃ p us,v = .ref p/\((SqL K H p us/\∀ l,H l=none->Q (.ref l) (upd H l (.tup us)))\/(SqT K H p us/\Q (.ref p) H)):=by
 cases x with
 | tup zs=>
   cases h1;obtain⟨p,us,rfl,hp,rr⟩:=rl_tup.mp r1;exact⟨p,us,rfl,.inr ⟨SqT.of hp,h2.here ok r1⟩⟩
 | loc k=>
   obtain⟨a,us,rfl,hq,rr⟩:=AR ok r1 (by intro z;cases z) h1;exact⟨a,us,rfl,.inl ⟨hq,C9 ok rr h2⟩⟩
 | ro k=>
   obtain⟨a,us,rfl,hq,rr⟩:=AR ok r1 (by intro z;cases z) h1;exact⟨a,us,rfl,.inl ⟨hq,C9 ok rr h2⟩⟩
 | _=>cases h1
section
variable{K:Sh}{as:List Addr}{H:Hp}{S:Sto}
theorem OW{x:SV}{v:V}{a:TyN}(ok:Ok K as H S)(r:Rl K as H v x)(h:tyS x S=some a):TyOf K H v (.type a.nm):=by
 cases x with
 | non=>cases h;rw[rl_non.mp r];exact .non
 | bl b=>cases h;rw[rl_bl.mp r];exact .bl b
 | int b=>cases h;rw[rl_int.mp r];exact .int b
 | str b=>cases h;rw[rl_str.mp r];exact .str b
 | tup xs=>cases h;obtain⟨p,vs,rfl,hp,_⟩:=rl_tup.mp r;exact .tup hp
 | loc k=>
   obtain⟨b,eb,rfl⟩:=rl_loc.mp r;unfold tyS at h;cases hs:S[k]? with
   | none=>simp only[hs]at h;cases h
   | some o=>
     cases o with
     | lst ys=>
       simp only[hs]at h;cases h;obtain⟨vs,h1,_⟩:=ok.obj k _ b hs eb;exact .lst h1
     | iset _=>simp only[hs]at h;cases h
     | dct _=>simp only[hs]at h;cases h
     | dcf _ _ _=>simp only[hs]at h;cases h
 | _=>cases h
noncomputable def ktn(t c:String):Option Bool:=if (Value.type t == Value.type c)=true then some true else if PySem.W.kitMeta c=true then (fastBuiltinMro t).map (·.contains (.type c)) else none
theorem Hu{K:Sh}(a:TyN)(t:TyN)(ht:t ≠ .none):PySem.W.kitOne K (.type a.nm) (.type t.nm)=some (Gc a t):=by
 have e:PySem.W.kitOne K (.type a.nm) (.type t.nm)=ktn a.nm t.nm:=rfl;rw[e];cases a<;>cases t<;>first | exact absurd rfl ht | decide +kernel
theorem Hv{K:Sh}(a:TyN):∀(bs:List TyN),TyN.none∉bs->PySem.W.kitAny K (.type a.nm) ((bs.map TyN.nm).map Value.type)=some (bs.any (Gc a))
 | [],_=>rfl
 | b::bs,h=>by
   rw[To,To,PySem.W.kitAny,Hu a b (fun z=>h (by rw[z];simp)),UZ];cases Gc a b with
   | true=>rfl
   | false=>exact Hv a bs (fun z=>h (Sz _ z))
theorem L4:∀{xs:List SV} {bs:List TyN} {vs:List V},JC xs=some bs->RlAll K as H vs xs->vs=(bs.map TyN.nm).map V.ty
 | [],_,_,e,r=>by cases e;exact rla_nil.mp r
 | .ty b::xs,_,_,e,r=>by
   obtain⟨v,vs,rfl,r1,r2⟩:=rla_cons.mp r;unfold JC at e;cases h:JC xs with
   | none=>rw[h]at e;cases e
   | some cs=>
     rw[h]at e;cases e;rw[rl_ty.mp r1,L4 h r2];rfl
 | .non::_,_,_,e,_=>by cases e
 | .bl _::_,_,_,e,_=>by cases e
 | .str _::_,_,_,e,_=>by cases e
 | .tup _::_,_,_,e,_=>by cases e
 | .loc _::_,_,_,e,_=>by cases e
 | .ro _::_,_,_,e,_=>by cases e
 | .int _::_,_,_,e,_=>by cases e
end
noncomputable def rBi(K:Sh):BI->List V->Hp->VK->Prop
 | .len=>fun xs H Q=>∃ p ys,xs=[.ref p]/\(SqL K H p ys\/SqT K H p ys)/\Q (.int ys.length) H
 | .abs=>fun xs H Q=>∃ i,xs=[.int i]/\Q (.int (if i<0 then -i else i)) H
 | .min=>fun xs H Q=>∃ i j,xs=[.int i,.int j]/\Q (.int (if j<i then j else i)) H
 | .max=>fun xs H Q=>∃ i j,xs=[.int i,.int j]/\Q (.int (if j>i then j else i)) H
 | .int=>fun xs H Q=>(∃ i,xs=[.int i]/\Q (.int i) H)\/∃ k,xs=[.bl k]/\Q (.int (if k then 1 else 0)) H
 | .list=>fun xs H Q=>∃ p ys,xs=[.ref p]/\(SqL K H p ys\/SqT K H p ys)/\∀ l,H l=none->Q (.ref l) (upd H l (.lst ys))
 | .tuple=>fun xs H Q=>∃ p ys,xs=[.ref p]/\((SqL K H p ys/\∀ l,H l=none->Q (.ref l) (upd H l (.tup ys)))\/(SqT K H p ys/\Q (.ref p) H))
 | .all=>fun xs H Q=>∃(a:Addr) (bs:List Bool),xs=[.ref a]/\SqL K H a (bs.map V.bl)/\Q (.bl (bs.all id)) H
 | .any=>fun _ _ _=>False
 | .sorted=>fun xs H Q=>∃ p ns,xs=[.ref p]/\SqL K H p (ns.map V.int)/\ns.length<128/\∀ l,H l=none->Q (.ref l) (upd H l (.lst ((srt ns).map V.int)))
 | .isi=>fun xs H Q=>(∃ x T t b,xs=[x,.ty T]/\TyOf K H x t/\PySem.W.kitOne K t (.type T)=some b/\Q (.bl b) H)\/(∃(x:V) (p:Addr) (Ts:List String) (t:Value) (b:Bool),xs=[x,.ref p]/\H p=some (.tup (Ts.map V.ty))/\TyOf K H x t/\PySem.W.kitAny K t (Ts.map Value.type)=some b/\Q (.bl b) H)
 | .str=>fun _ _ _=>False
theorem Pt{K:Sh}:∀{b:BI},RP K (sBi b) (rBi K b)
 | .len=>fun as H S xs vs Q ok r h=>by
   replace h:=Dh h;obtain⟨x,rfl,ys,h1,h2⟩:=h;obtain⟨v,rfl,r1⟩:=DH r;obtain⟨a,us,rfl,hq,rr⟩:=EQ ok r1 h1;exact⟨a,us,rfl,hq,by rw[rr.length];exact h2.here ok (rl_int.mpr rfl)⟩
 | .abs=>fun as H S xs vs Q ok r h=>by
   replace h:=Dh h;obtain⟨x,rfl,h⟩:=h;replace h:=Ca h;obtain⟨i,rfl,h⟩:=h;obtain⟨v,rfl,r1⟩:=DH r;exact⟨_,by rw[rl_int.mp r1],Post.here h ok (rl_int.mpr rfl)⟩
 | .min=>fun as H S xs vs Q ok r h=>by
   replace h:=Kz h;obtain⟨x,y,rfl,h⟩:=h;replace h:=Ca h;obtain⟨i,rfl,h⟩:=h;replace h:=Ca h;obtain⟨j,rfl,h⟩:=h;obtain⟨v,u,rfl,r1,r2⟩:=NI r;exact⟨_,_,by rw[rl_int.mp r1,rl_int.mp r2],Post.here h ok (rl_int.mpr rfl)⟩
 | .max=>fun as H S xs vs Q ok r h=>by
   replace h:=Kz h;obtain⟨x,y,rfl,h⟩:=h;replace h:=Ca h;obtain⟨i,rfl,h⟩:=h;replace h:=Ca h;obtain⟨j,rfl,h⟩:=h;obtain⟨v,u,rfl,r1,r2⟩:=NI r;exact⟨_,_,by rw[rl_int.mp r1,rl_int.mp r2],Post.here h ok (rl_int.mpr rfl)⟩
 | .int=>fun as H S xs vs Q ok r h=>by
   replace h:=Dh h;obtain⟨x,rfl,h⟩:=h;obtain⟨v,rfl,r1⟩:=DH r;replace h:=OU h;rcases h with⟨k,rfl,h⟩ | ⟨b,rfl,h⟩
   ·exact .inl ⟨_,by rw[rl_int.mp r1],Post.here h ok (rl_int.mpr rfl)⟩
   ·exact .inr ⟨_,by rw[rl_bl.mp r1],Post.here h ok (rl_int.mpr rfl)⟩
 | .list=>fun as H S xs vs Q ok r h=>by
   replace h:=Dh h;obtain⟨x,rfl,ys,h1,h2⟩:=h;obtain⟨v,rfl,r1⟩:=DH r;obtain⟨a,us,rfl,hq,rr⟩:=EQ ok r1 h1;exact⟨a,us,rfl,hq,A6 ok rr h2⟩
 | .tuple=>fun as H S xs vs Q ok r h=>by
   replace h:=Dh h;obtain⟨x,rfl,ys,h1,h2⟩:=h;obtain⟨v,rfl,r1⟩:=DH r;obtain⟨p,us,rfl,z⟩:=L3 ok r1 h1 h2;exact⟨p,us,rfl,z⟩
 | .all=>fun as H S xs vs Q ok r h=>by
   replace h:=Dh h;obtain⟨x,rfl,ys,bs,h0,h1,h2,h3⟩:=h;obtain⟨v,rfl,r1⟩:=DH r;obtain⟨a,us,rfl,hq,rr⟩:=AR ok r1 h0 h1;rw[L0 h2 rr]at hq;exact⟨a,bs,rfl,hq,h3.here ok (rl_bl.mpr rfl)⟩
 | .any=>fun _ _ _ _ _ _ _ _ h=>False.elim h
 | .sorted=>fun as H S xs vs Q ok r h=>by
   replace h:=Dh h;obtain⟨x,rfl,ys,ns,h0,h1,h2,h3,h4⟩:=h;obtain⟨v,rfl,r1⟩:=DH r;obtain⟨a,us,rfl,hq,rr⟩:=AR ok r1 h0 h1;rw[ET h2 rr]at hq;exact⟨a,ns,rfl,hq,h3,A6 ok RlAll.ints h4⟩
 | .isi=>fun as H S xs vs Q ok r h=>by
   replace h:=Kz h;obtain⟨x,y,rfl,h⟩:=h;obtain⟨v,u,rfl,r1,r2⟩:=NI r;replace h:=OV h;rcases h with⟨t,a,rfl,h0,h1,h2⟩ | ⟨ts,a,bs,rfl,h0,h1,h2,h3⟩
   ·rw[rl_ty.mp r2];exact .inl ⟨v,_,_,_,rfl,OW ok r1 h1,Hu _ _ h0,h2.here ok (rl_bl.mpr rfl)⟩
   ·obtain⟨p,vs,rfl,hp,rr⟩:=rl_tup.mp r2;rw[L4 h2 rr]at hp;exact .inr ⟨v,p,_,_,_,rfl,hp,OW ok r1 h1,Hv _ _ h0,h3.here ok (rl_bl.mpr rfl)⟩
 | .str=>fun _ _ _ _ _ _ _ _ h=>False.elim h
inductive MT where
 | append | extend | pop | insert | clear
 deriving DecidableEq
noncomputable def MT.name:MT->Str
 | .append=>"append" | .extend=>"extend" | .pop=>"pop" | .insert=>"insert" | .clear=>"clear"
noncomputable def oL(f:Nat->Sto->QE->Prop):S1:=fun x S Q=>match x with | .loc k=>f k S Q | _=>False
theorem Cr{f:Nat->Sto->QE->Prop}{x:SV}{S:Sto}{Q:QE}(h:oL f x S Q):∃ k,x = .loc k/\f k S Q:=match x,h with | .loc k,h=>⟨k,rfl,h⟩
noncomputable def OX:Nat->Sto->QE->Prop:=fun k S Q=>∃ xs y,S[k]?=some (.lst xs)/\xs[xs.length - 1]?=some y/\Q y (S.set k (.lst xs.dropLast))
noncomputable def OY(k:Nat):Int->Sto->QE->Prop:=fun i S Q=>∃ xs y,S[k]?=some (.lst xs)/\(0<=i/\i<xs.length)/\xs.length<=big/\xs[i.toNat]?=some y/\Q y (S.set k (.lst (xs.eraseIdx i.toNat)))
noncomputable def OZ(y:SV):Nat->Sto->QE->Prop:=fun k S Q=>oI (OY k) y S Q
noncomputable def RX(x:SV):Sn:=fun xs S Q=>match xs with
 | []=>oL OX x S Q
 | [y]=>oL (OZ y) x S Q
 | _=>False
noncomputable def NJ(x:SV):S1:=fun y S Q=>oL (fun k S Q=>∃ xs,S[k]?=some (.lst xs)/\xs.length<big/\Q .non (S.set k (.lst (xs++[y])))) x S Q
noncomputable def NK(x:SV):S1:=fun y S Q=>oL (fun k S Q=>oL (fun l S Q=>∃ xs ys,S[k]?=some (.lst xs)/\S[l]?=some (.lst ys)/\xs.length+ys.length<=big/\Q .non (S.set k (.lst (xs++ys)))) y S Q) x S Q
noncomputable def NL(x:SV):S2:=fun z y S Q=>oL (fun k S Q=>oI (fun i S Q=>∃ xs,S[k]?=some (.lst xs)/\(0<=i/\i<=xs.length)/\xs.length<big/\Q .non (S.set k (.lst (xs.take i.toNat++y::xs.drop i.toNat)))) z S Q) x S Q
noncomputable def Pu(x:SV):Sto->QE->Prop:=fun S Q=>oL (fun k S Q=>∃ xs,S[k]?=some (.lst xs)/\Q .non (S.set k (.lst []))) x S Q
noncomputable def sMt:MT->SV->Sn
 | .append,x=>a1 (NJ x)
 | .extend,x=>a1 (NK x)
 | .pop,x=>RX x
 | .insert,x=>a2 (NL x)
 | .clear,x=>a0 (Pu x)
theorem Oa{x:SV}{xs:List SV}{S:Sto}{Q:QE}(h:RX x xs S Q):∃ k,x = .loc k/\((xs=[]/\∃ xs y,S[k]?=some (.lst xs)/\xs[xs.length - 1]?=some y/\Q y (S.set k (.lst xs.dropLast)))\/
 ∃ i,xs=[.int i]/\∃ xs y,S[k]?=some (.lst xs)/\(0<=i/\i<xs.length)/\xs.length<=big/\xs[i.toNat]?=some y/\Q y (S.set k (.lst (xs.eraseIdx i.toNat)))):=match xs,h with
 | [],h=>by
   have h:oL OX x S Q:=h;obtain⟨k,e,h⟩:=Cr h;exact⟨k,e,.inl ⟨rfl,h⟩⟩
 | [y],h=>by
   have h:oL (OZ y) x S Q:=h;obtain⟨k,e,h⟩:=Cr h;have h:oI (OY k) y S Q:=h;obtain⟨i,e2,h⟩:=Ca h;exact⟨k,e,.inr ⟨i,by rw[e2],h⟩⟩
theorem EU:∀{m:MT} {x:SV},MonoN (sMt m x)
 | .append,x=>AQ fun y S P P' i h=>by
   replace h:=Cr h;obtain⟨k,rfl,a,c,d,e⟩:=h;exact⟨a,c,d,i _ _ e⟩
 | .extend,x=>AQ fun y S P P' i h=>by
   replace h:=Cr h;obtain⟨k,rfl,h⟩:=h;replace h:=Cr h;obtain⟨l,rfl,a,c,d,e,f,g⟩:=h;exact⟨a,c,d,e,f,i _ _ g⟩
 | .pop,x=>fun xs S P P' i h=>by
   replace h:=Oa h;obtain⟨k,rfl,h⟩:=h;rcases h with⟨rfl,a,c,d,e,f⟩ | ⟨j,rfl,a,c,d,e,f,g,h⟩
   ·exact⟨a,c,d,e,i _ _ f⟩
   ·exact⟨a,c,d,e,f,g,i _ _ h⟩
 | .insert,x=>Cz fun z y S P P' i h=>by
   replace h:=Cr h;obtain⟨k,rfl,h⟩:=h;replace h:=Ca h;obtain⟨j,rfl,a,c,d,e,f⟩:=h;exact⟨a,c,d,e,i _ _ f⟩
 | .clear,x=>fun xs S P P' i h=>by
   replace h:=RT h;obtain⟨rfl,h⟩:=h;replace h:=Cr h;obtain⟨k,rfl,a,c,d⟩:=h;exact⟨a,c,i _ _ d⟩
noncomputable def rMt:MT->V->List V->Hp->VK->Prop
 | .append=>Hh
 | .extend=>Hi
 | .pop=>fun x vs H Q=>R7 x vs H Q\/KH x vs H Q
 | .insert=>Hj
 | .clear=>KI
section
variable{K:Sh}{as:List Addr}{H:Hp}{S:Sto}
theorem RlAll.erase:∀{xs:List SV} {vs:List V} (n:Nat),RlAll K as H vs xs->RlAll K as H (vs.eraseIdx n) (xs.eraseIdx n)
 | [],_,n,h=>by rw[rla_nil.mp h];exact .nil
 | x::xs,_,0,h=>by
   obtain⟨v,r,rfl,a,t⟩:=rla_cons.mp h;exact t
 | x::xs,_,n+1,h=>by
   obtain⟨v,r,rfl,a,t⟩:=rla_cons.mp h;exact .cons a (t.erase n)
theorem RlAll.dropLast{xs:List SV}{vs:List V}(h:RlAll K as H vs xs):RlAll K as H vs.dropLast xs.dropLast:=by
 rw[Vh,Vh,h.length];exact h.take _
theorem AD{Q:VK}{k:Nat}{a:Addr}{xs ys:List SV}{us:List V}{x:SV}{v:V}(ok:Ok K as H S)(e:S[k]?=some (.lst xs))(ea:as[k]?=some a)(r:RlAll K as H us ys)(h:Post K as H Q x (S.set k (.lst ys)))(rx:Rl K as H v x):Q v (upd H a (.lst us)):=by
 obtain⟨ok',ku⟩:=ok.write e ea r;exact h as _ v (Go.write (Sm ea)) ok' (Rl.mono (Te _) ku x v rx)
theorem L5:∀{m:MT} {Q:VK} {x:SV} {v:V} {xs:List SV} {vs:List V} (ok:Ok K as H S) (rx:Rl K as H v x) (r:RlAll K as H vs xs) (h:sMt m x xs S (Post K as H Q)),rMt m v vs H Q
 | .append,Q,x,v,xs,vs,ok,rx,r,h=>by
   replace h:=Dh h;obtain⟨y,rfl,h⟩:=h;replace h:=Cr h;obtain⟨k,rfl,ys,h1,h2,h3⟩:=h;obtain⟨a,us,rfl,ea,ha,ra⟩:=v5 ok rx h1;obtain⟨u,rfl,ru⟩:=DH r;exact⟨a,us,u,rfl,rfl,ha,by rw[ra.length];exact EM h2,AD ok h1 ea (ra.append (.cons ru .nil)) h3 (rl_non.mpr rfl)⟩
 | .extend,Q,x,v,xs,vs,ok,rx,r,h=>by
   replace h:=Dh h;obtain⟨y,rfl,h⟩:=h;replace h:=Cr h;obtain⟨k,rfl,h⟩:=h;replace h:=Cr h;obtain⟨l,rfl,ys,zs,h1,h2,h3,h4⟩:=h;obtain⟨a,us,rfl,ea,ha,ra⟩:=v5 ok rx h1;obtain⟨u,rfl,ru⟩:=DH r;obtain⟨b,ws,rfl,eb,hb,rb⟩:=v5 ok ru h2;exact⟨a,b,us,ws,rfl,rfl,ha,hb,by rw[ra.length,rb.length];exact BL h3,AD ok h1 ea (ra.append rb) h4 (rl_non.mpr rfl)⟩
 | .pop,Q,x,v,xs,vs,ok,rx,r,h=>by
   replace h:=Oa h;obtain⟨k,rfl,h⟩:=h;rcases h with⟨rfl,ys,y,h1,h2,h3⟩ | ⟨i,rfl,ys,y,h1,h2,h3,h4,h5⟩
   ·obtain⟨a,us,rfl,ea,ha,ra⟩:=v5 ok rx h1;obtain⟨z,hz,rz⟩:=ra.get h2;rw[rla_nil.mp r];exact .inl ⟨a,us,z,rfl,rfl,ha,by rw[ra.length];exact hz,AD ok h1 ea ra.dropLast h3 rz⟩
   ·obtain⟨a,us,rfl,ea,ha,ra⟩:=v5 ok rx h1;obtain⟨u,rfl,ru⟩:=DH r;obtain⟨z,hz,rz⟩:=ra.get h4;rw[rl_int.mp ru];have hb:big=100000:=rfl;refine .inr ⟨a,us,i,i.toNat,z,rfl,rfl,ha,by omega,by omega,?_,hz,AD ok h1 ea (ra.erase _) h5 rz⟩;rw[ra.length];exact PySem.seqIndex_of h2.1 h2.2
 | .insert,Q,x,v,xs,vs,ok,rx,r,h=>by
   replace h:=Kz h;obtain⟨z,y,rfl,h⟩:=h;replace h:=Cr h;obtain⟨k,rfl,h⟩:=h;replace h:=Ca h;obtain⟨i,rfl,ys,h1,h2,h3,h4⟩:=h;obtain⟨a,us,rfl,ea,ha,ra⟩:=v5 ok rx h1;obtain⟨u,w,rfl,ru,rw'⟩:=NI r;rw[rl_int.mp ru];exact⟨a,us,i,w,rfl,rfl,ha,h2.1,by rw[ra.length];exact h2.2,by rw[ra.length];exact EM h3,AD ok h1 ea (ra.ins rw' _) h4 (rl_non.mpr rfl)⟩
 | .clear,Q,x,v,xs,vs,ok,rx,r,h=>by
   replace h:=RT h;obtain⟨rfl,h⟩:=h;replace h:=Cr h;obtain⟨k,rfl,ys,h1,h2⟩:=h;obtain⟨a,us,rfl,ea,ha,ra⟩:=v5 ok rx h1;rw[rla_nil.mp r];exact⟨a,us,rfl,rfl,ha,AD ok h1 ea .nil h2 (rl_non.mpr rfl)⟩
end
end Rf
namespace L2
open PySem PySem.Spec PyProof.Rows
noncomputable def NM(lo:Int)(n:Nat):It:=⟨fun i _=>i<n,fun i H x H'=>H'=H/\x = .int (lo+i * 2),fun i _=>n<=i⟩
theorem F9{P:Program}{w:World}{K:Sh}{tg:Expr}(it:Addr)(lo:Int)(n:Nat):Turn P w K tg (NM lo n) [it] it (fun i h=>IsRangeIter h it (lo+(i:Nat) * 2) ((n:Int) - (i:Nat)) 2) where
 mem:=by simp
 obj:=fun i h st b hb=>by
  have e:b=it:=by simpa using hb
  subst e
  exact⟨_,st,fun v z=>by
   have z':Data.fields _=Data.cell v:=z;cases z'⟩
 keep:=fun i h h' st k=>k it (by simp) _ st
 item:=by
  intro X hP hw hK hc i pins s σ H E I hf st hg;subst hP hw hK;obtain⟨f0,f1,f2,f3,f4,f5⟩:=hf it (by simp);have W:=Walks.range (prog:=X.prog) (w:=X.w) (I.ok.hd hc) it lo 2 n;refine W.item i s _ _ hg st fun v h' tk hv st' kk=>?_;obtain⟨t,rfl⟩:=hv;have I1:Inv X pins σ H {s with heap:=h',toks:=tk}:=I.turned (fun b o hb e=>kk b o (by simpa using hb) e) f0 f1 f3 f4 f5;exact⟨_,rfl,HW (s:={s with heap:=h',toks:=tk}) (n:="range_iterator") st' rfl rfl (by decide) ⟨.int (lo+i * 2),H,I1,⟨t,rfl⟩,⟨rfl,rfl⟩,st',fun b hb=>(hf b hb).1⟩⟩
 done:=by
   intro X hP hw hK hc i pins s σ H E I hf st hg;subst hP hw hK;obtain⟨f0,f1,f2,f3,f4,f5⟩:=hf it (by simp);exact wpAny_pyNext_range_end (I.ok.hd hc) st (by have:n<=i:=hg;omega) fun h' eb=>⟨rfl,I.turned (t':=s.toks) (fun b o hb e=>eb b o hb e) f0 f1 f3 f4 f5⟩
 self:=fun _ _ _ _ _ st h=>wpAny_pyIter_rangeiter st h
noncomputable def Bp(i j:Int):Nat:=(if i<j then (j - i - 1) / 2+1 else 0).toNat
theorem FA(i j:Int):Builtin.Range.rangeSize i j 2=(Bp i j:Int):=by
 unfold Builtin.Range.rangeSize Bp;rw[if_pos (by decide)];split<;>omega
theorem JD{a b:Int}(ha:-(2 ^ 61)<=a)(ha':a<2 ^ 61)(hb:-(2 ^ 61)<=b)(hb':b<2 ^ 61):Builtin.Range.small a b 2=true:=by
 unfold Builtin.Range.small;rw[FA];unfold Bp;simp only[Builtin.Range.rangeFitsLong,Si,Tj,decide_eq_true_eq,beq_iff_eq,show(2:Int)>0 by decide,if_true];split<;>omega
section
variable{X:Cx}{tg:Expr}
theorem JE{pins:List (Addr×Obj)}{σ:St}{H:Hp}{s:Shared}{R:It->Hp->Prop}{E:Value->Shared->Prop}{lo hi:Int}{t u v:Tok}{tk:Nat}(I:Inv X pins σ H s)(h1:-(2 ^ 61)<=lo)(h2:lo<2 ^ 61)(h3:-(2 ^ 61)<=hi)(h4:hi<2 ^ 61)
 (q:R (NM lo (Bp lo hi)) H):wpAny (model X.prog X.w) X.A (pyIter (.ref s.heap.objs.size)) (PIE X pins σ tg R) E {s with heap:=s.heap.push {cls := .type "range",data := .fields #[.int lo t,.int hi u,.int 2 v]},toks:=tk}:=by
 refine wpAny_pyIter_range (IsRange.new ..) (JD h1 h2 h3 h4) ?_;have I1:Inv X pins σ H {s with heap:=s.heap.push {cls := .type "range",data := .fields #[.int lo t,.int hi u,.int 2 v]},toks:=tk}:=I.kept fun b o e=>So _ e
 refine⟨(s.heap.push {cls := .type "range",data := .fields #[.int lo t,.int hi u,.int 2 v]}).objs.size,[(s.heap.push {cls := .type "range",data := .fields #[.int lo t,.int hi u,.int 2 v]}).objs.size],_,_,H,rfl,
  I1.kept (t':=tk) fun b o e=>So _ e,F9 _ lo (Bp lo hi),?_,fun b hb=>?_,q⟩
 ·have e1:lo+((0:Nat):Int) * 2=lo:=by simp
  have e2:((Bp lo hi:Nat):Int) - ((0:Nat):Int)=Builtin.Range.rangeSize lo hi 2:=by rw[FA];simp
  show IsRangeIter _ _ (lo+((0:Nat):Int) * 2) (((Bp lo hi:Nat):Int) - ((0:Nat):Int)) 2;rw[e1,e2];exact Sy _ rfl
 ·have e:b=(s.heap.push {cls := .type "range",data := .fields #[.int lo t,.int hi u,.int 2 v]}).objs.size:=by simpa using hb
  subst e;exact I1.fpOk (Sr _) (I1.hok.fresh (Sr _))
noncomputable def RY(ta:TA):TI:=fun σ H R=>ta σ H fun vs H1=>∃ i j:Int,vs=[.int i,.int j,.int 2]/\(-(2 ^ 61)<=i/\i<2 ^ 61 /\ -(2 ^ 61)<=j/\j<2 ^ 61)/\R (NM i (Bp i j)) H1
theorem JF{a b c:Expr}{ta:TA}{p pos:Pos}(hg:Gl X "range")(hm:X.mg "range"=none)(ha:PA X [a,b,c] ta)(hs:starEach [a,b,c] X.env=[(false,eval a X.env),(false,eval b X.env),(false,eval c X.env)])(hs2:starEach [b,c] X.env=[(false,eval b X.env),(false,eval c X.env)]):
 PI X tg (.Call (.Name "range" p) [a,b,c] [] pos) (RY ta):=by
 intro pins s σ H R I h;refine Call_ (BE I hg hm boot_range (PyProof.Rows.callWith_type1 (thn (ha pos pins s σ H _ I h) fun us s1 ⟨vs,H1,I1,r1,q1⟩=>?_) (by rw[hs,hs2]) (by rw[hs2];rfl)));obtain⟨i,j,e,⟨q1,q2,q3,q4⟩,q⟩:=q1;subst e;cases r1 with
 | cons r rr=>
   cases rr with
   | cons r' rr=>
     cases rr with
     | cons r'' rr=>
       cases rr;obtain⟨t,rfl⟩:=r;obtain⟨t',rfl⟩:=r';obtain⟨t'',rfl⟩:=r'';exact call_range_3 (by decide) (JE I1 q1 q2 q3 q4 q) (.inl (PyProof.noPylong_small (by decide)))
end
end L2
namespace Rf
open PySem L2
mutual
inductive Tg where
 | nm (i:Nat) | tup (ts:Tgs)
inductive Tgs where
 | nil | cons (t:Tg) (ts:Tgs)
end
mutual
inductive Ex where
 | var (i:Nat) | c (x:SV) | op (o:Operator) (a b:Ex) | neg (a:Ex) | cmp (o:CmpOp) (a b:Ex) | chn (o p:CmpOp) (a b c:Ex)
 | and (a b:Ex) | or (a b:Ex) | not (a:Ex) | tup (es:Exs) | lst (es:Exs) | ix (a b:Ex) | slc (a:Ex) (lo hi:Eo)
 | call (f:Nat) (es:Exs) | bi (b:BI) (es:Exs) | mt (m:MT) (a:Ex) (es:Exs) | comp (own cn:List Str) (js:List Nat) (g:Tg) (it:Itb) (t:Eo) (e:Ex) | comp2 (own cn:List Str) (js:List Nat) (g:Tg) (it:Itb) (t:Eo) (g2:Tg) (it2:Itb) (t2:Eo) (e:Ex) | tyc (t:TyN) | lrng1 (a:Ex) | rev (a:Ex) | srtset (a:Ex) | eqt0 (a b:Ex) | nell (a b:Ex) | eqtl (a b:Ex) | no
inductive Exs where
 | nil | cons (e:Ex) (es:Exs)
inductive Eo where
 | no | yes (e:Ex)
inductive Itb where
 | seq (e:Ex) | rng1 (a:Ex) | enum (e:Ex) | rngT (a b:Ex)
end
inductive Stm where
 | asg (t:Tg) (e:Ex) | put (o i e:Ex) | expr (e:Ex) | iff (t:Ex) (a b:List Stm) | loop (g:Tg) (it:Itb) (b:List Stm) | whl (t:Ex) (b:List Stm)
 | ret (e:Ex) | no
noncomputable def sOp:Operator->S2
 | .Add=>Kq
 | .Sub=>CA fun i j => .int (i - j)
 | .Mult=>Kr
 | .FloorDiv=>GZ Qq fun i j => .int (i / j)
 | .Mod=>GZ (fun _ j=>0<j) fun i j => .int (i % j)
 | .Pow=>GZ Qr fun i j => .int (i ^ j.toNat)
 | _=>fun _ _ _ _=>False
noncomputable def B6:CmpOp->S2
 | .Eq=>sEq
 | .NotEq=>sNe
 | .Lt=>CA fun i j => .bl (decide (i<j))
 | .LtE=>CA fun i j => .bl (decide (i<=j))
 | .Gt=>CA fun i j => .bl (decide (j<i))
 | .GtE=>CA fun i j => .bl (decide (j<=i))
 | .In=>sIn false
 | .NotIn=>sIn true
 | .Is=>Kv false
 | .IsNot=>Kv true
noncomputable def L6:S1
 | .int i,S,Q=>Q (.int (-i)) S
 | _,_,_=>False
noncomputable def L7:SV->Sto->Option Bool
 | .bl b,_=>some b
 | .loc k,S=>match S[k]? with | some (.lst xs)=>some (!xs.isEmpty) | _=>none
 | _,_=>none
noncomputable def Pv(w:WE):WT:=fun ρ S Q=>w ρ S fun x S'=>∃ b,L7 x S'=some b/\Q b S'
noncomputable def L8(a b:WE):WE:=fun ρ S Q=>a ρ S fun x S1=>∃ c,x = .bl c/\if c=true then b ρ S1 Q else Q (.bl false) S1
noncomputable def wOr(a b:WE):WE:=fun ρ S Q=>a ρ S fun x S1=>∃ c,x = .bl c/\if c=true then Q (.bl true) S1 else b ρ S1 Q
noncomputable def NN(a:WE):WE:=fun ρ S Q=>a ρ S fun x S1=>∃ c,x = .bl c/\Q (.bl (!c)) S1
noncomputable def DI(a b:WT):WT:=fun ρ S Q=>a ρ S fun c S1=>if c=true then b ρ S1 Q else Q false S1
noncomputable def Gd(a b:WT):WT:=fun ρ S Q=>a ρ S fun c S1=>if c=true then Q true S1 else b ρ S1 Q
noncomputable def Hw(a:WT):WT:=fun ρ S Q=>a ρ S fun c S1=>Q (!c) S1
noncomputable def L9(s s':S2)(a b c:WE):WE:=fun ρ S Q=>a ρ S fun x S1=>b ρ S1 fun y S2=>s x y S2 fun z S3=>∃ k,z = .bl k/\if k=true then c ρ S3 fun u S4=>s' y u S4 Q else Q (.bl false) S3
noncomputable abbrev WO:=EnvS->Sto->(Option Int->Sto->Prop)->Prop
noncomputable def Pw:WO:=fun _ S Q=>Q none S
noncomputable def LA(w:WE):WO:=fun ρ S Q=>w ρ S fun x S1=>∃ i,x = .int i/\Q (some i) S1
noncomputable def EV(xs:List SV)(lo hi:Option Int):List SV:=(xs.drop (HT.sIx xs.length 0 lo)).take (HT.sIx xs.length xs.length hi - HT.sIx xs.length 0 lo)
noncomputable def LB:SV->Option Int->Option Int->Sto->QE->Prop
 | .loc k,lo,hi,S,Q=>∃ xs,S[k]?=some (.lst xs)/\Q (.loc S.length) (S++[.lst (EV xs lo hi)])
 | .tup xs,lo,hi,S,Q=>Q (.tup (EV xs lo hi)) S
 | _,_,_,_,_=>False
noncomputable def Px(a:WE)(lo hi:WO):WE:=fun ρ S Q=>a ρ S fun x S1=>lo ρ S1 fun l S2=>hi ρ S2 fun h S3=>LB x l h S3 Q
noncomputable abbrev WI:=EnvS->Sto->((Sto->Prop)->List SV->Sto->Prop)->Prop
noncomputable def DJ:SV->Sto->Sto->Prop
 | .loc k,S,S'=>S'[k]?=S[k]?
 | _,_,_=>True
noncomputable def Ob(w:WE):WI:=fun ρ S R=>w ρ S fun x S1=>∃ xs,Aa x S1=some xs/\R (DJ x S1) xs S1
noncomputable def Bq(lo hi:Int):List SV:=(Sx (hi - lo).toNat).map fun(i:Nat) => .int (lo+i)
noncomputable def LC(w:WE):WI:=fun ρ S R=>w ρ S fun x S1=>∃ j,x = .int j/\(-(2 ^ 62)<=j/\j<2 ^ 62)/\R (fun _=>True) (Bq 0 j) S1
noncomputable def rngT(lo hi:Int):List SV:=(Sx (Bp lo hi)).map fun(i:Nat) => .int (lo+i * 2)
noncomputable def LD(w u:WE):WI:=fun ρ S R=>w ρ S fun x S1=>u ρ S1 fun y S2=>∃ i j,x = .int i/\y = .int j/\(-(2 ^ 61)<=i/\i<2 ^ 61 /\ -(2 ^ 61)<=j/\j<2 ^ 61)/\R (fun _=>True) (rngT i j) S2
noncomputable def BN(xs:List SV):List SV:=(Sx xs.length).zipWith (fun(i:Nat) x => .tup [.int i,x]) xs
noncomputable def LF(w:WE):WI:=fun ρ S R=>w ρ S fun x S1=>∃ xs,Aa x S1=some xs/\R (DJ x S1) (BN xs) S1
noncomputable def Ge(a:WE):WE:=fun ρ S Q=>a ρ S fun x S1=>∃ j,x = .int j/\(-(2 ^ 62)<=j/\j<=100000)/\Q (.loc S1.length) (S1++[.lst (Bq 0 j)])
noncomputable def NO:S1
 | .loc k,S,Q=>∃ xs,S[k]?=some (.lst xs)/\Q (.loc S.length) (S++[.lst xs.reverse])
 | _,_,_=>False
noncomputable def EW(a:WE):WE:=fun ρ S Q=>a ρ S fun x S1=>∃ xs ns,x ≠ .tup xs/\Aa x S1=some xs/\ES xs=some ns/\ns.length<128/\Q (.loc S1.length) (S1++[.lst ((srt (CY ns)).map SV.int)])
noncomputable def JG(kvs:List (Int×SV))(i:Int):Option SV:=(kvs.find? fun p=>decide (p.1=i)).map (·.2)
noncomputable def Oc(kvs:List (Int×SV))(i:Int)(x:SV):List (Int×SV):=if (kvs.any fun p=>decide (p.1=i))=true then kvs.map (fun p=>if p.1=i then (p.1,x) else p) else kvs++[(i,x)]
noncomputable def LsI(S:Sto)(ts:List Nat)(xss:List (List Int)):Prop:=ts.length=xss.length/\∀(i t:Nat) (xs:List Int),ts[i]?=some t->xss[i]?=some xs->S[t]?=some (.lst (xs.map SV.int))
noncomputable def FB:S2:=fun x y S Q=>∃ xs,x = .tup xs/\y = .tup []/\Q (.bl xs.isEmpty) S
noncomputable def FC:S2:=fun x y S Q=>∃ k l ts us xss,x = .loc k/\y = .loc l/\S[k]?=some (.lst (ts.map SV.loc))/\S[l]?=some (.lst (us.map SV.loc))/\LsI S ts xss/\LsI S us xss/\Q (.bl false) S
noncomputable def FD:S2:=fun x y S Q=>∃ ts us xss,x = .tup (ts.map SV.loc)/\y = .tup (us.map SV.loc)/\LsI S ts xss/\LsI S us xss/\Q (.bl true) S
noncomputable def wMt(m:MT)(a:WE)(b:WA):WE:=fun ρ S Q=>a ρ S fun x S1=>(∃ k xs,x = .loc k/\S1[k]?=some (.lst xs))/\b ρ S1 fun xs S2=>sMt m x xs S2 Q
mutual
noncomputable def wTg:Tg->SV->EnvS->(EnvS->Prop)->Prop
 | .nm i,x,ρ,Q=>Q (ρ.set i (some x))
 | .tup ts,.tup xs,ρ,Q=>Ab ts xs ρ Q
 | .tup _,_,_,_=>False
noncomputable def Ab:Tgs->List SV->EnvS->(EnvS->Prop)->Prop
 | .nil,[],ρ,Q=>Q ρ
 | .cons t ts,x::xs,ρ,Q=>wTg t x ρ fun ρ'=>Ab ts xs ρ' Q
 | _,_,_,_=>False
end
noncomputable def Bz(k:Nat)(js:List Nat)(ρ:EnvS):EnvS:=Su k none++js.map fun j=>(ρ[j]?).join
noncomputable def v6(keep:Sto->Prop)(g:Tg)(t:WT)(e:WE)(ρ:EnvS)(Q:List SV->Sto->Prop):List SV->List SV->Sto->Prop
 | [],ys,S=>keep S/\Q ys S
 | x::xs,ys,S=>keep S/\wTg g x ρ fun ρ2=>t ρ2 S fun b S1=>if b=true then e ρ2 S1 fun y S2=>ys.length<big/\v6 keep g t e ρ Q xs (ys++[y]) S2 else v6 keep g t e ρ Q xs ys S1
noncomputable def Hx(k:Nat)(js:List Nat)(g:Tg)(i:WI)(t:WT)(e:WE):WE:=fun ρ S Q=>i ρ S fun keep xs S1=>v6 keep g t e (Bz k js ρ) (fun ys S2=>Q (.loc S2.length) (S2++[.lst ys])) xs [] S1
noncomputable def m9(keep:Sto->Prop)(g:Tg)(t:WT)(e:WE)(Q:List SV->Sto->Prop):List SV->EnvS->List SV->Sto->Prop
 | [],_,ys,S=>keep S/\Q ys S
 | x::xs,ρ,ys,S=>keep S/\wTg g x ρ fun ρ2=>t ρ2 S fun b S1=>if b=true then e ρ2 S1 fun y S2=>ys.length<big/\m9 keep g t e Q xs ρ2 (ys++[y]) S2 else m9 keep g t e Q xs ρ2 ys S1
noncomputable def l7(keep:Sto->Prop)(g:Tg)(t:WT)(g2:Tg)(i2:WI)(t2:WT)(e:WE)(ρ:EnvS)(Q:List SV->Sto->Prop):List SV->List SV->Sto->Prop
 | [],ys,S=>keep S/\Q ys S
 | x::xs,ys,S=>keep S/\wTg g x ρ fun ρ2=>t ρ2 S fun b S1=>if b=true then i2 ρ2 S1 fun keep2 xs2 S2=>m9 keep2 g2 t2 e (fun ys' S3=>l7 keep g t g2 i2 t2 e ρ Q xs ys' S3) xs2 ρ2 ys S2 else l7 keep g t g2 i2 t2 e ρ Q xs ys S1
noncomputable def EX(k:Nat)(js:List Nat)(g:Tg)(i:WI)(t:WT)(g2:Tg)(i2:WI)(t2:WT)(e:WE):WE:=fun ρ S Q=>i ρ S fun keep xs S1=>l7 keep g t g2 i2 t2 e (Bz k js ρ) (fun ys S2=>Q (.loc S2.length) (S2++[.lst ys])) xs [] S1
noncomputable def tt1(w:WE):WE×WT:=(w,Pv w)
noncomputable def wBl(w:WE):WT:=fun ρ S Q=>w ρ S fun x S'=>∃ b,x = .bl b/\Q b S'
noncomputable def tt2(w:WE):WE×WT:=(w,wBl w)
noncomputable def RZ:WT:=fun _ S Q=>Q true S
mutual
noncomputable def wEx(Δ:Nat->Sn):Ex->WE×WT
 | .var i=>tt1 (Pj i)
 | .c x=>tt1 (wC x)
 | .op o a b=>tt1 (w2 (sOp o) (wEx Δ a).1 (wEx Δ b).1)
 | .neg a=>tt1 (w1 L6 (wEx Δ a).1)
 | .cmp o a b=>tt2 (w2 (B6 o) (wEx Δ a).1 (wEx Δ b).1)
 | .chn o p a b c=>tt2 (L9 (B6 o) (B6 p) (wEx Δ a).1 (wEx Δ b).1 (wEx Δ c).1)
 | .and a b=>(L8 (wEx Δ a).1 (wEx Δ b).1,DI (wEx Δ a).2 (wEx Δ b).2)
 | .or a b=>(wOr (wEx Δ a).1 (wEx Δ b).1,Gd (wEx Δ a).2 (wEx Δ b).2)
 | .not a=>(NN (wEx Δ a).1,Hw (wEx Δ a).2)
 | .tup es=>tt1 (wn N6 (FE Δ es))
 | .lst es=>tt1 (wn N7 (FE Δ es))
 | .ix a b=>tt1 (w2 sIx (wEx Δ a).1 (wEx Δ b).1)
 | .slc a lo hi=>tt1 (Px (wEx Δ a).1 (wEo Δ lo).1 (wEo Δ hi).1)
 | .call f es=>tt1 (wn (Δ f) (FE Δ es))
 | .bi b es=>tt1 (wn (sBi b) (FE Δ es))
 | .mt m a es=>tt1 (wMt m (wEx Δ a).1 (FE Δ es))
 | .comp own _ js g it t e=>tt1 (Hx own.length js g (Gf Δ it) (wEo Δ t).2 (wEx Δ e).1)
 | .comp2 own _ js g it t g2 it2 t2 e=>tt1 (EX own.length js g (Gf Δ it) (wEo Δ t).2 g2 (Gf Δ it2) (wEo Δ t2).2 (wEx Δ e).1)
 | .tyc t=>tt1 (wC (.ty t))
 | .lrng1 a=>tt1 (Ge (wEx Δ a).1)
 | .rev a=>tt1 (w1 NO (wEx Δ a).1)
 | .srtset a=>tt1 (EW (wEx Δ a).1)
 | .eqt0 a b=>tt2 (w2 FB (wEx Δ a).1 (wEx Δ b).1)
 | .nell a b=>tt2 (w2 FC (wEx Δ a).1 (wEx Δ b).1)
 | .eqtl a b=>tt2 (w2 FD (wEx Δ a).1 (wEx Δ b).1)
 | .no=>(fun _ _ _=>False,fun _ _ _=>False)
noncomputable def FE(Δ:Nat->Sn):Exs->WA
 | .nil=>Dx
 | .cons e es=>DG (wEx Δ e).1 (FE Δ es)
noncomputable def wEo(Δ:Nat->Sn):Eo->WO×WT
 | .no=>(Pw,RZ)
 | .yes e=>(LA (wEx Δ e).1,(wEx Δ e).2)
noncomputable def Gf(Δ:Nat->Sn):Itb->WI
 | .seq e=>Ob (wEx Δ e).1
 | .rng1 a=>LC (wEx Δ a).1
 | .enum e=>LF (wEx Δ e).1
 | .rngT a b=>LD (wEx Δ a).1 (wEx Δ b).1
end
structure EndsS where
 nx:EnvS->Sto->Prop
 rt:SV->Sto->Prop
 bk:EnvS->Sto->Prop:=fun _ _=>False
 ct:EnvS->Sto->Prop:=fun _ _=>False
noncomputable abbrev WS:=EndsS->EnvS->Sto->Prop
noncomputable def JH:SV->SV->SV->Sto->(Sto->Prop)->Prop
 | .loc k,.int i,v,S,Q=>∃ xs j,S[k]?=some (.lst xs)/\ixN xs.length i=some j/\Q (S.set k (.lst (xs.set j v)))
 | _,_,_,_,_=>False
noncomputable def AB(keep:Sto->Prop)(g:Tg)(b:WS)(D:EndsS):List SV->EnvS->Sto->Prop
 | [],ρ,S=>keep S/\D.nx ρ S
 | x::xs,ρ,S=>keep S/\wTg g x ρ fun ρ2=>b {D with nx:=AB keep g b D xs,ct:=AB keep g b D xs,bk:=D.nx} ρ2 S
noncomputable def Py(t:WT)(b:WS):WS:=fun D ρ S=>∃ W:Nat->EnvS->Sto->Prop,(∃ m,W m ρ S)/\∀ m ρ S,W m ρ S->t ρ S fun c S1=>if c=true then
 b {D with nx:=fun ρ' S'=>∃ m',m'<m/\W m' ρ' S',ct:=fun ρ' S'=>∃ m',m'<m/\W m' ρ' S',bk:=D.nx} ρ S1 else D.nx ρ S1
mutual
noncomputable def wSt(Δ:Nat->Sn):Stm->WS
 | .asg t e=>fun D ρ S=>(wEx Δ e).1 ρ S fun x S1=>wTg t x ρ fun ρ'=>D.nx ρ' S1
 | .put o i e=>fun D ρ S=>(wEx Δ e).1 ρ S fun v S1=>(wEx Δ o).1 ρ S1 fun x S2=>(wEx Δ i).1 ρ S2 fun y S3=>JH x y v S3 fun S4=>D.nx ρ S4
 | .expr e=>fun D ρ S=>(wEx Δ e).1 ρ S fun _ S1=>D.nx ρ S1
 | .iff t a b=>fun D ρ S=>(wEx Δ t).2 ρ S fun c S1=>if c=true then wSs Δ a D ρ S1 else wSs Δ b D ρ S1
 | .loop g it b=>fun D ρ S=>Gf Δ it ρ S fun keep xs S1=>AB keep g (wSs Δ b) D xs ρ S1
 | .whl t b=>Py (wEx Δ t).2 (wSs Δ b)
 | .ret e=>fun D ρ S=>(wEx Δ e).1 ρ S D.rt
 | .no=>fun _ _ _=>False
noncomputable def wSs(Δ:Nat->Sn):List Stm->WS
 | []=>fun D ρ S=>D.nx ρ S
 | s::ss=>fun D ρ S=>wSt Δ s {D with nx:=wSs Δ ss D} ρ S
end
open PySem L2
theorem y6{α:Type}{P:Prop}{x:α}(h:(none:Option α)=some x):P:=nomatch h
noncomputable def Au(scope sc:Scope):Scope:={scope with names:=scope.names.map fun(n,k)=>if (k == .free&&sc.kind == .function&&sc.names.lookup n == some .cell) then (n,.cell) else (n,k)}
noncomputable def f7:Expr->Bool
 | .Starred ..=>false
 | _=>true
theorem j6{e:Expr}{es:List Expr}{env:Env}(h:f7 e=true):starEach (e::es) env=(false,eval e env)::starEach es env:=by
 cases e<;>first | rfl | cases h
theorem CB{env:Env}{pos:Pos}:∀{es:List Expr},es.all f7=true->(backTo pos (starEach es env)).any (·.1)=false
 | [],_=>rfl
 | e::es,h=>by
   rw[UB,Si]at h;rw[j6 h.1];exact CB (es:=es) h.2
theorem Dz{env:Env}{pos:Pos}:∀{es:List Expr},es.all f7=true->(backTo pos (starEach es env)).all (fun x=>!x.1)=true
 | [],_=>rfl
 | e::es,h=>by
   rw[UB,Si]at h;rw[j6 h.1];exact Dz (es:=es) h.2
noncomputable def glo(sc:Scope)(x:Str):Bool:=sc.names.lookup x == some .globalImplicit&&!(x == ("__name__":Str))&&!(x == ("__debug__":Str))
noncomputable def vis(sc:Scope)(x:Str):Bool:=sc.names.lookup x == some .local||sc.names.lookup x == some .cell||sc.names.lookup x == some .free
noncomputable def loc(sc:Scope)(x:Str):Bool:=sc.names.lookup x == some .local||sc.names.lookup x == some .cell
noncomputable def Pz:SV->Const->Bool
 | .non,.none=>true
 | .bl a,.bool b=>a == b
 | .int i,.int j=>decide (i=j)
 | .str x,.str y=>decide (x=y)
 | _,_=>false
noncomputable def BO:Expr->Bool
 | .Slice ..=>false
 | _=>true
noncomputable def j7:Expr->Bool
 | .Set ..=>false
 | _=>true
noncomputable def LG:Expr->Bool
 | .UnaryOp .Not _ _=>false
 | .BoolOp ..=>false
 | .IfExp ..=>false
 | .Compare ..=>false
 | _=>true
noncomputable def D0:Expr->Bool
 | .Call (.Name _ _) [] [] _=>false
 | _=>true
noncomputable def E1:Expr->Option Str
 | .Name x _=>some x
 | _=>none
noncomputable def EY:Expr->Option Const
 | .Constant k _ _=>some k
 | _=>none
noncomputable def Ra:Expr->Option (Expr×Operator×Expr)
 | .BinOp a o b _=>some (a,o,b)
 | _=>none
noncomputable def vUn:Expr->Option (UnaryOp×Expr)
 | .UnaryOp o a _=>some (o,a)
 | _=>none
noncomputable def JI:Expr->Option (Expr×List CmpOp×List Expr)
 | .Compare a os bs _=>some (a,os,bs)
 | _=>none
noncomputable def LJ:Expr->Option (BoolOp×List Expr×Pos)
 | .BoolOp o vs p=>some (o,vs,p)
 | _=>none
noncomputable def JJ:Expr->Option (List Expr)
 | .Tuple es _ _=>some es
 | _=>none
noncomputable def Rb:Expr->Option (List Expr)
 | .List es _=>some es
 | _=>none
noncomputable def LK:Expr->Option (Expr×Expr)
 | .Subscript a b _=>some (a,b)
 | _=>none
noncomputable def Q0:Expr->Option (Option Expr×Option Expr×Option Expr)
 | .Slice l h s _=>some (l,h,s)
 | _=>none
noncomputable def FF:Expr->Option (Expr×List Expr×List Keyword)
 | .Call f as ks _=>some (f,as,ks)
 | _=>none
noncomputable def Gg:Expr->Nat
 | .Call _ _ _ p=>p.line
 | _=>0
noncomputable def LL:Expr->Option (Expr×Str×Nat)
 | .Attribute o n p=>some (o,n,p.endLine)
 | _=>none
noncomputable def FG:Expr->Option (Expr×List Comprehension×Scope)
 | .ListComp e gs s _=>some (e,gs,s)
 | _=>none
theorem CC{r:Expr}{x:Str}(h:E1 r=some x):∃ p,r = .Name x p:=by cases r<;>first | (cases h;exact⟨_,rfl⟩) | exact y6 h
theorem Cb{r:Expr}{x:Const}(h:EY r=some x):∃ j p,r = .Constant x j p:=by cases r<;>first | (cases h;exact⟨_,_,rfl⟩) | exact y6 h
theorem NP{r:Expr}{x:Expr×Operator×Expr}(h:Ra r=some x):∃ p,r = .BinOp x.1 x.2.1 x.2.2 p:=by cases r<;>first | (cases h;exact⟨_,rfl⟩) | exact y6 h
theorem Gh{r:Expr}{x:UnaryOp×Expr}(h:vUn r=some x):∃ p,r = .UnaryOp x.1 x.2 p:=by cases r<;>first | (cases h;exact⟨_,rfl⟩) | exact y6 h
theorem CD{r:Expr}{x:Expr×List CmpOp×List Expr}(h:JI r=some x):∃ p,r = .Compare x.1 x.2.1 x.2.2 p:=by cases r<;>first | (cases h;exact⟨_,rfl⟩) | exact y6 h
theorem FH{r:Expr}{x:BoolOp×List Expr×Pos}(h:LJ r=some x):r = .BoolOp x.1 x.2.1 x.2.2:=by cases r<;>first | (cases h;exact rfl) | exact y6 h
theorem D1{r:Expr}{x:List Expr}(h:JJ r=some x):∃ j p,r = .Tuple x j p:=by cases r<;>first | (cases h;exact⟨_,_,rfl⟩) | exact y6 h
theorem NQ{r:Expr}{x:List Expr}(h:Rb r=some x):∃ p,r = .List x p:=by cases r<;>first | (cases h;exact⟨_,rfl⟩) | exact y6 h
theorem D2{r:Expr}{x:Expr×Expr}(h:LK r=some x):∃ p,r = .Subscript x.1 x.2 p:=by cases r<;>first | (cases h;exact⟨_,rfl⟩) | exact y6 h
theorem Hy{r:Expr}{x:Option Expr×Option Expr×Option Expr}(h:Q0 r=some x):∃ p,r = .Slice x.1 x.2.1 x.2.2 p:=by cases r<;>first | (cases h;exact⟨_,rfl⟩) | exact y6 h
theorem FI{r:Expr}{x:Expr×List Expr×List Keyword}(h:FF r=some x):∃ p,r = .Call x.1 x.2.1 x.2.2 p/\Gg r=p.line:=by cases r<;>first | (cases h;exact⟨_,rfl,rfl⟩) | exact y6 h
theorem LM{r:Expr}{x:Expr×Str×Nat}(h:LL r=some x):∃ p,r = .Attribute x.1 x.2.1 p/\x.2.2=p.endLine:=by cases r<;>first | (cases h;exact⟨_,rfl,rfl⟩) | exact y6 h
theorem CF{r:Expr}{x:Expr×List Comprehension×Scope}(h:FG r=some x):∃ p,r = .ListComp x.1 x.2.1 x.2.2 p:=by cases r<;>first | (cases h;exact⟨_,rfl⟩) | exact y6 h
theorem a7{α:Type}{o:Option α}{p:α->Bool}(h:o.any p=true):∃ x,o=some x/\p x=true:=by
 cases o with
 | none=>cases h
 | some x=>exact⟨x,rfl,h⟩
theorem Ad{α:Type}{l:List α}{x:α}(h:l.head?=some x):l=x::l.tail:=by
 cases l with
 | nil=>cases h
 | cons y r=>cases h;rfl
noncomputable def l1{α:Type}:List α->Option α
 | [x]=>some x
 | _=>none
noncomputable def l2{α:Type}:List α->Option (α×α)
 | [x,y]=>some (x,y)
 | _=>none
theorem AL{α:Type}{l:List α}{x:α}(h:l1 l=some x):l=[x]:=by
 match l,h with
 | [y],h=>cases h;rfl
theorem LN{α:Type}{l:List α}{x:α×α}(h:l2 l=some x):l=[x.1,x.2]:=by
 match l,h with
 | [y,z],h=>cases h;rfl
noncomputable def l3{α:Type}:List α->Option (α×α×α)
 | [x,y,z]=>some (x,y,z)
 | _=>none
theorem Rc{α:Type}{l:List α}{x:α×α×α}(h:l3 l=some x):l=[x.1,x.2.1,x.2.2]:=by
 match l,h with
 | [y,z,w],h=>cases h;rfl
noncomputable def vFn(r:Expr):Option (Str×List Expr):=(FF r).bind fun c=>if c.2.2.isEmpty then (E1 c.1).map fun x=>(x,c.2.1) else none
theorem B7{r:Expr}{x:Str×List Expr}(h:vFn r=some x):∃ p q,r = .Call (.Name x.1 p) x.2 [] q:=by
 unfold vFn at h;cases hc:FF r with
 | none=>rw[hc]at h;cases h
 | some c=>
   rw[hc]at h;obtain⟨q,e,_⟩:=FI hc;simp only[VV]at h;by_cases hk:c.2.2.isEmpty=true
   ·rw[if_pos hk]at h;cases hn:E1 c.1 with
    | none=>rw[hn]at h;cases h
    | some y=>
      rw[hn]at h;cases h;obtain⟨p,ep⟩:=CC hn;rw[e,ep,Tz.mp hk];exact⟨p,q,rfl⟩
   ·rw[if_neg hk]at h;cases h
noncomputable def vMt(r:Expr):Option (Expr×Str×List Expr):=(FF r).bind fun c=>if c.2.2.isEmpty then (LL c.1).bind fun a=>if a.2.2 == Gg r then some (a.1,a.2.1,c.2.1) else none else none
theorem Q1{r:Expr}{x:Expr×Str×List Expr}(h:vMt r=some x):∃ ap cp,r = .Call (.Attribute x.1 x.2.1 ap) x.2.2 [] cp/\(ap.endLine == cp.line)=true:=by
 unfold vMt at h;cases hc:FF r with
 | none=>rw[hc]at h;cases h
 | some c=>
   rw[hc]at h;obtain⟨q,e,el⟩:=FI hc;simp only[VV]at h;by_cases hk:c.2.2.isEmpty=true
   ·rw[if_pos hk]at h;cases hn:LL c.1 with
    | none=>rw[hn]at h;cases h
    | some y=>
      rw[hn]at h;simp only[VV]at h;obtain⟨p,ep,el2⟩:=LM hn;by_cases hl:(y.2.2 == Gg r)=true
      ·rw[if_pos hl]at h;cases h;refine⟨p,q,?_,?_⟩
       ·rw[e,ep,Tz.mp hk]
       ·rw[<-el2,<-el];exact hl
      ·rw[if_neg hl]at h;cases h
   ·rw[if_neg hk]at h;cases h
mutual
noncomputable def AW(k:Nat)(N:List Str)(sc:Scope):Tg->Expr->Bool
 | .nm i,r=>(E1 r).any fun x=>decide (i<k)&&decide (N[i]?=some x)&&loc sc x
 | .tup ts,r=>(JJ r).any fun es=>AX k N sc ts es
noncomputable def AX(k:Nat)(N:List Str)(sc:Scope):Tgs->List Expr->Bool
 | .nil,r=>r.isEmpty
 | .cons t ts,r=>(r.head?).any fun e=>AW k N sc t e&&f7 e&&AX k N sc ts r.tail
end
noncomputable def nmB(N:List Str)(sc:Scope)(i:Nat)(x:Str):Bool:=decide (N[i]?=some x)&&vis sc x&&!(x == ("__debug__":Str))&&!(x == ("__classdict__":Str))
mutual
noncomputable def i8(T:List Str)(N:List Str)(sc:Scope):Ex->Expr->Bool
 | .var i,r=>(E1 r).any fun x=>nmB N sc i x
 | .c x,r=>(EY r).any fun k=>Pz x k
 | .op o a b,r=>(Ra r).any fun v=>decide (o=v.2.1)&&i8 T N sc a v.1&&i8 T N sc b v.2.2
 | .neg a,r=>(vUn r).any fun v=>decide (v.1 = .USub)&&i8 T N sc a v.2
 | .cmp o a b,r=>(JI r).any fun v=>(l1 v.2.2).any fun rb=>decide (v.2.1=[o])&&i8 T N sc a v.1&&i8 T N sc b rb&&j7 rb
 | .chn o p a b c,r=>(JI r).any fun v=>(l2 v.2.2).any fun rs=>decide (v.2.1=[o,p])&&i8 T N sc a v.1&&i8 T N sc b rs.1&&i8 T N sc c rs.2&&j7 rs.2
 | .and a b,r=>(LJ r).any fun v=>decide (v.1 = .And)&&(v.2.1.head?).any fun x=>i8 T N sc a x&&(match l1 v.2.1.tail with | some y=>i8 T N sc b y | none=>decide (2<=v.2.1.tail.length)&&i8 T N sc b (.BoolOp .And v.2.1.tail v.2.2))
 | .or a b,r=>(LJ r).any fun v=>decide (v.1 = .Or)&&(v.2.1.head?).any fun x=>i8 T N sc a x&&(match l1 v.2.1.tail with | some y=>i8 T N sc b y | none=>decide (2<=v.2.1.tail.length)&&i8 T N sc b (.BoolOp .Or v.2.1.tail v.2.2))
 | .not a,r=>(vUn r).any fun v=>decide (v.1 = .Not)&&i8 T N sc a v.2
 | .tup es,r=>(JJ r).any fun rs=>Av T N sc es rs
 | .lst es,r=>(Rb r).any fun rs=>Av T N sc es rs
 | .ix a b,r=>(LK r).any fun v=>i8 T N sc a v.1&&i8 T N sc b v.2&&BO v.2
 | .slc a lo hi,r=>(LK r).any fun v=>(Q0 v.2).any fun s=>i8 T N sc a v.1&&LO T N sc lo s.1&&LO T N sc hi s.2.1&&s.2.2.isNone
 | .call f es,r=>(vFn r).any fun v=>decide (T[f]?=some v.1)&&glo sc v.1&&Av T N sc es v.2&&!v.2.isEmpty
 | .bi b es,r=>(vFn r).any fun v=>decide (b.name=v.1)&&glo sc v.1&&Av T N sc es v.2&&!v.2.isEmpty
 | .mt m a es,r=>(vMt r).any fun v=>decide (v.2.1=m.name)&&D0 v.1&&decide (v.2.2.length<29)&&i8 T N sc a v.1&&Av T N sc es v.2.2
 | .comp own cn js g it t e,r=>(FG r).any fun v=>(l1 v.2.1).any fun c=>decide (c.is_async=0)&&m4 sc v.2.2 own cn N js&&AW own.length (own++cn) (Au v.2.2 sc) g c.target&&FJ T N sc it c.target c.iter&&j7 c.iter&&CG T (own++cn) (Au v.2.2 sc) t c.ifs&&i8 T (own++cn) (Au v.2.2 sc) e v.1
 | .comp2 own cn js g it t g2 it2 t2 e,r=>(FG r).any fun v=>(l2 v.2.1).any fun c=>decide (c.1.is_async=0)&&decide (c.2.is_async=0)&&m4 sc v.2.2 own cn N js&&AW own.length (own++cn) (Au v.2.2 sc) g c.1.target&&FJ T N sc it c.1.target c.1.iter&&j7 c.1.iter&&CG T (own++cn) (Au v.2.2 sc) t c.1.ifs&&AW own.length (own++cn) (Au v.2.2 sc) g2 c.2.target&&FJ T (own++cn) (Au v.2.2 sc) it2 c.2.target c.2.iter&&j7 c.2.iter&&CG T (own++cn) (Au v.2.2 sc) t2 c.2.ifs&&i8 T (own++cn) (Au v.2.2 sc) e v.1
 | .tyc t,r=>(E1 r).any fun x=>decide (x=Str.ofString t.nm)&&glo sc x&&decide (t ≠ .none)
 | .lrng1 a,r=>(vFn r).any fun v=>(l1 v.2).any fun z=>(vFn z).any fun u=>(l1 u.2).any fun ra=>decide (v.1=("list":Str))&&decide (u.1=("range":Str))&&glo sc v.1&&glo sc u.1&&i8 T N sc a ra&&f7 ra
 | .rev a,r=>(LK r).any fun v=>(Q0 v.2).any fun s=>s.1.isNone&&s.2.1.isNone&&s.2.2.any fun st=>(vUn st).any fun u=>decide (u.1 = .USub)&&(EY u.2).any fun c=>decide (c = .int 1)&&i8 T N sc a v.1
 | .srtset a,r=>(vFn r).any fun v=>(l1 v.2).any fun z=>(vFn z).any fun u=>(l1 u.2).any fun ra=>decide (v.1=("sorted":Str))&&decide (u.1=("set":Str))&&glo sc v.1&&glo sc u.1&&i8 T N sc a ra&&f7 ra
 | .eqt0 a b,r=>(JI r).any fun v=>(l1 v.2.2).any fun rb=>decide (v.2.1=[.Eq])&&i8 T N sc a v.1&&i8 T N sc b rb&&j7 rb
 | .nell a b,r=>(JI r).any fun v=>(l1 v.2.2).any fun rb=>decide (v.2.1=[.NotEq])&&i8 T N sc a v.1&&i8 T N sc b rb&&j7 rb
 | .eqtl a b,r=>(JI r).any fun v=>(l1 v.2.2).any fun rb=>decide (v.2.1=[.Eq])&&i8 T N sc a v.1&&i8 T N sc b rb&&j7 rb
 | .no,_=>true
noncomputable def Av(T:List Str)(N:List Str)(sc:Scope):Exs->List Expr->Bool
 | .nil,r=>r.isEmpty
 | .cons e es,r=>(r.head?).any fun x=>i8 T N sc e x&&f7 x&&Av T N sc es r.tail
noncomputable def LO(T:List Str)(N:List Str)(sc:Scope):Eo->Option Expr->Bool
 | .no,r=>r.isNone
 | .yes e,r=>r.any fun x=>i8 T N sc e x
noncomputable def CG(T:List Str)(N:List Str)(sc:Scope):Eo->List Expr->Bool
 | .no,r=>r.isEmpty
 | .yes e,r=>(l1 r).any fun x=>i8 T N sc e x
noncomputable def FJ(T:List Str)(N:List Str)(sc:Scope):Itb->Expr->Expr->Bool
 | .seq e,_,r=>i8 T N sc e r
 | .rng1 a,_,r=>(vFn r).any fun v=>(l1 v.2).any fun ra=>decide (v.1=("range":Str))&&glo sc v.1&&i8 T N sc a ra&&f7 ra
 | .enum e,tg,r=>(JJ tg).isSome&&(vFn r).any fun v=>(l1 v.2).any fun a=>decide (v.1=("enumerate":Str))&&glo sc v.1&&i8 T N sc e a&&f7 a
 | .rngT a b,_,r=>(vFn r).any fun v=>(l3 v.2).any fun ra=>(EY ra.2.2).any fun c=>decide (v.1=("range":Str))&&glo sc v.1&&i8 T N sc a ra.1&&f7 ra.1&&i8 T N sc b ra.2.1&&f7 ra.2.1&&decide (c = .int 2)
end
open PySem L2
noncomputable def spS(K:Sh)(w:Sn):Sp:=fun vs H Q _=>∃ as S xs,Ok K as H S/\RlAll K as H vs xs/\w xs S (Post K as H Q)
structure Cal(P:Program)(w:World)(K:Sh)(mg:Str->Option Value)(base:Heap)(k:Nat)(x:Str)(ps:List Str)(sp:Sp):Prop where
 ex:∃ f fd,FnOk P w K mg base CX0 k f fd ps sp/\mg x=some (.ref f)/\PySem.W.keepIn K (.ref f)=true/\Binds K fd ps []
structure Cok(T:List Str)(Δ:Nat->Sn)(X:Cx)(k:Nat)(N:List Str)(sc:Scope):Prop where
 hN:X.N=N
 hs:X.env.scope=sc
 nd:N.Nodup
 calm:X.calm=true
 fn:∀ i x,i<k->N[i]?=some x->sc.names.lookup x=some .cell->X.fn x=true
 un:X.A.units+100<cLine
 bl:∀ b:BI,X.mg b.name=none
 rng:X.mg "range"=none
 enm:X.mg "enumerate"=none
 zip:X.mg "zip"=none
 st0:X.mg "set"=none
 dc0:X.mg "dict"=none
 ty:∀ t:TyN,t ≠ .none->X.mg (Str.ofString t.nm)=none
 gd:X.A.guards=some []
 call:∀ f x,T[f]?=some x->∃ k ps,Cal X.prog X.w X.K X.mg X.base k x ps (spS X.K (Δ f))/\Room k X.A
 mono:∀ f,MonoN (Δ f)
structure Good(X:Cx)(r:Expr)(w:WE×WT):Prop where
 pe:PE X r (lift X.K w.1)
 pt:PT X r (liftT X.K w.2)
 m:Mono w.1
 mt:MonoT w.2
 pw:∀ op vs p,r = .BoolOp op vs p->PW X r (liftT X.K w.2)
section
variable{X:Cx}{r:Expr}{w:WE}
theorem MonoT.tru(m:Mono w):MonoT (Pv w):=fun ρ S P P' i h=>m _ _ _ _ (fun x S' ⟨b,e,q⟩=>⟨b,e,i _ _ q⟩) h
theorem MonoT.bl(m:Mono w):MonoT (wBl w):=fun ρ S P P' i h=>m _ _ _ _ (fun x S' ⟨b,e,q⟩=>⟨b,e,i _ _ q⟩) h
theorem Q2{K:Sh}{as:List Addr}{H:Hp}{S:Sto}{x:SV}{v:V}{b:Bool}(ok:Ok K as H S)(r:Rl K as H v x)(e:L7 x S=some b):Mb K v H b:=by
 cases x with
 | bl c=>cases e;rw[rl_bl.mp r];exact rfl
 | loc k=>
   unfold L7 at e;cases hs:S[k]? with
   | none=>simp only[hs]at e;cases e
   | some o=>
     cases o with
     | lst xs=>
       simp only[hs]at e;cases e;obtain⟨a,vs,rfl,_,ha,rr⟩:=v5 ok r hs;refine .inl ⟨vs,SqL.of ha,?_⟩;have:=rr.length;cases vs<;>cases xs<;>first | rfl | (simp at this)
     | iset _=>simp only[hs]at e;cases e
     | dct _=>simp only[hs]at e;cases e
     | dcf _ _ _=>simp only[hs]at e;cases e
 | _=>cases e
theorem Di{env:Env}(h:LG r=true):∀ whole,isTrue r env whole=(do let v <- whole;standAt r.pos;holding [v] (truthy v)):=by
 intro whole;cases r<;>first | rfl | (cases h;done) | (rename_i o _ _;cases o<;>first | rfl | cases h)
theorem NR{K:Sh}(m:Mono w):∀ σ H Q,liftT K (Pv w) σ H Q->lift K w σ H fun x H'=>∃ k,Mb K x H' k/\Q k H':=by
 rintro σ H Q ⟨as,ρ,S,ok,en,h⟩;exact⟨as,ρ,S,ok,en,m _ _ _ _ (fun x S' ⟨b,e,q⟩ as' H' v g ok' r=>⟨b,Q2 ok' r e,q as' H' g ok'⟩) h⟩
theorem DK{K:Sh}(m:Mono w):∀ σ H Q,liftT K (wBl w) σ H Q->lift K w σ H fun x H'=>∃ k,x = .bl k/\Q k H':=by
 rintro σ H Q ⟨as,ρ,S,ok,en,h⟩;exact⟨as,ρ,S,ok,en,m _ _ _ _ (fun x S' ⟨b,e,q⟩ as' H' v g ok' r=>⟨b,by subst e;exact rl_bl.mp r,q as' H' g ok'⟩) h⟩
theorem Good.one(hp:PE X r (lift X.K w))(m:Mono w)(h:LG r=true):Good X r (tt1 w) where
 pe:=hp
 pt:=By _ (K6 hp (Di h)) (NR m)
 m:=m
 mt := .tru m
 pw:=fun op vs p e=>by rw[e]at h;cases h
theorem LP{X:Cx}{r:Expr}:PE X r (lift X.K fun _ _ _=>False):=fun _ _ _ _ _ _ h=>let ⟨_,_,_,_,_,z⟩:=h;z.elim
theorem LQ{X:Cx}{r:Expr}:PT X r (liftT X.K fun _ _ _=>False):=fun _ _ _ _ _ _ h=>let ⟨_,_,_,_,_,z⟩:=h;z.elim
theorem LR{X:Cx}{r:Expr}:PW X r (liftT X.K fun _ _ _=>False):=fun _ _ _ _ _ _ _ h=>let ⟨_,_,_,_,_,z⟩:=h;z.elim
theorem Good.never:Good X r (fun _ _ _=>False,fun _ _ _=>False):=⟨LP,LQ,fun _ _ _ _ _ h=>h,fun _ _ _ _ _ h=>h,fun _ _ _ _=>LR⟩
end
theorem Hz{o:Operator}:Mono2 (sOp o):=by
 unfold sOp;split<;>first | exact .add | exact .int0 | exact .mul | exact .int | exact fun _ _ _ _ _ _ h=>h
theorem AM{o:CmpOp}:Mono2 (B6 o):=by
 unfold B6;split<;>first | exact .eq | exact .ne | exact .int0 | exact .in' | exact .isN
section
variable{X:Cx}
theorem LU{o:Operator}{ra rb:Expr}{p:Pos}{wa wb:WE}(ha:PE X ra (lift X.K wa))(hb:PE X rb (lift X.K wb))(ma:Mono wa)(mb:Mono wb):PE X (.BinOp ra o rb p) (lift X.K (w2 (sOp o) wa wb)):=by
 have go:∀{s:S2} {rr:R2},Mono2 s->OpR X (binaryOp o) rr->BD X.K s rr->PE X (.BinOp ra o rb p) (lift X.K (w2 s wa wb)):=fun ms ho sim=>f9 _ (Qo ho ha hb) (AI sim ms ma mb);have no:PE X (.BinOp ra o rb p) (lift X.K (w2 (fun _ _ _ _=>False) wa wb)):=go (fun _ _ _ _ _ _ h=>h) (rr:=fun _ _ _ _=>False) (fun _ _ _ _ _ _ _ _ _ _ _ _ h=>h.elim) (fun _ _ _ _ _ _ _ _ _ _ _ h=>h);cases o with
 | Add=>exact go .add NB NC
 | Sub=>exact go .int0 P6 (BM fun _ _ _ _=>rl_int.mpr rfl)
 | Mult=>exact go .mul (op_mul.or PN) ND
 | FloorDiv=>exact go .int Ma (ER fun _ _ _ _=>rl_int.mpr rfl)
 | Mod=>exact go .int P7 (ER fun _ _ _ _=>rl_int.mpr rfl)
 | Pow=>exact go .int P8 (ER fun _ _ _ _=>rl_int.mpr rfl)
 | _=>exact no
theorem DL(o:CmpOp)(hu:X.A.units<cLine):∃ rr:R2,OpR X (compareOp o) rr/\BD X.K (B6 o) rr:=by
 cases o with
 | Eq=>exact⟨_,op_eq.or (PR hu),Pn⟩
 | NotEq=>exact⟨_,op_ne.or (PU hu),Po⟩
 | Lt=>exact⟨_,Qs,BM fun _ _ _ _=>rl_bl.mpr rfl⟩
 | LtE=>exact⟨_,Qt,BM fun _ _ _ _=>rl_bl.mpr rfl⟩
 | Gt=>exact⟨_,Qu,BM fun _ _ _ _=>rl_bl.mpr rfl⟩
 | GtE=>exact⟨_,Qv,BM fun _ _ _ _=>rl_bl.mpr rfl⟩
 | Is=>exact⟨_,PB,NF⟩
 | IsNot=>exact⟨_,op_notN.or J5,Ky⟩
 | In=>exact⟨_,Pq,Kx⟩
 | NotIn=>exact⟨_,JB,Kx⟩
theorem A7{o:CmpOp}{r:Expr}(h:j7 r=true):behindInMarks o r=false:=by
 cases r<;>first | rfl | cases h
theorem JK{o:CmpOp}{ra rb:Expr}{p:Pos}{wa wb:WE}(hu:X.A.units<cLine)(ha:PE X ra (lift X.K wa))(hb:PE X rb (lift X.K wb))(ma:Mono wa)(mb:Mono wb)(hn:j7 rb=true):Good X (.Compare ra [o] [rb] p) (tt2 (w2 (B6 o) wa wb)):=by
 obtain⟨rr,ho,sim⟩:=DL (X:=X) o hu;have m:Mono (w2 (B6 o) wa wb) := .two AM ma mb
 exact{pe:=f9 _ (Cu ho ha hb (A7 hn)) (AI sim AM ma mb)
       pt:=By _ (Cv ho ha hb (A7 hn)) fun σ H Q h=>AI sim AM ma mb σ H _ (DK m σ H Q h)
       m:=m
       mt := .bl m
       pw:=fun _ _ _ e=>by cases e}
theorem FK{o p:CmpOp}{a b c:WE}(ma:Mono a)(mb:Mono b)(mc:Mono c):Mono (L9 (B6 o) (B6 p) a b c):=fun ρ S P P' i h=>ma _ _ _ _ (fun x S1 h=>mb _ _ _ _ (fun y S2 h=>AM _ _ _ _ _ (fun z S3 ⟨k,e,q⟩=>⟨k,e,by
 cases k with
 | true=>rw[if_pos rfl]at q ⊢;exact mc _ _ _ _ (fun u S4 h=>AM _ _ _ _ _ i h) q
 | false=>rw[if_neg Ss]at q ⊢;exact i _ _ q⟩) h) h) h
theorem I0{K:Sh}{o p:CmpOp}{r r':R2}{a b c:WE}(s1:BD K (B6 o) r)(s2:BD K (B6 p) r')(ma:Mono a)(mb:Mono b)(mc:Mono c):∀ σ H Q,lift K (L9 (B6 o) (B6 p) a b c) σ H Q->GF r r' (lift K a) (lift K b) (lift K c) σ H Q:=by
 rintro σ H Q ⟨as,ρ,S,ok,en,h⟩;refine⟨as,ρ,S,ok,en,ma _ _ _ _ (fun x S1 h as1 H1 v g1 ok1 rv=>?_) h⟩;refine⟨as1,ρ,S1,ok1,en.mono g1.pre (g1.ku ok),mb _ _ _ _ (fun y S2 h as2 H2 u g2 ok2 ru=>?_) h⟩;refine s1 as2 H2 S2 x y v u _ ok2 (Rl.mono g2.pre (g2.ku ok1) x v rv) ru (AM _ _ _ _ _ (fun z S3 ⟨k,e,q⟩ as3 H3 t g3 ok3 rt=>?_) h);subst e;refine⟨k,rl_bl.mp rt,?_⟩;cases k with
 | true=>
   rw[if_pos rfl]at q ⊢;refine⟨as3,ρ,S3,ok3,(en.mono g1.pre (g1.ku ok)).mono (g2.trans g3).pre ((g2.trans g3).ku ok1),mc _ _ _ _ (fun n S4 h as4 H4 m g4 ok4 rm=>?_) q⟩;exact s2 as4 H4 S4 y n u m Q ok4 (Rl.mono (g3.trans g4).pre ((g3.trans g4).ku ok2) y u ru) rm (AM _ _ _ _ _ (fun f S5 hf=>hf.mono (((g1.trans g2).trans g3).trans g4)) h)
 | false=>
   rw[if_neg Ss]at q ⊢;exact q as3 H3 _ ((g1.trans g2).trans g3) ok3 (rl_bl.mpr rfl)
theorem JL{o q:CmpOp}{ra rb rc:Expr}{p:Pos}{wa wb wc:WE}(hu:X.A.units<cLine)(ha:PE X ra (lift X.K wa))(hb:PE X rb (lift X.K wb))(hc:PE X rc (lift X.K wc))(ma:Mono wa)(mb:Mono wb)(mc:Mono wc)(hn:j7 rc=true):Good X (.Compare ra [o,q] [rb,rc] p) (tt2 (L9 (B6 o) (B6 q) wa wb wc)):=by
 obtain⟨r1,ho,sim⟩:=DL (X:=X) o hu;obtain⟨r2,hq,sim2⟩:=DL (X:=X) q hu;have m:Mono (L9 (B6 o) (B6 q) wa wb wc):=FK ma mb mc;have hm:lastMarks [o,q] [rb,rc]=false:=A7 hn
 exact{pe:=f9 _ (K4 ho hq ha hb hc hm) (I0 sim sim2 ma mb mc)
       pt:=By _ (K5 ho hq ha hb hc hm) fun σ H Q h=>I0 sim sim2 ma mb mc σ H _ (DK m σ H Q h)
       m:=m
       mt := .bl m
       pw:=fun _ _ _ e=>by cases e}
end
open PySem L2
section
variable{K:Sh}
theorem i7{c:Bool}{A B A' B':Prop}(ha:A->A')(hb:B->B')(h:if c=true then A else B):if c=true then A' else B':=by
 cases c with
 | true=>rw[if_pos rfl]at h ⊢;exact ha h
 | false=>rw[if_neg Ss]at h ⊢;exact hb h
theorem Mono.and{a b:WE}(ma:Mono a)(mb:Mono b):Mono (L8 a b):=fun ρ S P P' i h=>ma _ _ _ _ (fun x S1 ⟨c,e,q⟩=>⟨c,e,i7 (mb _ _ _ _ i) (i _ _) q⟩) h
theorem Mono.or{a b:WE}(ma:Mono a)(mb:Mono b):Mono (wOr a b):=fun ρ S P P' i h=>ma _ _ _ _ (fun x S1 ⟨c,e,q⟩=>⟨c,e,i7 (i _ _) (mb _ _ _ _ i) q⟩) h
theorem Mono.not{a:WE}(ma:Mono a):Mono (NN a):=fun ρ S P P' i h=>ma _ _ _ _ (fun x S1 ⟨c,e,q⟩=>⟨c,e,i _ _ q⟩) h
theorem MonoT.and{a b:WT}(ma:MonoT a)(mb:MonoT b):MonoT (DI a b):=fun ρ S P P' i h=>ma _ _ _ _ (fun x S1 q=>i7 (mb _ _ _ _ i) (i _ _) q) h
theorem MonoT.or{a b:WT}(ma:MonoT a)(mb:MonoT b):MonoT (Gd a b):=fun ρ S P P' i h=>ma _ _ _ _ (fun x S1 q=>i7 (i _ _) (mb _ _ _ _ i) q) h
theorem MonoT.not{a:WT}(ma:MonoT a):MonoT (Hw a):=fun ρ S P P' i h=>ma _ _ _ _ (fun x S1 q=>i _ _ q) h
theorem Post.at{as as1:List Addr}{H H1:Hp}{Q:VK}{x:SV}{S:Sto}{v:V}(h:Post K as H Q x S)(g:Go as H as1 H1)(ok:Ok K as1 H1 S)(r:Rl K as1 H1 v x):Q v H1:=h as1 H1 v g ok r
theorem IA{a b:WE}(ma:Mono a)(mb:Mono b):∀ σ H Q,lift K (L8 a b) σ H Q->OD (lift K a) (lift K b) σ H Q:=by
 rintro σ H Q ⟨as,ρ,S,ok,en,h⟩;refine⟨as,ρ,S,ok,en,ma _ _ _ _ (fun x S1 ⟨c,e,q⟩ as1 H1 v g1 ok1 rv=>?_) h⟩;subst e;refine⟨c,rl_bl.mp rv,i7 (fun q=>?_) (fun q=>q.at g1 ok1 (rl_bl.mpr rfl)) q⟩;exact⟨as1,ρ,S1,ok1,en.mono g1.pre (g1.ku ok),mb _ _ _ _ (fun y S2 h=>h.mono g1) q⟩
theorem LV{a b:WE}(ma:Mono a)(mb:Mono b):∀ σ H Q,lift K (wOr a b) σ H Q->Qd (lift K a) (lift K b) σ H Q:=by
 rintro σ H Q ⟨as,ρ,S,ok,en,h⟩;refine⟨as,ρ,S,ok,en,ma _ _ _ _ (fun x S1 ⟨c,e,q⟩ as1 H1 v g1 ok1 rv=>?_) h⟩;subst e;refine⟨c,rl_bl.mp rv,i7 (fun q=>q.at g1 ok1 (rl_bl.mpr rfl)) (fun q=>?_) q⟩;exact⟨as1,ρ,S1,ok1,en.mono g1.pre (g1.ku ok),mb _ _ _ _ (fun y S2 h=>h.mono g1) q⟩
theorem NS{a:WE}(ma:Mono a):∀ σ H Q,lift K (NN a) σ H Q->OE (lift K a) σ H Q:=by
 rintro σ H Q ⟨as,ρ,S,ok,en,h⟩;refine⟨as,ρ,S,ok,en,ma _ _ _ _ (fun x S1 ⟨c,e,q⟩ as1 H1 v g1 ok1 rv=>?_) h⟩;subst e;exact⟨c,rl_bl.mp rv,q.at g1 ok1 (rl_bl.mpr rfl)⟩
theorem PostT.mono{as as1:List Addr}{H H1:Hp}{Q:Bool->Hp->Prop}{x:Bool}{S:Sto}(h:PostT K as H Q x S)(g:Go as H as1 H1):PostT K as1 H1 Q x S:=fun as' H' g'=>h as' H' (g.trans g')
theorem FL{a b:WT}(ma:MonoT a)(mb:MonoT b):∀ σ H Q,liftT K (DI a b) σ H Q->Qb (liftT K a) (liftT K b) σ H Q:=by
 rintro σ H Q ⟨as,ρ,S,ok,en,h⟩;refine⟨as,ρ,S,ok,en,ma _ _ _ _ (fun c S1 q as1 H1 g1 ok1=>?_) h⟩;refine i7 (fun q=>?_) (fun q=>q as1 H1 g1 ok1) q;exact⟨as1,ρ,S1,ok1,en.mono g1.pre (g1.ku ok),mb _ _ _ _ (fun y S2 h=>h.mono g1) q⟩
theorem IB{a b:WT}(ma:MonoT a)(mb:MonoT b):∀ σ H Q,liftT K (Gd a b) σ H Q->tOr (liftT K a) (liftT K b) σ H Q:=by
 rintro σ H Q ⟨as,ρ,S,ok,en,h⟩;refine⟨as,ρ,S,ok,en,ma _ _ _ _ (fun c S1 q as1 H1 g1 ok1=>?_) h⟩;refine i7 (fun q=>q as1 H1 g1 ok1) (fun q=>?_) q;exact⟨as1,ρ,S1,ok1,en.mono g1.pre (g1.ku ok),mb _ _ _ _ (fun y S2 h=>h.mono g1) q⟩
theorem LW{a:WT}(ma:MonoT a):∀ σ H Q,liftT K (Hw a) σ H Q->Qc (liftT K a) σ H Q:=by
 rintro σ H Q ⟨as,ρ,S,ok,en,h⟩;exact⟨as,ρ,S,ok,en,ma _ _ _ _ (fun c S1 q as1 H1 g1 ok1=>q as1 H1 g1 ok1) h⟩
end
section
variable{X:Cx}
theorem EZ{e:Expr}{t:TT}(t':TT)(h:PW X e t)(imp:∀ σ H Q,t' σ H Q->t σ H Q):PW X e t':=fun wh pins s σ H Q I hw=>h wh pins s σ H Q I (imp σ H Q hw)
theorem Gi{x y:Expr}{p:Pos}{a b:WE×WT}(ha:Good X x a)(hb:Good X y b):Good X (.BoolOp .And [x,y] p) (L8 a.1 b.1,DI a.2 b.2):=
 have pw:PW X (.BoolOp .And [x,y] p) (liftT X.K (DI a.2 b.2)):=EZ _ (Jt ha.pt (MU hb.pt)) (FL ha.mt hb.mt)
 {pe:=f9 _ (Jv ha.pe (Ju hb.pe)) (IA ha.m hb.m),pt:=pw.pt,m := .and ha.m hb.m,mt := .and ha.mt hb.mt,pw:=fun _ _ _ _=>pw}
theorem Gj{x y z:Expr}{zs:List Expr}{p:Pos}{a b:WE×WT}(ha:Good X x a)(hb:Good X (.BoolOp .And (y::z::zs) p) b):Good X (.BoolOp .And (x::y::z::zs) p) (L8 a.1 b.1,DI a.2 b.2):=
 have pw:PW X (.BoolOp .And (x::y::z::zs) p) (liftT X.K (DI a.2 b.2)):=EZ _ (Jt ha.pt (hb.pw _ _ _ rfl)) (FL ha.mt hb.mt)
 {pe:=f9 _ (Jv ha.pe hb.pe) (IA ha.m hb.m),pt:=pw.pt,m := .and ha.m hb.m,mt := .and ha.mt hb.mt,pw:=fun _ _ _ _=>pw}
theorem JM{x y:Expr}{p:Pos}{a b:WE×WT}(ha:Good X x a)(hb:Good X y b):Good X (.BoolOp .Or [x,y] p) (wOr a.1 b.1,Gd a.2 b.2):=
 have pw:PW X (.BoolOp .Or [x,y] p) (liftT X.K (Gd a.2 b.2)):=EZ _ (OC ha.pt (Ov hb.pt)) (IB ha.mt hb.mt)
 {pe:=f9 _ (OF ha.pe (Ju hb.pe)) (LV ha.m hb.m),pt:=pw.pt,m := .or ha.m hb.m,mt := .or ha.mt hb.mt,pw:=fun _ _ _ _=>pw}
theorem JN{x y z:Expr}{zs:List Expr}{p:Pos}{a b:WE×WT}(ha:Good X x a)(hb:Good X (.BoolOp .Or (y::z::zs) p) b):Good X (.BoolOp .Or (x::y::z::zs) p) (wOr a.1 b.1,Gd a.2 b.2):=
 have pw:PW X (.BoolOp .Or (x::y::z::zs) p) (liftT X.K (Gd a.2 b.2)):=EZ _ (OC ha.pt (hb.pw _ _ _ rfl)) (IB ha.mt hb.mt)
 {pe:=f9 _ (OF ha.pe hb.pe) (LV ha.m hb.m),pt:=pw.pt,m := .or ha.m hb.m,mt := .or ha.mt hb.mt,pw:=fun _ _ _ _=>pw}
theorem JO{x:Expr}{p:Pos}{a:WE×WT}(ha:Good X x a):Good X (.UnaryOp .Not x p) (NN a.1,Hw a.2) where
 pe:=f9 _ (Ox ha.pe) (NS ha.m)
 pt:=By _ (Ow ha.pt) (LW ha.mt)
 m := .not ha.m
 mt := .not ha.mt
 pw:=fun _ _ _ e=>by cases e
theorem Q3{i:Nat}{x:Str}{p:Pos}{N:List Str}{sc:Scope}{T:List Str}{Δ:Nat->Sn}{k:Nat}(C:Cok T Δ X k N sc)(hi:N[i]?=some x)(hv:vis sc x=true)(h1:(x == ("__debug__":Str))=false)(h2:(x == ("__classdict__":Str))=false):PE X (.Name x p) (MQ i):=by
 have hv':Vis X.env.scope x:=by
  rw[C.hs];unfold vis at hv;simp only[Tj,beq_iff_eq]at hv;rcases hv with(hv | hv) | hv
  ·exact .inl hv
  ·exact .inr (.inl hv)
  ·exact .inr (.inr hv)
 exact Os (i:=i) (by rw[C.hN];exact hi) hv' h1 h2
theorem NT{x:SV}{k:Const}{j:Nat}{p:Pos}(h:Pz x k=true):Good X (.Constant k j p) (tt1 (wC x)):=by
 refine .one ?_ .c rfl;unfold Pz at h;split at h
 ·exact f9 _ Ot (F6 fun _ _=>rl_non.mpr rfl)
 ·rw[beq_iff_eq]at h;subst h;exact f9 _ Qa (F6 fun _ _=>rl_bl.mpr rfl)
 ·have h:=of_decide_eq_true h;subst h;exact f9 _ GB (F6 fun _ _=>rl_int.mpr rfl)
 ·have h:=of_decide_eq_true h;subst h;exact f9 _ Ou (F6 fun _ _=>rl_str.mpr rfl)
 ·cases h
theorem DM:Dw L6:=fun x S P P' i h=>by
 unfold L6 at h ⊢;split at h
 ·exact i _ _ h
 ·exact h.elim
theorem JP{x:Expr}{p:Pos}{a:WE×WT}(ha:Good X x a):Good X (.UnaryOp .USub x p) (tt1 (w1 L6 a.1)):=by
 refine .one (f9 _ (OG K2 ha.pe) (Pi (fun as H S x v Q ok r h=>?_) DM ha.m)) (.one DM ha.m) rfl;unfold L6 at h;split at h
 ·exact⟨_,rl_int.mp r,h.here ok (rl_int.mpr rfl)⟩
 ·exact h.elim
theorem Gk{b:Expr}(h:BO b=true):Hg b:=fun o i=>by cases b<;>first | rfl | cases h
theorem LX{x y:Expr}{p:Pos}{a b:WE×WT}(ha:Good X x a)(hb:Good X y b)(h:BO y=true):Good X (.Subscript x y p) (tt1 (w2 sIx a.1 b.1)):=
 .one (f9 _ (R3 (ix_list.or PK) ha.pe hb.pe (Gk h)) (AI Pr .ix ha.m hb.m)) (.two .ix ha.m hb.m) rfl
noncomputable def Re(K:Sh)(as:List Addr)(H:Hp)(Q:Option Int->Hp->Prop):Option Int->Sto->Prop:=fun b S'=>∀ as' H',Go as H as' H'->Ok K as' H' S'->Q b H'
noncomputable def FM(K:Sh)(w:WO):St->Hp->(Option Int->Hp->Prop)->Prop:=fun σ H Q=>∃ as ρ S,Ok K as H S/\EnvOk K as H σ ρ/\w ρ S (Re K as H Q)
noncomputable def MonoO(w:WO):Prop:=∀ ρ S (P P':Option Int->Sto->Prop),(∀ x S',P x S'->P' x S')->w ρ S P->w ρ S P'
theorem MonoO.no:MonoO Pw:=fun _ _ _ _ i h=>i _ _ h
theorem MonoO.yes{w:WE}(m:Mono w):MonoO (LA w):=fun _ _ _ _ i h=>m _ _ _ _ (fun x S1 ⟨k,e,q⟩=>⟨k,e,i _ _ q⟩) h
theorem Rg:PO X none (FM X.K Pw):=fun pins s σ H Q I ⟨as,ρ,S,ok,en,h⟩=>Me pins s σ H Q I (h as H (Go.refl _ _) ok)
theorem Q4{x:Expr}{a:WE×WT}(ha:Good X x a):PO X (some x) (FM X.K (LA a.1)):=fun pins s σ H Q I ⟨as,ρ,S,ok,en,h⟩=>
 Hd ha.pe pins s σ H Q I ⟨as,ρ,S,ok,en,ha.m _ _ _ _ (fun y S1 ⟨k,e,q⟩ as1 H1 v g1 ok1 rv=>⟨k,by subst e;exact rl_int.mp rv,q as1 H1 g1 ok1⟩) h⟩
theorem RlAll.cut{K:Sh}{as:List Addr}{H:Hp}{xs:List SV}{vs:List V}(h:RlAll K as H vs xs)(lo hi:Option Int):RlAll K as H (Et vs lo hi) (EV xs lo hi):=by
 unfold Et EV;rw[h.length];exact(h.drop _).take _
theorem DN{x:SV}{lo hi:Option Int}{S:Sto}{P P':QE}(i:∀ x S',P x S'->P' x S')(h:LB x lo hi S P):LB x lo hi S P':=by
 unfold LB at h ⊢;split at h
 ·obtain⟨xs,a,b⟩:=h;exact⟨xs,a,i _ _ b⟩
 ·exact i _ _ h
 ·exact h.elim
theorem NU{K:Sh}{as:List Addr}{H:Hp}{S:Sto}{Q:VK}{x:SV}{v:V}{l k:Option Int}(ok:Ok K as H S)(r:Rl K as H v x)(h:LB x l k S (Post K as H Q)):R6 K v l k H Q\/R0 K v l k H Q\/RI K v l k H Q:=by
 cases x with
 | loc j=>
   obtain⟨xs,h1,h2⟩:=h;obtain⟨b,vs,rfl,_,hb,rr⟩:=v5 ok r h1;exact .inl ⟨b,vs,rfl,SqL.of hb,A6 ok (rr.cut l k) h2⟩
 | tup xs=>
   obtain⟨b,vs,rfl,hb,rr⟩:=rl_tup.mp r;by_cases hw:HT.sIx vs.length 0 l=0/\HT.sIx vs.length vs.length k=vs.length
   ·refine .inr (.inr ⟨b,vs,rfl,SqT.of hb,hw,?_⟩)
    have e:EV xs l k=xs:=by
     unfold EV;rw[<-rr.length,hw.1,hw.2,rr.length];simp
    have h':Post K as H Q (.tup (EV xs l k)) S:=h;rw[e]at h';exact h'.here ok r
   ·exact .inr (.inl ⟨b,vs,rfl,SqT.of hb,hw,C9 ok (rr.cut l k) h⟩)
 | _=>exact False.elim h
theorem JQ{x:Expr}{rl rh:Option Expr}{p p2:Pos}{a:WE×WT}{lo hi:WO}(ha:Good X x a)(hl:PO X rl (FM X.K lo))(hh:PO X rh (FM X.K hi))(ml:MonoO lo)(mh:MonoO hi):Good X (.Subscript x (.Slice rl rh none p2) p) (tt1 (Px a.1 lo hi)):=by
 refine .one (f9 _ (K9 (sl_list.or (sl_tup.or Mz)) ha.pe hl hh) ?_) (fun ρ S P P' i h=>ha.m _ _ _ _ (fun x S1 h=>ml _ _ _ _ (fun l S2 h=>mh _ _ _ _ (fun k S3 h=>DN i h) h) h) h) rfl;rintro σ H Q ⟨as,ρ,S,ok,en,h⟩;refine⟨as,ρ,S,ok,en,ha.m _ _ _ _ (fun x S1 h as1 H1 v g1 ok1 rv=>?_) h⟩;refine⟨as1,ρ,S1,ok1,en.mono g1.pre (g1.ku ok),ml _ _ _ _ (fun l S2 h as2 H2 g2 ok2=>?_) h⟩;refine⟨as2,ρ,S2,ok2,(en.mono g1.pre (g1.ku ok)).mono g2.pre (g2.ku ok1),mh _ _ _ _ (fun k S3 h as3 H3 g3 ok3=>?_) h⟩;have rv3:=Rl.mono (g2.trans g3).pre ((g2.trans g3).ku ok1) x v rv;have g:=(g1.trans g2).trans g3;exact NU ok3 rv3 (DN (fun _ _ h=>h.mono g) h)
end
end Rf
namespace L2
open PySem PySem.Spec PyProof.Rows
section
variable{prog:Program}{w:World}{A:Around}{R:Result->Shared->Prop}{I:Addr}{fp wr:List Addr}{G:Array GenState->Array GenState->Prop}{n:Nat}{P:Nat->Value->Prop}{St:Nat->Shared->Prop}
noncomputable def TupsAt(prog:Program)(w:World)(h:Heap)(n:Nat)(ta:Nat->Addr)(kv:Nat->Key×Value):Prop:=∀ i,i<n->∃ key,(Ct prog w).is (kv i).1 key=true/\h.IsTuple (ta i) #[key,(kv i).2]
theorem TupsAt.keep{h h':Heap}{ta:Nat->Addr}{kv:Nat->Key×Value}(t:TupsAt prog w h n ta kv)(k:∀ i o,i<n->h.get? (ta i)=some o->h'.get? (ta i)=some o):TupsAt prog w h' n ta kv:=fun i hi=>by
 obtain⟨key,hk,o,ho,r⟩:=t i hi;exact⟨key,hk,o,k i o hi ho,r⟩
end
open PySem PySem.Spec PyProof.Rows
section
variable{X:Cx}
noncomputable def LiI(H:Hp)(ts:List Addr)(xss:List (List Int)):Prop:=ts.length=xss.length/\∀(i:Nat) t xs,ts[i]?=some t->xss[i]?=some xs->H t=some (.lst (xs.map V.int))
theorem IC{A:Around}{pins:List (Addr×Obj)}{σ:St}{H:Hp}{s:Shared}(I:Inv X pins σ H s){p q:Addr}{xs:List Int}(hu:A.units<cLine)(hp:H p=some (.lst (xs.map V.int)))(hq:H q=some (.lst (xs.map V.int))):SeqAt.EqAt A s (.ref p) (.ref q) true:=by
 by_cases hne:p=q
 ·rw[hne];exact SeqAt.EqAt.same _
 ·obtain⟨i1,q1,l1,_⟩:=I.list (SqL.of hp);obtain⟨i2,q2,l2,_⟩:=I.list (SqL.of hq);have n1:=q1.length;have n2:=q2.length;have fl:(xs.map V.int).all y9=true:=by rw[W0,TK];intro _ _;rfl
  refine SeqAt.EqAt.of_refs hne ?_;have:=SeqAt.RcAt.lists (A:=A) (s:=s) (e:=fun k=>eqV ((xs.map V.int).getD k .non) ((xs.map V.int).getD k .non)) l1.isList l2.isList (by simp;omega) hu (Bw q1 q2 (.inl ⟨fl,fl⟩))
  have e2:((Sx i1.toArray.size).all fun k=>eqV ((xs.map V.int).getD k .non) ((xs.map V.int).getD k .non))=true:=by
   rw[TK];intro k hk;have hk':k<(xs.map V.int).length:=by have:=TY.mp hk;simp at this;omega
   have hk2:k<xs.length:=by rwa [Sk]at hk'
   have g:(xs.map V.int).getD k .non=V.int xs[k]:=by simp[Uk,hk2]
   rw[g];simp[eqV]
  rw[e2]at this;exact this
theorem ID(hu:X.A.units+1<cLine):OpR X (compareOp .NotEq) (fun x y H Q=>∃(a b:Addr) (ts us:List Addr) (xss:List (List Int)),x = .ref a/\y = .ref b/\SqL X.K H a (ts.map V.ref)/\SqL X.K H b (us.map V.ref)/\LiI H ts xss/\LiI H us xss/\Q (.bl false) H):=by
 intro pins s σ H x y v u Q I rx ry h;obtain⟨a,b,ts,us,f,rfl,rfl,h1,h2,⟨l1,f1⟩,⟨l2,f2⟩,q⟩:=h;cases rx;cases ry;obtain⟨its1,r1,p1,_⟩:=I.list h1;obtain⟨its2,r2,p2,_⟩:=I.list h2;have m1:=r1.length;have m2:=r2.length;rw[Sk]at m1 m2;refine(SeqAt.RcNeAt.lists (e:=fun _=>true) p1.isList p2.isList (by simp;omega) (by omega) (fun j h1 h2=>?_)) _ _ _ _ ?_
 ·simp only[Sq]at h1 h2;have g1:(ts.map V.ref)[j]?=some (V.ref (ts[j]'(by omega))):=by simp
  have g2:(us.map V.ref)[j]?=some (V.ref (us[j]'(by omega))):=by simp
  obtain⟨u,hu1,ru⟩:=r1.get g1;obtain⟨u',hu1',ru'⟩:=r2.get g2;cases ru;cases ru';have z1:its1.toArray[j] = .ref (ts[j]'(by omega)):=by obtain⟨_,q⟩:=gM hu1;simpa using q
  have z2:its2.toArray[j] = .ref (us[j]'(by omega)):=by obtain⟨_,q⟩:=gM hu1';simpa using q
  rw[z1,z2];exact IC I (by show X.A.units+1<cLine;exact hu) (f1 j _ (f[j]'(by omega)) (by simp) (by simp)) (f2 j _ (f[j]'(by omega)) (by simp) (by simp))
 ·refine⟨.bl _,H,I,rfl,?_⟩;have:((Sx its1.toArray.size).all fun _=>true)=true:=by simp
  rw[this];exact q
theorem IE(hu:X.A.units+1<cLine):OpR X (compareOp .Eq) (fun x y H Q=>∃(a b:Addr) (ts us:List Addr) (xss:List (List Int)),x = .ref a/\y = .ref b/\SqT X.K H a (ts.map V.ref)/\SqT X.K H b (us.map V.ref)/\LiI H ts xss/\LiI H us xss/\Q (.bl true) H):=by
 intro pins s σ H x y v u Q I rx ry h;obtain⟨a,b,ts,us,f,rfl,rfl,h1,h2,⟨l1,f1⟩,⟨l2,f2⟩,q⟩:=h;cases rx;cases ry;obtain⟨its1,r1,p1,_⟩:=I.tuple h1;obtain⟨its2,r2,p2,_⟩:=I.tuple h2;have m1:=r1.length;have m2:=r2.length;rw[Sk]at m1 m2;refine(SeqAt.RcAt.tuples (A:=X.A) (s:=s) (e:=fun _=>true) p1 p2 (by omega) (fun j h1 h2=>?_)) _ _ _ _ ?_
 ·simp only[Sq]at h1 h2;have g1:(ts.map V.ref)[j]?=some (V.ref (ts[j]'(by omega))):=by simp
  have g2:(us.map V.ref)[j]?=some (V.ref (us[j]'(by omega))):=by simp
  obtain⟨u,hu1,ru⟩:=r1.get g1;obtain⟨u',hu1',ru'⟩:=r2.get g2;cases ru;cases ru';have z1:its1.toArray[j] = .ref (ts[j]'(by omega)):=by obtain⟨_,q⟩:=gM hu1;simpa using q
  have z2:its2.toArray[j] = .ref (us[j]'(by omega)):=by obtain⟨_,q⟩:=gM hu1';simpa using q
  rw[z1,z2];exact IC I (by show X.A.units+1<cLine;exact hu) (f1 j _ (f[j]'(by omega)) (by simp) (by simp)) (f2 j _ (f[j]'(by omega)) (by simp) (by simp))
 ·refine⟨.bl _,H,I,rfl,?_⟩
  have:((Sx (min its1.toArray.size its2.toArray.size)).all (fun _=>true)&&its1.toArray.size == its2.toArray.size)=true:=by
   simp only[Sq,<-m1,<-m2,l1,l2];simp
  rw[this];exact q
end
end L2
namespace Rf
open PySem L2
structure GoodA(X:Cx)(rs:List Expr)(w:WA):Prop where
 pa:PA X rs (liftA X.K w)
 m:MonoA w
section
variable{X:Cx}
theorem JR:GoodA X [] Dx:=⟨N4,.nil⟩
theorem Gn{x:Expr}{xs:List Expr}{a:WE×WT}{b:WA}(ha:Good X x a)(hb:GoodA X xs b)(hs:f7 x=true):GoodA X (x::xs) (DG a.1 b):=⟨Ko ha.m hb.m ha.pe hb.pa (j6 hs),.cons ha.m hb.m⟩
theorem JS{rs:List Expr}{j:Nat}{p:Pos}{w:WA}(h:GoodA X rs w):Good X (.Tuple rs j p) (tt1 (wn N6 w)) := .one (f9 _ (PD h.pa) (N8 h.m)) (.n .tup h.m) rfl
theorem JT{rs:List Expr}{p:Pos}{w:WA}(h:GoodA X rs w):Good X (.List rs p) (tt1 (wn N7 w)) := .one (f9 _ (PF h.pa) (N9 h.m)) (.n .lst h.m) rfl
theorem LY{K:Sh}{s:Sn}{w:WA}(ms:MonoN s)(m:MonoA w):∀ σ H Q,lift K (wn s w) σ H Q->OK (spS K s) [] E0 (liftA K w) σ H Q:=by
 rintro σ H Q ⟨as,ρ,S,ok,en,h⟩;refine⟨as,ρ,S,ok,en,m _ _ _ _ (fun xs S1 hs as1 H1 vs g1 ok1 rv=>?_) h⟩;show spS K s (vs++[]) H1 Q E0;rw[UF];exact⟨as1,S1,xs,ok1,rv,ms _ _ _ _ (fun z S3 hz=>hz.mono g1) hs⟩
theorem Gp{T:List Str}{Δ:Nat->Sn}{k f:Nat}{N:List Str}{sc:Scope}{x:Str}{y:Expr}{ys:List Expr}{p q:Pos}{w:WA}(C:Cok T Δ X k N sc)(hf:T[f]?=some x)(hg:glo sc x=true)(h:GoodA X (y::ys) w)(hy:f7 y=true)(hs:ys.all f7=true):Good X (.Call (.Name x p) (y::ys) [] q) (tt1 (wn (Δ f) w)):=by
 obtain⟨d,ps,hC,hr⟩:=C.call f x hf;obtain⟨fa,fd,F,hm,hk,hb⟩:=hC.ex;unfold glo at hg;simp only[Si,beq_iff_eq,Ta]at hg;have gl:Gl X x:=by show X.env.scope.names.lookup x=_;rw[C.hs];exact hg.1.1
 exact .one (f9 _ (Mc F hr gl hm hk hb .nil RA h.pa hg.2 (j6 hy) (CB hs)) (LY (C.mono f) h.m)) (.n (C.mono f) h.m) rfl
theorem Rh:bootBuiltins "abs"=some (.builtin "abs"):=by decide +kernel
theorem Ri:bootBuiltins "min"=some (.builtin "min"):=by decide +kernel
theorem Rj:bootBuiltins "max"=some (.builtin "max"):=by decide +kernel
theorem Rk:bootBuiltins "len"=some (.builtin "len"):=by decide +kernel
theorem Rm:bootBuiltins "all"=some (.builtin "all"):=by decide +kernel
theorem Od:bootBuiltins "int"=some (.type "int"):=by decide +kernel
theorem Gq:bootBuiltins "list"=some (.type "list"):=by decide +kernel
theorem Rn:bootBuiltins "isinstance"=some (.builtin "isinstance"):=by decide +kernel
theorem Oe:bootBuiltins "str"=some (.type "str"):=by decide +kernel
theorem Q5:bootBuiltins "bool"=some (.type "bool"):=by decide +kernel
theorem NV:bootBuiltins "range"=some (.type "range"):=by decide +kernel
theorem b_set:bootBuiltins "set"=some (.type "set"):=by decide +kernel
theorem IF:bootBuiltins "tuple"=some (.type "tuple"):=by decide +kernel
theorem LZ{T:List Str}{Δ:Nat->Sn}{k:Nat}{N:List Str}{sc:Scope}{b:BI}{y:Expr}{ys:List Expr}{p q:Pos}{w:WA}(C:Cok T Δ X k N sc)(hg:glo sc b.name=true)(h:GoodA X (y::ys) w)(hy:f7 y=true)(hs:ys.all f7=true):Good X (.Call (.Name b.name p) (y::ys) [] q) (tt1 (wn (sBi b) w)):=by
 unfold glo at hg;simp only[Si,beq_iff_eq,Ta]at hg;have gl:Gl X b.name:=by show X.env.scope.names.lookup b.name=_;rw[C.hs];exact hg.1.1
 have hm:=C.bl b;have e1:=j6 (es:=ys) (env:=X.env) hy;have e2:=CB (env:=X.env) (pos:=q) hs;refine .one (f9 (t:=tCB (rBi X.K b) (liftA X.K w)) _ ?_ (RQ Pt .bi h.m)) (.n .bi h.m) rfl;cases b with
 | len=>exact AK EF gl hm Rk h.pa (by decide) hg.2 e1 e2
 | abs=>exact AK K7 gl hm Rh h.pa (by decide) hg.2 e1 e2
 | min=>exact AK (Il C.calm) gl hm Ri h.pa (by decide) hg.2 e1 e2
 | max=>exact AK (Ij C.calm) gl hm Rj h.pa (by decide) hg.2 e1 e2
 | int=>exact AS Im gl hm Od h.pa (by decide) hg.2 e1 e2
 | list=>exact AS EG gl hm Gq h.pa (by decide) hg.2 e1 e2
 | tuple=>exact AS Dd gl hm IF h.pa (by decide) hg.2 e1 e2
 | all=>exact AK (Iz C.calm) gl hm Rm h.pa (by decide) hg.2 e1 e2
 | any=>exact AK (fun _ _ _ _ _ _ _ _ _ h=>False.elim h) gl hm RN h.pa (by decide) hg.2 e1 e2
 | sorted=>exact AK EL gl hm KP h.pa (by decide) hg.2 e1 e2
 | isi=>exact AK (call_isi1.or Iy) gl hm Rn h.pa (by decide) hg.2 e1 e2
 | str=>exact AS (fun _ _ _ _ _ _ _ _ _ h=>False.elim h) gl hm Oe h.pa (by decide) hg.2 e1 e2
theorem Mono.mt{m:MT}{a:WE}{b:WA}(ma:Mono a)(mb:MonoA b):Mono (wMt m a b):=fun ρ S P P' i h=>ma _ _ _ _ (fun x S1 ⟨e,h⟩=>⟨e,mb _ _ _ _ (fun xs S2 h=>EU _ _ _ _ i h) h⟩) h
theorem v8{ro:Expr}{nm:Str}{env:Env}{wh:Sem Value}(h:D0 ro=true):attributeBase ro nm env wh=wh:=by
 unfold attributeBase;split
 ·cases h
 ·rfl
theorem La{K:Sh}{as:List Addr}{H:Hp}{S:Sto}{k:Nat}{v:V}{xs:List SV}(ok:Ok K as H S)(r:Rl K as H v (.loc k))(hs:S[k]?=some (.lst xs)):tyV K "list" v H:=by
 obtain⟨a,vs,rfl,_,h1,_⟩:=v5 ok r hs;exact .inl ⟨rfl,_,SqL.of h1⟩
theorem Q6{K:Sh}{m:MT}{a:WE}{b:WA}(ma:Mono a)(mb:MonoA b):∀ σ H Q,lift K (wMt m a b) σ H Q->tBM K "list" (rMt m) (lift K a) (liftA K b) σ H Q:=by
 rintro σ H Q ⟨as,ρ,S,ok,en,h⟩;refine⟨as,ρ,S,ok,en,ma _ _ _ _ (fun x S1 ⟨⟨j,zs,e,hz⟩,h⟩ as1 H1 v g1 ok1 rv=>?_) h⟩;subst e;refine⟨La ok1 rv hz,as1,ρ,S1,ok1,en.mono g1.pre (g1.ku ok),mb _ _ _ _ (fun xs S2 h as2 H2 vs g2 ok2 rs=>?_) h⟩;exact L5 ok2 (Rl.mono g2.pre (g2.ku ok1) _ v rv) rs (EU _ _ _ _ (fun z S3 hz=>hz.mono (g1.trans g2)) h)
theorem NW{K:Sh}{m:MT}{a:WE}(ma:Mono a):∀ σ H Q,lift K (wMt m a Dx) σ H Q->PL K "list" (rMt m) (lift K a) σ H Q:=by
 rintro σ H Q ⟨as,ρ,S,ok,en,h⟩;refine⟨as,ρ,S,ok,en,ma _ _ _ _ (fun x S1 ⟨⟨j,zs,e,hz⟩,h⟩ as1 H1 v g1 ok1 rv=>?_) h⟩;subst e;exact⟨La ok1 rv hz,L5 ok1 rv .nil (EU _ _ _ _ (fun z S3 hz=>hz.mono g1) h)⟩
theorem MtR.orM{id:String}{r r':V->List V->Hp->VK->Prop}(h:MtM X id r)(h':MtM X id r'):MtR X id (fun x xs H Q=>r x xs H Q\/r' x xs H Q):=fun pins s σ H x xs v us Q I rx rs q=>q.elim (h pins s σ H x xs v us Q I rx rs) (h' pins s σ H x xs v us Q I rx rs)
theorem Lb{m:MT}{ro y:Expr}{ys:List Expr}{ap cp:Pos}{a:WE×WT}{b:WA}(ha:Good X ro a)(hb:GoodA X (y::ys) b)(hn:D0 ro=true)(hl:(ap.endLine == cp.line)=true)(hk:(y::ys).length<29)(hy:f7 y=true)(hs:ys.all f7=true):Good X (.Call (.Attribute ro m.name ap) (y::ys) [] cp) (tt1 (wMt m a.1 b)):=by
 have e1:=j6 (es:=ys) (env:=X.env) hy;have e2:=CB (env:=X.env) (pos:=cp) hs
 have e3:((backTo cp (starEach (y::ys) X.env)).all (fun x=>!x.1)&&(backToKw cp (keywordEach [] X.env)).all (fun x=>x.1.isSome)
  && decide ((y::ys).length+([]:List Keyword).length+(if ([]:List Keyword).isEmpty then 0 else 1)<30))=true:=by
  rw[Dz (by rw[UB,hy,hs];rfl)];simp only[WW,Si,decide_eq_true_eq];exact⟨rfl,by show(y::ys).length+0+0<30;omega⟩
 refine .one (f9 (t:=tBM X.K "list" (rMt m) (lift X.K a.1) (liftA X.K b)) _ ?_ (Q6 ha.m hb.m)) (.mt ha.m hb.m) rfl;cases m with
 | append=>exact Ev PySem.F.plainAttrs_list PySem.F.slot_list_append PySem.F.type_list_append BZ ha.pe hb.pa (v8 hn) e3 hl e1 e2
 | extend=>exact Ev PySem.F.plainAttrs_list PySem.F.slot_list_extend PySem.F.type_list_extend Ds ha.pe hb.pa (v8 hn) e3 hl e1 e2
 | pop=>exact Ev PySem.F.plainAttrs_list PySem.F.slot_list_pop PySem.F.type_list_pop (MtR.orM KG Ey) ha.pe hb.pa (v8 hn) e3 hl e1 e2
 | insert=>exact Ev PySem.F.plainAttrs_list PySem.F.slot_list_insert PySem.F.type_list_insert Du ha.pe hb.pa (v8 hn) e3 hl e1 e2
 | clear=>exact Ev PySem.F.plainAttrs_list PySem.F.slot_list_clear PySem.F.type_list_clear Ez ha.pe hb.pa (v8 hn) e3 hl e1 e2
theorem JU{m:MT}{ro:Expr}{ap cp:Pos}{a:WE×WT}(ha:Good X ro a)(hn:D0 ro=true)(hl:(ap.endLine == cp.line)=true):Good X (.Call (.Attribute ro m.name ap) [] [] cp) (tt1 (wMt m a.1 Dx)):=by
 refine .one (f9 (t:=PL X.K "list" (rMt m) (lift X.K a.1)) _ ?_ (NW ha.m)) (.mt ha.m .nil) rfl;cases m with
 | append=>exact D8 PySem.F.plainAttrs_list PySem.F.slot_list_append PySem.F.type_list_append BZ ha.pe (v8 hn) hl
 | extend=>exact D8 PySem.F.plainAttrs_list PySem.F.slot_list_extend PySem.F.type_list_extend Ds ha.pe (v8 hn) hl
 | pop=>exact D8 PySem.F.plainAttrs_list PySem.F.slot_list_pop PySem.F.type_list_pop (MtR.orM KG Ey) ha.pe (v8 hn) hl
 | insert=>exact D8 PySem.F.plainAttrs_list PySem.F.slot_list_insert PySem.F.type_list_insert Du ha.pe (v8 hn) hl
 | clear=>exact D8 PySem.F.plainAttrs_list PySem.F.slot_list_clear PySem.F.type_list_clear Ez ha.pe (v8 hn) hl
theorem JV{T:List Str}{Δ:Nat->Sn}{k:Nat}{N:List Str}{sc:Scope}{t:TyN}{p:Pos}(C:Cok T Δ X k N sc)(hg:glo sc (Str.ofString t.nm)=true)(ht:t ≠ .none):Good X (.Name (Str.ofString t.nm) p) (tt1 (wC (.ty t))):=by
 unfold glo at hg;simp only[Si,beq_iff_eq,Ta]at hg;have gl:Gl X (Str.ofString t.nm):=by show X.env.scope.names.lookup _=_;rw[C.hs];exact hg.1.1
 have b:bootBuiltins (Str.ofString t.nm)=some (.type t.nm):=by cases t<;>first | exact Od | exact Q5 | exact Oe | exact Gq | exact IF | exact absurd rfl ht
 exact .one (f9 _ (MS (v := .ty t.nm) gl (C.ty t ht) b rfl (by cases t<;>first | decide | exact absurd rfl ht) hg.2) (F6 fun _ _=>rl_ty.mpr rfl)) .c rfl
theorem Q7{K:Sh}{as:List Addr}{H:Hp}{lo hi:Int}:RlAll K as H (J1 lo (hi - lo).toNat) (Bq lo hi):=by
 unfold J1 Bq
 induction Sx (hi - lo).toNat with
 | nil=>exact .nil
 | cons i r ih=>exact .cons (rl_int.mpr rfl) ih
theorem DO{a:WE}(m:Mono a):Mono (Ge a):=fun ρ S P P' i h=>m _ _ _ _ (fun x S1 ⟨j,e,z,q⟩=>⟨j,e,z,i _ _ q⟩) h
theorem FN{T:List Str}{Δ:Nat->Sn}{k:Nat}{N:List Str}{sc:Scope}{r:Expr}{p p2 q q2:Pos}{a:WE×WT}(C:Cok T Δ X k N sc)(hg:glo sc "list"=true)(hg2:glo sc "range"=true)(ha:Good X r a)(hs:f7 r=true):Good X (.Call (.Name "list" p) [.Call (.Name "range" p2) [r] [] q2] [] q) (tt1 (Ge a.1)):=by
 unfold glo at hg hg2;simp only[Si,beq_iff_eq,Ta]at hg hg2;have gl:Gl X "list":=by show X.env.scope.names.lookup ("list":Str)=_;rw[C.hs];exact hg.1.1
 have gr:Gl X "range":=by show X.env.scope.names.lookup ("range":Str)=_;rw[C.hs];exact hg2.1.1
 have e1:=AS (p:=p2) (pos:=q2) J0 gr C.rng NV (Ac ha.pe CQ (j6 hs)) (by decide) hg2.2 (j6 hs) rfl;refine .one (f9 _ (AS (p:=p) (pos:=q) (EH C.calm) gl (C.bl .list) Gq (Ac e1 CQ rfl) (by decide) hg.2 rfl rfl) ?_) (DO ha.m) rfl;rintro σ H Q ⟨as,ρ,S,ok,en,h⟩;refine⟨as,ρ,S,ok,en,ha.m _ _ _ _ (fun x S1 ⟨j,e,z,q⟩ as1 H1 v g1 ok1 rv=>?_) h⟩;subst e;refine⟨j,by rw[rl_int.mp rv],fun p hp=>⟨p,0,j,rfl,n8,by decide,by decide,z.1,by omega,by omega,?_⟩⟩;exact A6 (ok1.new hp) Q7 (q.mono (g1.trans (Go.new hp)))
theorem FO:Dw NO:=fun x S P P' i h=>by
 unfold NO at h ⊢;split at h
 ·obtain⟨xs,e,h⟩:=h;exact⟨xs,e,i _ _ h⟩
 ·exact h.elim
theorem JW{r:Expr}{j:Nat}{p p2 p3 p4:Pos}{a:WE×WT}(ha:Good X r a):Good X (.Subscript r (.Slice none none (some (.UnaryOp .USub (.Constant (.int 1) j p4) p3)) p2) p) (tt1 (w1 NO a.1)):=by
 refine .one (f9 _ (Pl ha.pe (Hd (OG K2 GB))) ?_) (.one FO ha.m) rfl;rintro σ H Q ⟨as,ρ,S,ok,en,h⟩;refine⟨as,ρ,S,ok,en,ha.m _ _ _ _ (fun x S1 h as1 H1 v g1 ok1 rv=>?_) h⟩;refine⟨1,rfl,-1,rfl,rfl,?_⟩;cases x with
 | loc k=>
   obtain⟨xs,h1,h2⟩:=h;obtain⟨b,vs,rfl,_,hb,rr⟩:=v5 ok1 rv h1;exact⟨b,vs,rfl,SqL.of hb,A6 ok1 rr.rev (h2.mono g1)⟩
 | _=>exact False.elim h
end
section
variable{X:Cx}
theorem IG{K:Sh}{as:List Addr}{H:Hp}:∀{ns:List Int} {vs:List V},RlAll K as H vs (ns.map SV.int)->vs=ns.map V.int
 | [],vs,h=>rla_nil.mp h
 | n::ns,vs,h=>by
   obtain⟨v,r,rfl,h1,h2⟩:=rla_cons.mp h;rw[rl_int.mp h1,IG h2];rfl
theorem Co{a:WE}(m:Mono a):Mono (EW a):=fun ρ S P P' i h=>m _ _ _ _ (fun x S1 ⟨xs,ns,a,b,c,d,q⟩=>⟨xs,ns,a,b,c,d,i _ _ q⟩) h
theorem Ea{T:List Str}{Δ:Nat->Sn}{k:Nat}{N:List Str}{sc:Scope}{r:Expr}{p p2 q q2:Pos}{a:WE×WT}(C:Cok T Δ X k N sc)(hg:glo sc "sorted"=true)(hg2:glo sc "set"=true)(ha:Good X r a)(hs:f7 r=true):Good X (.Call (.Name "sorted" p) [.Call (.Name "set" p2) [r] [] q2] [] q) (tt1 (EW a.1)):=by
 unfold glo at hg hg2;simp only[Si,beq_iff_eq,Ta]at hg hg2;have gl:Gl X "sorted":=by show X.env.scope.names.lookup ("sorted":Str)=_;rw[C.hs];exact hg.1.1
 have gr:Gl X "set":=by show X.env.scope.names.lookup ("set":Str)=_;rw[C.hs];exact hg2.1.1
 refine .one (f9 _ (GY C.calm gl (C.bl .sorted) gr C.st0 ha.pe (j6 hs) rfl rfl rfl) ?_) (Co ha.m) rfl;rintro σ H Q ⟨as,ρ,S,ok,en,h⟩;refine⟨as,ρ,S,ok,en,ha.m _ _ _ _ (fun x S1 ⟨xs,ns,h0,h1,h2,h3,q⟩ as1 H1 v g1 ok1 rv=>?_) h⟩;obtain⟨a,us,rfl,hq,rr⟩:=AR ok1 rv h0 h1;rw[ET h2 rr]at hq;exact⟨a,ns,rfl,hq,h3,A6 ok1 RlAll.ints (q.mono g1)⟩
end
section
variable{K:Sh}{as:List Addr}{H:Hp}{S:Sto}
theorem RlD.length:∀{kvs:List (Int×SV)} {ks:List (Key×V)},RlD K as H ks kvs->ks.length=kvs.length
 | [],_,h=>by rw[show _=[] from h];rfl
 | p::r,_,⟨v,t,e,_,h⟩=>by rw[e,Tq,Tq,RlD.length h]
theorem RlD.get:∀{kvs:List (Int×SV)} {ks:List (Key×V)} {i:Nat} {p:Int×SV},RlD K as H ks kvs->kvs[i]?=some p->∃ v,ks[i]?=some (.inl p.1,v)
 | q::r,_,0,p,⟨v,t,e,_,_⟩,hp=>by cases hp;subst e;exact⟨v,rfl⟩
 | q::r,_,i+1,p,⟨v,t,e,_,h⟩,hp=>by
   subst e;obtain⟨u,hu⟩:=RlD.get (i:=i) h (show r[i]?=some p from hp);exact⟨u,hu⟩
theorem RlD.val:∀{kvs:List (Int×SV)} {ks:List (Key×V)},RlD K as H ks kvs->∀ i,(∃ x v,JG kvs i=some x/\C7 ks (.inl i)=some v/\Rl K as H v x)\/(JG kvs i=none/\C7 ks (.inl i)=none)
 | [],_,h,i=>by rw[show _=[] from h];exact .inr ⟨rfl,rfl⟩
 | p::r,_,⟨v,t,e,h1,h2⟩,i=>by
   subst e;by_cases hp:p.1=i
   ·refine .inl ⟨p.2,v,?_,?_,h1⟩
    ·unfold JG;rw[Vb (by simp[hp])];rfl
    ·unfold C7;rw[Vb (by simp[hp])];rfl
   ·have e1:JG (p::r) i=JG r i:=by unfold JG;rw[Vc (by simp[hp])]
    have e2:C7 ((Sum.inl p.1,v)::t) (Sum.inl i)=C7 t (Sum.inl i):=by unfold C7;rw[Vc (by simp[hp])]
    rw[e1,e2];exact RlD.val h2 i
theorem RlD.any:∀{kvs:List (Int×SV)} {ks:List (Key×V)},RlD K as H ks kvs->∀ i,(ks.any fun kv=>decide (kv.1=Sum.inl i))=kvs.any fun p=>decide (p.1=i)
 | [],_,h,i=>by rw[show _=[] from h];rfl
 | p::r,_,⟨v,t,e,h1,h2⟩,i=>by
   subst e;rw[UZ,UZ,RlD.any h2 i]
   congr 1
   simp
theorem RlD.set{v:V}{x:SV}(rv:Rl K as H v x):∀{kvs:List (Int×SV)} {ks:List (Key×V)},RlD K as H ks kvs->∀ i,RlD K as H (ks.map fun kv=>if kv.1=Sum.inl i then (kv.1,v) else kv) (kvs.map fun p=>if p.1=i then (p.1,x) else p)
 | [],_,h,i=>by rw[show _=[] from h];rfl
 | p::r,_,⟨u,t,e,h1,h2⟩,i=>by
   subst e;rw[To,To];by_cases hp:p.1=i
   ·rw[if_pos hp,if_pos (by rw[hp])];exact⟨v,_,rfl,rv,RlD.set rv h2 i⟩
   ·rw[if_neg hp,if_neg (fun z=>hp (Sum.inl.inj z))];exact⟨u,_,rfl,h1,RlD.set rv h2 i⟩
theorem RlD.snoc{v:V}{x:SV}(rv:Rl K as H v x)(i:Int):∀{kvs:List (Int×SV)} {ks:List (Key×V)},RlD K as H ks kvs->RlD K as H (ks++[(Sum.inl i,v)]) (kvs++[(i,x)])
 | [],_,h=>by rw[show _=[] from h];exact⟨v,[],rfl,rv,rfl⟩
 | p::r,_,⟨u,t,e,h1,h2⟩=>by subst e;exact⟨u,_,rfl,h1,RlD.snoc rv i h2⟩
theorem RlD.put{kvs:List (Int×SV)}{ks:List (Key×V)}{v:V}{x:SV}(h:RlD K as H ks kvs)(rv:Rl K as H v x)(i:Int):RlD K as H (J4 ks (Sum.inl i) v) (Oc kvs i x):=by
 unfold J4 Oc;rw[h.any i];by_cases z:(kvs.any fun p=>decide (p.1=i))=true
 ·rw[if_pos z,if_pos z];exact h.set rv i
 ·rw[if_neg z,if_neg z];exact h.snoc rv i
end
section
variable{K:Sh}{as:List Addr}{H:Hp}{S:Sto}
theorem CH:∀{ts:List Nat} {vs:List V},RlAll K as H vs (ts.map SV.loc)->∃ ta:List Addr,vs=ta.map V.ref/\ta.length=ts.length/\∀(i t:Nat) (a:Addr),ts[i]?=some t->ta[i]?=some a->as[t]?=some a
 | [],vs,h=>⟨[],rla_nil.mp h,rfl,fun i t a e=>by cases e⟩
 | t::ts,vs,h=>by
   obtain⟨v,r,rfl,h1,h2⟩:=rla_cons.mp h;obtain⟨a,ea,rfl⟩:=rl_loc.mp h1;obtain⟨ta,rfl,hl,ht⟩:=CH h2;refine⟨a::ta,rfl,by rw[Tq,Tq,hl],fun i t' a' e1 e2=>?_⟩;cases i with
   | zero=>cases e1;cases e2;exact ea
   | succ i=>exact ht i t' a' e1 e2
theorem Eb(ok:Ok K as H S){ts:List Nat}{ta:List Addr}{xss:List (List Int)}(hl:ta.length=ts.length)(ht:∀(i t:Nat) (a:Addr),ts[i]?=some t->ta[i]?=some a->as[t]?=some a)(h:LsI S ts xss):LiI H ta xss:=by
 refine⟨hl.trans h.1,fun i a xs ea ex=>?_⟩;have hi:i<ts.length:=by rw[<-hl];exact(gM ea).1
 have et:=Sj hi;obtain⟨vs,e1,rr⟩:=ok.obj _ _ a (h.2 i _ xs et ex) (ht i _ a et ea);rw[e1,IG rr]
theorem Bd:Mono2 FC:=fun x y S P P' i ⟨k,l,ts,us,xss,a,b,c,d,e,f,q⟩=>⟨k,l,ts,us,xss,a,b,c,d,e,f,i _ _ q⟩
theorem Be:Mono2 FD:=fun x y S P P' i ⟨ts,us,xss,a,b,e,f,q⟩=>⟨ts,us,xss,a,b,e,f,i _ _ q⟩
theorem Bf:Mono2 FB:=fun x y S P P' i ⟨xs,a,b,q⟩=>⟨xs,a,b,i _ _ q⟩
theorem FP:BD K FB (fun x y H Q=>∃ a b xs,x = .ref a/\y = .ref b/\SqT K H a xs/\SqT K H b []/\Q (.bl xs.isEmpty) H):=fun as H S x y v u Q ok rx ry h=>by
 obtain⟨xs,rfl,rfl,q⟩:=h;obtain⟨a,vs,rfl,hv,rv⟩:=rl_tup.mp rx;obtain⟨b,ws,rfl,hw,rw'⟩:=rl_tup.mp ry;obtain rfl:=rla_nil.mp rw';have e:vs.isEmpty=xs.isEmpty:=by have:=rv.length;cases vs<;>cases xs<;>first | rfl | (simp at this)
 refine⟨a,b,vs,rfl,rfl,SqT.of hv,SqT.of hw,?_⟩;rw[e];exact q.here ok (rl_bl.mpr rfl)
theorem FQ:BD K FC (fun x y H Q=>∃(a b:Addr) (ts us:List Addr) (xss:List (List Int)),x = .ref a/\y = .ref b/\SqL K H a (ts.map V.ref)/\SqL K H b (us.map V.ref)/\LiI H ts xss/\LiI H us xss/\Q (.bl false) H):=fun as H S x y v u Q ok rx ry h=>by
 obtain⟨k,l,ts,us,xss,rfl,rfl,hk,hl,h1,h2,q⟩:=h;obtain⟨a,ea,rfl⟩:=rl_loc.mp rx;obtain⟨b,eb,rfl⟩:=rl_loc.mp ry;obtain⟨vs,hv,rv⟩:=ok.obj _ _ a hk ea;obtain⟨ws,hw,rw'⟩:=ok.obj _ _ b hl eb;obtain⟨ta,rfl,l1,t1⟩:=CH rv;obtain⟨tb,rfl,l2,t2⟩:=CH rw';exact⟨a,b,ta,tb,xss,rfl,rfl,SqL.of hv,SqL.of hw,Eb ok l1 t1 h1,Eb ok l2 t2 h2,q.here ok (rl_bl.mpr rfl)⟩
theorem FR:BD K FD (fun x y H Q=>∃(a b:Addr) (ts us:List Addr) (xss:List (List Int)),x = .ref a/\y = .ref b/\SqT K H a (ts.map V.ref)/\SqT K H b (us.map V.ref)/\LiI H ts xss/\LiI H us xss/\Q (.bl true) H):=fun as H S x y v u Q ok rx ry h=>by
 obtain⟨ts,us,xss,rfl,rfl,h1,h2,q⟩:=h;obtain⟨a,vs,rfl,hv,rv⟩:=rl_tup.mp rx;obtain⟨b,ws,rfl,hw,rw'⟩:=rl_tup.mp ry;obtain⟨ta,rfl,l1,t1⟩:=CH rv;obtain⟨tb,rfl,l2,t2⟩:=CH rw';exact⟨a,b,ta,tb,xss,rfl,rfl,SqT.of hv,SqT.of hw,Eb ok l1 t1 h1,Eb ok l2 t2 h2,q.here ok (rl_bl.mpr rfl)⟩
end
section
variable{X:Cx}
theorem Gr{ra rb:Expr}{p:Pos}{wa wb:WE}(hu:X.A.units+1<cLine)(ha:PE X ra (lift X.K wa))(hb:PE X rb (lift X.K wb))(ma:Mono wa)(mb:Mono wb)(hn:j7 rb=true):Good X (.Compare ra [.NotEq] [rb] p) (tt2 (w2 FC wa wb)):=by
 have m:Mono (w2 FC wa wb) := .two Bd ma mb
 exact{pe:=f9 _ (Cu (ID hu) ha hb (A7 hn)) (AI FQ Bd ma mb)
       pt:=By _ (Cv (ID hu) ha hb (A7 hn)) fun σ H Q h=>AI FQ Bd ma mb σ H _ (DK m σ H Q h)
       m:=m
       mt := .bl m
       pw:=fun _ _ _ e=>by cases e}
theorem Gv{ra rb:Expr}{p:Pos}{wa wb:WE}(hu:X.A.units+1<cLine)(ha:PE X ra (lift X.K wa))(hb:PE X rb (lift X.K wb))(ma:Mono wa)(mb:Mono wb)(hn:j7 rb=true):Good X (.Compare ra [.Eq] [rb] p) (tt2 (w2 FD wa wb)):=by
 have m:Mono (w2 FD wa wb) := .two Be ma mb
 exact{pe:=f9 _ (Cu (IE hu) ha hb (A7 hn)) (AI FR Be ma mb)
       pt:=By _ (Cv (IE hu) ha hb (A7 hn)) fun σ H Q h=>AI FR Be ma mb σ H _ (DK m σ H Q h)
       m:=m
       mt := .bl m
       pw:=fun _ _ _ e=>by cases e}
theorem Gx{ra rb:Expr}{p:Pos}{wa wb:WE}(hu:X.A.units+1<cLine)(ha:PE X ra (lift X.K wa))(hb:PE X rb (lift X.K wb))(ma:Mono wa)(mb:Mono wb)(hn:j7 rb=true):Good X (.Compare ra [.Eq] [rb] p) (tt2 (w2 FB wa wb)):=by
 have m:Mono (w2 FB wa wb) := .two Bf ma mb
 exact{pe:=f9 _ (Cu (Hr (by omega)) ha hb (A7 hn)) (AI FP Bf ma mb)
       pt:=By _ (Cv (Hr (by omega)) ha hb (A7 hn)) fun σ H Q h=>AI FP Bf ma mb σ H _ (DK m σ H Q h)
       m:=m
       mt := .bl m
       pw:=fun _ _ _ e=>by cases e}
end
open PySem L2
noncomputable def BB(K:Sh)(g:Tg):TG:=fun v σ H Q=>∃ as ρ S x,Ok K as H S/\EnvOk K as H σ ρ/\Rl K as H v x/\wTg g x ρ fun ρ'=>∀ σ',EnvOk K as H σ' ρ'->Q σ' H
noncomputable def Q8(K:Sh)(g:Tgs):TGs:=fun vs σ H Q=>∃ as ρ S xs,Ok K as H S/\EnvOk K as H σ ρ/\RlAll K as H vs xs/\Ab g xs ρ fun ρ'=>∀ σ',EnvOk K as H σ' ρ'->Q σ' H
mutual
theorem l8:∀(g:Tg) {x:SV} {ρ:EnvS} {P P':EnvS->Prop},(∀ r,P r->P' r)->wTg g x ρ P->wTg g x ρ P'
 | .nm i,x,ρ,P,P',h,q=>by unfold wTg at q ⊢;exact h _ q
 | .tup ts,x,ρ,P,P',h,q=>by
   cases x with
   | tup xs=>unfold wTg at q ⊢;exact FS ts h q
   | _=>unfold wTg at q;exact q.elim
theorem FS:∀(g:Tgs) {x:List SV} {ρ:EnvS} {P P':EnvS->Prop},(∀ r,P r->P' r)->Ab g x ρ P->Ab g x ρ P'
 | .nil,x,ρ,P,P',h,q=>by
   cases x with
   | nil=>unfold Ab at q ⊢;exact h _ q
   | cons _ _=>unfold Ab at q;exact q.elim
 | .cons t ts,x,ρ,P,P',h,q=>by
   cases x with
   | nil=>unfold Ab at q;exact q.elim
   | cons y ys=>unfold Ab at q ⊢;exact l8 t (fun r q=>FS ts h q) q
end
theorem BP{env:Env}:∀{es:List Expr},es.all f7=true->(assignEach es env).length=es.length/\(assignEach es env).findIdx? (·.1)=none/\∀ e r,es=e::r->(assignEach (e::r) env).map (·.2)=assign e env::(assignEach r env).map (·.2)
 | [],_=>⟨rfl,rfl,fun e r h=>by cases h⟩
 | e::es,h=>by
   rw[UB,Si]at h;obtain⟨h1,h2,_⟩:=BP (env:=env) h.2;have:assignEach (e::es) env=(false,assign e env)::assignEach es env:=by cases e<;>first | rfl | (have:=h.1;cases this)
   rw[this];refine⟨by simp[h1],by rw[List.findIdx?_cons,h2];rfl,fun e' r z=>?_⟩;injection z with z1 z2;subst z1 z2;rw[this];rfl
theorem Cc{k:Nat}{N:List Str}{sc:Scope}:∀{g:Tgs} {es:List Expr},AX k N sc g es=true->es.all f7=true
 | .nil,es,h=>by unfold AX at h;rw[Tz]at h;subst h;rfl
 | .cons t ts,es,h=>by
   rw[AX]at h;replace h:=a7 h;obtain⟨e,he,h⟩:=h;simp only[Si]at h;rw[Ad he,UB,h.1.2,Cc h.2];rfl
section
variable{X:Cx}{T:List Str}{Δ:Nat->Sn}{k:Nat}{N:List Str}{sc:Scope}
mutual
theorem A8(C:Cok T Δ X k N sc):∀(g:Tg) (r:Expr),AW k N sc g r=true->PG X r (BB X.K g)
 | .nm i,r,h=>by
   rw[AW]at h;replace h:=a7 h;obtain⟨x,hx,h⟩:=h;obtain⟨p,rfl⟩:=CC hx
   ·simp only[Si,decide_eq_true_eq]at h;obtain⟨⟨h1,h2⟩,h3⟩:=h;unfold loc at h3;simp only[Tj,beq_iff_eq]at h3;have hl:Loc X.env.scope x:=by rw[C.hs];exact h3
    have hf:X.fn x=true\/X.env.scope.names.lookup x=some .local:=by
     rw[C.hs];rcases h3 with h3 | h3
     ·exact .inr h3
     ·exact .inl (C.fn i x h1 h2 h3)
    have b:=MX (X:=X) (pos:=p) (i:=i) (by rw[C.hN];exact C.nd) (by rw[C.hN];exact h2) hl hf;intro pins s σ H v u Q I rr hq;obtain⟨as,ρ,S,y,ok,en,rv,q⟩:=hq;unfold wTg at q;exact b pins s σ H v u Q I rr (q _ (en.set rv))
 | .tup ts,r,h=>by
   rw[AW]at h;replace h:=a7 h;obtain⟨es,he,h⟩:=h;obtain⟨j,p,rfl⟩:=D1 he
   ·have st:=BP (env:=X.env) (Cc h);have b:=P1 (X:=X) (k:=j) (pos:=p) C.calm (E2 C ts es h) st.1 st.2.1;intro pins s σ H v u Q I rr hq;refine b pins s σ H v u Q I rr ?_;obtain⟨as,ρ,S,y,ok,en,rv,q⟩:=hq;cases y with
    | tup xs=>
      obtain⟨a,vs,rfl,ha,ra⟩:=rl_tup.mp rv;unfold wTg at q;refine⟨a,vs,rfl,SqT.of ha,?_,as,ρ,S,xs,ok,en,ra,q⟩;rw[ra.length];exact IH ts es xs h q
    | _=>unfold wTg at q;exact q.elim
theorem E2(C:Cok T Δ X k N sc):∀(g:Tgs) (es:List Expr),AX k N sc g es=true->PGs X es (Q8 X.K g)
 | .nil,es,h=>by
   rw[AX]at h;rw[Tz]at h;subst h;intro pins s σ H vs us Q I rr hq;refine MY pins s σ H vs us Q I rr ?_;obtain⟨as,ρ,S,xs,ok,en,rv,q⟩:=hq;cases xs with
   | nil=>unfold Ab at q;exact⟨rla_nil.mp rv,q _ en⟩
   | cons _ _=>unfold Ab at q;exact q.elim
 | .cons t ts,el,h=>by
   have st:=BP (env:=X.env) (Cc h);rw[AX]at h;replace h:=a7 h;obtain⟨e,he,h⟩:=h;simp only[Si]at h;rw[Ad he]at st ⊢;generalize el.tail=es at h st;intro pins s σ H vs us Q I rr hq;refine Jx (A8 C t e h.1.1) (E2 C ts es h.2) (st.2.2 _ _ rfl) pins s σ H vs us Q I rr ?_;obtain⟨as,ρ,S,xs,ok,en,rv,q⟩:=hq;cases xs with
   | nil=>unfold Ab at q;exact q.elim
   | cons y ys=>
     unfold Ab at q;obtain⟨v,r,rfl,r1,r2⟩:=rla_cons.mp rv;exact⟨v,r,rfl,as,ρ,S,y,ok,en,r1,l8 t (fun ρ' q σ' en'=>⟨as,ρ',S,ys,ok,en',r2,q⟩) q⟩
theorem IH:∀(g:Tgs) (es:List Expr) (xs:List SV) {ρ:EnvS} {P:EnvS->Prop},AX k N sc g es=true->Ab g xs ρ P->xs.length=es.length
 | .nil,es,xs,ρ,P,h,q=>by
   rw[AX]at h;rw[Tz]at h;subst h;cases xs with
   | nil=>rfl
   | cons _ _=>unfold Ab at q;exact q.elim
 | .cons t ts,el,xs,ρ,P,h,q=>by
   rw[AX]at h;replace h:=a7 h;obtain⟨e,he,h⟩:=h;simp only[Si]at h;rw[Ad he];generalize el.tail=es at h;cases xs with
   | nil=>unfold Ab at q;exact q.elim
   | cons y ys=>
     unfold Ab at q;obtain⟨ρ',q'⟩:=II t q;simp[IH ts es ys h.2 q']
theorem II:∀(g:Tg) {x:SV} {ρ:EnvS} {P:EnvS->Prop},wTg g x ρ P->∃ ρ',P ρ'
 | .nm i,x,ρ,P,q=>by unfold wTg at q;exact⟨_,q⟩
 | .tup ts,x,ρ,P,q=>by
   cases x with
   | tup xs=>unfold wTg at q;exact FT ts q
   | _=>unfold wTg at q;exact q.elim
theorem FT:∀(g:Tgs) {xs:List SV} {ρ:EnvS} {P:EnvS->Prop},Ab g xs ρ P->∃ ρ',P ρ'
 | .nil,xs,ρ,P,q=>by
   cases xs with
   | nil=>unfold Ab at q;exact⟨_,q⟩
   | cons _ _=>unfold Ab at q;exact q.elim
 | .cons t ts,xs,ρ,P,q=>by
   cases xs with
   | nil=>unfold Ab at q;exact q.elim
   | cons y ys=>
     unfold Ab at q;obtain⟨ρ',q'⟩:=II t q;exact FT ts q'
end
end
structure Gu(as:List Addr)(H:Hp)(as':List Addr)(H':Hp):Prop where
 pre:as <+: as'
 kp:KeepU H H'
theorem Gu.ku{K:Sh}{as as':List Addr}{H H':Hp}{S:Sto}(g:Gu as H as' H')(_:Ok K as H S):KeepU H H':=g.kp
theorem Go.gu{K:Sh}{as as':List Addr}{H H':Hp}{S:Sto}(g:Go as H as' H')(ok:Ok K as H S):Gu as H as' H':=⟨g.pre,g.ku ok⟩
noncomputable def Walks(K:Sh)(as0:List Addr)(H0:Hp)(J:It)(keep:Sto->Prop)(xs:List SV):Prop:=∀ as H S,Gu as0 H0 as H->Ok K as H S->keep S->
 (∀(i:Nat) (x:SV),xs[i]?=some x->J.go i H/\∀ v H',J.yld i H v H'->Go as H as H'/\Ok K as H' S/\Rl K as H' v x)/\J.stop xs.length H
noncomputable def Ro(K:Sh)(as:List Addr)(H:Hp)(R:It->Hp->Prop):(Sto->Prop)->List SV->Sto->Prop:=fun keep xs S1=>∀ as1 H1 J,Go as H as1 H1->Ok K as1 H1 S1->Walks K as1 H1 J keep xs->R J H1
noncomputable def liftI(K:Sh)(w:WI):TI:=fun σ H R=>∃ as ρ S,Ok K as H S/\EnvOk K as H σ ρ/\w ρ S (Ro K as H R)
noncomputable def MonoI(w:WI):Prop:=∀ ρ S (P P':(Sto->Prop)->List SV->Sto->Prop),(∀ k x S',P k x S'->P' k x S')->w ρ S P->w ρ S P'
structure GoodI(X:Cx)(tg r:Expr)(w:WI):Prop where
 pi:PI X tg r (liftI X.K w)
 m:MonoI w
section
variable{X:Cx}{K:Sh}
theorem FU{as0 as:List Addr}{H0 H:Hp}{S1 S:Sto}{x:SV}{v:V}{xs:List SV}(ok1:Ok K as0 H0 S1)(r:Rl K as0 H0 v x)(h:Aa x S1=some xs)(g:Gu as0 H0 as H)(ok:Ok K as H S)(kp:DJ x S1 S):Rl K as H v x/\Aa x S=some xs:=by
 refine⟨Rl.mono g.pre (g.ku ok1) x v r,?_⟩;cases x with
 | loc k=>
   have kp:S[k]?=S1[k]?:=kp;unfold Aa at h ⊢;simp only[kp];exact h
 | _=>exact h
theorem JX{as0:List Addr}{H0:Hp}{S1:Sto}{x:SV}{a:Addr}{xs:List SV}(ok1:Ok K as0 H0 S1)(r:Rl K as0 H0 (.ref a) x)(n:x ≠ .tup xs)(h:Aa x S1=some xs):Walks K as0 H0 (Itl K a) (DJ x S1) xs:=fun as H S g ok kp=>by
 obtain⟨r',h'⟩:=FU ok1 r h g ok kp;obtain⟨b,vs,e,hq,rr⟩:=AR ok r' n h';cases e;refine⟨fun i y hy=>?_,vs,hq,by rw[rr.length];exact Sr _⟩;obtain⟨v,hv,rv⟩:=rr.get hy;refine⟨⟨vs,v,hq,hv⟩,fun u H' yl=>?_⟩;obtain⟨e,yl⟩:=yl;subst e;have:=yl vs hq;rw[hv]at this;cases this;exact⟨Go.refl _ _,ok,rv⟩
theorem Li{as0:List Addr}{H0:Hp}{S1:Sto}{a:Addr}{xs:List SV}(ok1:Ok K as0 H0 S1)(r:Rl K as0 H0 (.ref a) (.tup xs)):Walks K as0 H0 (Itt K a) (DJ (.tup xs) S1) xs:=fun as H S g ok kp=>by
 have r':=Rl.mono g.pre (g.ku ok1) _ _ r;obtain⟨b,vs,e,hb,rr⟩:=rl_tup.mp r';cases e;refine⟨fun i y hy=>?_,vs,SqT.of hb,by rw[rr.length];exact Sr _⟩;obtain⟨v,hv,rv⟩:=rr.get hy;refine⟨⟨vs,v,SqT.of hb,hv⟩,fun u H' yl=>?_⟩;obtain⟨e,yl⟩:=yl;subst e;have:=yl vs (SqT.of hb);rw[hv]at this;cases this;exact⟨Go.refl _ _,ok,rv⟩
theorem Lj{as0:List Addr}{H0:Hp}{lo hi:Int}:Walks K as0 H0 (Itr lo (hi - lo).toNat) (fun _=>True) (Bq lo hi):=fun as H S g ok _=>by
 have hl:(Bq lo hi).length=(hi - lo).toNat:=by unfold Bq;simp
 refine⟨fun i y hy=>?_,by show(hi - lo).toNat<=(Bq lo hi).length;rw[hl];exact Sr _⟩;have hi':i<(hi - lo).toNat:=by rw[<-hl];exact(gM hy).1
 refine⟨hi',fun u H' yl=>?_⟩;obtain⟨e,rfl⟩:=yl;subst e
 have:y = .int (lo+i):=by
  unfold Bq at hy;rw[TB,U6 hi']at hy;exact(oj hy).symm
 subst this;exact⟨Go.refl _ _,ok,rl_int.mpr rfl⟩
theorem FV{xs:List SV}{i:Nat}{y:SV}(h:(BN xs)[i]?=some y):∃ x,xs[i]?=some x/\y = .tup [.int i,x]:=by
 unfold BN at h;rw[Vi]at h;cases h1:(Sx xs.length)[i]? with
 | none=>rw[h1]at h;cases h
 | some j=>
   cases h2:xs[i]? with
   | none=>rw[h1,h2]at h;cases h
   | some x=>
     rw[h1,h2]at h;have hi:=(gM h2).1;rw[U6 hi]at h1;cases h1;cases h;exact⟨x,rfl,rfl⟩
theorem FW{xs:List SV}:(BN xs).length=xs.length:=by unfold BN;simp
theorem Gy{as0:List Addr}{H0:Hp}{S1:Sto}{x:SV}{a:Addr}{xs:List SV}(ok1:Ok K as0 H0 S1)(r:Rl K as0 H0 (.ref a) x)(n:x ≠ .tup xs)(h:Aa x S1=some xs):Walks K as0 H0 (PP K a) (DJ x S1) (BN xs):=fun as H S g ok kp=>by
 obtain⟨r',h'⟩:=FU ok1 r h g ok kp;obtain⟨b,vs,e,hq,rr⟩:=AR ok r' n h';cases e;refine⟨fun i y hy=>?_,vs,hq,by rw[rr.length,FW]⟩;obtain⟨z,hz,rfl⟩:=FV hy;obtain⟨v,hv,rv⟩:=rr.get hz;refine⟨⟨vs,v,hq,hv⟩,fun u H' yl=>?_⟩;obtain⟨p,w,hp,rfl,yl,rfl⟩:=yl;have:=yl vs hq;rw[hv]at this;cases this;exact⟨Go.new hp,ok.new hp,rl_tup.mpr ⟨p,_,rfl,n8,.cons (rl_int.mpr rfl) (.cons (Rl.mono (Te _) (Ar hp) z v rv) .nil)⟩⟩
theorem Gz{as0:List Addr}{H0:Hp}{S1:Sto}{a:Addr}{xs:List SV}(ok1:Ok K as0 H0 S1)(r:Rl K as0 H0 (.ref a) (.tup xs)):Walks K as0 H0 (PQ K a) (DJ (.tup xs) S1) (BN xs):=fun as H S g ok kp=>by
 have r':=Rl.mono g.pre (g.ku ok1) _ _ r;obtain⟨b,vs,e,hb,rr⟩:=rl_tup.mp r';cases e;refine⟨fun i y hy=>?_,vs,SqT.of hb,by rw[rr.length,FW]⟩;obtain⟨z,hz,rfl⟩:=FV hy;obtain⟨v,hv,rv⟩:=rr.get hz;refine⟨⟨vs,v,SqT.of hb,hv⟩,fun u H' yl=>?_⟩;obtain⟨p,w,hp,rfl,yl,rfl⟩:=yl;have:=yl vs (SqT.of hb);rw[hv]at this;cases this;exact⟨Go.new hp,ok.new hp,rl_tup.mpr ⟨p,_,rfl,n8,.cons (rl_int.mpr rfl) (.cons (Rl.mono (Te _) (Ar hp) z v rv) .nil)⟩⟩
theorem Ec{tg l:Expr}{w:TI}(w':TI)(h:PI X tg l w)(imp:∀ σ H R,w' σ H R->w σ H R):PI X tg l w':=fun pins s σ H R I hw=>h pins s σ H R I (imp σ H R hw)
noncomputable def Se(K:Sh)(tl:TE):TI:=fun σ H R=>tl σ H fun x H1=>∃ a,x = .ref a/\(((∃ xs,SqL K H1 a xs)/\R (Itl K a) H1)\/((∃ xs,SqT K H1 a xs)/\R (Itt K a) H1))
theorem Q9{tg l:Expr}{tl:TE}(hl:PE X l tl):PI X tg l (Se X.K tl):=by
 intro pins s σ H R I h;refine thn (hl pins s σ H _ I h) fun v s1 ⟨x,H1,I1,r1,q1⟩=>?_;obtain⟨a,e,q⟩:=q1;subst e;cases r1;have I2:∀{ob:Obj},Inv X pins σ H1 {s1 with heap:=s1.heap.push ob}:=I1.kept (t':=s1.toks) fun b o e=>So _ e
 have fp:∀ b∈[s1.heap.objs.size],FpOk X pins H1 b:=fun b hb=>by
  rw[TH.mp hb];exact I1.fpOk (Sr _) (I1.hok.fresh (Sr _))
 rcases q with⟨⟨xs,hq⟩,q⟩ | ⟨⟨xs,hq⟩,q⟩
 ·obtain⟨its,rv,p,hz⟩:=I1.list hq;exact wpAny_pyIter_list p.isList ⟨s1.heap.objs.size,[s1.heap.objs.size],_,_,H1,rfl,I2,Ig a _,⟨_,Sy _ rfl,rfl,rfl⟩,fp,q⟩
 ·obtain⟨its,rv,p,hz⟩:=I1.tuple hq;exact wpAny_pyIter_tuple (show s1.heap.IsTuple a its.toArray from p) ⟨s1.heap.objs.size,[s1.heap.objs.size],_,_,H1,rfl,I2,GD a _,⟨_,Sy _ rfl,rfl,rfl⟩,fp,q⟩
theorem JY{tg r:Expr}{a:WE×WT}(ha:Good X r a):GoodI X tg r (Ob a.1) where
 m:=fun ρ S P P' i h=>ha.m _ _ _ _ (fun x S1 ⟨xs,e,q⟩=>⟨xs,e,i _ _ _ q⟩) h
 pi:=Ec _ (Q9 ha.pe) (by
  rintro σ H R ⟨as,ρ,S,ok,en,h⟩;refine⟨as,ρ,S,ok,en,ha.m _ _ _ _ (fun x S1 ⟨xs,e,q⟩ as1 H1 v g1 ok1 rv=>?_) h⟩;by_cases ht:x = .tup xs
  ·subst ht;obtain⟨p,vs,rfl,hp,rr⟩:=rl_tup.mp rv;exact⟨p,rfl,.inr ⟨⟨vs,SqT.of hp⟩,q as1 H1 _ g1 ok1 (Li ok1 rv)⟩⟩
  ·obtain⟨p,vs,rfl,hq,rr⟩:=AR ok1 rv ht e;exact⟨p,rfl,.inl ⟨⟨vs,hq⟩,q as1 H1 _ g1 ok1 (JX ok1 rv ht e)⟩⟩)
theorem HA{T:List Str}{Δ:Nat->Sn}{k:Nat}{N:List Str}{sc:Scope}{elts:List Expr}{kx:Nat}{tp p q:Pos}{r:Expr}{a:WE×WT}(C:Cok T Δ X k N sc)(hg:glo sc "enumerate"=true)(ha:Good X r a)(hs:f7 r=true):GoodI X (.Tuple elts kx tp) (.Call (.Name "enumerate" p) [r] [] q) (LF a.1) where
 m:=fun ρ S P P' i h=>ha.m _ _ _ _ (fun x S1 ⟨xs,e,q⟩=>⟨xs,e,i _ _ _ q⟩) h
 pi:=by
  unfold glo at hg;simp only[Si,beq_iff_eq,Ta]at hg;have gl:Gl X "enumerate":=by show X.env.scope.names.lookup ("enumerate":Str)=_;rw[C.hs];exact hg.1.1
  refine Ec _ (Ml gl C.enm (Ac ha.pe CQ (j6 hs)) (j6 hs)) ?_;rintro σ H R ⟨as,ρ,S,ok,en,h⟩;refine⟨as,ρ,S,ok,en,ha.m _ _ _ _ (fun x S1 ⟨xs,e,q⟩ as1 H1 v g1 ok1 rv=>?_) h⟩;by_cases ht:x = .tup xs
  ·subst ht;obtain⟨p,vs,rfl,hp,rr⟩:=rl_tup.mp rv;exact⟨p,rfl,.inr ⟨⟨vs,SqT.of hp⟩,q as1 H1 _ g1 ok1 (Gz ok1 rv)⟩⟩
  ·obtain⟨p,vs,rfl,hq,rr⟩:=AR ok1 rv ht e;exact⟨p,rfl,.inl ⟨⟨vs,hq⟩,q as1 H1 _ g1 ok1 (Gy ok1 rv ht e)⟩⟩
theorem HB{T:List Str}{Δ:Nat->Sn}{k:Nat}{N:List Str}{sc:Scope}{tg r:Expr}{p q:Pos}{a:WE×WT}(C:Cok T Δ X k N sc)(hg:glo sc "range"=true)(ha:Good X r a)(hs:f7 r=true):GoodI X tg (.Call (.Name "range" p) [r] [] q) (LC a.1) where
 m:=fun ρ S P P' i h=>ha.m _ _ _ _ (fun x S1 ⟨j,e,z,q⟩=>⟨j,e,z,i _ _ _ q⟩) h
 pi:=by
  unfold glo at hg;simp only[Si,beq_iff_eq,Ta]at hg;have gl:Gl X "range":=by show X.env.scope.names.lookup ("range":Str)=_;rw[C.hs];exact hg.1.1
  refine Ec _ (Ih gl C.rng (Ac ha.pe CQ (j6 hs)) (j6 hs)) ?_;rintro σ H R ⟨as,ρ,S,ok,en,h⟩;refine⟨as,ρ,S,ok,en,ha.m _ _ _ _ (fun x S1 ⟨j,e,z,q⟩ as1 H1 v g1 ok1 rv=>?_) h⟩;subst e;refine⟨j,by rw[rl_int.mp rv],z.1,z.2,?_⟩;have:=q as1 H1 (Itr 0 (j - 0).toNat) g1 ok1 Lj
  rwa [Int.sub_zero]at this
theorem JZ{as0:List Addr}{H0:Hp}{lo hi:Int}:Walks K as0 H0 (NM lo (Bp lo hi)) (fun _=>True) (rngT lo hi):=fun as H S g ok _=>by
 have hl:(rngT lo hi).length=Bp lo hi:=by unfold rngT;simp
 refine⟨fun i y hy=>?_,by show Bp lo hi<=(rngT lo hi).length;rw[hl];exact Sr _⟩;have hi':i<Bp lo hi:=by rw[<-hl];exact(gM hy).1
 refine⟨hi',fun u H' yl=>?_⟩;obtain⟨e,rfl⟩:=yl;subst e
 have:y = .int (lo+i * 2):=by
  unfold rngT at hy;rw[TB,U6 hi']at hy;exact(oj hy).symm
 subst this;exact⟨Go.refl _ _,ok,rl_int.mpr rfl⟩
theorem HC{T:List Str}{Δ:Nat->Sn}{k:Nat}{N:List Str}{sc:Scope}{tg r r2:Expr}{p q p3:Pos}{j3:Nat}{a b:WE×WT}(C:Cok T Δ X k N sc)(hg:glo sc "range"=true)(ha:Good X r a)(hb:Good X r2 b)(hs:f7 r=true)(hs2:f7 r2=true):GoodI X tg (.Call (.Name "range" p) [r,r2,.Constant (.int 2) j3 p3] [] q) (LD a.1 b.1) where
 m:=fun ρ S P P' i h=>ha.m _ _ _ _ (fun x S1 h=>hb.m _ _ _ _ (fun y S2 ⟨l,j,e,e2,z,q⟩=>⟨l,j,e,e2,z,i _ _ _ q⟩) h) h
 pi:=by
  unfold glo at hg;simp only[Si,beq_iff_eq,Ta]at hg;have gl:Gl X "range":=by show X.env.scope.names.lookup ("range":Str)=_;rw[C.hs];exact hg.1.1
  refine Ec _ (JF gl C.rng (Ac ha.pe (Ac hb.pe (Ac GB CQ rfl) (j6 hs2)) (j6 hs)) (by rw[j6 hs,j6 hs2];rfl) (by rw[j6 hs2];rfl)) ?_;rintro σ H R ⟨as,ρ,S,ok,en,h⟩;refine⟨as,ρ,S,ok,en,ha.m _ _ _ _ (fun x S1 h as1 H1 v g1 ok1 rv=>?_) h⟩;refine⟨as1,ρ,S1,ok1,en.mono g1.pre (g1.ku ok),hb.m _ _ _ _ (fun y S2 ⟨l,j,e,e2,z,q⟩ as2 H2 u g2 ok2 ru=>?_) h⟩;subst e e2;exact⟨l,j,by rw[rl_int.mp rv,rl_int.mp ru],z,q as2 H2 _ (g1.trans g2) ok2 JZ⟩
end
end Rf
namespace L2
open PySem PySem.Spec PyProof.Rows
noncomputable def SetXO(prog:Program)(w:World)(o:Obj)(L:List Int):Prop:=
 ∃ es ep t,o.ExactSet/\o.data = .set es ep t/\ElemsOf (intKind prog w) es.toList/\es.size<scanBound/\t.fits es.size=true/\Tab w t/\(es.toList.map fun e=>numOf e.2).Perm L
theorem SetXO.at{prog:Program}{w:World}{o:Obj}{L:List Int}{h:Heap}{a:Addr}(x:SetXO prog w o L)(e:h.get? a=some o):SetX prog w h a L:=let ⟨es,ep,t,r⟩:=x;⟨o,es,ep,t,e,r⟩
theorem SetX.obj{prog:Program}{w:World}{L:List Int}{h:Heap}{a:Addr}(x:SetX prog w h a L):∃ o,h.get? a=some o/\SetXO prog w o L:=let ⟨o,es,ep,t,e,r⟩:=x;⟨o,e,es,ep,t,r⟩
noncomputable def hoS(o:Obj)(L:List Int):HO := .frz o (.set (fun k=>decide (k∈L)) L.length)
open PySem PySem.Spec PyProof.Rows
noncomputable def IJ(E iter2:Expr)(acc:Value)(env:Env):Sem Unit:=do
 let x <- eval iter2 env
 standAt iter2.pos
 let x <- foldedSetIterable iter2 env x
 let _ <- runOwn (.compStart E 1 (<- holding [x] (pyIter x)) acc env) env
section
variable{prog:Program}{w:World}{A:Around}{elt tg iter tg2 iter2:Expr}{ifs ifs2:List Expr}{scope:Scope}{pos:Pos}
theorem C0{R:Result->Shared->Prop}{s:Shared}{it acc:Value}{env:Env}
 (h0:codeAny (model prog w) A (.compLoop (.ListComp elt [⟨tg,iter,ifs,0⟩,⟨tg2,iter2,ifs2,0⟩] scope pos) 1 it acc env) R s)
 (h:wpAny (model prog w) A (pyIter it) (fun it' s'=>codeAny (model prog w) A (.compLoop (.ListComp elt [⟨tg,iter,ifs,0⟩,⟨tg2,iter2,ifs2,0⟩] scope pos) 1 it' acc env) R s')
   (notedBy (model prog w) A env fun x s'=>R (.error x) s') s):
 codeAny (model prog w) A (.compStart (.ListComp elt [⟨tg,iter,ifs,0⟩,⟨tg2,iter2,ifs2,0⟩] scope pos) 1 it acc env) R s:=by
 refine codeAny_of_tree ?_;show wpAny _ _ ((compStart (.ListComp elt [⟨tg,iter,ifs,0⟩,⟨tg2,iter2,ifs2,0⟩] scope pos) 1 it acc env).onRaise (fun x=>do noteFrame x env;standAt theWindowsPlace)) _ _ s;refine wpAny_notedAt ?_;unfold compStart;show wpAny _ _ (ask >>= _) _ _ s;refine wpAny_bind (wpAny_askSetting (wpAny_ite ?_));split
 ·first
   | exact wpAny_bind (wpAny_pure (wpAny_pure (And.intro rfl h0)))
   | exact wpAny_pure (And.intro rfl h0)
 ·first
   | exact wpAny_bind (wpAny_rule (wpAny_bind (wpAny_standAt (wpAny_bind (wpAny_mono h (fun it' s' h'=>wpAny_pure (And.intro rfl h')) fun _ _ x=>x)))))
   | (refine wpAny_bind (wpAny_rule ?_);show wpAny _ _ (standAt iter2.pos >>= _) _ _ s;exact wpAny_bind (wpAny_standAt (wpAny_bind (wpAny_mono h (fun it' s' h'=>wpAny_pure (And.intro rfl h')) fun _ _ x=>x))))
theorem NX:CForm prog w A (.ListComp elt [⟨tg,iter,ifs,0⟩,⟨tg2,iter2,ifs2,0⟩] scope pos) tg iter ifs (IJ (.ListComp elt [⟨tg,iter,ifs,0⟩,⟨tg2,iter2,ifs2,0⟩] scope pos) iter2) where
 turn:=fun _ _ _=>by
  unfold IJ;simp only[bind_assoc,pure_bind];rfl
 und:=fun _ _ _=>rfl
 den:=fun _ _ _=>rfl
 start:=fun h0 h=>codeAny_compStart_list h0 h
theorem cform2b:CForm prog w A (.ListComp elt [⟨tg,iter,ifs,0⟩,⟨tg2,iter2,ifs2,0⟩] scope pos) tg2 iter2 ifs2 (OL elt) 1 where
 turn:=fun _ _ _=>by rfl
 und:=fun _ _ _=>rfl
 den:=fun _ _ _=>rfl
 start:=fun h0 h=>C0 h0 h
end
noncomputable def NY(wi2:TI)(g2:TG)(tt2:TT)(te:TE)(D:Addr)(ys:List V)(σ:St)(H:Hp)(N:List V->Hp->Prop):Prop:=
 wi2 σ H fun J H1=>∃ W:Nat->Nat->List V->St->Hp->Prop,(∃ m,W 0 m ys σ H1)/\∀ i m zs σ H,W i m zs σ H->(J.stop i H/\N zs H)\/
  (J.go i H/\∃ N2:List V->St->Hp->Prop,(∀ zs' σ' H',N2 zs' σ' H'->∃ m',m'<m/\W (i+1) m' zs' σ' H')/\∀ x H',J.yld i H x H'->g2 x σ H' fun σ2 H2=>tt2 σ2 H2 fun b H3=>
    if b=true then te σ2 H3 fun v H4=>H4 D=some (.lst zs)/\zs.length<sizeLine/\N2 (zs++[v]) σ2 (upd H4 D (.lst (zs++[v]))) else N2 zs σ2 H3)
noncomputable def HD(wi:TI)(g:TG)(tt:TT)(wi2:TI)(g2:TG)(tt2:TT)(te:TE)(k:Nat)(js:List Nat):TE:=fun σ H Q=>wi σ H fun J H1=>∀ D,H1 D=none->
 ∃ W:Nat->Nat->List V->Hp->Prop,(∃ m,W 0 m [] (upd H1 D (.lst [])))/\GP J g tt (NY wi2 g2 tt2 te D) (Ak k js σ) (fun H=>Q (.ref D) H) W
section
variable{Y:Cx}{tg elt iter tg2 iter2:Expr}{ifs ifs2:List Expr}{scope:Scope}{pos:Pos}{g2:TG}{tt2:TT}{te:TE}{wi2:TI}
theorem Lk(hc:Y.calm=true)(hi:PI Y tg2 iter2 wi2)(hg:PG Y tg2 g2)(ht:B4 Y ifs2 tt2)(he:PE Y elt te)(hs:∀ x,foldedSetIterable iter2 Y.env x=pure x){D:Addr}{pins:List (Addr×Obj)}{s:Shared}{σ:St}{H:Hp}{ys:List V}{N:List V->Hp->Prop}(I:Inv Y pins σ H s)(hx:Y.xe=fun _ _=>False)
 (h:NY wi2 g2 tt2 te D ys σ H N):wpAny (model Y.prog Y.w) Y.A (IJ (.ListComp elt [⟨tg,iter,ifs,0⟩,⟨tg2,iter2,ifs2,0⟩] scope pos) iter2 (.ref D) Y.env) (fun _ s1=>∃ σ1 a1 H1,Inv Y pins σ1 H1 s1/\N a1 H1) (fun _ _=>False) s:=by
 unfold IJ;have hi':=hi pins s σ H _ I h;rw[hx]at hi';refine wpAny_bind (thn hi' fun v s1 h1=>?_);refine wpAny_bind (wpAny_standAt ?_);rw[hs];refine wpAny_bind (wpAny_pure ?_);refine wpAny_bind (wpAny_holding (thn h1 fun itv s2 h2=>?_));obtain⟨it,fp,tn,J,H2,e,I2,T,st2,f2,W,⟨m0,w0⟩,turn⟩:=h2;subst e;refine wpAny_bind (wpAny_runOwn (h:=none) ?_ ?_)
 rotate_left
 ·intro e;cases e
 have stat:∀{H':Hp},(∀ b∈fp,H' b=none)->∀ b∈fp,FpOk Y pins H' b:=fun hn b hb=>⟨hn b hb,(f2 b hb).2⟩
 have loop:∀ R:Result->Shared->Prop,(∀ s',(∃ σ1 a1 H1,Inv Y pins σ1 H1 s'/\N a1 H1)->R (.ok .next) s')->codeAny (model Y.prog Y.w) Y.A (.compLoop (.ListComp elt [⟨tg,iter,ifs,0⟩,⟨tg2,iter2,ifs2,0⟩] scope pos) 1 (.ref it) (.ref D) Y.env) R s2:=fun R hR=>by
  refine cform2b.loop (fun n s'=>∃ i zs σ' H',Inv Y pins σ' H' s'/\tn i s'.heap/\(∀ b∈fp,H' b=none)/\W i n zs σ' H') ?_ m0 ⟨0,ys,σ,H2,I2,st2,fun b hb=>(f2 b hb).1,w0⟩;rintro n s3 ⟨i,zs,σ3,H3,I3,st3,fr3,w3⟩;rcases turn i n zs σ3 H3 w3 with⟨stop,qn⟩ | ⟨go,N2,hN,step⟩
  ·refine thn (T.done Y rfl rfl rfl hc i pins s3 σ3 H3 _ I3 (stat fr3) st3 stop) fun r s4 ⟨hr,I4⟩=>?_;subst hr;exact hR _ ⟨_,_,_,I4,qn⟩
  ·refine thn (T.item Y rfl rfl rfl hc i pins s3 σ3 H3 _ I3 (stat fr3) st3 go) fun r s4 ⟨u,hr,h4⟩=>?_;subst hr;refine thn h4 fun _ s5 ⟨x,H5,I5,r5,y5,st5,fr5⟩=>?_;have I5':=I5.pinned (stat fr5) (T.obj _ _ st5);have e1:=hg _ s5 σ3 H5 x u _ I5' r5 (step x H5 y5);rw[hx]at e1;refine thn e1 fun _ s6 ⟨σ6,H6,I6,q6⟩=>?_;have e2:=ht _ s6 σ6 H6 _ I6 q6;rw[hx]at e2;refine thn e2 fun b s7 ⟨H7,I7,q7⟩=>?_
   have again:∀{σ7:St} {H7:Hp} {s7:Shared} {zs7:List V},Inv Y (pins++BF fp s5.heap) σ7 H7 s7->N2 zs7 σ7 H7->∃ m,m<n/\∃ i zs σ' H',Inv Y pins σ' H' s7/\tn i s7.heap/\(∀ b∈fp,H' b=none)/\W i m zs σ' H':=fun{σ7 H7 s7 zs7} I7 n7=>by
    obtain⟨m',hm,w7⟩:=hN zs7 σ7 H7 n7;refine⟨m',hm,i+1,zs7,σ7,H7,I7.unpinned,T.keep _ _ _ st5 fun b hb o e=>(I7.pin (b,o) (TR _ (TR _ (AC hb e)))).1,fun b hb=>?_,w7⟩;obtain⟨o,e,d⟩:=T.obj _ _ st5 b hb;exact(I7.pin (b,o) (TR _ (TR _ (AC hb e)))).2.1
   cases b with
   | false=>
     rw[if_neg Ss];rw[if_neg Ss]at q7;exact again I7 q7
   | true=>
     rw[if_pos rfl];rw[if_pos rfl]at q7;have e3:=he _ s7 σ6 H7 _ I7 q7;rw[hx]at e3;refine wpAny_bind (thn e3 fun y s8 ⟨v,H8,I8,r8,hD8,hz8,q8⟩=>?_);have e4:=BZ (X:=Y) _ s8 σ6 H8 (.ref D) [v] (.ref D) [y] (fun _ H9=>H9=upd H8 D (.lst (zs++[v]))) I8 rfl (.cons r8 .nil) ⟨_,zs,v,rfl,rfl,hD8,hz8,rfl⟩;rw[hx]at e4;refine wpAny_bind (thn e4 fun _ s9 ⟨z,H9,I9,r9,e9⟩=>?_);subst e9;exact wpAny_pure (again I9 q8)
 show codeAny _ (Y.A.mark none) _ _ s2;have hm:Y.A.mark none=Y.A:=rfl;rw[hm];refine cform2b.start (loop _ fun s' h=>wpAny_pure h) (T.self _ 0 _ _ _ st2 (loop _ fun s' h=>wpAny_pure h))
end
section
variable{X:Cx}{pins:List (Addr×Obj)}{σ:St}{H2:Hp}{s2:Shared}{tg elt iter tg2 iter2:Expr}{ifs ifs2:List Expr}{scope:Scope}{pos:Pos}{own cn:List Str}{js:List Nat}{g g2:TG}{tt tt2:TT}{te:TE}{wi2:TI}
theorem Cp(hok:m4 X.env.scope scope own cn X.N js=true)(hc:X.calm=true)
 (hg:∀ s2 H2 cs C fp,PG (c8 X scope (own++cn) s2 H2 cs C fp) tg g) (ht:∀ s2 H2 cs C fp,B4 (c8 X scope (own++cn) s2 H2 cs C fp) ifs tt) (hi2:∀ s2 H2 cs C fp,PI (c8 X scope (own++cn) s2 H2 cs C fp) tg2 iter2 wi2) (hg2:∀ s2 H2 cs C fp,PG (c8 X scope (own++cn) s2 H2 cs C fp) tg2 g2) (ht2:∀ s2 H2 cs C fp,B4 (c8 X scope (own++cn) s2 H2 cs C fp) ifs2 tt2) (he:∀ s2 H2 cs C fp,PE (c8 X scope (own++cn) s2 H2 cs C fp) elt te)
 (hs2:∀ s2 H2 cs C fp x,foldedSetIterable iter2 (c8 X scope (own++cn) s2 H2 cs C fp).env x=pure x)
 (I2:Inv X pins σ H2 s2) {it:Addr} {fp:List Addr} {tn:Nat->Heap->Prop} {J:It} (T:Turn X.prog X.w X.K tg J fp it tn) (st2:tn 0 s2.heap) (f2:∀ b∈fp,FpOk X pins H2 b)
 {Qe:Hp->Prop} (hW:∃ W:Nat->Nat->List V->Hp->Prop,(∃ m,W 0 m [] (upd H2 s2.heap.objs.size (.lst [])))/\GP J g tt (NY wi2 g2 tt2 te s2.heap.objs.size) (Ak own.length js σ) Qe W)
 {RR:Value->Addr->Result->Shared->Prop}
 (hRR:∀ C H' s',Inv X pins σ H' s'->FpOk X pins H' C->(∃ m,s'.heap.Ns C m)->Qe H'->RR (.ref s2.heap.objs.size) C (.ok .next) s'):
 wpAny (model X.prog X.w) X.A (newList []) (fun acc s₃=>wpAny (model X.prog X.w) X.A (newFunctionEnv scope X.env.globals (y4 X.env scope.names []) [] X.env.qual none .none (some X.env)) (fun cenv s₄=>
  codeAny (model X.prog X.w) X.A (.compStart (.ListComp elt [⟨tg,iter,ifs,0⟩,⟨tg2,iter2,ifs2,0⟩] scope pos) 0 (.ref it) acc {cenv with scope:=relabel scope X.env}) (RR acc cenv.locals) s₄) X.xe s₃) X.xe s2:=
 Cn (RR:=RR) (a0:=[]) (o0:={cls := .type "list",dict:=none,data := .seq ([]:List Value).toArray}) (u0 := .lst []) (tem:=NY wi2 g2 tt2 te) NX (fun hq=>wpAny_newObj_type hq) rfl (fun _ _ hD=>⟨U7 _,[],0,.nil,hD⟩) hok hc hg ht (fun D s2 H2 cs C fp pins s σ H ys N I h=>Lk (Y:=c8 X scope (own++cn) s2 H2 cs C fp) hc (hi2 s2 H2 cs C fp) (hg2 s2 H2 cs C fp) (ht2 s2 H2 cs C fp) (he s2 H2 cs C fp) (hs2 s2 H2 cs C fp) I rfl h) I2 T st2 f2 hW hRR
theorem Ll{wi:TI}(own cn:List Str)(js:List Nat)(hi:PI X tg iter wi)(hg:∀ s2 H2 cs C fp,PG (c8 X scope (own++cn) s2 H2 cs C fp) tg g)(ht:∀ s2 H2 cs C fp,B4 (c8 X scope (own++cn) s2 H2 cs C fp) ifs tt)
 (hi2:∀ s2 H2 cs C fp,PI (c8 X scope (own++cn) s2 H2 cs C fp) tg2 iter2 wi2) (hg2:∀ s2 H2 cs C fp,PG (c8 X scope (own++cn) s2 H2 cs C fp) tg2 g2) (ht2:∀ s2 H2 cs C fp,B4 (c8 X scope (own++cn) s2 H2 cs C fp) ifs2 tt2)
 (he:∀ s2 H2 cs C fp,PE (c8 X scope (own++cn) s2 H2 cs C fp) elt te) (hs2:∀ s2 H2 cs C fp x,foldedSetIterable iter2 (c8 X scope (own++cn) s2 H2 cs C fp).env x=pure x) (hc:X.calm=true:=by rfl) (hok:m4 X.env.scope scope own cn X.N js=true:=by kernel_rfl)
 (hs:∀ x,foldedSetIterable iter X.env x=pure x:=by intro _;rfl):PE X (.ListComp elt [⟨tg,iter,ifs,0⟩,⟨tg2,iter2,ifs2,0⟩] scope pos) (HD wi g tt wi2 g2 tt2 te own.length js):=by
 intro pins s σ H Q I h;have hok':=hok;unfold m4 at hok';simp only[Si,decide_eq_true_eq,TK,Tj,Ta,decide_eq_false_iff_not]at hok';obtain⟨⟨⟨⟨⟨⟨k1,k2⟩,k3⟩,k4⟩,k5⟩,k6⟩,k7⟩:=hok'
 have hfree:∀ x∈scope.names,x.2 = .free->∃ c,X.env.cells.lookup x.1=some c:=fun x hx hf=>I.ok.has x.1 (by
  rcases k2 x hx with(z | z) | z
  ·exact absurd hf z
  ·exact .inl z
  ·exact .inr z)
 rw[eval_ListComp];refine wpAny_comprehension_free (use:=none) rfl hs (v7 hfree) k1 (fun x hx hl=>?_) (thn (hi pins s σ H _ I h) fun v s1 h1=>thn h1 fun itv s2 h2=>?_)
 ·have:=g8 k3 (show(x.1,x.2)∈scope.names from hx);rw[this,hl]
 ·obtain⟨it,fp,tn,J,H2,e,I2,T,st2,f2,q⟩:=h2;subst e;refine Cp (RR:=fun acc C=>compPost (model X.prog X.w) X.A X.xe none (EP X pins σ Q) acc C) hok hc hg ht hi2 hg2 ht2 he hs2 I2 T st2 f2 (q _ I2.fresh) ?_;intro C H' s' I' fC ⟨m,hn⟩ q';obtain⟨f0,f1,f2',f3,f4,f5⟩:=fC;refine⟨m,hn,fun h' hs'=>⟨.ref s2.heap.objs.size,H',?_,rfl,q'⟩⟩;exact I'.turned (t':=s'.toks) (fun b o hb e=>(hs'.2 b hb).trans e) f0 f1 f3 f4 f5
theorem FX{wi:TI}{i:Nat}{x:Str}{px spos:Pos}(own cn:List Str)(js:List Nat)(hN:X.N.Nodup)(hix:X.N[i]?=some x)(hx:X.env.scope.names.lookup x=some .local)(hi:PI X tg iter wi)
 (hg:∀ s2 H2 cs C fp,PG (c8 X scope (own++cn) s2 H2 cs C fp) tg g) (ht:∀ s2 H2 cs C fp,B4 (c8 X scope (own++cn) s2 H2 cs C fp) ifs tt)
 (hi2:∀ s2 H2 cs C fp,PI (c8 X scope (own++cn) s2 H2 cs C fp) tg2 iter2 wi2) (hg2:∀ s2 H2 cs C fp,PG (c8 X scope (own++cn) s2 H2 cs C fp) tg2 g2) (ht2:∀ s2 H2 cs C fp,B4 (c8 X scope (own++cn) s2 H2 cs C fp) ifs2 tt2)
 (he:∀ s2 H2 cs C fp,PE (c8 X scope (own++cn) s2 H2 cs C fp) elt te) (hs2:∀ s2 H2 cs C fp x,foldedSetIterable iter2 (c8 X scope (own++cn) s2 H2 cs C fp).env x=pure x) (hc:X.calm=true:=by rfl) (hok:m4 X.env.scope scope own cn X.N js=true:=by kernel_rfl)
 (hsw:swapsWith (.ListComp elt [⟨tg,iter,ifs,0⟩,⟨tg2,iter2,ifs2,0⟩] scope pos) (some (.Name x px)) spos.line X.env=pure true:=by rfl)
 (hs:∀ x,foldedSetIterable iter X.env x=pure x:=by intro _;rfl):PS X (.Assign [.Name x px] (.ListComp elt [⟨tg,iter,ifs,0⟩,⟨tg2,iter2,ifs2,0⟩] scope pos) spos) (GC (HD wi g tt wi2 g2 tt2 te own.length js) (Er i)):=by
 intro pins s σ H D I h;have hok':=hok;unfold m4 at hok';simp only[Si,decide_eq_true_eq,TK,Tj,Ta,decide_eq_false_iff_not]at hok';obtain⟨⟨⟨⟨⟨⟨k1,k2⟩,k3⟩,k4⟩,k5⟩,k6⟩,k7⟩:=hok'
 have hfree:∀ x∈scope.names,x.2 = .free->∃ c,X.env.cells.lookup x.1=some c:=fun x hx hf=>I.ok.has x.1 (by
  rcases k2 x hx with(z | z) | z
  ·exact absurd hf z
  ·exact .inl z
  ·exact .inr z)
 rw[exec_Assign_Name_used _ _ _ _ hsw];refine wpAny_bind (wpAny_standAt (wpAny_bind ?_));show wpAny _ X.A (do let _ <- comprehension (.ListComp elt [⟨tg,iter,ifs,0⟩,⟨tg2,iter2,ifs2,0⟩] scope pos) scope X.env _ (newList []) false (eval iter X.env) (some (assign (.Name x px) X.env))) _ _ s
 refine wpAny_bind (wpAny_mono (wpAny_comprehension_free (use:=some (assign (.Name x px) X.env)) (Q:=fun _ s'=>SP X pins D .next s') rfl hs (v7 hfree) k1 (fun x hx hl=>?_)
  (thn (hi pins s σ H _ I h) fun v s1 h1=>thn h1 fun itv s2 h2=>?_)) (fun _ s' hq=>wpAny_pure (wpAny_pure hq)) fun _ _ e=>e)
 ·have:=g8 k3 (show(x.1,x.2)∈scope.names from hx);rw[this,hl]
 ·obtain⟨it,fp,tn,J,H2,e,I2,T,st2,f2,q⟩:=h2;subst e;refine Cp (RR:=fun acc C=>compPost (model X.prog X.w) X.A X.xe (some (assign (.Name x px) X.env)) (fun _ s'=>SP X pins D .next s') acc C) hok hc hg ht hi2 hg2 ht2 he hs2 I2 T st2 f2 (q _ I2.fresh) ?_;intro C H' s' I' fC ⟨m,hn⟩ q';obtain⟨f0,f1,f2',f3,f4,f5⟩:=fC;show wpAny _ X.A (assign (.Name x px) X.env (.ref s2.heap.objs.size)) _ _ _;refine wpAny_assign_Name (CO I' hN hix (.inl hx) (v := .ref s2.heap.objs.size) rfl (fun s3 I3 hch=>?_) (.inr hx));obtain⟨a,hsb,ha⟩:=hch
  have hCa:C≠a:=by
   rcases ha with z | z
   ·rw[z];exact f1
   ·exact fun e=>f4 x a z e.symm
  refine⟨m,hn.sameBut hsb hCa,fun h' hs'=>?_⟩;exact⟨_,H',I3.turned (t':=s3.toks) (fun b o hb e=>(hs'.2 b hb).trans e) f0 f1 f3 f4 f5,q'⟩
end
end L2
namespace Rf
open PySem L2
theorem Ja{α:Type}{o:Option (Option α)}{x:α}(h:o.join=some x):o=some (some x):=by
 cases o with
 | none=>cases h
 | some o=>cases o with
   | none=>cases h
   | some y=>cases h;rfl
theorem EnvOk.cap{K:Sh}{as:List Addr}{H:Hp}{σ:St}{ρ:EnvS}(h:EnvOk K as H σ ρ)(k:Nat)(js:List Nat):EnvOk K as H (Ak k js σ) (Bz k js ρ):=by
 refine⟨by unfold Ak Bz;simp,fun i x e=>?_⟩;unfold Bz at e;unfold Ak;by_cases hi:i<k
 ·rw[T9 (by simpa using hi),UU,if_pos hi]at e;cases e
 ·rw[TZ (by simpa using hi),UO,TB]at e;rw[TZ (by simpa using hi),UO,TB];cases hj:js[i - k]? with
  | none=>rw[hj]at e;cases e
  | some j=>
    rw[hj]at e;have e':(ρ[j]?).join=some x:=oj e;obtain⟨v,hv,rv⟩:=h.2 j x (Ja e');exact⟨v,by simp only[Ui];rw[hv];rfl,rv⟩
theorem Ok.adopt{K:Sh}{as:List Addr}{H:Hp}{S:Sto}{D:Addr}{vs:List V}{xs:List SV}(h:Ok K as H S)(n:D∉as)(hD:H D=some (.lst vs))(r:RlAll K as H vs xs):Ok K (as++[D]) H (S++[.lst xs]):=by
 have pre:as <+: as++[D]:=Uc _ _;refine⟨by rw[Sl,Sl,h.len];rfl,?_,fun k o a e ea=>?_⟩
 ·rw[V6];refine⟨h.nd,by simp,fun a ha b hb=>?_⟩;rw[TH.mp hb];intro z;subst z;exact n ha
 ·by_cases hk:k<S.length
  ·rw[T9 hk]at e;rw[T9 (by rw[h.len];exact hk)]at ea;exact(h.obj k o a e ea).mono pre (KeepU.refl _) fun _ z=>z
  ·have hk':k=S.length:=by
    have:=(gM e).1;rw[Sl,U8]at this;omega
   subst hk';rw[TX]at e;rw[<-h.len,TX]at ea;cases e;cases ea;exact⟨vs,hD,RlAll.mono pre (KeepU.refl _) xs vs r⟩
theorem C1{keep:Sto->Prop}{g:Tg}{t:WT}{e:WE}{ρ:EnvS}(mt:MonoT t)(me:Mono e){Q Q':List SV->Sto->Prop}(i:∀ ys S,Q ys S->Q' ys S):∀(xs ys:List SV) (S:Sto),v6 keep g t e ρ Q xs ys S->v6 keep g t e ρ Q' xs ys S
 | [],ys,S,h=>by unfold v6 at h ⊢;exact⟨h.1,i _ _ h.2⟩
 | x::xs,ys,S,h=>by
   unfold v6 at h ⊢;refine⟨h.1,l8 g (fun ρ2 q=>mt _ _ _ _ (fun b S1 q=>i7 (fun q=>me _ _ _ _ (fun y S2 q=>⟨q.1,C1 mt me i xs _ _ q.2⟩) q) (fun q=>C1 mt me i xs _ _ q) q) q) h.2⟩
theorem Mono.comp{k:Nat}{js:List Nat}{g:Tg}{i:WI}{t:WT}{e:WE}(mi:MonoI i)(mt:MonoT t)(me:Mono e):Mono (Hx k js g i t e):=fun ρ S P P' im h=>mi _ _ _ _ (fun keep xs S1 h=>C1 mt me (fun ys S2 q=>im _ _ q) xs [] S1 h) h
theorem FY{K:Sh}{k:Nat}{js:List Nat}{g:Tg}{i:WI}{t:WT}{e:WE}(mi:MonoI i)(mt:MonoT t)(me:Mono e):∀ σ H Q,lift K (Hx k js g i t e) σ H Q->KN (liftI K i) (BB K g) (liftT K t) (lift K e) k js σ H Q:=by
 rintro σ H Q ⟨as,ρ,S,ok,en,h⟩;refine⟨as,ρ,S,ok,en,mi _ _ _ _ (fun keep xs S1 h as1 H1 J g1 ok1 W=>?_) h⟩;intro D hD;have Dn:D∉as1:=ok1.free hD
 refine⟨fun i m vs H2=>m=xs.length - i/\i<=xs.length/\∃ as2 S2 ys,Go as1 H1 as2 H2/\Ok K as2 H2 S2/\D∉as2/\H2 D=some (.lst vs)/\RlAll K as2 H2 vs ys/\
  v6 keep g t e (Bz k js ρ) (fun ys S2=>Post K as H Q (.loc S2.length) (S2++[.lst ys])) (xs.drop i) ys S2,⟨xs.length,by simp,U7 _,as1,S1,[],Go.new hD,ok1.new hD,Dn,n8,.nil,h⟩,?_⟩
 rintro i m vs H2 ⟨rfl,hi,as2,S2,ys,g2,ok2,n2,d2,rs,h⟩;by_cases hlt:i<xs.length
 ·right;rw[U5 hlt]at h;unfold v6 at h;obtain⟨kp,h⟩:=h;obtain⟨w1,_⟩:=W as2 H2 S2 (g2.gu ok1) ok2 kp;obtain⟨go,yl⟩:=w1 i xs[i] (Sj hlt)
  refine⟨go,fun vs' H'=>∃ as2 S2 ys,Go as1 H1 as2 H'/\Ok K as2 H' S2/\D∉as2/\H' D=some (.lst vs')/\RlAll K as2 H' vs' ys/\
   v6 keep g t e (Bz k js ρ) (fun ys S2=>Post K as H Q (.loc S2.length) (S2++[.lst ys])) (xs.drop (i+1)) ys S2,fun vs' H' z=>⟨xs.length - (i+1),by omega,rfl,hlt,z⟩,fun x H3 y3=>?_⟩
  obtain⟨g3,ok3,rx⟩:=yl x H3 y3;have en3:EnvOk K as2 H3 (Ak k js σ) (Bz k js ρ):=((en.mono g1.pre (g1.ku ok)).mono (g2.trans g3).pre ((g2.trans g3).ku ok1)).cap k js;have rs3:=RlAll.mono g3.pre (g3.ku ok2) ys vs rs;obtain⟨d3,n3⟩:=g3.keep D _ d2 n2;refine⟨as2,Bz k js ρ,S2,_,ok3,en3,rx,l8 g (fun ρ2 q σ2 en2=>?_) h⟩;refine⟨as2,ρ2,S2,ok3,en2,mt _ _ _ _ (fun b S4 q as4 H4 g4 ok4=>?_) q⟩;obtain⟨d4,n4⟩:=g4.keep D _ d3 n3;have rs4:=RlAll.mono g4.pre (g4.ku ok3) ys vs rs3;refine i7 (fun q=>?_) (fun q=>?_) q
  ·refine⟨as4,ρ2,S4,ok4,en2.mono g4.pre (g4.ku ok3),me _ _ _ _ (fun y S5 q as5 H5 v g5 ok5 rv=>?_) q⟩;obtain⟨d5,n5⟩:=g5.keep D _ d4 n4;have rs5:=RlAll.mono g5.pre (g5.ku ok4) ys vs rs4;refine⟨d5,by rw[rs.length];exact EM q.1,as5,S5,ys++[y],?_,ok5.other d5 n5,n5,n8,?_,q.2⟩
   ·refine⟨(((g2.trans g3).trans g4).trans g5).pre,fun b o hb nb=>?_⟩;obtain⟨z1,z2⟩:=(((g2.trans g3).trans g4).trans g5).keep b o hb nb;exact⟨by rw[upd_ne (f6 hb hD)];exact z1,z2⟩
   ·exact RlAll.mono (Te _) (Bb d5 rfl) _ _ (rs5.append (.cons rv .nil))
  ·exact⟨as4,S4,ys,(g2.trans g3).trans g4,ok4,n4,d4,rs4,q⟩
 ·left;have hi':i=xs.length:=by omega
  subst hi';rw[Ua]at h;unfold v6 at h;obtain⟨kp,h⟩:=h;obtain⟨_,w2⟩:=W as2 H2 S2 (g2.gu ok1) ok2 kp;refine⟨w2,h (as2++[D]) H2 (.ref D) ?_ (ok2.adopt n2 d2 rs) (rl_loc.mpr ⟨D,by rw[<-ok2.len,TX],rfl⟩)⟩;refine⟨(g1.pre.trans g2.pre).trans (Uc _ _),fun b o hb nb=>?_⟩;obtain⟨h1,n1⟩:=g1.keep b o hb nb;obtain⟨h2,n2'⟩:=g2.keep b o h1 n1;refine⟨h2,?_⟩;rw[TQ,TH];rintro(z | z)
  ·exact n2' z
  ·exact f6 h1 hD z
theorem Ae{keep:Sto->Prop}{g:Tg}{t:WT}{e:WE}(mt:MonoT t)(me:Mono e){Q Q':List SV->Sto->Prop}(i:∀ ys S,Q ys S->Q' ys S):∀(xs:List SV) (ρ:EnvS) (ys:List SV) (S:Sto),m9 keep g t e Q xs ρ ys S->m9 keep g t e Q' xs ρ ys S
 | [],ρ,ys,S,h=>by unfold m9 at h ⊢;exact⟨h.1,i _ _ h.2⟩
 | x::xs,ρ,ys,S,h=>by
   unfold m9 at h ⊢;refine⟨h.1,l8 g (fun ρ2 q=>mt _ _ _ _ (fun b S1 q=>i7 (fun q=>me _ _ _ _ (fun y S2 q=>⟨q.1,Ae mt me i xs _ _ _ q.2⟩) q) (fun q=>Ae mt me i xs _ _ _ q) q) q) h.2⟩
theorem BQ{keep:Sto->Prop}{g g2:Tg}{t t2:WT}{i2:WI}{e:WE}{ρ:EnvS}(mt:MonoT t)(mi2:MonoI i2)(mt2:MonoT t2)(me:Mono e){Q Q':List SV->Sto->Prop}(i:∀ ys S,Q ys S->Q' ys S):∀(xs ys:List SV) (S:Sto),l7 keep g t g2 i2 t2 e ρ Q xs ys S->l7 keep g t g2 i2 t2 e ρ Q' xs ys S
 | [],ys,S,h=>by unfold l7 at h ⊢;exact⟨h.1,i _ _ h.2⟩
 | x::xs,ys,S,h=>by
   unfold l7 at h ⊢;refine⟨h.1,l8 g (fun ρ2 q=>mt _ _ _ _ (fun b S1 q=>i7 (fun q=>mi2 _ _ _ _ (fun keep2 xs2 S2 q=>Ae mt2 me (fun ys' S3 q=>BQ mt mi2 mt2 me i xs _ _ q) _ _ _ _ q) q) (fun q=>BQ mt mi2 mt2 me i xs _ _ q) q) q) h.2⟩
theorem Mono.comp2{k:Nat}{js:List Nat}{g g2:Tg}{i i2:WI}{t t2:WT}{e:WE}(mi:MonoI i)(mt:MonoT t)(mi2:MonoI i2)(mt2:MonoT t2)(me:Mono e):Mono (EX k js g i t g2 i2 t2 e):=fun ρ S P P' im h=>mi _ _ _ _ (fun keep xs S1 h=>BQ mt mi2 mt2 me (fun ys S2 q=>im _ _ q) xs [] S1 h) h
theorem E3{K:Sh}{k:Nat}{js:List Nat}{g g2:Tg}{i i2:WI}{t t2:WT}{e:WE}(mi:MonoI i)(mt:MonoT t)(mi2:MonoI i2)(mt2:MonoT t2)(me:Mono e):∀ σ H Q,lift K (EX k js g i t g2 i2 t2 e) σ H Q->HD (liftI K i) (BB K g) (liftT K t) (liftI K i2) (BB K g2) (liftT K t2) (lift K e) k js σ H Q:=by
 rintro σ H Q ⟨as,ρ,S,ok,en,h⟩;refine⟨as,ρ,S,ok,en,mi _ _ _ _ (fun keep xs S1 h as1 H1 J g1 ok1 W=>?_) h⟩;intro D hD;have Dn:D∉as1:=ok1.free hD
 refine⟨fun i m vs H2=>m=xs.length - i/\i<=xs.length/\∃ as2 S2 ys,Go as1 H1 as2 H2/\Ok K as2 H2 S2/\D∉as2/\H2 D=some (.lst vs)/\RlAll K as2 H2 vs ys/\
  l7 keep g t g2 i2 t2 e (Bz k js ρ) (fun ys S2=>Post K as H Q (.loc S2.length) (S2++[.lst ys])) (xs.drop i) ys S2,⟨xs.length,by simp,U7 _,as1,S1,[],Go.new hD,ok1.new hD,Dn,n8,.nil,h⟩,?_⟩
 rintro i m vs H2 ⟨rfl,hi,as2,S2,ys,g2,ok2,n2,d2,rs,h⟩;by_cases hlt:i<xs.length
 ·right;rw[U5 hlt]at h;unfold l7 at h;obtain⟨kp,h⟩:=h;obtain⟨w1,_⟩:=W as2 H2 S2 (g2.gu ok1) ok2 kp;obtain⟨go,yl⟩:=w1 i xs[i] (Sj hlt)
  refine⟨go,fun vs' H'=>∃ as2 S2 ys,Go as1 H1 as2 H'/\Ok K as2 H' S2/\D∉as2/\H' D=some (.lst vs')/\RlAll K as2 H' vs' ys/\
   l7 keep g t _ i2 t2 e (Bz k js ρ) (fun ys S2=>Post K as H Q (.loc S2.length) (S2++[.lst ys])) (xs.drop (i+1)) ys S2,fun vs' H' z=>⟨xs.length - (i+1),by omega,rfl,hlt,z⟩,fun x H3 y3=>?_⟩
  obtain⟨g3,ok3,rx⟩:=yl x H3 y3;have en3:EnvOk K as2 H3 (Ak k js σ) (Bz k js ρ):=((en.mono g1.pre (g1.ku ok)).mono (g2.trans g3).pre ((g2.trans g3).ku ok1)).cap k js;have rs3:=RlAll.mono g3.pre (g3.ku ok2) ys vs rs;obtain⟨d3,n3⟩:=g3.keep D _ d2 n2;refine⟨as2,Bz k js ρ,S2,_,ok3,en3,rx,l8 g (fun ρ2 q σ2 en2=>?_) h⟩;refine⟨as2,ρ2,S2,ok3,en2,mt _ _ _ _ (fun b S4 q as4 H4 g4 ok4=>?_) q⟩;obtain⟨d4,n4⟩:=g4.keep D _ d3 n3;have rs4:=RlAll.mono g4.pre (g4.ku ok3) ys vs rs3;refine i7 (fun q=>?_) (fun q=>?_) q
  ·refine⟨as4,ρ2,S4,ok4,en2.mono g4.pre (g4.ku ok3),mi2 _ _ _ _ (fun keep2 xs2 S5 q as5 H5 J2 g5 ok5 W2=>?_) q⟩;obtain⟨d5,n5⟩:=g5.keep D _ d4 n4;have rs5:=RlAll.mono g5.pre (g5.ku ok4) ys vs rs4;have en5:=(en2.mono g4.pre (g4.ku ok3)).mono g5.pre (g5.ku ok4);have G5:=((g2.trans g3).trans g4).trans g5
   refine⟨fun i' m zs σ' H'=>m=xs2.length - i'/\i'<=xs2.length/\∃ as6 S6 ws ρ6,Go as1 H1 as6 H'/\Gu as5 H5 as6 H'/\Ok K as6 H' S6/\D∉as6/\H' D=some (.lst zs)/\RlAll K as6 H' zs ws/\EnvOk K as6 H' σ' ρ6/\
    m9 keep2 _ t2 e (fun ys' S3=>l7 keep g t _ i2 t2 e (Bz k js ρ) (fun ys S2=>Post K as H Q (.loc S2.length) (S2++[.lst ys])) (xs.drop (i+1)) ys' S3) (xs2.drop i') ρ6 ws S6,⟨xs2.length,by simp,U7 _,as5,S5,ys,ρ2,G5,⟨Te _,KeepU.refl _⟩,ok5,n5,d5,rs5,en5,q⟩,?_⟩
   rintro i' m zs σ' H6 ⟨rfl,hi',as6,S6,ws,ρ6,G6,u6,ok6,n6,d6,rs6,en6,h⟩;by_cases hlt':i'<xs2.length
   ·right;rw[U5 hlt']at h;unfold m9 at h;obtain⟨kp,h⟩:=h;obtain⟨w1,_⟩:=W2 as6 H6 S6 u6 ok6 kp;obtain⟨go,yl⟩:=w1 i' xs2[i'] (Sj hlt')
    refine⟨go,fun zs' σ' H'=>∃ as6 S6 ws ρ6,Go as1 H1 as6 H'/\Gu as5 H5 as6 H'/\Ok K as6 H' S6/\D∉as6/\H' D=some (.lst zs')/\RlAll K as6 H' zs' ws/\EnvOk K as6 H' σ' ρ6/\
     m9 keep2 _ t2 e (fun ys' S3=>l7 keep g t _ i2 t2 e (Bz k js ρ) (fun ys S2=>Post K as H Q (.loc S2.length) (S2++[.lst ys])) (xs.drop (i+1)) ys' S3) (xs2.drop (i'+1)) ρ6 ws S6,fun zs' σ' H' z=>⟨xs2.length - (i'+1),by omega,rfl,hlt',z⟩,fun x H7 y7=>?_⟩
    obtain⟨g7,ok7,rx⟩:=yl x H7 y7;have en7:=en6.mono g7.pre (g7.ku ok6);have rs7:=RlAll.mono g7.pre (g7.ku ok6) ws zs rs6;obtain⟨d7,n7⟩:=g7.keep D _ d6 n6;refine⟨as6,ρ6,S6,_,ok7,en7,rx,l8 _ (fun ρ8 q σ8 en8=>?_) h⟩;refine⟨as6,ρ8,S6,ok7,en8,mt2 _ _ _ _ (fun b S9 q as9 H9 g9 ok9=>?_) q⟩;obtain⟨d9,n9⟩:=g9.keep D _ d7 n7;have rs9:=RlAll.mono g9.pre (g9.ku ok7) ws zs rs7;have en9:=en8.mono g9.pre (g9.ku ok7);have u9:Gu as5 H5 as9 H9:=⟨(u6.pre.trans g7.pre).trans g9.pre,(u6.kp.trans (g7.ku ok6)).trans (g9.ku ok7)⟩
    refine i7 (fun q=>?_) (fun q=>?_) q
    ·refine⟨as9,ρ8,S9,ok9,en9,me _ _ _ _ (fun y Sa q asa Ha v ga oka rv=>?_) q⟩;obtain⟨da,na⟩:=ga.keep D _ d9 n9;have rsa:=RlAll.mono ga.pre (ga.ku ok9) ws zs rs9;have kd:KeepU Ha (upd Ha D (.lst (zs++[v]))):=Bb da rfl;refine⟨da,by rw[rs6.length];exact EM q.1,asa,Sa,ws++[y],ρ8,?_,⟨u9.pre.trans ga.pre,(u9.kp.trans (ga.ku ok9)).trans kd⟩,oka.other da na,na,n8,RlAll.mono (Te _) kd _ _ (rsa.append (.cons rv .nil)),(en9.mono ga.pre (ga.ku ok9)).mono (Te _) kd,q.2⟩;have Ga:=((G6.trans g7).trans g9).trans ga;refine⟨Ga.pre,fun b o hb nb=>?_⟩;obtain⟨z1,z2⟩:=Ga.keep b o hb nb;exact⟨by rw[upd_ne (f6 hb hD)];exact z1,z2⟩
    ·exact⟨as9,S9,ws,ρ8,(G6.trans g7).trans g9,u9,ok9,n9,d9,rs9,en9,q⟩
   ·left;have hi2:i'=xs2.length:=by omega
    subst hi2;rw[Ua]at h;unfold m9 at h;obtain⟨kp,h⟩:=h;obtain⟨_,w2⟩:=W2 as6 H6 S6 u6 ok6 kp;exact⟨w2,as6,S6,ws,G6,ok6,n6,d6,rs6,h⟩
  ·exact⟨as4,S4,ys,(g2.trans g3).trans g4,ok4,n4,d4,rs4,q⟩
 ·left;have hi':i=xs.length:=by omega
  subst hi';rw[Ua]at h;unfold l7 at h;obtain⟨kp,h⟩:=h;obtain⟨_,w2⟩:=W as2 H2 S2 (g2.gu ok1) ok2 kp;refine⟨w2,h (as2++[D]) H2 (.ref D) ?_ (ok2.adopt n2 d2 rs) (rl_loc.mpr ⟨D,by rw[<-ok2.len,TX],rfl⟩)⟩;refine⟨(g1.pre.trans g2.pre).trans (Uc _ _),fun b o hb nb=>?_⟩;obtain⟨h1,n1⟩:=g1.keep b o hb nb;obtain⟨h2,n2'⟩:=g2.keep b o h1 n1;refine⟨h2,?_⟩;rw[TQ,TH];rintro(z | z)
  ·exact n2' z
  ·exact f6 h1 hD z
theorem Jb(ns:List Int)(i:Int):CY (ns++[i])=PyProof.Rows.step_dedup (CY ns) i:=by
 unfold CY;rw[Sl,U8,PyProof.Rows.firstMet_succ];have e1:(ns++[i]).getD ns.length 0=i:=by simp
 have e2:PyProof.Rows.firstMet (fun j=>(ns++[i]).getD j 0) ns.length=PyProof.Rows.firstMet (fun j=>ns.getD j 0) ns.length:=by
  unfold PyProof.Rows.firstMet
  congr 1
  refine List.map_congr_left fun j hj=>?_;have hj:=TY.mp hj;simp[T9 hj]
 rw[e1,e2]
theorem FZ{scope sc:Scope}{x:Str}(h:scope.names.lookup x=some .local):(Au scope sc).names.lookup x=some .local:=by
 have go:∀ l:List (Str×NameKind),l.lookup x=some .local->(l.map fun(n,k)=>if (k == .free&&sc.kind == .function&&sc.names.lookup n == some .cell) then (n,.cell) else (n,k)).lookup x=some .local:=by
  intro l
  induction l with
  | nil=>intro h;cases h
  | cons a r ih=>
    obtain⟨n,k⟩:=a;intro h;rw[UH]at h;rw[To];cases hb:x == n with
    | true=>
      rw[hb]at h;have:k = .local:=oj h;subst this;show Vj x ((n,NameKind.local)::_)=_;rw[UH,hb]
    | false=>
      rw[hb]at h
      have e:∀ k',Vj x ((n,k')::(r.map fun(n,k)=>if (k == .free&&sc.kind == .function&&sc.names.lookup n == some .cell) then (n,.cell) else (n,k)))=some .local:=fun k'=>by
       rw[UH,hb];exact ih h
      show Vj x ((if (k == .free&&sc.kind == .function&&sc.names.lookup n == some .cell)=true then (n,NameKind.cell) else (n,k))::_)=_;split<;>exact e _
 exact go _ h
theorem Cok.comp{T:List Str}{Δ:Nat->Sn}{X:Cx}{k:Nat}{N:List Str}{sc scope:Scope}{own cn:List Str}{js:List Nat}(C:Cok T Δ X k N sc)(hok:m4 sc scope own cn N js=true)(s2:Shared)(H2:Hp)(cs:List (Str×Addr))(A:Addr)(fp:List Addr):Cok T Δ (c8 X scope (own++cn) s2 H2 cs A fp) own.length (own++cn) (Au scope sc) where
 hN:=rfl
 hs:=by rw[<-C.hs];rfl
 nd:=by
  unfold m4 at hok;simp only[Si,decide_eq_true_eq]at hok;exact hok.1.2
 calm:=C.calm
 fn:=fun i x hi hx hc=>by
  unfold m4 at hok;simp only[Si,decide_eq_true_eq,TK,Tj]at hok
  have hm:x∈own:=by
   rw[T9 hi]at hx;exact Sm hx
  show(scope.names.lookup x == some .cell)=true;rcases hok.1.1.1.2 x hm with h | h
  ·rw[FZ h]at hc;cases hc
  ·rw[h];rfl
 un:=C.un
 bl:=C.bl
 rng:=C.rng
 enm:=C.enm
 zip:=C.zip
 st0:=C.st0
 dc0:=C.dc0
 ty:=C.ty
 gd:=C.gd
 call:=C.call
 mono:=C.mono
theorem m5{r:Expr}(h:j7 r=true){env:Env}:∀ x,foldedSetIterable r env x=pure x:=fun x=>by cases r<;>first | rfl | cases h
theorem Bg{T N:List Str}{sc:Scope}:∀{es:Exs} {rs:List Expr},Av T N sc es rs=true->rs.all f7=true
 | .nil,rs,h=>by unfold Av at h;rw[Tz]at h;subst h;rfl
 | .cons e es,rs,h=>by
   unfold Av at h;replace h:=a7 h;obtain⟨x,hx,h⟩:=h;simp only[Si]at h;rw[Ad hx,UB,h.1.2,Bg h.2];rfl
theorem QA{X:Cx}{i:Nat}{x:Str}{p:Pos}{N:List Str}{sc:Scope}{T:List Str}{Δ:Nat->Sn}{k:Nat}(C:Cok T Δ X k N sc)(h:nmB N sc i x=true):PE X (.Name x p) (MQ i):=by
 unfold nmB at h;simp only[Si,decide_eq_true_eq,Ta]at h;exact Q3 C h.1.1.1 h.1.1.2 h.1.2 h.2
theorem IK{α:Type}{l:List α}(h:(!l.isEmpty)=true):∃ y ys,l=y::ys:=by
 cases l with
 | nil=>cases h
 | cons y ys=>exact⟨y,ys,rfl⟩
theorem QB{X:Cx}{c:Expr}{a:WE×WT}(h:Good X c a):B4 X [c] (liftT X.K a.2):=KL h.pt
theorem Lm{X:Cx}:B4 X [] (liftT X.K RZ):=fun pins s σ H Q I hw=>KK pins s σ H Q I (let ⟨as,ρ,S,ok,en,h⟩:=hw;h as H (Go.refl _ _) ok)
theorem HE{T:List Str}{Δ:Nat->Sn}{X:Cx}{k:Nat}{N:List Str}{sc scope:Scope}{own cn:List Str}{js:List Nat}{tg ri re:Expr}{ifs:List Expr}{p:Pos}{g:Tg}{i:WI}{t:WT}{e:WE×WT}(C:Cok T Δ X k N sc)(hok:m4 sc scope own cn N js=true)(hi:GoodI X tg ri i)
 (hg:∀ s2 H2 cs A fp,PG (c8 X scope (own++cn) s2 H2 cs A fp) tg (BB X.K g)) (ht:∀ s2 H2 cs A fp,B4 (c8 X scope (own++cn) s2 H2 cs A fp) ifs (liftT X.K t)) (mt:MonoT t) (he:∀ s2 H2 cs A fp,PE (c8 X scope (own++cn) s2 H2 cs A fp) re (lift X.K e.1)) (me:Mono e.1) (hn:j7 ri=true):
 Good X (.ListComp re [⟨tg,ri,ifs,0⟩] scope p) (tt1 (Hx own.length js g i t e.1)):=
 .one (f9 _ (Mj own cn js hi.pi hg ht he C.calm (by rw[C.hs,C.hN];exact hok) (m5 hn)) (FY hi.m mt me)) (.comp hi.m mt me) rfl
theorem Fa{T:List Str}{Δ:Nat->Sn}{X:Cx}{k:Nat}{N:List Str}{sc scope:Scope}{own cn:List Str}{js:List Nat}{tg ri re tg2 ri2:Expr}{ifs ifs2:List Expr}{p:Pos}{g g2:Tg}{i i2:WI}{t t2:WT}{e:WE×WT}(C:Cok T Δ X k N sc)(hok:m4 sc scope own cn N js=true)(hi:GoodI X tg ri i)
 (hg:∀ s2 H2 cs A fp,PG (c8 X scope (own++cn) s2 H2 cs A fp) tg (BB X.K g)) (ht:∀ s2 H2 cs A fp,B4 (c8 X scope (own++cn) s2 H2 cs A fp) ifs (liftT X.K t)) (mt:MonoT t) (hi2:∀ s2 H2 cs A fp,PI (c8 X scope (own++cn) s2 H2 cs A fp) tg2 ri2 (liftI X.K i2)) (mi2:MonoI i2)
 (hg2:∀ s2 H2 cs A fp,PG (c8 X scope (own++cn) s2 H2 cs A fp) tg2 (BB X.K g2)) (ht2:∀ s2 H2 cs A fp,B4 (c8 X scope (own++cn) s2 H2 cs A fp) ifs2 (liftT X.K t2)) (mt2:MonoT t2) (he:∀ s2 H2 cs A fp,PE (c8 X scope (own++cn) s2 H2 cs A fp) re (lift X.K e.1)) (me:Mono e.1) (hn:j7 ri=true) (hn2:j7 ri2=true):
 Good X (.ListComp re [⟨tg,ri,ifs,0⟩,⟨tg2,ri2,ifs2,0⟩] scope p) (tt1 (EX own.length js g i t g2 i2 t2 e.1)):=
 .one (f9 _ (Ll own cn js hi.pi hg ht hi2 hg2 ht2 he (fun _ _ _ _ _=>m5 hn2) C.calm (by rw[C.hs,C.hN];exact hok) (m5 hn)) (E3 hi.m mt mi2 mt2 me)) (.comp2 hi.m mt mi2 mt2 me) rfl
mutual
theorem c6{T:List Str}{Δ:Nat->Sn}:∀(e:Ex) (r:Expr) {X:Cx} {k:Nat} {N:List Str} {sc:Scope},Cok T Δ X k N sc->i8 T N sc e r=true->Good X r (wEx Δ e)
 | .var i,r,X,k,N,sc,C,h=>by
   replace h:=a7 h;obtain⟨x,hx,h⟩:=h;obtain⟨p,rfl⟩:=CC hx;exact .one (f9 _ (QA C h) N5) .var rfl
 | .c x,r,X,k,N,sc,C,h=>by
   replace h:=a7 h;obtain⟨x,hx,h⟩:=h;obtain⟨j,p,rfl⟩:=Cb hx;exact NT h
 | .op o a b,r,X,k,N,sc,C,h=>by
   replace h:=a7 h;obtain⟨v,hv,h⟩:=h;obtain⟨p,rfl⟩:=NP hv;simp only[Si,decide_eq_true_eq]at h;have ga:=c6 a _ C h.1.2;have gb:=c6 b _ C h.2;rw[<-h.1.1];exact .one (LU ga.pe gb.pe ga.m gb.m) (.two Hz ga.m gb.m) rfl
 | .neg a,r,X,k,N,sc,C,h=>by
   replace h:=a7 h;obtain⟨v,hv,h⟩:=h;obtain⟨p,rfl⟩:=Gh hv;simp only[Si,decide_eq_true_eq]at h;rw[h.1];exact JP (c6 a _ C h.2)
 | .cmp o a b,r,X,k,N,sc,C,h=>by
   replace h:=a7 h;obtain⟨v,hv,h⟩:=h;replace h:=a7 h;obtain⟨rb,hb,h⟩:=h;obtain⟨p,rfl⟩:=CD hv;simp only[Si,decide_eq_true_eq]at h;obtain⟨⟨⟨h0,h1⟩,h2⟩,h3⟩:=h;rw[h0,AL hb];have ga:=c6 a _ C h1;have gb:=c6 b _ C h2;have:=C.un;exact JK (by omega) ga.pe gb.pe ga.m gb.m h3
 | .chn o p a b c,r,X,k,N,sc,C,h=>by
   replace h:=a7 h;obtain⟨v,hv,h⟩:=h;replace h:=a7 h;obtain⟨rs,hb,h⟩:=h;obtain⟨p,rfl⟩:=CD hv;simp only[Si,decide_eq_true_eq]at h;obtain⟨⟨⟨⟨h0,h1⟩,h2⟩,h3⟩,h4⟩:=h;rw[h0,LN hb];have ga:=c6 a _ C h1;have gb:=c6 b _ C h2;have gc:=c6 c _ C h3;have:=C.un;exact JL (by omega) ga.pe gb.pe gc.pe ga.m gb.m gc.m h4
 | .and a b,r,X,k,N,sc,C,h=>by
   replace h:=a7 h;obtain⟨v,hv,h⟩:=h;have e:=FH hv;subst e;rw[Si,decide_eq_true_eq]at h;obtain⟨h0,h⟩:=h;replace h:=a7 h;obtain⟨x,hx,h⟩:=h;rw[Si]at h;have ga:=c6 a _ C h.1;rw[h0,Ad hx];have h2:=h.2;generalize v.2.1.tail=tl at h2;cases hl:l1 tl with
   | some y=>
     rw[hl]at h2;rw[AL hl];exact Gi ga (c6 b _ C h2)
   | none=>
     rw[hl]at h2;rw[Si,decide_eq_true_eq]at h2;have gb:=c6 b _ C h2.2
     match tl,h2,gb with
     | y::z::zs,h2,gb=>exact Gj ga gb
     | [],h2,_=>exact absurd h2.1 (by simp)
     | [_],h2,_=>exact absurd h2.1 (by simp)
 | .or a b,r,X,k,N,sc,C,h=>by
   replace h:=a7 h;obtain⟨v,hv,h⟩:=h;have e:=FH hv;subst e;rw[Si,decide_eq_true_eq]at h;obtain⟨h0,h⟩:=h;replace h:=a7 h;obtain⟨x,hx,h⟩:=h;rw[Si]at h;have ga:=c6 a _ C h.1;rw[h0,Ad hx];have h2:=h.2;generalize v.2.1.tail=tl at h2;cases hl:l1 tl with
   | some y=>
     rw[hl]at h2;rw[AL hl];exact JM ga (c6 b _ C h2)
   | none=>
     rw[hl]at h2;rw[Si,decide_eq_true_eq]at h2;have gb:=c6 b _ C h2.2
     match tl,h2,gb with
     | y::z::zs,h2,gb=>exact JN ga gb
     | [],h2,_=>exact absurd h2.1 (by simp)
     | [_],h2,_=>exact absurd h2.1 (by simp)
 | .not a,r,X,k,N,sc,C,h=>by
   replace h:=a7 h;obtain⟨v,hv,h⟩:=h;obtain⟨p,rfl⟩:=Gh hv;simp only[Si,decide_eq_true_eq]at h;rw[h.1];exact JO (c6 a _ C h.2)
 | .tup es,r,X,k,N,sc,C,h=>by
   replace h:=a7 h;obtain⟨v,hv,h⟩:=h;obtain⟨j,p,rfl⟩:=D1 hv;exact JS (AT es _ C h)
 | .lst es,r,X,k,N,sc,C,h=>by
   replace h:=a7 h;obtain⟨v,hv,h⟩:=h;obtain⟨p,rfl⟩:=NQ hv;exact JT (AT es _ C h)
 | .ix a b,r,X,k,N,sc,C,h=>by
   replace h:=a7 h;obtain⟨v,hv,h⟩:=h;obtain⟨p,rfl⟩:=D2 hv;simp only[Si]at h;exact LX (c6 a _ C h.1.1) (c6 b _ C h.1.2) h.2
 | .slc a lo hi,r,X,k,N,sc,C,h=>by
   replace h:=a7 h;obtain⟨v,hv,h⟩:=h;replace h:=a7 h;obtain⟨w,hw,h⟩:=h;obtain⟨p,rfl⟩:=D2 hv;obtain⟨p2,ew⟩:=Hy hw;simp only[Si]at h;have hl:=Fb lo _ C h.1.1.2;have hh:=Fb hi _ C h.1.2;rw[ew,Ug.mp h.2];exact JQ (c6 a _ C h.1.1.1) hl.1 hh.1 hl.2 hh.2
 | .call f es,r,X,k,N,sc,C,h=>by
   replace h:=a7 h;obtain⟨v,hv,h⟩:=h;obtain⟨p,q,rfl⟩:=B7 hv;simp only[Si,decide_eq_true_eq]at h;obtain⟨⟨⟨h1,h2⟩,h3⟩,h4⟩:=h;obtain⟨y,ys,e⟩:=IK h4;have st:=Bg h3;have g:=AT es _ C h3;rw[e]at st g ⊢;rw[UB,Si]at st;exact Gp C h1 h2 g st.1 st.2
 | .bi b es,r,X,k,N,sc,C,h=>by
   replace h:=a7 h;obtain⟨v,hv,h⟩:=h;obtain⟨p,q,rfl⟩:=B7 hv;simp only[Si,decide_eq_true_eq]at h;obtain⟨⟨⟨h1,h2⟩,h3⟩,h4⟩:=h;obtain⟨y,ys,e⟩:=IK h4;have st:=Bg h3;have g:=AT es _ C h3;rw[e]at st g ⊢;rw[UB,Si]at st;rw[<-h1]at h2 ⊢;exact LZ C h2 g st.1 st.2
 | .mt m a es,r,X,k,N,sc,C,h=>by
   replace h:=a7 h;obtain⟨v,hv,h⟩:=h;obtain⟨ap,cp,rfl,hl⟩:=Q1 hv;simp only[Si,decide_eq_true_eq]at h;obtain⟨⟨⟨⟨h0,h1⟩,h3⟩,h4⟩,h5⟩:=h;have st:=Bg h5;have ga:=c6 a _ C h4;have gs:=AT es _ C h5;rw[h0];generalize v.2.2=args at h3 h5 st gs ⊢;cases args with
   | nil=>
     cases es with
     | nil=>exact JU ga h1 hl
     | cons _ _=>rw[Av]at h5;cases h5
   | cons y ys=>
     rw[UB,Si]at st;exact Lb ga gs h1 hl h3 st.1 st.2
 | .comp own cn js g it t e,r,X,k,N,sc,C,h=>by
   replace h:=a7 h;obtain⟨v,hv,h⟩:=h;replace h:=a7 h;obtain⟨c,hc,h⟩:=h;obtain⟨p,rfl⟩:=CF hv;simp only[Si,decide_eq_true_eq]at h;obtain⟨⟨⟨⟨⟨⟨h0,h1⟩,h2⟩,h3⟩,h4⟩,h5⟩,h6⟩:=h;have hI:=AE it _ _ C h3;have hT:=fun s2 H2 cs A fp=>Aw t _ (C.comp h1 s2 H2 cs A fp) h5;have hE:=fun s2 H2 cs A fp=>c6 e _ (C.comp h1 s2 H2 cs A fp) h6;rw[AL hc];obtain⟨tg,ri,ifs,az⟩:=c;have h0:az=0:=h0;subst h0;exact HE C h1 hI (fun s2 H2 cs A fp=>A8 (C.comp h1 s2 H2 cs A fp) g _ h2) (fun s2 H2 cs A fp=>(hT s2 H2 cs A fp).1) (hT X.s₀ X.H₀ [] 0 []).2 (fun s2 H2 cs A fp=>(hE s2 H2 cs A fp).pe) (hE X.s₀ X.H₀ [] 0 []).m h4
 | .comp2 own cn js g it t g2 it2 t2 e,r,X,k,N,sc,C,h=>by
   replace h:=a7 h;obtain⟨v,hv,h⟩:=h;replace h:=a7 h;obtain⟨c,hc,h⟩:=h;obtain⟨p,rfl⟩:=CF hv;simp only[Si,decide_eq_true_eq]at h;obtain⟨⟨⟨⟨⟨⟨⟨⟨⟨⟨⟨h0,h0'⟩,h1⟩,h2⟩,h3⟩,h4⟩,h5⟩,h6⟩,h7⟩,h8⟩,h9⟩,ha⟩:=h;have hI:=AE it _ _ C h3;have hT:=fun s2 H2 cs A fp=>Aw t _ (C.comp h1 s2 H2 cs A fp) h5;have hI2:=fun s2 H2 cs A fp=>AE it2 _ _ (C.comp h1 s2 H2 cs A fp) h7;have hT2:=fun s2 H2 cs A fp=>Aw t2 _ (C.comp h1 s2 H2 cs A fp) h9;have hE:=fun s2 H2 cs A fp=>c6 e _ (C.comp h1 s2 H2 cs A fp) ha;rw[LN hc];obtain⟨⟨tg,ri,ifs,az⟩,⟨tg2,ri2,ifs2,az2⟩⟩:=c;have h0:az=0:=h0;have h0':az2=0:=h0';subst h0;subst h0';exact Fa C h1 hI (fun s2 H2 cs A fp=>A8 (C.comp h1 s2 H2 cs A fp) g _ h2) (fun s2 H2 cs A fp=>(hT s2 H2 cs A fp).1) (hT X.s₀ X.H₀ [] 0 []).2 (fun s2 H2 cs A fp=>(hI2 s2 H2 cs A fp).pi) (hI2 X.s₀ X.H₀ [] 0 []).m (fun s2 H2 cs A fp=>A8 (C.comp h1 s2 H2 cs A fp) g2 _ h6) (fun s2 H2 cs A fp=>(hT2 s2 H2 cs A fp).1) (hT2 X.s₀ X.H₀ [] 0 []).2 (fun s2 H2 cs A fp=>(hE s2 H2 cs A fp).pe) (hE X.s₀ X.H₀ [] 0 []).m h4 h8
 | .tyc t,r,X,k,N,sc,C,h=>by
   replace h:=a7 h;obtain⟨x,hx,h⟩:=h;obtain⟨p,rfl⟩:=CC hx;simp only[Si,decide_eq_true_eq]at h;obtain⟨⟨rfl,h1⟩,h2⟩:=h;exact JV C h1 h2
 | .lrng1 a,r,X,k,N,sc,C,h=>by
   replace h:=a7 h;obtain⟨v,hv,h⟩:=h;replace h:=a7 h;obtain⟨z,hz,h⟩:=h;replace h:=a7 h;obtain⟨u,hu,h⟩:=h;replace h:=a7 h;obtain⟨ra,hra,h⟩:=h;obtain⟨p,q,rfl⟩:=B7 hv;obtain⟨p2,q2,rfl⟩:=B7 hu;simp only[Si,decide_eq_true_eq]at h;obtain⟨⟨⟨⟨⟨e1,e2⟩,h1⟩,h2⟩,h3⟩,h4⟩:=h;rw[AL hz,AL hra,e1,e2];rw[e1]at h1;rw[e2]at h2;exact FN C h1 h2 (c6 a _ C h3) h4
 | .rev a,r,X,k,N,sc,C,h=>by
   replace h:=a7 h;obtain⟨v,hv,h⟩:=h;replace h:=a7 h;obtain⟨w,hw,h⟩:=h;obtain⟨p,rfl⟩:=D2 hv;obtain⟨p2,ew⟩:=Hy hw;rw[Si,Si]at h;obtain⟨⟨n1,n2⟩,h⟩:=h;replace h:=a7 h;obtain⟨st,hst,h⟩:=h;replace h:=a7 h;obtain⟨u,hu,h⟩:=h;obtain⟨p3,rfl⟩:=Gh hu;rw[Si,decide_eq_true_eq]at h;obtain⟨e1,h⟩:=h;replace h:=a7 h;obtain⟨c,hc,h⟩:=h;obtain⟨j,p4,ec⟩:=Cb hc;rw[Si,decide_eq_true_eq]at h;rw[ew,Ug.mp n1,Ug.mp n2,hst,e1,ec,h.1];exact JW (c6 a _ C h.2)
 | .srtset a,r,X,k,N,sc,C,h=>by
   replace h:=a7 h;obtain⟨v,hv,h⟩:=h;replace h:=a7 h;obtain⟨z,hz,h⟩:=h;replace h:=a7 h;obtain⟨u,hu,h⟩:=h;replace h:=a7 h;obtain⟨ra,hra,h⟩:=h;obtain⟨p,q,rfl⟩:=B7 hv;obtain⟨p2,q2,rfl⟩:=B7 hu;simp only[Si,decide_eq_true_eq]at h;obtain⟨⟨⟨⟨⟨e1,e2⟩,h1⟩,h2⟩,h3⟩,h4⟩:=h;rw[e1]at h1;rw[e2]at h2;rw[AL hz,AL hra,e1,e2];exact Ea C h1 h2 (c6 a _ C h3) h4
 | .nell a b,r,X,k,N,sc,C,h=>by
   replace h:=a7 h;obtain⟨v,hv,h⟩:=h;replace h:=a7 h;obtain⟨rb,hb,h⟩:=h;obtain⟨p,rfl⟩:=CD hv;simp only[Si,decide_eq_true_eq]at h;obtain⟨⟨⟨h0,h1⟩,h2⟩,h3⟩:=h;rw[h0,AL hb];have ga:=c6 a _ C h1;have gb:=c6 b _ C h2;have:=C.un;exact Gr (by omega) ga.pe gb.pe ga.m gb.m h3
 | .eqtl a b,r,X,k,N,sc,C,h=>by
   replace h:=a7 h;obtain⟨v,hv,h⟩:=h;replace h:=a7 h;obtain⟨rb,hb,h⟩:=h;obtain⟨p,rfl⟩:=CD hv;simp only[Si,decide_eq_true_eq]at h;obtain⟨⟨⟨h0,h1⟩,h2⟩,h3⟩:=h;rw[h0,AL hb];have ga:=c6 a _ C h1;have gb:=c6 b _ C h2;have:=C.un;exact Gv (by omega) ga.pe gb.pe ga.m gb.m h3
 | .eqt0 a b,r,X,k,N,sc,C,h=>by
   replace h:=a7 h;obtain⟨v,hv,h⟩:=h;replace h:=a7 h;obtain⟨rb,hb,h⟩:=h;obtain⟨p,rfl⟩:=CD hv;simp only[Si,decide_eq_true_eq]at h;obtain⟨⟨⟨h0,h1⟩,h2⟩,h3⟩:=h;rw[h0,AL hb];have ga:=c6 a _ C h1;have gb:=c6 b _ C h2;have:=C.un;exact Gx (by omega) ga.pe gb.pe ga.m gb.m h3
 | .no,r,X,k,N,sc,C,h => .never
theorem AT{T:List Str}{Δ:Nat->Sn}:∀(es:Exs) (rs:List Expr) {X:Cx} {k:Nat} {N:List Str} {sc:Scope},Cok T Δ X k N sc->Av T N sc es rs=true->GoodA X rs (FE Δ es)
 | .nil,rs,X,k,N,sc,C,h=>by
   rw[Av,Tz]at h;subst h;exact JR
 | .cons e es,rs,X,k,N,sc,C,h=>by
   rw[Av]at h;replace h:=a7 h;obtain⟨x,hx,h⟩:=h;simp only[Si]at h;rw[Ad hx];exact Gn (c6 e _ C h.1.1) (AT es _ C h.2) h.1.2
theorem Fb{T:List Str}{Δ:Nat->Sn}:∀(o:Eo) (r:Option Expr) {X:Cx} {k:Nat} {N:List Str} {sc:Scope},Cok T Δ X k N sc->LO T N sc o r=true->PO X r (FM X.K (wEo Δ o).1)/\MonoO (wEo Δ o).1
 | .no,r,X,k,N,sc,C,h=>by
   rw[LO]at h;rw[Ug.mp h];exact⟨Rg,.no⟩
 | .yes e,r,X,k,N,sc,C,h=>by
   rw[LO]at h;replace h:=a7 h;obtain⟨x,hx,h⟩:=h;subst hx;exact⟨Q4 (c6 e _ C h),.yes (c6 e _ C h).m⟩
theorem Aw{T:List Str}{Δ:Nat->Sn}:∀(o:Eo) (rs:List Expr) {X:Cx} {k:Nat} {N:List Str} {sc:Scope},Cok T Δ X k N sc->CG T N sc o rs=true->B4 X rs (liftT X.K (wEo Δ o).2)/\MonoT (wEo Δ o).2
 | .no,rs,X,k,N,sc,C,h=>by
   rw[CG,Tz]at h;subst h;exact⟨Lm,fun _ _ _ _ i q=>i _ _ q⟩
 | .yes e,rs,X,k,N,sc,C,h=>by
   rw[CG]at h;replace h:=a7 h;obtain⟨x,hx,h⟩:=h;rw[AL hx];exact⟨QB (c6 e _ C h),(c6 e _ C h).mt⟩
theorem AE{T:List Str}{Δ:Nat->Sn}:∀(it:Itb) (tg r:Expr) {X:Cx} {k:Nat} {N:List Str} {sc:Scope},Cok T Δ X k N sc->FJ T N sc it tg r=true->GoodI X tg r (Gf Δ it)
 | .seq e,tg,r,X,k,N,sc,C,h=>by
   exact JY (c6 e _ C h)
 | .rng1 a,tg,r,X,k,N,sc,C,h=>by
   replace h:=a7 h;obtain⟨v,hv,h⟩:=h;replace h:=a7 h;obtain⟨ra,hra,h⟩:=h;obtain⟨p,q,rfl⟩:=B7 hv;simp only[Si,decide_eq_true_eq]at h;obtain⟨⟨⟨e1,h1⟩,h2⟩,h3⟩:=h;rw[e1]at h1;rw[AL hra,e1];exact HB C h1 (c6 a _ C h2) h3
 | .enum e,tg,r,X,k,N,sc,C,h=>by
   replace h:((JJ tg).isSome&&(vFn r).any fun v=>(l1 v.2).any fun a=>decide (v.1=("enumerate":Str))&&glo sc v.1&&i8 T N sc e a&&f7 a)=true:=h;rw[Si]at h;obtain⟨ht,h⟩:=h;obtain⟨es,he⟩:=UQ.mp ht;obtain⟨j,tp,rfl⟩:=D1 he;replace h:=a7 h;obtain⟨v,hv,h⟩:=h;replace h:=a7 h;obtain⟨ra,hra,h⟩:=h;obtain⟨p,q,rfl⟩:=B7 hv;simp only[Si,decide_eq_true_eq]at h;obtain⟨⟨⟨e1,h1⟩,h2⟩,h3⟩:=h;rw[e1]at h1;rw[AL hra,e1];exact HA C h1 (c6 e _ C h2) h3
 | .rngT a b,tg,r,X,k,N,sc,C,h=>by
   replace h:=a7 h;obtain⟨v,hv,h⟩:=h;replace h:=a7 h;obtain⟨ra,hra,h⟩:=h;replace h:=a7 h;obtain⟨c,hc,h⟩:=h;obtain⟨p,q,rfl⟩:=B7 hv;obtain⟨j3,p3,e3⟩:=Cb hc;simp only[Si,decide_eq_true_eq]at h;obtain⟨⟨⟨⟨⟨⟨e1,h1⟩,h2⟩,h3⟩,h4⟩,h5⟩,h6⟩:=h;rw[e1]at h1;rw[Rc hra,e1,e3,h6];exact HC C h1 (c6 a _ C h2) (c6 b _ C h4) h3 h5
end
open PySem L2
noncomputable def Cd:Expr->Option Scope
 | .ListComp _ _ s _=>some s
 | .SetComp _ _ s _=>some s
 | .DictComp _ _ _ s _=>some s
 | _=>none
noncomputable def DP(sc:Scope)(e:Expr)(x:Str)(px:Pos):Bool:=match Cd e with
 | none=>false
 | some s=>sc.names.lookup x == some .local&&px.line == e.pos.line&&!(s.names.any fun(n,k)=>n == x&&(k == .local||k == .cell))
theorem Ed{env:Env}{e:Expr}{x:Str}{px:Pos}{l:Nat}(hk:env.scope.kind = .function):swapsWith e (some (.Name x px)) l env=pure (DP env.scope e x px):=by
 have hb:env.blockKind = .function:=by unfold Env.blockKind;rw[hk];rfl
 unfold swapsWith DP Cd
 cases e<;>first
  | rfl
  | (show(pure _:Sem Bool)=_;rw[hb];rfl)
noncomputable def Ln:Expr->Bool
 | .Tuple ..=>false
 | _=>true
noncomputable def HF:Expr->Option (Str×Pos)
 | .Name x p=>some (x,p)
 | _=>none
theorem Jc{r:Expr}{x:Str×Pos}(h:HF r=some x):r = .Name x.1 x.2:=by cases r<;>first | (cases h;rfl) | exact y6 h
noncomputable def QC:Stmt->Option (List Expr×Expr)
 | .Assign ts e _=>some (ts,e)
 | _=>none
noncomputable def Rp:Stmt->Option Expr
 | .Expr e _=>some e
 | _=>none
noncomputable def Rq:Stmt->Option (Expr×List Stmt×List Stmt)
 | .If t a b _=>some (t,a,b)
 | _=>none
noncomputable def Rr:Stmt->Option (Expr×Expr×List Stmt×List Stmt)
 | .For g i b o _=>some (g,i,b,o)
 | _=>none
noncomputable def Rt:Stmt->Option (Expr×List Stmt×List Stmt)
 | .While t b o _=>some (t,b,o)
 | _=>none
noncomputable def Rv:Stmt->Option (Option Expr)
 | .Return e _=>some e
 | _=>none
theorem IL{r:Stmt}{x:List Expr×Expr}(h:QC r=some x):∃ p,r = .Assign x.1 x.2 p:=by cases r<;>first | (cases h;exact⟨_,rfl⟩) | exact y6 h
theorem NZ{r:Stmt}{x:Expr}(h:Rp r=some x):∃ p,r = .Expr x p:=by cases r<;>first | (cases h;exact⟨_,rfl⟩) | exact y6 h
theorem Na{r:Stmt}{x:Expr×List Stmt×List Stmt}(h:Rq r=some x):∃ p,r = .If x.1 x.2.1 x.2.2 p:=by cases r<;>first | (cases h;exact⟨_,rfl⟩) | exact y6 h
theorem Nb{r:Stmt}{x:Expr×Expr×List Stmt×List Stmt}(h:Rr r=some x):∃ p,r = .For x.1 x.2.1 x.2.2.1 x.2.2.2 p:=by cases r<;>first | (cases h;exact⟨_,rfl⟩) | exact y6 h
theorem Nc{r:Stmt}{x:Expr×List Stmt×List Stmt}(h:Rt r=some x):∃ p,r = .While x.1 x.2.1 x.2.2 p:=by cases r<;>first | (cases h;exact⟨_,rfl⟩) | exact y6 h
theorem Nd{r:Stmt}{x:Option Expr}(h:Rv r=some x):∃ p,r = .Return x p:=by cases r<;>first | (cases h;exact⟨_,rfl⟩) | exact y6 h
noncomputable def QD(e:Expr):Bool:=(FG e).any fun v=>(l1 v.2.1).isSome
noncomputable def Lo(e:Expr):Bool:=(FG e).any fun v=>(l2 v.2.1).isSome
noncomputable def Rw(e:Expr):Bool:=false
noncomputable def QF(sc:Scope)(rt re:Expr):Bool:=match HF rt with
 | some x=>!DP sc re x.1 x.2||QD re||Rw re||Lo re
 | none=>(JJ rt).isSome&&Ln re
mutual
noncomputable def Rx(T:List Str)(N:List Str)(sc:Scope):Stm->Stmt->Bool
 | .asg t e,r=>(QC r).any fun v=>(l1 v.1).any fun rt=>AW N.length N sc t rt&&i8 T N sc e v.2&&f7 rt&&QF sc rt v.2
 | .put o i e,r=>(QC r).any fun v=>(l1 v.1).any fun rt=>(LK rt).any fun oi=>i8 T N sc o oi.1&&i8 T N sc i oi.2&&i8 T N sc e v.2&&BO oi.2
 | .expr e,r=>(Rp r).any fun re=>i8 T N sc e re&&(Cd re).isNone
 | .iff t a b,r=>(Rq r).any fun v=>i8 T N sc t v.1&&CI T N sc a v.2.1&&CI T N sc b v.2.2
 | .loop g it b,r=>(Rr r).any fun v=>AW N.length N sc g v.1&&FJ T N sc it v.1 v.2.1&&j7 v.2.1&&CI T N sc b v.2.2.1&&v.2.2.2.isEmpty
 | .whl t b,r=>(Rt r).any fun v=>i8 T N sc t v.1&&CI T N sc b v.2.1&&v.2.2.isEmpty
 | .ret e,r=>(Rv r).any fun o=>o.any fun re=>i8 T N sc e re
 | .no,_=>true
noncomputable def CI(T:List Str)(N:List Str)(sc:Scope):List Stm->List Stmt->Bool
 | [],r=>r.isEmpty
 | s::ss,r=>(r.head?).any fun x=>Rx T N sc s x&&CI T N sc ss r.tail
end
noncomputable def Fc(K:Sh)(as:List Addr)(H:Hp)(D:Ends):EndsS where
 nx:=fun ρ' S'=>∀ as' H' σ',Go as H as' H'->Ok K as' H' S'->EnvOk K as' H' σ' ρ'->D.nx σ' H'
 rt:=Post K as H D.rt
 bk:=fun ρ' S'=>∀ as' H' σ',Go as H as' H'->Ok K as' H' S'->EnvOk K as' H' σ' ρ'->D.bk σ' H'
 ct:=fun ρ' S'=>∀ as' H' σ',Go as H as' H'->Ok K as' H' S'->EnvOk K as' H' σ' ρ'->D.ct σ' H'
noncomputable def liftS(K:Sh)(w:WS):TS:=fun D σ H=>∃ as ρ S,Ok K as H S/\EnvOk K as H σ ρ/\w (Fc K as H D) ρ S
structure Le(D D':EndsS):Prop where
 nx:∀ ρ S,D.nx ρ S->D'.nx ρ S
 rt:∀ x S,D.rt x S->D'.rt x S
 bk:∀ ρ S,D.bk ρ S->D'.bk ρ S
 ct:∀ ρ S,D.ct ρ S->D'.ct ρ S
noncomputable def MonoS(w:WS):Prop:=∀ D D' ρ S,Le D D'->w D ρ S->w D' ρ S
theorem MonoS.go{w:WS}(m:MonoS w){D D':EndsS}{ρ:EnvS}{S:Sto}(h:w D ρ S)(l:Le D D'):w D' ρ S:=m D D' ρ S l h
theorem Le.go{K:Sh}{as as':List Addr}{H H':Hp}{D:Ends}(g:Go as H as' H'):Le (Fc K as H D) (Fc K as' H' D) where
 nx:=fun ρ S h as2 H2 σ2 g2=>h as2 H2 σ2 (g.trans g2)
 rt:=fun x S h=>Post.mono h g
 bk:=fun ρ S h as2 H2 σ2 g2=>h as2 H2 σ2 (g.trans g2)
 ct:=fun ρ S h as2 H2 σ2 g2=>h as2 H2 σ2 (g.trans g2)
structure GoodS(X:Cx)(r:Stmt)(w:WS):Prop where
 ps:PS X r (liftS X.K w)
 m:MonoS w
structure GoodSs(X:Cx)(r:List Stmt)(w:WS):Prop where
 ps:PSs X r (liftS X.K w)
 m:MonoS w
theorem AJ{X:Cx}{st:Stmt}{t:TS}(t':TS)(h:PS X st t)(imp:∀ D σ H,t' D σ H->t D σ H):PS X st t':=fun pins s σ H D I hw=>h pins s σ H D I (imp D σ H hw)
theorem Fd{X:Cx}{st:List Stmt}{t:TS}(t':TS)(h:PSs X st t)(imp:∀ D σ H,t' D σ H->t D σ H):PSs X st t':=fun pins s σ H D I hw=>h pins s σ H D I (imp D σ H hw)
section
variable{X:Cx}
theorem HG:GoodSs X [] (fun D ρ S=>D.nx ρ S):=⟨Fd _ MV fun D σ H ⟨as,ρ,S,ok,en,h⟩=>h as H σ (Go.refl _ _) ok en,fun D D' ρ S l h=>l.nx _ _ h⟩
theorem Fe{s:Stmt}{ss:List Stmt}{w u:WS}(h1:GoodS X s w)(h2:GoodSs X ss u):GoodSs X (s::ss) (fun D ρ S=>w {D with nx:=u D} ρ S) where
 ps:=Fd _ (Jw h1.ps h2.ps) (by
  rintro D σ H ⟨as,ρ,S,ok,en,h⟩;refine⟨as,ρ,S,ok,en,h1.m.go h ⟨fun ρ' S' q as' H' σ' g ok' en'=>?_,fun _ _ h=>h,fun _ _ h=>h,fun _ _ h=>h⟩⟩;exact⟨as',ρ',S',ok',en',h2.m _ _ _ _ (Le.go g) q⟩)
 m:=fun D D' ρ S l h=>h1.m.go (D:={D with nx:=u D}) h ⟨fun ρ' S' q=>h2.m _ _ _ _ l q,l.rt,l.bk,l.ct⟩
theorem Nf{K:Sh}{g:Tg}{w:WE}(m:Mono w):∀ D σ H,liftS K (fun D ρ S=>w ρ S fun x S1=>wTg g x ρ fun ρ'=>D.nx ρ' S1) D σ H->GC (lift K w) (BB K g) D σ H:=by
 rintro D σ H ⟨as,ρ,S,ok,en,h⟩;refine⟨as,ρ,S,ok,en,m _ _ _ _ (fun x S1 q as1 H1 v g1 ok1 rv=>?_) h⟩;exact⟨as1,ρ,S1,x,ok1,en.mono g1.pre (g1.ku ok),rv,l8 g (fun ρ' q σ' en'=>q as1 H1 σ' g1 ok1 en') q⟩
theorem DQ{K:Sh}{i:Nat}{w:WE}(m:Mono w):∀ D σ H,liftS K (fun D ρ S=>w ρ S fun x S1=>wTg (.nm i) x ρ fun ρ'=>D.nx ρ' S1) D σ H->GC (lift K w) (Er i) D σ H:=by
 rintro D σ H ⟨as,ρ,S,ok,en,h⟩;refine⟨as,ρ,S,ok,en,m _ _ _ _ (fun x S1 q as1 H1 v g1 ok1 rv=>?_) h⟩;unfold wTg at q;exact q as1 H1 _ g1 ok1 ((en.mono g1.pre (g1.ku ok)).set rv)
theorem Ff{g:Tg}{w:WE}(m:Mono w):MonoS (fun D ρ S=>w ρ S fun x S1=>wTg g x ρ fun ρ'=>D.nx ρ' S1):=fun D D' ρ S l h=>m _ _ _ _ (fun x S1 q=>l8 g (fun ρ' q=>l.nx _ _ q) q) h
theorem QG{K:Sh}{t:WT}{a b:WS}(mt:MonoT t)(ma:MonoS a)(mb:MonoS b):∀ D σ H,liftS K (fun D ρ S=>t ρ S fun c S1=>if c=true then a D ρ S1 else b D ρ S1) D σ H->Qh (liftT K t) (liftS K a) (liftS K b) D σ H:=by
 rintro D σ H ⟨as,ρ,S,ok,en,h⟩;refine⟨as,ρ,S,ok,en,mt _ _ _ _ (fun c S1 q as1 H1 g1 ok1=>?_) h⟩;refine i7 (fun q=>?_) (fun q=>?_) q
 ·exact⟨as1,ρ,S1,ok1,en.mono g1.pre (g1.ku ok),ma _ _ _ _ (Le.go g1) q⟩
 ·exact⟨as1,ρ,S1,ok1,en.mono g1.pre (g1.ku ok),mb _ _ _ _ (Le.go g1) q⟩
theorem Bh{keep:Sto->Prop}{g:Tg}{b:WS}(mb:MonoS b):∀(xs:List SV) {D D':EndsS},Le D D'->∀ ρ S,AB keep g b D xs ρ S->AB keep g b D' xs ρ S
 | [],D,D',l,ρ,S,h=>by unfold AB at h ⊢;exact⟨h.1,l.nx _ _ h.2⟩
 | x::xs,D,D',l,ρ,S,h=>by
   unfold AB at h ⊢;exact⟨h.1,l8 g (fun ρ2 q=>mb.go (D:={D with nx:=AB keep g b D xs,ct:=AB keep g b D xs,bk:=D.nx}) q ⟨Bh mb xs l,l.rt,l.nx,Bh mb xs l⟩) h.2⟩
theorem Ng{K:Sh}{g:Tg}{i:WI}{b:WS}(mi:MonoI i)(mb:MonoS b):∀ D σ H,liftS K (fun D ρ S=>i ρ S fun keep xs S1=>AB keep g b D xs ρ S1) D σ H->Qn (liftI K i) (BB K g) (liftS K b) D σ H:=by
 rintro D σ H ⟨as,ρ,S,ok,en,h⟩;refine⟨as,ρ,S,ok,en,mi _ _ _ _ (fun keep xs S1 h as1 H1 J g1 ok1 W=>?_) h⟩
 refine⟨fun i m σ2 H2=>m=xs.length - i/\i<=xs.length/\∃ as2 ρ2 S2,Go as1 H1 as2 H2/\Ok K as2 H2 S2/\EnvOk K as2 H2 σ2 ρ2/\AB keep g b (Fc K as H D) (xs.drop i) ρ2 S2,
  ⟨xs.length,by simp,U7 _,as1,ρ,S1,Go.refl _ _,ok1,en.mono g1.pre (g1.ku ok),h⟩,?_⟩
 rintro i m σ2 H2 ⟨rfl,hi,as2,ρ2,S2,g2,ok2,en2,h⟩;by_cases hlt:i<xs.length
 ·right;rw[U5 hlt]at h;unfold AB at h;obtain⟨kp,h⟩:=h;obtain⟨w1,_⟩:=W as2 H2 S2 (g2.gu ok1) ok2 kp;obtain⟨go,yl⟩:=w1 i xs[i] (Sj hlt);refine⟨go,fun σ' H'=>∃ as2 ρ2 S2,Go as1 H1 as2 H'/\Ok K as2 H' S2/\EnvOk K as2 H' σ' ρ2/\AB keep g b (Fc K as H D) (xs.drop (i+1)) ρ2 S2,fun σ' H' z=>⟨xs.length - (i+1),by omega,rfl,hlt,z⟩,fun x H3 y3=>?_⟩;obtain⟨g3,ok3,rx⟩:=yl x H3 y3;refine⟨as2,ρ2,S2,_,ok3,en2.mono g3.pre (g3.ku ok2),rx,l8 g (fun ρ3 q σ3 en3=>?_) h⟩;have g03:=(g1.trans g2).trans g3;refine⟨as2,ρ3,S2,ok3,en3,mb.go q ⟨fun ρ' S' q as' H' σ' g' ok' en'=>?_,fun x S h=>Post.mono h g03,fun ρ' S' q as' H' σ' g' ok' en'=>q as' H' σ' (g03.trans g') ok' en',fun ρ' S' q as' H' σ' g' ok' en'=>?_⟩⟩
  ·exact⟨as',ρ',S',(g2.trans g3).trans g',ok',en',q⟩
  ·exact⟨as',ρ',S',(g2.trans g3).trans g',ok',en',q⟩
 ·left;have hi':i=xs.length:=by omega
  subst hi';rw[Ua]at h;unfold AB at h;obtain⟨kp,h⟩:=h;obtain⟨_,w2⟩:=W as2 H2 S2 (g2.gu ok1) ok2 kp;exact⟨w2,h as2 H2 σ2 (g1.trans g2) ok2 en2⟩
theorem Fg{t:WT}{b:WS}(mt:MonoT t)(mb:MonoS b):MonoS (Py t b):=fun D D' ρ S l ⟨W,w0,h⟩=>⟨W,w0,fun m ρ S w=>mt _ _ _ _ (fun c S1 q=>i7 (fun q=>mb.go (D:={D with nx:=fun ρ' S'=>∃ m',m'<m/\W m' ρ' S',ct:=fun ρ' S'=>∃ m',m'<m/\W m' ρ' S',bk:=D.nx}) q ⟨fun _ _ h=>h,l.rt,l.nx,fun _ _ h=>h⟩) (fun q=>l.nx _ _ q) q) (h m ρ S w)⟩
theorem Nh{K:Sh}{t:WT}{b:WS}(mt:MonoT t)(mb:MonoS b):∀ D σ H,liftS K (Py t b) D σ H->Jz (liftT K t) (liftS K b) D σ H:=by
 rintro D σ H ⟨as,ρ,S,ok,en,W,⟨m0,w0⟩,h⟩;refine⟨fun m σ1 H1=>∃ as1 ρ1 S1,Go as H as1 H1/\Ok K as1 H1 S1/\EnvOk K as1 H1 σ1 ρ1/\W m ρ1 S1,⟨m0,as,ρ,S,Go.refl _ _,ok,en,w0⟩,?_⟩;rintro m σ1 H1 ⟨as1,ρ1,S1,g1,ok1,en1,w1⟩;refine⟨as1,ρ1,S1,ok1,en1,mt _ _ _ _ (fun c S2 q as2 H2 g2 ok2=>?_) (h m ρ1 S1 w1)⟩;refine i7 (fun q=>?_) (fun q=>q as2 H2 σ1 (g1.trans g2) ok2 (en1.mono g2.pre (g2.ku ok1))) q;refine⟨fun σ' H'=>∃ m',m'<m/\∃ as1 ρ1 S1,Go as H as1 H'/\Ok K as1 H' S1/\EnvOk K as1 H' σ' ρ1/\W m' ρ1 S1,fun σ' H' z=>z,?_⟩;refine⟨as2,ρ1,S2,ok2,en1.mono g2.pre (g2.ku ok1),mb.go q ⟨fun ρ' S' ⟨m',hm,w'⟩ as' H' σ' g' ok' en'=>?_,fun x S h=>Post.mono h (g1.trans g2),fun ρ' S' q as' H' σ' g' ok' en'=>q as' H' σ' ((g1.trans g2).trans g') ok' en',fun ρ' S' ⟨m',hm,w'⟩ as' H' σ' g' ok' en'=>?_⟩⟩
 ·exact⟨m',hm,as',ρ',S',(g1.trans g2).trans g',ok',en',w'⟩
 ·exact⟨m',hm,as',ρ',S',(g1.trans g2).trans g',ok',en',w'⟩
theorem DR{x y v:SV}{S:Sto}{P P':Sto->Prop}(i:∀ S,P S->P' S)(h:JH x y v S P):JH x y v S P':=by
 unfold JH at h ⊢;split at h
 ·obtain⟨xs,j,a,b,c⟩:=h;exact⟨xs,j,a,b,i _ c⟩
 ·exact h.elim
theorem Ni{K:Sh}{as:List Addr}{H:Hp}{S:Sto}{x y z:SV}{o i v:V}{Q:Hp->Prop}(ok:Ok K as H S)(ro:Rl K as H o x)(ri:Rl K as H i y)(rv:Rl K as H v z)(h:JH x y z S fun S'=>∀ H',Go as H as H'->Ok K as H' S'->Q H'):KA o i v H Q:=by
 cases x with
 | loc k=>
   cases y with
   | int n=>
     obtain⟨xs,j,h1,h2,h3⟩:=h;obtain⟨a,vs,rfl,ea,ha,ra⟩:=v5 ok ro h1;rw[rl_int]at ri;subst ri;refine⟨a,vs,n,j,rfl,rfl,ha,by rw[ra.length];exact h2,h3 _ (Go.write (Sm ea)) (ok.write h1 ea (ra.set rv j)).1⟩
   | _=>exact False.elim h
 | _=>exact False.elim h
theorem Nj{K:Sh}{o i e:WE}(mo:Mono o)(mi:Mono i)(me:Mono e):∀ D σ H,liftS K (fun D ρ S=>e ρ S fun v S1=>o ρ S1 fun x S2=>i ρ S2 fun y S3=>JH x y v S3 fun S4=>D.nx ρ S4) D σ H->GC (lift K e) (Ql (lift K o) (lift K i) KA) D σ H:=by
 rintro D σ H ⟨as,ρ,S,ok,en,h⟩;refine⟨as,ρ,S,ok,en,me _ _ _ _ (fun z S1 q as1 H1 v g1 ok1 rv=>?_) h⟩;have en1:=en.mono g1.pre (g1.ku ok);refine⟨as1,ρ,S1,ok1,en1,mo _ _ _ _ (fun x S2 q as2 H2 u g2 ok2 ru=>?_) q⟩;have en2:=en1.mono g2.pre (g2.ku ok1);refine⟨as2,ρ,S2,ok2,en2,mi _ _ _ _ (fun y S3 q as3 H3 t g3 ok3 rt=>?_) q⟩;have en3:=en2.mono g3.pre (g3.ku ok2);refine Ni ok3 (Rl.mono g3.pre (g3.ku ok2) x u ru) rt (Rl.mono (g2.trans g3).pre ((g2.trans g3).ku ok1) z v rv) (DR (fun S4 q H4 g4 ok4=>?_) q);exact q as3 H4 σ (((g1.trans g2).trans g3).trans g4) ok4 (en3.mono g4.pre (g4.ku ok3))
end
theorem QH{env:Env}{es:List Expr}{k:Nat}{p:Pos}{e:Expr}{l:Nat}:swapsWithSole [.Tuple es k p] e l env=pure false:=by
 unfold swapsWithSole swapsWith;cases e<;>rfl
theorem QI{env:Env}{o i:Expr}{p:Pos}{e:Expr}{l:Nat}:swapsWithSole [.Subscript o i p] e l env=pure false:=by
 unfold swapsWithSole swapsWith;cases e<;>rfl
theorem QJ{env:Env}{es:List Expr}{k:Nat}{p:Pos}{e:Expr}(h:Ln e=true):swappedStores [.Tuple es k p] e env=pure none:=by
 unfold swappedStores;cases e<;>first | rfl | cases h
theorem QK{env:Env}{o i:Expr}{p:Pos}{e:Expr}:swappedStores [.Subscript o i p] e env=pure none:=by
 unfold swappedStores;cases e<;>rfl
open PySem L2
theorem Fh{t:WT}{a b:WS}(mt:MonoT t)(ma:MonoS a)(mb:MonoS b):MonoS (fun D ρ S=>t ρ S fun c S1=>if c=true then a D ρ S1 else b D ρ S1):=fun D D' ρ S l h=>mt _ _ _ _ (fun c S1 q=>i7 (fun q=>ma.go q l) (fun q=>mb.go q l) q) h
section
variable{T:List Str}{Δ:Nat->Sn}{X:Cx}{N:List Str}{sc:Scope}
theorem Of{env:Env}{e:Expr}(h:f7 e=true):(assignEach [e] env).map (·.2)=[assign e env]:=by cases e<;>first | rfl | cases h
theorem HH{env:Env}{o i:Expr}{p:Pos}(h:BO i=true):∀ v,assign (.Subscript o i p) env v=(do
 let ov <- holding [v] (eval o env)
 let iv <- holding [v,ov] (eval i env)
 standAt p
 holding [v,ov,iv] (setItem ov iv v)
 release [v,ov,iv] []):=fun v=>by cases i<;>first | rfl | cases h
theorem Jd(C:Cok T Δ X N.length N sc)(hk:sc.kind = .function){t:Tg}{e:Ex}{rt re:Expr}{pos:Pos}(h1:AW N.length N sc t rt=true)(h2:i8 T N sc e re=true)(h3:f7 rt=true)(h4:QF sc rt re=true):PS X (.Assign [rt] re pos) (liftS X.K fun D ρ S=>(wEx Δ e).1 ρ S fun x S1=>wTg t x ρ fun ρ'=>D.nx ρ' S1):=by
 have ge:=c6 e re C h2;unfold QF at h4;cases hv:HF rt with
 | none=>
   rw[hv]at h4;rw[Si]at h4;obtain⟨es,hes⟩:=UQ.mp h4.1;obtain⟨j,p,rfl⟩:=D1 hes;exact AJ _ (Jy ge.pe (A8 C t _ h1) QH (QJ h4.2) (Of rfl)) (Nf ge.m)
 | some xp=>
   rw[hv]at h4;have e0:=Jc hv;obtain⟨x,px⟩:=xp;subst e0;cases t with
   | tup ts=>rw[AW]at h1;cases h1
   | nm i=>
     rw[AW]at h1;have h1:(decide (i<N.length)&&decide (N[i]?=some x)&&loc sc x)=true:=h1;simp only[Si,decide_eq_true_eq]at h1;obtain⟨⟨hi,hx⟩,hl⟩:=h1;unfold loc at hl;simp only[Tj,beq_iff_eq]at hl;have hND:X.N.Nodup:=by rw[C.hN];exact C.nd
     have hNi:X.N[i]?=some x:=by rw[C.hN];exact hx
     have hloc:Loc X.env.scope x:=by rw[C.hs];exact hl
     have hf:X.fn x=true\/X.env.scope.names.lookup x=some .local:=by
      rw[C.hs];rcases hl with hl | hl
      ·exact .inr hl
      ·exact .inl (C.fn i x hi hx hl)
     have hke:X.env.scope.kind = .function:=by rw[C.hs];exact hk
     cases hsw:DP sc re x px with
     | false=>exact AJ _ (P3 hND hNi hloc ge.pe (by rw[Ed hke,C.hs,hsw]) hf) (DQ ge.m)
     | true=>
       have h4:(!DP sc re x px||QD re||Rw re||Lo re)=true:=h4;rw[hsw,Bool.not_true,WU,Tj,Tj]at h4;rcases h4 with(h4 | h4) | h4
       ·unfold QD at h4;obtain⟨v,hv',h4⟩:=a7 h4;obtain⟨gen,hgen⟩:=UQ.mp h4;obtain⟨p',rfl⟩:=CF hv';rw[AL hgen]at h2 ge hsw ⊢
        have hxl:X.env.scope.names.lookup x=some .local:=by
         rw[C.hs];unfold DP Cd at hsw;simp only[Si,beq_iff_eq]at hsw;exact hsw.1.1
        have hs1:swapsWith (.ListComp v.1 [gen] v.2.2 p') (some (.Name x px)) pos.line X.env=pure true:=by rw[Ed hke,C.hs,hsw]
        cases e with
        | comp own cn js g it t' e'=>
          obtain⟨tg,ri,ifs,az⟩:=gen;have h2:(decide (az=0)&&m4 sc v.2.2 own cn N js&&AW own.length (own++cn) (Au v.2.2 sc) g tg&&FJ T N sc it tg ri&&j7 ri&&CG T (own++cn) (Au v.2.2 sc) t' ifs&&i8 T (own++cn) (Au v.2.2 sc) e' v.1)=true:=h2;simp only[Si,decide_eq_true_eq]at h2;obtain⟨⟨⟨⟨⟨⟨k0,k1⟩,k2⟩,k3⟩,k4⟩,k5⟩,k6⟩:=h2;subst k0;have hI:=AE it _ _ C k3;have hT:=fun s2 H2 cs A fp=>Aw t' _ (C.comp k1 s2 H2 cs A fp) k5;have hE:=fun s2 H2 cs A fp=>c6 e' _ (C.comp k1 s2 H2 cs A fp) k6;have mt:=(hT X.s₀ X.H₀ [] 0 []).2;have me:=(hE X.s₀ X.H₀ [] 0 []).m;have b:=GR (i:=i) (g:=BB X.K g) (tt:=liftT X.K (wEo Δ t').2) (te:=lift X.K (wEx Δ e').1) own cn js hND hNi hxl hI.pi (fun s2 H2 cs A fp=>A8 (C.comp k1 s2 H2 cs A fp) g _ k2) (fun s2 H2 cs A fp=>(hT s2 H2 cs A fp).1) (fun s2 H2 cs A fp=>(hE s2 H2 cs A fp).pe) C.calm (by rw[C.hs,C.hN];exact k1) hs1 (m5 k4);refine AJ _ b fun D σ H h=>?_;have:=DQ ge.m D σ H h;exact FY hI.m mt me σ H _ this
        | no=>exact fun _ _ _ _ _ _ h=>let ⟨_,_,_,_,_,z⟩:=h;z.elim
        | _=>exact absurd h2 nofun
       ·exact Bool.noConfusion (show false=true from h4)
       ·unfold Lo at h4;obtain⟨v,hv',h4⟩:=a7 h4;obtain⟨gen,hgen⟩:=UQ.mp h4;obtain⟨p',rfl⟩:=CF hv';rw[LN hgen]at h2 ge hsw ⊢
        have hxl:X.env.scope.names.lookup x=some .local:=by
         rw[C.hs];unfold DP Cd at hsw;simp only[Si,beq_iff_eq]at hsw;exact hsw.1.1
        have hs1:swapsWith (.ListComp v.1 [gen.1,gen.2] v.2.2 p') (some (.Name x px)) pos.line X.env=pure true:=by rw[Ed hke,C.hs,hsw]
        cases e with
        | comp2 own cn js g it t' g2 it2 t2 e'=>
          obtain⟨⟨tg,ri,ifs,az⟩,⟨tg2,ri2,ifs2,az2⟩⟩:=gen;have h2:(decide (az=0)&&decide (az2=0)&&m4 sc v.2.2 own cn N js&&AW own.length (own++cn) (Au v.2.2 sc) g tg&&FJ T N sc it tg ri&&j7 ri&&CG T (own++cn) (Au v.2.2 sc) t' ifs&&AW own.length (own++cn) (Au v.2.2 sc) g2 tg2&&FJ T (own++cn) (Au v.2.2 sc) it2 tg2 ri2&&j7 ri2&&CG T (own++cn) (Au v.2.2 sc) t2 ifs2&&i8 T (own++cn) (Au v.2.2 sc) e' v.1)=true:=h2;simp only[Si,decide_eq_true_eq]at h2;obtain⟨⟨⟨⟨⟨⟨⟨⟨⟨⟨⟨k0,k0'⟩,k1⟩,k2⟩,k3⟩,k4⟩,k5⟩,k6⟩,k7⟩,k8⟩,k9⟩,ka⟩:=h2;subst k0;subst k0';have hI:=AE it _ _ C k3;have hT:=fun s2 H2 cs A fp=>Aw t' _ (C.comp k1 s2 H2 cs A fp) k5;have hI2:=fun s2 H2 cs A fp=>AE it2 _ _ (C.comp k1 s2 H2 cs A fp) k7;have hT2:=fun s2 H2 cs A fp=>Aw t2 _ (C.comp k1 s2 H2 cs A fp) k9;have hE:=fun s2 H2 cs A fp=>c6 e' _ (C.comp k1 s2 H2 cs A fp) ka;have mt:=(hT X.s₀ X.H₀ [] 0 []).2;have mi2:=(hI2 X.s₀ X.H₀ [] 0 []).m;have mt2:=(hT2 X.s₀ X.H₀ [] 0 []).2;have me:=(hE X.s₀ X.H₀ [] 0 []).m;have b:=FX (i:=i) (g:=BB X.K g) (tt:=liftT X.K (wEo Δ t').2) (wi2:=liftI X.K (Gf Δ it2)) (g2:=BB X.K g2) (tt2:=liftT X.K (wEo Δ t2).2) (te:=lift X.K (wEx Δ e').1) own cn js hND hNi hxl hI.pi (fun s2 H2 cs A fp=>A8 (C.comp k1 s2 H2 cs A fp) g _ k2) (fun s2 H2 cs A fp=>(hT s2 H2 cs A fp).1) (fun s2 H2 cs A fp=>(hI2 s2 H2 cs A fp).pi) (fun s2 H2 cs A fp=>A8 (C.comp k1 s2 H2 cs A fp) g2 _ k6) (fun s2 H2 cs A fp=>(hT2 s2 H2 cs A fp).1) (fun s2 H2 cs A fp=>(hE s2 H2 cs A fp).pe) (fun _ _ _ _ _=>m5 k8) C.calm (by rw[C.hs,C.hN];exact k1) hs1 (m5 k4);refine AJ _ b fun D σ H h=>?_;have:=DQ ge.m D σ H h;exact E3 hI.m mt mi2 mt2 me σ H _ this
        | no=>exact fun _ _ _ _ _ _ h=>let ⟨_,_,_,_,_,z⟩:=h;z.elim
        | _=>exact absurd h2 nofun
mutual
theorem Lp(C:Cok T Δ X N.length N sc)(hp:PassesOwn (model X.prog X.w) X.A X.env X.xe)(hk:sc.kind = .function):∀(s:Stm) (r:Stmt),Rx T N sc s r=true->GoodS X r (wSt Δ s)
 | .asg t e,r,h=>by
   replace h:=a7 h;obtain⟨v,hv,h⟩:=h;replace h:=a7 h;obtain⟨rt,hrt,h⟩:=h;obtain⟨pos,rfl⟩:=IL hv;simp only[Si]at h;obtain⟨⟨⟨h1,h2⟩,h3⟩,h4⟩:=h;rw[AL hrt];exact⟨Jd C hk h1 h2 h3 h4,Ff (c6 e _ C h2).m⟩
 | .put o i e,r,h=>by
   replace h:=a7 h;obtain⟨v,hv,h⟩:=h;replace h:=a7 h;obtain⟨rt,hrt,h⟩:=h;replace h:=a7 h;obtain⟨oi,hoi,h⟩:=h;obtain⟨pos,rfl⟩:=IL hv;obtain⟨p2,e2⟩:=D2 hoi;simp only[Si]at h;rw[AL hrt,e2];have go:=c6 o _ C h.1.1.1;have gi:=c6 i _ C h.1.1.2;have ge:=c6 e _ C h.1.2;refine⟨AJ _ (Jy ge.pe (P2 go.pe gi.pe KB (HH h.2)) QI QK (Of rfl)) (Nj go.m gi.m ge.m),?_⟩;exact fun D D' ρ S l h=>ge.m _ _ _ _ (fun v S1 q=>go.m _ _ _ _ (fun x S2 q=>gi.m _ _ _ _ (fun y S3 q=>DR (fun S4 q=>l.nx _ _ q) q) q) q) h
 | .expr e,r,h=>by
   replace h:=a7 h;obtain⟨re,hre,h⟩:=h;obtain⟨pos,rfl⟩:=NZ hre;simp only[Si]at h;have ge:=c6 e _ C h.1
   have hs:swapsWith re none pos.line X.env=pure false:=by
    have:=h.2;unfold swapsWith;cases re<;>first | rfl | (unfold Cd at this;cases this)
   refine⟨AJ _ (MW ge.pe hs) ?_,fun D D' ρ S l h=>ge.m _ _ _ _ (fun x S1 q=>l.nx _ _ q) h⟩;rintro D σ H ⟨as,ρ,S,ok,en,h⟩;exact⟨as,ρ,S,ok,en,ge.m _ _ _ _ (fun x S1 q as1 H1 v g1 ok1 rv=>q as1 H1 σ g1 ok1 (en.mono g1.pre (g1.ku ok))) h⟩
 | .iff t a b,r,h=>by
   replace h:=a7 h;obtain⟨v,hv,h⟩:=h;obtain⟨pos,rfl⟩:=Na hv;simp only[Si]at h;have gt:=c6 t _ C h.1.1;have ga:=Ax C hp hk a _ h.1.2;have gb:=Ax C hp hk b _ h.2;exact⟨AJ _ (Qi gt.pt ga.ps gb.ps) (QG gt.mt ga.m gb.m),Fh gt.mt ga.m gb.m⟩
 | .loop g it b,r,h=>by
   replace h:=a7 h;obtain⟨v,hv,h⟩:=h;obtain⟨pos,rfl⟩:=Nb hv;simp only[Si,Tz]at h;obtain⟨⟨⟨⟨h1,h2⟩,h3⟩,h4⟩,h5⟩:=h;rw[h5];have gi:=AE it _ _ C h2;have gb:=Ax C hp hk b _ h4;refine⟨AJ _ (P4 hp C.calm gi.pi (A8 C g _ h1) gb.ps (m5 h3)) (Ng gi.m gb.m),?_⟩;exact fun D D' ρ S l h=>gi.m _ _ _ _ (fun keep xs S1 q=>Bh gb.m xs l _ _ q) h
 | .whl t b,r,h=>by
   replace h:=a7 h;obtain⟨v,hv,h⟩:=h;obtain⟨pos,rfl⟩:=Nc hv;simp only[Si,Tz]at h;rw[h.2];have gt:=c6 t _ C h.1.1;have gb:=Ax C hp hk b _ h.1.2;exact⟨AJ _ (K0 hp gt.pt gb.ps) (Nh gt.mt gb.m),Fg gt.mt gb.m⟩
 | .ret e,r,h=>by
   replace h:=a7 h;obtain⟨o,ho,h⟩:=h;replace h:=a7 h;obtain⟨re,hre,h⟩:=h;obtain⟨pos,rfl⟩:=Nd ho;rw[hre];have ge:=c6 e _ C h;exact⟨AJ _ (Oy ge.pe) fun D σ H ⟨as,ρ,S,ok,en,h⟩=>⟨as,ρ,S,ok,en,h⟩,fun D D' ρ S l h=>ge.m _ _ _ _ l.rt h⟩
 | .no,r,h=>⟨fun _ _ _ _ _ _ h=>let ⟨_,_,_,_,_,z⟩:=h;z.elim,fun _ _ _ _ _ h=>h⟩
theorem Ax(C:Cok T Δ X N.length N sc)(hp:PassesOwn (model X.prog X.w) X.A X.env X.xe)(hk:sc.kind = .function):∀(s:List Stm) (r:List Stmt),CI T N sc s r=true->GoodSs X r (wSs Δ s)
 | [],r,h=>by
   rw[CI,Tz]at h;subst h;exact HG
 | s::ss,r,h=>by
   rw[CI]at h;replace h:=a7 h;obtain⟨x,hx,h⟩:=h;rw[Si]at h;rw[Ad hx];have:=Fe (Lp C hp hk s x h.1) (Ax C hp hk ss _ h.2);rw[wSs];exact this
end
end
open PySem L2
mutual
theorem a8{Δ:Nat->Sn}(hΔ:∀ f,MonoN (Δ f)):∀(e:Ex),Mono (wEx Δ e).1/\MonoT (wEx Δ e).2
 | .var i=>⟨.var,.tru .var⟩
 | .c x=>⟨.c,.tru .c⟩
 | .op o a b=>have m:Mono _ := .two (s:=sOp o) Hz (a8 hΔ a).1 (a8 hΔ b).1;⟨m,.tru m⟩
 | .neg a=>have m:Mono _ := .one DM (a8 hΔ a).1;⟨m,.tru m⟩
 | .cmp o a b=>have m:Mono _ := .two (s:=B6 o) AM (a8 hΔ a).1 (a8 hΔ b).1;⟨m,.bl m⟩
 | .chn o p a b c=>have m:=FK (o:=o) (p:=p) (a8 hΔ a).1 (a8 hΔ b).1 (a8 hΔ c).1;⟨m,.bl m⟩
 | .and a b=>⟨.and (a8 hΔ a).1 (a8 hΔ b).1,.and (a8 hΔ a).2 (a8 hΔ b).2⟩
 | .or a b=>⟨.or (a8 hΔ a).1 (a8 hΔ b).1,.or (a8 hΔ a).2 (a8 hΔ b).2⟩
 | .not a=>⟨.not (a8 hΔ a).1,.not (a8 hΔ a).2⟩
 | .tup es=>have m:Mono _ := .n .tup (Ay hΔ es);⟨m,.tru m⟩
 | .lst es=>have m:Mono _ := .n .lst (Ay hΔ es);⟨m,.tru m⟩
 | .ix a b=>have m:Mono _ := .two .ix (a8 hΔ a).1 (a8 hΔ b).1;⟨m,.tru m⟩
 | .slc a lo hi=>have m:Mono _:=(fun ρ S P P' i h=>(a8 hΔ a).1 _ _ _ _ (fun x S1 h=>(i9 hΔ lo).1 _ _ _ _ (fun l S2 h=>(i9 hΔ hi).1 _ _ _ _ (fun k S3 h=>DN i h) h) h) h:Mono (Px _ _ _));⟨m,.tru m⟩
 | .call f es=>have m:Mono _ := .n (hΔ f) (Ay hΔ es);⟨m,.tru m⟩
 | .bi b es=>have m:Mono _ := .n (s:=sBi b) .bi (Ay hΔ es);⟨m,.tru m⟩
 | .mt m' a es=>have m:Mono _:=Mono.mt (m:=m') (a8 hΔ a).1 (Ay hΔ es);⟨m,.tru m⟩
 | .comp own cn js g it t e=>have m:Mono _:=Mono.comp (k:=own.length) (js:=js) (g:=g) (BR hΔ it) (i9 hΔ t).2 (a8 hΔ e).1;⟨m,.tru m⟩
 | .comp2 own cn js g it t g2 it2 t2 e=>have m:Mono _:=Mono.comp2 (k:=own.length) (js:=js) (g:=g) (g2:=g2) (BR hΔ it) (i9 hΔ t).2 (BR hΔ it2) (i9 hΔ t2).2 (a8 hΔ e).1;⟨m,.tru m⟩
 | .tyc t=>⟨.c,.tru .c⟩
 | .lrng1 a=>have m:=DO (a8 hΔ a).1;⟨m,.tru m⟩
 | .rev a=>have m:Mono _ := .one FO (a8 hΔ a).1;⟨m,.tru m⟩
 | .srtset a=>have m:=Co (a8 hΔ a).1;⟨m,.tru m⟩
 | .eqt0 a b=>have m:Mono _ := .two Bf (a8 hΔ a).1 (a8 hΔ b).1;⟨m,.bl m⟩
 | .nell a b=>have m:Mono _ := .two Bd (a8 hΔ a).1 (a8 hΔ b).1;⟨m,.bl m⟩
 | .eqtl a b=>have m:Mono _ := .two Be (a8 hΔ a).1 (a8 hΔ b).1;⟨m,.bl m⟩
 | .no=>⟨fun _ _ _ _ _ h=>h,fun _ _ _ _ _ h=>h⟩
theorem Ay{Δ:Nat->Sn}(hΔ:∀ f,MonoN (Δ f)):∀(es:Exs),MonoA (FE Δ es)
 | .nil => .nil
 | .cons e es => .cons (a8 hΔ e).1 (Ay hΔ es)
theorem i9{Δ:Nat->Sn}(hΔ:∀ f,MonoN (Δ f)):∀(o:Eo),MonoO (wEo Δ o).1/\MonoT (wEo Δ o).2
 | .no=>⟨.no,fun _ _ _ _ i q=>i _ _ q⟩
 | .yes e=>⟨.yes (a8 hΔ e).1,(a8 hΔ e).2⟩
theorem BR{Δ:Nat->Sn}(hΔ:∀ f,MonoN (Δ f)):∀(it:Itb),MonoI (Gf Δ it)
 | .seq e=>fun ρ S P P' i h=>(a8 hΔ e).1 _ _ _ _ (fun x S1 ⟨xs,e,q⟩=>⟨xs,e,i _ _ _ q⟩) h
 | .rng1 a=>fun ρ S P P' i h=>(a8 hΔ a).1 _ _ _ _ (fun x S1 ⟨j,e,z,q⟩=>⟨j,e,z,i _ _ _ q⟩) h
 | .enum e=>fun ρ S P P' i h=>(a8 hΔ e).1 _ _ _ _ (fun x S1 ⟨xs,e,q⟩=>⟨xs,e,i _ _ _ q⟩) h
 | .rngT a b=>fun ρ S P P' i h=>(a8 hΔ a).1 _ _ _ _ (fun x S1 h=>(a8 hΔ b).1 _ _ _ _ (fun y S2 ⟨l,j,e,e2,z,q⟩=>⟨l,j,e,e2,z,i _ _ _ q⟩) h) h
end
mutual
theorem Nk{Δ:Nat->Sn}(hΔ:∀ f,MonoN (Δ f)):∀(s:Stm),MonoS (wSt Δ s)
 | .asg t e=>by exact Ff (a8 hΔ e).1
 | .put o i e=>by exact fun D D' ρ S l h=>(a8 hΔ e).1 _ _ _ _ (fun v S1 q=>(a8 hΔ o).1 _ _ _ _ (fun x S2 q=>(a8 hΔ i).1 _ _ _ _ (fun y S3 q=>DR (fun S4 q=>l.nx _ _ q) q) q) q) h
 | .expr e=>by exact fun D D' ρ S l h=>(a8 hΔ e).1 _ _ _ _ (fun x S1 q=>l.nx _ _ q) h
 | .iff t a b=>by exact Fh (a8 hΔ t).2 (l9 hΔ a) (l9 hΔ b)
 | .loop g it b=>by exact fun D D' ρ S l h=>BR hΔ it _ _ _ _ (fun keep xs S1 q=>Bh (l9 hΔ b) xs l _ _ q) h
 | .whl t b=>by exact Fg (a8 hΔ t).2 (l9 hΔ b)
 | .ret e=>by exact fun D D' ρ S l h=>(a8 hΔ e).1 _ _ _ _ l.rt h
 | .no=>by exact fun D D' ρ S l h=>h
theorem l9{Δ:Nat->Sn}(hΔ:∀ f,MonoN (Δ f)):∀(s:List Stm),MonoS (wSs Δ s)
 | []=>by exact fun D D' ρ S l h=>l.nx _ _ h
 | s::ss=>by exact fun D D' ρ S l h=>(Nk hΔ s).go (D:={D with nx:=wSs Δ ss D}) h ⟨fun ρ' S' q=>(l9 hΔ ss) _ _ _ _ l q,l.rt,l.bk,l.ct⟩
end
theorem Lq{P:List Value->Prop}(h:∀ a,P [a]):∀ us:List Value,us.length=1->P us
 | [a],_=>h a
theorem Cs{P:List Value->Prop}(h:∀ a b,P [a,b]):∀ us:List Value,us.length=2->P us
 | [a,b],_=>h a b
theorem QL{P:List Value->Prop}(h:∀ a b c,P [a,b,c]):∀ us:List Value,us.length=3->P us
 | [a,b,c],_=>h a b c
theorem Sf{P:List Value->Prop}(h:∀ a b c d,P [a,b,c,d]):∀ us:List Value,us.length=4->P us
 | [a,b,c,d],_=>h a b c d
structure Df where
 name:Str
 st:Stmt
 ps:List Str
 N:List Str
 body:List Stm
noncomputable def AY(Q:QE):EndsS:=⟨fun _ S'=>Q .non S',Q,fun _ _=>False,fun _ _=>False⟩
noncomputable def Ls(n:Nat)(xs:List SV):EnvS:=xs.map some++Su (n - xs.length) none
noncomputable def j8(Δ:Nat->Sn)(D:Df):Sn:=fun xs S Q=>xs.length=D.ps.length/\wSs Δ D.body (AY Q) (Ls D.N.length xs) S
noncomputable def W(prog:List Df):Nat->Nat->Sn
 | 0,_=>fun _ _ _=>False
 | d+1,f=>match prog[f]? with
   | some D=>j8 (W prog d) D
   | none=>fun _ _ _=>False
theorem Lu{Δ:Nat->Sn}(hΔ:∀ f,MonoN (Δ f))(D:Df):MonoN (j8 Δ D):=fun xs S P P' i h=>⟨h.1,(l9 hΔ D.body).go h.2 ⟨fun _ _ q=>i _ _ q,i,fun _ _ q=>q,fun _ _ q=>q⟩⟩
theorem DS{prog:List Df}:∀(d f:Nat),MonoN (W prog d f)
 | 0,f=>fun _ _ _ _ _ h=>h
 | d+1,f=>by
   unfold W;split
   ·exact Lu (DS d) _
   ·exact fun _ _ _ _ _ h=>h
noncomputable def fnB(N ps:List Str)(sc:Scope):Bool:=decide (sc.kind = .function)&&!sc.isCoroutine&&!sc.isGenerator&&decide N.Nodup&&decide (N.take ps.length=ps)&&ps.all (loc sc)&&sc.names.all (fun y=>!decide (y.2 = .free))
theorem QM{N ps:List Str}{sc:Scope}(h:fnB N ps sc=true):FnScope N ps sc:=by
 unfold fnB at h;simp only[Si,decide_eq_true_eq,Ta,TK,decide_eq_false_iff_not]at h;obtain⟨⟨⟨⟨⟨⟨h1,h2⟩,h3⟩,h4⟩,h5⟩,h6⟩,h7⟩:=h;refine⟨h1,h2,h3,h4,h5,fun x hx=>?_,h7⟩;have:=h6 x hx;unfold loc at this;simpa using this
noncomputable def Nl(T:List Str)(D:Df):Bool:=fnB D.N D.ps (defScope D.st)&&CI T D.N (defScope D.st) D.body (defBody D.st)
structure Bl(mg:Str->Option Value):Prop where
 bl:∀ b:BI,mg b.name=none
 rng:mg "range"=none
 enm:mg "enumerate"=none
 zip:mg "zip"=none
 st0:mg "set"=none
 dc0:mg "dict"=none
 ty:∀ t:TyN,t ≠ .none->mg (Str.ofString t.nm)=none
section
variable{P:Program}{w:World}{K:Sh}{mg:Str->Option Value}{base:Heap}
theorem Je{as:List Addr}{H:Hp}{N:List Str}{vs:List V}{xs:List SV}(r:RlAll K as H vs xs):EnvOk K as H (L2.start N vs) (Ls N.length xs):=by
 unfold L2.start Ls;rw[<-r.length];refine⟨by simp[r.length],fun i x e=>?_⟩;by_cases hi:i<vs.length
 ·rw[T9 (by rw[Sk,<-r.length];exact hi),TB]at e;rw[T9 (by simpa using hi),TB];cases hx:xs[i]? with
  | none=>rw[hx]at e;cases e
  | some y=>
    rw[hx]at e;have:y=x:=by simpa using e
    subst this;obtain⟨v,hv,rv⟩:=r.get hx;exact⟨v,by rw[hv];rfl,rv⟩
 ·rw[TZ (by rw[Sk,<-r.length];omega),UU]at e;split at e<;>cases e
theorem Lw{T:List Str}{Δ:Nat->Sn}{D:Df}{f:Addr}{fd:FuncData}{k:Nat}(F:Fun K D.name D.name D.st f fd)(hc:Nl T D=true)(B:Bl mg)(hcall:∀ f x,T[f]?=some x->∃ ps,Cal P w K mg base k x ps (spS K (Δ f)))(hΔ:∀ f,MonoN (Δ f)):FnOk P w K mg base CX0 (k+1) f fd D.ps (spS K (j8 Δ D)):=by
 unfold Nl at hc;rw[Si]at hc;have S:=QM hc.1;refine F.ok S (fun vs H Q E h=>?_) (fun cdv A outer s H vs Q E hr h=>?_)
 ·obtain⟨as,S,xs,ok,r,hl,_⟩:=h;rw[r.length];exact hl
 ·have C:Cok T Δ (GJ CX0 P w K mg base D.N D.name (defScope D.st) f cdv A outer s H E).nox D.N.length D.N (defScope D.st):={
   hN:=rfl,hs:=rfl,nd:=S.nd,calm:=rfl,fn:=fun _ _ _ _ _=>rfl
   un:=by have:=hr.un;show(A.deeper _).units+100<cLine;omega
   bl:=B.bl,rng:=B.rng,enm:=B.enm,zip:=B.zip,st0:=B.st0,dc0:=B.dc0,ty:=B.ty,gd:=hr.gd
   call:=fun g x hx=>let ⟨ps,c⟩:=hcall g x hx;⟨k,ps,c,hr⟩
   mono:=hΔ}
  refine⟨_,(Ax C PassesOwn.never S.kind D.body _ hc.2).ps,?_⟩;obtain⟨as,S,xs,ok,r,hl,h⟩:=h;refine⟨as,_,S,ok,Je r,(l9 hΔ D.body).go h ⟨fun ρ' S' q as' H' σ' g ok' en'=>q as' H' _ g ok' (rl_non.mpr rfl),fun x S' q=>q,fun _ _ q=>q.elim,fun _ _ q=>q.elim⟩⟩
structure PIn(K:Sh)(mg:Str->Option Value)(D:Df):Prop where
 ex:∃ f fd,Fun K D.name D.name D.st f fd/\mg D.name=some (.ref f)/\PySem.W.keepIn K (.ref f)=true/\Binds K fd D.ps []
theorem IM{prog:List Df}(hc:prog.all (Nl (prog.map (·.name)))=true)(B:Bl mg)(hin:∀ D∈prog,PIn K mg D):∀(d f:Nat) (D:Df),prog[f]?=some D->Cal P w K mg base d D.name D.ps (spS K (W prog d f))
 | 0,f,D,hf=>by
   obtain⟨fa,fd,F,hm,hk,hb⟩:=(hin D (Sm hf)).ex;refine⟨fa,fd,⟨fun vs H Q E h=>?_,fun A outer s H args us vs Q E hr he hbn hv h=>?_⟩,hm,hk,hb⟩
   ·obtain⟨_,_,_,_,_,z⟩:=h;exact z.elim
   ·obtain⟨_,_,_,_,_,z⟩:=h;exact z.elim
 | d+1,f,D,hf=>by
   obtain⟨fa,fd,F,hm,hk,hb⟩:=(hin D (Sm hf)).ex;have h1:=TK.mp hc D (Sm hf)
   have:=Lw (Δ:=W prog d) (P:=P) (w:=w) (base:=base) (k:=d) F h1 B (fun g x hx=>by
    rw[TB]at hx;cases hg:prog[g]? with
    | none=>rw[hg]at hx;cases hx
    | some D'=>
      rw[hg]at hx;have:D'.name=x:=by simpa using hx
      subst this;exact⟨D'.ps,IM hc B hin d g D' hg⟩) (DS d)
   have e:W prog (d+1) f=j8 (W prog d) D:=by rw[W,hf]
   rw[e];exact⟨fa,fd,this,hm,hk,hb⟩
theorem QN{prog:List Df}{d f:Nat}{H:Hp}{a:Addr}{ns:List Int}(main:W prog d f [.ro (ns.map SV.int)] [] fun x _=>x = .bl true)(hO:Mg H)(hS:SqL K H a (ns.map V.int)):spS K (W prog d f) [.ref a] H (fun v _=>v = .bl true) fun _ _ _=>False:=by
 have hz:FzL K H a (ns.map V.int):=by
  rcases hS with(h | ⟨o,h⟩) | h
  ·rcases hO a with z | ⟨o,xs,z⟩<;>rw[h]at z<;>cases z
  ·exact .inl ⟨o,h⟩
  ·exact .inr h
 refine⟨[],[],_,⟨rfl,WR,fun k o a e=>by simp at e⟩,.cons (rl_ro.mpr ⟨a,_,rfl,hz,RlAll.ints⟩) .nil,DS d f _ _ _ _ (fun x S' e as' H' v g ok r=>?_) main⟩;subst e;exact rl_bl.mp r
end
open PySem L2
theorem c7{k:Nat}{S:Sto}{xs:List SV}(h:S[k]?=some (.lst xs)):Aa (.loc k) S=some xs:=by simp only[Aa,h]
theorem Ee{k:Nat}{S:Sto}{xs:List SV}(h:S[k]?=some (.lst xs)):L7 (.loc k) S=some (!xs.isEmpty):=by simp only[L7,h]
theorem QO{k:Nat}{S:Sto}{xs:List SV}(h:S[k]?=some (.lst xs)):tyS (.loc k) S=some .list:=by simp only[tyS,h]
theorem ifT{b:Bool}{A B:Prop}(h:b=true)(a:A):if b=true then A else B:=by rw[if_pos h];exact a
theorem ifF{b:Bool}{A B:Prop}(h:b=false)(a:B):if b=true then A else B:=by rw[if_neg (by rw[h];decide)];exact a
theorem ifD{c A B:Prop}[Decidable c](h1:c->A)(h2:¬ c->B):if decide c=true then A else B:=by
 by_cases h:c
 ·rw[if_pos (decide_eq_true h)];exact h1 h
 ·rw[if_neg (by simpa using h)];exact h2 h
theorem ifB{b:Bool}{A B:Prop}(h1:b=true->A)(h2:b=false->B):if b=true then A else B:=by
 cases b with
 | true=>rw[if_pos rfl];exact h1 rfl
 | false=>rw[if_neg (by decide)];exact h2 rfl
theorem A9{S:Sto}{k:Nat}{o u:SO}(h:S[k]?=some o):(S.set k u)[k]?=some u:=TN ((gM h).1)
theorem m7{S:Sto}{k j:Nat}{u:SO}(h:k≠j):(S.set k u)[j]?=S[j]?:=Th h
theorem c9{S:Sto}{o:SO}:(S++[o])[S.length]?=some o:=TX
theorem e6{S:Sto}{o u:SO}{k:Nat}(h:S[k]?=some u):(S++[o])[k]?=some u:=by
 rw[T9 ((gM h).1)];exact h
theorem AA{S:Sto}{o:SO}{k:Nat}(h:S[k]?=some o):k<S.length:=(gM h).1
structure TapeS(S:Sto)(t:Nat):Prop where
 ex:∃ a b:Int,S[t]?=some (.lst [.int a,.int b])/\0<=a/\0<=b/\b<2147483647
structure On(t:Nat)(S S':Sto):Prop where
 len:S.length<=S'.length
 keep:∀ k o,k≠t->S[k]?=some o->S'[k]?=some o
theorem On.refl(t:Nat)(S:Sto):On t S S:=⟨Sr _,fun _ _ _ h=>h⟩
theorem On.trans{t:Nat}{S S' S'':Sto}(a:On t S S')(b:On t S' S''):On t S S'':=⟨Td a.len b.len,fun k o n h=>b.keep k o n (a.keep k o n h)⟩
theorem On.push{t:Nat}{S S':Sto}{o:SO}(a:On t S S'):On t S (S'++[o]):=⟨by rw[Sl];have:=a.len;omega,fun k u n h=>e6 (a.keep k u n h)⟩
theorem On.tape{t:Nat}{S S':Sto}{o:SO}(a:On t S S'):On t S (S'.set t o):=⟨by rw[Tc];exact a.len,fun k u n h=>by rw[m7 (Ne.symm n)];exact a.keep k u n h⟩
theorem On.new{t k:Nat}{S S':Sto}{o:SO}(a:On t S S')(h:S.length<=k):On t S (S'.set k o):=⟨by rw[Tc];exact a.len,fun j u n hj=>by
 rw[m7 (fun z=>by have:=AA hj;omega)];exact a.keep j u n hj⟩
theorem TapeS.push{S:Sto}{t:Nat}{o:SO}(h:TapeS S t):TapeS (S++[o]) t:=let ⟨a,b,e,z⟩:=h.ex;⟨a,b,e6 e,z⟩
theorem TapeS.other{S:Sto}{t k:Nat}{o:SO}(h:TapeS S t)(n:k≠t):TapeS (S.set k o) t:=let ⟨a,b,e,z⟩:=h.ex;⟨a,b,by rw[m7 n];exact e,z⟩
theorem TapeS.lt{S:Sto}{t:Nat}(h:TapeS S t):t<S.length:=let ⟨_,_,e,_⟩:=h.ex;AA e
theorem w6{keep:Sto->Prop}{g:Tg}{b:WS}{D:EndsS}(mb:MonoS b)(I:Nat->EnvS->Sto->Prop){xs:List SV}{ρ:EnvS}{S:Sto}(h0:I 0 ρ S)(hk:∀ i ρ S,I i ρ S->keep S)
 (hs:∀ i x ρ S,xs[i]?=some x->I i ρ S->wTg g x ρ fun ρ2=>b {D with nx:=I (i+1),ct:=I (i+1),bk:=D.nx} ρ2 S) (hd:∀ ρ S,I xs.length ρ S->D.nx ρ S):AB keep g b D xs ρ S:=by
 have go:∀(ys:List SV) (i:Nat) (ρ:EnvS) (S:Sto),xs.drop i=ys->i<=xs.length->I i ρ S->AB keep g b D ys ρ S:=by
  intro ys
  induction ys with
  | nil=>
    intro i ρ S e hi h
    have:i=xs.length:=by
     have:=congrArg Ul e;rw[Ti,V0]at this;omega
    subst this;unfold AB;exact⟨hk _ _ _ h,hd _ _ h⟩
  | cons y ys ih=>
    intro i ρ S e hi h
    have hy:xs[i]?=some y:=by
     rw[<-VC,e];rfl
    have hlt:=(gM hy).1;have e2:xs.drop (i+1)=ys:=by rw[<-VM,e];rfl
    unfold AB;refine⟨hk _ _ _ h,l8 g (fun ρ2 q=>?_) (hs i y ρ S hy h)⟩;exact mb.go (D:={D with nx:=I (i+1),ct:=I (i+1),bk:=D.nx}) q ⟨fun ρ' S' z=>ih (i+1) ρ' S' e2 hlt z,fun _ _ z=>z,fun _ _ z=>z,fun ρ' S' z=>ih (i+1) ρ' S' e2 hlt z⟩
 exact go xs 0 ρ S rfl (U7 _) h0
theorem q0{keep:Sto->Prop}{g:Tg}{t:WT}{e:WE}{ρ:EnvS}{Q:List SV->Sto->Prop}(mt:MonoT t)(me:Mono e)(I:Nat->List SV->Sto->Prop){xs:List SV}{S:Sto}(h0:I 0 [] S)(hk:∀ i ys S,I i ys S->keep S)
 (hs:∀ i x ys S,xs[i]?=some x->I i ys S->wTg g x ρ fun ρ2=>t ρ2 S fun b S1=>if b=true then e ρ2 S1 fun y S2=>ys.length<big/\I (i+1) (ys++[y]) S2 else I (i+1) ys S1) (hd:∀ ys S,I xs.length ys S->Q ys S):v6 keep g t e ρ Q xs [] S:=by
 have go:∀(zs:List SV) (i:Nat) (ys:List SV) (S:Sto),xs.drop i=zs->i<=xs.length->I i ys S->v6 keep g t e ρ Q zs ys S:=by
  intro zs
  induction zs with
  | nil=>
    intro i ys S e' hi h
    have:i=xs.length:=by
     have:=congrArg Ul e';rw[Ti,V0]at this;omega
    subst this;unfold v6;exact⟨hk _ _ _ h,hd _ _ h⟩
  | cons y zs ih=>
    intro i ys S e' hi h;have hy:xs[i]?=some y:=by rw[<-VC,e'];rfl
    have hlt:=(gM hy).1;have e2:xs.drop (i+1)=zs:=by rw[<-VM,e'];rfl
    unfold v6;refine⟨hk _ _ _ h,l8 g (fun ρ2 q=>mt _ _ _ _ (fun b S1 q=>i7 (fun q=>me _ _ _ _ (fun v S2 q=>⟨q.1,ih (i+1) _ S2 e2 hlt q.2⟩) q) (fun q=>ih (i+1) _ S1 e2 hlt q) q) q) (hs i y ys S hy h)⟩
 exact go xs 0 [] S rfl (U7 _) h0
theorem Af{lo hi:Int}{i:Nat}{x:SV}(h:(Bq lo hi)[i]?=some x):x = .int (lo+i)/\lo+i<hi:=by
 unfold Bq at h
 have hi':i<(hi - lo).toNat:=by
  have:=(gM h).1;simpa using this
 rw[TB,U6 hi']at h;exact⟨(oj h).symm,by omega⟩
theorem Bi{lo hi:Int}:(Bq lo hi).length=(hi - lo).toNat:=by unfold Bq;simp
noncomputable def pairS(e:Nat×Nat):SV := .tup [.int e.1,.int e.2]
open PySem L2
noncomputable def Og:List Stm:=[(.asg (.nm 2) (.c (.int 0))),(.iff (.cmp .Lt (.var 1) (.bi .len (.cons (.var 0) .nil))) [(.asg (.nm 2) (.ix (.var 0) (.var 1)))] []),(.asg (.nm 3) (.op .Mult (.bi .abs (.cons (.var 2) .nil)) (.bi .int (.cons (.cmp .GtE (.bi .abs (.cons (.var 2) .nil)) (.op .Pow (.c (.int 10)) (.c (.int 18)))) .nil)))),(.ret (.lst (.cons (.var 3) (.cons (.op .Mod (.op .Mult (.op .Mod (.op .Add (.op .Add (.var 2) (.op .Mult (.c (.int 7919)) (.var 1))) (.c (.int 1))) (.c (.int 2147483647))) (.c (.int 48271))) (.c (.int 2147483647))) .nil))))]
noncomputable def Oh:List Stm:=[(.iff (.cmp .Gt (.ix (.var 0) (.c (.int 0))) (.c (.int 0))) [(.asg (.nm 2) (.op .Mod (.ix (.var 0) (.c (.int 0))) (.var 1))),(.put (.var 0) (.c (.int 0)) (.op .FloorDiv (.ix (.var 0) (.c (.int 0))) (.var 1))),(.ret (.var 2))] []),(.put (.var 0) (.c (.int 1)) (.op .Mod (.op .Add (.op .Mult (.ix (.var 0) (.c (.int 1))) (.c (.int 48271))) (.c (.int 12345))) (.c (.int 2147483647)))),(.asg (.nm 3) (.op .Mod (.op .Mult (.ix (.var 0) (.c (.int 1))) (.op .Add (.op .Mod (.ix (.var 0) (.c (.int 1))) (.c (.int 1009))) (.c (.int 3)))) (.c (.int 2147483629)))),(.ret (.op .Mod (.op .Mod (.op .Mult (.var 3) (.op .Add (.op .Mod (.var 3) (.c (.int 997))) (.c (.int 5)))) (.c (.int 998244353))) (.var 1)))]
noncomputable def BS(s:Sn):Prop:=∀{t:Nat} {m:Int} {S:Sto} {Q:QE},TapeS S t->0<m->m<1073741824->(∀(r:Int) (S':Sto),0<=r->r<m->TapeS S' t->On t S S'->S'.length=S.length->Q (.int r) S')->s [.loc t,.int m] S Q
noncomputable def Lx(s:Sn):Prop:=∀{ns:List Int} {k:Nat} {S:Sto} {Q:QE},ns.length<=63->k<=1000->(∀ a b:Int,0<=a->0<=b->b<2147483647->Q (.loc S.length) (S++[.lst [.int a,.int b]]))->s [.ro (ns.map SV.int),.int k] S Q
theorem b01(b:Bool):-(2 ^ 64)<(if b=true then (1:Int) else 0)/\(if b=true then (1:Int) else 0)<2 ^ 64:=by cases b<;>decide
theorem b00(b:Bool):0<=(if b=true then (1:Int) else 0):=by cases b<;>decide
theorem Nm{Δ:Nat->Sn}{D:Df}(hb:D.body=Oh)(hN:D.N.length=4)(hp:D.ps.length=2):BS (j8 Δ D):=by
 intro t m S Q T h0 h1 q;obtain⟨a,b,hS,ha,hb0,hb1⟩:=T.ex;unfold j8;rw[hb,hN];refine⟨hp.symm,?_⟩;have go:∀ r a' b':Int,0<=r->r<m->0<=a'->0<=b'->b'<2147483647->Q (.int r) (S.set t (.lst [.int a',.int b'])):=fun r a' b' r0 r1 a0 b0 b1=>q r _ r0 r1 ⟨a',b',A9 hS,a0,b0,b1⟩ (On.refl t S).tape (by rw[Tc]);refine⟨_,rfl,_,_,c7 hS,rfl,_,rfl,ifD (fun h=>?_) (fun h=>?_)⟩
 ·refine⟨_,rfl,_,_,c7 hS,rfl,_,rfl,h0,?_⟩;refine⟨_,rfl,_,_,c7 hS,rfl,_,rfl,⟨h0,h1⟩,_,rfl,_,_,hS,rfl,_,rfl,?_⟩;exact go _ _ _ (V1 _ (by omega)) (Ur _ h0) (Int.ediv_nonneg ha (by omega)) hb0 hb1
 ·refine⟨_,rfl,_,_,c7 hS,rfl,.inr (by decide),show(0:Int)<2147483647 by decide,_,rfl,_,_,hS,rfl,?_⟩;have e0:0<=(b * 48271+12345) % 2147483647:=V1 _ (by decide);have e1:(b * 48271+12345) % 2147483647<2147483647:=Ur _ (by decide);have hS1:(S.set t (.lst [.int a,.int ((b * 48271+12345) % 2147483647)]))[t]?=some (.lst [.int a,.int ((b * 48271+12345) % 2147483647)]):=A9 hS;refine⟨_,rfl,_,_,c7 hS1,rfl,_,rfl,_,_,c7 hS1,rfl,show(0:Int)<1009 by decide,.inl ⟨by omega,by omega⟩,show(0:Int)<2147483629 by decide,?_⟩;have f0:0<=((b * 48271+12345) % 2147483647 * ((b * 48271+12345) % 2147483647 % 1009+3)) % 2147483629:=V1 _ (by decide);have f1:((b * 48271+12345) % 2147483647 * ((b * 48271+12345) % 2147483647 % 1009+3)) % 2147483629<2147483629:=Ur _ (by decide);refine⟨_,rfl,_,rfl,show(0:Int)<997 by decide,.inl ⟨by omega,by omega⟩,show(0:Int)<998244353 by decide,_,rfl,h0,?_⟩;exact go _ _ _ (V1 _ (by omega)) (Ur _ h0) ha e0 e1
theorem Nn{Δ:Nat->Sn}{D:Df}(hb:D.body=Og)(hN:D.N.length=4)(hp:D.ps.length=2):Lx (j8 Δ D):=by
 intro ns k S Q hl hk q;unfold j8;rw[hb,hN];refine⟨hp.symm,?_⟩
 have fin:∀ c:Int,wSs Δ [(.asg (.nm 3) (.op .Mult (.bi .abs (.cons (.var 2) .nil)) (.bi .int (.cons (.cmp .GtE (.bi .abs (.cons (.var 2) .nil)) (.op .Pow (.c (.int 10)) (.c (.int 18)))) .nil)))),(.ret (.lst (.cons (.var 3) (.cons (.op .Mod (.op .Mult (.op .Mod (.op .Add (.op .Add (.var 2) (.op .Mult (.c (.int 7919)) (.var 1))) (.c (.int 1))) (.c (.int 2147483647))) (.c (.int 48271))) (.c (.int 2147483647))) .nil))))] (AY Q) [some (.ro (ns.map SV.int)),some (.int k),some (.int c),none] S:=fun c=>by
  refine⟨_,rfl,_,rfl,⟨by decide,by decide,by decide⟩,.inr (b01 _),?_⟩;refine⟨_,rfl,_,rfl,_,rfl,.inl ⟨by decide,by decide⟩,show(0:Int)<2147483647 by decide,.inr ⟨by decide,by decide⟩,show(0:Int)<2147483647 by decide,by show 2<=big;decide,?_⟩;refine q _ _ (Int.mul_nonneg (by split<;>omega) (b00 _)) (V1 _ (by decide)) (Ur _ (by decide))
 refine⟨_,rfl,_,rfl,_,rfl,_,rfl,ifD (fun h=>?_) (fun h=>fin 0)⟩
 have hk':k<ns.length:=by
  have:((ns.map SV.int).length:Int)=ns.length:=by rw[Sk]
  omega
 refine⟨_,rfl,_,rfl,_,_,rfl,i6 (v := .int ns[k]) (by rw[TB,Sj hk'];rfl),?_⟩;exact fin _
open PySem L2
structure Ah(t:Nat)(S0 S:Sto)(l:Nat)(es:EE):Prop where
 tape:TapeS S t
 on:On t S0 S
 at':S[l]?=some (.lst (es.map pairS))
 new:S0.length<=l
 t0:t<S0.length
theorem Ah.ne{t l:Nat}{S0 S:Sto}{es:EE}(h:Ah t S0 S l es):l≠t:=by have:=h.new;have:=h.t0;omega
theorem Ah.draw{t l:Nat}{S0 S S':Sto}{es:EE}(h:Ah t S0 S l es)(T:TapeS S' t)(O:On t S S'):Ah t S0 S' l es:=⟨T,h.on.trans O,O.keep _ _ h.ne h.at',h.new,h.t0⟩
theorem Ah.push{t l:Nat}{S0 S:Sto}{es:EE}{o:SO}(h:Ah t S0 S l es):Ah t S0 (S++[o]) l es:=⟨h.tape.push,h.on.push,e6 h.at',h.new,h.t0⟩
theorem Ah.put{t l:Nat}{S0 S:Sto}{es fs:EE}(h:Ah t S0 S l es):Ah t S0 (S.set l (.lst (fs.map pairS))) l fs:=⟨h.tape.other h.ne,h.on.new h.new,A9 h.at',h.new,h.t0⟩
open PySem L2
noncomputable def r6(n:Nat)(es:EE):SV := .tup [.int n,.tup (es.map pairS)]
theorem DT{xs:List SV}:EN xs []=xs.isEmpty:=by cases xs<;>rfl
open PySem L2
noncomputable def Ly:List Stm:=[(.ret (.and (.bi .isi (.cons (.var 0) (.cons (.tyc .int) .nil))) (.not (.bi .isi (.cons (.var 0) (.cons (.tyc .bool) .nil))))))]
noncomputable def E4(k:Nat):List Stm:=[(.ret (.and (.call k (.cons (.var 1) .nil)) (.chn .LtE .Lt (.c (.int 0)) (.var 1) (.ix (.var 0) (.c (.int 0))))))]
noncomputable def IN(k:Nat):List Stm:=[(.ret (.and (.call k (.cons (.var 1) .nil)) (.chn .LtE .Lt (.c (.int 0)) (.var 1) (.bi .len (.cons (.ix (.var 0) (.c (.int 1))) .nil)))))]
noncomputable def Ef(k:Nat):List Stm:=[(.iff (.not (.call k (.cons (.var 0) (.cons (.var 1) .nil)))) [.no] [])]
noncomputable def IO(k:Nat):List Stm:=[(.expr (.call k (.cons (.var 0) (.cons (.var 1) .nil)))),(.ret (.comp ["tie","ends"] ["place"] [1] (.tup (.cons (.nm 0) (.cons (.nm 1) .nil))) (.enum (.ix (.var 0) (.c (.int 1)))) (.yes (.cmp .In (.var 2) (.var 1))) (.var 0)))]
noncomputable def IP(k:Nat):List Stm:=[(.expr (.call k (.cons (.var 0) (.cons (.var 1) .nil)))),(.asg (.tup (.cons (.nm 3) (.cons (.nm 4) .nil))) (.ix (.ix (.var 0) (.c (.int 1))) (.var 1))),(.iff (.cmp .Eq (.var 2) (.var 3)) [(.ret (.var 4))] []),(.iff (.cmp .Eq (.var 2) (.var 4)) [(.ret (.var 3))] []),.no]
noncomputable def D3(s:Sn):Prop:=∀{i:Int} {S:Sto} {Q:QE},Q (.bl true) S->s [.int i] S Q
noncomputable def C2(s:Sn):Prop:=∀{n p:Nat} {es:EE} {S:Sto} {Q:QE},p<n->Q (.bl true) S->s [r6 n es,.int p] S Q
noncomputable def DU(s:Sn):Prop:=∀{n j:Nat} {es:EE} {S:Sto} {Q:QE},j<es.length->Q (.bl true) S->s [r6 n es,.int j] S Q
noncomputable def B8(s:Sn):Prop:=∀{n p:Nat} {es:EE} {S:Sto} {Q:QE},p<n->Q .non S->s [r6 n es,.int p] S Q
noncomputable def C3(s:Sn):Prop:=∀{n j:Nat} {es:EE} {S:Sto} {Q:QE},j<es.length->Q .non S->s [r6 n es,.int j] S Q
noncomputable def e7(es:EE)(p:Nat)(i:Nat):List Nat:=(Sx i).filter fun j=>match es[j]? with | some e=>decide (e.1=p)||decide (e.2=p) | none=>false
noncomputable def natS(xs:List Nat):List SV:=xs.map fun(i:Nat)=>SV.int i
noncomputable def CJ(s:Sn):Prop:=∀{n p:Nat} {es:EE} {S:Sto} {Q:QE},es.length<=5000->p<n->Q (.loc S.length) (S++[.lst (natS (e7 es p es.length))])->s [r6 n es,.int p] S Q
noncomputable def farE(e:Nat×Nat)(p:Nat):Nat:=if p=e.1 then e.2 else e.1
noncomputable def BT(s:Sn):Prop:=∀{n p j:Nat} {es:EE} {e:Nat×Nat} {S:Sto} {Q:QE},es[j]?=some e->(p=e.1\/p=e.2)->Q (.int (farE e p)) S->s [r6 n es,.int j,.int p] S Q
section
variable{Δ:Nat->Sn}
theorem Lz{D:Df}(hb:D.body=Ly)(hN:D.N.length=1)(hp:D.ps.length=1):D3 (j8 Δ D):=by
 intro i S Q q;unfold j8;rw[hb,hN];exact⟨hp.symm,_,rfl,_,nofun,rfl,_,rfl,ifT rfl ⟨_,rfl,_,nofun,rfl,_,rfl,q⟩⟩
theorem Fj{k:Nat}(h0:D3 (Δ k)){D:Df}(hb:D.body=E4 k)(hN:D.N.length=2)(hp:D.ps.length=2):C2 (j8 Δ D):=by
 intro n p es S Q h q;unfold j8;rw[hb,hN];refine⟨hp.symm,_,rfl,h0 ⟨_,rfl,ifT rfl ⟨_,rfl,_,rfl,ifT (decide_eq_true (VN p)) ⟨_,rfl,_,_,rfl,rfl,?_⟩⟩⟩⟩;show Q (.bl (decide ((p:Int)<n))) S;rw[decide_eq_true (by omega)];exact q
theorem Jf{k:Nat}(h0:D3 (Δ k)){D:Df}(hb:D.body=IN k)(hN:D.N.length=2)(hp:D.ps.length=2):DU (j8 Δ D):=by
 intro n p es S Q h q;unfold j8;rw[hb,hN];refine⟨hp.symm,_,rfl,h0 ⟨_,rfl,ifT rfl ⟨_,rfl,_,rfl,ifT (decide_eq_true (VN p)) ⟨_,rfl,_,_,rfl,rfl,_,rfl,?_⟩⟩⟩⟩;show Q (.bl (decide ((p:Int)<(es.map pairS).length))) S;rw[decide_eq_true (by rw[Sk];omega)];exact q
theorem Dj{k:Nat}(h0:C2 (Δ k)){D:Df}(hb:D.body=Ef k)(hN:D.N.length=2)(hp:D.ps.length=2):B8 (j8 Δ D):=by
 intro n p es S Q h q;unfold j8;rw[hb,hN];exact⟨hp.symm,_,rfl,_,rfl,h0 h ⟨_,rfl,ifF rfl q⟩⟩
theorem Fk{k:Nat}(h0:DU (Δ k)){D:Df}(hb:D.body=Ef k)(hN:D.N.length=2)(hp:D.ps.length=2):C3 (j8 Δ D):=by
 intro n p es S Q h q;unfold j8;rw[hb,hN];exact⟨hp.symm,_,rfl,_,rfl,h0 h ⟨_,rfl,ifF rfl q⟩⟩
theorem HI{xs:List SV}{i:Nat}{x:SV}(h:(BN xs)[i]?=some x):∃ y,xs[i]?=some y/\x = .tup [.int i,y]:=by
 unfold BN at h;rw[Vi]at h;cases hy:xs[i]? with
 | none=>rw[hy]at h;revert h;cases(Sx xs.length)[i]?<;>exact nofun
 | some y=>
   have hi:=(gM hy).1;rw[hy,U6 hi]at h;exact⟨y,rfl,(oj h).symm⟩
theorem Eg{xs:List SV}:(BN xs).length=xs.length:=by unfold BN;simp
theorem BU{es:EE}{i:Nat}{x:SV}(h:(es.map pairS)[i]?=some x):∃ e,es[i]?=some e/\x=pairS e:=by
 rw[TB]at h;cases he:es[i]? with
 | none=>rw[he]at h;cases h
 | some e=>rw[he]at h;exact⟨e,rfl,(oj h).symm⟩
theorem IQ(p:Nat)(e:Nat×Nat):inS (.int p) [.int e.1,.int e.2]=(decide (e.1=p)||decide (e.2=p)):=by
 have k:∀ a:Nat,((a:Int) == (p:Int))=decide (a=p):=fun a=>by
  rw[UN];simp[Ut]
 unfold inS;simp only[UZ,List.any_nil,WV,eqF,k]
theorem BV(es:EE)(p i:Nat){e:Nat×Nat}(h:es[i]?=some e):e7 es p (i+1)=e7 es p i++if (decide (e.1=p)||decide (e.2=p))=true then [i] else []:=by
 unfold e7;rw[V2,VO]
 congr 1
 rw[VW,h];rfl
theorem B9(es:EE)(p i:Nat):(e7 es p i).length<=i:=by
 have:=Uv (fun j=>match es[j]? with | some e=>decide (e.1=p)||decide (e.2=p) | none=>false) (Sx i);rw[UM]at this;exact this
theorem mem_tiesAt{es:EE}{p j:Nat}:j∈e7 es p es.length↔∃ e,es[j]?=some e/\(e.1=p\/e.2=p):=by
 unfold e7;rw[UE,TY];constructor
 ·rintro⟨h,h2⟩;rw[Sj h]at h2;exact⟨_,Sj h,by simpa using h2⟩
 ·rintro⟨e,h,h2⟩;refine⟨(gM h).1,?_⟩;rw[h];simpa using h2
theorem Jg{k:Nat}(hΔ:∀ f,MonoN (Δ f))(h0:B8 (Δ k)){D:Df}(hb:D.body=IO k)(hN:D.N.length=2)(hp:D.ps.length=2):CJ (j8 Δ D):=by
 intro n p es S Q hl h q;unfold j8;rw[hb,hN];refine⟨hp.symm,_,rfl,_,rfl,h0 h ⟨_,rfl,_,_,rfl,rfl,_,rfl,?_⟩⟩;refine q0 (i9 hΔ _).2 (a8 hΔ _).1 (fun i ys S'=>S'=S/\ys=natS (e7 es p i)) ⟨rfl,rfl⟩ (fun _ _ _ _=>trivial) ?_ ?_
 ·rintro i x ys S' hx ⟨rfl,rfl⟩;obtain⟨y,hy,rfl⟩:=HI hx;obtain⟨e,he,rfl⟩:=BU hy;have hi:=(gM he).1;have ht:=B9 es p i;refine⟨_,rfl,_,rfl,rfl,_,rfl,rfl,_,rfl,?_⟩;show if inS (.int p) [.int e.1,.int e.2]=true then _ else _
  rw[IQ];refine ifB (fun h=>?_) (fun h=>?_)
  ·refine⟨_,rfl,by show(natS _).length<100000;unfold natS;rw[Sk];omega,rfl,?_⟩;rw[BV es p i he,if_pos h];unfold natS;rw[Tt];rfl
  ·refine⟨rfl,?_⟩;rw[BV es p i he,if_neg (by rw[h];decide),UF]
 ·rintro ys S' ⟨rfl,rfl⟩;rw[Eg,Sk];exact q
theorem Jh{k:Nat}(h0:C3 (Δ k)){D:Df}(hb:D.body=IP k)(hN:D.N.length=5)(hp:D.ps.length=3):BT (j8 Δ D):=by
 intro n p j es e S Q he h q;unfold j8;rw[hb,hN];refine⟨hp.symm,_,rfl,_,rfl,h0 (gM he).1 ⟨_,rfl,_,_,rfl,rfl,_,rfl,_,pairS e,rfl,i6 (by rw[TB,he];rfl),?_⟩⟩;refine⟨_,rfl,_,rfl,_,rfl,?_⟩;refine ifD (fun h1=>⟨_,rfl,?_⟩) (fun h1=>⟨_,rfl,_,rfl,_,rfl,ifD (fun h2=>⟨_,rfl,?_⟩) (fun h2=>?_)⟩)
 ·have h1:p=e.1:=Ut.mp h1;unfold farE at q;rw[if_pos h1]at q;exact q
 ·have h1:¬ p=e.1:=fun z=>h1 (congrArg _ z);unfold farE at q;rw[if_neg h1]at q;exact q
 ·rcases h with h | h
  ·exact absurd (congrArg Wi h) h1
  ·exact absurd (congrArg Wi h) h2
end
open PySem L2
theorem e8{xs:List Nat}:(natS xs).length=xs.length:=by unfold natS;rw[Sk]
theorem Az{xs:List Nat}{i x:Nat}(h:xs[i]?=some x):(natS xs)[i]?=some (.int x):=by unfold natS;rw[TB,h];rfl
theorem j5{xs ys:List Nat}:natS (xs++ys)=natS xs++natS ys:=by unfold natS;rw[Tt]
theorem No(m:Nat):Bq 0 (m:Int)=natS (Sx m):=by
 unfold Bq natS;simp
open PySem L2
noncomputable def Fl(kf:Nat):List Stm:=[(.asg (.nm 3) (.lst .nil)),(.whl (.cmp .IsNot (.ix (.var 2) (.var 1)) (.c .non)) [(.expr (.mt .append (.var 3) (.cons (.ix (.var 2) (.var 1)) .nil))),(.asg (.nm 1) (.call kf (.cons (.var 0) (.cons (.ix (.var 2) (.var 1)) (.cons (.var 1) .nil)))))]),(.ret (.var 3))]
noncomputable def Ry:Option Nat->SV
 | some j => .int j
 | none => .non
noncomputable def optsS(xs:List (Option Nat)):List SV:=xs.map Ry
theorem u8{xs:List (Option Nat)}{i:Nat}{x:Option Nat}(h:xs[i]?=some x):(optsS xs)[i]?=some (Ry x):=by unfold optsS;rw[TB,h];rfl
structure Tr(n:Nat)(es:EE)(bk:List (Option Nat))(dep:Nat->Nat):Prop where
 len:bk.length=n
 up:∀ p j:Nat,bk[p]?=some (some j)->∃ e,es[j]?=some e/\(p=e.1\/p=e.2)/\farE e p<n/\dep p=dep (farE e p)+1
 few:∀ p,dep p<=1000
noncomputable def upW(es:EE)(bk:List (Option Nat)):Nat->Nat->List Nat
 | 0,_=>[]
 | f+1,p=>match bk[p]? with
   | some (some j)=>j::upW es bk f (match es[j]? with | some e=>farE e p | none=>0)
   | _=>[]
theorem Bj(es:EE)(bk:List (Option Nat)):∀ f p,(upW es bk f p).length<=f
 | 0,_=>Sr _
 | f+1,p=>by
   unfold upW;split
   ·rw[Tq];have:=Bj es bk f;exact W3 (this _)
   ·exact U7 _
theorem DV{es:EE}{bk:List (Option Nat)}{f p j:Nat}{e:Nat×Nat}(h:bk[p]?=some (some j))(he:es[j]?=some e):upW es bk (f+1) p=j::upW es bk f (farE e p):=by
 rw[upW,h];simp only[he]
theorem M4{es:EE}{bk:List (Option Nat)}{f p:Nat}(h:bk[p]?=some none):upW es bk f p=[]:=by
 cases f with
 | zero=>rfl
 | succ f=>rw[upW,h]
noncomputable def Ce(s:Sn):Prop:=∀{n p b:Nat} {es:EE} {bk:List (Option Nat)} {dep:Nat->Nat} {S:Sto} {Q:QE},Tr n es bk dep->p<n->S[b]?=some (.lst (optsS bk))->Q (.loc S.length) (S++[.lst (natS (upW es bk (dep p) p))])->s [r6 n es,.int p,.loc b] S Q
theorem HJ{Δ:Nat->Sn}{kf:Nat}(hf:BT (Δ kf)){D:Df}(hb:D.body=Fl kf)(hN:D.N.length=4)(hp:D.ps.length=3):Ce (j8 Δ D):=by
 intro n p b es bk dep S Q T hpn hS q;unfold j8;rw[hb,hN];refine⟨hp.symm,by show 0<=big;decide,?_⟩;refine⟨fun m ρ S'=>∃(p':Nat) (ds:List Nat),ρ=[some (r6 n es),some (.int p'),some (.loc b),some (.loc S.length)]/\S'=S++[.lst (natS ds)]/\ds++upW es bk (dep p') p'=upW es bk (dep p) p/\dep p'=m/\p'<n,⟨_,p,[],rfl,rfl,rfl,rfl,hpn⟩,?_⟩;rintro m ρ _ ⟨p',ds,rfl,rfl,hd,rfl,hp'⟩;have hS2:(S++[SO.lst (natS ds)])[b]?=some (.lst (optsS bk)):=e6 hS;have hlt:p'<bk.length:=by rw[T.len];exact hp'
 have hbl:=AA hS;cases hx:bk[p'] with
 | none=>
   have h:bk[p']?=some none:=by rw[Sj hlt,hx]
   rw[M4 h,UF]at hd;refine⟨_,rfl,_,rfl,_,_,c7 hS2,i6 (u8 h),.inl ⟨rfl,_,rfl,ifF rfl ⟨_,rfl,?_⟩⟩⟩;rw[hd];exact q
 | some j=>
   have h:bk[p']?=some (some j):=by rw[Sj hlt,hx]
   obtain⟨e,he,hend,hfn,hdep⟩:=T.up p' j h
   have hdl:ds.length<=1000:=by
    have h1:=congrArg Ul hd;rw[Sl]at h1;have h2:=Bj es bk (dep p) p;have h3:=T.few p;omega
   have e1:(S++[SO.lst (natS ds)]).set S.length (.lst (natS ds++[.int j]))=S++[.lst (natS (ds++[j]))]:=by
    rw[Vg _ _ (Sr _),We,j5];rfl
   refine⟨_,rfl,_,rfl,_,_,c7 hS2,i6 (u8 h),.inl ⟨rfl,_,rfl,ifT rfl ?_⟩⟩;refine⟨_,rfl,⟨_,_,rfl,c9⟩,_,rfl,_,rfl,_,_,c7 hS2,i6 (u8 h),_,c9,by rw[e8];show _<100000;omega,?_⟩;show wSs Δ _ _ _ ((S++[SO.lst (natS ds)]).set S.length (.lst (natS ds++[.int j])));rw[e1];have hS3:(S++[SO.lst (natS (ds++[j]))])[b]?=some (.lst (optsS bk)):=e6 hS;refine⟨_,rfl,_,rfl,_,rfl,_,_,c7 hS3,i6 (u8 h),_,rfl,hf he hend ?_⟩;refine⟨dep (farE e p'),by omega,farE e p',ds++[j],rfl,rfl,?_,rfl,hfn⟩;rw[TF,<-hd,hdep,DV h he];rfl
open PySem L2
structure Gw(S S':Sto):Prop where
 len:S.length<=S'.length
 keep:∀(k:Nat) (o:SO),S[k]?=some o->S'[k]?=some o
theorem Gw.refl(S:Sto):Gw S S:=⟨Sr _,fun _ _ h=>h⟩
theorem Gw.push{S S':Sto}{o:SO}(h:Gw S S'):Gw S (S'++[o]):=⟨by rw[Sl];have:=h.len;omega,fun k u z=>e6 (h.keep k u z)⟩
theorem Gw.put{S S':Sto}{o:SO}{k:Nat}(h:Gw S S')(hk:S.length<=k):Gw S (S'.set k o):=⟨by rw[Tc];exact h.len,fun j u z=>by
 rw[m7 (fun e=>by have:=AA z;omega)];exact h.keep j u z⟩
theorem Gw.trans{S S' S'':Sto}(a:Gw S S')(b:Gw S' S''):Gw S S'':=⟨Td a.len b.len,fun k o h=>b.keep k o (a.keep k o h)⟩
noncomputable def w1':Stm:=(.asg (.tup (.cons (.nm 3) (.cons (.nm 4) .nil))) (.ix (.ix (.var 0) (.c (.int 1))) (.var 1)))
noncomputable def w2'(kw:Nat):Stm:=(.asg (.nm 5) (.call kw (.cons (.var 0) (.cons (.var 3) (.cons (.var 2) .nil)))))
noncomputable def w3'(kw:Nat):Stm:=(.asg (.nm 6) (.call kw (.cons (.var 0) (.cons (.var 4) (.cons (.var 2) .nil)))))
noncomputable def w4':Stm:=(.whl (.and (.var 5) (.and (.var 6) (.cmp .Eq (.ix (.var 5) (.neg (.c (.int 1)))) (.ix (.var 6) (.neg (.c (.int 1))))))) [(.expr (.mt .pop (.var 5) .nil)),(.expr (.mt .pop (.var 6) .nil))])
noncomputable def w5':Stm:=(.ret (.op .Add (.op .Add (.var 5) (.rev (.var 6))) (.lst (.cons (.var 1) .nil))))
noncomputable def Oi(kw:Nat):List Stm:=[w1',w2' kw,w3' kw,w4',w5']
structure Cut(as bs us ds:List Nat):Prop where
 ex:∃ cm,as=us++cm/\bs=ds++cm
 ne:∀(x y:Nat) (us' ds':List Nat),us=us'++[x]->ds=ds'++[y]->x≠y
noncomputable def Eh(s:Sn):Prop:=∀{n j b:Nat} {es:EE} {e:Nat×Nat} {bk:List (Option Nat)} {dep:Nat->Nat} {S:Sto} {Q:QE},Tr n es bk dep->es[j]?=some e->e.1<n->e.2<n->S[b]?=some (.lst (optsS bk))->
 (∀(us ds:List Nat) (l:Nat) (S':Sto),Cut (upW es bk (dep e.1) e.1) (upW es bk (dep e.2) e.2) us ds->Gw S S'->S.length<=l->S'[l]?=some (.lst (natS (us++ds.reverse++[j])))->Q (.loc l) S')->s [r6 n es,.int j,.loc b] S Q
theorem M5{xs:List Nat}:(natS xs).reverse=natS xs.reverse:=by unfold natS;rw[List.map_reverse]
theorem DW{xs:List Nat}{x:Nat}:(natS (xs++[x])).dropLast=natS xs:=by rw[j5];exact List.dropLast_concat
theorem Cf{xs:List Nat}{x:Nat}:(natS (xs++[x]))[(natS (xs++[x])).length - 1]?=some (.int x):=by
 rw[j5,Sl];exact TX
theorem Ag(xs:List Nat):xs=[]\/∃ ys y,xs=ys++[y]:=by
 rcases List.eq_nil_or_concat xs with h | ⟨ys,y,h⟩
 ·exact .inl h
 ·exact .inr ⟨ys,y,by rw[h,List.concat_eq_append]⟩
theorem Np{Δ:Nat->Sn}{kw:Nat}(hw:Ce (Δ kw)){D:Df}(hb:D.body=Oi kw)(hN:D.N.length=7)(hp:D.ps.length=3):Eh (j8 Δ D):=by
 intro n j b es e bk dep S Q T he h1 h2 hS q;unfold j8;rw[hb,hN];refine⟨hp.symm,_,rfl,_,_,rfl,rfl,_,rfl,_,pairS e,rfl,i6 (by rw[TB,he];rfl),?_⟩;refine⟨_,rfl,_,rfl,_,rfl,hw T h1 hS ?_⟩;refine⟨_,rfl,_,rfl,_,rfl,hw T h2 (e6 hS) ?_⟩;have la:=Bj es bk (dep e.1) e.1;have lb:=Bj es bk (dep e.2) e.2;have fa:=T.few e.1;have fb:=T.few e.2;generalize upW es bk (dep e.1) e.1=as at *;generalize upW es bk (dep e.2) e.2=bs at *;have hl2:S.length<(S++[SO.lst (natS as)]).length:=by simp
 generalize hk:(S++[SO.lst (natS as)]).length=k2 at *
 refine⟨fun m ρ S'=>∃ us ds cm,ρ=[some (r6 n es),some (.int j),some (.loc b),some (.int e.1),some (.int e.2),some (.loc S.length),some (.loc k2)]/\Gw S S'/\S'[S.length]?=some (.lst (natS us))/\S'[k2]?=some (.lst (natS ds))/\as=us++cm/\bs=ds++cm/\us.length=m,
  ⟨_,as,bs,[],rfl,(Gw.refl S).push.push,e6 c9,by rw[<-hk];exact c9,by simp,by simp,rfl⟩,?_⟩
 rintro m ρ S' ⟨us,ds,cm,rfl,G,hu,hd,ea,eb,rfl⟩;have hul:us.length<=1000:=by have:=congrArg Ul ea;rw[Sl]at this;omega
 have hdl:ds.length<=1000:=by have:=congrArg Ul eb;rw[Sl]at this;omega
 have fin:(∀(x y:Nat) (us' ds':List Nat),us=us'++[x]->ds=ds'++[y]->x≠y)->wSs Δ [w5'] (AY Q) [some (r6 n es),some (.int j),some (.loc b),some (.int e.1),some (.int e.2),some (.loc S.length),some (.loc k2)] S':=by
  intro hne;refine⟨_,rfl,_,rfl,_,hd,_,_,e6 hu,c9,by rw[UY,e8,e8];show _<=100000;omega,_,rfl,by show 1<=big;decide,_,_,e6 c9,c9,by rw[Sl,UY,e8,e8];show _+1<=100000;omega,?_⟩;refine q us ds _ _ ⟨⟨cm,ea,eb⟩,hne⟩ G.push.push.push.push ?_ ?_
  ·have:=G.len;simp;omega
  ·rw[c9,j5,j5,M5];rfl
 refine⟨_,rfl,_,Ee hu,?_⟩;rcases Ag us with rfl | ⟨us',x,rfl⟩
 ·exact ifF rfl (ifF rfl (fin fun x y us' ds' h=>by simp at h))
 refine ifT (by rw[j5];simp[natS]) ⟨_,rfl,_,Ee hd,?_⟩;rcases Ag ds with rfl | ⟨ds',y,rfl⟩
 ·exact ifF rfl (ifF rfl (fin fun x y us' ds' _ h=>by simp at h))
 refine ifT (by rw[j5];simp[natS]) ?_;have ax:atI (natS (us'++[x])) (-1)=some (.int x):=by rw[j5];exact Eu _ _
 have ay:atI (natS (ds'++[y])) (-1)=some (.int y):=by rw[j5];exact Eu _ _
 refine⟨_,rfl,_,_,c7 hu,ax,_,rfl,_,_,c7 hd,ay,_,rfl,?_⟩;refine ifD (fun hxy=>?_) (fun hxy=>fin fun x' y' us2 ds2 hu2 hd2 z=>hxy ?_)
 ·have hxy:x=y:=Ut.mp hxy;subst hxy;refine⟨_,rfl,⟨_,_,rfl,hu⟩,_,_,hu,Cf,?_⟩;rw[DW];have hd3:(S'.set S.length (.lst (natS us')))[k2]?=some (.lst (natS (ds'++[x]))):=by rw[m7 (by omega)];exact hd
  refine⟨_,rfl,⟨_,_,rfl,hd3⟩,_,_,hd3,Cf,?_⟩;rw[DW];refine⟨us'.length,by simp,us',ds',x::cm,rfl,(G.put (Sr _)).put (by omega),by rw[m7 (by omega)];exact A9 hu,A9 hd3,by rw[ea];simp,by rw[eb];simp,rfl⟩
 ·have e1:=W8 hu2 rfl;have e2:=W8 hd2 rfl;have e1:x=x':=by simpa using e1.2
  have e2:y=y':=by simpa using e2.2
  rw[e1,e2,z]
open PySem L2
noncomputable def IsSet(sd:List (Option Nat))(p:Nat):Prop:=∃ v,sd[p]?=some (some v)
noncomputable def upd(f:Nat->Nat)(p x:Nat):Nat->Nat:=fun q=>if q=p then x else f q
theorem w9{f:Nat->Nat}{p x:Nat}:upd f p x p=x:=if_pos rfl
theorem upd_ne{f:Nat->Nat}{p x q:Nat}(h:q≠p):upd f p x q=f q:=if_neg h
theorem B0{e:Nat×Nat}{p:Nat}(hp:p=e.1\/p=e.2):farE e p=e.1\/farE e p=e.2:=by
 unfold farE;by_cases h:p=e.1
 ·rw[if_pos h];exact .inr rfl
 ·rw[if_neg h];exact .inl rfl
theorem BW{e:Nat×Nat}{p:Nat}(he:e.1≠e.2)(hp:p=e.1\/p=e.2):farE e (farE e p)=p:=by
 unfold farE;by_cases h:p=e.1
 ·rw[if_pos h,if_neg (Ne.symm he),h]
 ·rw[if_neg h,if_pos rfl];rcases hp with hp | hp
  ·exact absurd hp h
  ·exact hp.symm
structure Gs(n:Nat)(es:EE)(sd bk:List (Option Nat))(dep rt:Nat->Nat)(op:Nat->Nat->Prop):Prop where
 ls:sd.length=n
 lb:bk.length=n
 val:∀ p v:Nat,sd[p]?=some (some v)->v=dep p % 2
 up:∀ p j:Nat,bk[p]?=some (some j)->∃ e,es[j]?=some e/\(p=e.1\/p=e.2)/\IsSet sd p/\IsSet sd (farE e p)/\dep p=dep (farE e p)+1/\rt (farE e p)=rt p
 root:∀ p:Nat,IsSet sd p->bk[p]?=some none->rt p=p/\dep p=0
 low:∀ p:Nat,IsSet sd p->dep p<sd.countP UD
 un:∀ p:Nat,¬ IsSet sd p->dep p=0
 cl:∀(p j:Nat) (e:Nat×Nat),IsSet sd p->es[j]?=some e->(p=e.1\/p=e.2)->op p j\/(IsSet sd (farE e p)/\rt (farE e p)=rt p)
 lo:∀ p:Nat,IsSet sd p->rt p<=p
theorem y8{sd:List (Option Nat)}{f q x:Nat}(h:IsSet (sd.set f (some x)) q):q=f\/IsSet sd q:=by
 by_cases hq:q=f
 ·exact .inl hq
 ·obtain⟨v,hv⟩:=h;rw[Th (Ne.symm hq)]at hv;exact .inr ⟨v,hv⟩
theorem i0{sd:List (Option Nat)}{f q x:Nat}(hf:f<sd.length)(h:IsSet sd q):IsSet (sd.set f (some x)) q:=by
 by_cases hq:q=f
 ·subst hq;exact⟨x,TN hf⟩
 ·obtain⟨v,hv⟩:=h;exact⟨v,by rw[Th (Ne.symm hq)];exact hv⟩
theorem AU{sd:List (Option Nat)}{f x:Nat}(h:sd[f]?=some none):(sd.set f (some x)).countP UD=sd.countP UD+1:=by
 obtain⟨hf,hx⟩:=gM h;rw[List.countP_set hf,hx];simp
theorem Gs.give{n:Nat}{es:EE}{sd bk:List (Option Nat)}{dep rt:Nat->Nat}{op op':Nat->Nat->Prop}(G:Gs n es sd bk dep rt op){p j:Nat}{e:Nat×Nat}(hp:IsSet sd p)(he:es[j]?=some e)(hpe:p=e.1\/p=e.2)(hne:e.1≠e.2)(hf:sd[farE e p]?=some none)
 (ho:∀ q i,op q i->op' q i\/(q=p/\i=j)) (hn:∀ i,op' (farE e p) i) (hlo:rt p<=farE e p):Gs n es (sd.set (farE e p) (some (1 - dep p % 2))) (bk.set (farE e p) (some j)) (upd dep (farE e p) (dep p+1)) (upd rt (farE e p) (rt p)) op':=by
 have hfl:farE e p<sd.length:=(gM hf).1;have hns:∀ q,IsSet sd q->q≠farE e p:=fun q ⟨v,hv⟩ z=>by rw[z,hf]at hv;cases hv
 have hself:IsSet (sd.set (farE e p) (some (1 - dep p % 2))) (farE e p):=⟨_,TN hfl⟩
 have hpf:=hns p hp;refine⟨by rw[Tc];exact G.ls,by rw[Tc];exact G.lb,fun q v hv=>?_,fun q i hi=>?_,fun q hq hi=>?_,fun q hq=>?_,fun q hq=>?_,fun q i e' hq hi hqe=>?_,fun q hq=>?_⟩
 ·by_cases hqf:q=farE e p
  ·subst hqf;rw[TN hfl]at hv;rw[w9];have:=oj (oj hv);omega
  ·rw[Th (Ne.symm hqf)]at hv;rw[upd_ne hqf];exact G.val q v hv
 ·by_cases hqf:q=farE e p
  ·subst hqf;rw[TN (by rw[G.lb,<-G.ls];exact hfl)]at hi;have:=oj (oj hi);subst this;refine⟨e,he,B0 hpe,hself,?_⟩;rw[BW hne hpe,w9,w9,upd_ne hpf,upd_ne hpf];exact⟨i0 hfl hp,rfl,rfl⟩
  ·rw[Th (Ne.symm hqf)]at hi;obtain⟨e',h1,h2,h3,h4,h5,h6⟩:=G.up q i hi;refine⟨e',h1,h2,i0 hfl h3,i0 hfl h4,?_⟩;rw[upd_ne hqf,upd_ne hqf,upd_ne (hns _ h4),upd_ne (hns _ h4)];exact⟨h5,h6⟩
 ·by_cases hqf:q=farE e p
  ·subst hqf;rw[TN (by rw[G.lb,<-G.ls];exact hfl)]at hi;cases hi
  ·rw[Th (Ne.symm hqf)]at hi;rw[upd_ne hqf,upd_ne hqf];rcases y8 hq with h | h
   ·exact absurd h hqf
   ·exact G.root q h hi
 ·rw[AU hf];by_cases hqf:q=farE e p
  ·subst hqf;rw[w9];have:=G.low p hp;omega
  ·rw[upd_ne hqf];rcases y8 hq with h | h
   ·exact absurd h hqf
   ·have:=G.low q h;omega
 ·have hqf:q≠farE e p:=fun z=>hq (z▸hself);rw[upd_ne hqf];exact G.un q fun z=>hq (i0 hfl z)
 ·by_cases hqf:q=farE e p
  ·exact .inl (hqf▸hn i)
  ·rcases y8 hq with h | h
   ·exact absurd h hqf
   ·rcases G.cl q i e' h hi hqe with z | ⟨z1,z2⟩
    ·rcases ho q i z with z | ⟨rfl,rfl⟩
     ·exact .inl z
     ·rw[he]at hi;have:=oj hi;subst this;refine .inr ⟨hself,?_⟩;rw[w9,upd_ne hqf]
    ·refine .inr ⟨i0 hfl z1,?_⟩;rw[upd_ne (hns _ z1),upd_ne hqf];exact z2
 ·by_cases hqf:q=farE e p
  ·rw[hqf,w9];exact hlo
  ·rw[upd_ne hqf];rcases y8 hq with h | h
   ·exact absurd h hqf
   ·exact G.lo q h
theorem Gs.tr{n:Nat}{es:EE}{sd bk:List (Option Nat)}{dep rt:Nat->Nat}{op:Nat->Nat->Prop}(G:Gs n es sd bk dep rt op)(hn:n<=1000):Tr n es bk dep:=by
 refine⟨G.lb,fun p j h=>?_,fun p=>?_⟩
 ·obtain⟨e,h1,h2,h3,⟨v,h4⟩,h5,h6⟩:=G.up p j h;refine⟨e,h1,h2,?_,h5⟩;rw[<-G.ls];exact(gM h4).1
 ·by_cases h:IsSet sd p
  ·have h1:=G.low p h;have h2:=Ue (p:=UD) (l:=sd);rw[G.ls]at h2;omega
  ·rw[G.un p h];omega
theorem Gs.begin{n:Nat}{es:EE}{sd bk:List (Option Nat)}{dep rt:Nat->Nat}{op op':Nat->Nat->Prop}(G:Gs n es sd bk dep rt op){s:Nat}(hs:sd[s]?=some none)(ho:∀ q i,op q i->op' q i)(hn:∀ i,op' s i):Gs n es (sd.set s (some 0)) bk dep (upd rt s s) op':=by
 have hsl:s<sd.length:=(gM hs).1;have hns:∀ q,IsSet sd q->q≠s:=fun q ⟨v,hv⟩ z=>by rw[z,hs]at hv;cases hv
 have hself:IsSet (sd.set s (some 0)) s:=⟨_,TN hsl⟩
 have hd:dep s=0:=G.un s fun z=>hns s z rfl;refine⟨by rw[Tc];exact G.ls,G.lb,fun q v hv=>?_,fun q i hi=>?_,fun q hq hi=>?_,fun q hq=>?_,fun q hq=>?_,fun q i e' hq hi hqe=>?_,fun q hq=>?_⟩
 ·by_cases hqf:q=s
  ·subst hqf;rw[TN hsl]at hv;have:=oj (oj hv);rw[hd];omega
  ·rw[Th (Ne.symm hqf)]at hv;exact G.val q v hv
 ·obtain⟨e',h1,h2,h3,h4,h5,h6⟩:=G.up q i hi;refine⟨e',h1,h2,i0 hsl h3,i0 hsl h4,h5,?_⟩;rw[upd_ne (hns _ h3),upd_ne (hns _ h4)];exact h6
 ·by_cases hqf:q=s
  ·subst hqf;rw[w9];exact⟨rfl,hd⟩
  ·rw[upd_ne hqf];rcases y8 hq with h | h
   ·exact absurd h hqf
   ·exact G.root q h hi
 ·rw[AU hs];rcases y8 hq with h | h
  ·rw[h,hd];omega
  ·have:=G.low q h;omega
 ·exact G.un q fun z=>hq (i0 hsl z)
 ·by_cases hqf:q=s
  ·exact .inl (hqf▸hn i)
  ·rcases y8 hq with h | h
   ·exact absurd h hqf
   ·rcases G.cl q i e' h hi hqe with z | ⟨z1,z2⟩
    ·exact .inl (ho q i z)
    ·refine .inr ⟨i0 hsl z1,?_⟩;rw[upd_ne (hns _ z1),upd_ne hqf];exact z2
 ·by_cases hqf:q=s
  ·rw[hqf,w9];exact Sr _
  ·rw[upd_ne hqf];rcases y8 hq with h | h
   ·exact absurd h hqf
   ·exact G.lo q h
theorem Gs.close{n:Nat}{es:EE}{sd bk:List (Option Nat)}{dep rt:Nat->Nat}{op op':Nat->Nat->Prop}(G:Gs n es sd bk dep rt op){p j:Nat}{e:Nat×Nat}(he:es[j]?=some e)(hpe:p=e.1\/p=e.2)(hne:e.1≠e.2)(hf:IsSet sd (farE e p))
 (ho:∀ q i,op q i->op' q i\/(q=p/\i=j)) (hs:op (farE e p) j->rt (farE e p)=rt p):Gs n es sd bk dep rt op':=by
 have hr:rt (farE e p)=rt p:=by
  rcases G.cl (farE e p) j e hf he (B0 hpe) with z | ⟨z1,z2⟩
  ·exact hs z
  ·rw[BW hne hpe]at z2;exact z2.symm
 refine⟨G.ls,G.lb,G.val,G.up,G.root,G.low,G.un,fun q i e' hq hi hqe=>?_,G.lo⟩;rcases G.cl q i e' hq hi hqe with z | z
 ·rcases ho q i z with z | ⟨rfl,rfl⟩
  ·exact .inl z
  ·rw[he]at hi;have:=oj hi;subst this;exact .inr ⟨hf,hr⟩
 ·exact .inr z
theorem Gs.more{n:Nat}{es:EE}{sd bk:List (Option Nat)}{dep rt:Nat->Nat}{op op':Nat->Nat->Prop}(G:Gs n es sd bk dep rt op)(ho:∀ q i e,es[i]?=some e->(q=e.1\/q=e.2)->op q i->op' q i):Gs n es sd bk dep rt op':=
 ⟨G.ls,G.lb,G.val,G.up,G.root,G.low,G.un,fun q i e' hq hi hqe=>(G.cl q i e' hq hi hqe).imp (ho q i e' hi hqe) id,G.lo⟩
open PySem L2
noncomputable def z1:Stm:=(.put (.var 2) (.var 1) (.c (.int 0)))
noncomputable def z2:Stm:=(.asg (.nm 4) (.lst (.cons (.var 1) .nil)))
noncomputable def zin(kf:Nat):List Stm:=[(.asg (.nm 7) (.call kf (.cons (.var 0) (.cons (.var 6) (.cons (.var 5) .nil))))),(.iff (.cmp .Is (.ix (.var 2) (.var 7)) (.c .non)) [(.put (.var 2) (.var 7) (.op .Sub (.c (.int 1)) (.ix (.var 2) (.var 5)))),(.put (.var 3) (.var 7) (.var 6)),(.expr (.mt .append (.var 4) (.cons (.var 7) .nil)))] [])]
noncomputable def z3(kt kf:Nat):Stm:=(.whl (.var 4) [(.asg (.nm 5) (.mt .pop (.var 4) .nil)),(.loop (.nm 6) (.seq (.call kt (.cons (.var 0) (.cons (.var 5) .nil)))) (zin kf))])
noncomputable def Oj(kt kf:Nat):List Stm:=[z1,z2,z3 kt kf]
structure Gm(a b w:Nat)(S0 S:Sto)(sd bk:List (Option Nat))(wt:List Nat):Prop where
 ha:S[a]?=some (.lst (optsS sd))
 hb:S[b]?=some (.lst (optsS bk))
 hw:S[w]?=some (.lst (natS wt))
 len:S0.length<=S.length
 keep:∀(k:Nat) (o:SO),k≠a->k≠b->S0[k]?=some o->S[k]?=some o
 ab:a≠b
 a0:a<S0.length
 b0:b<S0.length
 w0:S0.length<=w
section
variable{a b w:Nat}{S0 S:Sto}{sd bk sd' bk':List (Option Nat)}{wt wt':List Nat}
theorem Gm.push{o:SO}(G:Gm a b w S0 S sd bk wt):Gm a b w S0 (S++[o]) sd bk wt:=⟨e6 G.ha,e6 G.hb,e6 G.hw,by rw[Sl];have:=G.len;omega,fun k u h1 h2 h=>e6 (G.keep k u h1 h2 h),G.ab,G.a0,G.b0,G.w0⟩
theorem Gm.seta(G:Gm a b w S0 S sd bk wt):Gm a b w S0 (S.set a (.lst (optsS sd'))) sd' bk wt:=
 ⟨A9 G.ha,by rw[m7 G.ab];exact G.hb,by rw[m7 (by have:=G.a0;have:=G.w0;omega)];exact G.hw,by rw[Tc];exact G.len,fun k u h1 h2 h=>by rw[m7 (Ne.symm h1)];exact G.keep k u h1 h2 h,G.ab,G.a0,G.b0,G.w0⟩
theorem Gm.setb(G:Gm a b w S0 S sd bk wt):Gm a b w S0 (S.set b (.lst (optsS bk'))) sd bk' wt:=
 ⟨by rw[m7 (Ne.symm G.ab)];exact G.ha,A9 G.hb,by rw[m7 (by have:=G.b0;have:=G.w0;omega)];exact G.hw,by rw[Tc];exact G.len,fun k u h1 h2 h=>by rw[m7 (Ne.symm h2)];exact G.keep k u h1 h2 h,G.ab,G.a0,G.b0,G.w0⟩
theorem Gm.setw(G:Gm a b w S0 S sd bk wt):Gm a b w S0 (S.set w (.lst (natS wt'))) sd bk wt':=
 ⟨by rw[m7 (by have:=G.a0;have:=G.w0;omega)];exact G.ha,by rw[m7 (by have:=G.b0;have:=G.w0;omega)];exact G.hb,A9 G.hw,by rw[Tc];exact G.len,fun k u h1 h2 h=>by rw[m7 (by have:=AA h;have:=G.w0;omega)];exact G.keep k u h1 h2 h,G.ab,G.a0,G.b0,G.w0⟩
end
theorem HK{n j:Nat}(h:j<n):ixN n (j:Int)=some j:=by
 unfold ixN;rw[if_pos (by omega),if_pos (by omega)];simp
theorem Cg{xs:List (Option Nat)}:(optsS xs).length=xs.length:=by unfold optsS;rw[Sk]
theorem Ch{xs:List (Option Nat)}{j v:Nat}:(optsS xs).set j (.int v)=optsS (xs.set j (some v)):=by unfold optsS;rw[List.map_set];rfl
section
variable{Δ:Nat->Sn}{kt kf:Nat}
noncomputable def GI(n:Nat)(es:EE)(s a b w p c:Nat)(S0:Sto)(sd0:List (Option Nat))(l:Nat)(o:SO)(ts:List Nat)(S:Sto):Prop:=
 S[l]?=some o/\∃ sd bk dep rt wt,Gs n es sd bk dep rt (fun q i=>q∈wt\/(q=p/\i∈ts))/\Gm a b w S0 S sd bk wt/\(∀ q∈wt,IsSet sd q/\rt q=s)/\IsSet sd p/\rt p=s/\2 * (n - sd.countP UD)+wt.length<=c/\wt.length<=sd.countP UD/\∀ q,IsSet sd0 q->IsSet sd q
theorem Ji(hf:BT (Δ kf)){n s a b w p c j l:Nat}{o:SO}(la:l≠a)(lb:l≠b)(lw:l≠w){es:EE}{e:Nat×Nat}{S0 S:Sto}{sd0:List (Option Nat)}{ts:List Nat}{D:EndsS}{o7:Option SV}(hen:∀ e∈es,e.1<e.2/\e.2<n)(hn:n<=1000)(he:es[j]?=some e)(hpe:p=e.1\/p=e.2)(hbl:∀ q,q<s->IsSet sd0 q)
 (I:GI n es s a b w p c S0 sd0 l o (j::ts) S) (q:∀(o7:Option SV) (S':Sto),GI n es s a b w p c S0 sd0 l o ts S'->D.nx [some (r6 n es),some (.int s),some (.loc a),some (.loc b),some (.loc w),some (.int p),some (.int j),o7] S'):
 wSs Δ (zin kf) D [some (r6 n es),some (.int s),some (.loc a),some (.loc b),some (.loc w),some (.int p),some (.int j),o7] S:=by
 obtain⟨hlo,sd,bk,dep,rt,wt,G,M,hwt,hp,hr,hc,hw,h0⟩:=I;have hne:e.1≠e.2:=by have:=hen e (Sm he);omega
 have hfl:farE e p<n:=by
  have:=hen e (Sm he);rcases B0 hpe with h | h<;>omega
 have hcn:=Ue (p:=UD) (l:=sd);rw[G.ls]at hcn
 have ho:∀(wt':List Nat),(∀ x∈wt,x∈wt')->∀ q i,(q∈wt\/(q=p/\i∈j::ts))->(q∈wt'\/(q=p/\i∈ts))\/(q=p/\i=j):=by
  rintro wt' hs q i (h | ⟨h,h2⟩)
  ·exact .inl (.inl (hs _ h))
  ·rcases TC.mp h2 with h2 | h2
   ·exact .inr ⟨h,h2⟩
   ·exact .inl (.inr ⟨h,h2⟩)
 refine⟨_,rfl,_,rfl,_,rfl,hf he hpe ?_⟩;cases hx:sd[farE e p]'(by rw[G.ls];exact hfl) with
 | some v=>
   have h:sd[farE e p]?=some (some v):=by rw[Sj (by rw[G.ls];exact hfl),hx]
   refine⟨_,rfl,_,rfl,_,_,c7 M.ha,i6 (u8 h),.inl ⟨rfl,_,rfl,ifF rfl ?_⟩⟩;refine q _ _ ⟨hlo,sd,bk,dep,rt,wt,G.close he hpe hne ⟨v,h⟩ (ho wt fun _ h=>h) ?_,M,hwt,hp,hr,hc,hw,h0⟩;rintro(z | ⟨z,_⟩)
   ·rw[(hwt _ z).2,hr]
   ·rw[z]
 | none=>
   have h:sd[farE e p]?=some none:=by rw[Sj (by rw[G.ls];exact hfl),hx]
   obtain⟨v,hv⟩:=hp;have hvv:=G.val p v hv;refine⟨_,rfl,_,rfl,_,_,c7 M.ha,i6 (u8 h),.inl ⟨rfl,_,rfl,ifT rfl ?_⟩⟩;refine⟨_,rfl,_,rfl,_,_,c7 M.ha,i6 (u8 hv),_,rfl,_,rfl,_,_,M.ha,HK (by rw[Cg,G.ls];exact hfl),?_⟩;have e1:(1:Int) - (v:Int)=((1 - dep p % 2:Nat):Int):=by omega
   have e2:(optsS sd).set (farE e p) ((fun(i j:Int)=>SV.int (i - j)) 1 v)=optsS (sd.set (farE e p) (some (1 - dep p % 2))):=by
    show(optsS sd).set _ (.int ((1:Int) - (v:Int)))=_;rw[e1,Ch]
   rw[e2];have M1:=M.seta (sd':=sd.set (farE e p) (some (1 - dep p % 2)));refine⟨_,rfl,_,rfl,_,rfl,_,_,M1.hb,HK (by rw[Cg,G.lb];exact hfl),?_⟩;rw[Ch];have M2:=M1.setb (bk':=bk.set (farE e p) (some j));refine⟨_,rfl,⟨_,_,rfl,M2.hw⟩,_,rfl,_,M2.hw,by rw[e8];show _<100000;omega,?_⟩;have M3:=M2.setw (wt':=wt++[farE e p]);rw[j5]at M3;have hsl:farE e p<sd.length:=by rw[G.ls];exact hfl
   have hns:∀ q,IsSet sd q->q≠farE e p:=fun q ⟨v,hv⟩ z=>by rw[z,h]at hv;cases hv
   have hlt:sd.countP UD<n:=by
    have h1:=Ue (p:=UD) (l:=sd.set (farE e p) (some 0));rw[AU h,Tc,G.ls]at h1;exact h1
   refine q _ _ ⟨by rw[m7 (Ne.symm lw),m7 (Ne.symm lb),m7 (Ne.symm la)];exact hlo,_,_,_,_,wt++[farE e p],G.give ⟨v,hv⟩ he hpe hne h (ho _ fun _ h=>US _ h) (fun _ => .inl (by simp)) (by rw[hr];exact W4 fun z=>hns _ (h0 _ (hbl _ z)) rfl),M3,fun y hy=>?_,i0 hsl ⟨v,hv⟩,?_,?_,?_,fun y hy=>i0 hsl (h0 y hy)⟩
   ·rcases TQ.mp hy with hy | hy
    ·rw[upd_ne (hns _ (hwt y hy).1)];exact⟨i0 hsl (hwt y hy).1,(hwt y hy).2⟩
    ·rw[TH.mp hy,w9];exact⟨⟨_,TN hsl⟩,hr⟩
   ·rw[upd_ne (hns _ ⟨v,hv⟩)];exact hr
   ·rw[AU h,Sl];simp;omega
   ·rw[AU h,Sl];simp;omega
noncomputable def HL(s:Sn):Prop:=∀{n st a b:Nat} {es:EE} {sd bk:List (Option Nat)} {dep rt:Nat->Nat} {S:Sto} {Q:QE},(∀ e∈es,e.1<e.2/\e.2<n)->es.length<=5000->n<=1000->Gs n es sd bk dep rt (fun _ _=>False)->sd[st]?=some none->(∀ q,q<st->IsSet sd q)->a≠b->S[a]?=some (.lst (optsS sd))->S[b]?=some (.lst (optsS bk))->
 (∀(sd' bk':List (Option Nat)) (dep' rt':Nat->Nat) (S':Sto),Gs n es sd' bk' dep' rt' (fun _ _=>False)->(∀ q,IsSet sd q->IsSet sd' q)->IsSet sd' st->S'[a]?=some (.lst (optsS sd'))->S'[b]?=some (.lst (optsS bk'))->S.length<=S'.length->(∀(k:Nat) (o:SO),k≠a->k≠b->S[k]?=some o->S'[k]?=some o)->Q .non S')->s [r6 n es,.int st,.loc a,.loc b] S Q
theorem Nq(hΔ:∀ f,MonoN (Δ f))(ht:CJ (Δ kt))(hf:BT (Δ kf)){D:Df}(hb':D.body=Oj kt kf)(hN:D.N.length=8)(hps:D.ps.length=4):HL (j8 Δ D):=by
 intro n st a b es sd bk dep rt S Q hen hel hn G0 hst hbl ab hSa hSb q;have hsl:st<sd.length:=(gM hst).1;unfold j8;rw[hb',hN];refine⟨hps.symm,_,rfl,_,rfl,_,_,hSa,HK (by rw[Cg];exact hsl),?_⟩;have e0:(optsS sd).set st (.int 0)=optsS (sd.set st (some 0)):=Ch (v:=0);rw[e0];refine⟨_,rfl,by show 1<=big;decide,?_⟩;generalize hw0:(S.set a (.lst (optsS (sd.set st (some 0))))).length=w;have hw1:S.length=w:=by rw[<-hw0,Tc]
 have M0:Gm a b w S (S.set a (.lst (optsS (sd.set st (some 0))))++[.lst (natS [st])]) (sd.set st (some 0)) bk [st]:=
  ⟨e6 (A9 hSa),e6 (by rw[m7 ab];exact hSb),by rw[<-hw0];exact c9,by simp,fun k o h1 h2 h=>e6 (by rw[m7 (Ne.symm h1)];exact h),ab,AA hSa,AA hSb,by omega⟩
 refine⟨fun m ρ S'=>∃ sd' bk' dep' rt' wt o5 o6 o7,ρ=[some (r6 n es),some (.int st),some (.loc a),some (.loc b),some (.loc w),o5,o6,o7]/\Gs n es sd' bk' dep' rt' (fun q _=>q∈wt)/\Gm a b w S S' sd' bk' wt/\(∀ q∈wt,IsSet sd' q/\rt' q=st)/\2 * (n - sd'.countP UD)+wt.length<=m/\wt.length<=sd'.countP UD/\∀ q,IsSet (sd.set st (some 0)) q->IsSet sd' q,
  ⟨_,_,_,_,_,[st],none,none,none,rfl,G0.begin hst (fun _ _ h=>h.elim) (fun _=>by simp),M0,fun q hq=>?_,Sr _,by rw[AU hst];simp,fun _ h=>h⟩,?_⟩
 ·rw[TH.mp hq,w9];exact⟨⟨_,TN hsl⟩,rfl⟩
 rintro m ρ S1 ⟨sd1,bk1,dep1,rt1,wt,o5,o6,o7,rfl,G,M,hwt,hm,hwc,hk⟩;refine⟨_,rfl,_,Ee M.hw,?_⟩;rcases Ag wt with rfl | ⟨wt',p,rfl⟩
 ·refine ifF rfl ?_;exact q sd1 bk1 dep1 rt1 S1 (G.more fun _ _ _ _ _ h=>by simp at h) (fun y hy=>hk y (i0 hsl hy)) (hk st ⟨_,TN hsl⟩) M.ha M.hb M.len M.keep
 refine ifT (by rw[j5];simp[natS]) ?_;refine⟨_,rfl,⟨_,_,rfl,M.hw⟩,_,_,M.hw,Cf,?_⟩;rw[DW];have M1:=M.setw (wt':=wt');obtain⟨⟨v,hv⟩,hpr⟩:=hwt p (by simp);have hpn:p<n:=by rw[<-G.ls];exact(gM hv).1
 rw[Sl]at hm hwc;simp only[Tq,V0]at hm hwc;refine⟨_,rfl,_,rfl,ht hel hpn ⟨_,c7 c9,?_⟩⟩;have M2:=M1.push (o:=SO.lst (natS (e7 es p es.length)));have hnew:=c9 (S:=S1.set w (.lst (natS wt'))) (o:=SO.lst (natS (e7 es p es.length)));have l1:=AA M1.ha;have l2:=AA M1.hb;have l3:=AA M1.hw;generalize (S1.set w (.lst (natS wt'))).length=l at *;generalize (S1.set w (.lst (natS wt')))++[SO.lst (natS (e7 es p es.length))]=S3 at *
 refine w6 (l9 hΔ _) (fun i ρ S2=>∃ o6 o7,ρ=[some (r6 n es),some (.int st),some (.loc a),some (.loc b),some (.loc w),some (.int p),o6,o7]/\GI n es st a b w p (m - 1) S (sd.set st (some 0)) l (.lst (natS (e7 es p es.length))) ((e7 es p es.length).drop i) S2)
  ⟨o6,o7,rfl,hnew,sd1,bk1,dep1,rt1,wt',G.more (fun y i e he hye h=>?_),M2,fun y hy=>hwt y (by simp[hy]),⟨v,hv⟩,hpr,by omega,by omega,hk⟩ ?_ ?_ ?_
 ·rcases TQ.mp h with h | h
  ·exact .inl h
  ·have:=TH.mp h;exact .inr ⟨this,mem_tiesAt.mpr ⟨e,he,by rw[<-this];exact hye.imp Eq.symm Eq.symm⟩⟩
 ·rintro i ρ S2 ⟨_,_,_,h,_⟩;show S2[l]?=_;rw[h,hnew]
 ·rintro i x ρ S2 hx ⟨o6,o7,rfl,I⟩;have hi:i<(e7 es p es.length).length:=by have:=(gM hx).1;rwa [e8]at this
  have hx2:=Az (Sj hi);rw[hx2]at hx;have hx:=oj hx;subst hx;obtain⟨e,he,hpe⟩:=mem_tiesAt.mp (UI hi);rw[U5 hi]at I;exact Ji hf (by omega) (by omega) (by omega) hen hn he (hpe.imp Eq.symm Eq.symm) (fun q hq=>i0 hsl (hbl q hq)) I fun o7 S' I'=>⟨_,_,rfl,I'⟩
 ·rintro ρ S2 ⟨o6,o7,rfl,_,sd2,bk2,dep2,rt2,wt2,G2,N2,h1,h2,h3,h4,h5,h6⟩;rw[e8,Ua]at G2;exact⟨m - 1,by omega,sd2,bk2,dep2,rt2,wt2,_,_,_,rfl,G2.more (fun _ _ _ _ _ h=>h.elim id fun h=>by simp at h),N2,h1,h4,h5,h6⟩
end
open PySem L2
noncomputable def t1':Stm:=(.asg (.nm 1) (.op .Mult (.lst (.cons (.c .non) .nil)) (.ix (.var 0) (.c (.int 0)))))
noncomputable def t2':Stm:=(.asg (.nm 2) (.op .Mult (.lst (.cons (.c .non) .nil)) (.ix (.var 0) (.c (.int 0)))))
noncomputable def t3'(kg:Nat):Stm:=(.loop (.nm 3) (.rng1 (.ix (.var 0) (.c (.int 0)))) [(.iff (.cmp .Is (.ix (.var 1) (.var 3)) (.c .non)) [(.expr (.call kg (.cons (.var 0) (.cons (.var 3) (.cons (.var 1) (.cons (.var 2) .nil))))))] [])])
noncomputable def t4'(kr:Nat):Stm:=(.loop (.tup (.cons (.nm 4) (.cons (.tup (.cons (.nm 5) (.cons (.nm 6) .nil))) .nil))) (.enum (.ix (.var 0) (.c (.int 1)))) [(.iff (.cmp .Eq (.ix (.var 1) (.var 5)) (.ix (.var 1) (.var 6))) [(.ret (.tup (.cons (.c (.str "ring")) (.cons (.call kr (.cons (.var 0) (.cons (.var 4) (.cons (.var 2) .nil)))) .nil))))] [])])
noncomputable def t5':Stm:=(.ret (.tup (.cons (.c (.str "sides")) (.cons (.var 1) .nil))))
structure Full(n:Nat)(es:EE)(sd bk:List (Option Nat))(dep rt:Nat->Nat):Prop where
 gs:Gs n es sd bk dep rt (fun _ _=>False)
 all:∀ p,p<n->sd[p]?=some (some (dep p % 2))
theorem M6{Δ:Nat->Sn}{kr:Nat}(hΔ:∀ f,MonoN (Δ f))(hr:Eh (Δ kr)){n a b:Nat}{es:EE}{sd bk:List (Option Nat)}{dep rt:Nat->Nat}{S:Sto}{Q:QE}{o3 o4 o5 o6:Option SV}(hen:∀ e∈es,e.1<e.2/\e.2<n)(hn:n<=1000)(F:Full n es sd bk dep rt)(hSa:S[a]?=some (.lst (optsS sd)))(hSb:S[b]?=some (.lst (optsS bk)))
 (q1:(∀ e∈es,dep e.1 % 2≠dep e.2 % 2)->Q (.tup [.str "sides",.loc a]) S)
 (q2:∀(j:Nat) (e:Nat×Nat) (us ds:List Nat) (l:Nat) (S':Sto),es[j]?=some e->dep e.1 % 2=dep e.2 % 2->Cut (upW es bk (dep e.1) e.1) (upW es bk (dep e.2) e.2) us ds->Gw S S'->S.length<=l->S'[l]?=some (.lst (natS (us++ds.reverse++[j])))->Q (.tup [.str "ring",.loc l]) S'):
 wSs Δ [t4' kr,t5'] (AY Q) [some (r6 n es),some (.loc a),some (.loc b),o3,o4,o5,o6] S:=by
 refine⟨_,rfl,_,_,rfl,rfl,_,rfl,?_⟩;refine w6 (l9 hΔ _) (fun i ρ S2=>∃ o4 o5 o6,ρ=[some (r6 n es),some (.loc a),some (.loc b),o3,o4,o5,o6]/\S2=S/\∀(j:Nat) (e:Nat×Nat),j<i->es[j]?=some e->dep e.1 % 2≠dep e.2 % 2) ⟨o4,o5,o6,rfl,rfl,fun _ _ h=>by omega⟩ (fun _ _ _ _=>trivial) ?_ ?_
 ·rintro i x ρ _ hx ⟨p4,p5,p6,rfl,rfl,hd⟩;obtain⟨y,hy,rfl⟩:=HI hx;obtain⟨e,he,rfl⟩:=BU hy;have hee:=hen e (Sm he);refine⟨_,rfl,_,rfl,_,_,c7 hSa,i6 (u8 (F.all e.1 (by omega))),_,rfl,_,rfl,_,_,c7 hSa,i6 (u8 (F.all e.2 hee.2)),_,rfl,?_⟩;refine ifD (fun h=>?_) (fun h=>⟨_,_,_,rfl,rfl,fun j e' hj he'=>?_⟩)
  ·refine⟨_,rfl,_,rfl,_,rfl,hr (F.gs.tr hn) he (by omega) hee.2 hSb fun us ds l S' hc hg hl hS=>⟨by show 2<=big;decide,?_⟩⟩;exact q2 i e us ds l S' he (Ut.mp h) hc hg hl hS
  ·by_cases hji:j=i
   ·subst hji;rw[he]at he';have:=oj he';subst this;exact fun z=>h (congrArg Wi z)
   ·exact hd j e' (by omega) he'
 ·rintro ρ _ ⟨p4,p5,p6,rfl,rfl,hd⟩;rw[Eg,Sk]at hd;refine⟨_,rfl,by show 2<=big;decide,q1 fun e he=>?_⟩;obtain⟨j,hj,he⟩:=Vm he;exact hd j e hj (by rw[Sj hj,he])
noncomputable def Rz(kg kr:Nat):List Stm:=[t1',t2',t3' kg,t4' kr,t5']
noncomputable def M7(s:Sn):Prop:=∀{n:Nat} {es:EE} {S:Sto} {Q:QE},(∀ e∈es,e.1<e.2/\e.2<n)->es.length<=5000->n<=1000->
 (∀(sd bk:List (Option Nat)) (dep rt:Nat->Nat) (a:Nat) (S':Sto),Full n es sd bk dep rt->(∀ e∈es,dep e.1 % 2≠dep e.2 % 2)->Gw S S'->S.length<=a->S'[a]?=some (.lst (optsS sd))->Q (.tup [.str "sides",.loc a]) S')->
 (∀(sd bk:List (Option Nat)) (dep rt:Nat->Nat) (j:Nat) (e:Nat×Nat) (us ds:List Nat) (l:Nat) (S':Sto),Full n es sd bk dep rt->es[j]?=some e->dep e.1 % 2=dep e.2 % 2->Cut (upW es bk (dep e.1) e.1) (upW es bk (dep e.2) e.2) us ds->Gw S S'->S.length<=l->S'[l]?=some (.lst (natS (us++ds.reverse++[j])))->Q (.tup [.str "ring",.loc l]) S')->s [r6 n es] S Q
theorem IR(n:Nat):(Su ((n:Int)).toNat [SV.non]).flatten=optsS (Su n none):=by
 rw[Uw]
 induction n with
 | zero=>rfl
 | succ n ih=>rw[Tf,UK,ih];rfl
theorem M8(n:Nat)(es:EE):Gs n es (Su n none) (Su n none) (fun _=>0) (fun p=>p) (fun _ _=>False):=by
 have h:∀ p,¬ IsSet (Su n none) p:=fun p ⟨v,hv⟩=>by
  have:=Sm hv;rw[Vr]at this;cases this.2
 refine⟨by simp,by simp,fun p v hv=>absurd ⟨v,hv⟩ (h p),fun p j hj=>absurd ⟨j,hj⟩ (h p),fun p hp=>absurd hp (h p),fun p hp=>absurd hp (h p),fun _ _=>rfl,fun p _ _ hp=>absurd hp (h p),fun p hp=>absurd hp (h p)⟩
theorem QP{Δ:Nat->Sn}{kg kr:Nat}(hΔ:∀ f,MonoN (Δ f))(hg:HL (Δ kg))(hr:Eh (Δ kr)){D:Df}(hb:D.body=Rz kg kr)(hN:D.N.length=7)(hp:D.ps.length=1):M7 (j8 Δ D):=by
 intro n es S Q hen hel hn q1 q2;unfold j8;rw[hb,hN];refine⟨hp.symm,by show 1<=big;decide,_,rfl,_,_,rfl,rfl,_,c9,⟨by omega,by omega⟩,by simp;show _<=100000;omega,?_⟩;rw[IR];refine⟨by show 1<=big;decide,_,rfl,_,_,rfl,rfl,_,c9,⟨by omega,by omega⟩,by simp;show _<=100000;omega,?_⟩;rw[IR];generalize ha:(S++[SO.lst [SV.non]]).length=a;have ha1:S.length<a:=by rw[<-ha];simp
 have hSa:(S++[SO.lst [SV.non]]++[SO.lst (optsS (Su n none))])[a]?=some (.lst (optsS (Su n none))):=by rw[<-ha];exact c9
 have G0:Gw S (S++[SO.lst [SV.non]]++[SO.lst (optsS (Su n none))]):=(Gw.refl S).push.push;generalize S++[SO.lst [SV.non]]++[SO.lst (optsS (Su n none))]=S1 at *;generalize hb2:(S1++[SO.lst [SV.non]]).length=b;have hb1:S1.length<b:=by rw[<-hb2];simp
 have hSb:(S1++[SO.lst [SV.non]]++[SO.lst (optsS (Su n none))])[b]?=some (.lst (optsS (Su n none))):=by rw[<-hb2];exact c9
 have hS2:=e6 (o:=SO.lst (optsS (Su n none))) (e6 (o:=SO.lst [SV.non]) hSa);have G2:=(G0.push (o:=SO.lst [SV.non])).push (o:=SO.lst (optsS (Su n none)));have hab:=AA hSa;generalize S1++[SO.lst [SV.non]]++[SO.lst (optsS (Su n none))]=S2 at *;refine⟨_,rfl,_,_,rfl,rfl,_,rfl,⟨by omega,by omega⟩,?_⟩
 refine w6 (l9 hΔ _) (fun i ρ S'=>∃ sd bk dep rt o3,ρ=[some (r6 n es),some (.loc a),some (.loc b),o3,none,none,none]/\Gs n es sd bk dep rt (fun _ _=>False)/\(∀ p,p<i->IsSet sd p)/\S'[a]?=some (.lst (optsS sd))/\S'[b]?=some (.lst (optsS bk))/\Gw S S')
  ⟨_,_,_,_,none,rfl,M8 n es,fun _ h=>by omega,hS2,hSb,G2⟩ (fun _ _ _ _=>trivial) ?_ ?_
 ·rintro i x ρ S' hx ⟨sd,bk,dep,rt,o3,rfl,G,hs,ha',hb',Gw'⟩;obtain⟨rfl,hi⟩:=Af hx;rw[VH]at hi ⊢;have hil:i<sd.length:=by rw[G.ls];omega
  cases hx:sd[i] with
  | some v=>
    have h:sd[i]?=some (some v):=by rw[Sj hil,hx]
    refine⟨_,rfl,_,rfl,_,_,c7 ha',i6 (u8 h),.inl ⟨rfl,_,rfl,ifF rfl ?_⟩⟩;refine⟨sd,bk,dep,rt,_,rfl,G,fun p hp=>?_,ha',hb',Gw'⟩;by_cases hpi:p=i
    ·rw[hpi];exact⟨v,h⟩
    ·exact hs p (by omega)
  | none=>
    have h:sd[i]?=some none:=by rw[Sj hil,hx]
    refine⟨_,rfl,_,rfl,_,_,c7 ha',i6 (u8 h),.inl ⟨rfl,_,rfl,ifT rfl ?_⟩⟩;refine⟨_,rfl,_,rfl,_,rfl,_,rfl,hg hen hel hn G h hs (by omega) ha' hb' fun sd' bk' dep' rt' S'' G' k1 k2 h1 h2 h3 h4=>?_⟩;refine⟨sd',bk',dep',rt',_,rfl,G',fun p hp=>?_,h1,h2,⟨Td Gw'.len h3,fun k o hk=>h4 k o (by have:=AA hk;omega) (by have:=AA hk;omega) (Gw'.keep k o hk)⟩⟩;by_cases hpi:p=i
    ·rw[hpi];exact k2
    ·exact k1 p (hs p (by omega))
 ·rintro ρ S' ⟨sd,bk,dep,rt,o3,rfl,G,hs,ha',hb',Gw'⟩;rw[Bi]at hs
  have F:Full n es sd bk dep rt:=⟨G,fun p hp=>by
   obtain⟨v,hv⟩:=hs p (by omega);rw[hv,G.val p v hv]⟩
  exact M6 hΔ hr hen hn F ha' hb' (fun h=>q1 sd bk dep rt a S' F h Gw' (by omega) ha') fun j e us ds l S'' he h hc hg' hl hS=>q2 sd bk dep rt j e us ds l S'' F he h hc (Gw'.trans hg') (Td Gw'.len hl) hS
open PySem L2
noncomputable def Pth(es:EE):List Nat->Nat->Nat->List Nat->Prop
 | [],p,q,vs=>p=q/\vs=[]
 | t::ts,p,q,vs=>∃ e vs',es[t]?=some e/\(p=e.1\/p=e.2)/\vs=p::vs'/\Pth es ts (farE e p) q vs'
theorem Pth.app{es:EE}:∀{a b:List Nat} {p q r:Nat} {vs ws:List Nat},Pth es a p q vs->Pth es b q r ws->Pth es (a++b) p r (vs++ws)
 | [],b,p,q,r,vs,ws,h,k=>by obtain⟨rfl,rfl⟩:=h;exact k
 | t::a,b,p,q,r,vs,ws,h,k=>by
   obtain⟨e,vs',h1,h2,rfl,h3⟩:=h;exact⟨e,vs'++ws,h1,h2,rfl,h3.app k⟩
theorem Pth.rev{es:EE}(hu:∀ e∈es,e.1≠e.2):∀{a:List Nat} {p q:Nat} {vs:List Nat},Pth es a p q vs->∃ ws,Pth es a.reverse q p ws/\ws++[p]=(vs++[q]).reverse
 | [],p,q,vs,h=>by obtain⟨rfl,rfl⟩:=h;exact⟨[],⟨rfl,rfl⟩,rfl⟩
 | t::a,p,q,vs,h=>by
   obtain⟨e,vs',h1,h2,rfl,h3⟩:=h;obtain⟨ws,k1,k2⟩:=h3.rev hu;refine⟨ws++[farE e p],?_,?_⟩
   ·rw[UV];exact k1.app ⟨e,[],h1,B0 h2,rfl,BW (hu e (Sm h1)) h2,rfl⟩
   ·rw[k2];simp
theorem DX{n:Nat}{es:EE}{bk:List (Option Nat)}{dep:Nat->Nat}(T:Tr n es bk dep){p t:Nat}{us:List Nat}(h:upW es bk (dep p) p=t::us):∃ e,bk[p]?=some (some t)/\es[t]?=some e/\(p=e.1\/p=e.2)/\farE e p<n/\dep p=dep (farE e p)+1/\us=upW es bk (dep (farE e p)) (farE e p):=by
 cases hd:dep p with
 | zero=>rw[hd]at h;cases h
 | succ f=>
   rw[hd]at h;cases hb:bk[p]? with
   | none=>rw[upW,hb]at h;cases h
   | some x=>
     cases x with
     | none=>rw[upW,hb]at h;cases h
     | some j=>
       obtain⟨e,h1,h2,h3,h4⟩:=T.up p j hb;rw[DV hb h1]at h;have e1:=List.cons.inj h;obtain⟨rfl,e2⟩:=e1;refine⟨e,rfl,h1,h2,h3,by omega,?_⟩;rw[<-e2]
       congr 1
       omega
structure UpC(n:Nat)(es:EE)(bk:List (Option Nat))(dep rt:Nat->Nat)(us cm:List Nat)(p m:Nat)(vs:List Nat):Prop where
 pth:Pth es us p m vs
 rest:upW es bk (dep m) m=cm
 far:dep p=dep m+us.length
 rt':rt m=rt p
 lt:m<n
 nd:vs.Nodup
 inn:∀ x∈vs,dep m<dep x/\dep x<=dep p/\∃ us1 us2,us=us1++us2/\us2≠[]/\upW es bk (dep x) x=us2++cm
theorem HM{n:Nat}{es:EE}{sd bk:List (Option Nat)}{dep rt:Nat->Nat}(F:Full n es sd bk dep rt)(hn:n<=1000):∀(us cm:List Nat) (p:Nat),p<n->upW es bk (dep p) p=us++cm->∃ m vs,UpC n es bk dep rt us cm p m vs
 | [],cm,p,hp,h=>⟨p,[],⟨rfl,rfl⟩,h,rfl,rfl,hp,WR,fun _ h=>nomatch h⟩
 | t::us,cm,p,hp,h=>by
   obtain⟨e,h1,h2,h3,h4,h5,h6⟩:=DX (F.gs.tr hn) h;obtain⟨e',g1,g2,g3,g4,g5,g6⟩:=F.gs.up p t h1;rw[h2]at g1;have:=oj g1;subst this;obtain⟨m,vs,U⟩:=HM F hn us cm (farE e p) h4 h6.symm;refine⟨m,p::vs,⟨e,vs,h2,h3,rfl,U.pth⟩,U.rest,?_,U.rt'.trans g6,U.lt,?_,fun x hx=>?_⟩
   ·rw[h5,U.far,Tq];omega
   ·refine UX.mpr ⟨fun z=>?_,U.nd⟩;have:=(U.inn p z).2.1;omega
   ·rcases TC.mp hx with rfl | hx
    ·exact⟨by rw[h5,U.far];omega,Sr _,[],t::us,rfl,nofun,h⟩
    ·obtain⟨a1,a2,us1,us2,a3,a4,a5⟩:=U.inn x hx;exact⟨a1,by omega,t::us1,us2,by rw[a3];rfl,a4,a5⟩
theorem Jj{n:Nat}{es:EE}{sd bk:List (Option Nat)}{dep rt:Nat->Nat}(F:Full n es sd bk dep rt)(hn:n<=1000){m m':Nat}{cm:List Nat}(hm:m<n)(hm':m'<n)(h:upW es bk (dep m) m=cm)(h':upW es bk (dep m') m'=cm)(hr:rt m=rt m'):m=m':=by
 have T:=F.gs.tr hn;cases cm with
 | cons t us=>
   obtain⟨e,a1,a2,a3,a4,a5,a6⟩:=DX T h;obtain⟨e',b1,b2,b3,b4,b5,b6⟩:=DX T h';rw[a2]at b2;have:=oj b2;subst this;by_cases he:m=m'
   ·exact he
   ·exfalso;rcases a3 with a3 | a3<;>rcases b3 with b3 | b3
    ·exact he (a3.trans b3.symm)
    ·have f1:farE e m=m':=by unfold farE;rw[if_pos a3,b3]
     have f2:farE e m'=m:=by unfold farE;rw[if_neg (by omega),a3]
     rw[f1]at a5;rw[f2]at b5;omega
    ·have f1:farE e m'=m:=by unfold farE;rw[if_pos b3,a3]
     have f2:farE e m=m':=by unfold farE;rw[if_neg (by omega),b3]
     rw[f2]at a5;rw[f1]at b5;omega
    ·exact he (a3.trans b3.symm)
 | nil=>
   have root:∀ p,p<n->upW es bk (dep p) p=[]->rt p=p:=fun p hp hu=>by
    have hlt:p<bk.length:=by rw[F.gs.lb];exact hp
    cases hx:bk[p] with
    | none=>exact(F.gs.root p ⟨_,F.all p hp⟩ (by rw[Sj hlt,hx])).1
    | some j=>
      have hb:bk[p]?=some (some j):=by rw[Sj hlt,hx]
      obtain⟨e,h1,h2,h3,h4⟩:=T.up p j hb;rw[h4,DV hb h1]at hu;cases hu
   rw[<-root m hm h,<-root m' hm' h',hr]
theorem M9{n:Nat}{es:EE}{sd bk:List (Option Nat)}{dep rt:Nat->Nat}(F:Full n es sd bk dep rt)(hn:n<=1000)(hen:∀ e∈es,e.1<e.2/\e.2<n){j:Nat}{e:Nat×Nat}{us ds:List Nat}(he:es[j]?=some e)(hl:dep e.1 % 2=dep e.2 % 2)
 (C:Cut (upW es bk (dep e.1) e.1) (upW es bk (dep e.2) e.2) us ds):∃ vs,Pth es (us++ds.reverse++[j]) e.1 e.1 vs/\vs.Nodup/\3<=(us++ds.reverse++[j]).length/\(us++ds.reverse++[j]).length % 2=1:=by
 have hee:=hen e (Sm he);have hun:∀ e∈es,e.1≠e.2:=fun e he=>by have:=hen e he;omega
 obtain⟨cm,ca,cb⟩:=C.ex;obtain⟨m,vs,U⟩:=HM F hn us cm e.1 (by omega) ca;obtain⟨m',ws,V⟩:=HM F hn ds cm e.2 hee.2 cb
 have hrt:rt e.1=rt e.2:=by
  rcases F.gs.cl e.2 j e ⟨_,F.all e.2 hee.2⟩ he (.inr rfl) with h | ⟨_,h⟩
  ·exact h.elim
  ·unfold farE at h;rw[if_neg (by omega)]at h;exact h
 have hmm:m=m':=Jj F hn U.lt V.lt U.rest V.rest (by rw[U.rt',V.rt',hrt]);subst hmm;obtain⟨rs,R1,R2⟩:=V.pth.rev hun;have hback:Pth es [j] e.2 e.1 [e.2]:=⟨e,[],he,.inr rfl,rfl,by unfold farE;rw[if_neg (by omega)],rfl⟩
 refine⟨_,(U.pth.app R1).app hback,?_,?_,?_⟩
 ·rw[TF,R2,VE];show(vs++(m::ws.reverse)).Nodup;rw[V6];refine⟨U.nd,UX.mpr ⟨fun z=>?_,(List.reverse_perm ws).nodup_iff.mpr V.nd⟩,fun x hx y hy hxy=>?_⟩
  ·have:=(V.inn m (W9.mp z)).1;omega
  ·subst hxy;obtain⟨a1,a2,us1,us2,a3,a4,a5⟩:=U.inn x hx;rcases TC.mp hy with hy | hy
   ·rw[hy]at a1;omega
   ·obtain⟨b1,b2,ds1,ds2,b3,b4,b5⟩:=V.inn x (W9.mp hy);rw[a5]at b5;have:=List.append_cancel_right b5;subst this;rcases Ag us2 with h | ⟨u3,z,h⟩
    ·exact a4 h
    ·exact C.ne z z (us1++u3) (ds1++u3) (by rw[a3,h,TF]) (by rw[b3,h,TF]) rfl
 ·have h1:=U.far;have h2:=V.far;rw[Sl,Sl,UY,U8]
  have:us.length≠0\/ds.length≠0:=by
   apply Classical.byContradiction;intro z;have z1:us=[]:=VX.mp (by omega);have z2:ds=[]:=VX.mp (by omega);have p1:=U.pth;have p2:=V.pth;rw[z1]at p1;rw[z2]at p2;have:=p1.1.trans p2.1.symm;omega
  omega
 ·have h1:=U.far;have h2:=V.far;rw[Sl,Sl,UY,U8];omega
open PySem L2
theorem Bk(xs:List Nat):(natS xs).all AV=true:=by
 unfold natS;rw[W0,TK];exact fun _ _=>rfl
open PySem L2
structure Ms(n:Nat)(es:EE)(i:Nat)(ms:List Nat):Prop where
 len:ms.length=n
 le:∀ p v:Nat,ms[p]?=some v->v<=p
 one:∀(j:Nat) (e:Nat×Nat),j<i->es[j]?=some e->ms[e.1]?=ms[e.2]?
theorem Nr(a b:Nat):(if (b:Int)<a then (b:Int) else a)=((min a b:Nat):Int):=by split<;>omega
theorem Nt(a b:Nat):(if (b:Int)>a then (b:Int) else a)=((max a b:Nat):Int):=by split<;>omega
open PySem L2
theorem HN(b:Bool)(n:Nat):blS (Su n (.bl b))=some (Su n b):=by
 induction n with
 | zero=>rfl
 | succ n ih=>rw[Tf,Tf];simp[blS,ih]
theorem DY{Δ:Nat->Sn}(hΔ:∀ f,MonoN (Δ f)){e:Ex}{keep:Sto->Prop}{g:Tg}{ρ:EnvS}{Q:List SV->Sto->Prop}{b:Bool}{xs:List SV}{S:Sto}(hl:xs.length<=1000)(hk:∀ S',Gw S S'->keep S')
 (hs:∀(i:Nat) (x:SV) (S':Sto),xs[i]?=some x->Gw S S'->wTg g x ρ fun ρ2=>(wEx Δ e).1 ρ2 S' fun y S2=>y = .bl b/\Gw S S2)
 (q:∀ S',Gw S S'->Q (Su xs.length (.bl b)) S'):v6 keep g (wEo Δ .no).2 (wEx Δ e).1 ρ Q xs [] S:=by
 refine q0 (i9 hΔ _).2 (a8 hΔ _).1 (fun i ys S'=>Gw S S'/\ys=Su i (.bl b)) ⟨Gw.refl S,rfl⟩ (fun _ _ _ h=>hk _ h.1) ?_ ?_
 ·rintro i x ys S' hx ⟨G,rfl⟩;have hi:=(gM hx).1;refine l8 g (fun ρ2 h=>?_) (hs i x S' hx G);refine(a8 hΔ e).1 _ _ _ _ (fun y S2 h=>⟨by rw[UO];show _<100000;omega,h.2,?_⟩) h;rw[h.1,List.replicate_succ']
 ·rintro ys S' ⟨G,rfl⟩;exact q S' G
section
variable{Δ:Nat->Sn}
theorem Ei(n:Nat):(Su n true).all id=true:=by simp
structure Odd(es:EE)(ts:List Nat):Prop where
 lt:∀ t∈ts,t<es.length
 few:ts.length<=500
 three:3<=ts.length
 odd:ts.length % 2=1
 ex:∃ p vs,Pth es ts p p vs/\vs.Nodup
end
end Rf
namespace Hue
noncomputable def Ci(ms:List Nat)(e:Nat×Nat):Nat:=min (ms.getD e.1 0) (ms.getD e.2 0)
noncomputable def Bu(ms:List Nat)(e:Nat×Nat):Nat:=max (ms.getD e.1 0) (ms.getD e.2 0)
noncomputable def u7(ms:List Nat)(e:Nat×Nat):List Nat:=ms.map fun x=>if x=Bu ms e then Ci ms e else x
noncomputable def marks(n:Nat)(es:EE):List Nat:=es.foldl u7 (Sx n)
structure Mk(n:Nat)(ms:List Nat):Prop where
 len:ms.length=n
 le:∀ i (h:i<ms.length),ms[i]<=i
 fix:∀ i (h:i<ms.length),ms[ms[i]]?=some ms[i]
theorem mk_range(n:Nat):Mk n (Sx n):=⟨by simp,fun i h=>by simp,fun i h=>by
 have hi:i<n:=by simpa using h
 simp[U6,hi]⟩
theorem MA{n:Nat}{ms:List Nat}(M:Mk n ms){e:Nat×Nat}(h1:e.1<n)(h2:e.2<n):Mk n (u7 ms e):=by
 have l1:e.1<ms.length:=by rw[M.len];exact h1
 have l2:e.2<ms.length:=by rw[M.len];exact h2
 have g1:ms.getD e.1 0=ms[e.1]:=by simp[Uk,l1]
 have g2:ms.getD e.2 0=ms[e.2]:=by simp[Uk,l2]
 have fl:ms[Ci ms e]?=some (Ci ms e):=by
  unfold Ci;rw[g1,g2];rcases W1 ms[e.1] ms[e.2] with z | z
  ·rw[Vd z];exact M.fix _ l1
  ·rw[VY z];exact M.fix _ l2
 have hlh:Ci ms e<=Bu ms e:=by unfold Ci Bu;omega
 have at':∀ i (h:i<(u7 ms e).length),(u7 ms e)[i]=if ms[i]'(by simpa[u7] using h)=Bu ms e then Ci ms e else ms[i]'(by simpa[u7] using h):=fun i h=>by simp[u7]
 refine⟨by rw[u7,Sk,M.len],fun i h=>?_,fun i h=>?_⟩
 ·rw[at' i h];have hi:i<ms.length:=by simpa[u7] using h
  have:=M.le i hi;split
  ·rename_i q;omega
  ·exact this
 ·have hi:i<ms.length:=by simpa[u7] using h
  have key:∀ v,ms[v]?=some v->(v≠Bu ms e\/v=Ci ms e)->(u7 ms e)[v]?=some v:=by
   intro v hv q;unfold u7;rw[TB,hv];show some (if v=Bu ms e then Ci ms e else v)=some v;rcases q with q | q
   ·rw[if_neg q]
   ·split
    ·rw[<-q]
    ·rfl
  rw[at' i h];split
  ·exact key _ fl (.inr rfl)
  ·rename_i q;exact key _ (M.fix i hi) (.inl q)
theorem mk_marks{n:Nat}:∀{es:EE} {ms:List Nat},Mk n ms->(∀ e∈es,e.1<n/\e.2<n)->Mk n (es.foldl u7 ms)
 | [],_,M,_=>M
 | e::es,ms,M,h=>mk_marks (es:=es) (ms:=u7 ms e) (MA M (h e (TM ..)).1 (h e (TM ..)).2) fun f hf=>h f (Sz _ hf)
noncomputable def Cl(es:EE)(C:Nat->Prop):Prop:=∀ e∈es,C e.1↔C e.2
theorem BX{ms:List Nat}{e:Nat×Nat}{p:Nat}(h:p<ms.length):(u7 ms e).getD p 0=if ms.getD p 0=Bu ms e then Ci ms e else ms.getD p 0:=by
 unfold u7;simp[Uk,h]
theorem Bm{ms:List Nat}{e:Nat×Nat}:(u7 ms e).length=ms.length:=by simp[u7]
theorem Fm(ms:List Nat)(e:Nat×Nat):(Ci ms e=ms.getD e.1 0/\Bu ms e=ms.getD e.2 0)\/(Ci ms e=ms.getD e.2 0/\Bu ms e=ms.getD e.1 0):=by
 unfold Ci Bu;rcases W1 (ms.getD e.1 0) (ms.getD e.2 0) with z | z
 ·exact .inl ⟨Vd z,WB z⟩
 ·exact .inr ⟨VY z,WJ z⟩
theorem Fn{n:Nat}{C:Nat->Prop}:∀{es:EE} {ms:List Nat},ms.length=n->(∀ e∈es,e.1<n/\e.2<n)->Cl es C->(∀ p,p<n->(C p↔C (ms.getD p 0)))->∀ p,p<n->(C p↔C ((es.foldl u7 ms).getD p 0))
 | [],_,_,_,_,h=>h
 | e::es,ms,hl,hn,hc,h=>by
   refine Fn (es:=es) (ms:=u7 ms e) (by rw[Bm,hl]) (fun f hf=>hn f (Sz _ hf)) (fun f hf=>hc f (Sz _ hf)) fun p hp=>?_;have he:=hn e (TM ..);have c1:=h e.1 he.1;have c2:=h e.2 he.2;have c0:=hc e (TM ..);have hp0:=h p hp;rw[BX (by omega)];split
   ·rename_i z;rw[z]at hp0;rcases Fm ms e with⟨a,b⟩ | ⟨a,b⟩
    ·rw[a];rw[b]at hp0;exact hp0.trans (c2.symm.trans (c0.symm.trans c1))
    ·rw[a];rw[b]at hp0;exact hp0.trans (c1.symm.trans (c0.trans c2))
   ·exact hp0
theorem cl_marks{n:Nat}{es:EE}{C:Nat->Prop}(hn:∀ e∈es,e.1<n/\e.2<n)(hc:Cl es C){p:Nat}(hp:p<n):C p↔C ((marks n es).getD p 0):=by
 refine Fn (ms:=Sx n) (by simp) hn hc (fun q hq=>?_) p hp;simp[Uk,hq]
theorem Fo{n:Nat}{a b:Nat}:∀{es:EE} {ms:List Nat},ms.length=n->a<n->b<n->ms.getD a 0=ms.getD b 0->(es.foldl u7 ms).getD a 0=(es.foldl u7 ms).getD b 0
 | [],_,_,_,_,h=>h
 | e::es,ms,hl,ha,hb,h=>by
   refine Fo (es:=es) (ms:=u7 ms e) (by rw[Bm,hl]) ha hb ?_;rw[BX (by omega),BX (by omega),h]
theorem E5{n:Nat}:∀{es:EE} {ms:List Nat},ms.length=n->(∀ e∈es,e.1<n/\e.2<n)->∀ e∈es,(es.foldl u7 ms).getD e.1 0=(es.foldl u7 ms).getD e.2 0
 | f::es,ms,hl,hn,e,he=>by
   rcases TC.mp he with rfl | he
   ·have hb:=hn e (TM ..);refine Fo (es:=es) (ms:=u7 ms e) (by rw[Bm,hl]) hb.1 hb.2 ?_;rw[BX (by omega),BX (by omega)];rcases Fm ms e with⟨a,b⟩ | ⟨a,b⟩
    ·rw[a,b];simp
    ·rw[a,b];simp
   ·exact E5 (es:=es) (ms:=u7 ms f) (by rw[Bm,hl]) (fun g hg=>hn g (Sz _ hg)) e he
theorem marks_ends{n:Nat}{es:EE}(hn:∀ e∈es,e.1<n/\e.2<n):∀ e∈es,(marks n es).getD e.1 0=(marks n es).getD e.2 0:=E5 (by simp) hn
noncomputable abbrev Sds:=List (Option Nat)
end Hue
namespace Rf
open PySem L2
section
variable{Δ:Nat->Sn}
structure One(S0 S:Sto)(l:Nat)(s:Hue.Sds):Prop where
 g:Gw S0 S
 l0:S0.length<=l
 at':S[l]?=some (.lst (optsS s))
end
open PySem L2
theorem IS{n:Nat}{es:EE}{sd bk:List (Option Nat)}{dep rt:Nat->Nat}(F:Full n es sd bk dep rt){α:Type}(g:Nat->α)(hg:∀ e∈es,g e.1=g e.2):∀(d p:Nat),dep p=d->p<n->rt p<n/\dep (rt p)=0/\g (rt p)=g p
 | d,p,hd,hp=>by
   have hpl:p<bk.length:=by rw[F.gs.lb];exact hp
   have hs:IsSet sd p:=⟨_,F.all p hp⟩
   cases hx:bk[p] with
   | none=>
     obtain⟨h1,h2⟩:=F.gs.root p hs (by rw[Sj hpl,hx]);rw[h1];exact⟨hp,h2,rfl⟩
   | some j=>
     obtain⟨e,h1,h2,h3,⟨v,h4⟩,h5,h6⟩:=F.gs.up p j (by rw[Sj hpl,hx]);have hl:=(gM h4).1;rw[F.gs.ls]at hl;obtain⟨k1,k2,k3⟩:=IS F g hg (d - 1) (farE e p) (by omega) hl;rw[h6]at k1 k2 k3;refine⟨k1,k2,k3.trans ?_⟩;have he:=hg e (Sm h1);unfold farE;rcases h2 with h | h
     ·rw[if_pos h,h,he]
     ·by_cases z:p=e.1
      ·rw[if_pos z,z,he]
      ·rw[if_neg z,h,he]
termination_by d=>d
decreasing_by omega
theorem HP{n:Nat}{es:EE}{sd bk:List (Option Nat)}{dep rt:Nat->Nat}(F:Full n es sd bk dep rt){ms:List Nat}(M:Ms n es es.length ms){f:Nat}(hf:ms[f]?=some f):dep f=0:=by
 have hfn:f<n:=by rw[<-M.len];exact(gM hf).1
 obtain⟨h1,h2,h3⟩:=IS F (fun p=>ms[p]?) (fun e he=>by
  obtain⟨j,hj,he'⟩:=Vm he;exact M.one j e hj (by rw[Sj hj,he'])) _ f rfl hfn
 have h4:=M.le _ _ (h3.trans hf);have h5:=F.gs.lo f ⟨_,F.all f hfn⟩;have:rt f=f:=by omega
 rw[this]at h2;exact h2
theorem MB{n:Nat}{es:EE}(hn:∀ e∈es,e.1<n/\e.2<n):Ms n es es.length (Hue.marks n es):=by
 have M:Hue.Mk n (Hue.marks n es):=Hue.mk_marks (Hue.mk_range n) hn
 have g:∀ p,p<n->(Hue.marks n es)[p]?=some ((Hue.marks n es).getD p 0):=fun p hp=>by
  rw[TU,Sj (by rw[M.len];exact hp)];rfl
 refine⟨M.len,fun p v h=>?_,fun j e _ he=>?_⟩
 ·obtain⟨h1,h2⟩:=gM h;rw[<-h2];exact M.le p h1
 ·have he:=Sm he;rw[g _ (hn e he).1,g _ (hn e he).2,Hue.marks_ends hn e he]
theorem IT{es:EE}{c:Nat->Nat}(hc:∀ e∈es,c e.1<2/\c e.2<2/\c e.1≠c e.2):∀{ts:List Nat} {p q:Nat} {vs:List Nat},Pth es ts p q vs->(c p+ts.length) % 2=c q % 2
 | [],p,q,vs,h=>by obtain⟨rfl,_⟩:=h;rfl
 | t::ts,p,q,vs,h=>by
   obtain⟨e,vs',h1,h2,_,h3⟩:=h;have ih:=IT hc h3;have he:=hc e (Sm h1);rw[Tq];unfold farE at ih;rcases h2 with h | h
   ·rw[if_pos h]at ih;rw[h];omega
   ·by_cases z:p=e.1
    ·rw[if_pos z]at ih;rw[z];omega
    ·rw[if_neg z]at ih;rw[h];omega
theorem Nu{n:Nat}{es:EE}{sd bk:List (Option Nat)}{dep rt:Nat->Nat}(F:Full n es sd bk dep rt)(hn:n<=249)(hen:∀ e∈es,e.1<e.2/\e.2<n){j:Nat}{e:Nat×Nat}{us ds:List Nat}(he:es[j]?=some e)(hl:dep e.1 % 2=dep e.2 % 2)
 (C:Cut (upW es bk (dep e.1) e.1) (upW es bk (dep e.2) e.2) us ds):Odd es (us++ds.reverse++[j]):=by
 obtain⟨vs,P,nd,h3,ho⟩:=M9 F (by omega) hen he hl C
 have lt:∀{ts:List Nat} {p q:Nat} {vs:List Nat},Pth es ts p q vs->∀ t∈ts,t<es.length:=by
  intro ts
  induction ts with
  | nil=>intro _ _ _ _ t ht;exact nomatch ht
  | cons t ts ih=>
    rintro p q vs ⟨e,vs',h1,_,_,h2⟩ u hu;rcases TC.mp hu with rfl | hu
    ·exact(gM h1).1
    ·exact ih h2 u hu
 refine⟨lt P,?_,h3,ho,_,vs,P,nd⟩;obtain⟨cm,ca,cb⟩:=C.ex;have l1:=Bj es bk (dep e.1) e.1;have l2:=Bj es bk (dep e.2) e.2;have d1:=(F.gs.tr (by omega)).few e.1;have d2:=(F.gs.tr (by omega)).few e.2;have hee:=hen e (Sm he);have k1:=F.gs.low e.1 ⟨_,F.all e.1 (by omega)⟩;have k2:=F.gs.low e.2 ⟨_,F.all e.2 hee.2⟩;have k3:=Ue (p:=UD) (l:=sd);rw[F.gs.ls]at k3;rw[ca,Sl]at l1;rw[cb,Sl]at l2;rw[Sl,Sl,UY,U8];omega
open PySem L2
theorem MC{es:EE}:∀{ts:List Nat} {p q:Nat} {vs:List Nat},Pth es ts p q vs->vs.length=ts.length/\∀ i,i<ts.length->es.getD (ts.getD i 0) (0,0)∈es/\((vs++[q]).getD i 0=(es.getD (ts.getD i 0) (0,0)).1\/(vs++[q]).getD i 0=(es.getD (ts.getD i 0) (0,0)).2)/\(vs++[q]).getD (i+1) 0=farE (es.getD (ts.getD i 0) (0,0)) ((vs++[q]).getD i 0)
 | [],p,q,vs,h=>by obtain⟨rfl,rfl⟩:=h;exact⟨rfl,fun i hi=>nomatch hi⟩
 | t::ts,p,q,vs,h=>by
   obtain⟨e,vs',h1,h2,rfl,h3⟩:=h;obtain⟨k1,k2⟩:=MC h3;have he:es.getD t (0,0)=e:=by rw[TU,h1];rfl
   refine⟨by rw[Tq,Tq,k1],fun i hi=>?_⟩;cases i with
   | zero=>
     show es.getD t (0,0)∈es/\(p=(es.getD t (0,0)).1\/p=(es.getD t (0,0)).2)/\(vs'++[q]).getD 0 0=farE (es.getD t (0,0)) p;rw[he];refine⟨Sm h1,h2,?_⟩;cases ts with
     | nil=>obtain⟨rfl,rfl⟩:=h3;rfl
     | cons t' ts'=>obtain⟨e',vs'',_,_,rfl,_⟩:=h3;rfl
   | succ i=>exact k2 i (by rw[Tq]at hi;omega)
theorem QQ{es:EE}{ts:List Nat}{b:Nat×Nat->Bool}(hu:∀ e∈es,e.1≠e.2)(hM:∀ e∈es,∀ e'∈es,∀ v,(v=e.1\/v=e.2)->(v=e'.1\/v=e'.2)->b e=b e'->e=e')(O:Odd es ts):False:=by
 obtain⟨p,vs,P,nd⟩:=O.ex;obtain⟨hl,H⟩:=MC P;have h3:=O.three;have ho:=O.odd
 have hd:∀ i j,i<j->j<ts.length->(vs++[p]).getD i 0≠(vs++[p]).getD j 0:=fun i j hij hj=>by
  rw[TU,TU,T9 (by omega),T9 (by omega),Sj (by omega),Sj (by omega)];exact(U4.mp nd) i j (by omega) (by omega) hij
 have h0:(vs++[p]).getD 0 0=p:=by
  cases ts with
  | nil=>simp at h3
  | cons t ts=>obtain⟨_,_,_,_,rfl,_⟩:=P;rfl
 have hL:(vs++[p]).getD ts.length 0=p:=by
  rw[TU,<-hl,TX];rfl
 generalize hw:(fun i=>(vs++[p]).getD i 0)=w at *;have hw':∀ i,(vs++[p]).getD i 0=w i:=fun i=>congrFun hw i;generalize hE:(fun i=>es.getD (ts.getD i 0) (0,0))=E at *;have hE':∀ i,es.getD (ts.getD i 0) (0,0)=E i:=fun i=>congrFun hE i;simp only[hw',hE']at H hd h0 hL;generalize ts.length=L at *
 have step:∀ i,i+1<L->b (E (i+1))=!b (E i):=fun i hi=>by
  obtain⟨a1,a2,a3⟩:=H i (by omega);obtain⟨c1,c2,c3⟩:=H (i+1) hi;cases hb:b (E (i+1))<;>cases hb2:b (E i)<;>try rfl
  all_goals
   exfalso;have e:=hM _ a1 _ c1 (w (i+1)) (by rw[a3];exact B0 a2) c2 (by rw[hb,hb2]);rw[<-e,a3,BW (hu _ a1) a2]at c3;by_cases hz:i+2<L
   ·exact hd i (i+2) (by omega) hz c3.symm
   ·have:i+1+1=L:=by omega
    rw[this,hL,<-h0]at c3;exact hd 0 i (by omega) (by omega) c3
 have par:∀ i,i<L->b (E i)=if i % 2=0 then b (E 0) else !b (E 0):=by
  intro i
  induction i with
  | zero=>intro _;rfl
  | succ i ih=>
    intro hi;rw[step i hi,ih (by omega)];by_cases h:i % 2=0
    ·rw[if_pos h,if_neg (by omega)]
    ·rw[if_neg h,if_pos (by omega),Bool.not_not]
 have hlast:=par (L - 1) (by omega);rw[if_pos (by omega)]at hlast;obtain⟨a1,a2,a3⟩:=H 0 (by omega);obtain⟨c1,c2,c3⟩:=H (L - 1) (by omega);rw[show L - 1+1=L by omega,hL,<-h0]at c3;have e:=hM _ a1 _ c1 (w 0) a2 (by rw[c3];exact B0 c2) hlast.symm;rw[<-e]at c3 c2;have:farE (E 0) (w 0)=w (L - 1):=by rw[c3,BW (hu _ a1) c2]
 rw[<-a3]at this;exact hd 1 (L - 1) (by omega) (by omega) this
open PySem L2
noncomputable def An(ts:List Nat):EE:=(Sx (ts.length / 2)).map fun i=>(ts.getD (2 * i) 0,ts.getD (2 * i+1) 0)
noncomputable def BY(es:EE)(t:Nat):Nat×Nat:=es.getD t (0,0)
theorem D4{es:EE}{t:Nat}(h:t<es.length):es[t]?=some (BY es t):=by
 unfold BY;rw[TU,Sj h];rfl
theorem MD{es:EE}{t:Nat}(h:t<es.length):BY es t∈es:=Sm (D4 h)
theorem Bn{es:EE}{p t:Nat}(h:t∈e7 es p es.length):t<es.length/\((BY es t).1=p\/(BY es t).2=p):=by
 obtain⟨e,he,h⟩:=mem_tiesAt.mp h;have hl:=(gM he).1;refine⟨hl,?_⟩;rw[D4 hl]at he;rw[oj he];exact h
theorem E6(es:EE)(p m:Nat):(e7 es p m).Pairwise (·<·):=List.Pairwise.filter _ Uq
theorem HQ{ts:List Nat}{i:Nat}(h:i<ts.length / 2):ts[2 * i]?=some (ts.getD (2 * i) 0)/\ts[2 * i+1]?=some (ts.getD (2 * i+1) 0):=by
 rw[TU,TU,Sj (show 2 * i<ts.length by omega),Sj (show 2 * i+1<ts.length by omega)];exact⟨rfl,rfl⟩
theorem CK{ts:List Nat}{c:Nat×Nat}(h:c∈An ts):∃ i,i<ts.length / 2/\ts[2 * i]?=some c.1/\ts[2 * i+1]?=some c.2:=by
 obtain⟨i,hi,rfl⟩:=UR.mp h;rw[TY]at hi;exact⟨i,hi,HQ hi⟩
theorem up_at{ts:List Nat}(h:ts.Pairwise (·<·)){i j a b:Nat}(hi:ts[i]?=some a)(hj:ts[j]?=some b)(hij:i<j):a<b:=by
 obtain⟨h1,rfl⟩:=gM hi;obtain⟨h2,rfl⟩:=gM hj;exact(U4.mp h) i j h1 h2 hij
theorem Ej{ts:List Nat}(h:ts.Pairwise (·<·)){i j a:Nat}(hi:ts[i]?=some a)(hj:ts[j]?=some a):i=j:=by
 rcases Vx i j with z | z | z
 ·exact absurd (up_at h hi hj z) (UA _)
 ·exact z
 ·exact absurd (up_at h hj hi z) (UA _)
theorem bal{f:Nat->Bool}:∀(k:Nat) (ts:List Nat),ts.length<=k->(∀ i a b,ts[2 * i]?=some a->ts[2 * i+1]?=some b->f a≠f b)->ts.countP f<=ts.countP (fun t=>!f t)+1/\ts.countP (fun t=>!f t)<=ts.countP f+1
 | _,[],_,_=>⟨by simp,by simp⟩
 | _,[a],_,_=>by
   constructor<;>simp only[V9,Ve]<;>split<;>omega
 | 0,a::b::r,h,_=>by simp at h
 | k+1,a::b::r,h,hf=>by
   have h1:=hf 0 a b rfl rfl;have ih:=bal k r (by simp at h;omega) (fun i x y hx hy=>hf (i+1) x y (by rw[show 2 * (i+1)=2 * i+1+1 by omega];exact hx) (by rw[show 2 * (i+1)+1=2 * i+1+1+1 by omega];exact hy));simp only[V9];cases ha:f a<;>cases hb:f b
   ·exact absurd (ha.trans hb.symm) h1
   ·simp;omega
   ·simp;omega
   ·exact absurd (ha.trans hb.symm) h1
open PySem L2
section
variable{Δ:Nat->Sn}
theorem v0{D:EndsS}{ρ:EnvS}{S:Sto}(h:D.nx ρ S):wSs Δ [] D ρ S:=h
theorem QR{s:Sn}{x y:SV}{S:Sto}{Q:QE}(e:x=y)(h:s [y] S Q):s [x] S Q:=e▸h
noncomputable def Fp(k:Nat):List Stm:=[(.asg (.tup (.cons (.nm 1) (.cons (.nm 2) .nil))) (.call k (.cons (.var 0) .nil))),(.iff (.cmp .Eq (.var 1) (.c (.str "ring"))) [.no] []),(.ret (.var 2))]
noncomputable def Unl(s:Hue.Sds)(es:EE):Prop:=∀ e∈es,∃ a b,a<2/\b<2/\a≠b/\s[e.1]?=some (some a)/\s[e.2]?=some (some b)
noncomputable def SA(k:Nat):List Stm:=[(.asg (.nm 2) (.call k (.cons (.var 0) (.cons (.var 1) .nil)))),(.ret (.comp ["at"] ["ties"] [2] (.nm 0) (.rngT (.c (.int 0)) (.op .Sub (.bi .len (.cons (.var 2) .nil)) (.c (.int 1)))) .no (.tup (.cons (.ix (.var 1) (.var 0)) (.cons (.ix (.var 1) (.op .Add (.var 0) (.c (.int 1)))) .nil)))))]
noncomputable def IU(s:Sn):Prop:=∀{n p:Nat} {es:EE} {S:Sto} {Q:QE},es.length<=5000->p<n->(∀(l:Nat) (S':Sto),Gw S S'->S.length<=l->S'[l]?=some (.lst ((An (e7 es p es.length)).map pairS))->Q (.loc l) S')->s [r6 n es,.int p] S Q
theorem ME{hi:Int}{i:Nat}{x:SV}(h:(rngT 0 hi)[i]?=some x):x = .int ((2 * i:Nat):Int):=by
 unfold rngT at h
 have hi':i<Bp 0 hi:=by
  have:=(gM h).1;simpa using this
 rw[TB,U6 hi']at h;rw[<-oj h];show SV.int (0+(i:Int) * 2)=_;rw[show(0:Int)+(i:Int) * 2=((2 * i:Nat):Int) by omega]
theorem Fq(k:Nat):Bp 0 ((k:Int) - 1)=k / 2:=by unfold Bp;split<;>omega
theorem CL(ts:List Nat):(An ts).length=ts.length / 2:=by unfold An;simp
theorem Dk{es:EE}{i:Nat}{e:Nat×Nat}(h:es[i]?=some e):(es.take i).map pairS++[pairS e]=(es.take (i+1)).map pairS:=by
 rw[U2,h,Tt];rfl
theorem QS(hΔ:∀ f,MonoN (Δ f)){k:Nat}(ht:CJ (Δ k)){D:Df}(hb:D.body=SA k)(hN:D.N.length=3)(hp:D.ps.length=2):IU (j8 Δ D):=by
 intro n p es S Q hel hpn q;unfold j8;rw[hb,hN];refine⟨hp.symm,_,rfl,_,rfl,ht hel hpn ?_⟩;have tl:=B9 es p es.length;generalize e7 es p es.length=ts at *;have hS:(S++[SO.lst (natS ts)])[S.length]?=some (.lst (natS ts)):=c9;refine⟨_,rfl,_,c7 hS,_,_,rfl,rfl,⟨by decide,by decide,by rw[e8];omega,by rw[e8];omega⟩,?_⟩;refine q0 (i9 hΔ _).2 (a8 hΔ _).1 (fun i ys S2=>S2=S++[SO.lst (natS ts)]/\ys=((An ts).take i).map pairS) ⟨rfl,rfl⟩ (fun _ _ _ _=>trivial) ?_ ?_
 ·rintro i x ys S2 hx ⟨rfl,rfl⟩
  have hi:i<ts.length / 2:=by
   have:=(gM hx).1;unfold rngT at this;rw[Sk,UM,e8,Fq]at this;exact this
  have hx:=ME hx;subst hx;obtain⟨h1,h2⟩:=HQ hi;have hc:(An ts)[i]?=some (ts.getD (2 * i) 0,ts.getD (2 * i+1) 0):=by unfold An;rw[TB,U6 hi];rfl
  refine⟨_,rfl,_,rfl,_,_,c7 hS,i6 (Az h1),_,rfl,_,rfl,_,.int ((ts.getD (2 * i+1) 0:Nat):Int),c7 hS,?_,by show 2<=big;decide,?_,rfl,Dk hc⟩
  ·rw[show((2 * i:Nat):Int)+1=((2 * i+1:Nat):Int) by omega];exact i6 (Az h2)
  ·rw[Sk,Tb,CL];show _<100000;omega
 ·rintro ys S2 ⟨rfl,rfl⟩;rw[show(rngT 0 (((natS ts).length:Int) - 1)).length=(An ts).length by unfold rngT;rw[Sk,UM,e8,Fq,CL],Ub];exact q _ _ (Gw.refl S).push.push (by rw[Sl];omega) c9
end
end Rf
namespace Hue
section
variable{n:Nat}{es:EE}(hn:∀ e∈es,e.1<n/\e.2<n)
include hn
end
section
variable{n x:Nat}{es:EE}
variable(hn:∀ e∈es,e.1<n/\e.2<n)
include hn
end
end Hue
namespace Rf
open PySem L2
structure Sdd(n:Nat)(es:EE)(sd:Nat->Nat):Prop where
 en:∀ e∈es,e.1<e.2/\e.2<n
 two:∀ p,sd p<2
 ne:∀ e∈es,sd e.1≠sd e.2
open PySem L2
section
variable{n:Nat}{es:EE}{sd:Nat->Nat}{P0:List (Option Nat)}{starts:List Nat}{cm:Cm}
noncomputable def AN(es:EE)(p:Nat):Nat:=(e7 es p es.length).length
end
open PySem L2
theorem Bo{xs:List Nat}{i:Nat}{x:SV}(h:(natS xs)[i]?=some x):∃ j,xs[i]?=some j/\x = .int j:=by
 unfold natS at h;rw[TB]at h;cases hx:xs[i]? with
 | none=>rw[hx]at h;cases h
 | some j=>rw[hx]at h;exact⟨j,rfl,(oj h).symm⟩
open PySem L2
theorem IV:∀(xs:List Nat),ES (natS xs)=some (xs.map fun(i:Nat)=>(i:Int))
 | []=>rfl
 | x::xs=>by
   show(ES (natS xs)).map (((x:Nat):Int)::·)=_;rw[IV xs];rfl
open PySem L2
noncomputable def iN(xs:List Nat):List Int:=xs.map fun(i:Nat)=>(i:Int)
theorem SB{l:List Nat}(h:l.Pairwise (·<·)):l.Nodup:=h.imp fun h z=>by omega
open PySem L2
noncomputable def C4(p:Nat)(e:Nat×Nat):Bool:=decide (e.1=p)||decide (e.2=p)
theorem MF{p:Nat}{e:Nat×Nat}:C4 p e=true↔(p=e.1\/p=e.2):=by
 unfold C4;simp only[Tj,decide_eq_true_eq];exact⟨fun h=>h.imp Eq.symm Eq.symm,fun h=>h.imp Eq.symm Eq.symm⟩
theorem Fr(es:EE)(p:Nat):∀ i,i<=es.length->(e7 es p i).length=(es.take i).countP (C4 p)
 | 0,_=>by simp[e7]
 | i+1,h=>by
   have he:es[i]?=some es[i]:=Sj (by omega);rw[BV es p i he,Sl,Fr es p i (by omega),U2,he,Vs];show _+_=_+Wj (C4 p) [es[i]];rw[V9,Ve];unfold C4;by_cases z:(decide (es[i].1=p)||decide (es[i].2=p))=true
   ·rw[if_pos z,if_pos z];rfl
   ·rw[if_neg z,if_neg z];rfl
theorem QT(es:EE)(p:Nat):AN es p=es.countP (C4 p):=by
 unfold AN;rw[Fr es p _ (Sr _),Ub]
open PySem L2
section
variable{Δ:Nat->Sn}
theorem D5(xs:List Nat):(iN xs).map SV.int=natS xs:=by unfold iN natS;rw[Vv];rfl
structure Web2(n:Nat)(es:EE):Prop where
 en:∀ e∈es,e.1<e.2/\e.2<n
 len:es.length<=1000
 few:n<=60
 two:∃ c:Nat->Nat,(∀ p,c p<2)/\∀ e∈es,c e.1≠c e.2
end
open PySem L2
theorem Jk(fs:EE)(k:Nat)(e:Nat×Nat):(fs.map pairS).take k++pairS e::(fs.map pairS).drop k=(fs.take k++e::fs.drop k).map pairS:=by
 rw[Tt,To,WX,WY]
theorem Nv{fs:EE}{k:Nat}{e:Nat×Nat}{P:Nat×Nat->Prop}(h:∀ f∈fs,P f)(he:P e):∀ f∈fs.take k++e::fs.drop k,P f:=fun f hf=>by
 rcases TQ.mp hf with hf | hf
 ·exact h f (Uj hf)
 ·rcases TC.mp hf with hf | hf
  ·rw[hf];exact he
  ·exact h f (Uz hf)
theorem Nw(fs:EE)(k:Nat)(e:Nat×Nat):(fs.take k++e::fs.drop k).length=fs.length+1:=by
 rw[Sl,Tq,Tb,Ti];omega
open PySem L2
noncomputable def t2(kd:Nat):Stm:=(.asg (.nm 2) (.ix (.lst (.cons (.call kd (.cons (.var 0) (.cons (.c (.int 8)) .nil))) (.cons (.op .Add (.c (.int 8)) (.call kd (.cons (.var 0) (.cons (.c (.int 23)) .nil)))) .nil))) (.bi .int (.cons (.var 1) .nil))))
noncomputable def t3(kd:Nat):Stm:=(.asg (.nm 3) (.comp ["_law_k"] ["_law_tape_here"] [0] (.nm 0) (.rng1 (.var 2)) .no (.call kd (.cons (.var 1) (.cons (.c (.int 2)) .nil)))))
noncomputable def t4:Stm:=(.asg (.nm 4) (.comp ["_law_k"] ["_law_sides"] [3] (.nm 0) (.rng1 (.var 2)) (.yes (.cmp .Eq (.ix (.var 1) (.var 0)) (.c (.int 0)))) (.var 0)))
noncomputable def t5:Stm:=(.asg (.nm 5) (.comp ["_law_k"] ["_law_sides"] [3] (.nm 0) (.rng1 (.var 2)) (.yes (.cmp .Eq (.ix (.var 1) (.var 0)) (.c (.int 1)))) (.var 0)))
noncomputable def t6(kd:Nat):Stm:=(.asg (.nm 6) (.call kd (.cons (.var 0) (.cons (.c (.int 6)) .nil))))
noncomputable def t7:Stm:=(.asg (.nm 7) (.lst .nil))
noncomputable def t8a:Stm:=(.iff (.cmp .Eq (.var 6) (.c (.int 0))) [(.loop (.nm 8) (.seq (.var 4)) [(.expr (.mt .extend (.var 7) (.cons (.comp ["_law_other"] ["_law_one"] [8] (.nm 0) (.seq (.var 5)) .no (.tup (.cons (.var 1) (.cons (.var 0) .nil)))) .nil)))])] [])
noncomputable def t8b:Stm:=(.iff (.cmp .Eq (.var 6) (.c (.int 1))) [(.asg (.nm 7) (.comp ["_law_other"] ["_law_left"] [4] (.nm 0) (.seq (.var 5)) .no (.tup (.cons (.ix (.var 1) (.c (.int 0))) (.cons (.var 0) .nil)))))] [])
noncomputable def t8c(kd:Nat):Stm:=(.iff (.cmp .Gt (.var 6) (.c (.int 1))) [(.loop (.nm 9) (.rng1 (.call kd (.cons (.var 0) (.cons (.ix (.lst (.cons (.op .Add (.var 2) (.c (.int 2))) (.cons (.op .Mult (.c (.int 3)) (.var 2)) .nil))) (.op .Mod (.var 6) (.c (.int 2)))) .nil)))) [(.expr (.mt .append (.var 7) (.cons (.tup (.cons (.ix (.var 4) (.call kd (.cons (.var 0) (.cons (.bi .len (.cons (.var 4) .nil)) .nil)))) (.cons (.ix (.var 5) (.call kd (.cons (.var 0) (.cons (.bi .len (.cons (.var 5) .nil)) .nil)))) .nil))) .nil)))])] [])
noncomputable def t8(kd:Nat):Stm:=(.iff (.and (.cmp .NotEq (.var 4) (.lst .nil)) (.cmp .NotEq (.var 5) (.lst .nil))) [t8a,t8b,t8c kd] [])
noncomputable def t9(kd:Nat):Stm:=(.iff (.and (.cmp .NotEq (.var 7) (.lst .nil)) (.cmp .Eq (.call kd (.cons (.var 0) (.cons (.c (.int 3)) .nil))) (.c (.int 0)))) [(.asg (.nm 7) (.op .Add (.var 7) (.comp ["_law_turn"] ["_law_found","_law_tape_here"] [7,0] (.nm 0) (.rng1 (.op .Add (.c (.int 1)) (.call kd (.cons (.var 0) (.cons (.c (.int 6)) .nil))))) .no (.ix (.var 1) (.call kd (.cons (.var 2) (.cons (.bi .len (.cons (.var 1) .nil)) .nil)))))))] [])
noncomputable def t10:Stm:=(.asg (.nm 10) (.lst .nil))
noncomputable def t11(kd:Nat):Stm:=(.loop (.tup (.cons (.nm 8) (.cons (.nm 11) .nil))) (.seq (.slc (.var 7) .no (.yes (.c (.int 90))))) [(.expr (.mt .insert (.var 10) (.cons (.call kd (.cons (.var 0) (.cons (.op .Add (.bi .len (.cons (.var 10) .nil)) (.c (.int 1))) .nil))) (.cons (.tup (.cons (.bi .min (.cons (.var 8) (.cons (.var 11) .nil))) (.cons (.bi .max (.cons (.var 8) (.cons (.var 11) .nil))) .nil))) .nil))))])
noncomputable def t12:Stm:=(.ret (.tup (.cons (.var 2) (.cons (.bi .tuple (.cons (.var 10) .nil)) .nil))))
noncomputable def Fs(kd:Nat):List Stm:=[t2 kd,t3 kd,t4,t5,t6 kd,t7,t8 kd,t9 kd,t10,t11 kd,t12]
noncomputable def Un(n:Nat)(c:Nat->Nat)(fs:EE):Prop:=∀ f∈fs,f.1<n/\f.2<n/\c f.1≠c f.2
theorem Un.app{n:Nat}{c:Nat->Nat}{fs gs:EE}(a:Un n c fs)(b:Un n c gs):Un n c (fs++gs):=fun f hf=>(TQ.mp hf).elim (a f) (b f)
section
variable{Δ:Nat->Sn}{kd:Nat}
theorem Ek(hΔ:∀ f,MonoN (Δ f))(hd:BS (Δ kd)){t l n:Nat}{c:Nat->Nat}{S0 S:Sto}{fs:EE}{Q:QE}{o1 o3 o4 o5 o6 o8 o9:Option SV}(A:Ah t S0 S l fs)(hf:Un n c fs)(fl:fs.length<=990)
 (q:∀(es:EE) (S':Sto),(∀ e∈es,e.1<e.2/\e.2<n/\c e.1≠c e.2)->es.length<=90->TapeS S' t->On t S0 S'->Q (r6 n es) S'):
 wSs Δ [t10,t11 kd,t12] (AY Q) [some (.loc t),o1,some (.int n),o3,o4,o5,o6,some (.loc l),o8,o9,none,none] S:=by
 refine⟨by show 0<=big;decide,?_⟩;have A1:=A.push (o:=SO.lst []);have B1:Ah t S0 (S++[SO.lst []]) S.length []:=⟨A.tape.push,A.on.push,c9,A.on.len,A.t0⟩
 have nl:l≠S.length:=TL (AA A.at');generalize S.length=lk' at *;generalize S++[SO.lst []]=S1 at *;refine⟨_,rfl,_,rfl,_,A1.at',_,c7 c9,?_⟩
 have ec:EV (fs.map pairS) none (some 90)=((fs.drop (HT.sIx (fs.map pairS).length 0 none)).take (HT.sIx (fs.map pairS).length (fs.map pairS).length (some 90) - HT.sIx (fs.map pairS).length 0 none)).map pairS:=by
  unfold EV;rw[WX,WY]
 have gm:∀ f∈(fs.drop (HT.sIx (fs.map pairS).length 0 none)).take (HT.sIx (fs.map pairS).length (fs.map pairS).length (some 90) - HT.sIx (fs.map pairS).length 0 none),f∈fs:=fun f h=>Uz (Uj h)
 have gl:((fs.drop (HT.sIx (fs.map pairS).length 0 none)).take (HT.sIx (fs.map pairS).length (fs.map pairS).length (some 90) - HT.sIx (fs.map pairS).length 0 none)).length<=90:=by
  have:=HT.sIx_nat (fs.map pairS).length (fs.map pairS).length 90;have e:HT.sIx (fs.map pairS).length (fs.map pairS).length (some 90)=min 90 (fs.map pairS).length:=this;rw[Tb,Ti,e];omega
 rw[ec];generalize (fs.drop (HT.sIx (fs.map pairS).length 0 none)).take (HT.sIx (fs.map pairS).length (fs.map pairS).length (some 90) - HT.sIx (fs.map pairS).length 0 none)=gs at *;have hg:(S1++[SO.lst (gs.map pairS)])[S1.length]?=some (.lst (gs.map pairS)):=c9;have B2:=B1.push (o:=SO.lst (gs.map pairS));have ng:S1.length≠t:=by have:=A1.tape.lt;omega
 have ng2:S1.length≠lk':=by have:=AA B1.at';omega
 generalize S1.length=lg at *;generalize S1++[SO.lst (gs.map pairS)]=S2 at *;refine w6 (l9 hΔ _) (fun i ρ S3=>∃(es:EE) (o8 o11:Option SV),ρ=[some (.loc t),o1,some (.int n),o3,o4,o5,o6,some (.loc l),o8,o9,some (.loc lk'),o11]/\Ah t S0 S3 lk' es/\S3[lg]?=some (.lst (gs.map pairS))/\(∀ e∈es,e.1<e.2/\e.2<n/\c e.1≠c e.2)/\es.length=i) ⟨[],o8,none,rfl,B2,hg,(fun _ h=>nomatch h),rfl⟩ (fun _ _ S3 ⟨_,_,_,_,_,h,_⟩=>h.trans hg.symm) ?_ ?_
 ·rintro i x ρ S3 hx ⟨es,p8,p11,rfl,A3,h3,he,el⟩;obtain⟨f,hfi,rfl⟩:=BU hx;have hil:=(gM hfi).1;obtain⟨u1,u2,u3⟩:=hf f (gm f (Sm hfi));have une:f.1≠f.2:=fun z=>u3 (by rw[z]);refine⟨_,rfl,⟨_,_,rfl,A3.at'⟩,_,rfl,_,rfl,_,c7 A3.at',hd A3.tape (by omega) (by rw[Sk];omega) fun r S4 r0 r1 T4 O4 _=>?_⟩;have A4:=A3.draw T4 O4;rw[Sk]at r1;refine⟨_,rfl,_,rfl,_,rfl,_,rfl,by show 2<=big;decide,?_⟩;refine⟨_,A4.at',⟨r0,by rw[Sk];omega⟩,by rw[Sk];show _<100000;omega,?_⟩
  have key:∀ z1 z2:Int,z1=((min f.1 f.2:Nat):Int)->z2=((max f.1 f.2:Nat):Int)->∃(es':EE) (o8 o11:Option SV),([some (.loc t),o1,some (.int n),o3,o4,o5,o6,some (.loc l),some (.int f.1),o9,some (.loc lk'),some (.int f.2)]:EnvS)=[some (.loc t),o1,some (.int n),o3,o4,o5,o6,some (.loc l),o8,o9,some (.loc lk'),o11]/\Ah t S0 (S4.set lk' (.lst ((es.map pairS).take r.toNat ++ .tup [.int z1,.int z2]::(es.map pairS).drop r.toNat))) lk' es'/\(S4.set lk' (.lst ((es.map pairS).take r.toNat ++ .tup [.int z1,.int z2]::(es.map pairS).drop r.toNat)))[lg]?=some (.lst (gs.map pairS))/\(∀ e∈es',e.1<e.2/\e.2<n/\c e.1≠c e.2)/\es'.length=i+1:=by
   rintro _ _ rfl rfl;have ip:(es.map pairS).take r.toNat++SV.tup [.int ((min f.1 f.2:Nat):Int),.int ((max f.1 f.2:Nat):Int)]::(es.map pairS).drop r.toNat=(es.take r.toNat++(min f.1 f.2,max f.1 f.2)::es.drop r.toNat).map pairS:=Jk es r.toNat (min f.1 f.2,max f.1 f.2);rw[ip];refine⟨_,_,_,rfl,A4.put,by rw[m7 (Ne.symm ng2)];exact O4.keep _ _ ng h3,Nv he ⟨by show min f.1 f.2<max f.1 f.2;omega,by show max f.1 f.2<n;omega,?_⟩,by rw[Nw,el]⟩;show c (min f.1 f.2)≠c (max f.1 f.2);rcases W1 f.1 f.2 with z | z
   ·rw[Vd z,WB z];exact u3
   ·rw[VY z,WJ z];exact Ne.symm u3
  exact key _ _ (Nr _ _) (Nt _ _)
 ·rintro ρ S3 ⟨es,p8,p11,rfl,A3,h3,he,el⟩;rw[Sk]at el;exact⟨_,rfl,_,rfl,_,c7 A3.at',by show 2<=big;decide,q es S3 he (by omega) A3.tape A3.on⟩
theorem El(hΔ:∀ f,MonoN (Δ f))(hd:BS (Δ kd)){t l n:Nat}{c:Nat->Nat}{S0 S:Sto}{fs:EE}{Q:QE}{o1 o3 o4 o5 o6 o8 o9:Option SV}(A:Ah t S0 S l fs)(hf:Un n c fs)(fl:fs.length<=980)
 (q:∀(es:EE) (S':Sto),(∀ e∈es,e.1<e.2/\e.2<n/\c e.1≠c e.2)->es.length<=90->TapeS S' t->On t S0 S'->Q (r6 n es) S'):
 wSs Δ [t9 kd,t10,t11 kd,t12] (AY Q) [some (.loc t),o1,some (.int n),o3,o4,o5,o6,some (.loc l),o8,o9,none,none] S:=by
 refine⟨_,rfl,by show 0<=big;decide,?_⟩;have A1:=A.push (o:=SO.lst []);refine⟨_,_,A1.at',c9,.inr (.inr rfl),_,rfl,?_⟩;rw[DT];refine ifB (fun h1=>?_) (fun h1=>ifF rfl (v0 (Ek hΔ hd A1 hf (by omega) q)))
 have hpos:0<fs.length:=by
  cases fs with
  | nil=>cases h1
  | cons _ _=>simp
 refine⟨_,rfl,hd A1.tape (by decide) (by decide) fun r S2 r0 r1 T2 O2 _=>⟨_,rfl,?_⟩⟩;have A2:=A1.draw T2 O2;refine ifD (fun _=>?_) (fun _=>v0 (Ek hΔ hd A2 hf (by omega) q));refine⟨_,rfl,_,rfl,hd A2.tape (by decide) (by decide) fun r3 S3 a0 a1 T3 O3 _=>⟨_,rfl,⟨by omega,by omega⟩,?_⟩⟩;have A3:=A2.draw T3 O3;refine q0 (i9 hΔ _).2 (a8 hΔ _).1 (fun i ys S4=>Ah t S0 S4 l fs/\∃ gs:EE,ys=gs.map pairS/\(∀ e∈gs,e∈fs)/\gs.length=i) ⟨A3,[],rfl,(fun _ h=>nomatch h),rfl⟩ (fun _ _ _ _=>trivial) ?_ ?_
 ·rintro i x ys S4 hx ⟨A4,gs,rfl,hg,gl⟩;obtain⟨rfl,hi⟩:=Af hx;refine⟨_,rfl,_,rfl,_,rfl,_,c7 A4.at',hd A4.tape (by rw[Sk];omega) (by rw[Sk];omega) fun r5 S5 b0 b1 T5 O5 _=>?_⟩;have A5:=A4.draw T5 O5;rw[Sk]at b1;have hr:r5.toNat<fs.length:=by omega
  refine⟨_,pairS fs[r5.toNat],c7 A5.at',?_,by rw[Sk];show _<100000;omega,A5,gs++[fs[r5.toNat]],?_,fun e h=>?_,by simp[gl]⟩
  ·have:=i6 (xs:=fs.map pairS) (j:=r5.toNat) (v:=pairS fs[r5.toNat]) (by rw[TB,Sj hr];rfl)
   rwa [VF b0]at this
  ·rw[Tt];rfl
  ·rcases TQ.mp h with h | h
   ·exact hg e h
   ·rw[TH.mp h];exact UI hr
 ·rintro ys S4 ⟨A4,gs,rfl,hg,gl⟩;rw[Bi]at gl;have A5:=A4.push (o := .lst (gs.map pairS));refine⟨_,_,A5.at',c9,by simp;show _<=100000;omega,?_⟩;rw[<-Tt];refine Ek hΔ hd (fs:=fs++gs) ⟨A5.tape.push,A5.on.push,c9,A5.on.len,A.t0⟩ (hf.app fun e he=>hf e (hg e he)) (by rw[Sl];omega) q
structure Lr(n:Nat)(c:Nat->Nat)(ls rs:List Nat):Prop where
 l:∀ a∈ls,a<n/\c a=0
 r:∀ b∈rs,b<n/\c b=1
 ll:ls.length<=31
 rl:rs.length<=31
theorem SC(hΔ:∀ f,MonoN (Δ f)){t l l4 l5 n:Nat}{w:Int}{c:Nat->Nat}{ls rs:List Nat}{S0 S:Sto}{D:EndsS}{rest:List Stm}{o1 o2 o3 o8 o9:Option SV}(A:Ah t S0 S l [])(L:Lr n c ls rs)(h4:S0[l4]?=some (.lst (natS ls)))(h5:S0[l5]?=some (.lst (natS rs)))(n4:l4≠t)(n5:l5≠t)
 (q:∀(fs:EE) (o8:Option SV) (S':Sto),Ah t S0 S' l fs->Un n c fs->fs.length<=961->wSs Δ rest D [some (.loc t),o1,o2,o3,some (.loc l4),some (.loc l5),some (.int w),some (.loc l),o8,o9,none,none] S'):
 wSs Δ (t8a::rest) D [some (.loc t),o1,o2,o3,some (.loc l4),some (.loc l5),some (.int w),some (.loc l),o8,o9,none,none] S:=by
 refine⟨_,rfl,_,rfl,ifD (fun h=>?_) (fun h=>v0 (q [] _ S A (fun _ h=>nomatch h) (by simp)))⟩;have e4:=A.on.keep _ _ n4 h4;refine⟨_,rfl,_,c7 e4,?_⟩;refine w6 (l9 hΔ _) (fun i ρ S'=>∃(fs:EE) (o8:Option SV),ρ=[some (.loc t),o1,o2,o3,some (.loc l4),some (.loc l5),some (.int w),some (.loc l),o8,o9,none,none]/\Ah t S0 S' l fs/\Un n c fs/\fs.length<=31 * i) ⟨[],o8,rfl,A,(fun _ h=>nomatch h),by simp⟩ (fun _ _ S' ⟨_,_,_,A',_⟩=>(A'.on.keep _ _ n4 h4).trans e4.symm) ?_ ?_
 ·rintro i x ρ S2 hx ⟨fs,p8,rfl,A2,hf,fl⟩;obtain⟨a,ha,rfl⟩:=Bo hx;have hil:=(gM ha).1;obtain⟨a1,a2⟩:=L.l a (Sm ha);have ll:=L.ll;have rl:=L.rl;have e5:=A2.on.keep _ _ n5 h5;refine⟨_,rfl,⟨_,_,rfl,A2.at'⟩,_,rfl,_,c7 e5,?_⟩;refine q0 (i9 hΔ _).2 (a8 hΔ _).1 (fun j ys S3=>S3=S2/\ys=((rs.take j).map fun b=>(a,b)).map pairS) ⟨rfl,rfl⟩ (fun _ _ _ h=>by rw[h.1];exact rfl) ?_ ?_
  ·rintro j y ys S3 hy ⟨rfl,rfl⟩;obtain⟨b,hb,rfl⟩:=Bo hy;have hjl:=(gM hb).1;refine⟨_,rfl,_,rfl,by show 2<=big;decide,by rw[Sk,Sk,Tb];show _<100000;omega,rfl,?_⟩;rw[U2,hb,Tt,Tt];rfl
  ·rintro ys S3 ⟨rfl,rfl⟩;rw[e8,Ub];have A3:=A2.push (o:=SO.lst ((rs.map fun b=>(a,b)).map pairS));refine⟨_,_,A3.at',c9,by rw[Sk,Sk,Sk];show _<=100000;omega,?_⟩;rw[<-Tt];refine⟨_,_,rfl,A3.put,hf.app fun f hf'=>?_,by rw[Sl,Sk];omega⟩;obtain⟨b,hb,rfl⟩:=UR.mp hf';obtain⟨b1,b2⟩:=L.r b hb;exact⟨a1,b1,by show c a≠c b;omega⟩
 ·rintro ρ S2 ⟨fs,p8,rfl,A2,hf,fl⟩;rw[e8]at fl;have ll:=L.ll;exact q fs _ S2 A2 hf (by omega)
theorem SD(hΔ:∀ f,MonoN (Δ f)){t l l4 l5 n:Nat}{w:Int}{c:Nat->Nat}{ls rs:List Nat}{S0 S:Sto}{D:EndsS}{rest:List Stm}{fs:EE}{o1 o2 o3 o8 o9:Option SV}(A:Ah t S0 S l fs)(hf:Un n c fs)(fl:fs.length<=961)(L:Lr n c ls rs)(h4:S0[l4]?=some (.lst (natS ls)))(h5:S0[l5]?=some (.lst (natS rs)))(n4:l4≠t)(n5:l5≠t)(hp:0<ls.length)
 (q:∀(l:Nat) (fs:EE) (S':Sto),Ah t S0 S' l fs->Un n c fs->fs.length<=961->wSs Δ rest D [some (.loc t),o1,o2,o3,some (.loc l4),some (.loc l5),some (.int w),some (.loc l),o8,o9,none,none] S'):
 wSs Δ (t8b::rest) D [some (.loc t),o1,o2,o3,some (.loc l4),some (.loc l5),some (.int w),some (.loc l),o8,o9,none,none] S:=by
 refine⟨_,rfl,_,rfl,ifD (fun h=>?_) (fun h=>v0 (q l fs S A hf fl))⟩;have e4:=A.on.keep _ _ n4 h4;have e5:=A.on.keep _ _ n5 h5;have rl:=L.rl;have g0:=Sj hp;obtain⟨a1,a2⟩:=L.l _ (Sm g0);generalize ls[0]=a at *;refine⟨_,rfl,_,c7 e5,?_⟩;refine q0 (i9 hΔ _).2 (a8 hΔ _).1 (fun j ys S3=>S3=S/\ys=((rs.take j).map fun b=>(a,b)).map pairS) ⟨rfl,rfl⟩ (fun _ _ _ h=>by rw[h.1];exact rfl) ?_ ?_
 ·rintro j y ys S3 hy ⟨rfl,rfl⟩;obtain⟨b,hb,rfl⟩:=Bo hy;have hjl:=(gM hb).1;refine⟨_,rfl,_,_,c7 e4,i6 (j:=0) (Az g0),_,rfl,by show 2<=big;decide,by rw[Sk,Sk,Tb];show _<100000;omega,rfl,?_⟩;rw[U2,hb,Tt,Tt];rfl
 ·rintro ys S3 ⟨rfl,rfl⟩;rw[e8,Ub];refine q _ (rs.map fun b=>(a,b)) _ ⟨A.tape.push,A.on.push,c9,A.on.len,A.t0⟩ (fun f hf'=>?_) (by rw[Sk];omega);obtain⟨b,hb,rfl⟩:=UR.mp hf';obtain⟨b1,b2⟩:=L.r b hb;exact⟨a1,b1,by show c a≠c b;omega⟩
end
open PySem L2
section
variable{Δ:Nat->Sn}{kd:Nat}
theorem MG{xs:List Nat}{r:Int}(r0:0<=r)(h:r.toNat<xs.length):atI (natS xs) r=some (.int (xs[r.toNat]:Nat)):=by
 have:=i6 (xs:=natS xs) (j:=r.toNat) (v := .int (xs[r.toNat]:Nat)) (Az (Sj h))
 rwa [VF r0]at this
theorem Ol(hΔ:∀ f,MonoN (Δ f))(hd:BS (Δ kd)){t l l4 l5 n:Nat}{w:Int}{c:Nat->Nat}{ls rs:List Nat}{S0 S:Sto}{D:EndsS}{fs:EE}{o1 o3 o8 o9:Option SV}(A:Ah t S0 S l fs)(hf:Un n c fs)(fl:fs.length<=961)(he:1<w->fs=[])(L:Lr n c ls rs)(h4:S0[l4]?=some (.lst (natS ls)))(h5:S0[l5]?=some (.lst (natS rs)))(n4:l4≠t)(n5:l5≠t)(hp:0<ls.length)(hp2:0<rs.length)(hn:n<=31)
 (q:∀(o9:Option SV) (fs:EE) (S':Sto),Ah t S0 S' l fs->Un n c fs->fs.length<=961->D.nx [some (.loc t),o1,some (.int n),o3,some (.loc l4),some (.loc l5),some (.int w),some (.loc l),o8,o9,none,none] S'):
 wSs Δ [t8c kd] D [some (.loc t),o1,some (.int n),o3,some (.loc l4),some (.loc l5),some (.int w),some (.loc l),o8,o9,none,none] S:=by
 refine⟨_,rfl,_,rfl,ifD (fun h=>?_) (fun h=>v0 (q _ fs S A hf fl))⟩;have h:1<w:=h;obtain rfl:=he h;have n0:0<n:=by obtain⟨a1,_⟩:=L.l _ (UI hp);omega
 refine⟨_,rfl,_,rfl,_,rfl,.inl ⟨by decide,by decide⟩,by show 2<=big;decide,_,rfl,show(0:Int)<2 by decide,?_⟩;have A1:=A.push (o:=SO.lst [SV.int ((n:Int)+2),SV.int (3 * (n:Int))])
 have hm:∃ m:Int,atI [SV.int ((n:Int)+2),SV.int (3 * (n:Int))] (w % 2)=some (.int m)/\0<m/\m<=93:=by
  have:w % 2=0\/w % 2=1:=by omega
  rcases this with z | z
  ·rw[z];exact⟨(n:Int)+2,rfl,by omega,by omega⟩
  ·rw[z];exact⟨3 * (n:Int),rfl,by omega,by omega⟩
 obtain⟨m,em,m0,m1⟩:=hm;refine⟨_,SV.int m,c7 c9,em,?_⟩;generalize S++[SO.lst [SV.int ((n:Int)+2),SV.int (3 * (n:Int))]]=S1 at *;refine hd A1.tape m0 (by omega) fun r S2 r0 r1 T2 O2 _=>⟨_,rfl,⟨by omega,by omega⟩,?_⟩
 refine w6 (l9 hΔ _) (fun i ρ S'=>∃(fs:EE) (o9:Option SV),ρ=[some (.loc t),o1,some (.int n),o3,some (.loc l4),some (.loc l5),some (.int w),some (.loc l),o8,o9,none,none]/\Ah t S0 S' l fs/\Un n c fs/\fs.length=i) ⟨[],o9,rfl,A1.draw T2 O2,(fun _ h=>nomatch h),rfl⟩ (fun _ _ _ _=>trivial) ?_ ?_
 ·rintro i x ρ S3 hx ⟨fs,p9,rfl,A3,hf3,fl3⟩;obtain⟨rfl,hi⟩:=Af hx;have ll:=L.ll;have rl:=L.rl;have e4:=A3.on.keep _ _ n4 h4;refine⟨_,rfl,⟨_,_,rfl,A3.at'⟩,_,rfl,_,rfl,_,rfl,_,c7 e4,hd A3.tape (by rw[e8];omega) (by rw[e8];omega) fun a S4 a0 a1 T4 O4 _=>?_⟩;have A4:=A3.draw T4 O4;rw[e8]at a1;have ha:a.toNat<ls.length:=by omega
  refine⟨_,SV.int (ls[a.toNat]:Nat),c7 (A4.on.keep _ _ n4 h4),MG a0 ha,_,rfl,_,rfl,_,rfl,_,c7 (A4.on.keep _ _ n5 h5),hd A4.tape (by rw[e8];omega) (by rw[e8];omega) fun b S5 b0 b1 T5 O5 _=>?_⟩;have A5:=A4.draw T5 O5;rw[e8]at b1;have hb:b.toNat<rs.length:=by omega
  refine⟨_,SV.int (rs[b.toNat]:Nat),c7 (A5.on.keep _ _ n5 h5),MG b0 hb,by show 2<=big;decide,_,A5.at',by rw[Sk];show _<100000;omega,?_⟩;obtain⟨u1,u2⟩:=L.l _ (UI ha);obtain⟨v1,v2⟩:=L.r _ (UI hb);have e1:fs.map pairS++[SV.tup [.int (ls[a.toNat]:Nat),.int (rs[b.toNat]:Nat)]]=(fs++[(ls[a.toNat],rs[b.toNat])]).map pairS:=by rw[Tt];rfl
  rw[e1];refine⟨_,_,rfl,A5.put,hf3.app fun f hf'=>?_,by rw[Sl,fl3];rfl⟩;rw[TH.mp hf'];exact⟨u1,v1,by show c ls[a.toNat]≠c rs[b.toNat];omega⟩
 ·rintro ρ S3 ⟨fs,p9,rfl,A3,hf3,fl3⟩;rw[Bi]at fl3;exact q _ fs S3 A3 hf3 (by omega)
theorem Nx(hΔ:∀ f,MonoN (Δ f))(hd:BS (Δ kd)){t l4 l5 n:Nat}{c:Nat->Nat}{ls rs:List Nat}{S0:Sto}{Q:QE}{o1 o3:Option SV}(T:TapeS S0 t)(L:Lr n c ls rs)(h4:S0[l4]?=some (.lst (natS ls)))(h5:S0[l5]?=some (.lst (natS rs)))(n4:l4≠t)(n5:l5≠t)(hn:n<=31)
 (q:∀(es:EE) (S':Sto),(∀ e∈es,e.1<e.2/\e.2<n/\c e.1≠c e.2)->es.length<=90->TapeS S' t->On t S0 S'->Q (r6 n es) S'):
 wSs Δ [t6 kd,t7,t8 kd,t9 kd,t10,t11 kd,t12] (AY Q) [some (.loc t),o1,some (.int n),o3,some (.loc l4),some (.loc l5),none,none,none,none,none,none] S0:=by
 refine⟨_,rfl,hd T (by decide) (by decide) fun w S1 w0 w1 T1 O1 _=>?_⟩;refine⟨by show 0<=big;decide,?_⟩;have A1:Ah t S0 (S1++[SO.lst []]) S1.length []:=⟨T1.push,O1.push,c9,O1.len,T.lt⟩
 generalize S1.length=l at *;generalize S1++[SO.lst []]=S2 at *;have stay:∀ S,Ah t S0 S l []->wSs Δ [t9 kd,t10,t11 kd,t12] (AY Q) [some (.loc t),o1,some (.int n),o3,some (.loc l4),some (.loc l5),some (.int w),some (.loc l),none,none,none,none] S:=fun S A=>El hΔ hd A (fun _ h=>nomatch h) (by simp) q;refine⟨_,rfl,by show 0<=big;decide,?_⟩;have A2:=A1.push (o:=SO.lst []);refine⟨_,_,A2.on.keep _ _ n4 h4,c9,.inr (.inr rfl),_,rfl,?_⟩;rw[DT];refine ifB (fun h1=>?_) (fun h1=>ifF rfl (v0 (stay _ A2)))
 have hp:0<ls.length:=by
  cases ls with
  | nil=>cases h1
  | cons _ _=>simp
 refine⟨_,rfl,by show 0<=big;decide,?_⟩;have A3:=A2.push (o:=SO.lst []);refine⟨_,_,A3.on.keep _ _ n5 h5,c9,.inr (.inr rfl),_,rfl,?_⟩;rw[DT];refine ifB (fun h2=>?_) (fun h2=>v0 (stay _ A3))
 have hp2:0<rs.length:=by
  cases rs with
  | nil=>cases h2
  | cons _ _=>simp
 by_cases hw:1<w
 ·
  refine⟨_,rfl,_,rfl,ifF (decide_eq_false (by omega)) (v0 ?_)⟩;refine⟨_,rfl,_,rfl,ifF (decide_eq_false (by omega)) (v0 ?_)⟩;exact Ol hΔ hd A3 (fun _ h=>nomatch h) (by simp) (fun _=>rfl) L h4 h5 n4 n5 hp hp2 hn fun o9 fs S' A' hf fl=>El hΔ hd A' hf (by omega) q
 ·refine SC (rest:=[t8b,t8c kd]) hΔ A3 L h4 h5 n4 n5 fun fs o8 S' A' hf fl=>?_;refine SD (rest:=[t8c kd]) hΔ A' hf fl L h4 h5 n4 n5 hp fun l' fs' S'' A'' hf' fl'=>?_;exact Ol hΔ hd A'' hf' fl' (fun z=>absurd z hw) L h4 h5 n4 n5 hp hp2 hn fun o9 fs S' A' hf fl=>El hΔ hd A' hf (by omega) q
noncomputable def B3(s:Sn):Prop:=∀{t:Nat} {g:Bool} {S:Sto} {Q:QE},TapeS S t->(∀(n:Nat) (es:EE) (S':Sto),Web2 n es->n<=31->es.length<=90->TapeS S' t->On t S S'->Q (r6 n es) S')->s [.loc t,.bl g] S Q
theorem Jl(f:Nat->Bool)(i:Nat):(Sx (i+1)).filter f=(Sx i).filter f++if f i=true then [i] else []:=by
 rw[V2,VO]
 congr 1
 rw[VW];rfl
theorem DZ(f:Nat->Bool)(i:Nat):((Sx i).filter f).length<=i:=by
 have:=Uv f (Sx i)
 rwa [UM]at this
theorem E7(hΔ:∀ f,MonoN (Δ f)){l3 n:Nat}{v:Nat}{cs:List Nat}{S:Sto}{ρ:EnvS}{Q:List SV->Sto->Prop}(h3:S[l3]?=some (.lst (natS cs)))(hl:cs.length=n)(hn:n<=31)(hρ:ρ=[none,some (.loc l3)])
 (q:Q (natS ((Sx n).filter fun k=>decide (cs.getD k 0=v))) S):v6 (fun _=>True) (.nm 0) (wEo Δ (.yes (.cmp .Eq (.ix (.var 1) (.var 0)) (.c (.int v))))).2 (wEx Δ (.var 0)).1 ρ Q (Bq 0 (n:Int)) [] S:=by
 subst hρ;refine q0 (i9 hΔ _).2 (a8 hΔ _).1 (fun i ys S2=>S2=S/\ys=natS ((Sx i).filter fun k=>decide (cs.getD k 0=v))) ⟨rfl,rfl⟩ (fun _ _ _ _=>trivial) ?_ ?_
 ·rintro i x ys S2 hx ⟨rfl,rfl⟩;obtain⟨rfl,hi⟩:=Af hx;rw[VH]at hi ⊢;have hil:i<cs.length:=by omega
  have hs:=Jl (fun k=>decide (cs.getD k 0=v)) i;have hlen:=DZ (fun k=>decide (cs.getD k 0=v)) i;have hg:cs.getD i 0=cs[i]:=by rw[TU,Sj hil];rfl
  refine⟨_,rfl,_,rfl,_,SV.int (cs[i]:Nat),c7 h3,i6 (Az (Sj hil)),_,rfl,?_⟩;refine ifD (fun h=>?_) (fun h=>?_)
  ·have h:cs[i]=v:=by have:((cs[i]:Nat):Int)=(v:Int):=h;omega
   rw[if_pos (decide_eq_true (hg.trans h))]at hs;exact⟨_,rfl,by rw[e8];show _<100000;omega,rfl,by rw[hs,j5];rfl⟩
  ·have h:¬ cs[i]=v:=fun z=>h (by show((cs[i]:Nat):Int)=(v:Int);omega);rw[if_neg (by simp only[hg];simpa using h),UF]at hs;exact⟨rfl,by rw[hs]⟩
 ·rintro ys S2 ⟨rfl,rfl⟩;rw[Bi,show((n:Int) - 0).toNat=n by omega];exact q
theorem MH(hΔ:∀ f,MonoN (Δ f))(hd:BS (Δ kd)){t n:Nat}{S0 S:Sto}{Q:QE}{o1:Option SV}(T:TapeS S t)(O:On t S0 S)(hn:n<=31)
 (q:∀(es:EE) (S':Sto),Web2 n es->es.length<=90->TapeS S' t->On t S0 S'->Q (r6 n es) S'):
 wSs Δ [t3 kd,t4,t5,t6 kd,t7,t8 kd,t9 kd,t10,t11 kd,t12] (AY Q) [some (.loc t),o1,some (.int n),none,none,none,none,none,none,none,none,none] S:=by
 refine⟨_,rfl,_,rfl,⟨by omega,by omega⟩,?_⟩;refine q0 (i9 hΔ _).2 (a8 hΔ _).1 (fun i ys S2=>TapeS S2 t/\On t S0 S2/\∃ cs:List Nat,ys=natS cs/\cs.length=i/\∀ v∈cs,v<2) ⟨T,O,[],rfl,rfl,(fun _ h=>nomatch h)⟩ (fun _ _ _ _=>trivial) ?_ ?_
 ·rintro i x ys S2 hx ⟨T2,O2,cs,rfl,cl,c2⟩;obtain⟨rfl,hi⟩:=Af hx;refine⟨_,rfl,hd T2 (by decide) (by decide) fun r S3 r0 r1 T3 O3 _=>⟨by rw[e8];show _<100000;omega,T3,O2.trans O3,cs++[r.toNat],?_,by rw[Sl,cl];rfl,fun v hv=>?_⟩⟩
  ·rw[j5];have:(r.toNat:Int)=r:=VF r0;show _=natS cs++[SV.int (r.toNat:Int)];rw[this]
  ·rcases TQ.mp hv with hv | hv
   ·exact c2 v hv
   ·rw[TH.mp hv];omega
 ·rintro ys S2 ⟨T2,O2,cs,rfl,cl,c2⟩;rw[Bi,show((n:Int) - 0).toNat=n by omega]at cl
  have c2':∀ p,cs.getD p 0<2:=fun p=>by
   rw[TU];cases hp:cs[p]? with
   | none=>show 0<2;omega
   | some v=>exact c2 v (Sm hp)
  have T3:=T2.push (o:=SO.lst (natS cs));have O3:=O2.push (o:=SO.lst (natS cs));have h3:(S2++[SO.lst (natS cs)])[S2.length]?=some (.lst (natS cs)):=c9;have n3:S2.length≠t:=by have:=T2.lt;omega
  generalize S2.length=l3 at *;generalize S2++[SO.lst (natS cs)]=S3 at *;refine⟨_,rfl,_,rfl,⟨by omega,by omega⟩,?_⟩;refine E7 (v:=0) hΔ h3 cl hn rfl ?_;have T4:=T3.push (o:=SO.lst (natS ((Sx n).filter fun k=>decide (cs.getD k 0=0))));have O4:=O3.push (o:=SO.lst (natS ((Sx n).filter fun k=>decide (cs.getD k 0=0))));have h4:(S3++[SO.lst (natS ((Sx n).filter fun k=>decide (cs.getD k 0=0)))])[S3.length]?=some (.lst (natS ((Sx n).filter fun k=>decide (cs.getD k 0=0)))):=c9;have h34:=e6 (o:=SO.lst (natS ((Sx n).filter fun k=>decide (cs.getD k 0=0)))) h3;have n4:S3.length≠t:=by have:=T3.lt;omega
  generalize S3.length=l4 at *;generalize S3++[SO.lst (natS ((Sx n).filter fun k=>decide (cs.getD k 0=0)))]=S4 at *;refine⟨_,rfl,_,rfl,⟨by omega,by omega⟩,?_⟩;refine E7 (v:=1) hΔ h34 cl hn rfl ?_;have T5:=T4.push (o:=SO.lst (natS ((Sx n).filter fun k=>decide (cs.getD k 0=1))));have O5:=O4.push (o:=SO.lst (natS ((Sx n).filter fun k=>decide (cs.getD k 0=1))));have h5:(S4++[SO.lst (natS ((Sx n).filter fun k=>decide (cs.getD k 0=1)))])[S4.length]?=some (.lst (natS ((Sx n).filter fun k=>decide (cs.getD k 0=1)))):=c9;have h45:=e6 (o:=SO.lst (natS ((Sx n).filter fun k=>decide (cs.getD k 0=1)))) h4;have n5:S4.length≠t:=by have:=T4.lt;omega
  generalize S4.length=l5 at *;generalize S4++[SO.lst (natS ((Sx n).filter fun k=>decide (cs.getD k 0=1)))]=S5 at *
  have L:Lr n (fun k=>cs.getD k 0) ((Sx n).filter fun k=>decide (cs.getD k 0=0)) ((Sx n).filter fun k=>decide (cs.getD k 0=1)):=by
   refine⟨fun a ha=>?_,fun b hb=>?_,Td (DZ _ _) hn,Td (DZ _ _) hn⟩
   ·have:=UE.mp ha;exact⟨TY.mp this.1,of_decide_eq_true this.2⟩
   ·have:=UE.mp hb;exact⟨TY.mp this.1,of_decide_eq_true this.2⟩
  exact Nx hΔ hd T5 L h45 h5 n4 n5 hn fun es S' he hl T' O'=>q es S' ⟨fun e h=>⟨(he e h).1,(he e h).2.1⟩,by omega,by omega,⟨fun k=>cs.getD k 0,c2',fun e h=>(he e h).2.2⟩⟩ hl T' (O5.trans O')
theorem HR(hΔ:∀ f,MonoN (Δ f))(hd:BS (Δ kd)){D:Df}(hb:D.body=Fs kd)(hN:D.N.length=12)(hp:D.ps.length=2):B3 (j8 Δ D):=by
 intro t g S Q T q;unfold j8;rw[hb,hN];refine⟨hp.symm,?_⟩;refine⟨_,rfl,hd T (by decide) (by decide) fun r1 S2 a0 a1 T2 O2 _=>⟨_,rfl,hd T2 (by decide) (by decide) fun r2 S3 b0 b1 T3 O3 _=>⟨by show 2<=big;decide,_,rfl,_,(if g=true then .int (8+r2) else .int r1),c7 c9,?_⟩⟩⟩;have O:=(O2.trans O3).push (o := .lst [.int r1,.int (8+r2)])
 have key:∀(z:Int) (n:Nat),z=n->n<=31->wSs Δ [t3 kd,t4,t5,t6 kd,t7,t8 kd,t9 kd,t10,t11 kd,t12] (AY Q) [some (.loc t),some (.bl g),some (.int z),none,none,none,none,none,none,none,none,none] (S3++[SO.lst [.int r1,.int (8+r2)]]):=by
  rintro _ n rfl hn;exact MH hΔ hd T3.push O hn fun es S' W hl T' O'=>q n es S' W hn hl T' O'
 cases g with
 | false=>exact⟨rfl,key r1 r1.toNat (by omega) (by omega)⟩
 | true=>exact⟨rfl,key (8+r2) (8+r2).toNat (by omega) (by omega)⟩
noncomputable def E8(k:Nat):List Stm:=[(.asg (.nm 2) (.call k (.cons (.var 0) (.cons (.var 1) .nil)))),(.loop (.nm 3) (.rng1 (.c (.int 3))) [(.iff (.eqt0 (.ix (.var 2) (.c (.int 1))) (.tup .nil)) [(.asg (.nm 2) (.call k (.cons (.var 0) (.cons (.var 1) .nil))))] [])]),(.ret (.var 2))]
theorem Ft(hΔ:∀ f,MonoN (Δ f)){k:Nat}(h1:B3 (Δ k)){D:Df}(hb:D.body=E8 k)(hN:D.N.length=4)(hp:D.ps.length=2):B3 (j8 Δ D):=by
 intro t g S Q T q;unfold j8;rw[hb,hN];refine⟨hp.symm,_,rfl,_,rfl,h1 T fun n es S1 W hn hl T1 O1=>?_⟩;refine⟨_,rfl,⟨by decide,by decide⟩,?_⟩;refine w6 (l9 hΔ _) (fun i ρ S'=>∃(n:Nat) (es:EE) (o3:Option SV),ρ=[some (.loc t),some (.bl g),some (r6 n es),o3]/\Web2 n es/\n<=31/\es.length<=90/\TapeS S' t/\On t S S') ⟨n,es,none,rfl,W,hn,hl,T1,O1⟩ (fun _ _ _ _=>trivial) ?_ ?_
 ·rintro i x ρ S2 hx ⟨n,es,o3,rfl,W,hn,hl,T2,O2⟩;refine⟨_,rfl,_,_,rfl,rfl,by show 0<=big;decide,_,rfl,rfl,_,rfl,ifB (fun h=>?_) (fun h=>v0 ⟨n,es,_,rfl,W,hn,hl,T2,O2⟩)⟩;exact⟨_,rfl,_,rfl,h1 T2 fun n' es' S3 W' hn' hl' T3 O3=>⟨n',es',_,rfl,W',hn',hl',T3,O2.trans O3⟩⟩
 ·rintro ρ S2 ⟨n,es,o3,rfl,W,hn,hl,T2,O2⟩;exact⟨_,rfl,q n es S2 W hn hl T2 O2⟩
end
open PySem L2
theorem Fu(xs:List Nat):EN (natS xs) (natS xs)=true:=by
 unfold EN natS;simp only[beq_self_eq_true,WW];rw[TK];intro p hp;rw[List.zip_map']at hp;obtain⟨i,_,rfl⟩:=UR.mp hp;simp[eqF]
theorem Ny{ns:List Int}(nd:ns.Nodup):CY ns=ns:=by
 have go:∀ k,k<=ns.length->CY (ns.take k)=ns.take k:=by
  intro k
  induction k with
  | zero=>intro _;rfl
  | succ k ih=>
    intro hk;have hkl:k<ns.length:=by omega
    rw[U2,Sj hkl];show CY (ns.take k++[ns[k]])=ns.take k++[ns[k]];rw[Jb,ih (by omega)];unfold PyProof.Rows.step_dedup;rw[if_neg];rw[V8];rintro⟨x,hx,hb⟩;have hb:x=ns[k]:=by simpa using hb
    obtain⟨j,hj⟩:=UJ hx
    have hjl:j<k:=by
     have:=(gM hj).1;rw[Tb]at this;omega
    rw[VR hjl]at hj;have:=(U4.mp nd) j k (by omega) hkl hjl;rw[(gM hj).2]at this;exact this hb
 have:=go ns.length (Sr _)
 rwa [Ub]at this
theorem SE{xs:List Nat}(nd:xs.Nodup):(iN xs).Nodup:=by
 unfold iN;exact VP.mpr (nd.imp fun{a b} h z=>h (Ut.mp z))
theorem QU{xs:List Nat}(h:xs.Pairwise (·<·)):srt (CY (iN xs))=iN xs:=by
 have nd:=SE (SB h);rw[Ny nd];refine(EI (List.Perm.refl _) ?_).symm;unfold iN;exact VP.mpr (h.imp fun{a b} h=>by show(a:Int)<=b;omega)
theorem MI(xs:List Nat):ES (natS xs)=some (iN xs):=IV xs
section
variable{Δ:Nat->Sn}
noncomputable def MJ:List Stm:=[(.iff (.or (.not (.bi .isi (.cons (.var 0) (.cons (.tyc .list) .nil)))) (.not (.bi .all (.cons (.comp ["_law_one"] [] [] (.nm 0) (.seq (.var 0)) .no (.and (.bi .isi (.cons (.var 0) (.cons (.tyc .int) .nil))) (.not (.bi .isi (.cons (.var 0) (.cons (.tyc .bool) .nil)))))) .nil)))) [(.ret (.c (.bl false)))] []),(.ret (.and (.cmp .Eq (.var 0) (.srtset (.var 0))) (.bi .all (.cons (.comp ["_law_one"] ["_law_below"] [1] (.nm 0) (.seq (.var 0)) .no (.chn .LtE .Lt (.c (.int 0)) (.var 0) (.var 1))) .nil))))]
noncomputable def Da(s:Sn):Prop:=∀{l b:Nat} {xs:List Nat} {S:Sto} {Q:QE},S[l]?=some (.lst (natS xs))->xs.Pairwise (·<·)->(∀ x∈xs,x<b)->xs.length<=120->(∀ S',Gw S S'->Q (.bl true) S')->s [.loc l,.int b] S Q
theorem Jm(hΔ:∀ f,MonoN (Δ f)){D:Df}(hb:D.body=MJ)(hN:D.N.length=2)(hp:D.ps.length=2):Da (j8 Δ D):=by
 intro l b xs S Q h up hlt hl q;unfold j8;rw[hb,hN];refine⟨hp.symm,_,rfl,_,nofun,QO h,_,rfl,ifF rfl ⟨_,rfl,_,c7 h,?_⟩⟩;refine DY hΔ (b:=true) (by rw[e8];omega) (fun S' G=>by show S'[l]?=S[l]?;rw[h,G.keep _ _ h]) ?_ ?_
 ·intro i y S' hy G;obtain⟨x,_,rfl⟩:=Bo hy;exact⟨_,rfl,_,nofun,rfl,_,rfl,ifT rfl ⟨_,rfl,_,nofun,rfl,_,rfl,rfl,G⟩⟩
 intro S1 G1;refine⟨_,_,nofun,c7 c9,HN _ _,_,rfl,ifF (by rw[Ei];rfl) (v0 ?_)⟩;have G2:=G1.push (o:=SO.lst (Su (natS xs).length (.bl true)));generalize S1++[SO.lst (Su (natS xs).length (.bl true))]=S2 at *;have h2:=G2.keep _ _ h;refine⟨_,rfl,_,rfl,_,_,nofun,c7 h2,MI xs,by unfold iN;rw[Sk];omega,?_⟩;rw[QU up,D5];refine⟨_,_,e6 h2,c9,.inl ⟨Bk _,Bk _⟩,_,rfl,ifT (Fu xs) ?_⟩;have h3:=e6 (o:=SO.lst (natS xs)) h2;have G3:=G2.push (o:=SO.lst (natS xs));generalize S2++[SO.lst (natS xs)]=S3 at *;refine⟨_,rfl,_,c7 h3,?_⟩;refine DY hΔ (b:=true) (by rw[e8];omega) (fun S' G=>by show S'[l]?=S3[l]?;rw[h3,G.keep _ _ h3]) ?_ ?_
 ·intro i y S' hy G;obtain⟨x,hx,rfl⟩:=Bo hy;have:=hlt x (Sm hx);refine⟨_,rfl,_,rfl,ifT (decide_eq_true (VN x)) ⟨_,rfl,?_,G⟩⟩;exact congrArg SV.bl (decide_eq_true (by show(x:Int)<(b:Int);omega))
 intro S4 G4;refine⟨_,_,nofun,c7 c9,HN _ _,?_⟩;rw[Ei];exact q _ (G3.trans G4).push
end
open PySem L2
structure Norm(n:Nat)(es:EE)(s:List (Option Nat)):Prop where
 len:s.length=n
 all:∀ p,p<n->∃ v,v<2/\s[p]?=some (some v)
 un:∀ e∈es,s[e.1]?≠s[e.2]?
 zero:∀ f,f<n->(Hue.marks n es)[f]?=some f->s[f]?=some (some 0)
theorem Jn{n:Nat}{es:EE}{s s':List (Option Nat)}(hn:∀ e∈es,e.1<n/\e.2<n)(a:Norm n es s)(b:Norm n es s'):s=s':=by
 refine Vz fun p=>?_;by_cases hp:p<n
 ·have M:Hue.Mk n (Hue.marks n es):=Hue.mk_marks (Hue.mk_range n) hn;have hpl:p<(Hue.marks n es).length:=by rw[M.len];exact hp
  refine(Hue.cl_marks (C:=fun p=>s[p]?=s'[p]?) hn (fun e he=>?_) hp).mpr ?_
  ·obtain⟨h1,h2⟩:=hn e he;obtain⟨v1,w1,x1⟩:=a.all _ h1;obtain⟨v2,w2,x2⟩:=a.all _ h2;obtain⟨v3,w3,x3⟩:=b.all _ h1;obtain⟨v4,w4,x4⟩:=b.all _ h2;have u:=a.un e he;have u':=b.un e he;rw[x1,x2]at u;rw[x3,x4]at u';show s[e.1]?=s'[e.1]?↔s[e.2]?=s'[e.2]?;rw[x1,x2,x3,x4];simp only[Wh.injEq,ne_eq]at u u' ⊢;omega
  ·have hm:(Hue.marks n es).getD p 0=(Hue.marks n es)[p]:=by rw[TU,Sj hpl];rfl
   have hmn:(Hue.marks n es)[p]<n:=VI (M.le p hpl) hp;show s[(Hue.marks n es).getD p 0]?=s'[(Hue.marks n es).getD p 0]?;rw[hm,a.zero _ hmn (M.fix p hpl),b.zero _ hmn (M.fix p hpl)]
 ·rw[Uu (by rw[a.len];omega),Uu (by rw[b.len];omega)]
theorem Jo{n:Nat}{es:EE}{sd bk:List (Option Nat)}{dep rt:Nat->Nat}(F:Full n es sd bk dep rt)(hen:∀ e∈es,e.1<e.2/\e.2<n)(h:∀ e∈es,dep e.1 % 2≠dep e.2 % 2):Norm n es sd:=by
 have hn:∀ e∈es,e.1<n/\e.2<n:=fun e he=>by have:=hen e he;omega
 refine⟨F.gs.ls,fun p hp=>⟨_,WQ _ (by decide),F.all p hp⟩,fun e he=>?_,fun f hf hm=>?_⟩
 ·rw[F.all _ (hn e he).1,F.all _ (hn e he).2];exact fun z=>h e he (oj (oj z))
 ·rw[F.all f hf,HP F (MB hn) hm]
open Classical in
noncomputable def sdF(n:Nat)(es:EE):List (Option Nat):=if h:∃ s,Norm n es s then h.choose else []
theorem QV{n:Nat}{es:EE}{s:List (Option Nat)}(hn:∀ e∈es,e.1<n/\e.2<n)(N:Norm n es s):sdF n es=s:=by
 have h:∃ s,Norm n es s:=⟨s,N⟩
 unfold sdF;rw[dif_pos h];exact Jn hn h.choose_spec N
theorem QW{n:Nat}{es:EE}{c:Nat->Nat}(W:Sdd n es c):∀ ts,Odd es ts->False:=fun ts O=>by
 obtain⟨p,vs,P,_⟩:=O.ex;have:=IT (c:=c) (fun e he=>⟨W.two _,W.two _,W.ne e he⟩) P;have h2:=O.odd;omega
section
variable{Δ:Nat->Sn}
noncomputable def Db(s:Sn):Prop:=∀{n:Nat} {es:EE} {S:Sto} {Q:QE},(∀ e∈es,e.1<e.2/\e.2<n)->es.length<=5000->n<=249->(∀ ts,Odd es ts->False)->
 (∀(l:Nat) (S':Sto),Norm n es (sdF n es)->One S S' l (sdF n es)->Q (.loc l) S')->s [r6 n es] S Q
theorem Jp{k:Nat}(h2:M7 (Δ k)){D:Df}(hb:D.body=Fp k)(hN:D.N.length=3)(hp:D.ps.length=1):Db (j8 Δ D):=by
 intro n es S Q hen hel hn hno q;unfold j8;rw[hb,hN];refine⟨hp.symm,_,rfl,h2 hen hel (by omega) (fun sd bk dep rt a S' F hd G ha hSa=>?_) (fun sd bk dep rt j e us ds a S' F he hd C G ha hSa=>(hno _ (Nu F hn hen he hd C)).elim)⟩;refine⟨_,rfl,_,rfl,ifF (decide_eq_false (by decide)) ⟨_,rfl,?_⟩⟩;have N:=Jo F hen hd;have e1:=QV (fun e he=>by have:=hen e he;omega) N;exact q a S' (by rw[e1];exact N) ⟨G,ha,by rw[e1];exact hSa⟩
end
open PySem L2
section
variable{n:Nat}{es:EE}
noncomputable def cplW(n:Nat)(es:EE):EE:=(Sx n).flatMap fun p=>An (e7 es p es.length)
noncomputable def hsF(n:Nat)(es:EE):List (Option Nat):=sdF es.length (cplW n es)
noncomputable def onH(n:Nat)(es:EE)(v t:Nat):Bool:=decide ((hsF n es)[t]?=some (some v))
noncomputable def i5(n:Nat)(es:EE)(v:Nat):List Nat:=(Sx es.length).filter (onH n es v)
structure HalfOk(n:Nat)(es:EE):Prop where
 un:Unl (hsF n es) (cplW n es)
 all:∀ t,t<es.length->∃ v,v<2/\(hsF n es)[t]?=some (some v)
theorem Nz(N:Norm es.length (cplW n es) (hsF n es))(he:∀ e∈cplW n es,e.1<es.length/\e.2<es.length):HalfOk n es:=by
 refine⟨fun e h=>?_,N.all⟩;obtain⟨a,a2,ha⟩:=N.all _ (he e h).1;obtain⟨b,b2,hb⟩:=N.all _ (he e h).2;have u:=N.un e h;rw[ha,hb]at u;exact⟨a,b,a2,b2,fun z=>u (by rw[z]),ha,hb⟩
theorem mem_cplW{e:Nat×Nat}:e∈cplW n es↔∃ p,p<n/\e∈An (e7 es p es.length):=by
 unfold cplW;rw[List.mem_flatMap];exact⟨fun⟨p,h,z⟩=>⟨p,TY.mp h,z⟩,fun⟨p,h,z⟩=>⟨p,TY.mpr h,z⟩⟩
theorem Em:∀ e∈cplW n es,e.1<e.2/\e.2<es.length:=by
 intro e he;obtain⟨p,_,h⟩:=mem_cplW.mp he;obtain⟨i,_,h1,h2⟩:=CK h;exact⟨up_at (E6 es p es.length) h1 h2 (by omega),(Bn (Sm h2)).1⟩
theorem IW{α:Type}{f:Nat->List α}{B:Nat}(h:∀ p,(f p).length<=B):∀ n:Nat,((Sx n).flatMap f).length<=n * B
 | 0=>by simp
 | n+1=>by
   rw[V2,Vn,Sl,Nat.add_mul,Nat.one_mul];have:=IW h n;have h1:=h n;simp only[List.flatMap_cons,List.flatMap_nil,UF];omega
theorem Fv(hn:n<=60)(hl:es.length<=90):(cplW n es).length<=2700:=by
 have:(cplW n es).length<=n * 45:=IW (fun p=>by rw[CL];have:=B9 es p es.length;omega) n;omega
theorem O6{ts:List Nat}(U:ts.Pairwise (·<·)){e e':Nat×Nat}(h:e∈An ts)(h':e'∈An ts){v:Nat}(hv:v=e.1\/v=e.2)(hv':v=e'.1\/v=e'.2):e=e':=by
 obtain⟨i,_,a,b⟩:=CK h;obtain⟨j,_,a',b'⟩:=CK h'
 have hij:i=j:=by
  rcases hv with z | z<;>rcases hv' with z' | z'
  ·rw[<-z]at a;rw[<-z']at a';have:=Ej U a a';omega
  ·rw[<-z]at a;rw[<-z']at b';have:=Ej U a b';omega
  ·rw[<-z]at b;rw[<-z']at a';have:=Ej U b a';omega
  ·rw[<-z]at b;rw[<-z']at b';have:=Ej U b b';omega
 subst hij;rw[a]at a';rw[b]at b';exact Prod.ext (oj a') (oj b')
theorem IY{p:Nat}{e:Nat×Nat}(h:e∈An (e7 es p es.length)){v:Nat}(hv:v=e.1\/v=e.2):v∈e7 es p es.length:=by
 obtain⟨i,_,a,b⟩:=CK h;rcases hv with rfl | rfl
 ·exact Sm a
 ·exact Sm b
theorem O7(W:Web2 n es):∀ ts,Odd (cplW n es) ts->False:=by
 intro ts O;obtain⟨c,c2,cn⟩:=W.two
 open Classical in
 refine QQ (b:=fun e=>decide (∃ p,p<n/\c p=0/\e∈An (e7 es p es.length))) (fun e he=>TL (Em e he).1) (fun e he e' he' v hv hv' hb=>?_) O
 have same:∀{p q:Nat},v∈e7 es p es.length->v∈e7 es q es.length->c p=c q->p=q:=fun{p q} hp hq hc=>by
  obtain⟨hl,h1⟩:=Bn hp;obtain⟨_,h2⟩:=Bn hq;have:=cn _ (MD hl);rcases h1 with h1 | h1<;>rcases h2 with h2 | h2
  ·omega
  ·rw[h1,h2]at this;exact absurd hc this
  ·rw[h2,h1]at this;exact absurd hc.symm this
  ·omega
 obtain⟨p,hp,h1⟩:=mem_cplW.mp he;obtain⟨q,hq,h2⟩:=mem_cplW.mp he'
 have key:∃ p q,e∈An (e7 es p es.length)/\e'∈An (e7 es q es.length)/\c p=c q:=by
  by_cases z:∃ p,p<n/\c p=0/\e∈An (e7 es p es.length)
  ·have z':∃ p,p<n/\c p=0/\e'∈An (e7 es p es.length):=by
    rw[decide_eq_true z]at hb;exact of_decide_eq_true hb.symm
   obtain⟨p,_,a,b⟩:=z;obtain⟨q,_,a',b'⟩:=z';exact⟨p,q,b,b',a.trans a'.symm⟩
  ·have z':¬ ∃ p,p<n/\c p=0/\e'∈An (e7 es p es.length):=by
    rw[decide_eq_false z]at hb;exact of_decide_eq_false hb.symm
   have a:c p≠0:=fun y=>z ⟨p,hp,y,h1⟩;have a':c q≠0:=fun y=>z' ⟨q,hq,y,h2⟩;have:=c2 p;have:=c2 q;exact⟨p,q,h1,h2,by omega⟩
 obtain⟨p,q,h1,h2,hc⟩:=key;have hpq:=same (IY h1 hv) (IY h2 hv') hc;subst hpq;exact O6 (E6 es p es.length) h1 h2 hv hv'
theorem MK(H:HalfOk n es){p:Nat}(hp:p<n):(e7 es p es.length).countP (onH n es 0)+(e7 es p es.length).countP (onH n es 1)=AN es p/\(e7 es p es.length).countP (onH n es 0)<=(e7 es p es.length).countP (onH n es 1)+1/\(e7 es p es.length).countP (onH n es 1)<=(e7 es p es.length).countP (onH n es 0)+1:=by
 have e1:(e7 es p es.length).countP (onH n es 1)=(e7 es p es.length).countP (fun t=>!onH n es 0 t):=by
  refine VQ fun t ht=>?_;obtain⟨v,hv,hs⟩:=H.all t (Bn ht).1;unfold onH;rw[hs];rcases(by omega:v=0\/v=1) with rfl | rfl<;>simp
 have b:=bal (f:=onH n es 0) (e7 es p es.length).length (e7 es p es.length) (Sr _) (fun i a b ha hb=>by
  have hi:i<(e7 es p es.length).length / 2:=by have:=(gM hb).1;omega
  have hm:(a,b)∈cplW n es:=by
   refine mem_cplW.mpr ⟨p,hp,?_⟩;obtain⟨c1,c2⟩:=HQ hi;rw[ha]at c1;rw[hb]at c2;unfold An;exact UR.mpr ⟨i,TY.mpr hi,by rw[<-oj c1,<-oj c2]⟩
  obtain⟨x,y,hx,hy,hxy,h1,h2⟩:=H.un _ hm;have h1:(hsF n es)[a]?=some (some x):=h1;have h2:(hsF n es)[b]?=some (some y):=h2;unfold onH;rw[h1,h2];rcases(by omega:(x=0/\y=1)\/(x=1/\y=0)) with⟨rfl,rfl⟩ | ⟨rfl,rfl⟩<;>simp)
 rw[e1];refine⟨?_,b.1,b.2⟩;unfold AN;have:=List.length_eq_countP_add_countP (onH n es 0) (l:=e7 es p es.length)
 have e2:(e7 es p es.length).countP (fun a=>decide ¬onH n es 0 a=true)=(e7 es p es.length).countP (fun t=>!onH n es 0 t):=by
  refine VQ fun t _=>?_;cases onH n es 0 t<;>simp
 rw[e2]at this;omega
noncomputable def amg(es:EE)(ties:List Nat):EE:=ties.map (BY es)
theorem IZ(L:List Nat)(p:Nat):AN (amg es L) p=L.countP fun t=>C4 p (BY es t):=by
 rw[QT];unfold amg;rw[List.countP_map];rfl
theorem Fw(v p:Nat):AN (amg es (i5 n es v)) p=(e7 es p es.length).countP (onH n es v):=by
 rw[IZ];unfold i5 e7;rw[Vt,Vt];refine VQ fun t ht=>?_;have hl:t<es.length:=TY.mp ht;rw[D4 hl];simp only[Si];rw[MF];simp only[Tj,decide_eq_true_eq];constructor
 ·rintro⟨a,b⟩;exact⟨b,a.imp Eq.symm Eq.symm⟩
 ·rintro⟨a,b⟩;exact⟨b.imp Eq.symm Eq.symm,a⟩
theorem Ia(v:Nat):(i5 n es v).Nodup:=List.Pairwise.filter _ WC
theorem CM{v t:Nat}(h:t∈i5 n es v):t<es.length:=TY.mp (UE.mp h).1
theorem ML(H:HalfOk n es){t:Nat}(h:t<es.length):t∈i5 n es 0\/t∈i5 n es 1:=by
 obtain⟨v,hv,hs⟩:=H.all t h;rcases(by omega:v=0\/v=1) with rfl | rfl
 ·exact .inl (UE.mpr ⟨TY.mpr h,decide_eq_true hs⟩)
 ·exact .inr (UE.mpr ⟨TY.mpr h,decide_eq_true hs⟩)
end
open PySem L2
theorem HS{keep:Sto->Prop}{g g2:Tg}{t t2:WT}{i2:WI}{e:WE}{ρ:EnvS}{Q:List SV->Sto->Prop}(mt:MonoT t)(mi2:MonoI i2)(mt2:MonoT t2)(me:Mono e)(I:Nat->List SV->Sto->Prop){xs:List SV}{S:Sto}(h0:I 0 [] S)(hk:∀ i ys S,I i ys S->keep S)
 (hs:∀ i x ys S,xs[i]?=some x->I i ys S->wTg g x ρ fun ρ2=>t ρ2 S fun b S1=>if b=true then i2 ρ2 S1 fun keep2 xs2 S2=>m9 keep2 g2 t2 e (I (i+1)) xs2 ρ2 ys S2 else I (i+1) ys S1) (hd:∀ ys S,I xs.length ys S->Q ys S):l7 keep g t g2 i2 t2 e ρ Q xs [] S:=by
 have go:∀(zs:List SV) (i:Nat) (ys:List SV) (S:Sto),xs.drop i=zs->i<=xs.length->I i ys S->l7 keep g t g2 i2 t2 e ρ Q zs ys S:=by
  intro zs
  induction zs with
  | nil=>
    intro i ys S e' hi h
    have:i=xs.length:=by
     have:=congrArg Ul e';rw[Ti,V0]at this;omega
    subst this;unfold l7;exact⟨hk _ _ _ h,hd _ _ h⟩
  | cons y zs ih=>
    intro i ys S e' hi h;have hy:xs[i]?=some y:=by rw[<-VC,e'];rfl
    have hlt:=(gM hy).1;have e2:xs.drop (i+1)=zs:=by rw[<-VM,e'];rfl
    unfold l7;refine⟨hk _ _ _ h,l8 g (fun ρ2 q=>mt _ _ _ _ (fun b S1 q=>i7 (fun q=>mi2 _ _ _ _ (fun k2 x2 S2 q=>Ae mt2 me (fun ys' S3 q=>ih (i+1) ys' S3 e2 hlt q) _ _ _ _ q) q) (fun q=>ih (i+1) _ S1 e2 hlt q) q) q) (hs i y ys S hy h)⟩
 exact go xs 0 [] S rfl (U7 _) h0
theorem HU{keep:Sto->Prop}{g:Tg}{t:WT}{e:WE}{Q:List SV->Sto->Prop}(mt:MonoT t)(me:Mono e)(I:Nat->EnvS->List SV->Sto->Prop){xs:List SV}{ρ:EnvS}{ys:List SV}{S:Sto}(h0:I 0 ρ ys S)(hk:∀ i ρ ys S,I i ρ ys S->keep S)
 (hs:∀ i x ρ ys S,xs[i]?=some x->I i ρ ys S->wTg g x ρ fun ρ2=>t ρ2 S fun b S1=>if b=true then e ρ2 S1 fun y S2=>ys.length<big/\I (i+1) ρ2 (ys++[y]) S2 else I (i+1) ρ2 ys S1) (hd:∀ ρ ys S,I xs.length ρ ys S->Q ys S):m9 keep g t e Q xs ρ ys S:=by
 have go:∀(zs:List SV) (i:Nat) (ρ:EnvS) (ys:List SV) (S:Sto),xs.drop i=zs->i<=xs.length->I i ρ ys S->m9 keep g t e Q zs ρ ys S:=by
  intro zs
  induction zs with
  | nil=>
    intro i ρ ys S e' hi h
    have:i=xs.length:=by
     have:=congrArg Ul e';rw[Ti,V0]at this;omega
    subst this;unfold m9;exact⟨hk _ _ _ _ h,hd _ _ _ h⟩
  | cons y zs ih=>
    intro i ρ ys S e' hi h;have hy:xs[i]?=some y:=by rw[<-VC,e'];rfl
    have hlt:=(gM hy).1;have e2:xs.drop (i+1)=zs:=by rw[<-VM,e'];rfl
    unfold m9;refine⟨hk _ _ _ _ h,l8 g (fun ρ2 q=>mt _ _ _ _ (fun b S1 q=>i7 (fun q=>me _ _ _ _ (fun v S2 q=>⟨q.1,ih (i+1) _ _ S2 e2 hlt q.2⟩) q) (fun q=>ih (i+1) _ _ S1 e2 hlt q) q) q) (hs i y ρ ys S hy h)⟩
 exact go xs 0 ρ ys S rfl (U7 _) h0
section
variable{Δ:Nat->Sn}
noncomputable def hv1(kc:Nat):Stm:=(.asg (.nm 1) (.comp2 ["place","couple"] ["web"] [0] (.nm 0) (.rng1 (.ix (.var 0) (.c (.int 0)))) .no (.nm 1) (.seq (.call kc (.cons (.var 2) (.cons (.var 0) .nil)))) .no (.var 1)))
noncomputable def hv2(ks:Nat):Stm:=(.asg (.nm 2) (.call ks (.cons (.tup (.cons (.bi .len (.cons (.ix (.var 0) (.c (.int 1))) .nil)) (.cons (.bi .tuple (.cons (.var 1) .nil)) .nil))) .nil)))
noncomputable def hvC(v:Int):Ex:=(.comp ["tie","side"] [] [] (.tup (.cons (.nm 0) (.cons (.nm 1) .nil))) (.enum (.var 2)) (.yes (.cmp .Eq (.var 1) (.c (.int v)))) (.var 0))
noncomputable def hv3:Stm:=(.ret (.tup (.cons (hvC 0) (.cons (hvC 1) .nil))))
noncomputable def Ib(ks kc:Nat):List Stm:=[(.expr (.call ks (.cons (.var 0) .nil))),hv1 kc,hv2 ks,hv3]
noncomputable def Fx(s:Sn):Prop:=∀{n:Nat} {es:EE} {S:Sto} {Q:QE},Web2 n es->es.length<=90->(∀(l1 l2:Nat) (S':Sto),HalfOk n es->Gw S S'->S'[l1]?=some (.lst (natS (i5 n es 0)))->S'[l2]?=some (.lst (natS (i5 n es 1)))->Q (.tup [.loc l1,.loc l2]) S')->s [r6 n es] S Q
theorem QX{n:Nat}{es:EE}(W:Web2 n es):∀ ts,Odd es ts->False:=by
 obtain⟨c,c2,cn⟩:=W.two;exact QW ⟨W.en,c2,cn⟩
theorem HV(hΔ:∀ f,MonoN (Δ f)){kc:Nat}(hc:IU (Δ kc)){n:Nat}{es:EE}{S:Sto}{D:EndsS}{o1 o2:Option SV}(hn:n<=60)(hl:es.length<=90)(q:∀(l:Nat) (S':Sto),Gw S S'->S'[l]?=some (.lst ((cplW n es).map pairS))->D.nx [some (r6 n es),some (.loc l),o2] S'):
 wSt Δ (hv1 kc) D [some (r6 n es),o1,o2] S:=by
 refine⟨_,rfl,_,_,rfl,rfl,_,rfl,⟨by omega,by omega⟩,?_⟩;refine HS (i9 hΔ _).2 (BR hΔ _) (i9 hΔ _).2 (a8 hΔ _).1 (fun i ys S1=>Gw S S1/\i<=n/\ys=(cplW i es).map pairS) ⟨Gw.refl S,U7 _,rfl⟩ (fun _ _ _ _=>trivial) ?_ ?_
 ·rintro i x ys S1 hx ⟨G1,_,rfl⟩;obtain⟨rfl,hi⟩:=Af hx;rw[VH]at hi ⊢;have hi:i<n:=by omega
  refine⟨_,rfl,_,rfl,hc (by omega) hi fun l S2 G2 hl2 h2=>⟨_,c7 h2,?_⟩⟩;refine HU (i9 hΔ _).2 (a8 hΔ _).1 (fun j ρ ys S3=>∃ o,ρ=[some (.int (i:Int)),o,some (r6 n es)]/\S3=S2/\ys=(cplW i es++(An (e7 es i es.length)).take j).map pairS) ⟨none,rfl,rfl,by simp⟩ (fun _ _ _ _ h=>by obtain⟨_,_,h,_⟩:=h;rw[h];exact rfl) ?_ ?_
  ·rintro j x ρ ys S3 hx ⟨o,rfl,rfl,rfl⟩;obtain⟨e,he,rfl⟩:=BU hx;have b1:=Fv (n:=i) (es:=es) (by omega) hl;have b2:=CL (e7 es i es.length);have b3:=B9 es i es.length;refine⟨_,rfl,by rw[Sk,Sl,Tb];show _<100000;omega,_,rfl,rfl,?_⟩;rw[U2,he];simp
  ·rintro ρ ys S3 ⟨o,rfl,rfl,rfl⟩;refine⟨G1.trans G2,hi,?_⟩;rw[Sk,Ub];unfold cplW;rw[V2,Vn];simp
 ·rintro ys S1 ⟨G1,_,rfl⟩;rw[Bi,show((n:Int) - 0).toNat=n by omega];exact q _ _ G1.push c9
theorem E9(n:Nat)(es:EE)(v:Nat){i:Nat}(h:i<es.length):((Sx (i+1)).filter (onH n es v))=(Sx i).filter (onH n es v)++if onH n es v i=true then [i] else []:=by
 rw[V2,VO]
 congr 1
 rw[VW];rfl
theorem Fy(hΔ:∀ f,MonoN (Δ f)){n k:Nat}{es:EE}{S:Sto}{Q:QE}{o0 o1:Option SV}(v:Nat)(vi:Int)(hvi:vi=v)(hl:es.length<=90)(H:HalfOk n es)(hS:S[k]?=some (.lst (optsS (hsF n es))))(hlen:(hsF n es).length=es.length)(q:Q (.loc S.length) (S++[.lst (natS (i5 n es v))])):
 (wEx Δ (hvC vi)).1 [o0,o1,some (.loc k)] S Q:=by
 subst hvi;refine⟨_,rfl,_,c7 hS,?_⟩;refine q0 (i9 hΔ _).2 (a8 hΔ _).1 (fun i ys S3=>S3=S/\ys=natS ((Sx i).filter (onH n es v))) ⟨rfl,rfl⟩ (fun _ _ _ h=>by rw[h.1];exact rfl) ?_ ?_
 ·rintro i x ys S3 hx ⟨rfl,rfl⟩;obtain⟨y,hy,rfl⟩:=HI hx;have hi:i<es.length:=by have:=(gM hy).1;unfold optsS at this;rw[Sk,hlen]at this;exact this
  obtain⟨w,hw,hs⟩:=H.all i hi;have hy2:=u8 hs;rw[hy2]at hy;have hy:=(oj hy).symm;subst hy;have hf:=Uv (onH n es v) (Sx i);rw[UM]at hf
  have on:onH n es v i=decide (w=v):=by
   unfold onH;rw[hs];by_cases z:w=v
   ·subst z;simp
   ·rw[decide_eq_false z,decide_eq_false (fun y=>z (oj (oj y)))]
  refine⟨_,rfl,_,rfl,ifD (fun z=>?_) (fun z=>?_)⟩
  ·have z:w=v:=Ut.mp z;refine⟨_,rfl,by rw[e8];show _<100000;omega,rfl,?_⟩;rw[E9 n es v hi,on,decide_eq_true z,if_pos rfl,j5];rfl
  ·have z:w≠v:=fun y=>z (by show((w:Nat):Int)=((v:Nat):Int);rw[y]);refine⟨rfl,?_⟩;rw[E9 n es v hi,on,decide_eq_false z,if_neg (by decide),UF]
 ·rintro ys S3 ⟨rfl,rfl⟩;rw[Eg,show(optsS (hsF n es)).length=es.length by unfold optsS;rw[Sk,hlen]];exact q
theorem QY{e:Ex}{D:EndsS}{ρ:EnvS}{S:Sto}(h:(wEx Δ e).1 ρ S D.rt):wSs Δ [.ret e] D ρ S:=h
theorem O9{a b:Ex}{ρ:EnvS}{S:Sto}{Q:QE}(h:(wEx Δ a).1 ρ S fun x S1=>(wEx Δ b).1 ρ S1 fun y S2=>2<=big/\Q (.tup [x,y]) S2):(wEx Δ (.tup (.cons a (.cons b .nil)))).1 ρ S Q:=h
theorem MM(hΔ:∀ f,MonoN (Δ f)){n k:Nat}{es:EE}{S:Sto}{Q:QE}{o0 o1:Option SV}(hl:es.length<=90)(H:HalfOk n es)(hS:S[k]?=some (.lst (optsS (hsF n es))))(hlen:(hsF n es).length=es.length)(q:Q (.tup [.loc S.length,.loc (S++[SO.lst (natS (i5 n es 0))]).length]) ((S++[SO.lst (natS (i5 n es 0))])++[.lst (natS (i5 n es 1))])):
 wSs Δ [hv3] (AY Q) [o0,o1,some (.loc k)] S:=
 QY (O9 (Fy hΔ 0 0 rfl hl H hS hlen (Fy hΔ 1 1 rfl hl H (e6 hS) hlen ⟨by decide,q⟩)))
theorem Jq(hΔ:∀ f,MonoN (Δ f)){ks kc:Nat}(hs:Db (Δ ks))(hc:IU (Δ kc)){D:Df}(hb:D.body=Ib ks kc)(hN:D.N.length=3)(hp:D.ps.length=1):Fx (j8 Δ D):=by
 intro n es S Q W hl q;have hn:=W.few;unfold j8;rw[hb,hN];refine⟨hp.symm,_,rfl,hs W.en (by have:=W.len;omega) (by omega) (QX W) fun l0 S0 _ O0=>?_⟩;refine HV hΔ hc hn hl fun l S1 G1 h1=>?_;have cl:=Fv (n:=n) (es:=es) hn hl;refine⟨_,rfl,_,_,rfl,rfl,_,rfl,_,rfl,_,c7 h1,by show 2<=big;decide,?_⟩;refine QR (y:=r6 es.length (cplW n es)) ?_ (hs Em (by omega) (by omega) (O7 W) fun k S2 N O=>?_)
 ·unfold r6;rw[Sk]
 ·have H:HalfOk n es:=Nz N fun e he=>by have:=Em e he;omega
  have hlen:(hsF n es).length=es.length:=N.len;exact MM hΔ hl H O.at' hlen (q _ _ _ H ((O0.g.trans (G1.trans O.g)).push.push) (e6 c9) c9)
end
open PySem L2
theorem EA{n:Nat}{es:EE}(H:HalfOk n es):(i5 n es 0++i5 n es 1).Perm (Sx es.length):=by
 refine(List.perm_ext_iff_of_nodup ?_ WC).mpr fun t=>?_
 ·refine V6.mpr ⟨Ia 0,Ia 1,fun a ha b hb y=>?_⟩;subst y;have h1:=of_decide_eq_true (UE.mp ha).2;have h2:=of_decide_eq_true (UE.mp hb).2;rw[h1]at h2;cases h2
 ·rw[TQ,TY];exact⟨fun h=>h.elim CM CM,ML H⟩
theorem OA{n:Nat}{es:EE}(v:Nat):(i5 n es v).Pairwise (·<·):=List.Pairwise.filter _ Uq
theorem CN{n:Nat}{es:EE}(v:Nat):(i5 n es v).length<=es.length:=by
 have:=Uv (onH n es v) (Sx es.length)
 rwa [UM]at this
theorem MN{xs:List Nat}{m:Nat}(h:xs.Perm (Sx m)):srt (iN xs)=iN (Sx m):=by
 refine(EI ?_ ?_).symm
 ·unfold iN;exact(h.map _).symm
 ·unfold iN;exact VP.mpr (Uq.imp fun{a b} h=>by show(a:Int)<=b;omega)
section
variable{Δ:Nat->Sn}
noncomputable def rhE:Ex:=(.bi .len (.cons (.comp ["_law_tie"] ["_law_place","_law_web"] [1,2] (.nm 0) (.seq (.var 0)) (.yes (.cmp .In (.var 1) (.ix (.ix (.var 2) (.c (.int 1))) (.var 0)))) (.var 0)) .nil))
noncomputable def rh1(kr:Nat):Stm:=(.iff (.or (.not (.bi .isi (.cons (.var 1) (.cons (.tyc .tuple) .nil)))) (.or (.cmp .NotEq (.bi .len (.cons (.var 1) .nil)) (.c (.int 2))) (.not (.bi .all (.cons (.comp ["_law_row"] ["_law_web"] [0] (.nm 0) (.seq (.var 1)) .no (.call kr (.cons (.var 0) (.cons (.bi .len (.cons (.ix (.var 1) (.c (.int 1))) .nil)) .nil)))) .nil))))) [(.ret (.c (.bl false)))] [])
noncomputable def rh2:Stm:=(.iff (.cmp .NotEq (.bi .sorted (.cons (.op .Add (.ix (.var 1) (.c (.int 0))) (.ix (.var 1) (.c (.int 1)))) .nil)) (.lrng1 (.bi .len (.cons (.ix (.var 0) (.c (.int 1))) .nil)))) [(.ret (.c (.bl false)))] [])
noncomputable def rh3:Stm:=(.asg (.nm 3) (.comp ["_law_row"] ["_law_place","_law_web"] [2,0] (.nm 0) (.seq (.var 1)) .no rhE))
noncomputable def rh4:Stm:=(.iff (.not (.chn .LtE .LtE (.neg (.c (.int 1))) (.op .Sub (.ix (.var 3) (.c (.int 0))) (.ix (.var 3) (.c (.int 1)))) (.c (.int 1)))) [(.ret (.c (.bl false)))] [])
noncomputable def Ic(kr:Nat):List Stm:=[rh1 kr,rh2,(.loop (.nm 2) (.rng1 (.ix (.var 0) (.c (.int 0)))) [rh3,rh4]),(.ret (.c (.bl true)))]
theorem Id(hΔ:∀ f,MonoN (Δ f)){n l p:Nat}{es:EE}{L:List Nat}{S:Sto}{Q:QE}(h:S[l]?=some (.lst (natS L)))(hl:L.length<=1000)(hlt:∀ t∈L,t<es.length)(q:∀ S',Gw S S'->Q (.int (AN (amg es L) p:Nat)) S'):(wEx Δ rhE).1 [some (.loc l),some (.int p),some (r6 n es)] S Q:=by
 refine⟨_,rfl,_,c7 h,?_⟩;refine q0 (i9 hΔ _).2 (a8 hΔ _).1 (fun i ys S'=>S'=S/\ys.length=(L.take i).countP fun t=>C4 p (BY es t)) ⟨rfl,by simp⟩ (fun _ _ _ z=>by rw[z.1];exact rfl) ?_ ?_
 ·rintro i x ys S' hx ⟨rfl,hy⟩;obtain⟨t,ht,rfl⟩:=Bo hx;have hi:=(gM ht).1;have he:=D4 (hlt t (Sm ht));have hcl:((L.take i).countP fun t=>C4 p (BY es t))<=i:=Td (Ue ..) (by rw[Tb];omega)
  have hs:((L.take (i+1)).countP fun t=>C4 p (BY es t))=((L.take i).countP fun t=>C4 p (BY es t))+if C4 p (BY es t)=true then 1 else 0:=by
   rw[U2,ht,Vs];show _+Wj _ [t]=_;rw[V9,Ve,UG]
  refine⟨_,rfl,_,rfl,_,_,rfl,rfl,_,rfl,_,pairS (BY es t),rfl,i6 (by rw[TB,he];rfl),rfl,_,rfl,rfl,_,rfl,?_⟩;show if inS (.int p) [.int (BY es t).1,.int (BY es t).2]=true then _ else _
  rw[IQ];refine ifB (fun h=>?_) (fun h=>?_)
  ·refine⟨_,rfl,by rw[hy];show _<100000;omega,rfl,?_⟩;rw[Sl,hy,hs,if_pos (show C4 p (BY es t)=true from h)];rfl
  ·refine⟨rfl,?_⟩;rw[hy,hs,if_neg (show ¬ C4 p (BY es t)=true by unfold C4;rw[h];decide)];rfl
 ·rintro ys S' ⟨rfl,hy⟩;rw[e8,Ub,<-IZ]at hy;refine⟨_,c7 c9,?_⟩;rw[hy];exact q _ (Gw.refl _).push
noncomputable def Fz(s:Sn):Prop:=∀{n l1 l2:Nat} {es:EE} {S:Sto} {Q:QE},HalfOk n es->n<=60->es.length<=90->S[l1]?=some (.lst (natS (i5 n es 0)))->S[l2]?=some (.lst (natS (i5 n es 1)))->(∀ S',Gw S S'->Q (.bl true) S')->s [r6 n es,.tup [.loc l1,.loc l2]] S Q
theorem Jr(hΔ:∀ f,MonoN (Δ f)){kr:Nat}(hr:Da (Δ kr)){D:Df}(hb:D.body=Ic kr)(hN:D.N.length=4)(hp:D.ps.length=2):Fz (j8 Δ D):=by
 intro n l1 l2 es S Q H hn hel h1 h2 q;have ee:(((es.map pairS).length:Nat):Int)=(es.length:Nat):=by rw[Sk]
 have n0:=CN (n:=n) (es:=es) 0;have n1:=CN (n:=n) (es:=es) 1;unfold j8;rw[hb,hN];refine⟨hp.symm,_,rfl,_,nofun,rfl,_,rfl,ifF rfl ⟨_,rfl,_,rfl,_,rfl,ifF rfl ⟨_,rfl,_,rfl,?_⟩⟩⟩;refine DY hΔ (b:=true) (by show 2<=1000;decide) (fun _ _=>trivial) ?_ ?_
 ·intro i x S' hx G
  have one:∀(l v:Nat),S[l]?=some (.lst (natS (i5 n es v)))->x = .loc l->wTg (.nm 0) x [none,some (r6 n es)] fun ρ2=>(wEx Δ (.call kr (.cons (.var 0) (.cons (.bi .len (.cons (.ix (.var 1) (.c (.int 1))) .nil)) .nil)))).1 ρ2 S' fun y S2=>y = .bl true/\Gw S S2:=by
   rintro l v h rfl;have nv:=CN (n:=n) (es:=es) v;refine⟨_,rfl,_,rfl,_,_,rfl,rfl,_,rfl,?_⟩;rw[ee];exact hr (G.keep _ _ h) (OA v) (fun t ht=>CM ht) (by omega) fun S2 G2=>⟨rfl,G.trans G2⟩
  match i,hx with
  | 0,hx=>exact one l1 0 h1 (oj hx).symm
  | 1,hx=>exact one l2 1 h2 (oj hx).symm
  | i+2,hx=>cases hx
 intro S1 G1;have G2:=G1.push (o:=SO.lst (Su [SV.loc l1,SV.loc l2].length (.bl true)));refine⟨_,_,nofun,c7 c9,HN _ _,_,rfl,ifF (by rw[Ei];rfl) (v0 ?_)⟩;generalize S1++[SO.lst (Su [SV.loc l1,SV.loc l2].length (.bl true))]=S2 at *;have a1:=G2.keep _ _ h1;have a2:=G2.keep _ _ h2;refine⟨_,rfl,_,SV.loc l1,rfl,rfl,_,rfl,_,SV.loc l2,rfl,rfl,_,_,a1,a2,by rw[e8,e8];show _<=100000;omega,?_⟩;rw[<-j5];refine⟨_,_,nofun,c7 c9,MI _,by unfold iN;rw[Sk,(EA H).length_eq,UM];omega,?_⟩;rw[MN (EA H),D5];refine⟨_,rfl,_,_,rfl,rfl,_,rfl,_,rfl,⟨by rw[ee];omega,by rw[ee];omega⟩,?_⟩;rw[ee,No];refine⟨_,_,e6 c9,c9,.inl ⟨Bk _,Bk _⟩,_,rfl,ifF (by rw[Fu];rfl) (v0 ?_)⟩;have G5:=((G2.push (o:=SO.lst (natS (i5 n es 0++i5 n es 1)))).push (o:=SO.lst (natS (Sx es.length)))).push (o:=SO.lst (natS (Sx es.length)));generalize S2++[SO.lst (natS (i5 n es 0++i5 n es 1))]++[SO.lst (natS (Sx es.length))]++[SO.lst (natS (Sx es.length))]=S5 at *;refine⟨_,rfl,_,_,rfl,rfl,_,rfl,⟨by omega,by omega⟩,?_⟩;refine w6 (l9 hΔ _) (fun i ρ S6=>∃ o2 o3,ρ=[some (r6 n es),some (.tup [.loc l1,.loc l2]),o2,o3]/\Gw S S6) ⟨none,none,rfl,G5⟩ (fun _ _ _ _=>trivial) ?_ ?_
 ·rintro i x ρ S6 hx ⟨o2,o3,rfl,G6⟩;obtain⟨rfl,hi⟩:=Af hx;rw[VH]at hi ⊢;have hi:i<n:=by omega
  refine⟨_,rfl,_,rfl,?_⟩;refine q0 (i9 hΔ _).2 (a8 hΔ _).1 (fun j ys S7=>Gw S S7/\ys=([SV.int (AN (amg es (i5 n es 0)) i:Nat),SV.int (AN (amg es (i5 n es 1)) i:Nat)]).take j) ⟨G6,rfl⟩ (fun _ _ _ _=>trivial) ?_ ?_
  ·rintro j y ys S7 hy ⟨G7,rfl⟩
   match j,hy with
   | 0,hy=>
     have hy:=(oj hy).symm;subst hy;exact Id hΔ (G7.keep _ _ h1) (by omega) (fun t ht=>CM ht) fun S8 G8=>⟨by show 0<big;decide,G7.trans G8,rfl⟩
   | 1,hy=>
     have hy:=(oj hy).symm;subst hy;exact Id hΔ (G7.keep _ _ h2) (by omega) (fun t ht=>CM ht) fun S8 G8=>⟨by show 1<big;decide,G7.trans G8,rfl⟩
   | j+2,hy=>cases hy
  ·rintro ys S7 ⟨G7,rfl⟩;have h8:(S7++[SO.lst [SV.int (AN (amg es (i5 n es 0)) i:Nat),SV.int (AN (amg es (i5 n es 1)) i:Nat)]])[S7.length]?=some (.lst [SV.int (AN (amg es (i5 n es 0)) i:Nat),SV.int (AN (amg es (i5 n es 1)) i:Nat)]):=c9;have B:=MK H hi;rw[<-Fw,<-Fw]at B;refine⟨_,rfl,_,_,c7 h8,rfl,_,rfl,_,_,c7 h8,rfl,_,rfl,ifT (decide_eq_true (by show(-1:Int)<=(AN (amg es (i5 n es 0)) i:Nat) - (AN (amg es (i5 n es 1)) i:Nat);omega)) ⟨_,rfl,ifF ?_ (v0 ⟨_,_,rfl,G7.push⟩)⟩⟩;show(!decide (((AN (amg es (i5 n es 0)) i:Nat):Int) - (AN (amg es (i5 n es 1)) i:Nat)<=1))=false;rw[decide_eq_true (by omega)];rfl
 ·rintro ρ S6 ⟨o2,o3,rfl,G6⟩;exact q _ G6
end
end Rf
namespace Hue
open PySem L2 Rf
noncomputable def Lc:Stm:=(.asg (.nm 6) (.call 13 (.cons (.var 3) .nil)))
noncomputable def Ld:Stm:=(.iff (.not (.call 19 (.cons (.var 3) (.cons (.var 6) .nil)))) [(.ret (.c (.bl false)))] [])
noncomputable def Le:Stm:=(.asg (.nm 7) (.lst (.cons (.bi .list (.cons (.ix (.var 6) (.c (.int 0))) .nil)) (.cons (.bi .list (.cons (.ix (.var 6) (.c (.int 1))) .nil)) .nil))))
noncomputable def Lf:Stm:=(.expr (.mt .append (.ix (.var 6) (.c (.int 0))) (.cons (.c (.int 0)) .nil)))
noncomputable def Lg:Stm:=(.expr (.mt .clear (.ix (.var 6) (.c (.int 1))) .nil))
noncomputable def Lh:Stm:=(.iff (.nell (.bi .list (.cons (.call 13 (.cons (.var 3) .nil)) .nil)) (.var 7)) [(.ret (.c (.bl false)))] [])
noncomputable def top(i:Nat):Stmt:=PySem.Challenge.pw_huedties_k29_halves.main.body.getD i (.Pass ⟨0,0,0,0⟩)
noncomputable def b0:List Stm:=Ly
noncomputable def d0:Df:=⟨"is_number",top 6,["thing"],["thing"],b0⟩
noncomputable def b1:List Stm:=E4 0
noncomputable def d1:Df:=⟨"has_place",top 8,["web","place"],["web","place"],b1⟩
noncomputable def b2:List Stm:=IN 0
noncomputable def d2:Df:=⟨"has_tie",top 9,["web","tie"],["web","tie"],b2⟩
noncomputable def b3:List Stm:=Ef 1
noncomputable def d3:Df:=⟨"check_place",top 10,["web","place"],["web","place"],b3⟩
noncomputable def b4:List Stm:=Ef 2
noncomputable def d4:Df:=⟨"check_tie",top 11,["web","tie"],["web","tie"],b4⟩
noncomputable def b5:List Stm:=IO 3
noncomputable def d5:Df:=⟨"ties_at",top 12,["web","place"],["web","place"],b5⟩
noncomputable def b6:List Stm:=IP 4
noncomputable def d6:Df:=⟨"far_end",top 13,["web","tie","place"],["web","tie","place","one","other"],b6⟩
noncomputable def b7:List Stm:=Oj 5 6
noncomputable def d7:Df:=⟨"give_sides",top 15,["web","start","sides","back"],["web","start","sides","back","waiting","place","tie","far"],b7⟩
noncomputable def b8:List Stm:=Fl 6
noncomputable def d8:Df:=⟨"way_back",top 16,["web","place","back"],["web","place","back","way"],b8⟩
noncomputable def b9:List Stm:=Oi 8
noncomputable def d9:Df:=⟨"ring_through",top 17,["web","tie","back"],["web","tie","back","one","other","up","down"],b9⟩
noncomputable def b10:List Stm:=Rz 7 9
noncomputable def d10:Df:=⟨"two_sides",top 18,["web"],["web","sides","back","place","tie","one","other"],b10⟩
noncomputable def b11:List Stm:=Fp 10
noncomputable def d11:Df:=⟨"sides_of",top 19,["web"],["web","word","row"],b11⟩
noncomputable def b12:List Stm:=SA 5
noncomputable def d12:Df:=⟨"couples_at",top 21,["web","place"],["web","place","ties"],b12⟩
noncomputable def b13:List Stm:=Ib 11 12
noncomputable def d13:Df:=⟨"halves",top 22,["web"],["web","couples","half"],b13⟩
noncomputable def b14:List Stm:=Og
noncomputable def d14:Df:=⟨"_law_tape",top 24,["_law_script","_law_k"],["_law_script","_law_k","_law_cell","_law_digits"],b14⟩
noncomputable def b15:List Stm:=Oh
noncomputable def d15:Df:=⟨"_law_draw",top 25,["_law_tape_here","_law_many"],["_law_tape_here","_law_many","_law_found","_law_once"],b15⟩
noncomputable def b16:List Stm:=Fs 15
noncomputable def d16:Df:=⟨"_law_two_once",top 26,["_law_tape_here","_law_great"],["_law_tape_here","_law_great","_law_many","_law_sides","_law_left","_law_right_here","_law_way","_law_found","_law_one","_law_turn","_law_ties","_law_other"],b16⟩
noncomputable def b17:List Stm:=E8 16
noncomputable def d17:Df:=⟨"_law_two_sided",top 27,["_law_tape_here","_law_great"],["_law_tape_here","_law_great","_law_web","_law_turn"],b17⟩
noncomputable def b18:List Stm:=MJ
noncomputable def d18:Df:=⟨"_law_rises",top 28,["_law_thing","_law_below"],["_law_thing","_law_below"],b18⟩
noncomputable def b19:List Stm:=Ic 18
noncomputable def d19:Df:=⟨"_law_right",top 30,["_law_web","_law_found"],["_law_web","_law_found","_law_place","_law_counts"],b19⟩
noncomputable def b20:List Stm:=[(.loop (.nm 1) (.rng1 (.op .Add (.c (.int 1)) (.bi .min (.cons (.c (.int 8)) (.cons (.bi .len (.cons (.var 0) .nil)) .nil))))) [(.asg (.nm 2) (.call 14 (.cons (.var 0) (.cons (.var 1) .nil)))),(.asg (.nm 3) (.call 17 (.cons (.var 2) (.cons (.cmp .Eq (.call 15 (.cons (.var 2) (.cons (.c (.int 8)) .nil))) (.c (.int 0))) .nil)))),(.iff (.and (.cmp .Eq (.call 15 (.cons (.var 2) (.cons (.c (.int 4)) .nil))) (.c (.int 0))) (.cmp .Lt (.bi .len (.cons (.ix (.var 3) (.c (.int 1))) .nil)) (.c (.int 20)))) [(.asg (.nm 4) (.lst .nil)),(.loop (.nm 5) (.seq (.ix (.var 3) (.c (.int 1)))) [(.expr (.mt .extend (.var 4) (.cons (.op .Mult (.lst (.cons (.var 5) .nil)) (.op .Add (.c (.int 1)) (.call 15 (.cons (.var 2) (.cons (.c (.int 4)) .nil))))) .nil)))]),(.asg (.nm 3) (.tup (.cons (.ix (.var 3) (.c (.int 0))) (.cons (.bi .tuple (.cons (.var 4) .nil)) .nil))))] []),Lc,Ld,Le,Lf,Lg,Lh]),(.ret (.and (.eqtl (.call 13 (.cons (.tup (.cons (.c (.int 0)) (.cons (.tup .nil) .nil))) .nil)) (.tup (.cons (.lst .nil) (.cons (.lst .nil) .nil)))) (.eqtl (.call 13 (.cons (.tup (.cons (.c (.int 3)) (.cons (.tup .nil) .nil))) .nil)) (.tup (.cons (.lst .nil) (.cons (.lst .nil) .nil))))))]
noncomputable def d20:Df:=⟨"law",top 31,["_law_script"],["_law_script","_law_k","_law_tape_here","_law_web","_law_ties","_law_pair","_law_found","_law_kept"],b20⟩
noncomputable def prog:List Df:=[d0,d1,d2,d3,d4,d5,d6,d7,d8,d9,d10,d11,d12,d13,d14,d15,d16,d17,d18,d19,d20]
theorem G9:prog.all (Nl (prog.map (·.name)))=true:=by decide +kernel
open PySem L2 Rf
theorem hW(d:Nat):∀ f,MonoN (W prog d f):=DS d
theorem s0(d:Nat):D3 (W prog (d+1) 0):=Lz (Δ:=W prog d) (D:=d0) rfl rfl rfl
theorem s1(d:Nat):C2 (W prog (d+2) 1):=Fj (Δ:=W prog (d+1)) (D:=d1) (s0 d) rfl rfl rfl
theorem s2(d:Nat):DU (W prog (d+2) 2):=Jf (Δ:=W prog (d+1)) (D:=d2) (s0 d) rfl rfl rfl
theorem s3(d:Nat):B8 (W prog (d+3) 3):=Dj (Δ:=W prog (d+2)) (D:=d3) (s1 d) rfl rfl rfl
theorem s4(d:Nat):C3 (W prog (d+3) 4):=Fk (Δ:=W prog (d+2)) (D:=d4) (s2 d) rfl rfl rfl
theorem s5(d:Nat):CJ (W prog (d+4) 5):=Jg (Δ:=W prog (d+3)) (D:=d5) (hW _) (s3 d) rfl rfl rfl
theorem s6(d:Nat):BT (W prog (d+4) 6):=Jh (Δ:=W prog (d+3)) (D:=d6) (s4 d) rfl rfl rfl
theorem s7(d:Nat):HL (W prog (d+5) 7):=Nq (Δ:=W prog (d+4)) (D:=d7) (hW _) (s5 d) (s6 d) rfl rfl rfl
theorem s8(d:Nat):Ce (W prog (d+5) 8):=HJ (Δ:=W prog (d+4)) (D:=d8) (s6 d) rfl rfl rfl
theorem s9(d:Nat):Eh (W prog (d+6) 9):=Np (Δ:=W prog (d+5)) (D:=d9) (s8 d) rfl rfl rfl
theorem s10(d:Nat):M7 (W prog (d+7) 10):=QP (Δ:=W prog (d+6)) (D:=d10) (hW _) (s7 (d+1)) (s9 d) rfl rfl rfl
theorem s11(d:Nat):Db (W prog (d+8) 11):=Jp (Δ:=W prog (d+7)) (D:=d11) (s10 d) rfl rfl rfl
theorem s12(d:Nat):IU (W prog (d+5) 12):=QS (Δ:=W prog (d+4)) (D:=d12) (hW _) (s5 d) rfl rfl rfl
theorem s13(d:Nat):Fx (W prog (d+9) 13):=Jq (Δ:=W prog (d+8)) (D:=d13) (hW _) (s11 d) (s12 (d+3)) rfl rfl rfl
theorem s14(d:Nat):Lx (W prog (d+1) 14):=Nn (Δ:=W prog d) (D:=d14) rfl rfl rfl
theorem s15(d:Nat):BS (W prog (d+1) 15):=Nm (Δ:=W prog d) (D:=d15) rfl rfl rfl
theorem s16(d:Nat):B3 (W prog (d+2) 16):=HR (Δ:=W prog (d+1)) (D:=d16) (hW _) (s15 d) rfl rfl rfl
theorem s17(d:Nat):B3 (W prog (d+3) 17):=Ft (Δ:=W prog (d+2)) (D:=d17) (hW _) (s16 d) rfl rfl rfl
theorem s18(d:Nat):Da (W prog (d+1) 18):=Jm (Δ:=W prog d) (D:=d18) (hW _) rfl rfl rfl
theorem s20(d:Nat):Fz (W prog (d+2) 19):=Jr (Δ:=W prog (d+1)) (D:=d19) (hW _) (s18 d) rfl rfl rfl
theorem ls2{S:Sto}{a b:Nat}{xs ys:List Nat}(ha:S[a]?=some (.lst (natS xs)))(hb:S[b]?=some (.lst (natS ys))):LsI S [a,b] [iN xs,iN ys]:=by
 refine⟨rfl,fun i t zs h1 h2=>?_⟩
 match i,h1,h2 with
 | 0,h1,h2=>cases h1;cases h2;rw[D5];exact ha
 | 1,h1,h2=>cases h1;cases h2;rw[D5];exact hb
 | i+2,h1,_=>cases h1
theorem Cj{D:EndsS}{n:Nat}{es:EE}{S:Sto}{o0 o1 o2 o4 o5 o6 o7:Option SV}(Wb:Web2 n es)(hel:es.length<=90)(q:∀(o6 o7:Option SV) (S':Sto),D.nx [o0,o1,o2,some (r6 n es),o4,o5,o6,o7] S'):wSs (W prog 9) [Lc,Ld,Le,Lf,Lg,Lh] D [o0,o1,o2,some (r6 n es),o4,o5,o6,o7] S:=by
 have hn:=Wb.few;refine⟨_,rfl,s13 0 Wb hel fun l1 l2 S1 H G1 h1 h2=>?_⟩;refine⟨_,rfl,_,rfl,s20 7 H hn hel h1 h2 fun S2 G2=>⟨_,rfl,ifF rfl (v0 ?_)⟩⟩;have a1:=G2.keep _ _ h1;have a2:=G2.keep _ _ h2;have n0:=CN (n:=n) (es:=es) 0;refine⟨_,rfl,_,_,rfl,rfl,_,c7 a1,_,rfl,_,_,rfl,rfl,_,c7 (e6 a2),by show 2<=big;decide,?_⟩;generalize hA:i5 n es 0=A at *;generalize hB:i5 n es 1=B at *;have b1:=e6 (o:=SO.lst [SV.loc S2.length,SV.loc (S2++[SO.lst (natS A)]).length]) (e6 (o:=SO.lst (natS B)) (e6 (o:=SO.lst (natS A)) a1));have b2:=e6 (o:=SO.lst [SV.loc S2.length,SV.loc (S2++[SO.lst (natS A)]).length]) (e6 (o:=SO.lst (natS B)) (e6 (o:=SO.lst (natS A)) a2));have c1:=e6 (o:=SO.lst [SV.loc S2.length,SV.loc (S2++[SO.lst (natS A)]).length]) (e6 (o:=SO.lst (natS B)) (c9 (S:=S2) (o:=SO.lst (natS A))));have c2:=e6 (o:=SO.lst [SV.loc S2.length,SV.loc (S2++[SO.lst (natS A)]).length]) (c9 (S:=S2++[SO.lst (natS A)]) (o:=SO.lst (natS B)));have c5:=c9 (S:=S2++[SO.lst (natS A)]++[SO.lst (natS B)]) (o:=SO.lst [SV.loc S2.length,SV.loc (S2++[SO.lst (natS A)]).length]);have e1:=AA a1;have e2:=AA a2;have k12:S2.length<(S2++[SO.lst (natS A)]).length:=by rw[Sl];simp
 have k25:(S2++[SO.lst (natS A)]).length<(S2++[SO.lst (natS A)]++[SO.lst (natS B)]).length:=by rw[Sl];simp
 generalize (S2++[SO.lst (natS A)]++[SO.lst (natS B)]).length=k5 at *;generalize S2++[SO.lst (natS A)]++[SO.lst (natS B)]++[SO.lst [SV.loc S2.length,SV.loc (S2++[SO.lst (natS A)]).length]]=S3 at *;generalize (S2++[SO.lst (natS A)]).length=k2 at *;generalize S2.length=k1 at *;refine⟨_,rfl,_,SV.loc l1,rfl,rfl,⟨_,_,rfl,b1⟩,_,b1,by rw[e8];show _<100000;omega,?_⟩
 obtain⟨xs,d2⟩:∃ xs,(S3.set l1 (.lst (natS A++[SV.int 0])))[l2]?=some (.lst xs):=by
  by_cases z:l1=l2
  ·subst z;exact⟨_,A9 b1⟩
  ·exact⟨_,by rw[m7 z];exact b2⟩
 have f1:(S3.set l1 (.lst (natS A++[SV.int 0])))[k1]?=some (.lst (natS A)):=by rw[m7 (by omega)];exact c1
 have f2:(S3.set l1 (.lst (natS A++[SV.int 0])))[k2]?=some (.lst (natS B)):=by rw[m7 (by omega)];exact c2
 have f5:(S3.set l1 (.lst (natS A++[SV.int 0])))[k5]?=some (.lst [SV.loc k1,SV.loc k2]):=by rw[m7 (by omega)];exact c5
 generalize S3.set l1 (.lst (natS A++[SV.int 0]))=S4 at *;refine⟨_,rfl,_,SV.loc l2,rfl,rfl,⟨_,_,rfl,d2⟩,_,d2,?_⟩;have g1:(S4.set l2 (.lst []))[k1]?=some (.lst (natS A)):=by rw[m7 (by omega)];exact f1
 have g2:(S4.set l2 (.lst []))[k2]?=some (.lst (natS B)):=by rw[m7 (by omega)];exact f2
 have g5:(S4.set l2 (.lst []))[k5]?=some (.lst [SV.loc k1,SV.loc k2]):=by rw[m7 (by omega)];exact f5
 generalize S4.set l2 (.lst [])=S5 at *;refine⟨_,rfl,s13 0 Wb hel fun m1 m2 S6 H6 G6 i1 i2=>?_⟩;rw[hA]at i1;rw[hB]at i2;exact⟨_,rfl,_,rfl,_,k5,[m1,m2],[k1,k2],[iN A,iN B],rfl,rfl,c9,e6 (G6.keep _ _ g5),ls2 (e6 i1) (e6 i2),ls2 (e6 (G6.keep _ _ g1)) (e6 (G6.keep _ _ g2)),_,rfl,ifF rfl (v0 (q _ _ _))⟩
theorem GA{n:Nat}(hn:n<=60):Web2 n []:=⟨(fun _ h=>nomatch h),by simp,hn,⟨fun _=>0,(fun _=>by show 0<2;omega),(fun _ h=>nomatch h)⟩⟩
theorem MO(m:Nat)(e:Nat×Nat):(Su m [pairS e]).flatten=(Su m e).map pairS:=by
 induction m with
 | zero=>rfl
 | succ m ih=>rw[Tf,UK,ih,Tf,To];rfl
theorem law_main(ns:List Int)(h:ns.length<=63):W prog 10 20 [.ro (ns.map SV.int)] [] fun x _=>x = .bl true:=by
 show j8 (W prog 9) d20 _ _ _
 have hj:∃ m:Nat,1+(if ((ns.map SV.int).length:Int)<8 then ((ns.map SV.int).length:Int) else 8)=(m:Int)/\m<=9:=by
  rw[Sk];refine⟨1+min 8 ns.length,?_,by omega⟩;split<;>omega
 obtain⟨m,hm,hm9⟩:=hj;refine⟨rfl,_,rfl,_,rfl,m,congrArg SV.int hm,⟨by omega,by omega⟩,?_⟩;refine w6 (l9 (hW _) _) (fun i ρ S'=>∃ o1 o2 o3 o4 o5 o6 o7,ρ=[some (.ro (ns.map SV.int)),o1,o2,o3,o4,o5,o6,o7]) ⟨none,none,none,none,none,none,none,rfl⟩ (fun _ _ _ _=>trivial) ?_ ?_
 ·rintro i x ρ S hx ⟨o1,o2,o3,o4,o5,o6,o7,rfl⟩;obtain⟨rfl,hi⟩:=Af hx;rw[VH]at hi ⊢;refine⟨_,rfl,_,rfl,s14 8 h (by omega) fun a b ha hb hb2=>?_⟩;have T1:TapeS (S++[SO.lst [.int a,.int b]]) S.length:=⟨a,b,c9,ha,hb,hb2⟩
  refine⟨_,rfl,_,rfl,s15 8 T1 (by decide) (by decide) fun r S2 r0 r1 T2 O2 _=>?_⟩;refine s17 6 T2 fun n es S3 Wb hn hl T3 O3=>?_;dsimp only[List.set];generalize S.length=tp at *;refine⟨_,rfl,s15 8 T3 (by decide) (by decide) fun r' S4 r0' r1' T4 O4 _=>⟨_,rfl,?_⟩⟩;refine ifD (fun _=>?_) (fun _=>ifF rfl (v0 (Cj Wb hl fun o6 o7 S'=>⟨_,_,_,_,_,_,_,rfl⟩)));refine⟨_,rfl,_,_,rfl,rfl,_,rfl,_,rfl,?_⟩;refine ifD (fun hlt=>?_) (fun _=>v0 (Cj Wb hl fun o6 o7 S'=>⟨_,_,_,_,_,_,_,rfl⟩))
  have hlt:es.length<20:=by
   have:(((es.map pairS).length:Nat):Int)<20:=hlt;rw[Sk]at this;omega
  refine⟨by show 0<=big;decide,?_⟩;have T5:=T4.push (o:=SO.lst []);have k5:(S4++[SO.lst []])[S4.length]?=some (.lst (([]:EE).map pairS)):=c9;have ne:S4.length≠tp:=by obtain⟨_,_,e,_⟩:=T4.ex;exact Ne.symm (TL (AA e))
  generalize S4.length=k at *;generalize S4++[SO.lst []]=S5 at *;refine⟨_,rfl,_,_,rfl,rfl,_,rfl,?_⟩;refine w6 (l9 (hW _) _) (fun j ρ S6=>∃(o5:Option SV) (fs:EE),ρ=[some (.ro (ns.map SV.int)),some (.int (i:Int)),some (.loc tp),some (r6 n es),some (.loc k),o5,o6,o7]/\TapeS S6 tp/\S6[k]?=some (.lst (fs.map pairS))/\fs.length<=4 * j/\∀ e∈fs,e∈es) ⟨_,[],rfl,T5,k5,Sr _,fun _ h=>nomatch h⟩ (fun _ _ _ _=>trivial) ?_ ?_
  ·rintro j x ρ S6 hx ⟨o5,fs,rfl,T6,k6,hfl,hfs⟩;obtain⟨e,he,rfl⟩:=BU hx;have hjl:=(gM he).1;refine⟨_,rfl,⟨_,_,rfl,k6⟩,_,rfl,by show 1<=big;decide,_,rfl,?_⟩;have T7:=T6.push (o:=SO.lst [pairS e]);have k7:=e6 (o:=SO.lst [pairS e]) k6;have p7:(S6++[SO.lst [pairS e]])[S6.length]?=some (.lst [pairS e]):=c9;have ne2:S6.length≠tp:=by obtain⟨_,_,e,_⟩:=T6.ex;exact Ne.symm (TL (AA e))
   generalize S6.length=kp at *;generalize S6++[SO.lst [pairS e]]=S7 at *;refine s15 8 T7 (by decide) (by decide) fun r8 S8 r80 r81 T8 O8 _=>?_;have k8:=O8.keep _ _ ne k7;have p8:=O8.keep _ _ ne2 p7;obtain⟨m8,rfl⟩:=Int.eq_ofNat_of_zero_le r80;have em:((1:Int)+(m8:Int)).toNat=m8+1:=by omega
   refine⟨_,p8,⟨by omega,by omega⟩,?_,?_⟩
   ·rw[em];show 1 * (m8+1)<=100000;omega
   rw[em,MO];refine⟨_,_,e6 k8,c9,?_,?_⟩
   ·rw[Sk,Sk,UO];show _<=100000;omega
   refine⟨_,fs++Su (m8+1) e,rfl,(T8.push).other ne,?_,?_,fun f hf=>?_⟩
   ·rw[A9 (e6 k8),Tt]
   ·rw[Sl,UO];omega
   ·rcases TQ.mp hf with hf | hf
    ·exact hfs f hf
    ·rw[(Vr.mp hf).2];exact Sm he
  ·rintro ρ S6 ⟨o5,fs,rfl,T6,k6,hfl,hfs⟩;rw[Sk]at hfl
   have Wf:Web2 n fs:=by
    obtain⟨c,c2,cn⟩:=Wb.two;exact⟨fun e he=>Wb.en e (hfs e he),by omega,Wb.few,c,c2,fun e he=>cn e (hfs e he)⟩
   refine⟨_,rfl,_,_,rfl,rfl,_,rfl,_,c7 k6,by show 2<=big;decide,?_⟩;exact Cj Wf (by omega) fun o6 o7 S'=>⟨_,_,_,_,_,_,_,rfl⟩
 ·rintro ρ S ⟨o1,o2,o3,o4,o5,o6,o7,rfl⟩;have b0:0<=big:=by decide
  have b2:2<=big:=by decide
  have none_h:∀ m v,i5 m [] v=[]:=fun m v=>rfl;refine⟨b0,b2,s13 0 (GA (n:=0) (by omega)) (by simp) fun l1 l2 S1 H1 G1 h1 h2=>?_⟩;rw[none_h]at h1 h2;refine⟨b0,b0,b2,[l1,l2],[S1.length,(S1++[SO.lst []]).length],[iN [],iN []],rfl,rfl,ls2 (e6 (e6 h1)) (e6 (e6 h2)),ls2 (e6 c9) c9,_,rfl,ifT rfl ?_⟩;refine⟨b0,b2,s13 0 (GA (n:=3) (by omega)) (by simp) fun l1 l2 S2 H2 G2 h1 h2=>?_⟩;rw[none_h]at h1 h2;exact⟨b0,b0,b2,[l1,l2],[S2.length,(S2++[SO.lst []]).length],[iN [],iN []],rfl,rfl,ls2 (e6 (e6 h1)) (e6 (e6 h2)),ls2 (e6 c9) c9,rfl⟩
end Hue
namespace PySem.W.Fast
theorem tw15550005039298190052:True:=⟨⟩
theorem tw8102060389008016955:True:=⟨⟩
theorem tw11159278081755501769:True:=⟨⟩
theorem tw2897663820489941634:True:=⟨⟩
theorem tw3081315443776299551:True:=⟨⟩
theorem tw14965212244143090514:True:=⟨⟩
theorem tw505343612459986295:True:=⟨⟩
theorem tw15228678224210809598:True:=⟨⟩
theorem tw12767791580681469726:True:=⟨⟩
theorem tw10490835425351722676:True:=⟨⟩
theorem tw12667926302597101243:True:=⟨⟩
theorem tw14519213885985456172:True:=⟨⟩
theorem tw17750311205188369399:True:=⟨⟩
theorem tw12901307549593680281:True:=⟨⟩
theorem tw9692871936949773206:True:=⟨⟩
theorem tw13117377011422378271:True:=⟨⟩
theorem tw12109089690534688347:True:=⟨⟩
theorem tw14544307096193344274:True:=⟨⟩
theorem tw3205143658219376061:True:=⟨⟩
theorem tw1692378839310150592:True:=⟨⟩
theorem tw7862173929220839898:True:=⟨⟩
theorem tw6845781581247018746:True:=⟨⟩
theorem tw5700164063101468623:True:=⟨⟩
theorem tw5356141538561084475:True:=⟨⟩
theorem tw12606947868204315809:True:=⟨⟩
theorem tw14359676705847050147:True:=⟨⟩
theorem tw2803080680990848891:True:=⟨⟩
theorem tw6688175879476375814:True:=⟨⟩
theorem tw1265270361567249125:True:=⟨⟩
theorem tw14280234949552236680:True:=⟨⟩
theorem tw946038079249953141:True:=⟨⟩
theorem tw2270725008364670027:True:=⟨⟩
theorem tw4140942856003415374:True:=⟨⟩
theorem tw11648839283618269189:True:=⟨⟩
theorem tw11801443300096149453:True:=⟨⟩
theorem tw14701405782413314573:True:=⟨⟩
theorem tw15592588532202844335:True:=⟨⟩
theorem tw3271737065903510255:True:=⟨⟩
theorem tw15453082375789206686:True:=⟨⟩
theorem tw6770055927391014714:True:=⟨⟩
theorem tw8987910275884064959:True:=⟨⟩
theorem tw5997353257252101063:True:=⟨⟩
theorem tw11477189411588030790:True:=⟨⟩
theorem tw13274125287404017365:True:=⟨⟩
theorem tw18212025351622875711:True:=⟨⟩
theorem tw14255983672580014741:True:=⟨⟩
theorem tw9471095816282406115:True:=⟨⟩
theorem tw13614416649526583603:True:=⟨⟩
theorem tw10710054943774561984:True:=⟨⟩
theorem tw8614345442249868268:True:=⟨⟩
theorem tw6944425128370805748:True:=⟨⟩
theorem tw7198913243806591400:True:=⟨⟩
theorem tw8513118108522639150:True:=⟨⟩
theorem tw10877346031625403836:True:=⟨⟩
theorem tw2267954247184109107:True:=⟨⟩
theorem tw15716012327480997785:True:=⟨⟩
theorem tw6556458583996229310:True:=⟨⟩
theorem tw7066198916441934460:True:=⟨⟩
theorem tw11636300013179746481:True:=⟨⟩
theorem tw4413827990922175449:True:=⟨⟩
theorem tw6596591187226641747:True:=⟨⟩
theorem tw3737412723969967321:True:=⟨⟩
theorem tw3315035686124986529:True:=⟨⟩
theorem tw13572841500090233464:True:=⟨⟩
theorem tw7758226578100926245:True:=⟨⟩
theorem tw3252134321612977402:True:=⟨⟩
theorem tw17188108069702552603:True:=⟨⟩
theorem tw5060111918853079991:True:=⟨⟩
theorem tw13278625623065480133:True:=⟨⟩
theorem tw17686629797819733217:True:=⟨⟩
theorem tw8977244588373730063:True:=⟨⟩
theorem tw4236986859614486032:True:=⟨⟩
theorem tw10566980665521215948:True:=⟨⟩
theorem tw8324534395422854178:True:=⟨⟩
theorem tw1281390125993569752:True:=⟨⟩
theorem tw14910968325171103287:True:=⟨⟩
theorem tw17046026311375629269:True:=⟨⟩
theorem tw12253518888781631120:True:=⟨⟩
theorem tw10988348240335131768:True:=⟨⟩
theorem tw6267732265920898770:True:=⟨⟩
theorem tw15467608305548379489:True:=⟨⟩
theorem tw4580498138044662524:True:=⟨⟩
theorem tw6490074076840449853:True:=⟨⟩
theorem tw9602774179157547817:True:=⟨⟩
theorem tw10113410007693635000:True:=⟨⟩
theorem tw11649914674661448013:True:=⟨⟩
theorem tw14931029216474571711:True:=⟨⟩
theorem tw16855258782444443308:True:=⟨⟩
theorem tw11984372615331757203:True:=⟨⟩
theorem tw15230819165868029352:True:=⟨⟩
theorem tw7294087997426248304:True:=⟨⟩
theorem tw16906884835253672137:True:=⟨⟩
theorem tw15595317036837563769:True:=⟨⟩
theorem tw8226320090006744806:True:=⟨⟩
theorem tw2723607715946802323:True:=⟨⟩
theorem tw18289870740720347358:True:=⟨⟩
theorem tw17633166475115716605:True:=⟨⟩
theorem tw17223513191696941271:True:=⟨⟩
theorem tw8144899628518538840:True:=⟨⟩
theorem tw17409075259122178033:True:=⟨⟩
theorem tw17397847381681635835:True:=⟨⟩
end PySem.W.Fast
namespace Hue
open PySem L2 Rf
noncomputable def AZ(K:Sh)(nm:Str)(i:Nat):Prop:=∃(f:Addr) (od an:Option Addr) (sl:Array (Option Value)) (oc kV dc pm cd ct:Value),PySem.W.nsIn K mainGlobals nm=some (some (.ref f))/\K.lookup f=some ⟨oc,od,.func (PySem.W.fnOf nm nm (defArgs (top i)) (defBody (top i)) (defScope (top i)) .none kV dc pm an cd ct),sl⟩/\PySem.W.codeIn K cd nm=true/\PySem.W.keepIn K (.ref f)=true
theorem lnkK_mk{K:Sh}{nm:Str}{i:Nat}{f:Addr}{od an:Option Addr}{sl:Array (Option Value)}{oc kV dc pm cd ct:Value}(a:PySem.W.nsIn K mainGlobals nm=some (some (.ref f)))(l:K.lookup f=some ⟨oc,od,.func (PySem.W.fnOf nm nm (defArgs (top i)) (defBody (top i)) (defScope (top i)) .none kV dc pm an cd ct),sl⟩)(c:PySem.W.codeIn K cd nm=true)(k:PySem.W.keepIn K (.ref f)=true):AZ K nm i:=⟨f,od,an,sl,oc,kV,dc,pm,cd,ct,a,l,c,k⟩
theorem m6{K:Sh}{h:Heap}{mg:Str->Option Value}(X:K.In h)(G:h.Ns mainGlobals mg)(D:Df){i:Nat}(x:AZ K D.name i)(e:D.st=top i)(b:∀(kV doc pm:Value) (an:Option Addr) (cdv ct:Value) (us:List Value),us.length=D.ps.length->bindArgs (PySem.W.fnOf D.name D.name (defArgs (top i)) (defBody (top i)) (defScope (top i)) .none kV doc pm an cdv ct) ⟨us,[]⟩=pure (D.ps.zip us)):PIn K mg D:=by
 obtain⟨_,_,_,_,_,_,_,_,_,_,a,l,c,k⟩:=x;exact⟨_,_,e▸GO (st:=top i) l c k,PySem.W.mg_of X G a,k,(GO (st:=top i) l c k).binds (ps:=D.ps) b⟩
theorem y0{P:Df->Prop}{D:Df}{l:List Df}(a:P D)(b:∀ x∈l,P x):∀ x∈D::l,P x:=List.forall_mem_cons.mpr ⟨a,b⟩
theorem all_mk{l:PySem.W.OpenLaw}{w:World}{K:Sh}{h:Heap}{mg:Str->Option Value}{fa:Addr}(X:K.In h)(G:h.Ns mainGlobals mg)(hfa:mg "law"=some (.ref fa))
 (x0:AZ K "is_number" 6)
 (x1:AZ K "has_place" 8)
 (x2:AZ K "has_tie" 9)
 (x3:AZ K "check_place" 10)
 (x4:AZ K "check_tie" 11)
 (x5:AZ K "ties_at" 12)
 (x6:AZ K "far_end" 13)
 (x7:AZ K "give_sides" 15)
 (x8:AZ K "way_back" 16)
 (x9:AZ K "ring_through" 17)
 (x10:AZ K "two_sides" 18)
 (x11:AZ K "sides_of" 19)
 (x12:AZ K "couples_at" 21)
 (x13:AZ K "halves" 22)
 (x14:AZ K "_law_tape" 24)
 (x15:AZ K "_law_draw" 25)
 (x16:AZ K "_law_two_once" 26)
 (x17:AZ K "_law_two_sided" 27)
 (x18:AZ K "_law_rises" 28)
 (x19:AZ K "_law_right" 30)
 (x20:AZ K "law" 31)
 (z0:PySem.W.nsIn K mainGlobals "len"=some none)
 (z1:PySem.W.nsIn K mainGlobals "abs"=some none)
 (z2:PySem.W.nsIn K mainGlobals "min"=some none)
 (z3:PySem.W.nsIn K mainGlobals "max"=some none)
 (z4:PySem.W.nsIn K mainGlobals "int"=some none)
 (z5:PySem.W.nsIn K mainGlobals "list"=some none)
 (z6:PySem.W.nsIn K mainGlobals "tuple"=some none)
 (z7:PySem.W.nsIn K mainGlobals "all"=some none)
 (z8:PySem.W.nsIn K mainGlobals "any"=some none)
 (z9:PySem.W.nsIn K mainGlobals "sorted"=some none)
 (z10:PySem.W.nsIn K mainGlobals "isinstance"=some none)
 (z11:PySem.W.nsIn K mainGlobals "str"=some none)
 (z12:PySem.W.nsIn K mainGlobals "range"=some none)
 (z13:PySem.W.nsIn K mainGlobals "enumerate"=some none)
 (z14:PySem.W.nsIn K mainGlobals "zip"=some none)
 (z15:PySem.W.nsIn K mainGlobals "set"=some none)
 (z16:PySem.W.nsIn K mainGlobals "bool"=some none)
 (z17:PySem.W.nsIn K mainGlobals "dict"=some none)
 : ∃ fd:FuncData,(∀(s:Shared) (v:Value),BindsTo s fd ⟨[v],[]⟩ [("_law_script",v)])/\∀ base:Heap,K.In base->base.Ns mainGlobals mg->FnOk l.prog w K mg base CX0 10 fa fd ["_law_script"] (spS K (W prog 10 20)):=by
 have y:=x20;obtain⟨f20,od20,an20,sl20,oc20,kV20,dc20,pm20,cd20,ct20,a20,l20,c20,k20⟩:=x20;have e:=hfa.symm.trans (PySem.W.mg_of X G a20);cases e
 have B:Bl mg:=by
  refine⟨fun b=>?_,TJ X G z12,TJ X G z13,TJ X G z14,TJ X G z15,TJ X G z17,fun t ht=>?_⟩
  ·cases b with
   | len=>exact TJ X G z0
   | abs=>exact TJ X G z1
   | min=>exact TJ X G z2
   | max=>exact TJ X G z3
   | int=>exact TJ X G z4
   | list=>exact TJ X G z5
   | tuple=>exact TJ X G z6
   | all=>exact TJ X G z7
   | any=>exact TJ X G z8
   | sorted=>exact TJ X G z9
   | isi=>exact TJ X G z10
   | str=>exact TJ X G z11
  ·cases t with
   | int=>exact TJ X G z4
   | bool=>exact TJ X G z16
   | str=>exact TJ X G z11
   | list=>exact TJ X G z5
   | tuple=>exact TJ X G z6
   | none=>exact absurd rfl ht
 have hin:∀ D∈prog,PIn K mg D:=y0 (m6 X G d0 x0 rfl fun _ _ _ _ _ _=>Lq fun _=>rfl) (y0 (m6 X G d1 x1 rfl fun _ _ _ _ _ _=>Cs fun _ _=>rfl) (y0 (m6 X G d2 x2 rfl fun _ _ _ _ _ _=>Cs fun _ _=>rfl) (y0 (m6 X G d3 x3 rfl fun _ _ _ _ _ _=>Cs fun _ _=>rfl) (y0 (m6 X G d4 x4 rfl fun _ _ _ _ _ _=>Cs fun _ _=>rfl) (y0 (m6 X G d5 x5 rfl fun _ _ _ _ _ _=>Cs fun _ _=>rfl) (y0 (m6 X G d6 x6 rfl fun _ _ _ _ _ _=>QL fun _ _ _=>rfl) (y0 (m6 X G d7 x7 rfl fun _ _ _ _ _ _=>Sf fun _ _ _ _=>rfl) (y0 (m6 X G d8 x8 rfl fun _ _ _ _ _ _=>QL fun _ _ _=>rfl) (y0 (m6 X G d9 x9 rfl fun _ _ _ _ _ _=>QL fun _ _ _=>rfl) (y0 (m6 X G d10 x10 rfl fun _ _ _ _ _ _=>Lq fun _=>rfl) (y0 (m6 X G d11 x11 rfl fun _ _ _ _ _ _=>Lq fun _=>rfl) (y0 (m6 X G d12 x12 rfl fun _ _ _ _ _ _=>Cs fun _ _=>rfl) (y0 (m6 X G d13 x13 rfl fun _ _ _ _ _ _=>Lq fun _=>rfl) (y0 (m6 X G d14 x14 rfl fun _ _ _ _ _ _=>Cs fun _ _=>rfl) (y0 (m6 X G d15 x15 rfl fun _ _ _ _ _ _=>Cs fun _ _=>rfl) (y0 (m6 X G d16 x16 rfl fun _ _ _ _ _ _=>Cs fun _ _=>rfl) (y0 (m6 X G d17 x17 rfl fun _ _ _ _ _ _=>Cs fun _ _=>rfl) (y0 (m6 X G d18 x18 rfl fun _ _ _ _ _ _=>Cs fun _ _=>rfl) (y0 (m6 X G d19 x19 rfl fun _ _ _ _ _ _=>Cs fun _ _=>rfl) (y0 (m6 X G d20 y rfl fun _ _ _ _ _ _=>Lq fun _=>rfl) (fun _ h=>nomatch h)))))))))))))))))))));refine⟨PySem.W.fnOf "law" "law" (defArgs (top 31)) (defBody (top 31)) (defScope (top 31)) .none kV20 dc20 pm20 an20 cd20 ct20,fun s v => .of_eq rfl,fun base _ _=>?_⟩
 exact Lw (P:=l.prog) (w:=w) (base:=base) (k:=9) (Δ:=W prog 9) (D:=d20) (GO (st:=top 31) l20 c20 k20) (TK.mp G9 d20 (Sm (show prog[20]?=some d20 from rfl))) B (fun g x hx=>by
  rw[TB]at hx;cases hg:prog[g]? with
  | none=>rw[hg]at hx;cases hx
  | some D'=>
    rw[hg]at hx;have:D'.name=x:=by simpa using hx
    subst this;exact⟨D'.ps,IM G9 B hin 9 g D' hg⟩) (DS 9)
theorem walkL{l:PySem.W.OpenLaw}{q:Program}{loose:List Str}{XP:(Str->Option Value)->Heap->Prop}{YP:World->Heap->Prop}{d:DefRec}{K:Params->Sh}(hn:l.most=some 63)(hdf:d.params.defaults=[])
 (hY:∀(w:World) (h:Heap),YP w h->(K w.params).In h)
 (F:∀(w:World) (mg:Str->Option Value) (fa:Addr) (h:Heap),(K w.params).In h->h.Ns mainGlobals mg->mg d.name=some (.ref fa)->
   ∃ fd:FuncData,(∀(s:Shared) (u:Value),BindsTo s fd ⟨[u],[]⟩ [("_law_script",u)])/\∀ base:Heap,(K w.params).In base->base.Ns mainGlobals mg->FnOk l.prog w (K w.params) mg base CX0 10 fa fd ["_law_script"] (spS (K w.params) (W prog 10 20))):
 PySem.W.WalkO q loose XP YP l.row.toRowW d [] (fun f vs=>PySem.call f vs):=
 L2.walk_of (n:=63) (k:=10) (x:="_law_script") (CX:=fun _=>CX0) (sp:=fun w=>spS (K w.params) (W prog 10 20)) hn (by decide) hdf ⟨rfl,by decide,by decide,rfl⟩ hY F (fun _ _ a ns hl hO hS=>QN (law_main ns hl) hO hS) fun _ _ _ _ _ z=>z
end Hue
open PySem PySem.W PyProof.Rows
set_option maxRecDepth 100000 in
set_option maxHeartbeats 0 in
theorem PySem.Challenge.cw_huedties_k29_halves_holds : PySem.Challenge.rw_huedties_k29_halves.Holds := by
 w_on;o_law;k_head;(case hw=>w_witness2)
 k_fill
 refine Hue.walkL (l:=PySem.Challenge.rw_huedties_k29_halves) rfl rfl (fun w h Y=>PySem.W.kIn_of Y) ?F
 case F=>
  intro w mg fa h KX G hmg;refine' Hue.all_mk KX G hmg ?_ ?_ ?_ ?_ ?_ ?_ ?_ ?_ ?_ ?_ ?_ ?_ ?_ ?_ ?_ ?_ ?_ ?_ ?_ ?_ ?_ ?_ ?_ ?_ ?_ ?_ ?_ ?_ ?_ ?_ ?_ ?_ ?_ ?_ ?_ ?_ ?_ ?_ ?_
  all_goals first | exact Hue.lnkK_mk (by k_is) (by k_is) (by k_is) (by k_is) | k_is
#print axioms PySem.Challenge.cw_huedties_k29_halves_holds
