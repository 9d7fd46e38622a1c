import PyProof.Rows.All
import Wide.All
import OpenK.AllK
import Wide.FinOn
import Lean
import PyProof.EqAt
import PyProof.EqKinds
import PyProof.TupleCall
import PyProof.EnumMake
import PyProof.Draws
import PyProof.ZipIter
import PyProof.ConsumeWalk
import PyProof.NeKinds
import PyProof.ListRange
import PyProof.ReprRoads
import PyProof.ReprBulk
import PyProof.CallStr
import PyProof.Rows.SeqMore
import KE.KMinBuiltin
import PyProof.MinMaxWalk
import PyProof.DictRoadsH
import PyProof.Rows.SortShell
import PyProof.Rows.SetFrom
import PyProof.SetRoads
import PyProof.SumWalkG
import PyProof.Rows.SortShellK
import PyProof.Rows.SortWalk
import PyProof.WalksMore
import PyProof.FactsAll.subtypes_4
import PyProof.SetNew
import PyProof.Rows.SetObj
import KE.KRevSl
import PyProof.AutoSeq1
import PyProof.WalkInts
import PyProof.StationsW
import PyProof.ExcClass3
import KE.KDictOf
import PyProof.AttrMissHeap
import PyProof.DictCompW
import PyProof.FitsInt
import PySem.Challenge.RW_huedties_k31_hued_by_pairings
set_option Elab.async false
set_option linter.all false
set_option maxRecDepth 100000
open PySem.W renaming Frag→Vy,mg_none_of→WX
open Bool renaming and_eq_true→Vz,false_ne_true→WF,not_eq_true'→Wi,false_eq_true→X6,or_eq_true→XC,eq_iff_iff→XU,and_eq_true_iff→Y9,and_false→Yy,false_or→ZV,or_false→ZW,true_and→ZX
open List renaming getElem?_eq_getElem→W0,length_map→W2,length_append→W3,mem_of_getElem?→W5,mem_singleton→W6,size_toArray→W7,mem_cons_of_mem→W9,replicate→WC,getElem?_append_left→WD,getElem?_map→WG,mem_append→WJ,mem_cons_self→WK,mem_cons→WN,range→WP,mem_append_left→WQ,length_set→WU,append_assoc→WV,getElem?_of_mem→WW,length_take→WY,mem_map→WZ,all_eq_true→Wa,getElem?_concat_length→Wc,mem_append_right→Wd,length_singleton→We,getElem?_set_self→Wg,getElem?_append_right→Wh,getD_eq_getElem?_getD→Wk,map_cons→Wl,map_append→Wn,getElem?_set_ne→Wp,prefix_refl→Wq,replicate_succ→Wr,take_succ→Ws,pairwise_iff_getElem→Wt,take_length→Wu,length_drop→Wy,length_cons→Wz,getElem_mem→X0,mem_filter→X4,mem_range→X5,drop_eq_getElem_cons→X8,flatten_cons→XE,append_nil→XF,nodup_cons→XG,isEmpty_iff→XH,take_append_drop→XI,getElem?_eq_none→XJ,getElem?_replicate→XM,countP_cons→XO,getElem?_take_of_lt→XR,all_cons→XS,prefix_append→XW,lookup_cons→XX,drop_length→XY,take_of_length_le→Xb,map_map→Xc,nodup_append→Xd,length_replicate→Xf,getElem?_drop→Xg,mem_iff_getElem→Xh,mem_of_mem_take→Xi,take_append_of_le_length→Xj,length_range→Xm,find?_cons→Xn,getElem?_range→Xo,any_cons→Xp,getD→Xr,any_eq_true→Xs,pairwise_cons→Xt,perm_append_comm→Xu,length_filter_le→Xv,of_mem_zip→Xw,reverse_cons→Xy,pairwise_map→Y0,length→Y1,length_nil→Y3,countP_le_length→Y5,mem_of_mem_drop→Y8,sum_cons→YA,filter_append→YE,pairwise_singleton→YF,drop_zero→YG,pairwise_lt_range→YH,ext_getElem?→YI,eraseIdxIfInBounds_toArray→YJ,filter_cons→YL,getElem_map→YM,eq_nil_of_length_eq_zero→YO,dropLast_concat→YQ,head?_drop→YR,range_succ→YS,countP_nil→YT,filterMap_cons→YU,map_congr_left→YV,countP_pos_iff→YW,mem_filterMap→Ya,getElem?_take→Yc,length_eraseIdx_of_lt→Yd,tail_drop→Ye,countP_append→Yf,filterMap_cons_some→Yg,length_erase_of_mem→Yh,length_filterMap_le→Yi,length_eq_zero_iff→Yn,mem_flatMap→Yo,drop_eq_nil_of_le→Yp,find?_cons_of_pos→Yr,find?_cons_of_neg→Ys,length_pos_of_mem→Yt,mem_iff_getElem?→Yu,dropLast_eq_take→Yv,getElem?_zipWith→Yw,countP_mono_left→Yx,lookup→Yz,pairwise_append→Z0,nodup_nil→Z2,take_left→Z3,length_reverse→Z4,reverse_append→Z5,flatten_append→Z6,map_take→Z7,mem_replicate→ZA,countP_filter→ZB,take_sublist→ZC,map_nil→ZE,getElem_drop→ZG,any_map→ZJ,all_map→ZK,foldl_append→ZL,not_mem_nil→ZN,countP→ZP,foldl_cons→ZQ,foldl→ZS,take_zero→ZT,map_id''→ZY,map_drop→ZZ,map_set→Zf,filter→Zi,set→Zj
open PySem.Heap renaming get?_push_of_some→W8,lt_size→WH,get?_push_size→WL,SameBut→Wv,get?_update_self→Ww,get?_update_other→Wx,size_push→XD,size_update→Yk,ExtBut→ZO,IsSliceOf→ZR,update→Zg,DictOf→Zh
open Nat renaming le_refl→WB,ne_of_lt→WR,le_trans→Wj,lt_of_lt_of_le→Wo,zero_le→XQ,le_of_lt→XT,zero_add→XV,lt_irrefl→XZ,lt_succ_of_lt→Xk,not_lt_zero→Y4,le_succ→Y7,pos_of_ne_zero→YC,lt_succ_self→YK,lt_or_ge→YY,lt_of_le_of_lt→Yb,not_lt_of_gt→Yl,sub_zero→Yq,succ_mul→ZD,lt_trans→ZF,lt_trichotomy→ZH,lt_of_succ_le→ZI,le_add_right→ZM,ne_of_gt→Zb,le_of_eq→Zd,add_zero→Ze,mod_lt→Zk
open Array renaming length_toList→WM,toList_append→X7,getElem?_toList→XA,toList_push→Xl,toList_reverse→YN,getElem_toList→Z1,getD→ZU,toList→Za
open Option renaming isSome_iff_exists→X9,isNone_iff_eq_none→Xe,isSome→Xq,map_some→Xx,isSome_map→Y6,getD_none→Yj,bind_some→Ym,isSome_some→Z8
open Int renaming le_trans→XB,le_of_lt→XL,natCast_inj→XN,toNat_natCast→Xa,le_refl→Xz,emod_lt_of_pos→Y2,emod_nonneg→YB,natCast_nonneg→YD,toNat_of_nonneg→YX,zero_add→YZ,not_lt→Z9
abbrev EE:=List (Nat×Nat)
theorem gM{α:Type}{l:List α}{i:Nat}{a:α}(h:l[i]?=some a):∃h:i<l.length,l[i]=a:=List.getElem?_eq_some_iff.mp h
theorem oj{α:Type}{a b:α}(h:some a=some b):a=b:=Option.some.inj h
namespace L2
open PySem PySem.Spec PyProof.Rows
noncomputable abbrev Key:=Sum Int Str
noncomputable def CI:Key->Value->Bool
 | .inl k,v=>Value.isInt k v
 | .inr x,v=>Value.isStrOf x v
noncomputable def Vc(w:World):Key->Int
 | .inl k=>hashInt k
 | .inr x=>hashStr w x
theorem m4:∀{k:Key} {v:Value},CI k v=true->(∃ i t,k=Sum.inl i/\v=Value.int i t)\/(∃ x t,k=Sum.inr x/\v=Value.str x t)
 | .inl i,v,h=>by
   obtain⟨t,e⟩:=Value.isInt_shape (k:=i) (v:=v) h;exact .inl ⟨i,t,rfl,e⟩
 | .inr x,v,h=>by
   obtain⟨t,e⟩:=Value.isStrOf_shape (x:=x) (v:=v) h;exact .inr ⟨x,t,rfl,e⟩
theorem KC(i:Int)(t:Tok):CI (.inl i) (.int i t)=true:=by simp[CI,Value.isInt]
theorem KD(x:Str)(t:Tok):CI (.inr x) (.str x t)=true:=by simp[CI,Value.isStrOf]
theorem Ro(a b:Int):decide ((Sum.inl a:Key)=Sum.inl b)=(a == b):=by
 by_cases e:a=b
 ·subst e;simp
 ·have h:¬ (Sum.inl a:Key)=Sum.inl b:=fun q=>e (Sum.inl.inj q);rw[decide_eq_false h];exact(beq_eq_false_iff_ne.mpr e).symm
theorem Rp(a b:Str):decide ((Sum.inr a:Key)=Sum.inr b)=decide (a=b):=by
 by_cases e:a=b
 ·subst e;simp
 ·have h:¬ (Sum.inr a:Key)=Sum.inr b:=fun q=>e (Sum.inr.inj q);rw[decide_eq_false h,decide_eq_false e]
theorem Rq(a:Int)(b:Str):decide ((Sum.inl a:Key)=Sum.inr b)=false:=decide_eq_false (fun q=>nomatch q)
theorem Rr(a:Str)(b:Int):decide ((Sum.inr a:Key)=Sum.inl b)=false:=decide_eq_false (fun q=>nomatch q)
noncomputable def j4(prog:Program)(w:World):PySem.KeyKind prog w Key where
 is:=CI
 hash:=Vc w
 inj:=fun v a b ha hb=>by
  rcases m4 ha with⟨i,t,rfl,rfl⟩ | ⟨x,t,rfl,rfl⟩
  ·rcases m4 hb with⟨j,u,rfl,e⟩ | ⟨y,u,rfl,e⟩
   ·injection e with e1 _;rw[e1]
   ·exact nomatch e
  ·rcases m4 hb with⟨j,u,rfl,e⟩ | ⟨y,u,rfl,e⟩
   ·exact nomatch e
   ·injection e with e1 _;rw[e1]
 byValue:=fun k v h=>by
   rcases m4 h with⟨i,t,rfl,rfl⟩ | ⟨x,t,rfl,rfl⟩<;>rfl
 pyHash:=fun hv h=>by
  rcases m4 hv with⟨i,t,rfl,rfl⟩ | ⟨x,t,rfl,rfl⟩
  ·exact wpAny_pyHash_int h
  ·exact wpAny_pyHash_str h
 eqBool:=fun hu hv h=>by
  rcases m4 hu with⟨i,t,rfl,rfl⟩ | ⟨x,t,rfl,rfl⟩
  ·rcases m4 hv with⟨j,u,rfl,rfl⟩ | ⟨y,u,rfl,rfl⟩
   ·rw[Ro]at h;exact wpAny_eqBool_int h
   ·rw[Rq]at h;exact SeqAt.EqAt.int_str i t y u _ _ _ _ h
  ·rcases m4 hv with⟨j,u,rfl,rfl⟩ | ⟨y,u,rfl,rfl⟩
   ·rw[Rr]at h;exact SeqAt.EqAt.str_int x t j u _ _ _ _ h
   ·rw[Rp]at h;exact wpAny_eqBool_str h
 «strs»:=fun k x t v h=>by
  rcases m4 h with⟨i,u,rfl,e⟩ | ⟨y,u,rfl,e⟩
  ·exact nomatch e
  ·injection e with e1 _;subst e1;cases v<;>rfl
theorem He(prog:Program)(w:World)(k:Key)(v:Value):(j4 prog w).is k v=CI k v:=rfl
theorem Fq(prog:Program)(w:World)(i:Int)(t:Tok):(j4 prog w).is (.inl i) (.int i t)=true:=KC i t
theorem Fs(prog:Program)(w:World)(x:Str)(t:Tok):(j4 prog w).is (.inr x) (.str x t)=true:=KD x t
open PySem PySem.Spec PyProof.Rows
inductive V where
 | non | bl (b:Bool) | int (i:Int) | str (x:Str) | byt (b:Array UInt8) | flt (b:UInt64) | ref (a:Addr) | ty (n:String)
 deriving DecidableEq
noncomputable def RelV:V->Value->Prop
 | .non,u=>u=Value.none
 | .bl b,u=>u=Value.bool b
 | .int i,u=>∃ t,u=Value.int i t
 | .str x,u=>∃ t,u=Value.str x t
 | .byt b,u=>∃ t,u=Value.bytes b t
 | .flt b,u=>∃ t,u=Value.float b t
 | .ref a,u=>u=Value.ref a
 | .ty n,u=>u=Value.type n
noncomputable abbrev Vals:List V->List Value->Prop:=Paired RelV
theorem Vals.length{xs:List V}{us:List Value}(r:Vals xs us):xs.length=us.length:=Paired.length r
theorem Vals.get:∀{xs:List V} {us:List Value} {i:Nat} {x:V},Vals xs us->xs[i]?=some x->∃ u,us[i]?=some u/\RelV x u
 | _,_,_,_,.nil,e=>by simp at e
 | _,_,0,_,.cons r _,e=>by simp at e;subst e;exact⟨_,rfl,r⟩
 | _,_,i+1,x,.cons _ t,e=>by
   obtain⟨u,h1,h2⟩:=Vals.get (i:=i) (x:=x) t (by simpa using e);exact⟨u,by simpa using h1,h2⟩
theorem Vals.set{x:V}{u:Value}(r:RelV x u):∀{xs:List V} {us:List Value} (i:Nat),Vals xs us->Vals (xs.set i x) (us.set i u)
 | _,_,_,.nil => .nil
 | _,_,0,.cons _ t => .cons r t
 | _,_,i+1,.cons q t => .cons q (Vals.set r i t)
theorem Vals.append:∀{xs ys:List V} {us ws:List Value},Vals xs us->Vals ys ws->Vals (xs++ys) (us++ws)
 | _,_,_,_,.nil,s=>s
 | _,_,_,_,.cons r t,s => .cons r (Vals.append t s)
theorem Vals.take:∀{xs:List V} {us:List Value} (n:Nat),Vals xs us->Vals (xs.take n) (us.take n)
 | _,_,0,_ => .nil
 | _,_,_+1,.nil => .nil
 | _,_,n+1,.cons r t => .cons r (Vals.take n t)
theorem Vals.drop:∀{xs:List V} {us:List Value} (n:Nat),Vals xs us->Vals (xs.drop n) (us.drop n)
 | _,_,0,r=>r
 | _,_,_+1,.nil => .nil
 | _,_,n+1,.cons _ t=>Vals.drop n t
noncomputable def RelO:Option V->Option Value->Prop
 | some v,some u=>RelV v u
 | none,none=>True
 | _,_=>False
noncomputable def KV{κ:Type}:List (κ×V)->List (κ×Value)->Prop:=Paired fun(p:κ×V) (q:κ×Value)=>p.1=q.1/\RelV p.2 q.2
noncomputable def kV:Key->V
 | .inl i => .int i
 | .inr x => .str x
inductive HO where
 /-- a list -/
 | lst (xs:List V)
 /-- a tuple (never changes) -/
 | tup (xs:List V)
 /-- a dict whose keys are ints and texts;one whose keys are tuples of ints and texts (the empty one is both) -/
 | dK (kvs:List (Key×V)) | dT (kvs:List (List Key×V))
 /-- a set of ints: its members,its size -/
 | set (S:Int->Bool) (n:Nat)
 /-- an instance of the class at C,its dict at dx,its attributes -/
 | ins (C dx:Addr) (fs:List (Str×V))
 /-- the dict of the instance at x -/
 | own (x:Addr)
 /-- the dict of an exception -/
 | xd (fs:List (Str×V))
 /-- a bound method,f of x -/
 | met (f x:Addr)
 /-- a range object lo,lo+1,.. below hi -/
 | rng (lo hi:Int)
 /-- a thing that is known to the object (the script;a dict while a loop walks it): read,never written while it is so -/
 | frz (o:Obj) (u:HO)
 /-- a code object's table -/
 | tbl (ps:Array Value)
 /-- any other thing,by what is true of its one object (a def of one's own: SetO a S n:=HO.ext fun h => ..) -/
 | ext (φ:Heap->Prop)
noncomputable abbrev Hp:=Addr->Option HO
noncomputable def upd(H:Hp)(a:Addr)(o:HO):Hp:=fun b=>if b=a then some o else H b
theorem f6{H:Hp}{a:Addr}{o:HO}:upd H a o a=some o:=by unfold upd;rw[if_pos rfl]
theorem upd_ne{H:Hp}{a b:Addr}{o:HO}(h:b≠a):upd H a o b=H b:=by unfold upd;rw[if_neg h]
theorem Qt{H:Hp}{a b:Addr}{o u:HO}(h:H a=some o)(h':H b=some u)(d:o≠u):a≠b:=by
 intro e;subst e;rw[h]at h';exact d (oj h')
theorem e8{H:Hp}{a b:Addr}{o:HO}(h:H a=some o)(h':H b=none):a≠b:=by
 intro e;subst e;rw[h]at h';cases h'
section
variable(P:Program)(w:World)
noncomputable def ObjOk(H:Hp)(h:Heap)(a:Addr):HO->Prop
 | .lst xs=>xs.length<=sizeLine/\∃(its:List Value) (n:Nat),Vals xs its/\h.get? a=some {cls := .type "list",data := .seq its.toArray n}
 | .tup xs=>xs.length<=sizeLine/\∃ its:List Value,Vals xs its/\IsTup h a its.toArray
 | .dK kvs=>kvs.length<=sizeLine/\(a == sysModules)=false/\∃ vs,KV kvs vs/\h.DictOf (j4 P w) a vs
 | .dT kvs=>kvs.length<=sizeLine/\(a == sysModules)=false/\∃ xs:List (List Key×Addr×Value),
    Paired (fun(p:List Key×V) (q:List Key×Addr×Value)=>p.1=q.1/\H q.2.1=some (.tup (p.1.map kV))/\RelV p.2 q.2.2) kvs xs/\
    ∃ o es ep,h.get? a=some o/\o.ExactDict/\o.data = .dict es ep/\es.toList=xs.map (entryOfKey (tupleKind (j4 P w)))/\(xs.map (·.1)).Nodup
 | .set S n=>h.SetOf (intKind P w) a S n
 | .ins C dx fs=>H dx=some (.own a)/\fs.length<=1000/\dx≠a/\h.get? a=some (PySem.W.instObj C dx)/\
    ∃ mA,h.Ns1 dx mA/\(∀ f,RelO (fs.lookup f) (mA f))/\PySem.Within mA (fs.map (·.1))
 | .own _=>∃ o,h.get? a=some o
 | .xd fs=>∃ mA,h.Ns1 a mA/\∀ f,RelO (fs.lookup f) (mA f)
 | .rng lo hi=>∃ t u v,h.get? a=some {cls := .type "range",data := .fields #[.int lo t,.int hi u,.int 1 v]}
 | .frz o u=>h.get? a=some o/\ObjOk H h a u
 | .tbl ps=>h.get? a=some {cls := .none,data := .fields ps}
 | .met f x=>h.get? a=some (PySem.W.methodObj (.ref f) (.ref x))
 | .ext φ=>φ h/\(∃ o,h.get? a=some o)/\∀ h1 h2:Heap,φ h1->(∀ o,h1.get? a=some o->h2.get? a=some o)->φ h2
noncomputable def HOk(H:Hp)(h:Heap):Prop:=∀ a o,H a=some o->ObjOk P w H h a o
end
section
variable{P:Program}{w:World}{H H':Hp}{h h':Heap}{a:Addr}{o:HO}
theorem ObjOk.lt(x:ObjOk P w H h a o):a<h.objs.size:=by
 cases o with
 | lst xs=>obtain⟨_,_,_,_,e⟩:=x;exact WH e
 | tup xs=>obtain⟨_,_,_,p⟩:=x;exact p.lt
 | dK kvs=>obtain⟨_,_,_,_,o,_,_,e,_⟩:=x;exact WH e
 | dT kvs=>obtain⟨_,_,_,_,o,_,_,e,_⟩:=x;exact WH e
 | set S n=>obtain⟨o,_,_,_,e,_⟩:=x;exact WH e
 | ins C dx fs=>obtain⟨_,_,_,e,_⟩:=x;exact WH e
 | own y=>obtain⟨_,e⟩:=x;exact WH e
 | xd fs=>obtain⟨_,⟨_,_,_,e,_⟩,_⟩:=x;exact WH e
 | rng lo hi=>obtain⟨_,_,_,e⟩:=x;exact WH e
 | frz ob u=>obtain⟨e,_⟩:=x;exact WH e
 | tbl ps=>exact WH (show h.get? a=some _ from x)
 | met f y=>exact WH (show h.get? a=some _ from x)
 | ext φ=>obtain⟨_,⟨_,e⟩,_⟩:=x;exact WH e
theorem Paired.mapP{α β:Type}{F G:α->β->Prop}:∀{l₁:List α} {l₂:List β},Paired F l₁ l₂->(∀ a b,F a b->G a b)->Paired G l₁ l₂
 | _,_,.nil,_ => .nil
 | _,_,.cons r t,f => .cons (f _ _ r) (Paired.mapP t f)
theorem ObjOk.stay(x:ObjOk P w H h a o)(k:∀ b u,(b=a\/H b=some (.own a))->h.get? b=some u->h'.get? b=some u)
 (ho:∀ b,H b=some (.own a)->H' b=some (.own a)) (ht:∀ b xs,H b=some (.tup xs)->H' b=some (.tup xs)):ObjOk P w H' h' a o:=by
 induction o with
 | lst xs=>obtain⟨z,its,n,r,e⟩:=x;exact⟨z,its,n,r,k _ _ (.inl rfl) e⟩
 | tup xs=>obtain⟨z,its,r,ob,e,c⟩:=x;exact⟨z,its,r,ob,k _ _ (.inl rfl) e,c⟩
 | dK kvs=>obtain⟨z,y,vs,r,ob,es,ep,e,c⟩:=x;exact⟨z,y,vs,r,ob,es,ep,k _ _ (.inl rfl) e,c⟩
 | dT kvs=>
   obtain⟨z,y,xs,r,ob,es,ep,e,c⟩:=x;exact⟨z,y,xs,Paired.mapP r fun p q z=>⟨z.1,ht _ _ z.2.1,z.2.2⟩,ob,es,ep,k _ _ (.inl rfl) e,c⟩
 | set S n=>obtain⟨ob,es,ep,t,e,c⟩:=x;exact⟨ob,es,ep,t,k _ _ (.inl rfl) e,c⟩
 | ins C dx fs=>
   obtain⟨d,z,ne,e,mA,⟨od,es,ep,e2,c⟩,r⟩:=x;exact⟨ho _ d,z,ne,k _ _ (.inl rfl) e,mA,⟨od,es,ep,k _ _ (.inr d) e2,c⟩,r⟩
 | own y=>obtain⟨ob,e⟩:=x;exact⟨ob,k _ _ (.inl rfl) e⟩
 | xd fs=>obtain⟨mA,⟨od,es,ep,e,c⟩,r⟩:=x;exact⟨mA,⟨od,es,ep,k _ _ (.inl rfl) e,c⟩,r⟩
 | rng lo hi=>obtain⟨t,u,v,e⟩:=x;exact⟨t,u,v,k _ _ (.inl rfl) e⟩
 | frz ob u ih=>obtain⟨e,q⟩:=x;exact⟨k _ _ (.inl rfl) e,ih q⟩
 | tbl ps=>
   have e:h.get? a=some {cls := .none,data := .fields ps}:=x;show h'.get? a=some {cls := .none,data := .fields ps};exact k a _ (.inl rfl) e
 | met f y=>
   have e:h.get? a=some (PySem.W.methodObj (.ref f) (.ref y)):=x;show h'.get? a=some (PySem.W.methodObj (.ref f) (.ref y));exact k a _ (.inl rfl) e
 | ext φ=>obtain⟨p,⟨o,e⟩,st⟩:=x;exact⟨st _ _ p fun o q=>k _ _ (.inl rfl) q,⟨o,k _ _ (.inl rfl) e⟩,st⟩
theorem HOk.lt(x:HOk P w H h)(e:H a=some o):a<h.objs.size:=(x a o e).lt
theorem HOk.fresh(x:HOk P w H h)(e:h.objs.size<=a):H a=none:=by
 cases q:H a with
 | none=>rfl
 | some u=>exact absurd (Wo (x.lt q) e) (XZ _)
theorem HOk.kept(x:HOk P w H h)(k:∀ b u,h.get? b=some u->h'.get? b=some u):HOk P w H h':=fun a o e=>
 (x a o e).stay (fun b u _ q=>k b u q) (fun _ q=>q) fun _ _ q=>q
theorem HOk.laid(x:HOk P w H h)(k:∀ b u,h.get? b=some u->h'.get? b=some u)(hp:h.objs.size<=a)(new:ObjOk P w (upd H a o) h' a o):HOk P w (upd H a o) h':=fun b u e=>by
 have hn:=x.fresh hp;by_cases hb:b=a
 ·subst hb;rw[f6]at e;cases e;exact new
 ·rw[upd_ne hb]at e;exact(x b u e).stay (fun c v _ q=>k c v q) (fun c q=>by rw[upd_ne (e8 q hn)];exact q) fun c xs q=>by rw[upd_ne (e8 q hn)];exact q
end
noncomputable def Rd(H:Hp)(a:Addr)(u:HO):Prop:=H a=some u\/∃ o,H a=some (.frz o u)
theorem Rd.ok{P:Program}{w:World}{H:Hp}{h:Heap}{a:Addr}{u:HO}(r:Rd H a u)(x:HOk P w H h):ObjOk P w H h a u:=by
 rcases r with r | ⟨o,r⟩
 ·exact x a u r
 ·obtain⟨_,q⟩:=x a _ r;exact q
noncomputable def Mut:Option HO->Prop
 | some (.lst _)=>True
 | some (.dK _)=>True
 | some (.dT _)=>True
 | some (.set _ _)=>True
 | some (.ins _ _ _)=>True
 | some (.ext _)=>True
 | _=>False
section
variable{P:Program}{w:World}{H:Hp}{h h':Heap}{x e:Addr}{o':HO}
theorem HOk.write(ok:HOk P w H h)(mu:Mut (H x))(he:e=x\/H e=some (.own x))(k:∀ b u,b≠e->h.get? b=some u->h'.get? b=some u)(heo:∃ u,h'.get? e=some u)
 (new:ObjOk P w (upd H x o') h' x o'):HOk P w (upd H x o') h':=fun b u q=>by
 have nown:∀ c y,H c=some (.own y)->c≠x:=fun c y r z=>by subst z;rw[r]at mu;exact mu
 have ntup:∀ c xs,H c=some (.tup xs)->c≠x:=fun c xs r z=>by subst z;rw[r]at mu;exact mu
 by_cases hb:b=x
 ·subst hb;rw[f6]at q;cases q;exact new
 ·rw[upd_ne hb]at q;by_cases hbe:b=e
  ·have q':H b=some (.own x):=by
    rcases he with z | z
    ·exact absurd (hbe.trans z) hb
    ·rw[hbe];exact z
   rw[q]at q';cases q';obtain⟨v,hv⟩:=heo;exact⟨v,by rw[hbe];exact hv⟩
  ·refine(ok b u q).stay (fun c v hc r=>k c v ?_ r) (fun c r=>by rw[upd_ne (nown c b r)];exact r) fun c xs r=>by rw[upd_ne (ntup c xs r)];exact r
   rcases hc with rfl | hc
   ·exact hbe
   ·rintro rfl;rcases he with z | z
    ·exact nown c b hc z
    ·rw[hc]at z;cases z;exact hb rfl
end
structure Un(fs ex:List Addr)(H H':Hp)(h h':Heap):Prop where
 keep:∀ b o,h.get? b=some o->H b=none->b∉fs->b∉ex->h'.get? b=some o
 slot:∀ b o,h.get? b=some o->H b=none->b∈fs->b∉ex->∃ sl,h'.get? b=some {o with slots:=sl}
 free:∀ b o,h.get? b=some o->H b=none->b∉ex->H' b=none
 there:∀ b o,h.get? b=some o->b∉ex->∃ o',h'.get? b=some o'
 tups:∀ b xs,H b=some (.tup xs)->H' b=some (.tup xs)
 frzs:∀ b o u,H b=some (.frz o (.lst u))->H' b=some (.frz o (.lst u))
 tbls:∀ b ps,H b=some (.tbl ps)->∃ more,H' b=some (.tbl (ps++more))
section
variable{fs fs' ex ex':List Addr}{H H1 H2:Hp}{h h1 h2 h':Heap}{a x e:Addr}{o:HO}
theorem Un.any(u:Un fs ex H H1 h h1){b:Addr}{ob:Obj}(q:h.get? b=some ob)(n:H b=none)(hx:b∉ex):∃ sl,h1.get? b=some {ob with slots:=sl}:=by
 by_cases hb:b∈fs
 ·exact u.slot b ob q n hb hx
 ·exact⟨ob.slots,u.keep b ob q n hb hx⟩
theorem Un.kept(k:∀ b u,h.get? b=some u->h'.get? b=some u):Un fs ex H H h h':=
 ⟨fun b ob q _ _ _=>k b ob q,fun b ob q _ _ _=>⟨ob.slots,k b ob q⟩,fun _ _ _ n _=>n,fun b ob q _=>⟨ob,k b ob q⟩,fun _ _ q=>q,fun _ _ _ q=>q,fun _ ps q=>⟨#[],by rw[q];simp⟩⟩
theorem Un.refl:Un fs ex H H h h:=Un.kept fun _ _ q=>q
theorem Un.laid(k:∀ b u,h.get? b=some u->h'.get? b=some u)(hp:h.objs.size<=a)(hn:H a=none):Un fs ex H (upd H a o) h h' where
 keep:=fun b u q _ _ _=>k b u q
 slot:=fun b u q _ _ _=>⟨u.slots,k b u q⟩
 free:=fun b u q n _=>by rw[upd_ne (WR (Wo (WH q) hp))];exact n
 there:=fun b u q _=>⟨u,k b u q⟩
 tups:=fun b xs q=>by rw[upd_ne (e8 q hn)];exact q
 frzs:=fun b u xs q=>by rw[upd_ne (e8 q hn)];exact q
 tbls:=fun b ps q=>⟨#[],by rw[upd_ne (e8 q hn),q];simp⟩
theorem Un.write(mu:Mut (H x))(he:e=x\/H e=some (.own x))(k:∀ b u,b≠e->h.get? b=some u->h'.get? b=some u)(heo:∃ u,h'.get? e=some u):Un fs ex H (upd H x o) h h':=by
 have hx:∀ b,H b=none->b≠x:=fun b n z=>by subst z;rw[n]at mu;exact mu
 have hb:∀ b,H b=none->b≠e:=fun b n z=>by
  subst z;rcases he with r | r
  ·exact hx b n r
  ·rw[n]at r;cases r
 have hm:∀ b u,H b=some u->¬ Mut (some u)->b≠x:=fun b u q nm z=>by subst z;rw[q]at mu;exact nm mu
 refine⟨fun b u q n _ _=>k b u (hb b n) q,fun b u q n _ _=>⟨u.slots,k b u (hb b n) q⟩,fun b u q n _=>by rw[upd_ne (hx b n)];exact n,fun b u q _=>?_,
  fun b xs q=>by rw[upd_ne (hm b _ q fun z=>z)];exact q,fun b u xs q=>by rw[upd_ne (hm b _ q fun z=>z)];exact q,fun b ps q=>⟨#[],by rw[upd_ne (hm b _ q fun z=>z),q];simp⟩⟩
 by_cases hbe:b=e
 ·subst hbe;exact heo
 ·exact⟨u,k b u hbe q⟩
end
noncomputable def trk(h:Heap)(H:Hp):List Addr:=(WP h.objs.size).filter fun a=>(H a).isSome
noncomputable def Eu(h:Heap)(H:Hp):Heap:=PySem.W.hideAll h (trk h H)
theorem KF(h:Heap)(H:Hp):(Eu h H).objs.size=h.objs.size:=PySem.W.hideAll_size _ _
theorem Lj{h:Heap}{H:Hp}{b:Addr}{o:Obj}(e:h.get? b=some o)(n:H b=none):(Eu h H).get? b=some o:=
 PySem.W.hideAll_get _ e fun hm=>by
  have q:(H b).isSome=true:=(X4.mp hm).2;rw[n]at q;simp at q
theorem Oj{h:Heap}{H:Hp}{b:Addr}{o:Obj}(e:(Eu h H).get? b=some o):h.get? b=some o/\H b=none:=by
 have e':h.get? b=some o:=PySem.W.of_hideAll (trk h H) e;refine⟨e',?_⟩;cases q:H b with
 | none=>rfl
 | some x=>
   have hm:b∈trk h H:=X4.mpr ⟨X5.mpr (WH e'),by simp[q]⟩;have z:(Eu h H).get? b=none:=PySem.W.hideAll_none (trk h H) hm;rw[z]at e;cases e
open PySem PySem.Spec PyProof.Rows
structure Mod(K:Vy)(mg:Str->Option Value)(base:Heap):Prop where
 kin:K.In base
 glob:base.Ns mainGlobals mg
 blt:∃ mb,base.Ns builtinsNs mb/\∀ x:Str,x≠"__name__"->mb x=bootBuiltins x
 nolimit:base.NoLimit
structure Cx where
 prog:Program
 w:World
 K:Vy
 mg:Str->Option Value
 base:Heap
 A:Around
 N:List Str
 s₀:Shared
 H₀:Hp
 env:Env
 outer:List Env
 stack:List Env
 ex:List Addr
 fn:Str->Bool
 calm:Bool
 pn:List (Addr×Obj)
 xe:Value->Shared->Prop
noncomputable def frs(l:List Env):List Addr:=l.filterMap (·.frame)
noncomputable abbrev Cx.fs(X:Cx):List Addr:=frs X.outer
noncomputable def Vis(sc:Scope)(x:Str):Prop:=sc.names.lookup x=some .local\/sc.names.lookup x=some .cell\/sc.names.lookup x=some .free
noncomputable def Loc(sc:Scope)(x:Str):Prop:=sc.names.lookup x=some .local\/sc.names.lookup x=some .cell
noncomputable def Look(env:Env)(h:Heap)(m:Str->Option Value)(x:Str)(u:Value):Prop:=
 (env.kindOf x=some .local/\m x=some u)\/((env.kindOf x=some .cell\/env.kindOf x=some .free)/\∃ c,env.cells.lookup x=some c/\h.IsCell c (some u))
structure Cx.Ok(X:Cx):Prop where
 mod:Mod X.K X.mg X.base
 kind:X.env.scope.kind = .function
 glob:X.env.globals=mainGlobals
 blt:X.env.builtins=builtinsNs
 above:X.s₀.heap.objs.size<=X.env.locals
 inj:∀ x y c,X.env.cells.lookup x=some c->X.env.cells.lookup y=some c->x=y
 has:∀ x,(X.env.kindOf x=some .cell\/X.env.kindOf x=some .free)->∃ c,X.env.cells.lookup x=some c
 cab:∀ x c,X.fn x=true->X.env.cells.lookup x=some c->X.s₀.heap.objs.size<=c
 hd:X.calm=true->X.A.handled=none
 frames:X.A.frames=some X.stack
 stk:X.stack=X.outer\/(X.stack=X.env::X.outer/\X.env.frame=some X.env.locals)
 exf:∀ b∈X.ex,b≠X.env.locals/\∀ x c,X.env.cells.lookup x=some c->c≠b
 bs:∀ b o,X.base.get? b=some o->X.s₀.heap.get? b=some o/\X.H₀ b=none
 bsz:X.base.objs.size<=X.s₀.heap.objs.size
 noex:∀ b o,X.base.get? b=some o->b∉X.ex
 exfs:∀ b∈X.ex,b∉X.fs
 funs:X.s₀.heap.FunFrames X.base X.outer
 frf:∀ b∈X.fs,X.H₀ b=none
structure Inv(X:Cx)(pins:List (Addr×Obj))(σ:List (Option V))(H:Hp)(s:Shared):Prop where
 ok:X.Ok
 os:s.os=X.s₀.os
 bare:AllBare s.gens
 base:Un X.fs X.ex X.H₀ H X.s₀.heap s.heap
 loc:∃ m,s.heap.Ns X.env.locals m/\∀(i:Nat) (x:Str) (v:V),X.N[i]?=some x->σ[i]?=some (some v)->Vis X.env.scope x->∃ u,RelV v u/\Look X.env s.heap m x u
 cell:∀ x c,X.env.cells.lookup x=some c->∃ v,s.heap.IsCell c v
 free:H X.env.locals=none
 freeC:∀ x c,X.env.cells.lookup x=some c->H c=none
 pin:∀ p∈X.pn++pins,s.heap.get? p.1=some p.2/\H p.1=none/\p.1≠X.env.locals/\p.1∉X.fs/\∀ v,p.2.data ≠ .cell v
 hok:HOk X.prog X.w H s.heap
 len:σ.length=X.N.length
section
variable{X:Cx}{pins:List (Addr×Obj)}{σ:List (Option V)}{H H':Hp}{s:Shared}{h':Heap}
theorem Cx.Ok.nofr(ok:X.Ok){b:Addr}{o:Obj}(e:X.base.get? b=some o):b∉X.fs:=fun hb=>by
 have:=(ok.funs.mem hb).1;rw[e]at this;cases this
theorem Inv.bs(I:Inv X pins σ H s):∀ b o,X.base.get? b=some o->s.heap.get? b=some o/\H b=none:=fun b o e=>
 ⟨I.base.keep b o (I.ok.bs b o e).1 (I.ok.bs b o e).2 (I.ok.nofr e) (I.ok.noex b o e),I.base.free b o (I.ok.bs b o e).1 (I.ok.bs b o e).2 (I.ok.noex b o e)⟩
theorem Inv.bk(I:Inv X pins σ H s):∀ b o,X.base.get? b=some o->s.heap.get? b=some o:=fun b o e=>(I.bs b o e).1
theorem Inv.mod(I:Inv X pins σ H s):Mod X.K X.mg X.base:=I.ok.mod
theorem Inv.kIn(I:Inv X pins σ H s):X.K.In s.heap:=I.ok.mod.kin.keeps I.bk
theorem Inv.fr(I:Inv X pins σ H s):∃ m,Fr X.base X.env.locals s.heap m:=
 let ⟨m,hn,_⟩:=I.loc
 ⟨m,hn,I.bk,Wj I.ok.bsz I.ok.above⟩
theorem Inv.lt(I:Inv X pins σ H s):X.env.locals<s.heap.objs.size:=let ⟨_,hn,_⟩:=I.loc;hn.lt
theorem Inv.sz(I:Inv X pins σ H s):X.s₀.heap.objs.size<=s.heap.objs.size:=Wj I.ok.above (XT I.lt)
theorem Inv.nofs(I:Inv X pins σ H s){a:Addr}(h:s.heap.objs.size<=a):a∉X.fs:=fun hb=>by
 obtain⟨_,o,ho,_⟩:=I.ok.funs.mem hb;exact absurd (Wo (WH ho) (Wj I.sz h)) (XZ _)
theorem Inv.cne(I:Inv X pins σ H s):∀ x c,X.env.cells.lookup x=some c->c≠X.env.locals:=fun x c e z=>by
 obtain⟨v,o,ho,hd⟩:=I.cell x c e;obtain⟨m,⟨o',es,ep,ho',hd',_⟩,_⟩:=I.loc;rw[z,ho']at ho;cases ho;rw[hd']at hd;cases hd
theorem Inv.funs(I:Inv X pins σ H s):s.heap.FunFrames X.base X.outer:=by
 have all:∀(l:List Env),(∀ b∈frs l,b∈X.fs)->X.s₀.heap.FunFrames X.base l->s.heap.FunFrames X.base l:=by
  intro l
  induction l with
  | nil=>intro _ _;trivial
  | cons env r ih=>
    intro hs hl;obtain⟨hk,⟨L,o,hf,hn,ho,hd⟩,hr⟩:=hl;have hL:L∈X.fs:=hs L (by unfold frs;rw[YU,hf];exact WK);obtain⟨sl,e⟩:=I.base.slot L o ho (I.ok.frf L hL) hL fun z=>I.ok.exfs L z hL;exact⟨hk,⟨L,_,hf,hn,e,hd⟩,ih (fun b hb=>hs b (by unfold frs;rw[YU,hf];exact W9 _ hb)) hr⟩
 exact all X.outer (fun _ hb=>hb) I.ok.funs
theorem Inv.stack(I:Inv X pins σ H s):s.heap.FunFrames X.base X.stack:=by
 rcases I.ok.stk with e | ⟨e,hf⟩
 ·rw[e];exact I.funs
 ·rw[e];obtain⟨m,hn,_⟩:=I.loc;refine .cons (by rw[I.ok.kind];decide) hf hn ?_ I.funs;exact Heap.get?_none_of_le (Wj I.ok.bsz I.ok.above)
theorem Inv.stkSub(I:Inv X pins σ H s):∀ b∈frs X.stack,b∈X.env.locals::X.fs:=fun b hb=>by
 rcases I.ok.stk with e | ⟨e,hf⟩
 ·rw[e]at hb;exact W9 _ hb
 ·rw[e]at hb;unfold frs at hb;rw[YU,hf]at hb;exact hb
theorem Inv.stkFree(I:Inv X pins σ H s):∀ b∈frs X.stack,H b=none:=fun b hb=>by
 rcases WN.mp (I.stkSub b hb) with e | hb
 ·rw[e];exact I.free
 ·obtain⟨_,o,ho,_⟩:=I.ok.funs.mem hb;exact I.base.free b o ho (I.ok.frf b hb) fun z=>I.ok.exfs b z hb
theorem Inv.step{g':Array GenState}{t':Nat}{d':Drawn}{ch:List Addr}(I:Inv X pins σ H s)
 (hch:∀ b∈ch,(b∈X.ex\/X.s₀.heap.objs.size<=b)/\b≠X.env.locals/\(∀ x c,X.env.cells.lookup x=some c->c≠b)/\∀ p∈X.pn++pins,p.1≠b)
 (keep:∀ b o,b≠X.env.locals->b∉X.fs->b∉ch->s.heap.get? b=some o->H b=none->h'.get? b=some o)
 (slot:∀ b o,b≠X.env.locals->b∈X.fs->b∉ch->s.heap.get? b=some o->H b=none->∃ sl,h'.get? b=some {o with slots:=sl}) (free:∀ b o,b∉ch->s.heap.get? b=some o->H b=none->H' b=none)
 (there:∀ b o,b∉ch->s.heap.get? b=some o->∃ o',h'.get? b=some o')
 (tups:∀ b xs,H b=some (.tup xs)->H' b=some (.tup xs)) (frzs:∀ b o u,H b=some (.frz o (.lst u))->H' b=some (.frz o (.lst u))) (tbls:∀ b ps,H b=some (.tbl ps)->∃ more,H' b=some (.tbl (ps++more)))
 (ns:∀ m,s.heap.Ns X.env.locals m->h'.Ns X.env.locals m) (hok:HOk X.prog X.w H' h') (hg:AllBare g'):
 Inv X pins σ H' {s with heap:=h',gens:=g',drawn:=d',toks:=t'}:=by
 have neL:∀ b o,X.s₀.heap.get? b=some o->b≠X.env.locals:=fun b o e=>WR (Wo (WH e) I.ok.above)
 have neC:∀ b o,X.s₀.heap.get? b=some o->b∉X.ex->b∉ch:=fun b o e hx hb=>by
  rcases(hch b hb).1 with z | z
  ·exact hx z
  ·exact absurd (Wo (WH e) z) (XZ _)
 have cellK:∀ x c,X.env.cells.lookup x=some c->∀ v,s.heap.IsCell c v->h'.IsCell c v:=fun x c e v ⟨o,ho,hd⟩=>by
  have nch:c∉ch:=fun z=>(hch c z).2.2.1 x c e rfl;by_cases hc:c∈X.fs
  ·obtain⟨sl,q⟩:=slot c o (I.cne x c e) hc nch ho (I.freeC x c e);exact⟨_,q,hd⟩
  ·exact⟨o,keep c o (I.cne x c e) hc nch ho (I.freeC x c e),hd⟩
 refine⟨I.ok,I.os,hg,⟨fun b o e n hb hx=>?_,fun b o e n hb hx=>?_,fun b o e n hx=>?_,fun b o e hx=>?_,fun b xs e=>tups b xs (I.base.tups b xs e),fun b o xs e=>frzs b o xs (I.base.frzs b o xs e),fun b ps e=>?_⟩,?_,fun x c e=>?_,?_,fun x c e=>?_,fun p hp=>?_,hok,I.len⟩
 ·exact keep b o (neL b o e) hb (neC b o e hx) (I.base.keep b o e n hb hx) (I.base.free b o e n hx)
 ·obtain⟨sl,e1⟩:=I.base.slot b o e n hb hx;obtain⟨sl',e2⟩:=slot b _ (neL b o e) hb (neC b o e hx) e1 (I.base.free b o e n hx);exact⟨sl',e2⟩
 ·obtain⟨o',e1⟩:=I.base.there b o e hx;exact free b o' (neC b o e hx) e1 (I.base.free b o e n hx)
 ·obtain⟨o',e1⟩:=I.base.there b o e hx;exact there b o' (neC b o e hx) e1
 ·obtain⟨m1,e1⟩:=I.base.tbls b ps e;obtain⟨m2,e2⟩:=tbls b _ e1;exact⟨m1++m2,by rw[e2,Array.append_assoc]⟩
 ·obtain⟨m,hn,hl⟩:=I.loc;refine⟨m,ns m hn,fun i x v e1 e2 e3=>?_⟩;obtain⟨u,r,l⟩:=hl i x v e1 e2 e3;refine⟨u,r,?_⟩;rcases l with l | ⟨k,c,e,z⟩
  ·exact .inl l
  ·exact .inr ⟨k,c,e,cellK x c e _ z⟩
 ·obtain⟨v,z⟩:=I.cell x c e;exact⟨v,cellK x c e v z⟩
 ·obtain⟨m,⟨o,_,_,ho,_⟩,_⟩:=I.loc;exact free _ o (fun z=>(hch _ z).2.1 rfl) ho I.free
 ·obtain⟨v,o,ho,hd⟩:=I.cell x c e;exact free c o (fun z=>(hch c z).2.2.1 x c e rfl) ho (I.freeC x c e)
 ·obtain⟨e,n,ne,nf,d⟩:=I.pin p hp;have nch:p.1∉ch:=fun z=>(hch p.1 z).2.2.2 p hp rfl;exact⟨keep p.1 p.2 ne nf nch e n,free p.1 p.2 nch e n,ne,nf,d⟩
theorem Inv.un{t':Nat}(I:Inv X pins σ H s)(u:Un X.fs [] H H' s.heap h')(hok:HOk X.prog X.w H' h'):Inv X pins σ H' {s with heap:=h',toks:=t'}:=by
 obtain⟨m,⟨o,es,ep,ho,r⟩,_⟩:=id I.loc;obtain⟨sl,hL⟩:=u.any ho I.free (by simp)
 exact I.step (g':=s.gens) (d':=s.drawn) (ch:=[]) (fun _ z=>nomatch z) (fun b o _ hb _ e n=>u.keep b o e n hb (by simp)) (fun b o _ hb _ e n=>u.slot b o e n hb (by simp)) (fun b o _ e n=>u.free b o e n (by simp)) (fun b o _ e=>u.there b o e (by simp)) u.tups u.frzs u.tbls (fun m' hm=>by
  obtain⟨o',es',ep',ho',r'⟩:=hm;rw[ho]at ho';cases ho';exact⟨_,es',ep',hL,r'⟩) hok I.bare
theorem Inv.call{g':Array GenState}{t':Nat}{d':Drawn}{ch:List Addr}(I:Inv X pins σ H s)(u:Un (frs X.stack) ch H H' s.heap h')(hok:HOk X.prog X.w H' h')(hg:AllBare g')
 (hch:∀ b∈ch,(b∈X.ex\/X.s₀.heap.objs.size<=b)/\b≠X.env.locals/\(∀ x c,X.env.cells.lookup x=some c->c≠b)/\∀ p∈X.pn++pins,p.1≠b):
 Inv X pins σ H' {s with heap:=h',gens:=g',drawn:=d',toks:=t'}:=by
 obtain⟨m,⟨o,es,ep,ho,r⟩,_⟩:=id I.loc;obtain⟨sl,hL⟩:=u.any ho I.free fun z=>(hch _ z).2.1 rfl
 exact I.step (ch:=ch) hch (fun b o hL hb hc e n=>u.keep b o e n (fun z=>(WN.mp (I.stkSub b z)).elim hL hb) hc) (fun b o _ _ hc e n=>u.any e n hc) (fun b o hc e n=>u.free b o e n hc) (fun b o hc e=>u.there b o e hc) u.tups u.frzs u.tbls (fun m' hm=>by
  obtain⟨o',es',ep',ho',r'⟩:=hm;rw[ho]at ho';cases ho';exact⟨_,es',ep',hL,r'⟩) hok hg
theorem Inv.turned{t':Nat}{it:Addr}(I:Inv X pins σ H s)(k:∀ b o,b≠it->s.heap.get? b=some o->h'.get? b=some o)(hn:H it=none)(hL:it≠X.env.locals)
 (h1:it∈X.ex\/X.s₀.heap.objs.size<=it) (h2:∀ x c,X.env.cells.lookup x=some c->c≠it) (h3:∀ p∈X.pn++pins,p.1≠it):Inv X pins σ H {s with heap:=h',toks:=t'}:=by
 have nit:∀ b u,H b=some u->b≠it:=fun b u e z=>by rw[z,hn]at e;cases e
 refine I.step (g':=s.gens) (d':=s.drawn) (ch:=[it]) (fun b hb=>?_) (fun b o _ _ hc e _=>k b o (fun z=>hc (by simp[z])) e) (fun b o _ _ hc e _=>⟨o.slots,k b o (fun z=>hc (by simp[z])) e⟩) (fun _ _ _ _ n=>n)
  (fun b o hc e=>⟨o,k b o (fun z=>hc (by simp[z])) e⟩) (fun _ _ e=>e) (fun _ _ _ e=>e) (fun b ps e=>⟨#[],by rw[e];simp⟩) (fun m hm=>?_) (fun b u e=>?_) I.bare
 ·have e:b=it:=by simpa using hb
  subst e;exact⟨h1,hL,h2,h3⟩
 ·obtain⟨o,es,ep,ho,r⟩:=hm;exact⟨o,es,ep,k _ o (Ne.symm hL) ho,r⟩
 ·refine(I.hok b u e).stay (fun c v hc q=>k c v ?_ q) (fun _ q=>q) fun _ _ q=>q;rcases hc with z | z
  ·rw[z];exact nit b u e
  ·exact nit c _ z
theorem Inv.tok(I:Inv X pins σ H s)(t:Nat):Inv X pins σ H {s with toks:=t}:=I.un (h':=s.heap) (t':=t) Un.refl I.hok
theorem Inv.kept{t':Nat}(I:Inv X pins σ H s)(k:∀ b u,s.heap.get? b=some u->h'.get? b=some u):Inv X pins σ H {s with heap:=h',toks:=t'}:=I.un (Un.kept k) (I.hok.kept k)
theorem Inv.laid{a:Addr}{o:HO}{t':Nat}(I:Inv X pins σ H s)(k:∀ b u,s.heap.get? b=some u->h'.get? b=some u)(hp:s.heap.objs.size<=a)(new:ObjOk X.prog X.w (upd H a o) h' a o):
 Inv X pins σ (upd H a o) {s with heap:=h',toks:=t'}:=I.un (Un.laid k hp (I.hok.fresh hp)) (I.hok.laid k hp new)
theorem Inv.write{x e:Addr}{o:HO}{t':Nat}(I:Inv X pins σ H s)(mu:Mut (H x))(he:e=x\/H e=some (.own x))(k:∀ b u,b≠e->s.heap.get? b=some u->h'.get? b=some u)(heo:∃ u,h'.get? e=some u)
 (new:ObjOk X.prog X.w (upd H x o) h' x o):Inv X pins σ (upd H x o) {s with heap:=h',toks:=t'}:=I.un (Un.write mu he k heo) (I.hok.write mu he k heo new)
theorem Inv.weak{σ':List (Option V)}(I:Inv X pins σ H s)(hl:σ'.length=σ.length)(w:∀(i:Nat) v,σ'[i]?=some (some v)->σ[i]?=some (some v)):Inv X pins σ' H s:=
 ⟨I.ok,I.os,I.bare,I.base,let ⟨m,hn,hl'⟩:=I.loc;⟨m,hn,fun i x v e1 e2 e3=>hl' i x v e1 (w i v e2) e3⟩,I.cell,I.free,I.freeC,I.pin,I.hok,hl.trans I.len⟩
theorem Inv.pins_of{pins':List (Addr×Obj)}(I:Inv X pins σ H s)(h:∀ p∈pins',s.heap.get? p.1=some p.2/\H p.1=none/\p.1≠X.env.locals/\p.1∉X.fs/\∀ v,p.2.data ≠ .cell v):Inv X pins' σ H s:=
 ⟨I.ok,I.os,I.bare,I.base,I.loc,I.cell,I.free,I.freeC,fun p hp=>(WJ.mp hp).elim (fun z=>I.pin p (WQ _ z)) (h p),I.hok,I.len⟩
theorem Ft{N:List Str}(hN:N.Nodup){i j:Nat}{x:Str}(a:N[i]?=some x)(b:N[j]?=some x):i=j:=by
 obtain⟨h1,e1⟩:=gM a;obtain⟨h2,e2⟩:=gM b;exact(List.getElem_inj hN).mp (e1.trans e2.symm)
theorem Ce{M:Model}{A:Around}{E:Value->Shared->Prop}{i:Nat}{x:Str}{v:V}{u:Value}{Q:Unit->Shared->Prop}(I:Inv X pins σ H s)(hN:X.N.Nodup)(hi:X.N[i]?=some x)(hx:Loc X.env.scope x)(r:RelV v u)
 (h:∀ s',Inv X pins (σ.set i (some v)) H s'->(∃ a,Wv a s.heap s'.heap/\(a=X.env.locals\/X.env.cells.lookup x=some a))->Q () s') (hf:X.fn x=true\/X.env.scope.names.lookup x=some .local:=by first | exact .inl rfl | exact .inr rfl | assumption):wpAny M A (storeName X.env x u) Q E s:=by
 obtain⟨m,hn,hl⟩:=id I.loc;have hcls:(X.env.scope.kind == .class||(X.env.scope.kind == .module&&X.env.locals != X.env.globals))=false:=by rw[I.ok.kind];rfl
 have hiσ:i<σ.length:=by rw[I.len];exact(gM hi).1
 have cne:=I.cne
 have tracked:∀{a:Addr} {h':Heap},(∃ o,s.heap.get? a=some o/\H a=none)->Wv a s.heap h'->HOk X.prog X.w H h':=fun{a h'} ha hs b ob e=>by
  obtain⟨_,_,hfree⟩:=ha;refine(I.hok b ob e).stay (fun c w' hc q=>(hs.2 c ?_).trans q) (fun _ q=>q) fun _ _ q=>q;rintro rfl;rcases hc with rfl | hc
  ·rw[hfree]at e;cases e
  ·rw[hfree]at hc;cases hc
 rcases hx with hk | hk
 ·refine wpAny_storeName_local hk hn (fun h' hn' hs=>?_) hcls;obtain⟨oL,_,_,hoL,_⟩:=id hn;refine h _ ⟨I.ok,I.os,I.bare,⟨fun b o e n hb hx=>?_,fun b o e n hb hx=>?_,I.base.free,fun b o e hx=>?_,I.base.tups,I.base.frzs,I.base.tbls⟩,⟨_,hn',fun j y v' e1 e2 e3=>?_⟩,fun y c e=>?_,I.free,I.freeC,fun p hp=>?_,tracked ⟨oL,hoL,I.free⟩ hs,by simpa using I.len⟩ ⟨_,hs,.inl rfl⟩
  ·exact(hs.2 b (WR (Wo (WH e) I.ok.above))).trans (I.base.keep b o e n hb hx)
  ·obtain⟨sl,e1⟩:=I.base.slot b o e n hb hx;exact⟨sl,(hs.2 b (WR (Wo (WH e) I.ok.above))).trans e1⟩
  ·obtain⟨o',e1⟩:=I.base.there b o e hx;exact⟨o',(hs.2 b (WR (Wo (WH e) I.ok.above))).trans e1⟩
  ·by_cases hj:j=i
   ·subst hj;rw[hi]at e1;cases e1;rw[Wg hiσ]at e2;cases e2;exact⟨u,r,.inl ⟨hk,by simp⟩⟩
   ·rw[Wp (Ne.symm hj)]at e2;obtain⟨u',r',q⟩:=hl j y v' e1 e2 e3;refine⟨u',r',?_⟩;rcases q with⟨k,e⟩ | ⟨k,c,e,z⟩
    ·refine .inl ⟨k,?_⟩;have:y≠x:=fun e=>hj (Ft hN e1 (e▸hi));simp[this,e]
    ·exact .inr ⟨k,c,e,z.sameBut hs (cne y c e)⟩
  ·obtain⟨w',z⟩:=I.cell y c e;exact⟨w',z.sameBut hs (cne y c e)⟩
  ·obtain⟨e,n,ne,nf,d⟩:=I.pin p hp;exact⟨(hs.2 p.1 ne).trans e,n,ne,nf,d⟩
 ·have hfn:X.fn x=true:=by
   rcases hf with z | z
   ·exact z
   ·rw[z]at hk;cases hk
  obtain⟨c,hc⟩:=I.ok.has x (.inl hk);obtain⟨w',z⟩:=I.cell x c hc;refine wpAny_storeName_cell I.ok.kind hk hc z (fun h' hc' hs=>?_);obtain⟨oc,hoc,hocd⟩:=id z;refine h {s with heap:=h'} ⟨I.ok,I.os,I.bare,⟨fun b o e n hb hx=>?_,fun b o e n hb hx=>?_,I.base.free,fun b o e hx=>?_,I.base.tups,I.base.frzs,I.base.tbls⟩,⟨m,hn.sameBut hs (Ne.symm (cne x c hc)),fun j y v' e1 e2 e3=>?_⟩,fun y c' e=>?_,I.free,I.freeC,fun p hp=>?_,tracked ⟨oc,hoc,I.freeC x c hc⟩ hs,by simpa using I.len⟩ ⟨c,hs,.inr hc⟩
  ·exact(hs.2 b (WR (Wo (WH e) (I.ok.cab x c hfn hc)))).trans (I.base.keep b o e n hb hx)
  ·obtain⟨sl,e1⟩:=I.base.slot b o e n hb hx;exact⟨sl,(hs.2 b (WR (Wo (WH e) (I.ok.cab x c hfn hc)))).trans e1⟩
  ·obtain⟨o',e1⟩:=I.base.there b o e hx;exact⟨o',(hs.2 b (WR (Wo (WH e) (I.ok.cab x c hfn hc)))).trans e1⟩
  ·by_cases hj:j=i
   ·subst hj;rw[hi]at e1;cases e1;rw[Wg hiσ]at e2;cases e2;exact⟨u,r,.inr ⟨.inl hk,c,hc,hc'⟩⟩
   ·rw[Wp (Ne.symm hj)]at e2;obtain⟨u',r',q⟩:=hl j y v' e1 e2 e3;refine⟨u',r',?_⟩;rcases q with q | ⟨k,c',e,z'⟩
    ·exact .inl q
    ·refine .inr ⟨k,c',e,z'.sameBut hs ?_⟩;rintro rfl;exact hj (Ft hN e1 (I.ok.inj _ _ _ e hc▸hi))
  ·by_cases hcc:c'=c
   ·subst hcc;exact⟨_,hc'⟩
   ·obtain⟨w2,z2⟩:=I.cell y c' e;exact⟨w2,z2.sameBut hs hcc⟩
  ·obtain⟨e,n,ne,nf,d⟩:=I.pin p hp;refine⟨(hs.2 p.1 ?_).trans e,n,ne,nf,d⟩;intro q;rw[q,hoc]at e;have q':oc=p.2:=oj e;exact d w' (by rw[<-q'];exact hocd)
theorem Fu{M:Model}{A:Around}{E:Value->Shared->Prop}{i:Nat}{x:Str}{v:V}{u:Value}{Q:Unit->Shared->Prop}(I:Inv X pins σ H s)(hN:X.N.Nodup)(hi:X.N[i]?=some x)(hx:Loc X.env.scope x)(r:RelV v u)
 (h:∀ s',Inv X pins (σ.set i (some v)) H s'->Q () s') (hf:X.fn x=true\/X.env.scope.names.lookup x=some .local:=by first | exact .inl rfl | exact .inr rfl | assumption):wpAny M A (storeName X.env x u) Q E s:=
 Ce I hN hi hx r (fun s' I' _=>h s' I') hf
theorem Inv.call'{s':Shared}{ch:List Addr}(I:Inv X pins σ H s)(ho:s'.os=s.os)(u:Un (frs X.stack) ch H H' s.heap s'.heap)(hok:HOk X.prog X.w H' s'.heap)(hg:AllBare s'.gens)
 (hch:∀ b∈ch,(b∈X.ex\/X.s₀.heap.objs.size<=b)/\b≠X.env.locals/\(∀ x c,X.env.cells.lookup x=some c->c≠b)/\∀ p∈X.pn++pins,p.1≠b):Inv X pins σ H' s':=by
 obtain⟨h',g',d',t',o'⟩:=s';have e:o'=s.os:=ho;subst e;exact I.call (g':=g') (t':=t') (d':=d') u hok hg hch
end
noncomputable abbrev XK:=Value->Option Addr->Hp->Prop
noncomputable abbrev St:=List (Option V)
noncomputable abbrev VK:=V->Hp->Prop
noncomputable abbrev TE:=St->Hp->VK->Prop
noncomputable abbrev TT:=St->Hp->(Bool->Hp->Prop)->Prop
noncomputable abbrev TA:=St->Hp->(List V->Hp->Prop)->Prop
structure Ends where
 nx:St->Hp->Prop
 rt:VK
 bk:St->Hp->Prop:=fun _ _=>False
 ct:St->Hp->Prop:=fun _ _=>False
noncomputable abbrev TS:=Ends->St->Hp->Prop
noncomputable def EP(X:Cx)(pins:List (Addr×Obj))(σ:St)(Q:VK)(u:Value)(s':Shared):Prop:=∃ v H',Inv X pins σ H' s'/\RelV v u/\Q v H'
noncomputable def TP(X:Cx)(pins:List (Addr×Obj))(σ:St)(Q:Bool->Hp->Prop)(b:Bool)(s':Shared):Prop:=∃ H',Inv X pins σ H' s'/\Q b H'
noncomputable def AP(X:Cx)(pins:List (Addr×Obj))(σ:St)(Q:List V->Hp->Prop)(us:List Value)(s':Shared):Prop:=∃ vs H',Inv X pins σ H' s'/\Vals vs us/\Q vs H'
noncomputable def SP(X:Cx)(pins:List (Addr×Obj))(D:Ends)(f:Flow)(s':Shared):Prop:=
 match f with
 | .next=>∃ σ' H',Inv X pins σ' H' s'/\D.nx σ' H'
 | .brk=>∃ σ' H',Inv X pins σ' H' s'/\D.bk σ' H'
 | .cont=>∃ σ' H',Inv X pins σ' H' s'/\D.ct σ' H'
 | .ret u=>∃ v σ' H',Inv X pins σ' H' s'/\RelV v u/\D.rt v H'
noncomputable def PE(X:Cx)(e:Expr)(t:TE):Prop:=
 ∀(pins:List (Addr×Obj)) (s:Shared) (σ:St) (H:Hp) (Q:VK),Inv X pins σ H s->t σ H Q->wpAny (model X.prog X.w) X.A (eval e X.env) (EP X pins σ Q) X.xe s
noncomputable def PT(X:Cx)(e:Expr)(t:TT):Prop:=
 ∀(pins:List (Addr×Obj)) (s:Shared) (σ:St) (H:Hp) (Q:Bool->Hp->Prop),Inv X pins σ H s->t σ H Q->wpAny (model X.prog X.w) X.A (isTrue e X.env (eval e X.env)) (TP X pins σ Q) X.xe s
noncomputable def PW(X:Cx)(e:Expr)(t:TT):Prop:=
 ∀(whole:Sem Value) (pins:List (Addr×Obj)) (s:Shared) (σ:St) (H:Hp) (Q:Bool->Hp->Prop),Inv X pins σ H s->t σ H Q->wpAny (model X.prog X.w) X.A (isTrue e X.env whole) (TP X pins σ Q) X.xe s
theorem PW.pt{X:Cx}{e:Expr}{t:TT}(h:PW X e t):PT X e t:=h _
noncomputable def PA(X:Cx)(es:List Expr)(t:TA):Prop:=
 ∀(pos:Pos) (pins:List (Addr×Obj)) (s:Shared) (σ:St) (H:Hp) (Q:List V->Hp->Prop),Inv X pins σ H s->t σ H Q->wpAny (model X.prog X.w) X.A (spliced (backTo pos (starEach es X.env))) (AP X pins σ Q) X.xe s
noncomputable def PS(X:Cx)(st:Stmt)(t:TS):Prop:=
 ∀(pins:List (Addr×Obj)) (s:Shared) (σ:St) (H:Hp) (D:Ends),Inv X pins σ H s->t D σ H->wpAny (model X.prog X.w) X.A (exec st X.env) (SP X pins D) X.xe s
noncomputable def PSs(X:Cx)(st:List Stmt)(t:TS):Prop:=
 ∀(pins:List (Addr×Obj)) (s:Shared) (σ:St) (H:Hp) (D:Ends),Inv X pins σ H s->t D σ H->wpAny (model X.prog X.w) X.A (execs st X.env) (SP X pins D) X.xe s
theorem thn{α:Type}{t:Sem α}{Q Q':α->Shared->Prop}{M:Model}{A:Around}{E:Value->Shared->Prop}{s:Shared}(h:wpAny M A t Q E s)(hQ:∀ a s,Q a s->Q' a s):wpAny M A t Q' E s:=wpAny_mono h hQ fun _ _ x=>x
open PySem PySem.Spec PyProof.Rows
section
variable{X:Cx}
noncomputable def Ol(i:Nat):TE:=fun σ H Q=>∃ v,σ[i]?=some (some v)/\Q v H
noncomputable def tC(v:V):TE:=fun _ H Q=>Q v H
theorem Rt{i:Nat}{x:Str}{pos:Pos}(hN:X.N[i]?=some x)(hv:Vis X.env.scope x)(hd:(x == ("__debug__":Str))=false:=by decide)(hcd:(x == ("__classdict__":Str))=false:=by decide):PE X (.Name x pos) (Ol i):=by
 intro pins s σ H Q I h;obtain⟨v,e,h⟩:=h;obtain⟨m,hn,hl⟩:=I.loc;obtain⟨u,r,l⟩:=hl i x v hN e hv;have fin:EP X pins σ Q u s:=⟨v,H,I,r,h⟩
 rcases l with⟨hk,hm⟩ | ⟨hk,c,hc,hcell⟩
 ·exact wpAny_Name (wpAny_loadName_local I.ok.kind hk hn hm fin) hd
 ·rcases hk with hk | hk
  ·exact wpAny_Name (wpAny_loadName_cell I.ok.kind hk hc hcell fin) hd
  ·exact wpAny_Name (wpAny_loadName_free I.ok.kind hk hc hcell fin hcd) hd
theorem Lk{i j pos}:PE X (.Constant (.int i) j pos) (tC (.int i)):=fun _ _ _ H _ I h=>wpAny_Constant_int ⟨.int i,H,I.tok _,⟨_,rfl⟩,h⟩
theorem U3{b j pos}:PE X (.Constant (.bool b) j pos) (tC (.bl b)):=fun _ _ _ H _ I h=>Constant_bool ⟨.bl b,H,I,rfl,h⟩
theorem Rv{j pos}:PE X (.Constant .none j pos) (tC .non):=fun _ _ _ H _ I h=>Constant_none ⟨.non,H,I,rfl,h⟩
theorem Rx{x j pos}:PE X (.Constant (.str x) j pos) (tC (.str x)):=fun _ _ _ H _ I h=>Calls.Constant_str ⟨.str x,H,I.tok _,⟨_,rfl⟩,h⟩
noncomputable def Gl(X:Cx)(x:Str):Prop:=X.env.kindOf x=some .globalImplicit
theorem Om{E:Value->Shared->Prop}{pins:List (Addr×Obj)}{s:Shared}{σ:St}{H:Hp}{x:Str}{u:Value}{pos:Pos}{Q:Value->Shared->Prop}(I:Inv X pins σ H s)(hg:Gl X x)(hm:X.mg x=some u)(h:Q u s)
 (hd:(x == ("__debug__":Str))=false:=by decide):wpAny (model X.prog X.w) X.A (eval (.Name x pos) X.env) Q E s:=
 Calls.Name_function_global I.ok.kind hg (Calls.loadGlobal_global (by rw[I.ok.glob];exact I.mod.glob.keeps I.bk) hm h) hd
theorem AY{E:Value->Shared->Prop}{pins:List (Addr×Obj)}{s:Shared}{σ:St}{H:Hp}{x:Str}{u:Value}{pos:Pos}{Q:Value->Shared->Prop}(I:Inv X pins σ H s)(hg:Gl X x)(hm:X.mg x=none)(hv:bootBuiltins x=some u)(h:Q u s)
 (hn:x≠"__name__":=by decide) (hd:(x == ("__debug__":Str))=false:=by decide):wpAny (model X.prog X.w) X.A (eval (.Name x pos) X.env) Q E s:=by
 obtain⟨mb,h1,h2⟩:=I.mod.blt;exact Calls.Name_function_global I.ok.kind hg (Calls.loadGlobal_builtin (by rw[I.ok.glob];exact I.mod.glob.keeps I.bk) hm (by rw[I.ok.blt];exact h1.keeps I.bk) ((h2 x hn).trans hv) h) hd
theorem Oo{x:Str}{v:V}{u:Value}{pos:Pos}(hg:Gl X x)(hm:X.mg x=none)(hv:bootBuiltins x=some u)(r:RelV v u)(hn:x≠"__name__":=by decide)(hd:(x == ("__debug__":Str))=false:=by decide):PE X (.Name x pos) (tC v):=
 fun _ _ _ H _ I h=>AY I hg hm hv ⟨v,H,I,r,h⟩ hn hd
variable{a b:Expr}{ta tb:TE}{pos:Pos}
noncomputable def PC(X:Cx)(op:CmpOp)(a b:Expr)(t:TE):Prop:=
 ∀(pins:List (Addr×Obj)) (s:Shared) (σ:St) (H:Hp) (Q:VK),Inv X pins σ H s->t σ H Q->
  wpAny (model X.prog X.w) X.A (eval a X.env) (fun v s₁=>wpAny (model X.prog X.w) X.A (eval b X.env) (fun u s₂=>wpAny (model X.prog X.w) X.A (compareOp op v u) (EP X pins σ Q) X.xe s₂) X.xe s₁) X.xe s
noncomputable def tB(t:TE):TT:=fun σ H Q=>t σ H fun x H1=>∃ c,x = .bl c/\Q c H1
theorem Ll{op:CmpOp}{t:TE}(h:PC X op a b t)(h1:behindInMarks op b=false:=by first | exact nobehind _ (by decide) (by decide) | rfl):PE X (.Compare a [op] [b] pos) t:=fun pins s σ H Q I hw=>wpAny_Compare1 (h pins s σ H Q I hw) h1
theorem Lm{op:CmpOp}{t:TE}(h:PC X op a b t)(h1:behindInMarks op b=false:=by first | exact nobehind _ (by decide) (by decide) | rfl):PT X (.Compare a [op] [b] pos) (tB t):=by
 intro pins s σ H Q I hw;refine wpAny_isTrue_Compare1 (thn (h pins s σ H _ I hw) fun v s1 h1=>thn h1 fun u s2 h2=>thn h2 fun c s3 ⟨x,H1,I1,r1,q1⟩=>?_) h1;obtain⟨d,rfl,q⟩:=q1;cases r1;exact wpAny_truthy_bool ⟨H1,I1,q⟩
variable{tA tB':TT}{rest:List Expr}
noncomputable def U4(t u:TT):TT:=fun σ H Q=>t σ H fun c H1=>if c=true then u σ H1 Q else Q false H1
noncomputable def tOr(t u:TT):TT:=fun σ H Q=>t σ H fun c H1=>if c=true then Q true H1 else u σ H1 Q
noncomputable def U5(t:TT):TT:=fun σ H Q=>t σ H fun c H1=>Q (!c) H1
theorem Op(ha:PT X a tA):PW X (.BoolOp .And [a] pos) tA:=by
 intro wh pins s σ H Q I h;refine isTrue_and (thn (ha pins s σ H Q I h) fun c s1 e=>?_);cases c with
 | true=>exact isTrue_and_nil e
 | false=>exact e
theorem Ry(ha:PT X a tA):PW X (.BoolOp .Or [a] pos) tA:=by
 intro wh pins s σ H Q I h;refine isTrue_or (thn (ha pins s σ H Q I h) fun c s1 e=>?_);cases c with
 | false=>exact isTrue_or_nil e
 | true=>exact e
theorem Ln(ha:PT X a tA)(hb:PW X (.BoolOp .And (b::rest) pos) tB'):PW X (.BoolOp .And (a::b::rest) pos) (U4 tA tB'):=by
 intro wh pins s σ H Q I h;refine isTrue_and (thn (ha pins s σ H _ I h) fun c s1 ⟨H1,I1,q1⟩=>?_);cases c with
 | true=>exact hb wh pins s1 σ H1 Q I1 q1
 | false=>exact⟨H1,I1,q1⟩
theorem Qu(ha:PT X a tA)(hb:PW X (.BoolOp .Or (b::rest) pos) tB'):PW X (.BoolOp .Or (a::b::rest) pos) (tOr tA tB'):=by
 intro wh pins s σ H Q I h;refine isTrue_or (thn (ha pins s σ H _ I h) fun c s1 ⟨H1,I1,q1⟩=>?_);cases c with
 | true=>exact⟨H1,I1,q1⟩
 | false=>exact hb wh pins s1 σ H1 Q I1 q1
theorem Rz(ha:PT X a tA):PT X (.UnaryOp .Not a pos) (U5 tA):=by
 intro pins s σ H Q I h;exact isTrue_not (ha pins s σ H (fun c H1=>Q (!c) H1) I h)
noncomputable def Qv(ta tb:TE):TE:=fun σ H Q=>ta σ H fun x H1=>∃ c,x = .bl c/\if c=true then tb σ H1 Q else Q (.bl false) H1
noncomputable def U6(ta tb:TE):TE:=fun σ H Q=>ta σ H fun x H1=>∃ c,x = .bl c/\if c=true then Q (.bl true) H1 else tb σ H1 Q
noncomputable def Qw(ta:TE):TE:=fun σ H Q=>ta σ H fun x H1=>∃ c,x = .bl c/\Q (.bl (!c)) H1
theorem Lo{op}{t:TE}(h:PE X a t):PE X (.BoolOp op [a] pos) t:=fun pins s σ H Q I hw=>BoolOp_one (h pins s σ H Q I hw)
theorem Lp(ha:PE X a ta)(hb:PE X (.BoolOp .And (b::rest) pos) tb):PE X (.BoolOp .And (a::b::rest) pos) (Qv ta tb):=by
 intro pins s σ H Q I h;refine BoolOp_and (thn (ha pins s σ H _ I h) fun v s1 ⟨x,H1,I1,r1,q1⟩=>?_);obtain⟨c,rfl,q1⟩:=q1;cases r1;refine wpAny_truthy_bool ?_;cases c with
 | true=>exact hb pins s1 σ H1 Q I1 q1
 | false=>exact⟨.bl false,H1,I1,rfl,q1⟩
theorem Qx(ha:PE X a ta)(hb:PE X (.BoolOp .Or (b::rest) pos) tb):PE X (.BoolOp .Or (a::b::rest) pos) (U6 ta tb):=by
 intro pins s σ H Q I h;refine BoolOp_or (thn (ha pins s σ H _ I h) fun v s1 ⟨x,H1,I1,r1,q1⟩=>?_);obtain⟨c,rfl,q1⟩:=q1;cases r1;refine wpAny_truthy_bool ?_;cases c with
 | false=>exact hb pins s1 σ H1 Q I1 q1
 | true=>exact⟨.bl true,H1,I1,rfl,q1⟩
theorem S9(ha:PE X a ta):PE X (.UnaryOp .Not a pos) (Qw ta):=by
 intro pins s σ H Q I h;refine UnaryOp_ (thn (ha pins s σ H _ I h) fun v s1 ⟨x,H1,I1,r1,q1⟩=>?_);obtain⟨c,rfl,q1⟩:=q1;cases r1;exact not_of (wpAny_truthy_bool ⟨.bl (!c),H1,I1,rfl,q1⟩)
noncomputable def tIf(t:TT)(ta tb:TE):TE:=fun σ H Q=>t σ H fun c H1=>if c=true then ta σ H1 Q else tb σ H1 Q
theorem Lq{c:Expr}(hc:PT X c tA)(ha:PE X a ta)(hb:PE X b tb):PE X (.IfExp c a b pos) (tIf tA ta tb):=by
 intro pins s σ H Q I h;refine wpAny_IfExp (thn (hc pins s σ H _ I h) fun d s1 ⟨H1,I1,q1⟩=>?_);cases d with
 | true=>exact ha pins s1 σ H1 Q I1 q1
 | false=>exact hb pins s1 σ H1 Q I1 q1
end
open PySem PySem.Spec PyProof.Rows
noncomputable def SqL(K:Vy)(H:Hp)(a:Addr)(xs:List V):Prop:=
 Rd H a (.lst xs)\/
  ∃(o:Obj) (its:Array Value) (n:Nat),K.lookup a=some o/\o.cls = .type "list"/\o.dict=none/\o.data = .seq its n/\its.size<=sizeLine/\Vals xs its.toList
noncomputable def SqT(K:Vy)(H:Hp)(a:Addr)(xs:List V):Prop:=
 Rd H a (.tup xs)\/
  ∃(o:Obj) (its:Array Value) (n:Nat),K.lookup a=some o/\o.cls = .type "tuple"/\o.data = .seq its n/\its.size<=sizeLine/\Vals xs its.toList
noncomputable def Vd:Value->Option V
 | .none=>some .non
 | .bool b=>some (.bl b)
 | .int i _=>some (.int i)
 | .str x _=>some (.str x)
 | .bytes b _=>some (.byt b)
 | .float b _=>some (.flt b)
 | .ref a=>some (.ref a)
 | .type n=>some (.ty n)
 | _=>none
theorem RelV.abs{x:V}{u:Value}(r:RelV x u):Vd u=some x:=by
 cases x with
 | non=>cases r;rfl
 | bl _=>cases r;rfl
 | int _=>obtain⟨t,rfl⟩:=r;rfl
 | str _=>obtain⟨t,rfl⟩:=r;rfl
 | byt _=>obtain⟨t,rfl⟩:=r;rfl
 | flt _=>obtain⟨t,rfl⟩:=r;rfl
 | ref _=>cases r;rfl
 | ty _=>cases r;rfl
theorem RelV.inj{x y:V}{u:Value}(r:RelV x u)(q:RelV y u):x=y:=oj (r.abs.symm.trans q.abs)
theorem Vals.inj:∀{xs ys:List V} {us:List Value},Vals xs us->Vals ys us->xs=ys
 | _,_,_,.nil,.nil=>rfl
 | _,_,_,.cons r t,.cons r' t'=>by rw[r.inj r',Vals.inj t t']
section
variable{X:Cx}{pins:List (Addr×Obj)}{σ:St}{H:Hp}{s:Shared}{a:Addr}{xs ys:List V}
theorem SqL.of{K:Vy}(h:H a=some (.lst xs)):SqL K H a xs := .inl (.inl h)
theorem SqT.of{K:Vy}(h:H a=some (.tup xs)):SqT K H a xs := .inl (.inl h)
theorem Inv.list(I:Inv X pins σ H s)(h:SqL X.K H a xs):∃ its:List Value,Vals xs its/\PlainL s.heap a its.toArray/\xs.length<=sizeLine:=by
 rcases h with h | ⟨o,its,n,hk,hc,hd,hs,hz,r⟩
 ·obtain⟨z,its,n,r,e⟩:=h.ok I.hok;exact⟨its,r,⟨_,n,e,rfl,rfl,rfl⟩,z⟩
 ·refine⟨its.toList,r,⟨o,n,I.kIn a o hk,hc,hd,by simpa using hs⟩,?_⟩;have e:=r.length;simp only[WM]at e;omega
theorem Inv.tuple(I:Inv X pins σ H s)(h:SqT X.K H a xs):∃ its:List Value,Vals xs its/\IsTup s.heap a its.toArray/\xs.length<=sizeLine:=by
 rcases h with h | ⟨o,its,n,hk,hc,hs,hz,r⟩
 ·obtain⟨z,its,r,p⟩:=h.ok I.hok;exact⟨its,r,p,z⟩
 ·refine⟨its.toList,r,⟨o,I.kIn a o hk,hc,n,by simpa using hs⟩,?_⟩;have e:=r.length;simp only[WM]at e;omega
theorem Inv.list_inj(I:Inv X pins σ H s)(h:SqL X.K H a xs)(h':SqL X.K H a ys):xs=ys:=by
 obtain⟨its,r,⟨o,n,e,_,_,d⟩,_⟩:=I.list h;obtain⟨its',r',⟨o',n',e',_,_,d'⟩,_⟩:=I.list h';rw[e]at e';cases e';rw[d]at d';injection d' with d1 _;have:its=its':=by simpa using congrArg Za d1
 subst this;exact r.inj r'
theorem Inv.tuple_inj(I:Inv X pins σ H s)(h:SqT X.K H a xs)(h':SqT X.K H a ys):xs=ys:=by
 obtain⟨its,r,⟨o,e,_,n,d⟩,_⟩:=I.tuple h;obtain⟨its',r',⟨o',e',_,n',d'⟩,_⟩:=I.tuple h';rw[e]at e';cases e';rw[d]at d';injection d' with d1 _;have:its=its':=by simpa using congrArg Za d1
 subst this;exact r.inj r'
end
noncomputable abbrev Cx.wish(X:Cx)(E:Value->Shared->Prop):Cx:={X with xe:=E}
noncomputable abbrev Cx.nox(X:Cx):Cx:=X.wish fun _ _=>False
theorem Cx.Ok.wish{X:Cx}(ok:X.Ok)(E:Value->Shared->Prop):(X.wish E).Ok:=
 ⟨ok.mod,ok.kind,ok.glob,ok.blt,ok.above,ok.inj,ok.has,ok.cab,ok.hd,ok.frames,ok.stk,ok.exf,ok.bs,ok.bsz,ok.noex,ok.exfs,ok.funs,ok.frf⟩
theorem Cx.Ok.unwish{X:Cx}{E:Value->Shared->Prop}(ok:(X.wish E).Ok):X.Ok:=
 ⟨ok.mod,ok.kind,ok.glob,ok.blt,ok.above,ok.inj,ok.has,ok.cab,ok.hd,ok.frames,ok.stk,ok.exf,ok.bs,ok.bsz,ok.noex,ok.exfs,ok.funs,ok.frf⟩
section
variable{X:Cx}{pins:List (Addr×Obj)}{σ:St}{H:Hp}{s:Shared}{E:Value->Shared->Prop}
theorem Inv.wish(I:Inv X pins σ H s)(E:Value->Shared->Prop):Inv (X.wish E) pins σ H s:=⟨I.ok.wish E,I.os,I.bare,I.base,I.loc,I.cell,I.free,I.freeC,I.pin,I.hok,I.len⟩
theorem Inv.unwish(I:Inv (X.wish E) pins σ H s):Inv X pins σ H s:=⟨I.ok.unwish,I.os,I.bare,I.base,I.loc,I.cell,I.free,I.freeC,I.pin,I.hok,I.len⟩
theorem SP.unwish{D:Ends}{f:Flow}{s':Shared}(h:SP (X.wish E) pins D f s'):SP X pins D f s':=by
 cases f with
 | next=>obtain⟨σ',H',I,q⟩:=h;exact⟨σ',H',I.unwish,q⟩
 | brk=>obtain⟨σ',H',I,q⟩:=h;exact⟨σ',H',I.unwish,q⟩
 | cont=>obtain⟨σ',H',I,q⟩:=h;exact⟨σ',H',I.unwish,q⟩
 | ret u=>obtain⟨v,σ',H',I,r,q⟩:=h;exact⟨v,σ',H',I.unwish,r,q⟩
theorem PSs.nox{st:List Stmt}{t:TS}(h:PSs X.nox st t):PSs X st t:=fun pins s σ H D I hw=>
 wpAny_mono (h pins s σ H D (I.wish _) hw) (fun _ _ q=>q.unwish) fun _ _ z=>False.elim z
end
section
variable{X:Cx}{st:Stmt}{rest:List Stmt}{t u:TS}{e:Expr}{te:TE}{pos:Pos}
noncomputable def U7:TS:=fun D σ H=>D.nx σ H
noncomputable def Ve(t u:TS):TS:=fun D σ H=>t {D with nx:=u D} σ H
theorem Oq:PSs X [] U7:=fun _ _ σ H _ I h=>wpAny_execs_nil ⟨σ,H,I,h⟩
theorem Ls(h1:PS X st t)(h2:PSs X rest u):PSs X (st::rest) (Ve t u):=by
 intro pins s σ H D I h;refine wpAny_execs_cons (thn (h1 pins s σ H {D with nx:=u D} I h) fun f s1 q=>?_);cases f with
 | next=>
   obtain⟨σ',H',I',q⟩:=q;exact h2 pins s1 σ' H' D I' q
 | ret v=>exact q
 | brk=>exact q
 | cont=>exact q
theorem Inv.quiet{pins:List (Addr×Obj)}{σ:St}{H:Hp}{s:Shared}(I:Inv X pins σ H s):interactive X.env=false:=by simp[interactive,I.ok.kind]
noncomputable def U8(te:TE):TS:=fun D σ H=>te σ H fun _ H1=>D.nx σ H1
theorem Os(he:PE X e te)(hs:swapsWith e none pos.line X.env=pure false:=by rfl):PS X (.Expr e pos) (U8 te):=by
 intro pins s σ H D I h;exact wpAny_Expr_any (thn (he pins s σ H _ I h) fun v s1 ⟨x,H1,I1,r1,q1⟩=>⟨σ,H1,I1,q1⟩) I.quiet hs
noncomputable def Vf(te:TE):TS:=fun D σ H=>te σ H D.rt
theorem SA(he:PE X e te):PS X (.Return (some e) pos) (Vf te):=by
 intro pins s σ H D I h;exact wpAny_Return_some (thn (he pins s σ H _ I h) fun v s1 ⟨x,H1,I1,r1,q1⟩=>⟨x,σ,H1,I1,r1,q1⟩)
noncomputable def U9:TS:=fun D _ H=>D.rt .non H
theorem Ot:PS X (.Return none pos) U9:=fun _ _ σ H _ I h=>wpAny_Return_none ⟨.non,σ,H,I,rfl,h⟩
noncomputable def UA(c:TT)(t u:TS):TS:=fun D σ H=>c σ H fun b H1=>if b=true then t D σ H1 else u D σ H1
theorem UB{c:Expr}{a b:List Stmt}{tc:TT}(hc:PT X c tc)(ha:PSs X a t)(hb:PSs X b u):PS X (.If c a b pos) (UA tc t u):=by
 intro pins s σ H D I h;refine wpAny_If (thn (hc pins s σ H _ I h) fun d s1 ⟨H1,I1,q1⟩=>?_);cases d with
 | true=>exact ha pins s1 σ H1 D I1 q1
 | false=>exact hb pins s1 σ H1 D I1 q1
end
noncomputable abbrev TG:=V->St->Hp->(St->Hp->Prop)->Prop
noncomputable abbrev TGs:=List V->St->Hp->(St->Hp->Prop)->Prop
noncomputable def PG(X:Cx)(target:Expr)(t:TG):Prop:=
 ∀(pins:List (Addr×Obj)) (s:Shared) (σ:St) (H:Hp) (v:V) (u:Value) (Q:St->Hp->Prop),Inv X pins σ H s->RelV v u->t v σ H Q->
  wpAny (model X.prog X.w) X.A (assign target X.env u) (fun _ s'=>∃ σ' H',Inv X pins σ' H' s'/\Q σ' H') X.xe s
noncomputable def PGs(X:Cx)(ts:List Expr)(t:TGs):Prop:=
 ∀(pins:List (Addr×Obj)) (s:Shared) (σ:St) (H:Hp) (vs:List V) (us:List Value) (Q:St->Hp->Prop),Inv X pins σ H s->Vals vs us->t vs σ H Q->
  wpAny (model X.prog X.w) X.A (assignInOrder ((assignEach ts X.env).map (·.2)) us) (fun _ s'=>∃ σ' H',Inv X pins σ' H' s'/\Q σ' H') X.xe s
noncomputable abbrev Lu:=V->V->V->Hp->(Hp->Prop)->Prop
noncomputable def SB(X:Cx)(t:Lu):Prop:=
 ∀(pins:List (Addr×Obj)) (s:Shared) (σ:St) (H:Hp) (o i v:V) (ov iv u:Value) (Q:Hp->Prop),Inv X pins σ H s->RelV o ov->RelV i iv->RelV v u->t o i v H Q->
  wpAny (model X.prog X.w) X.A (setItem ov iv u) (fun _ s'=>∃ H',Inv X pins σ H' s'/\Q H') X.xe s
noncomputable abbrev TIp:=V->V->Hp->VK->Prop
noncomputable def PIp(X:Cx)(op:Operator)(t:TIp):Prop:=
 ∀(pins:List (Addr×Obj)) (s:Shared) (σ:St) (H:Hp) (x y:V) (v u:Value) (Q:VK),Inv X pins σ H s->RelV x v->RelV y u->t x y H Q->
  wpAny (model X.prog X.w) X.A (inplaceOp op v u) (EP X pins σ Q) X.xe s
section
variable{X:Cx}{pos:Pos}
noncomputable def Fv(i:Nat):TG:=fun v σ H Q=>Q (σ.set i (some v)) H
theorem Ou{i:Nat}{x:Str}(hN:X.N.Nodup)(hi:X.N[i]?=some x)(hx:Loc X.env.scope x)(hf:X.fn x=true\/X.env.scope.names.lookup x=some .local:=by first | exact .inl rfl | exact .inr rfl | assumption):PG X (.Name x pos) (Fv i):=by
 intro pins s σ H v u Q I r h;exact wpAny_assign_Name (Fu I hN hi hx r (fun s' I'=>⟨_,H,I',h⟩) hf)
noncomputable def Vg:TGs:=fun vs σ H Q=>vs=[]/\Q σ H
noncomputable def UC(t:TG)(u:TGs):TGs:=fun vs σ H Q=>∃ v r,vs=v::r/\t v σ H fun σ' H'=>u r σ' H' Q
theorem Ov:PGs X [] Vg:=by
 intro pins s σ H vs us Q I r h;obtain⟨e,h⟩:=h;subst e;cases r;exact assignInOrder_nil ⟨σ,H,I,h⟩
theorem Lw{e:Expr}{es:List Expr}{t:TG}{u:TGs}(h1:PG X e t)(h2:PGs X es u)
 (hs:(assignEach (e::es) X.env).map (·.2)=assign e X.env::(assignEach es X.env).map (·.2):=by rfl):PGs X (e::es) (UC t u):=by
 intro pins s σ H vs us Q I r h;obtain⟨v,vr,e1,h⟩:=h;subst e1;cases r with
 | cons r rr=>
   rw[hs];refine assignInOrder_cons (thn (h1 pins s σ H _ _ _ I r h) fun _ s1 ⟨σ1,H1,I1,q1⟩=>?_);exact h2 pins s1 σ1 H1 _ _ Q I1 rr q1
noncomputable def Vh(K:Vy)(n:Nat)(t:TGs):TG:=fun v σ H Q=>∃ a xs,v = .ref a/\SqT K H a xs/\xs.length=n/\t xs σ H Q
theorem SC{es:List Expr}{k:Nat}{t:TGs}{n:Nat}(hc:X.calm=true)(h:PGs X es t)
 (hn:(assignEach es X.env).length=n:=by rfl) (hst:(assignEach es X.env).findIdx? (·.1)=none:=by rfl):PG X (.Tuple es k pos) (Vh X.K n t):=by
 intro pins s σ H v u Q I r hw;obtain⟨a,xs,e1,hq,hl,hw⟩:=hw;subst e1;cases r;obtain⟨its,rv,ht,hz⟩:=I.tuple hq;refine assign_Tuple_tuple (I.ok.hd hc) ht (by simp[hn,<-hl,rv.length]) hst fun h' hx=>?_;have I1:Inv X pins σ H {s with heap:=h'}:=I.kept (t':=s.toks) fun b o e=>hx b o (WR (WH e)) e;exact h pins _ σ H xs _ Q I1 (by simpa using rv) hw
noncomputable def UD(to ti:TE)(t:Lu):TG:=fun v σ H Q=>to σ H fun o H1=>ti σ H1 fun i H2=>t o i v H2 fun H3=>Q σ H3
theorem SD{o i:Expr}{to ti:TE}{t:Lu}(ho:PE X o to)(hi:PE X i ti)(hs:SB X t)
 (ha:∀ v,assign (.Subscript o i pos) X.env v=(do
   let ov <- holding [v] (eval o X.env)
   let iv <- holding [v,ov] (eval i X.env)
   standAt pos
   holding [v,ov,iv] (setItem ov iv v)
   release [v,ov,iv] []):=by intro _;rfl):PG X (.Subscript o i pos) (UD to ti t):=by
 intro pins s σ H v u Q I r h;rw[ha];refine wpAny_bind (wpAny_holding (thn (ho pins s σ H _ I h) fun ov s1 ⟨x,H1,I1,r1,q1⟩=>?_));refine wpAny_bind (wpAny_holding (thn (hi pins s1 σ H1 _ I1 q1) fun iv s2 ⟨y,H2,I2,r2,q2⟩=>?_));refine wpAny_bind (wpAny_standAt (wpAny_bind (wpAny_holding (thn (hs pins s2 σ H2 x y v ov iv u _ I2 r1 r2 r q2) fun _ s3 ⟨H3,I3,q3⟩=>?_))));exact wpAny_release ⟨σ,H3,I3,q3⟩
noncomputable def Hf(te:TE)(g:TG):TS:=fun D σ H=>te σ H fun x H1=>g x σ H1 D.nx
theorem Lx{tg e:Expr}{te:TE}{g:TG}(he:PE X e te)(hg:PG X tg g)(hs:swapsWithSole [tg] e pos.line X.env=pure false:=by rfl)(hw:swappedStores [tg] e X.env=pure none:=by rfl)
 (h1:(assignEach [tg] X.env).map (·.2)=[assign tg X.env]:=by rfl):PS X (.Assign [tg] e pos) (Hf te g):=by
 intro pins s σ H D I h;refine wpAny_Assign_stores (thn (he pins s σ H _ I h) fun v s1 ⟨x,H1,I1,r1,q1⟩=>?_) hs hw;rw[h1];exact thn (hg pins s1 σ H1 x v _ I1 r1 q1) fun _ s2 q=>q
theorem SE{i:Nat}{x:Str}{e:Expr}{te:TE}{pos':Pos}(hN:X.N.Nodup)(hi:X.N[i]?=some x)(hx:Loc X.env.scope x)(he:PE X e te)(hs:swapsWith e (some (.Name x pos')) pos.line X.env=pure false:=by rfl)(hf:X.fn x=true\/X.env.scope.names.lookup x=some .local:=by first | exact .inl rfl | exact .inr rfl | assumption):
 PS X (.Assign [.Name x pos'] e pos) (Hf te (Fv i)):=by
 intro pins s σ H D I h;refine wpAny_Assign_Name (thn (he pins s σ H _ I h) fun v s1 ⟨y,H1,I1,r1,q1⟩=>?_) hs;exact Fu I1 hN hi hx r1 (fun s2 I2=>⟨_,H1,I2,q1⟩) hf
noncomputable def Qy(to ti te:TE)(tget:V->V->Hp->VK->Prop)(tip:TIp)(tset:Lu):TS:=fun D σ H=>to σ H fun o H1=>ti σ H1 fun i H2=>tget o i H2 fun x H3=>te σ H3 fun y H4=>tip x y H4 fun z H5=>tset o i z H5 fun H6=>D.nx σ H6
noncomputable def UE(X:Cx)(t:V->V->Hp->VK->Prop):Prop:=
 ∀(pins:List (Addr×Obj)) (s:Shared) (σ:St) (H:Hp) (o i:V) (ov iv:Value) (Q:VK),Inv X pins σ H s->RelV o ov->RelV i iv->t o i H Q->
  wpAny (model X.prog X.w) X.A (getItem ov iv) (EP X pins σ Q) X.xe s
theorem Ow{o i e:Expr}{to ti te:TE}{tget:V->V->Hp->VK->Prop}{tip:TIp}{tset:Lu}{op:Operator}{tpos:Pos}(ho:PE X o to)(hi:PE X i ti)(hg:UE X tget)(he:PE X e te)(hp:PIp X op tip)(hs:SB X tset)
 (ha:∀ ov iv new,augStore i ov iv new=(do holding [new,ov,iv] (setItem ov iv new);release [new,ov,iv] [];pure .next):=by intros;rfl):PS X (.AugAssign (.Subscript o i tpos) op e pos) (Qy to ti te tget tip tset):=by
 intro pins s σ H D I h;refine wpAny_AugAssign_SubscriptAny (thn (ho pins s σ H _ I h) fun ov s1 ⟨x1,H1,I1,r1,q1⟩=>?_) ha;refine thn (hi pins s1 σ H1 _ I1 q1) fun iv s2 ⟨x2,H2,I2,r2,q2⟩=>?_;refine thn (hg pins s2 σ H2 x1 x2 ov iv _ I2 r1 r2 q2) fun old s3 ⟨x3,H3,I3,r3,q3⟩=>?_;refine thn (he pins s3 σ H3 _ I3 q3) fun v s4 ⟨x4,H4,I4,r4,q4⟩=>?_;refine thn (hp pins s4 σ H4 x3 x4 old v _ I4 r3 r4 q4) fun new s5 ⟨x5,H5,I5,r5,q5⟩=>?_;exact thn (hs pins s5 σ H5 x1 x2 x5 ov iv new _ I5 r1 r2 r5 q5) fun _ s6 ⟨H6,I6,q6⟩=>⟨σ,H6,I6,q6⟩
noncomputable def ipI(f:Int->Int->Int):TIp:=fun x y H Q=>∃ i j,x = .int i/\y = .int j/\Q (.int (f i j)) H
theorem SF:PIp X .Add (ipI fun i j=>i+j):=by
 intro pins s σ H x y v u Q I r1 r2 h;obtain⟨i,j,e1,e2,q⟩:=h;subst e1;subst e2;obtain⟨t,rfl⟩:=r1;obtain⟨t',rfl⟩:=r2;exact iadd_int ⟨.int _,H,I.tok _,⟨_,rfl⟩,q⟩
end
section
variable{X:Cx}{pos:Pos}
noncomputable def Ly(c:TT)(tb:TS):TS:=fun D σ H=>∃ W:Nat->St->Hp->Prop,(∃ m,W m σ H)/\∀ m σ H,W m σ H->
 c σ H fun b H1=>if b=true then ∃ N:St->Hp->Prop,(∀ σ' H',N σ' H'->∃ m',m'<m/\W m' σ' H')/\tb {D with nx:=N,ct:=N,bk:=D.nx} σ H1 else D.nx σ H1
theorem Lz{c:Expr}{body:List Stmt}{tc:TT}{tb:TS}(hp:PassesOwn (model X.prog X.w) X.A X.env X.xe)(hc:PT X c tc)(hb:PSs X body tb):PS X (.While c body [] pos) (Ly tc tb):=by
 intro pins s σ H D I h;obtain⟨W,⟨m0,w0⟩,turn⟩:=h;refine wpAny_While (codeAny_whileLoop (fun n s'=>∃ σ' H',Inv X pins σ' H' s'/\W n σ' H') ?_ m0 ⟨σ,H,I,w0⟩);rintro n s1 ⟨σ1,H1,I1,w1⟩;refine wpAny_passesOwn hp (thn (hc pins s1 σ1 H1 _ I1 (turn n σ1 H1 w1)) fun b s2 ⟨H2,I2,q2⟩=>?_);cases b with
 | true=>
   obtain⟨N,hN,q2⟩:=q2;rw[if_pos rfl];refine wpAny_passesOwn hp (thn (hb pins s2 σ1 H2 _ I2 q2) fun f s3 q3=>?_);cases f with
   | next=>
     obtain⟨σ3,H3,I3,n3⟩:=q3;obtain⟨m',hm,w3⟩:=hN σ3 H3 n3;exact⟨m',hm,σ3,H3,I3,w3⟩
   | cont=>
     obtain⟨σ3,H3,I3,n3⟩:=q3;obtain⟨m',hm,w3⟩:=hN σ3 H3 n3;exact⟨m',hm,σ3,H3,I3,w3⟩
   | brk=>exact q3
   | ret v=>exact q3
 | false=>
   rw[if_neg WF];exact wpAny_execs_nil ⟨σ1,H2,I2,q2⟩
end
structure It where
 go:Nat->Hp->Prop
 yld:Nat->Hp->V->Hp->Prop
 stop:Nat->Hp->Prop
noncomputable def FpOk(X:Cx)(pins:List (Addr×Obj))(H:Hp)(b:Addr):Prop:=
 H b=none/\b≠X.env.locals/\b∉X.fs/\(b∈X.ex\/X.s₀.heap.objs.size<=b)/\(∀ x c,X.env.cells.lookup x=some c->c≠b)/\∀ p∈X.pn++pins,p.1≠b
theorem Inv.fpOk{X:Cx}{pins:List (Addr×Obj)}{σ:St}{H H':Hp}{s:Shared}{b:Addr}(I:Inv X pins σ H s)(hb:s.heap.objs.size<=b)(hn:H' b=none):FpOk X pins H' b:=by
 refine⟨hn,Zb (Wo I.lt hb),I.nofs hb,.inr (Wj I.sz hb),fun x c e z=>?_,fun p hp z=>?_⟩
 ·obtain⟨v,q⟩:=I.cell x c e;exact absurd (Wo q.lt (by rw[z];exact hb)) (XZ _)
 ·exact absurd (Wo (WH (I.pin p hp).1) (by rw[z];exact hb)) (XZ _)
structure Turn(P:Program)(w:World)(K:Vy)(tg:Expr)(J:It)(fp:List Addr)(it:Addr)(tn:Nat->Heap->Prop):Prop where
 mem:it∈fp
 obj:∀ i h,tn i h->∀ b∈fp,∃ o,h.get? b=some o/\∀ v,o.data ≠ .cell v
 keep:∀ i h h',tn i h->(∀ b∈fp,∀ o,h.get? b=some o->h'.get? b=some o)->tn i h'
 item:∀(X:Cx),X.prog=P->X.w=w->X.K=K->X.calm=true->∀(i:Nat) (pins:List (Addr×Obj)) (s:Shared) (σ:St) (H:Hp) (E:Value->Shared->Prop),Inv X pins σ H s->(∀ b∈fp,FpOk X pins H b)->tn i s.heap->J.go i H->
  wpAny (model P w) X.A (pyNext (.ref it)) (fun r s1=>∃ u,r=some u/\
   wpAny (model P w) X.A (letOwnedTupleGo tg (.ref it) u) (fun _ s2=>∃ x H',Inv X pins σ H' s2/\RelV x u/\J.yld i H x H'/\tn (i+1) s2.heap/\∀ b∈fp,H' b=none) E s1) E s
 done:∀(X:Cx),X.prog=P->X.w=w->X.K=K->X.calm=true->∀(i:Nat) (pins:List (Addr×Obj)) (s:Shared) (σ:St) (H:Hp) (E:Value->Shared->Prop),Inv X pins σ H s->(∀ b∈fp,FpOk X pins H b)->tn i s.heap->J.stop i H->
   wpAny (model P w) X.A (pyNext (.ref it)) (fun r s1=>r=none/\Inv X pins σ H s1) E s
 self:∀(A:Around) (i:Nat) (s:Shared) (Q:Value->Shared->Prop) (E:Value->Shared->Prop),tn i s.heap->Q (.ref it) s->wpAny (model P w) A (pyIter (.ref it)) Q E s
noncomputable abbrev TI:=St->Hp->(It->Hp->Prop)->Prop
noncomputable def PIE(X:Cx)(pins:List (Addr×Obj))(σ:St)(tg:Expr)(R:It->Hp->Prop)(itv:Value)(s2:Shared):Prop:=
 ∃(it:Addr) (fp:List Addr) (tn:Nat->Heap->Prop) (J:It) (H':Hp),itv = .ref it/\Inv X pins σ H' s2/\Turn X.prog X.w X.K tg J fp it tn/\tn 0 s2.heap/\(∀ b∈fp,FpOk X pins H' b)/\R J H'
noncomputable def PI(X:Cx)(tg iter:Expr)(wi:TI):Prop:=
 ∀(pins:List (Addr×Obj)) (s:Shared) (σ:St) (H:Hp) (R:It->Hp->Prop),Inv X pins σ H s->wi σ H R->
  wpAny (model X.prog X.w) X.A (eval iter X.env) (fun v s1=>wpAny (model X.prog X.w) X.A (pyIter v) (PIE X pins σ tg R) X.xe s1) X.xe s
theorem J0{M:Model}{A:Around}{E:Value->Shared->Prop}{s:Shared}{tg:Expr}{it:Addr}{u:Value}{o:Obj}{n:String}{vs:Array Value}{Q:Unit->Shared->Prop}(ho:s.heap.get? it=some o)(hc:o.cls = .type n)(hd:o.data = .fields vs)
 (hn:["enumerate","zip","dict_itemiterator","dict_reverseitemiterator","odict_iterator","itertools.zip_longest","itertools.pairwise"].contains n=false) (hQ:Q () s):wpAny M A (letOwnedTupleGo tg (.ref it) u) Q E s:=by
 unfold letOwnedTupleGo
 cases tg<;>first
  | exact wpAny_pure hQ
  | (cases u<;>first
      | exact wpAny_pure hQ
      | (refine wpAny_bind (wpAny_load ho ?_)
         rw[hc,hd];show wpAny M A (if (["enumerate","zip","dict_itemiterator","dict_reverseitemiterator","odict_iterator","itertools.zip_longest","itertools.pairwise"].contains n&&vs[0]? == some (rawInt _))=true then _ else _) Q E s;rw[if_neg (by intro h;rw[hn,Bool.false_and]at h;cases h)];exact wpAny_pure hQ))
noncomputable def Itl(K:Vy)(a:Addr):It:=
 ⟨fun i H=>∃ xs x,SqL K H a xs/\xs[i]?=some x,fun i H x H'=>H'=H/\∀ xs,SqL K H a xs->xs[i]?=some x,fun i H=>∃ xs,SqL K H a xs/\xs.length<=i⟩
noncomputable def Itt(K:Vy)(a:Addr):It:=
 ⟨fun i H=>∃ xs x,SqT K H a xs/\xs[i]?=some x,fun i H x H'=>H'=H/\∀ xs,SqT K H a xs->xs[i]?=some x,fun i H=>∃ xs,SqT K H a xs/\xs.length<=i⟩
noncomputable def Itr(lo:Int)(n:Nat):It:=⟨fun i _=>i<n,fun i H x H'=>H'=H/\x = .int (lo+i),fun i _=>n<=i⟩
theorem KG{P:Program}{w:World}{K:Vy}{tg:Expr}(a it:Addr):Turn P w K tg (Itl K a) [it] it (fun i h=>h.IsListIter it a i) where
 mem:=by simp
 obj:=fun i h st b hb=>by
  have e:b=it:=by simpa using hb
  subst e;obtain⟨o,e,c,d⟩:=st;exact⟨o,e,fun v z=>by rw[d]at z;cases z⟩
 keep:=fun i h h' st k=>st.at fun o e=>k it (by simp) o e
 item:=by
  intro X hP hw hK hc i pins s σ H E I hf st hg;subst hP hw hK;obtain⟨xs,x,hq,hx⟩:=hg;obtain⟨its,rv,p,hz⟩:=I.list hq;obtain⟨u,hu,ru⟩:=rv.get hx;obtain⟨f0,f1,f2,f3,f4,f5⟩:=hf it (by simp);refine wpAny_pyNext_list_item st p.isList (x:=u) (by simpa using hu) fun h' st' sb=>?_;have I1:Inv X pins σ H {s with heap:=h'}:=I.turned (t':=s.toks) (fun b o hb e=>(sb.2 b hb).trans e) f0 f1 f3 f4 f5;obtain⟨o,e,c,d⟩:=id st';exact⟨u,rfl,J0 (s:={s with heap:=h'}) e c d (by decide) ⟨x,H,I1,ru,⟨rfl,fun ys hy=>by rw[I.list_inj hy hq];exact hx⟩,st',fun b hb=>(hf b hb).1⟩⟩
 done:=by
   intro X hP hw hK hc i pins s σ H E I hf st hg;subst hP hw hK;obtain⟨xs,hq,hx⟩:=hg;obtain⟨its,rv,p,hz⟩:=I.list hq;obtain⟨f0,f1,f2,f3,f4,f5⟩:=hf it (by simp);have hl:=rv.length;exact wpAny_pyNext_list_end (I.ok.hd hc) st p.isList (by simp;omega) fun h' eb=>⟨rfl,I.turned (t':=s.toks) (fun b o hb e=>eb b o hb e) f0 f1 f3 f4 f5⟩
 self:=fun _ _ _ _ _ st h=>wpAny_pyIter_listiter st h
theorem Hg{P:Program}{w:World}{K:Vy}{tg:Expr}(a it:Addr):Turn P w K tg (Itt K a) [it] it (fun i h=>h.IsTupleIter it a i) where
 mem:=by simp
 obj:=fun i h st b hb=>by
  have e:b=it:=by simpa using hb
  subst e;obtain⟨o,e,c,d⟩:=st;exact⟨o,e,fun v z=>by rw[d]at z;cases z⟩
 keep:=fun i h h' st k=>st.at fun o e=>k it (by simp) o e
 item:=by
  intro X hP hw hK hc i pins s σ H E I hf st hg;subst hP hw hK;obtain⟨xs,x,hq,hx⟩:=hg;obtain⟨its,rv,p,hz⟩:=I.tuple hq;obtain⟨u,hu,ru⟩:=rv.get hx;obtain⟨f0,f1,f2,f3,f4,f5⟩:=hf it (by simp);refine wpAny_pyNext_tuple_item st (show s.heap.IsTuple a its.toArray from p) (x:=u) (by simpa using hu) fun h' st' sb=>?_;have I1:Inv X pins σ H {s with heap:=h'}:=I.turned (t':=s.toks) (fun b o hb e=>(sb.2 b hb).trans e) f0 f1 f3 f4 f5;obtain⟨o,e,c,d⟩:=id st';exact⟨u,rfl,J0 (s:={s with heap:=h'}) e c d (by decide) ⟨x,H,I1,ru,⟨rfl,fun ys hy=>by rw[I.tuple_inj hy hq];exact hx⟩,st',fun b hb=>(hf b hb).1⟩⟩
 done:=by
   intro X hP hw hK hc i pins s σ H E I hf st hg;subst hP hw hK;obtain⟨xs,hq,hx⟩:=hg;obtain⟨its,rv,p,hz⟩:=I.tuple hq;obtain⟨f0,f1,f2,f3,f4,f5⟩:=hf it (by simp);have hl:=rv.length;exact wpAny_pyNext_tuple_end (I.ok.hd hc) st (show s.heap.IsTuple a its.toArray from p) (by simp;omega) fun h' eb=>⟨rfl,I.turned (t':=s.toks) (fun b o hb e=>eb b o hb e) f0 f1 f3 f4 f5⟩
 self:=fun _ _ _ _ _ st h=>wpAny_pyIter_tupleiter st h
theorem Hh{P:Program}{w:World}{K:Vy}{tg:Expr}(it:Addr)(lo:Int)(n:Nat):Turn P w K tg (Itr lo n) [it] it (fun i h=>IsRangeIter h it (lo+(i:Nat) * 1) ((n:Int) - (i:Nat)) 1) where
 mem:=by simp
 obj:=fun i h st b hb=>by
  have e:b=it:=by simpa using hb
  subst e
  exact⟨_,st,fun v z=>by
   have z':Data.fields _=Data.cell v:=z;cases z'⟩
 keep:=fun i h h' st k=>k it (by simp) _ st
 item:=by
  intro X hP hw hK hc i pins s σ H E I hf st hg;subst hP hw hK;obtain⟨f0,f1,f2,f3,f4,f5⟩:=hf it (by simp);have W:=Walks.range (prog:=X.prog) (w:=X.w) (I.ok.hd hc) it lo 1 n;refine W.item i s _ _ hg st fun v h' tk hv st' kk=>?_;obtain⟨t,rfl⟩:=hv;have I1:Inv X pins σ H {s with heap:=h',toks:=tk}:=I.turned (fun b o hb e=>kk b o (by simpa using hb) e) f0 f1 f3 f4 f5;refine⟨_,rfl,J0 (s:={s with heap:=h',toks:=tk}) (n:="range_iterator") st' rfl rfl (by decide) ⟨.int (lo+i),H,I1,⟨t,?_⟩,⟨rfl,rfl⟩,st',fun b hb=>(hf b hb).1⟩⟩;rw[Int.mul_one]
 done:=by
   intro X hP hw hK hc i pins s σ H E I hf st hg;subst hP hw hK;obtain⟨f0,f1,f2,f3,f4,f5⟩:=hf it (by simp);exact wpAny_pyNext_range_end (I.ok.hd hc) st (by have:n<=i:=hg;omega) fun h' eb=>⟨rfl,I.turned (t':=s.toks) (fun b o hb e=>eb b o hb e) f0 f1 f3 f4 f5⟩
 self:=fun _ _ _ _ _ st h=>wpAny_pyIter_rangeiter st h
open PySem PySem.Spec PyProof.Rows
section
variable{X:Cx}{tg:Expr}
theorem M5{pins:List (Addr×Obj)}{σ:St}{H:Hp}{s:Shared}{R:It->Hp->Prop}{E:Value->Shared->Prop}{lo hi:Int}{t u v:Tok}{tk:Nat}(I:Inv X pins σ H s)(h1:-(2 ^ 62)<=lo)(h2:lo<2 ^ 62)(h3:-(2 ^ 62)<=hi)(h4:hi<2 ^ 62)
 (q:R (Itr lo (hi - lo).toNat) H):wpAny (model X.prog X.w) X.A (pyIter (.ref s.heap.objs.size)) (PIE X pins σ tg R) E {s with heap:=s.heap.push {cls := .type "range",data := .fields #[.int lo t,.int hi u,.int 1 v]},toks:=tk}:=by
 refine wpAny_pyIter_range (IsRange.new ..) (small_one h1 h2 h3 h4) ?_;have I1:Inv X pins σ H {s with heap:=s.heap.push {cls := .type "range",data := .fields #[.int lo t,.int hi u,.int 1 v]},toks:=tk}:=I.kept fun b o e=>W8 _ e
 refine⟨(s.heap.push {cls := .type "range",data := .fields #[.int lo t,.int hi u,.int 1 v]}).objs.size,[(s.heap.push {cls := .type "range",data := .fields #[.int lo t,.int hi u,.int 1 v]}).objs.size],_,_,H,rfl,
  I1.kept (t':=tk) fun b o e=>W8 _ e,Hh _ lo (hi - lo).toNat,?_,fun b hb=>?_,q⟩
 ·have e1:lo+((0:Nat):Int) * 1=lo:=by simp
  have e2:(((hi - lo).toNat:Nat):Int) - ((0:Nat):Int)=Builtin.Range.rangeSize lo hi 1:=by rw[rangeSize_one];split<;>omega
  show IsRangeIter _ _ (lo+((0:Nat):Int) * 1) ((((hi - lo).toNat:Nat):Int) - ((0:Nat):Int)) 1;rw[e1,e2];exact WL _ rfl
 ·have e:b=(s.heap.push {cls := .type "range",data := .fields #[.int lo t,.int hi u,.int 1 v]}).objs.size:=by simpa using hb
  subst e;exact I1.fpOk (WB _) (I1.hok.fresh (WB _))
noncomputable def UF(ta:TA):TI:=fun σ H R=>ta σ H fun vs H1=>∃ j:Int,vs=[.int j] /\ -(2 ^ 62)<=j/\j<2 ^ 62/\R (Itr 0 j.toNat) H1
theorem KH{a:Expr}{ta:TA}{p pos:Pos}(hg:Gl X "range")(hm:X.mg "range"=none)(ha:PA X [a] ta)(hs:starEach [a] X.env=[(false,eval a X.env)]:=by rfl):PI X tg (.Call (.Name "range" p) [a] [] pos) (UF ta):=by
 intro pins s σ H R I h;refine Call_ (AY I hg hm boot_range (PyProof.Rows.callWith_type1 (thn (ha pos pins s σ H _ I h) fun us s1 ⟨vs,H1,I1,r1,q1⟩=>?_) hs rfl));obtain⟨j,e,q1,q2,q⟩:=q1;subst e;cases r1 with
 | cons r rr=>
   cases rr;obtain⟨t,rfl⟩:=r;exact call_range_1 (M5 I1 (by omega) (by omega) q1 q2 (by simpa using q))
noncomputable def UG(wi:TI)(g:TG)(tb:TS):TS:=fun D σ H=>wi σ H fun J H1=>∃ W:Nat->Nat->St->Hp->Prop,(∃ m,W 0 m σ H1)/\∀ i m σ H,W i m σ H->
 (J.stop i H/\D.nx σ H)\/(J.go i H/\∃ N:St->Hp->Prop,(∀ σ' H',N σ' H'->∃ m',m'<m/\W (i+1) m' σ' H')/\∀ x H',J.yld i H x H'->g x σ H' fun σ2 H2=>tb {D with nx:=N,ct:=N,bk:=D.nx} σ2 H2)
noncomputable def C5(fp:List Addr)(h:Heap):List (Addr×Obj):=fp.filterMap fun b=>(h.get? b).map fun o=>(b,o)
theorem BE{fp:List Addr}{h:Heap}{b:Addr}{o:Obj}(hb:b∈fp)(e:h.get? b=some o):(b,o)∈C5 fp h:=Ya.mpr ⟨b,hb,by rw[e];rfl⟩
theorem KI{fp:List Addr}{h:Heap}{p:Addr×Obj}(hp:p∈C5 fp h):p.1∈fp/\h.get? p.1=some p.2:=by
 obtain⟨b,hb,e⟩:=Ya.mp hp;cases q:h.get? b with
 | none=>rw[q]at e;cases e
 | some o=>
   rw[q]at e;have e':(b,o)=p:=oj e;subst e';exact⟨hb,q⟩
theorem Inv.pinned{pins:List (Addr×Obj)}{σ:St}{H:Hp}{s:Shared}{fp:List Addr}(I:Inv X pins σ H s)(hf:∀ b∈fp,FpOk X pins H b)(ho:∀ b∈fp,∃ o,s.heap.get? b=some o/\∀ v,o.data ≠ .cell v):Inv X (pins++C5 fp s.heap) σ H s:=
 I.pins_of fun p hp=>(WJ.mp hp).elim (fun z=>I.pin p (Wd _ z)) fun z=>by
  obtain⟨hb,e⟩:=KI z;obtain⟨f0,f1,f2,_⟩:=hf p.1 hb;obtain⟨o,e',d⟩:=ho p.1 hb;rw[e]at e';cases e';exact⟨e,f0,f1,f2,d⟩
theorem Inv.unpinned{pins pl:List (Addr×Obj)}{σ:St}{H:Hp}{s:Shared}(I:Inv X (pins++pl) σ H s):Inv X pins σ H s:=I.pins_of fun p hp=>I.pin p (Wd _ (WQ _ hp))
theorem SG{iter:Expr}{body:List Stmt}{wi:TI}{g:TG}{tb:TS}{pos:Pos}(hp:PassesOwn (model X.prog X.w) X.A X.env X.xe)(hc:X.calm=true)(hi:PI X tg iter wi)(hg:PG X tg g)(hb:PSs X body tb)
 (hs:∀ x,foldedSetIterable iter X.env x=pure x:=by intro _;rfl):PS X (.For tg iter body [] pos) (UG wi g tb):=by
 intro pins s σ H D I h;refine wpAny_For (thn (hi pins s σ H _ I h) fun v s1 h1=>thn h1 fun itv s2 h2=>?_) hs;obtain⟨it,fp,tn,J,H2,e,I2,T,st2,f2,W,⟨m0,w0⟩,turn⟩:=h2;subst e;have stat:∀{H':Hp},(∀ b∈fp,H' b=none)->∀ b∈fp,FpOk X pins H' b:=fun hn b hb=>⟨hn b hb,(f2 b hb).2⟩
 refine codeAny_forLoop_any (fun n s'=>∃ i σ' H',Inv X pins σ' H' s'/\tn i s'.heap/\(∀ b∈fp,H' b=none)/\W i n σ' H') ?_ m0 ⟨0,σ,H2,I2,st2,fun b hb=>(f2 b hb).1,w0⟩;rintro n s3 ⟨i,σ3,H3,I3,st3,fr3,w3⟩;rcases turn i n σ3 H3 w3 with⟨stop,qn⟩ | ⟨go,N,hN,step⟩
 ·refine wpAny_passesOwn hp (thn (T.done X rfl rfl rfl hc i pins s3 σ3 H3 X.xe I3 (stat fr3) st3 stop) fun r s4 ⟨hr,I4⟩=>?_);subst hr;exact wpAny_execs_nil ⟨σ3,H3,I4,qn⟩
 ·refine wpAny_passesOwn hp (thn (T.item X rfl rfl rfl hc i pins s3 σ3 H3 X.xe I3 (stat fr3) st3 go) fun r s4 ⟨u,hr,h4⟩=>?_);subst hr;refine wpAny_passesOwn hp (thn h4 fun _ s5 ⟨x,H5,I5,r5,y5,st5,fr5⟩=>?_);have I5':=I5.pinned (stat fr5) (T.obj _ _ st5);refine wpAny_passesOwn hp (thn (hg _ s5 σ3 H5 x u _ I5' r5 (step x H5 y5)) fun _ s6 ⟨σ6,H6,I6,q6⟩=>?_);refine wpAny_passesOwn hp (thn (hb _ s6 σ6 H6 _ I6 q6) fun f s7 q7=>?_)
  have again:∀{σ7:St} {H7:Hp},Inv X (pins++C5 fp s5.heap) σ7 H7 s7->N σ7 H7->∃ m,m<n/\∃ i σ' H',Inv X pins σ' H' s7/\tn i s7.heap/\(∀ b∈fp,H' b=none)/\W i m σ' H':=fun{σ7 H7} I7 n7=>by
   obtain⟨m',hm,w7⟩:=hN σ7 H7 n7;refine⟨m',hm,i+1,σ7,H7,I7.unpinned,T.keep _ _ _ st5 fun b hb o e=>(I7.pin (b,o) (Wd _ (Wd _ (BE hb e)))).1,fun b hb=>?_,w7⟩;obtain⟨o,e,d⟩:=T.obj _ _ st5 b hb;exact(I7.pin (b,o) (Wd _ (Wd _ (BE hb e)))).2.1
  cases f with
  | next=>obtain⟨σ7,H7,I7,n7⟩:=q7;exact again I7 n7
  | cont=>obtain⟨σ7,H7,I7,n7⟩:=q7;exact again I7 n7
  | brk=>obtain⟨σ7,H7,I7,q7⟩:=q7;exact⟨σ7,H7,I7.unpinned,q7⟩
  | ret v=>obtain⟨x7,σ7,H7,I7,r7,q7⟩:=q7;exact⟨x7,σ7,H7,I7.unpinned,r7,q7⟩
end
open PySem PySem.Spec PyProof.Rows
noncomputable abbrev R2:=V->V->Hp->VK->Prop
noncomputable def OpR(X:Cx)(f:Value->Value->Sem Value)(r:R2):Prop:=
 ∀(pins:List (Addr×Obj)) (s:Shared) (σ:St) (H:Hp) (x y:V) (v u:Value) (Q:VK),Inv X pins σ H s->RelV x v->RelV y u->r x y H Q->
  wpAny (model X.prog X.w) X.A (f v u) (EP X pins σ Q) X.xe s
noncomputable def UnR(X:Cx)(f:Value->Sem Value)(r:V->Hp->VK->Prop):Prop:=
 ∀(pins:List (Addr×Obj)) (s:Shared) (σ:St) (H:Hp) (x:V) (v:Value) (Q:VK),Inv X pins σ H s->RelV x v->r x H Q->
  wpAny (model X.prog X.w) X.A (f v) (EP X pins σ Q) X.xe s
noncomputable def CallR(X:Cx)(f:Value)(r:List V->Hp->VK->Prop):Prop:=
 ∀(pins:List (Addr×Obj)) (s:Shared) (σ:St) (H:Hp) (xs:List V) (us:List Value) (Q:VK),Inv X pins σ H s->Vals xs us->r xs H Q->
  wpAny (model X.prog X.w) X.A (call f us) (EP X pins σ Q) X.xe s
noncomputable def Vi(X:Cx)(r:V->Hp->(Bool->Hp->Prop)->Prop):Prop:=
 ∀(pins:List (Addr×Obj)) (s:Shared) (σ:St) (H:Hp) (x:V) (v:Value) (Q:Bool->Hp->Prop),Inv X pins σ H s->RelV x v->r x H Q->
  wpAny (model X.prog X.w) X.A (truthy v) (TP X pins σ Q) X.xe s
noncomputable def tOp(r:R2)(ta tb:TE):TE:=fun σ H Q=>ta σ H fun x H1=>tb σ H1 fun y H2=>r x y H2 Q
noncomputable def tUn(r:V->Hp->VK->Prop)(ta:TE):TE:=fun σ H Q=>ta σ H fun x H1=>r x H1 Q
noncomputable def rI(C:Int->Int->Prop)(g:Int->Int->V):R2:=fun x y H Q=>∃ i j,x = .int i/\y = .int j/\C i j/\Q (g i j) H
noncomputable def rI0(g:Int->Int->V):R2:=fun x y H Q=>∃ i j,x = .int i/\y = .int j/\Q (g i j) H
noncomputable def rU(g:Int->V):V->Hp->VK->Prop:=fun x H Q=>∃ i,x = .int i/\Q (g i) H
section
variable{X:Cx}{a b c:Expr}{ta tb tc:TE}{pos:Pos}
theorem SH(ha:PE X a ta)(hb:PE X b tb){pins:List (Addr×Obj)}{s:Shared}{σ:St}{H:Hp}{R:V->V->Hp->Prop}(I:Inv X pins σ H s)
 (h:ta σ H fun x H1=>tb σ H1 fun y H2=>R x y H2) {Q:Value->Shared->Prop} {f:Value->Value->Sem Value}
 (hf:∀ v u s2 x y H2,Inv X pins σ H2 s2->RelV x v->RelV y u->R x y H2->wpAny (model X.prog X.w) X.A (f v u) Q X.xe s2):
 wpAny (model X.prog X.w) X.A (eval a X.env) (fun v s₁=>wpAny (model X.prog X.w) X.A (eval b X.env) (fun u s₂=>wpAny (model X.prog X.w) X.A (f v u) Q X.xe s₂) X.xe s₁) X.xe s:=by
 refine thn (ha pins s σ H _ I h) fun v s1 ⟨x,H1,I1,r1,q1⟩=>?_;refine thn (hb pins s1 σ H1 _ I1 q1) fun u s2 ⟨y,H2,I2,r2,q2⟩=>?_;exact hf v u s2 x y H2 I2 r1 r2 q2
theorem UH{op:Operator}{r:R2}(ho:OpR X (binaryOp op) r)(ha:PE X a ta)(hb:PE X b tb):PE X (.BinOp a op b pos) (tOp r ta tb):=by
 intro pins s σ H Q I h;exact wpAny_BinOp (SH ha hb I h fun v u s2 x y H2 I2 rx ry q=>ho pins s2 σ H2 x y v u Q I2 rx ry q)
theorem Qz{op:UnaryOp}{r:V->Hp->VK->Prop}(ho:UnR X (unaryOp op) r)(ha:PE X a ta):PE X (.UnaryOp op a pos) (tUn r ta):=by
 intro pins s σ H Q I h;exact UnaryOp_ (thn (ha pins s σ H _ I h) fun v s1 ⟨x,H1,I1,r1,q1⟩=>ho pins s1 σ H1 x v Q I1 r1 q1)
theorem opI{f:Value->Value->Sem Value}{C:Int->Int->Prop}{g:Int->Int->Int}
 (rule:∀(i j:Int) (t u:Tok) (s:Shared) (Q:Value->Shared->Prop) (E:Value->Shared->Prop),C i j->Q (.int (g i j) s.toks) {s with toks:=s.toks+1}->wpAny (model X.prog X.w) X.A (f (.int i t) (.int j u)) Q E s):
 OpR X f (rI C fun i j => .int (g i j)):=by
 intro pins s σ H x y v u Q I rx ry h;obtain⟨i,j,rfl,rfl,hc,q⟩:=h;obtain⟨t,rfl⟩:=rx;obtain⟨t',rfl⟩:=ry;exact rule i j t t' s _ _ hc ⟨.int (g i j),H,I.tok _,⟨_,rfl⟩,q⟩
theorem UI{f:Value->Value->Sem Value}{g:Int->Int->Int}
 (rule:∀(i j:Int) (t u:Tok) (s:Shared) (Q:Value->Shared->Prop) (E:Value->Shared->Prop),Q (.int (g i j) s.toks) {s with toks:=s.toks+1}->wpAny (model X.prog X.w) X.A (f (.int i t) (.int j u)) Q E s):
 OpR X f (rI0 fun i j => .int (g i j)):=by
 intro pins s σ H x y v u Q I rx ry h;obtain⟨i,j,rfl,rfl,q⟩:=h;obtain⟨t,rfl⟩:=rx;obtain⟨t',rfl⟩:=ry;exact rule i j t t' s _ _ ⟨.int (g i j),H,I.tok _,⟨_,rfl⟩,q⟩
theorem Ox{f:Value->Value->Sem Value}{g:Int->Int->Bool}
 (rule:∀(i j:Int) (t u:Tok) (s:Shared) (Q:Value->Shared->Prop) (E:Value->Shared->Prop),Q (.bool (g i j)) s->wpAny (model X.prog X.w) X.A (f (.int i t) (.int j u)) Q E s):
 OpR X f (rI0 fun i j => .bl (g i j)):=by
 intro pins s σ H x y v u Q I rx ry h;obtain⟨i,j,rfl,rfl,q⟩:=h;obtain⟨t,rfl⟩:=rx;obtain⟨t',rfl⟩:=ry;exact rule i j t t' s _ _ ⟨.bl (g i j),H,I,rfl,q⟩
noncomputable def UJ(i j:Int):Prop:=0<j/\j<1073741824
noncomputable def UK(i j:Int):Prop:=0<=j/\j<=1000000/\i.natAbs<2 ^ 64
noncomputable def CMul(i j:Int):Prop:=(-(2 ^ 64)<i/\i<2 ^ 64)\/(-(2 ^ 64)<j/\j<2 ^ 64)
theorem CMul.ok{i j:Int}(h:CMul i j):IntMulOk i j:=by
 rcases h with⟨h1,h2⟩ | ⟨h1,h2⟩
 ·exact .of_left (intBits_le_64 h1 h2)
 ·exact .of_right (intBits_le_64 h1 h2)
theorem op_add:OpR X (binaryOp .Add) (rI0 fun i j => .int (i+j)):=UI fun _ _ _ _ _ _ _ q=>add_int q
theorem SJ:OpR X (binaryOp .Sub) (rI0 fun i j => .int (i - j)):=UI fun _ _ _ _ _ _ _ q=>sub_int q
theorem op_mul:OpR X (binaryOp .Mult) (rI CMul fun i j => .int (i * j)):=opI fun _ _ _ _ _ _ _ hc q=>mul_int q hc.ok
theorem Oy:OpR X (binaryOp .FloorDiv) (rI UJ fun i j => .int (i / j)):=opI fun i j _ _ _ _ _ hc q=>by
 have h1:(0:Int)<j:=hc.1;have h2:j<1073741824:=hc.2;exact floordiv_int (by omega) (by rw[Int.fdiv_eq_ediv_of_nonneg i (by omega)];exact q) (.inl (PyProof.noPylong_small (by omega)))
theorem SK:OpR X (binaryOp .Mod) (rI (fun _ j=>0<j) fun i j => .int (i % j)):=opI fun i j _ _ _ _ _ hc q=>by
 have h1:(0:Int)<j:=hc;exact mod_int' (by omega) (by rw[Int.fmod_eq_emod_of_nonneg i (by omega)];exact q)
theorem SL:OpR X (binaryOp .Pow) (rI UK fun i j => .int (i ^ j.toNat)):=opI fun _ _ _ _ _ _ _ hc q=>pow_int_small hc.1 hc.2.1 hc.2.2 q
theorem unI{f:Value->Sem Value}{g:Int->Int}
 (rule:∀(i:Int) (t:Tok) (s:Shared) (Q:Value->Shared->Prop) (E:Value->Shared->Prop),Q (.int (g i) s.toks) {s with toks:=s.toks+1}->wpAny (model X.prog X.w) X.A (f (.int i t)) Q E s):
 UnR X f (rU fun i => .int (g i)):=by
 intro pins s σ H x v Q I rx h;obtain⟨i,rfl,q⟩:=h;obtain⟨t,rfl⟩:=rx;exact rule i t s _ _ ⟨.int (g i),H,I.tok _,⟨_,rfl⟩,q⟩
theorem M6:UnR X (unaryOp .USub) (rU fun i => .int (-i)):=unI fun _ _ _ _ _ q=>neg_int q
end
noncomputable def SM:V->V->Bool
 | .non,.non=>true | .non,.int _=>true | .int _,.non=>true | .non,.bl _=>true | .bl _,.non=>true | .non,.str _=>true | .str _,.non=>true
 | .int _,.int _=>true | .bl _,.bl _=>true | .str _,.str _=>true | .byt _,.byt _=>true
 | .int _,.str _=>true | .str _,.int _=>true | .bl _,.str _=>true | .str _,.bl _=>true
 | _,_=>false
noncomputable def rEq:R2:=fun x y H Q=>SM x y=true/\Q (.bl (decide (x=y))) H
noncomputable def rNe:R2:=fun x y H Q=>SM x y=true/\Q (.bl (!decide (x=y))) H
theorem J1{i j:Int}:decide (V.int i=V.int j)=(i == j):=by
 rw[XU];simp
theorem M7{i j:Bool}:decide (V.bl i=V.bl j)=(i == j):=by
 rw[XU];simp
theorem J2{i j:Str}:decide (V.str i=V.str j)=(i == j):=by
 rw[XU];simp
theorem J3{i j:Array UInt8}:decide (V.byt i=V.byt j)=(i.toList == j.toList):=by
 rw[XU];cases i;cases j;simp
section
variable{X:Cx}{a b c:Expr}{ta tb tc:TE}{pos:Pos}
theorem g9{pins:List (Addr×Obj)}{σ:St}{H:Hp}{s:Shared}{Q:VK}{k k':Bool}(I:Inv X pins σ H s)(q:Q (.bl k) H)(e:k=k'):EP X pins σ Q (.bool k') s:=by
 subst e;exact⟨.bl k,H,I,rfl,q⟩
theorem op_eq:OpR X (compareOp .Eq) rEq:=by
 intro pins s σ H x y v u Q I rx ry h;obtain⟨hs,q⟩:=h;cases x with
 | non=>
   cases rx;cases y with
   | non=>cases ry;exact PySem.EqNone.eq_none_none (g9 I q (by simp))
   | bl j=>cases ry;exact PySem.EqNone.eq_none_bool (g9 I q (by simp))
   | int j=>obtain⟨t',rfl⟩:=ry;exact PySem.EqNone.eq_none_int (g9 I q (by simp))
   | str j=>obtain⟨t',rfl⟩:=ry;exact PySem.EqNone.eq_none_str (g9 I q (by simp))
   | _=>exact absurd (show false=true from hs) WF
 | bl i=>
   cases rx;cases y with
   | non=>cases ry;exact PySem.EqNone.eq_bool_none (g9 I q (by simp))
   | bl j=>cases ry;exact eq_bool (g9 I q M7)
   | str j=>obtain⟨t',rfl⟩:=ry;exact PySem.EqMixed.eq_bool_str (g9 I q (by simp))
   | _=>exact absurd (show false=true from hs) WF
 | int i=>
   obtain⟨t,rfl⟩:=rx;cases y with
   | non=>cases ry;exact PySem.EqNone.eq_int_none (g9 I q (by simp))
   | int j=>obtain⟨t',rfl⟩:=ry;exact eq_int (g9 I q J1)
   | str j=>obtain⟨t',rfl⟩:=ry;exact PySem.EqMixed.eq_int_str (g9 I q (by simp))
   | _=>exact absurd (show false=true from hs) WF
 | str i=>
   obtain⟨t,rfl⟩:=rx;cases y with
   | non=>cases ry;exact PySem.EqNone.eq_str_none (g9 I q (by simp))
   | bl j=>cases ry;exact PySem.EqMixed.eq_str_bool (g9 I q (by simp))
   | int j=>obtain⟨t',rfl⟩:=ry;exact PySem.EqMixed.eq_str_int (g9 I q (by simp))
   | str j=>obtain⟨t',rfl⟩:=ry;exact eq_str (g9 I q J2)
   | _=>exact absurd (show false=true from hs) WF
 | byt i=>
   obtain⟨t,rfl⟩:=rx;cases y with
   | byt j=>obtain⟨t',rfl⟩:=ry;exact PySem.W.eq_bytes (g9 I q J3)
   | _=>exact absurd (show false=true from hs) WF
 | _=>cases y<;>exact absurd (show false=true from hs) WF
theorem op_ne:OpR X (compareOp .NotEq) rNe:=by
 intro pins s σ H x y v u Q I rx ry h;obtain⟨hs,q⟩:=h;cases x with
 | non=>
   cases rx;cases y with
   | non=>cases ry;exact PySem.EqNone.ne_none_none (g9 I q (by simp))
   | bl j=>cases ry;exact PySem.EqNone.ne_none_bool (g9 I q (by simp))
   | int j=>obtain⟨t',rfl⟩:=ry;exact PySem.EqNone.ne_none_int (g9 I q (by simp))
   | str j=>obtain⟨t',rfl⟩:=ry;exact PySem.EqNone.ne_none_str (g9 I q (by simp))
   | _=>exact absurd (show false=true from hs) WF
 | bl i=>
   cases rx;cases y with
   | non=>cases ry;exact PySem.EqNone.ne_bool_none (g9 I q (by simp))
   | bl j=>cases ry;exact ne_bool (g9 I q (congrArg not M7))
   | str j=>obtain⟨t',rfl⟩:=ry;exact PySem.EqMixed.ne_bool_str (g9 I q (by simp))
   | _=>exact absurd (show false=true from hs) WF
 | int i=>
   obtain⟨t,rfl⟩:=rx;cases y with
   | non=>cases ry;exact PySem.EqNone.ne_int_none (g9 I q (by simp))
   | int j=>obtain⟨t',rfl⟩:=ry;exact ne_int (g9 I q (congrArg not J1))
   | str j=>obtain⟨t',rfl⟩:=ry;exact PySem.EqMixed.ne_int_str (g9 I q (by simp))
   | _=>exact absurd (show false=true from hs) WF
 | str i=>
   obtain⟨t,rfl⟩:=rx;cases y with
   | non=>cases ry;exact PySem.EqNone.ne_str_none (g9 I q (by simp))
   | bl j=>cases ry;exact PySem.EqMixed.ne_str_bool (g9 I q (by simp))
   | int j=>obtain⟨t',rfl⟩:=ry;exact PySem.EqMixed.ne_str_int (g9 I q (by simp))
   | str j=>obtain⟨t',rfl⟩:=ry;exact ne_str (g9 I q (congrArg not J2))
   | _=>exact absurd (show false=true from hs) WF
 | byt i=>
   obtain⟨t,rfl⟩:=rx;cases y with
   | byt j=>obtain⟨t',rfl⟩:=ry;exact PySem.W.ne_bytes (g9 I q (congrArg not J3))
   | _=>exact absurd (show false=true from hs) WF
 | _=>cases y<;>exact absurd (show false=true from hs) WF
theorem UL:OpR X (compareOp .Lt) (rI0 fun i j => .bl (decide (i<j))):=Ox fun _ _ _ _ _ _ _ q=>lt_int q
theorem UM:OpR X (compareOp .LtE) (rI0 fun i j => .bl (decide (i<=j))):=Ox fun _ _ _ _ _ _ _ q=>le_int q
theorem UN:OpR X (compareOp .Gt) (rI0 fun i j => .bl (decide (j<i))):=Ox fun _ _ _ _ _ _ _ q=>gt_int q
theorem UO:OpR X (compareOp .GtE) (rI0 fun i j => .bl (decide (j<=i))):=Ox fun _ _ _ _ _ _ _ q=>ge_int q
theorem SN:OpR X (compareOp .Is) (fun x y H Q=>y = .non/\Q (.bl (decide (x = .non))) H):=by
 intro pins s σ H x y v u Q I rx ry h;obtain⟨rfl,q⟩:=h;cases ry;refine is_none_gen (g9 I q ?_)
 cases x<;>first
  | (cases rx;rfl)
  | (obtain⟨t,rfl⟩:=rx;rfl)
theorem op_notN:OpR X (compareOp .IsNot) (fun x y H Q=>y = .non/\Q (.bl (!decide (x = .non))) H):=by
 intro pins s σ H x y v u Q I rx ry h;obtain⟨rfl,q⟩:=h;cases ry;refine isnot_none_gen (g9 I q ?_)
 cases x<;>first
  | (cases rx;rfl)
  | (obtain⟨t,rfl⟩:=rx;rfl)
theorem OpR.or{f:Value->Value->Sem Value}{r r':R2}(h:OpR X f r)(h':OpR X f r'):OpR X f (fun x y H Q=>r x y H Q\/r' x y H Q):=by
 intro pins s σ H x y v u Q I rx ry q;rcases q with q | q
 ·exact h pins s σ H x y v u Q I rx ry q
 ·exact h' pins s σ H x y v u Q I rx ry q
theorem Ev{op:CmpOp}{r:R2}(ho:OpR X (compareOp op) r)(ha:PE X a ta)(hb:PE X b tb)(hm:behindInMarks op b=false):PE X (.Compare a [op] [b] pos) (tOp r ta tb):=by
 intro pins s σ H Q I h;exact wpAny_Compare1 (SH ha hb I h fun v u s2 x y H2 I2 rx ry q=>ho pins s2 σ H2 x y v u Q I2 rx ry q) hm
noncomputable def R3(t:TE):TT:=fun σ H Q=>t σ H fun x H'=>∃ k,x = .bl k/\Q k H'
theorem Ey{op:CmpOp}{r:R2}(ho:OpR X (compareOp op) r)(ha:PE X a ta)(hb:PE X b tb)(hm:behindInMarks op b=false):PT X (.Compare a [op] [b] pos) (R3 (tOp r ta tb)):=by
 intro pins s σ H Q I h
 refine wpAny_isTrue_Compare1 (thn (ha pins s σ H _ I h) fun v s1 ⟨x,H1,I1,r1,q1⟩=>thn (hb pins s1 σ H1 _ I1 q1) fun u s2 ⟨y,H2,I2,r2,q2⟩=>
  thn (ho pins s2 σ H2 x y v u _ I2 r1 r2 q2) fun c s3 ⟨z,H3,I3,r3,k,e,q3⟩=>?_) hm
 subst e;cases r3;exact wpAny_truthy_bool ⟨H3,I3,q3⟩
noncomputable def Hi(r r':R2)(ta tb tc:TE):TE:=fun σ H Q=>ta σ H fun x H1=>tb σ H1 fun y H2=>r x y H2 fun z H3=>∃ k,z = .bl k/\
 (if k=true then tc σ H3 fun w' H4=>r' y w' H4 Q else Q (.bl false) H3)
theorem M8{op op':CmpOp}{r r':R2}(ho:OpR X (compareOp op) r)(ho':OpR X (compareOp op') r')(ha:PE X a ta)(hb:PE X b tb)(hc:PE X c tc)
 (hm:lastMarks [op,op'] [b,c]=false:=by with_unfolding_all rfl):PE X (.Compare a [op,op'] [b,c] pos) (Hi r r' ta tb tc):=by
 intro pins s σ H Q I h
 refine Compare_chain (thn (ha pins s σ H _ I h) fun v s1 ⟨x,H1,I1,r1,q1⟩=>chain_link (thn (hb pins s1 σ H1 _ I1 q1) fun u s2 ⟨y,H2,I2,r2,q2⟩=>
  thn (ho pins s2 σ H2 x y v u _ I2 r1 r2 q2) fun d s3 ⟨z,H3,I3,r3,k,e,q3⟩=>?_)) hm
 subst e;cases r3;refine wpAny_truthy_bool ?_;cases k with
 | false=>exact ite_ff ⟨.bl false,H3,I3,rfl,q3⟩
 | true=>exact ite_tt (chain_last (thn (hc pins s3 σ H3 _ I3 q3) fun w' s4 ⟨z',H4,I4,r4,q4⟩=>ho' pins s4 σ H4 y z' u w' Q I4 r2 r4 q4))
theorem M9{op op':CmpOp}{r r':R2}(ho:OpR X (compareOp op) r)(ho':OpR X (compareOp op') r')(ha:PE X a ta)(hb:PE X b tb)(hc:PE X c tc)
 (hm:lastMarks [op,op'] [b,c]=false:=by with_unfolding_all rfl):PT X (.Compare a [op,op'] [b,c] pos) (R3 (Hi r r' ta tb tc)):=by
 intro pins s σ H Q I h
 refine isTrue_chain (thn (ha pins s σ H _ I h) fun v s1 ⟨x,H1,I1,r1,q1⟩=>test_link (thn (hb pins s1 σ H1 _ I1 q1) fun u s2 ⟨y,H2,I2,r2,q2⟩=>
  thn (ho pins s2 σ H2 x y v u _ I2 r1 r2 q2) fun d s3 ⟨z,H3,I3,r3,k,e,q3⟩=>?_)) hm
 subst e;cases r3;refine wpAny_truthy_bool ?_;cases k with
 | false=>
   obtain⟨k',e',q'⟩:=q3;cases e';exact ite_ff ⟨H3,I3,q'⟩
 | true=>
   refine ite_tt (test_last (thn (hc pins s3 σ H3 _ I3 q3) fun w' s4 ⟨z',H4,I4,r4,q4⟩=>thn (ho' pins s4 σ H4 y z' u w' _ I4 r2 r4 q4) fun d' s5 ⟨z2,H5,I5,r5,k2,e2,q5⟩=>?_));subst e2;cases r5;exact wpAny_truthy_bool ⟨H5,I5,q5⟩
noncomputable def Oz(K:Vy)(x:V)(H:Hp)(k:Bool):Prop:=
 match x with
 | .non=>k=false
 | .bl b=>k=b
 | .int i=>k=(i != 0)
 | .str y=>y.length<=sizeLine/\k=((y.length:Int) != 0)
 | .byt y=>y.size<=sizeLine/\k=((y.size:Int) != 0)
 | .ref p=>(∃ xs,SqL K H p xs/\k=!xs.isEmpty)\/(∃ xs,SqT K H p xs/\k=!xs.isEmpty)\/∃ kvs,H p=some (.dK kvs)/\k=!kvs.isEmpty
 | _=>False
theorem Hj{κ:Type}{kvs:List (κ×V)}{vs:List (κ×Value)}(r:KV kvs vs):(!vs.isEmpty)=!kvs.isEmpty:=by
 cases r<;>rfl
theorem DN{xs:List V}{its:List Value}(r:Vals xs its):(!its.toArray.isEmpty)=!xs.isEmpty:=by
 cases r<;>simp
theorem C6:(sizeLine:Nat)<2 ^ 63:=by rw[sizeLine_eq];decide
theorem SQ:Vi X (fun x H Q=>∃ k,Oz X.K x H k/\Q k H):=by
 intro pins s σ H x v Q I rx h;obtain⟨k,e,q⟩:=h;have hl:=C6;have hs:sizeLine=16777216:=sizeLine_eq;cases x with
 | non=>
   cases rx;have e':k=false:=e;subst e';exact truthy_none ⟨H,I,q⟩
 | bl b=>
   cases rx;have e':k=b:=e;subst e';exact wpAny_truthy_bool ⟨H,I,q⟩
 | int i=>
   obtain⟨t,rfl⟩:=rx;have e':k=(i != 0):=e;subst e';exact PySem.P.truthy_int ⟨H,I,q⟩
 | str y=>
   obtain⟨t,rfl⟩:=rx;obtain⟨hy,e'⟩:y.length<=sizeLine/\k=((y.length:Int) != 0):=e;subst e';exact PySem.P.truthy_str (by omega) ⟨H,I.tok _,q⟩
 | byt y=>
   obtain⟨t,rfl⟩:=rx;obtain⟨hy,e'⟩:y.size<=sizeLine/\k=((y.size:Int) != 0):=e;subst e';exact PySem.W.truthy_bytes (by omega) ⟨H,I.tok _,q⟩
 | ref p=>
   cases rx;have e':(∃ xs,SqL X.K H p xs/\k=!xs.isEmpty)\/(∃ xs,SqT X.K H p xs/\k=!xs.isEmpty)\/∃ kvs,H p=some (.dK kvs)/\k=!kvs.isEmpty:=e;rcases e' with⟨xs,hx,e'⟩ | ⟨xs,hx,e'⟩ | ⟨kvs,hx,e'⟩
   ·subst e';obtain⟨its,r,pl,hz⟩:=I.list hx;have hlen:=r.length;exact wpAny_truthy_list pl.isList (by simp only[W7];omega) ⟨H,I.tok _,by rw[DN r];exact q⟩
   ·subst e';obtain⟨its,r,pl,hz⟩:=I.tuple hx;have hlen:=r.length;exact truthy_tuple pl (by simp only[W7];omega) ⟨H,I.tok _,by rw[DN r];exact q⟩
   ·subst e';obtain⟨hz,hS,vs,r,m⟩:kvs.length<=sizeLine/\(p == sysModules)=false/\∃ vs,KV kvs vs/\s.heap.DictOf (j4 X.prog X.w) p vs:=I.hok p _ hx;have hlen:kvs.length=vs.length:=Paired.length r;exact wpAny_truthy_dict hS m (by omega) ⟨H,I.tok _,by rw[Hj r];exact q⟩
 | _=>exact(show False from e).elim
theorem MA(ha:PE X a ta)(he:∀ whole,isTrue a X.env whole=(do let v <- whole;standAt a.pos;holding [v] (truthy v))):
 PT X a (fun σ H Q=>ta σ H fun x H'=>∃ k,Oz X.K x H' k/\Q k H'):=by
 intro pins s σ H Q I h;exact isTrue_plain (thn (ha pins s σ H _ I h) fun v s1 ⟨x,H1,I1,r1,q1⟩=>SQ pins s1 σ H1 x v Q I1 r1 q1) (he _)
theorem Ar{x:V}{us:List Value}(r:Vals [x] us):∃ u,us=[u]/\RelV x u:=by
 cases r with
 | cons r1 r2=>cases r2;exact⟨_,rfl,r1⟩
theorem R5{x y:V}{us:List Value}(r:Vals [x,y] us):∃ u w',us=[u,w']/\RelV x u/\RelV y w':=by
 cases r with
 | cons r1 r2=>
   cases r2 with
   | cons r3 r4=>cases r4;exact⟨_,_,rfl,r1,r3⟩
theorem MB:CallR X (.builtin "abs") (fun xs H Q=>∃ i,xs=[.int i]/\Q (.int (if i<0 then -i else i)) H):=by
 intro pins s σ H xs us Q I r h;obtain⟨i,rfl,q⟩:=h;obtain⟨u,rfl,t,rfl⟩:=Ar r;exact call_abs_int fun u tk=>⟨.int (if i<0 then -i else i),H,I.tok _,⟨_,rfl⟩,q⟩
theorem KJ(hc:X.calm=true):CallR X (.builtin "max") (fun xs H Q=>∃ i j,xs=[.int i,.int j]/\Q (.int (if j>i then j else i)) H):=by
 intro pins s σ H xs us Q I r h;obtain⟨i,j,rfl,q⟩:=h;obtain⟨u,w',rfl,⟨t,rfl⟩,⟨t',rfl⟩⟩:=R5 r;refine max_two_ints (I.ok.hd hc) fun h' tk k=>⟨_,H,I.kept k,?_,q⟩
 by_cases hj:j>i
 ·rw[if_pos hj,if_pos hj];exact⟨_,rfl⟩
 ·rw[if_neg hj,if_neg hj];exact⟨_,rfl⟩
theorem KK(hc:X.calm=true):CallR X (.builtin "min") (fun xs H Q=>∃ i j,xs=[.int i,.int j]/\Q (.int (if j<i then j else i)) H):=by
 intro pins s σ H xs us Q I r h;obtain⟨i,j,rfl,q⟩:=h;obtain⟨u,w',rfl,⟨t,rfl⟩,⟨t',rfl⟩⟩:=R5 r;refine min_two_ints (I.ok.hd hc) fun h' tk k=>⟨_,H,I.kept k,?_,q⟩
 by_cases hj:j<i
 ·rw[if_pos hj,if_pos hj];exact⟨_,rfl⟩
 ·rw[if_neg hj,if_neg hj];exact⟨_,rfl⟩
theorem KL:CallR X (.type "int") (fun xs H Q=>(∃ i,xs=[.int i]/\Q (.int i) H)\/∃ k,xs=[.bl k]/\Q (.int (if k then 1 else 0)) H):=by
 intro pins s σ H xs us Q I r h;rcases h with⟨i,rfl,q⟩ | ⟨k,rfl,q⟩
 ·obtain⟨u,rfl,t,rfl⟩:=Ar r;exact call_int_int ⟨.int i,H,I,⟨_,rfl⟩,q⟩
 ·obtain⟨u,rfl,r1⟩:=Ar r;cases r1;exact call_int_bool ⟨.int (if k then 1 else 0),H,I.tok _,⟨_,rfl⟩,q⟩
end
open PySem PySem.Spec PyProof.Rows
structure ObjM(h:Heap)(x dx C:Addr)(mA:Str->Option Value):Prop where
 obj:h.get? x=some (PySem.W.instObj C dx)
 ns:h.Ns1 dx mA
 ne:dx≠x
theorem KM{h:Heap}{dx:Addr}{mA:Str->Option Value}(n:h.Ns1 dx mA):∃ od,h.get? dx=some od/\∀ name,PySem.W.lookIn name od=some (mA name):=by
 obtain⟨o,es,ep,ho,hd,hk,_,hm⟩:=n;refine⟨o,ho,fun name=>?_⟩;have e:=hm name;unfold nsFind findBy at e;rw[<-Array.find?_toList]at e;unfold PySem.W.lookIn;rw[hd];dsimp only;split
 ·rename_i y q;rw[q]at e;exact congrArg some e
 ·rename_i q;rw[q]at e
  have a:es.toList.any (·.refKey)=false:=by
   rw[List.any_eq_false];intro y hy;obtain⟨z,t,hkey⟩:=hk y (Array.mem_toList_iff.mp hy);simp[DictEntry.refKey,hkey]
  have a':¬ es.toList.any (·.refKey)=true:=by rw[a];exact WF
  rw[if_neg a'];exact congrArg some e
theorem ObjM.look{h:Heap}{x dx C:Addr}{mA:Str->Option Value}(I:ObjM h x dx C mA):∃ od,PySem.W.InstAt h x (PySem.W.instObj C dx) C (some od)/\∀ name,PySem.W.lookIn name od=some (mA name):=
 let ⟨od,ho,hl⟩:=KM I.ns
 ⟨od,⟨I.obj,rfl,rfl,ho⟩,hl⟩
theorem RelO.some_of{v:V}{o:Option Value}(r:RelO (some v) o):∃ u,o=some u/\RelV v u:=by
 cases o with
 | none=>exact(show False from r).elim
 | some u=>exact⟨u,rfl,r⟩
section
variable{P:Program}{w:World}{H H':Hp}{h h':Heap}{a C dx:Addr}{fs fs':List (Str×V)}
theorem J4(hok:HOk P w H h)(e:H a=some (.ins C dx fs)):∃ mA,ObjM h a dx C mA/\(∀ f,RelO (fs.lookup f) (mA f))/\PySem.Within mA (fs.map (·.1))/\fs.length<=1000/\H dx=some (.own a):=by
 obtain⟨d,z,ne,ob,mA,n,r,q⟩:=(show ObjOk P w H h a (.ins C dx fs) from hok a _ e)
 exact⟨mA,⟨ob,n,ne⟩,r,q,z,d⟩
end
structure Cls(K:Vy)(C:Addr):Prop where
 pg:PySem.W.plainGet K C Str.empty=true
 hd:PySem.W.hasDictIn K C=true
 po:PySem.W.plainOver K C=true
 sa:PySem.W.findIn K (.ref C) "__setattr__"=some (some (.builtin "object.__setattr__"))
theorem Cls.get{K:Vy}{C:Addr}(c:Cls K C)(f:Str):PySem.W.plainGet K C f=true:=c.pg
section
variable{X:Cx}{pins:List (Addr×Obj)}{σ:St}{H:Hp}{s:Shared}{A:Around}{E:Value->Shared->Prop}{Q:Value->Shared->Prop}{c:Value}{b:Bool}
inductive TyOf(K:Vy)(H:Hp):V->Value->Prop where
 | non:TyOf K H .non (.type "NoneType")
 | bl (x:Bool):TyOf K H (.bl x) (.type "bool")
 | int (i:Int):TyOf K H (.int i) (.type "int")
 | str (x:Str):TyOf K H (.str x) (.type "str")
 | flt (x:UInt64):TyOf K H (.flt x) (.type "float")
 | lst {a:Addr} {xs:List V} (e:H a=some (.lst xs)):TyOf K H (.ref a) (.type "list")
 | frz {a:Addr} {o:Obj} {xs:List V} (e:H a=some (.frz o (.lst xs))):TyOf K H (.ref a) (.type "list")
 | tup {a:Addr} {xs:List V} (e:H a=some (.tup xs)):TyOf K H (.ref a) (.type "tuple")
 | dK {a:Addr} {kvs:List (Key×V)} (e:H a=some (.dK kvs)):TyOf K H (.ref a) (.type "dict")
 | dT {a:Addr} {kvs:List (List Key×V)} (e:H a=some (.dT kvs)):TyOf K H (.ref a) (.type "dict")
 | ins {a C dx:Addr} {fs:List (Str×V)} (e:H a=some (.ins C dx fs)) (cl:Cls K C) (ha:PySem.W.findIn K (.ref C) "__class__"=some (some (.builtin "object.__class__")))
    (hn:PySem.W.specialIn K (.builtin "object.__class__") "__get__"=some (some (.builtin "getset_descriptor.__get__"))) (htk:PySem.W.takesIn K (.builtin "object.__class__")=some true)
    (hm:PySem.W.mroIn K C (.type "object")=some true):TyOf K H (.ref a) (.ref C)
theorem KN{x:V}{u t:Value}(I:Inv X pins σ H s)(rx:RelV x u)(ty:TyOf X.K H x t)(e:PySem.W.kitOne X.K t c=some b)(h:∀ tk,Q (.bool b) {s with toks:=tk}):
 wpAny (model X.prog X.w) A (call (.builtin "isinstance") [u,c]) Q E s:=by
 cases ty with
 | non=>cases(show u=Value.none from rx);exact PySem.W.kia_one PySem.W.kitx_none I.kIn True.intro e (fun z=>nomatch z) h
 | bl y=>cases(show u=Value.bool y from rx);exact PySem.W.kia_one PySem.W.kitx_bool I.kIn True.intro e (fun z=>nomatch z) h
 | int i=>obtain⟨t,q⟩:=(show ∃ t,u=Value.int i t from rx);cases q;exact PySem.W.kia_one PySem.W.kitx_int I.kIn True.intro e (fun z=>nomatch z) h
 | str y=>obtain⟨t,q⟩:=(show ∃ t,u=Value.str y t from rx);cases q;exact PySem.W.kia_one PySem.W.kitx_str I.kIn True.intro e (fun z=>nomatch z) h
 | flt y=>obtain⟨t,q⟩:=(show ∃ t,u=Value.float y t from rx);cases q;exact PySem.W.kia_one PySem.W.kitx_float I.kIn True.intro e (fun z=>nomatch z) h
 | @lst a xs ea=>
   cases(show u=Value.ref a from rx);obtain⟨_,_,n,_,h1⟩:=(show ObjOk X.prog X.w H s.heap a (.lst xs) from I.hok a _ ea)
   exact PySem.W.kia_one PySem.W.kitx_list I.kIn ⟨_,h1,rfl⟩ e (fun z=>nomatch z) h
 | @frz a ob xs ea=>
   cases(show u=Value.ref a from rx);obtain⟨_,_,_,n,_,h1⟩:=(show ObjOk X.prog X.w H s.heap a (.frz ob (.lst xs)) from I.hok a _ ea)
   exact PySem.W.kia_one PySem.W.kitx_list I.kIn ⟨_,h1,rfl⟩ e (fun z=>nomatch z) h
 | @tup a xs ea=>
   cases(show u=Value.ref a from rx);obtain⟨_,_,_,p⟩:=(show ObjOk X.prog X.w H s.heap a (.tup xs) from I.hok a _ ea)
   obtain⟨o,h1,h2,_⟩:=p;exact PySem.W.kia_one PySem.W.kitx_tuple I.kIn ⟨o,h1,h2⟩ e (fun z=>nomatch z) h
 | @dK a kvs ea=>
   cases(show u=Value.ref a from rx);obtain⟨_,_,vs,_,p⟩:=(show ObjOk X.prog X.w H s.heap a (.dK kvs) from I.hok a _ ea)
   obtain⟨o,es,ep,h1,h2,_⟩:=p;exact PySem.W.kia_one PySem.W.kitx_dict I.kIn ⟨o,h1,h2.1⟩ e (fun z=>nomatch z) h
 | @dT a kvs ea=>
   cases(show u=Value.ref a from rx);obtain⟨_,_,xs,_,o,es,ep,h1,h2,_⟩:=(show ObjOk X.prog X.w H s.heap a (.dT kvs) from I.hok a _ ea)
   exact PySem.W.kia_one PySem.W.kitx_dict I.kIn ⟨o,h1,h2.1⟩ e (fun z=>nomatch z) h
 | @ins a C dx fs ea cl ha hn htk hm=>
   cases(show u=Value.ref a from rx);obtain⟨mA,O,_⟩:=J4 I.hok ea;obtain⟨od,J,_⟩:=O.look;exact PySem.W.kia_one (PySem.W.kitx_own (cl.get _) cl.hd ha hn htk hm) I.kIn J e (fun z=>nomatch z) h
end
open PySem PySem.Spec PyProof.Rows
structure Room(k:Nat)(A:Around):Prop where
 hd:A.handled=none
 dp:A.depth+3 * k+5<recursionLimit
 un:A.units+16 * k+200<cLine
 gd:A.guards=some []
theorem Room.deeper{k:Nat}{A:Around}(r:Room (k+1) A)(env:Env):Room k (A.deeper env):=
 ⟨r.hd,by have:=r.dp;show A.depth+1+3 * k+5<_;omega,by have:=r.un;show A.units+3+16 * k+200<_;omega,r.gd⟩
theorem Room.depth{k:Nat}{A:Around}(r:Room k A):A.depth<recursionLimit:=by have:=r.dp;omega
noncomputable def UP:TA:=fun _ H Q=>Q [] H
noncomputable def MC(ta:TE)(tr:TA):TA:=fun σ H Q=>ta σ H fun x H1=>tr σ H1 fun xs H2=>Q (x::xs) H2
section
variable{X:Cx}{e:Expr}{es:List Expr}{te:TE}{t:TA}{pos:Pos}
theorem C7:PA X [] UP:=fun _ _ _ _ H Q I h=>Calls.spliced_nil ⟨[],H,I,.nil,h⟩
theorem BF(ha:PE X e te)(hr:PA X es t)(hs:starEach (e::es) X.env=(false,eval e X.env)::starEach es X.env:=by rfl):PA X (e::es) (MC te t):=by
 intro pos pins s σ H Q I h;rw[hs];show wpAny _ _ (spliced ((false,eval e X.env)::backTo pos (starEach es X.env))) _ _ s;refine Calls.spliced_cons (thn (ha pins s σ H _ I h) fun u s1 ⟨x,H1,I1,r1,q1⟩=>?_);exact thn (hr pos pins s1 σ H1 _ I1 q1) fun us s2 ⟨xs,H2,I2,r2,q2⟩=>⟨x::xs,H2,I2,.cons r1 r2,q2⟩
noncomputable def UQ(t:TA):TE:=fun σ H Q=>t σ H fun xs H1=>xs.length<=sizeLine/\∀ p,H1 p=none->Q (.ref p) (upd H1 p (.tup xs))
noncomputable def UR(t:TA):TE:=fun σ H Q=>t σ H fun xs H1=>xs.length<=sizeLine/\∀ p,H1 p=none->Q (.ref p) (upd H1 p (.lst xs))
theorem SR{x1}(h:PA X es t):PE X (.Tuple es x1 pos) (UQ t):=by
 intro pins s σ H Q I hq;refine wpAny_Tuple_spliced (thn (h pos pins s σ H _ I hq) fun us s1 ⟨xs,H1,I1,r,z,q⟩=>⟨by rw[<-r.length];exact z,?_⟩);have hf:H1 s1.heap.objs.size=none:=I1.hok.fresh (WB _);refine⟨.ref s1.heap.objs.size,upd H1 s1.heap.objs.size (.tup xs),I1.laid (t':=s1.toks) (fun b u e=>W8 _ e) (WB _) ?_,rfl,q _ hf⟩;exact⟨z,us,r,⟨_,WL _ rfl,rfl,_,rfl⟩⟩
theorem SS(h:PA X es t):PE X (.List es pos) (UR t):=by
 intro pins s σ H Q I hq;refine wpAny_List_spliced (thn (h pos pins s σ H _ I hq) fun us s1 ⟨xs,H1,I1,r,z,q⟩=>⟨by rw[<-r.length];exact z,?_⟩);have hf:H1 s1.heap.objs.size=none:=I1.hok.fresh (WB _);refine⟨.ref s1.heap.objs.size,upd H1 s1.heap.objs.size (.lst xs),I1.laid (t':=s1.toks) (fun b u e=>W8 _ e) (WB _) ?_,rfl,q _ hf⟩;exact⟨z,us,0,r,WL _ rfl⟩
end
noncomputable abbrev Sp:=List V->Hp->VK->XK->Prop
noncomputable abbrev CXT:=List Env->Hp->Shared->XK->Value->Shared->Prop
structure Env0(P:Program)(w:World)(K:Vy)(mg:Str->Option Value)(base:Heap)(A:Around)(outer:List Env)(s:Shared)(H:Hp):Prop where
 frames:A.frames=some outer
 mod:Mod K mg base
 bs:∀ b o,base.get? b=some o->s.heap.get? b=some o/\H b=none
 bsz:base.objs.size<=s.heap.objs.size
 funs:s.heap.FunFrames base outer
 frf:∀ b∈frs outer,H b=none
 hok:HOk P w H s.heap
 bare:AllBare s.gens
noncomputable def CE(outer:List Env)(P:Program)(w:World)(H:Hp)(s:Shared)(Q:VK)(u:Value)(s':Shared):Prop:=
 ∃ v H',s'.os=s.os/\AllBare s'.gens/\Un (frs outer) [] H H' s.heap s'.heap/\HOk P w H' s'.heap/\RelV v u/\Q v H'
noncomputable def CR(CX:CXT)(outer:List Env)(P:Program)(w:World)(H:Hp)(s:Shared)(Q:VK)(E:XK)(r:Result)(s':Shared):Prop:=
 match r with
 | .ok (.ret u)=>CE outer P w H s Q u s'
 | .ok _=>False
 | .error e=>CX outer H s E e s'
structure FnOk(P:Program)(w:World)(K:Vy)(mg:Str->Option Value)(base:Heap)(CX:CXT)(k:Nat)(f:Addr)(fd:FuncData)(ps:List Str)(sp:Sp):Prop where
 len:∀ vs H Q E,sp vs H Q E->vs.length=ps.length
 run:∀(A:Around) (outer:List Env) (s:Shared) (H:Hp) (args:Args) (us:List Value) (vs:List V) (Q:VK) (E:XK),Room k A->Env0 P w K mg base A outer s H->BindsTo s fd args (ps.zip us)->Vals vs us->sp vs H Q E->
  codeAny (model P w) A (.call (.ref f) args) (CR CX outer P w H s Q E) s
section
variable{X:Cx}{pins:List (Addr×Obj)}{σ:St}{H:Hp}{s s':Shared}
theorem Inv.env0(I:Inv X pins σ H s):Env0 X.prog X.w X.K X.mg X.base X.A X.stack s H:=
 ⟨I.ok.frames,I.ok.mod,I.bs,Wj I.ok.bsz I.sz,I.stack,I.stkFree,I.hok,I.bare⟩
theorem Inv.after{Q:VK}{u:Value}(I:Inv X pins σ H s)(h:CE X.stack X.prog X.w H s Q u s'):EP X pins σ Q u s':=by
 obtain⟨v,H',os,bare,un,hok,r,q⟩:=h;obtain⟨hh,g,d,t,os'⟩:=s';obtain rfl:os'=s.os:=os;exact⟨v,H',I.call (h':=hh) (g':=g) (d':=d) (t':=t) (ch:=[]) un hok bare (fun b z=>absurd z (by simp)),r,q⟩
end
noncomputable def R6(sp:Sp)(dvs:List V)(E:XK)(t:TA):TE:=fun σ H Q=>t σ H fun vs H1=>sp (vs++dvs) H1 Q E
noncomputable def Binds(K:Vy)(fd:FuncData)(ps:List Str)(ds:List Value):Prop:=
 ∀(s:Shared) (us:List Value),K.In s.heap->(us++ds).length=ps.length->BindsTo s fd ⟨us,[]⟩ (ps.zip (us++ds))
theorem Binds.all{K:Vy}{fd:FuncData}{ps:List Str}(h:∀ us:List Value,us.length=ps.length->bindArgs fd ⟨us,[]⟩=pure (ps.zip us)):Binds K fd ps []:=fun s us _ hl=>by
 rw[XF]at hl ⊢;exact .of_eq (h us hl)
noncomputable def Hk(CX:CXT)(X:Cx)(E:XK):Prop:=∀(pins:List (Addr×Obj)) (σ:St) (H:Hp) (s:Shared) (e:Value) (s':Shared),Inv X pins σ H s->CX X.stack H s E e s'->X.xe e s'
section
variable{X:Cx}{CX:CXT}{k:Nat}{f C:Addr}{fd:FuncData}{ps:List Str}{sp:Sp}{dvs:List V}{ds:List Value}{E:XK}{x m:Str}{p pos apos:Pos}{e o:Expr}{es:List Expr}{ta:TE}{t:TA}
theorem ST{pins:List (Addr×Obj)}{σ:St}{H:Hp}{s:Shared}{Q:VK}{us:List Value}{vs:List V}(F:FnOk X.prog X.w X.K X.mg X.base CX k f fd ps sp)(hr:Room k X.A)(hb:Binds X.K fd ps ds)(hd:Vals dvs ds)(hx:Hk CX X E)
 (I:Inv X pins σ H s) (r:Vals vs us) (h:sp (vs++dvs) H Q E):wpAny (model X.prog X.w) X.A (call (.ref f) us) (EP X pins σ Q) X.xe s:=by
 have r2:Vals (vs++dvs) (us++ds):=r.append hd;have hl:(us++ds).length=ps.length:=by rw[<-r2.length];exact F.len _ _ _ _ h
 refine wpAny_call (codeAny_mono (F.run X.A X.stack s H ⟨us,[]⟩ (us++ds) (vs++dvs) Q E hr I.env0 (hb s us I.kIn hl) r2 h) fun r s' hq=>?_);cases r with
 | error e=>exact hx pins σ H s e s' I hq
 | ok fl=>
   cases fl with
   | ret u=>exact I.after hq
   | next=>exact False.elim hq
   | brk=>exact False.elim hq
   | cont=>exact False.elim hq
theorem P2(F:FnOk X.prog X.w X.K X.mg X.base CX k f fd ps sp)(hr:Room k X.A)(hg:Gl X x)(hm:X.mg x=some (.ref f))(hk:PySem.W.keepIn X.K (.ref f)=true)(hb:Binds X.K fd ps ds)(hd:Vals dvs ds)(hx:Hk CX X E)
 (ha:PA X (e::es) t) (hdb:(x == ("__debug__":Str))=false:=by decide) (he:starEach (e::es) X.env=(false,eval e X.env)::starEach es X.env:=by rfl) (hpl:(backTo pos (starEach es X.env)).any (·.1)=false:=by rfl):
 PE X (.Call (.Name x p) (e::es) [] pos) (R6 sp dvs E t):=by
 intro pins s σ H Q I h;refine wpAny_Call_Name_kw (Om I hg hm ?_ hdb);refine PySem.W.callWith_K (h₀:=X.base) I.ok.mod.kin hk (thn (ha pos pins s σ H _ I h) fun us s1 ⟨vs,H1,I1,r,q⟩=>⟨I1.kIn,?_⟩) he hpl;exact ST F hr hb hd hx I1 r q
end
noncomputable def PK(X:Cx)(kws:List Keyword)(t:TA):Prop:=
 ∀(pos:Pos) (pins:List (Addr×Obj)) (s:Shared) (σ:St) (H:Hp) (Q:List V->Hp->Prop),Inv X pins σ H s->t σ H Q->wpAny (model X.prog X.w) X.A (evalAll ((backToKw pos (keywordEach kws X.env)).map (·.2))) (AP X pins σ Q) X.xe s
section
variable{X:Cx}{CX:CXT}{k:Nat}{f C:Addr}{fd:FuncData}{ps ks:List Str}{sp:Sp}{E:XK}{x m:Str}{p pos apos kpos:Pos}{e o:Expr}{es:List Expr}{kws:List Keyword}{te ta:TE}{t tk:TA}{nm:Option Str}
theorem SU:PK X [] UP:=fun _ _ _ _ H Q I h=>wpAny_evalAll_nil ⟨[],H,I,.nil,h⟩
theorem P3(ha:PE X e te)(hr:PK X kws t):PK X (⟨nm,e,kpos⟩::kws) (MC te t):=by
 intro pos pins s σ H Q I h;show wpAny _ _ (evalAll ((do let v <- eval e X.env;standAt pos;pure v)::(backToKw pos (keywordEach kws X.env)).map (·.2))) _ _ s;refine wpAny_evalAll_cons (wpAny_bind (thn (ha pins s σ H _ I h) fun u s1 ⟨x,H1,I1,r1,q1⟩=>wpAny_bind (wpAny_standAt (wpAny_pure ?_))));exact thn (hr pos pins s1 σ H1 _ I1 q1) fun us s2 ⟨xs,H2,I2,r2,q2⟩=>⟨x::xs,H2,I2,.cons r1 r2,q2⟩
variable{g:List Value->List Value->List Value}{gV:List V->List V->List V}
end
structure FnScope(N P:List Str)(sc:Scope):Prop where
 kind:sc.kind = .function
 co:sc.isCoroutine=false
 gen:sc.isGenerator=false
 nd:N.Nodup
 pre:N.take P.length=P
 par:∀ x∈P,sc.names.lookup x=some .local\/sc.names.lookup x=some .cell
 nofree:∀ y∈sc.names,y.2 ≠ .free
theorem EC{kindOf:Str->Option NameKind}{x:Str}:∀{binds:List (Str×Value)} {m:Str->Option Value},(∀ v,(x,v)∉binds)->bindL kindOf binds m x=m x
 | [],_,_=>rfl
 | (n,v)::r,m,h=>by
   unfold bindL;rw[EC fun w hw=>h w (W9 _ hw)];split
   ·have:x≠n:=by rintro rfl;exact h v WK
    simp[this]
   ·rfl
theorem ED{kindOf:Str->Option NameKind}{x:Str}:∀{binds:List (Str×Value)} {m:Str->Option Value},(∀ v,(x,v)∉binds)->bindC kindOf binds m x=m x
 | [],_,_=>rfl
 | (n,v)::r,m,h=>by
   unfold bindC;rw[ED fun w hw=>h w (W9 _ hw)];split
   ·rfl
   ·have:x≠n:=by rintro rfl;exact h v WK
    simp[this]
theorem EF{kindOf:Str->Option NameKind}{x:Str}{v:Value}:∀{P:List Str} {vs:List Value} {i:Nat} {m:Str->Option Value},P.Nodup->P[i]?=some x->vs[i]?=some v->kindOf x=some .local->
 bindL kindOf (P.zip vs) m x=some v
 | [],_,_,_,_,h,_,_=>by simp at h
 | _::_,[],_,_,_,_,h,_=>by simp at h
 | p::P,w::vs,0,m,nd,h1,h2,hk=>by
   simp at h1 h2;subst h1;subst h2;show bindL kindOf ((p,w)::P.zip vs) m p=_;unfold bindL;rw[EC fun v hv=>(XG.mp nd).1 (Xw hv).1,if_pos hk];simp
 | p::P,w::vs,i+1,m,nd,h1,h2,hk=>by
   show bindL kindOf ((p,w)::P.zip vs) m x=_;unfold bindL;exact EF (i:=i) (XG.mp nd).2 (by simpa using h1) (by simpa using h2) hk
theorem EG{kindOf:Str->Option NameKind}{x:Str}{v:Value}:∀{P:List Str} {vs:List Value} {i:Nat} {m:Str->Option Value},P.Nodup->P[i]?=some x->vs[i]?=some v->kindOf x≠some .local->
 bindC kindOf (P.zip vs) m x=some v
 | [],_,_,_,_,h,_,_=>by simp at h
 | _::_,[],_,_,_,_,h,_=>by simp at h
 | p::P,w::vs,0,m,nd,h1,h2,hk=>by
   simp at h1 h2;subst h1;subst h2;show bindC kindOf ((p,w)::P.zip vs) m p=_;unfold bindC;rw[ED fun v hv=>(XG.mp nd).1 (Xw hv).1,if_neg hk];simp
 | p::P,w::vs,i+1,m,nd,h1,h2,hk=>by
   show bindC kindOf ((p,w)::P.zip vs) m x=_;unfold bindC;exact EG (i:=i) (XG.mp nd).2 (by simpa using h1) (by simpa using h2) hk
noncomputable def start(N:List Str)(vs:List V):St:=vs.map some++WC (N.length - vs.length) none
noncomputable def Hl(CX:CXT)(P:Program)(w:World)(K:Vy)(mg:Str->Option Value)(base:Heap)(N:List Str)(qual:Str)(scope:Scope)(f:Addr)(cd:Value)(A:Around)(outer:List Env)(s:Shared)(H:Hp)(E:XK):Cx where
 prog:=P
 w:=w
 K:=K
 mg:=mg
 base:=base
 A:=A.deeper (envOfC qual scope s.heap.objs.size f cd)
 N:=N
 s₀:=s
 H₀:=H
 env:=envOfC qual scope s.heap.objs.size f cd
 outer:=outer
 stack:=envOfC qual scope s.heap.objs.size f cd::outer
 ex:=[]
 calm:=true
 fn:=fun _=>true
 pn:=[]
 xe:=fun e s'=>wpAny (model P w) (A.deeper (envOfC qual scope s.heap.objs.size f cd)) (leaving (envOfC qual scope s.heap.objs.size f cd) e) (fun _ s''=>CX outer H s E e s'') (fun e' s''=>CX outer H s E e' s'') s'
theorem Fw{sc:Scope}{n:Nat}{x:Str}(h:sc.names.lookup x=some .cell):∃ c,(cellsFrom n sc.names []).lookup x=some c:=by
 have q:=PySem.W.cellsFrom_some sc.names n [] (.inl h);exact X9.mp q
theorem KO{CX:CXT}{P:Program}{w:World}{K:Vy}{mg:Str->Option Value}{base:Heap}{N ps:List Str}{qual:Str}{scope:Scope}{f:Addr}{cd:Value}{A:Around}{outer:List Env}{s s1:Shared}{H:Hp}{E:XK}{us:List Value}{vs:List V}
 (S:FnScope N ps scope) (hd:A.handled=none) (e0:Env0 P w K mg base A outer s H) (hl:vs.length=ps.length) (r:Vals vs us)
 (x:InCallC s s.heap.objs.size (bindL (envOfC qual scope s.heap.objs.size f cd).kindOf (ps.zip us) fun _=>none) (cellsFrom (s.heap.objs.size+1) scope.names []) (bindC (envOfC qual scope s.heap.objs.size f cd).kindOf (ps.zip us) fun _=>none) s1):
 Inv (Hl CX P w K mg base N qual scope f cd A outer s H E) [] (start N vs) H s1:=by
 have hpl:ps.length<=N.length:=by have:=congrArg Y1 S.pre;rw[WY]at this;omega
 obtain⟨h1,tk,rfl,hk⟩:=x.done;have noA:∀ b:Addr,b∉(Hl CX P w K mg base N qual scope f cd A outer s H E).ex:=fun b z=>absurd (show b∈([]:List Addr) from z) (by simp)
 refine⟨⟨e0.mod,S.kind,rfl,rfl,WB _,fun y z c h1 h2=>?_,fun y hy=>?_,fun y c _ h=>?_,fun _=>hd,Around.frames_deeper e0.frames,.inr ⟨rfl,rfl⟩,fun b z=>absurd z (noA b),e0.bs,e0.bsz,fun b _ _=>noA b,fun b z=>absurd z (noA b),e0.funs,e0.frf⟩,
  rfl,e0.bare,Un.kept hk,⟨_,x.toInCall.ns,fun i y v h1 h2 h3=>?_⟩,fun y c h=>⟨_,x.cell y c h⟩,e0.hok.fresh (WB _),fun y c h=>?_,fun p hp=>absurd (show p∈([]:List (Addr×Obj)) from hp) (by simp),e0.hok.kept hk,?_⟩
 ·exact name_of_addr x.apart (PySem.mem_of_lookup h1) (PySem.mem_of_lookup h2)
 ·have hy:scope.names.lookup y=some .cell\/scope.names.lookup y=some .free:=hy;rcases hy with hy | hy
  ·exact Fw hy
  ·exact absurd rfl (S.nofree _ (PySem.mem_of_lookup hy))
 ·exact XT (x.above y c (PySem.mem_of_lookup h))
 ·have hi:i<vs.length:=by
   unfold start at h2;by_cases hi:i<vs.length
   ·exact hi
   ·rw[Wh (by simpa using hi)]at h2;rw[XM]at h2;split at h2<;>cases h2
  have ha:vs[i]?=some v:=by
   unfold start at h2;rw[WD (by simpa using hi),WG]at h2;cases e:vs[i]? with
   | none=>rw[e]at h2;cases h2
   | some a=>rw[e]at h2;cases h2;rfl
  obtain⟨u,hu,rv⟩:=r.get ha
  have hp:ps[i]?=some y:=by
   rw[<-S.pre,XR (by omega)];exact h1
  have ndP:ps.Nodup:=by rw[<-S.pre];exact S.nd.sublist (ZC _ _)
  refine⟨u,rv,?_⟩;rcases S.par y (W5 hp) with k | k
  ·exact .inl ⟨k,EF ndP hp hu k⟩
  ·obtain⟨c,e⟩:=Fw (n:=s.heap.objs.size+1) k;refine .inr ⟨.inl k,c,e,?_⟩;have q:=x.cell y c e;rw[EG ndP hp hu (by show scope.names.lookup y≠_;rw[k];decide)]at q;exact q
 ·exact e0.hok.fresh (XT (x.above y c (PySem.mem_of_lookup h)))
 ·unfold start;show _=N.length;rw[W3,W2,Xf];omega
theorem US{CX:CXT}{P:Program}{w:World}{K:Vy}{mg:Str->Option Value}{base:Heap}{k:Nat}{f:Addr}{name qual:Str}{params:Arguments}{body:List Stmt}{scope:Scope}{dV kV doc pm cdv ct oc:Value}{an od:Option Addr}
 {osl:Array (Option Value)} {N ps:List Str} {sp:Sp} (lk:K.lookup f=some ⟨oc,od,.func (PySem.W.fnOf name qual params body scope dV kV doc pm an cdv ct),osl⟩) (hcd:PySem.W.codeIn K cdv qual=true) (S:FnScope N ps scope)
 (len:∀ vs H Q E,sp vs H Q E->vs.length=ps.length)
 (hbody:∀(A:Around) (outer:List Env) (s:Shared) (H:Hp) (vs:List V) (Q:VK) (E:XK),Room k (A.deeper (envOfC qual scope s.heap.objs.size f cdv))->sp vs H Q E->
   ∃ t,PSs (Hl CX P w K mg base N qual scope f cdv A outer s H E) body t/\t {nx:=fun _ H'=>Q .non H',rt:=Q} (start N vs) H):
 FnOk P w K mg base CX (k+1) f (PySem.W.fnOf name qual params body scope dV kV doc pm an cdv ct) ps sp:=by
 refine⟨len,fun A outer s H args us vs Q E hr e0 hb r hsp=>?_⟩;have hl:=len _ _ _ _ hsp;have KX:K.In s.heap:=e0.mod.kin.keeps fun b o e=>(e0.bs b o e).1;have lim:s.heap.NoLimit:=e0.mod.nolimit.keeps fun b o e=>(e0.bs b o e).1
 have hkind:∀ y∈ps.zip us,scope.names.lookup y.1=some .local\/(scope.names.lookup y.1=some .cell/\((cellsFrom (s.heap.objs.size+1) scope.names []).lookup y.1).isSome=true):=fun⟨n,v⟩ hy=>by
  rcases S.par n (Xw hy).1 with q | q
  ·exact .inl q
  ·exact .inr ⟨q,PySem.W.cellsFrom_some _ _ _ (.inl q)⟩
 refine codeAny_call_function hr.depth (KX _ _ lk) rfl S.co S.gen rfl (PySem.W.codeRec_of KX hcd) (hb _ _ _ _ ?_);refine wpAny_newFunctionEnv_cells S.kind hkind fun env he s1 x=>?_;subst he;refine⟨lim.keeps x.toInCall.keep,codeAny_func ?_⟩;obtain⟨t,ht,hq⟩:=hbody A outer s H vs Q E (hr.deeper _) hsp;have I:Inv (Hl CX P w K mg base N qual scope f cdv A outer s H E) [] (start N vs) H s1:=KO S hr.hd e0 hl r x;refine wpAny_mono (ht [] s1 (start N vs) H _ I hq) (fun fl s' hs=>?_) fun e s' hs=>hs
 have fin:∀{σ':St} {H':Hp} {v:V} {u:Value},Inv (Hl CX P w K mg base N qual scope f cdv A outer s H E) [] σ' H' s'->RelV v u->Q v H'->CE outer P w H s Q u s':=
  fun{σ' H' v u} J rv q=>⟨v,H',J.os,J.bare,J.base,J.hok,rv,q⟩
 cases fl with
 | ret u=>
   obtain⟨v,σ',H',J,rv,q⟩:=hs;exact fin J rv q
 | next=>
   obtain⟨σ',H',J,q⟩:=hs;exact fin (v:=V.non) (u:=Value.none) J rfl q
 | brk=>
   obtain⟨_,_,_,q⟩:=hs;exact False.elim q
 | cont=>
   obtain⟨_,_,_,q⟩:=hs;exact False.elim q
open PySem PySem.Spec PyProof.Rows
section
variable{X:Cx}{x:Str}{p pos:Pos}{e:Expr}{es:List Expr}{t:TA}{id T:String}{r:List V->Hp->VK->Prop}
noncomputable def tCB(r:List V->Hp->VK->Prop)(t:TA):TE:=fun σ H Q=>t σ H fun vs H1=>r vs H1 Q
theorem A6(hc:CallR X (.builtin id) r)(hg:Gl X x)(hm:X.mg x=none)(hv:bootBuiltins x=some (.builtin id))(ha:PA X (e::es) t)(hn:x≠"__name__":=by decide)(hdb:(x == ("__debug__":Str))=false:=by decide)
 (he:starEach (e::es) X.env=(false,eval e X.env)::starEach es X.env:=by rfl) (hpl:(backTo pos (starEach es X.env)).any (·.1)=false:=by rfl):PE X (.Call (.Name x p) (e::es) [] pos) (tCB r t):=by
 intro pins s σ H Q I h;refine wpAny_Call_Name_kw (AY I hg hm hv ?_ hn hdb);exact PyProof.Rows.callWith_builtin1 (thn (ha pos pins s σ H _ I h) fun us s1 ⟨vs,H1,I1,r1,q1⟩=>hc pins s1 σ H1 vs us Q I1 r1 q1) he hpl
theorem AV(hc:CallR X (.type T) r)(hg:Gl X x)(hm:X.mg x=none)(hv:bootBuiltins x=some (.type T))(ha:PA X (e::es) t)(hn:x≠"__name__":=by decide)(hdb:(x == ("__debug__":Str))=false:=by decide)
 (he:starEach (e::es) X.env=(false,eval e X.env)::starEach es X.env:=by rfl) (hpl:(backTo pos (starEach es X.env)).any (·.1)=false:=by rfl):PE X (.Call (.Name x p) (e::es) [] pos) (tCB r t):=by
 intro pins s σ H Q I h;refine wpAny_Call_Name_kw (AY I hg hm hv ?_ hn hdb);exact PyProof.Rows.callWith_type1 (thn (ha pos pins s σ H _ I h) fun us s1 ⟨vs,H1,I1,r1,q1⟩=>hc pins s1 σ H1 vs us Q I1 r1 q1) he hpl
end
end L2
namespace HT
open PySem PyProof.Rows
section
variable{prog:Program}{w:World}{A:Around}{E:Value->Shared->Prop}{s:Shared}
noncomputable def sIx(n d:Nat):Option Int->Nat
 | none=>d
 | some v=>if v<0 then (v+(n:Int)).toNat else min v.toNat n
theorem sIx_nat(n d k:Nat):sIx n d (some (k:Int))=min k n:=by
 show(if (k:Int)<0 then ((k:Int)+(n:Int)).toNat else min (k:Int).toNat n)=min k n;rw[if_neg (by omega),Xa]
theorem SW(n d:Nat)(hd:d<=n)(o:Option Int):sIx n d o<=n:=by
 cases o with
 | none=>exact hd
 | some v=>
   show(if v<0 then (v+(n:Int)).toNat else min v.toNat n)<=n;by_cases hv:v<0
   ·rw[if_pos hv];omega
   ·rw[if_neg hv];exact Nat.min_le_right _ _
theorem J5(v:Int)(n d:Nat):(if v<0 then max (v+(n:Int)) 0 else min v (n:Int))=((sIx n d (some v):Nat):Int):=by
 show(if v<0 then max (v+(n:Int)) 0 else min v (n:Int))=(((if v<0 then (v+(n:Int)).toNat else min v.toNat n):Nat):Int)
 by_cases hv:v<0
 ·simp only[if_pos hv];omega
 ·simp only[if_neg hv];omega
theorem Hm(lo hi:Option Int)(n:Nat):Builtin.Slice.sliceAdjust lo hi 1 (n:Int)=(((sIx n 0 lo:Nat):Int),((sIx n n hi:Nat):Int)):=by
 have h1:¬ ((1:Int)<0):=by omega
 unfold Builtin.Slice.sliceAdjust;simp only[h1,if_false];refine Prod.ext ?_ ?_
 ·cases lo with
  | none=>rfl
  | some v=>exact J5 v n 0
 ·cases hi with
  | none=>rfl
  | some v=>exact J5 v n n
theorem Hn(i j:Nat):Builtin.Slice.slicePlaces (i:Int) (j:Int) 1=j - i:=by
 unfold Builtin.Slice.slicePlaces;have h1:(1:Int)>0:=by omega
 simp only[h1,if_true,Int.ediv_one];split<;>omega
theorem DO{v:Value}{o:Option Int}{Q:Option Int->Shared->Prop}(p:IsPart v o)(h:Q o s):wpAny (model prog w) A (Builtin.Slice.slicePartIndex v) Q E s:=by
 cases p with
 | none=>exact slicePart_none h
 | int i t=>exact slicePart_int h
theorem As{sl:Addr}{vl vu:Value}{lo hi:Option Int}{n:Nat}{Q:Int×Int×Nat->Shared->Prop}(hs:s.heap.IsSliceOf sl vl vu .none)(pl:IsPart vl lo)(pu:IsPart vu hi)
 (h:Q (((sIx n 0 lo:Nat):Int),1,sIx n n hi - sIx n 0 lo) s):wpAny (model prog w) A (Builtin.Slice.sliceApplied (.ref sl) (pure (n:Int))) Q E s:=by
 obtain⟨os,hos,hcs,hds⟩:=id hs;unfold Builtin.Slice.sliceApplied Builtin.Slice.sliceFields;refine wpAny_bind (wpAny_bind (wpAny_field hos hds (x:=vl) rfl (wpAny_bind (wpAny_field hos hds (x:=vu) rfl (wpAny_bind (wpAny_field hos hds (x := .none) rfl (wpAny_pure ?_)))))));refine wpAny_bind (slicePart_none ?_);show wpAny _ _ (if ((1:Int) == 0)=true then _ else _) _ _ s;rw[if_neg (by decide)];refine wpAny_bind (DO pl (wpAny_bind (DO pu (wpAny_bind (wpAny_pure ?_)))));show wpAny _ _ (match Builtin.Slice.sliceAdjust lo hi 1 (n:Int) with | (lo,hi)=>pure (lo,(1:Int),Builtin.Slice.slicePlaces lo hi 1)) _ _ s;rw[Hm lo hi n];show wpAny _ _ (pure (((sIx n 0 lo:Nat):Int),(1:Int),Builtin.Slice.slicePlaces ((sIx n 0 lo:Nat):Int) ((sIx n n hi:Nat):Int) 1)) _ _ s;rw[Hn];exact wpAny_pure h
theorem MD(xs:Array Value)(i k:Nat):((WP k).filterMap fun(m:Nat)=>xs[((i:Int)+(m:Int) * 1).toNat]?).toArray=((xs.toList.drop i).take k).toArray:=by
 have e:(fun(m:Nat)=>xs[((i:Int)+(m:Int) * 1).toNat]?)=fun m=>xs[i+m]?:=by
  funext m
  have:((i:Int)+(m:Int) * 1).toNat=i+m:=by omega
  rw[this]
 rw[e];have:=pick_run xs i k;rw[List.filterMap_map]at this;have e2:((fun x=>xs[x]?)∘fun x=>i+x)=fun m=>xs[i+m]?:=rfl;rw[e2]at this;rw[this]
theorem getItem_tuple_cut{t sl:Addr}{items:Array Value}{vl vu:Value}{lo hi:Option Int}{Q:Value->Shared->Prop}(ht:IsTup s.heap t items)(hs:s.heap.IsSliceOf sl vl vu .none)(pl:IsPart vl lo)(pu:IsPart vu hi)
 (hw:¬ (sIx items.size 0 lo=0/\sIx items.size items.size hi=items.size))
 (h:Q (.ref s.heap.objs.size) {s with heap:=s.heap.push {cls := .type "tuple",data := .seq ((items.toList.drop (sIx items.size 0 lo)).take (sIx items.size items.size hi - sIx items.size 0 lo)).toArray}})
 (hsz:items.size<=sizeLine):wpAny (model prog w) A (getItem (.ref t) (.ref sl)) Q E s:=by
 have htake:sizeOk (.seq ((items.toList.drop (sIx items.size 0 lo)).take (sIx items.size items.size hi - sIx items.size 0 lo)).toArray):=by
  show((items.toList.drop (sIx items.size 0 lo)).take (sIx items.size items.size hi - sIx items.size 0 lo)).toArray.size<=sizeLine;rw[W7,WY,Wy,WM];omega
 have hj:sIx items.size items.size hi<=items.size:=SW _ _ (WB _) hi;obtain⟨os,hos,hcs,hds⟩:=id hs;have hTs:s.TypeIs (.ref sl) "slice":=⟨os,hos,hcs⟩
 unfold getItem
 try with_reducible refine wpAny_holding ?_
 first | refine wpAny_bind (wpAny_pure ?_) | skip
 refine wpAny_bind (wpAny_sequenceKey ht.typeIs (by decide) ?_)
 refine wpAny_bind (wpAny_callSpecial?_slot (name:=Str.ofString "__getitem__") ht.typeIs PyProof.Rows.slot_tuple_getitem
  (wpAny_call_entry PyProof.Rows.slot_tuple_getitem ht.typeIs entry_tuple_getitem ?_ (args_tuple_getitem _ _)))
 show wpAny _ _ (Builtin.Tuple.tupleItemsOf (.ref t) >>= _) _ _ s;refine wpAny_bind (tupleItemsOf_ ht ?_);refine wpAny_bind (wpAny_typeOf hTs ?_);rw[if_pos (by decide)];refine wpAny_bind (As hs pl pu ?_)
 have hno:¬ ((((sIx items.size 0 lo:Nat):Int) == 0&&(1:Int) == 1&&(sIx items.size items.size hi - sIx items.size 0 lo) == items.size)=true):=by
  intro q;rw[Vz,Vz]at q;have q1:((sIx items.size 0 lo:Nat):Int)=0:=eq_of_beq q.1.1;have q2:sIx items.size items.size hi - sIx items.size 0 lo=items.size:=eq_of_beq q.2;exact hw ⟨by omega,by omega⟩
 show wpAny _ _ (if (((sIx items.size 0 lo:Nat):Int) == 0&&(1:Int) == 1&&(sIx items.size items.size hi - sIx items.size 0 lo) == items.size)=true then _ else _) _ _ s;rw[if_neg hno,MD]
 first
  | exact wpAny_bind (m:=Builtin.Tuple.tupleExact _) (wpAny_newObj_type (wpAny_pure ⟨_,rfl,wpAny_pure h⟩) htake)
  | exact wpAny_bind (m:=Builtin.Tuple.tupleExact _) (wpAny_newObj_type (wpAny_bind (wpAny_pure (wpAny_pure ⟨_,rfl,wpAny_pure h⟩))) htake)
  | exact wpAny_bind (wpAny_bind (m:=Builtin.Tuple.tupleExact _) (wpAny_newObj_type (wpAny_pure (wpAny_pure ⟨_,rfl,wpAny_pure h⟩)) htake))
  | exact wpAny_bind (wpAny_bind (m:=Builtin.Tuple.tupleExact _) (wpAny_newObj_type (wpAny_pure ⟨_,rfl,wpAny_pure h⟩) htake))
end
end HT
namespace L2
open PySem PySem.Spec PyProof.Rows
noncomputable abbrev TO:=St->Hp->(Option Int->Hp->Prop)->Prop
noncomputable def PO(X:Cx)(e:Option Expr)(t:TO):Prop:=
 ∀(pins:List (Addr×Obj)) (s:Shared) (σ:St) (H:Hp) (Q:Option Int->Hp->Prop),Inv X pins σ H s->t σ H Q->
  wpAny (model X.prog X.w) X.A (evalPart e X.env) (fun u s'=>∃ o H',Inv X pins σ H' s'/\IsPart u o/\Q o H') X.xe s
noncomputable def P4:TO:=fun _ H Q=>Q none H
noncomputable def UT(t:TE):TO:=fun σ H Q=>t σ H fun x H1=>∃ i,x = .int i/\Q (some i) H1
section
variable{X:Cx}{e:Expr}{te:TE}{lo hi:Option Expr}{tl th:TO}{pos p2:Pos}
theorem P5:PO X none P4:=by
 intro pins s σ H Q I h;rw[evalPart_none];exact wpAny_pure ⟨none,H,I,.none,h⟩
theorem J6(h:PE X e te):PO X (some e) (UT te):=by
 intro pins s σ H Q I hw;rw[evalPart_some];refine thn (h pins s σ H _ I hw) fun u s1 ⟨x,H1,I1,r1,q1⟩=>?_;obtain⟨i,rfl,q⟩:=q1;obtain⟨t,rfl⟩:=r1;exact⟨some i,H1,I1,.int i t,q⟩
noncomputable def SlR(X:Cx)(r:V->Option Int->Option Int->Hp->VK->Prop):Prop:=
 ∀(pins:List (Addr×Obj)) (s:Shared) (σ:St) (H:Hp) (x:V) (v vl vu:Value) (lo hi:Option Int) (sl:Addr) (Q:VK),Inv X pins σ H s->RelV x v->s.heap.IsSliceOf sl vl vu .none->IsPart vl lo->IsPart vu hi->r x lo hi H Q->
  ∃ T id,typeLookup (.type T) "__getitem__"=pure (some (.builtin id))/\s.TypeIs v T/\wpAny (model X.prog X.w) X.A (getItem v (.ref sl)) (EP X pins σ Q) X.xe s
theorem SlR.or{r r':V->Option Int->Option Int->Hp->VK->Prop}(h:SlR X r)(h':SlR X r'):SlR X (fun x lo hi H Q=>r x lo hi H Q\/r' x lo hi H Q):=by
 intro pins s σ H x v vl vu lo hi sl Q I rx hs pl pu q;rcases q with q | q
 ·exact h pins s σ H x v vl vu lo hi sl Q I rx hs pl pu q
 ·exact h' pins s σ H x v vl vu lo hi sl Q I rx hs pl pu q
noncomputable def tSl(r:V->Option Int->Option Int->Hp->VK->Prop)(te:TE)(tl th:TO):TE:=fun σ H Q=>te σ H fun x H1=>tl σ H1 fun l H2=>th σ H2 fun u H3=>r x l u H3 Q
theorem ME{r:V->Option Int->Option Int->Hp->VK->Prop}(hr:SlR X r)(he:PE X e te)(hl:PO X lo tl)(hu:PO X hi th):PE X (.Subscript e (.Slice lo hi none p2) pos) (tSl r te tl th):=by
 intro pins s σ H Q I h;refine Subscript_ (thn (he pins s σ H _ I h) fun v s1 ⟨x,H1,I1,r1,q1⟩=>?_);refine wpAny_Slice (thn (hl pins s1 σ H1 _ I1 q1) fun vl s2 ⟨l,H2,I2,pl,q2⟩=>thn (hu pins s2 σ H2 _ I2 q2) fun vu s3 ⟨u,H3,I3,pu,q3⟩=>?_);rw[evalPart_none];refine wpAny_pure ?_;have I4:Inv X pins σ H3 {s3 with heap:=s3.heap.push {cls := .type "slice",data := .fields #[vl,vu,.none]}}:=I3.kept (t':=s3.toks) fun b ob q=>W8 _ q;obtain⟨T,id,hT,ht,hg⟩:=hr pins {s3 with heap:=s3.heap.push {cls := .type "slice",data := .fields #[vl,vu,.none]}} σ H3 x v vl vu l u s3.heap.objs.size Q I4 r1 (ZR.new ..) pl pu q3;show wpAny (model X.prog X.w) X.A (subscriptTail e (.Slice lo hi none p2) v (.ref s3.heap.objs.size)) (EP X pins σ Q) X.xe {s3 with heap:=s3.heap.push {cls := .type "slice",data := .fields #[vl,vu,.none]}};exact tail_any (ops:=[.ref s3.heap.objs.size,v]) ht hT hg (by with_unfolding_all rfl)
noncomputable def Fx(xs:List V)(lo hi:Option Int):List V:=(xs.drop (HT.sIx xs.length 0 lo)).take (HT.sIx xs.length xs.length hi - HT.sIx xs.length 0 lo)
theorem Cz(xs:List V)(lo hi:Option Int):(Fx xs lo hi).length<=xs.length:=by
 unfold Fx;rw[WY,Wy];omega
noncomputable def UU(K:Vy):V->Option Int->Option Int->Hp->VK->Prop:=fun x lo hi H Q=>∃ a xs,x = .ref a/\SqT K H a xs/\
 ¬ (HT.sIx xs.length 0 lo=0/\HT.sIx xs.length xs.length hi=xs.length)/\∀ p,H p=none->Q (.ref p) (upd H p (.tup (Fx xs lo hi)))
theorem sl_tup:SlR X (UU X.K):=by
 intro pins s σ H x v vl vu lo hi sl Q I rx hs pl pu h;obtain⟨a,xs,rfl,hx,hw,q⟩:=h;cases rx;obtain⟨its,r,ht,hz⟩:=I.tuple hx;have hlen:its.toArray.size=xs.length:=by rw[W7];exact r.length.symm
 refine⟨"tuple",_,PyProof.Rows.slot_tuple_getitem.lookup,ht.typeIs,?_⟩;refine HT.getItem_tuple_cut ht hs pl pu (by rw[hlen];exact hw) ?_ (by rw[hlen];exact hz);rw[hlen];refine⟨.ref s.heap.objs.size,_,I.laid (t':=s.toks) (o := .tup (Fx xs lo hi)) (fun b ob q=>W8 _ q) (WB _) ?_,rfl,q _ (I.hok.fresh (WB _))⟩;exact⟨Wj (Cz xs lo hi) hz,_,(r.drop (HT.sIx xs.length 0 lo)).take (HT.sIx xs.length xs.length hi - HT.sIx xs.length 0 lo),IsTup.new _ _⟩
end
open PySem PySem.Spec PyProof.Rows
noncomputable def ixN(n:Nat)(i:Int):Option Nat:=if 0<=i then (if i<n then some i.toNat else none) else if -(n:Int)<=i then some (i+n).toNat else none
noncomputable def atI{α:Type}(xs:List α)(i:Int):Option α:=(ixN xs.length i).bind fun j=>xs[j]?
theorem J7{n:Nat}{i:Int}{j:Nat}(h:ixN n i=some j):seqIndex? i n=some j/\j<n /\ -(n:Int)<=i/\i<n:=by
 unfold ixN at h;by_cases h0:0<=i
 ·rw[if_pos h0]at h;by_cases h1:i<n
  ·rw[if_pos h1]at h;have e:i.toNat=j:=oj h;exact⟨by rw[seqIndex_of h0 h1,e],by omega,by omega,h1⟩
  ·rw[if_neg h1]at h;cases h
 ·rw[if_neg h0]at h;by_cases h1:-(n:Int)<=i
  ·rw[if_pos h1]at h;have e:(i+n).toNat=j:=oj h;exact⟨by rw[seqIndex_neg (by omega) h1,e],by omega,h1,by omega⟩
  ·rw[if_neg h1]at h;cases h
theorem J8{α:Type}{xs:List α}{i:Int}{v:α}(h:atI xs i=some v):∃ j,seqIndex? i xs.length=some j/\xs[j]?=some v/\j<xs.length /\ -(xs.length:Int)<=i/\i<xs.length:=by
 unfold atI at h;cases e:ixN xs.length i with
 | none=>rw[e]at h;cases h
 | some j=>
   rw[e]at h;obtain⟨h1,h2,h3,h4⟩:=J7 e;exact⟨j,h1,h,h2,h3,h4⟩
theorem i7{α:Type}{xs:List α}{j:Nat}{v:α}(h:xs[j]?=some v):atI xs (j:Int)=some v:=by
 have hj:j<xs.length:=(gM h).1
 have e:ixN xs.length (j:Int)=some j:=by
  unfold ixN;rw[if_pos (by omega),if_pos (by omega)];simp
 unfold atI;rw[e];exact h
noncomputable def J9(b:Expr):Prop:=∀ o i,subscripted b false o i=operate [o,i] (getItem o i)
noncomputable def IxR(X:Cx)(r:R2):Prop:=
 ∀(value slice:Expr) (pins:List (Addr×Obj)) (s:Shared) (σ:St) (H:Hp) (x y:V) (v u:Value) (Q:VK),Inv X pins σ H s->RelV x v->RelV y u->r x y H Q->
  subscripted slice false v u=operate [v,u] (getItem v u)->wpAny (model X.prog X.w) X.A (subscriptTail value slice v u) (EP X pins σ Q) X.xe s
noncomputable def MtR(X:Cx)(id:String)(r:V->List V->Hp->VK->Prop):Prop:=
 ∀(pins:List (Addr×Obj)) (s:Shared) (σ:St) (H:Hp) (x:V) (xs:List V) (v:Value) (us:List Value) (Q:VK),Inv X pins σ H s->RelV x v->Vals xs us->r x xs H Q->
  wpAny (model X.prog X.w) X.A (call (.builtin id) (v::us)) (EP X pins σ Q) X.xe s
section
variable{X:Cx}{a b:Expr}{ta tb:TE}{pos:Pos}
theorem IxR.or{r r':R2}(h:IxR X r)(h':IxR X r'):IxR X (fun x y H Q=>r x y H Q\/r' x y H Q):=by
 intro value slice pins s σ H x y v u Q I rx ry q hs;rcases q with q | q
 ·exact h value slice pins s σ H x y v u Q I rx ry q hs
 ·exact h' value slice pins s σ H x y v u Q I rx ry q hs
theorem UV{r:R2}(hr:IxR X r)(ha:PE X a ta)(hb:PE X b tb)(hs:J9 b):PE X (.Subscript a b pos) (tOp r ta tb):=by
 intro pins s σ H Q I h;exact Subscript_ (SH ha hb I h fun v u s2 x y H2 I2 rx ry q=>hr a b pins s2 σ H2 x y v u Q I2 rx ry q (hs _ _))
noncomputable def UW(K:Vy):R2:=fun x y H Q=>∃ p xs i v,x = .ref p/\y = .int i/\SqL K H p xs/\atI xs i=some v/\Q v H
noncomputable def UX(K:Vy):R2:=fun x y H Q=>∃ p xs i v,x = .ref p/\y = .int i/\SqT K H p xs/\atI xs i=some v/\Q v H
theorem ix_list:IxR X (UW X.K):=by
 intro value slice pins s σ H x y v u Q I rx ry h hs;obtain⟨p,xs,i,z,rfl,rfl,hq,he,q⟩:=h;cases rx;obtain⟨t,rfl⟩:=ry;obtain⟨its,r,pl,hz⟩:=I.list hq;obtain⟨j,h1,h2,h3,h4,h5⟩:=J8 he;obtain⟨w,ew,rw'⟩:=r.get h2;have hl:=r.length;have hn:=C6;have fin:EP X pins σ Q w s:=⟨z,H,I,rw',q⟩
 by_cases h0:0<=i
 ·have hj:i.toNat=j:=by
   rw[seqIndex_of h0 h5]at h1;exact oj h1
  exact item_listR pl.isList h0 (by omega) (by rw[hj];simpa using ew) fin hs
 ·have hj:(i+(its.toArray.size:Int)).toNat=j:=by
   rw[seqIndex_neg (by omega) h4]at h1;rw[W7,<-hl];exact oj h1
  exact subscriptTail_builtinR (x:=w) pl.isList.typeIs slot_list_getitem.lookup
   (wpAny_getItem_list_neg (Q:=fun r s'=>r=w/\EP X pins σ Q r s') pl.isList (by omega) (by rw[W7]<;>omega) (by omega) (by rw[hj];simpa using ew) ⟨rfl,fin⟩) hs
theorem SX:IxR X (UX X.K):=by
 intro value slice pins s σ H x y v u Q I rx ry h hs;obtain⟨p,xs,i,z,rfl,rfl,hq,he,q⟩:=h;cases rx;obtain⟨t,rfl⟩:=ry;obtain⟨its,r,pl,hz⟩:=I.tuple hq;obtain⟨j,h1,h2,h3,h4,h5⟩:=J8 he;obtain⟨w,ew,rw'⟩:=r.get h2;have hl:=r.length;have hn:=C6;have fin:EP X pins σ Q w s:=⟨z,H,I,rw',q⟩
 exact subscriptTail_builtinR (x:=w) pl.typeIs slot_tuple_getitem.lookup
  (getItem_tuple (j:=j) (Q:=fun r s'=>r=w/\EP X pins σ Q r s') pl (by omega) (by omega) (by rw[W7,<-hl];exact h1) (by simpa using ew) ⟨rfl,fin⟩) hs
theorem Ho(its:List Value)(n j:Nat)(u:Value):Obj.mapSeq (·.setIfInBounds j u) {cls := .type "list",data := .seq its.toArray n}={cls := .type "list",data := .seq (its.set j u).toArray n}:=by
 simp[Obj.mapSeq]
theorem Inv.lst{pins:List (Addr×Obj)}{σ:St}{H:Hp}{s:Shared}{p:Addr}{xs:List V}(I:Inv X pins σ H s)(h:H p=some (.lst xs)):
 ∃(its:List Value) (n:Nat),Vals xs its/\s.heap.get? p=some {cls := .type "list",data := .seq its.toArray n}/\xs.length<=sizeLine:=by
 obtain⟨z,its,n,r,e⟩:=I.hok p _ h;exact⟨its,n,r,e,z⟩
theorem Inv.lstUpd{pins:List (Addr×Obj)}{σ:St}{H:Hp}{s:Shared}{p:Addr}{xs ys:List V}{its its':List Value}{n n':Nat}{f:Obj->Obj}(I:Inv X pins σ H s)(h:H p=some (.lst xs))
 (ho:s.heap.get? p=some {cls := .type "list",data := .seq its.toArray n}) (hf:f {cls := .type "list",data := .seq its.toArray n}={cls := .type "list",data := .seq its'.toArray n'}) (r:Vals ys its') (hz:ys.length<=sizeLine) (t:Nat):
 Inv X pins σ (upd H p (.lst ys)) {s with heap:=s.heap.update p f,toks:=t}:=by
 have e:(s.heap.update p f).get? p=some {cls := .type "list",data := .seq its'.toArray n'}:=by
  rw[Ww f ho (by rw[hf]<;>rfl),hf]
 refine I.write (x:=p) (e:=p) (by rw[h];trivial) (.inl rfl) (fun b u hb q=>(Wx _ _ (Ne.symm hb)).trans q) ⟨_,e⟩ ?_;exact⟨hz,its',n',r,e⟩
noncomputable def JA:V->V->V->Hp->(Hp->Prop)->Prop:=fun o i v H Q=>∃ p xs k j,o = .ref p/\i = .int k/\H p=some (.lst xs)/\ixN xs.length k=some j/\Q (upd H p (.lst (xs.set j v)))
theorem Fy:SB X JA:=by
 intro pins s σ H o i v ov iv u Q I ro ri rv h;obtain⟨p,xs,k,j,rfl,rfl,hp,hj,q⟩:=h;cases ro;obtain⟨t,rfl⟩:=ri;obtain⟨its,n,r,ho,hz⟩:=I.lst hp;obtain⟨h1,h2,h3,h4⟩:=J7 hj;have hl:=r.length;have hn:=C6
 have I':Inv X pins σ (upd H p (.lst (xs.set j v))) {s with heap:=s.heap.update p (Obj.mapSeq (·.setIfInBounds j u))}:=
  I.lstUpd hp ho (Ho its n j u) (r.set rv j) (by rw[WU];exact hz) s.toks
 by_cases h0:0<=k
 ·have hk:k.toNat=j:=by
   rw[seqIndex_of h0 h4]at h1;exact oj h1
  exact PySem.W.ki_setAt ho h0 (by omega) (by rw[W7,<-hl];exact h4) (by rw[hk];exact⟨_,I',q⟩)
 ·have hk:(k+(its.toArray.size:Int)).toNat=j:=by
   rw[seqIndex_neg (by omega) h3]at h1;rw[W7,<-hl];exact oj h1
  exact PySem.W.ki_setBack ho (by omega) (by rw[W7,<-hl];exact h3) (by omega) (by rw[hk];exact⟨_,I',q⟩)
theorem Ez(lo hi:Option Int)(n:Nat):(sliceBounds lo hi none n).1=((HT.sIx n 0 lo:Nat):Int)/\(sliceBounds lo hi none n).2.1=((HT.sIx n n hi:Nat):Int)/\(sliceBounds lo hi none n).2.2=1:=by
 refine⟨?_,?_,rfl⟩
 ·cases lo with
  | none=>simp[sliceBounds,HT.sIx]
  | some i=>
    simp only[sliceBounds,HT.sIx,Yj,show(1:Int)>0 by decide,if_true];by_cases h:i<0
    ·simp only[h,if_true]<;>omega
    ·simp only[h,if_false]<;>omega
 ·cases hi with
  | none=>simp[sliceBounds,HT.sIx]
  | some i=>
    simp only[sliceBounds,HT.sIx,Yj,show(1:Int)>0 by decide,if_true];by_cases h:i<0
    ·simp only[h,if_true]<;>omega
    ·simp only[h,if_false]<;>omega
theorem E3(its:List Value)(lo hi:Option Int):slicePick its.toArray lo hi none=((its.drop (HT.sIx its.length 0 lo)).take (HT.sIx its.length its.length hi - HT.sIx its.length 0 lo)).toArray:=by
 obtain⟨h1,h2,h3⟩:=Ez lo hi its.toArray.size;unfold slicePick;rw[h1,h2,h3];simp only[sliceRange_one,pick_run,W7]<;>rfl
noncomputable def UY(K:Vy):V->Option Int->Option Int->Hp->VK->Prop:=fun x lo hi H Q=>∃ a xs,x = .ref a/\SqL K H a xs/\∀ p,H p=none->Q (.ref p) (upd H p (.lst (Fx xs lo hi)))
theorem sl_list:SlR X (UY X.K):=by
 intro pins s σ H x v vl vu lo hi sl Q I rx hs pl pu h;obtain⟨a,xs,rfl,hx,q⟩:=h;cases rx;obtain⟨its,r,ht,hz⟩:=I.list hx;have hlen:=r.length;refine⟨"list",_,slot_list_getitem.lookup,ht.isList.typeIs,?_⟩;refine wpAny_getItem_list_slice ht.isList hs pl pu .none (by simp) ?_ (by rw[W7]<;>omega);rw[E3,<-hlen];refine⟨.ref s.heap.objs.size,_,I.laid (t':=s.toks) (o := .lst (Fx xs lo hi)) (fun b ob q=>W8 _ q) (WB _) ?_,rfl,q _ (I.hok.fresh (WB _))⟩;exact⟨Wj (Cz xs lo hi) hz,_,0,(r.drop (HT.sIx xs.length 0 lo)).take (HT.sIx xs.length xs.length hi - HT.sIx xs.length 0 lo),WL _ rfl⟩
noncomputable def A7:V->Bool
 | .non=>true
 | .bl _=>true
 | .int _=>true
 | .str _=>true
 | _=>false
noncomputable def eqV:V->V->Bool
 | .non,.non=>true
 | .bl a,.bl b=>a == b
 | .bl a,.int b=>(if a then 1 else 0) == b
 | .int a,.bl b=>a == (if b then 1 else 0)
 | .int a,.int b=>a == b
 | .str a,.str b=>a == b
 | _,_=>false
theorem MF{A:Around}{s:Shared}{y x:V}{u v:Value}(ry:RelV y u)(rx:RelV x v)(fy:A7 y=true)(fx:A7 x=true):SeqAt.EqAt A s u v (eqV y x):=by
 cases y with
 | non=>
   cases ry;cases x with
   | non=>cases rx;exact SeqAt.EqAt.same _
   | bl b=>cases rx;exact SeqAt.EqAt.none_bool b
   | int b=>obtain⟨t,rfl⟩:=rx;exact SeqAt.EqAt.none_int b t
   | str b=>obtain⟨t,rfl⟩:=rx;exact SeqAt.EqAt.none_str b t
   | _=>exact absurd (show false=true from fx) WF
 | bl a=>
   cases ry;cases x with
   | non=>cases rx;exact SeqAt.EqAt.bool_none a
   | bl b=>cases rx;exact SeqAt.EqAt.bool_bool a b
   | int b=>obtain⟨t,rfl⟩:=rx;exact SeqAt.EqAt.bool_int a b t
   | str b=>obtain⟨t,rfl⟩:=rx;exact SeqAt.EqAt.bool_str a b t
   | _=>exact absurd (show false=true from fx) WF
 | int a=>
   obtain⟨t',rfl⟩:=ry;cases x with
   | non=>cases rx;exact SeqAt.EqAt.int_none a t'
   | bl b=>cases rx;exact SeqAt.EqAt.int_bool a t' b
   | int b=>obtain⟨t,rfl⟩:=rx;exact SeqAt.EqAt.int_int a t' b t
   | str b=>obtain⟨t,rfl⟩:=rx;exact SeqAt.EqAt.int_str a t' b t
   | _=>exact absurd (show false=true from fx) WF
 | str a=>
   obtain⟨t',rfl⟩:=ry;cases x with
   | non=>cases rx;exact SeqAt.EqAt.str_none a t'
   | bl b=>cases rx;exact SeqAt.EqAt.str_bool a t' b
   | int b=>obtain⟨t,rfl⟩:=rx;exact SeqAt.EqAt.str_int a t' b t
   | str b=>obtain⟨t,rfl⟩:=rx;exact SeqAt.EqAt.str_str a t' b t
   | _=>exact absurd (show false=true from fx) WF
 | _=>exact absurd (show false=true from fy) WF
noncomputable def eqU(x:V)(u:Value):Bool:=match u with
 | .none=>eqV .non x
 | .bool b=>eqV (.bl b) x
 | .int i _=>eqV (.int i) x
 | .str z _=>eqV (.str z) x
 | _=>false
theorem MG{x y:V}{u:Value}(r:RelV y u)(f:A7 y=true):eqU x u=eqV y x:=by
 cases y with
 | non=>cases r;rfl
 | bl b=>cases r;rfl
 | int i=>obtain⟨t,rfl⟩:=r;rfl
 | str z=>obtain⟨t,rfl⟩:=r;rfl
 | _=>exact absurd (show false=true from f) WF
theorem CJ{x:V}:∀{xs:List V} {us:List Value},Vals xs us->xs.all A7=true->us.any (eqU x)=xs.any fun y=>eqV y x
 | _,_,.nil,_=>rfl
 | y::xs,u::us,.cons r t,f=>by
   rw[XS,Vz]at f;rw[Xp,Xp,MG r f.1,CJ t f.2]
theorem BV{A:Around}{s:Shared}{x:V}{v:Value}(rx:RelV x v)(fx:A7 x=true):∀{xs:List V} {us:List Value},Vals xs us->xs.all A7=true->∀ u∈us,SeqAt.EqAt A s u v (eqU x u)
 | _,_,.nil,_=>fun u hu=>by cases hu
 | y::xs,u::us,.cons r t,f=>fun u' hu=>by
   rw[XS,Vz]at f;rcases WN.mp hu with rfl | hu
   ·rw[MG r f.1];exact MF r rx f.1 fx
   ·exact BV rx fx t f.2 u' hu
noncomputable def inV(x:V)(xs:List V):Bool:=xs.any fun y=>eqV y x
noncomputable def rIn(K:Vy)(neg:Bool):R2:=fun x y H Q=>∃ p xs,y = .ref p/\(SqL K H p xs\/SqT K H p xs)/\A7 x=true/\xs.all A7=true/\Q (.bl (if neg then !inV x xs else inV x xs)) H
theorem KP:OpR X (compareOp .In) (rIn X.K false):=by
 intro pins s σ H x y v u Q I rx ry h;obtain⟨p,xs,rfl,hq,fx,fs,q⟩:=h;cases ry;rcases hq with hq | hq
 ·obtain⟨its,r,pl,hz⟩:=I.list hq;refine SeqAt.in_listAt (eqU x) pl.isList (fun w hw=>BV rx fx r fs w (by simpa using hw)) ⟨.bl _,H,I,rfl,?_⟩;rw[show its.toArray.any (eqU x)=its.any (eqU x) by simp,CJ r fs];exact q
 ·obtain⟨its,r,pl,hz⟩:=I.tuple hq;refine SeqAt.in_tupleAt (eqU x) pl (fun w hw=>BV rx fx r fs w (by simpa using hw)) ⟨.bl _,H,I,rfl,?_⟩;rw[show its.toArray.any (eqU x)=its.any (eqU x) by simp,CJ r fs];exact q
theorem F0:OpR X (compareOp .NotIn) (rIn X.K true):=by
 intro pins s σ H x y v u Q I rx ry h;obtain⟨p,xs,rfl,hq,fx,fs,q⟩:=h;cases ry;rcases hq with hq | hq
 ·obtain⟨its,r,pl,hz⟩:=I.list hq;refine SeqAt.notIn_listAt (eqU x) pl.isList (fun w hw=>BV rx fx r fs w (by simpa using hw)) ⟨.bl _,H,I,rfl,?_⟩;rw[show its.toArray.any (eqU x)=its.any (eqU x) by simp,CJ r fs];exact q
 ·obtain⟨its,r,pl,hz⟩:=I.tuple hq;refine SeqAt.notIn_tupleAt (eqU x) pl (fun w hw=>BV rx fx r fs w (by simpa using hw)) ⟨.bl _,H,I,rfl,?_⟩;rw[show its.toArray.any (eqU x)=its.any (eqU x) by simp,CJ r fs];exact q
theorem F1:CallR X (.builtin "len") (fun xs H Q=>∃ p ys,xs=[.ref p]/\(SqL X.K H p ys\/SqT X.K H p ys)/\Q (.int ys.length) H):=by
 intro pins s σ H xs us Q I r h;obtain⟨p,ys,rfl,hq,q⟩:=h;obtain⟨u,rfl,rx⟩:=Ar r;cases rx;have hn:=C6;rcases hq with hq | hq
 ·obtain⟨its,r',pl,hz⟩:=I.list hq;have hlen:=r'.length;exact Calls.call_len_list pl.isList (by simp only[W7]<;>omega) ⟨.int ys.length,H,I.tok _,⟨s.toks+1,by rw[W7,hlen]⟩,q⟩
 ·obtain⟨its,r',pl,hz⟩:=I.tuple hq;have hlen:=r'.length;exact len_tuple pl (by simp only[W7]<;>omega) ⟨.int ys.length,H,I.tok _,⟨s.toks+1,by rw[W7,hlen]⟩,q⟩
theorem CallR.or{f:Value}{r r':List V->Hp->VK->Prop}(h:CallR X f r)(h':CallR X f r'):CallR X f (fun xs H Q=>r xs H Q\/r' xs H Q):=by
 intro pins s σ H xs us Q I rs q;rcases q with q | q
 ·exact h pins s σ H xs us Q I rs q
 ·exact h' pins s σ H xs us Q I rs q
theorem F2:CallR X (.type "list") (fun xs H Q=>∃ p ys,xs=[.ref p]/\(SqL X.K H p ys\/SqT X.K H p ys)/\∀ l,H l=none->Q (.ref l) (upd H l (.lst ys))):=by
 intro pins s σ H xs us Q I r h;obtain⟨p,ys,rfl,hq,q⟩:=h;obtain⟨u,rfl,rx⟩:=Ar r;cases rx
 have fin:∀(its:List Value),Vals ys its->ys.length<=sizeLine->∀(h':Heap) (c':Nat),(∀ b o',s.heap.get? b=some o'->h'.get? b=some o')->
  h'.get? s.heap.objs.size=some {cls := .type "list",dict:=none,data := .seq its.toArray c',slots:=#[]}->EP X pins σ Q (.ref s.heap.objs.size) {s with heap:=h'}:=fun its r' hz h' c' kp e=>
  ⟨.ref s.heap.objs.size,_,I.laid (t':=s.toks) kp (WB _) (show ObjOk X.prog X.w _ h' _ (.lst ys) from ⟨hz,its,c',r',e⟩),rfl,q _ (I.hok.fresh (WB _))⟩
 rcases hq with hq | hq
 ·obtain⟨its,r',pl,hz⟩:=I.list hq;have hlen:=r'.length;obtain⟨o,ho,hc,n,hd⟩:=pl.isList;exact call_list_seq p (.inl rfl) ho hc hd (fun h' c' kp e=>fin its r' hz h' c' kp e) (by simp only[W7]<;>omega)
 ·obtain⟨its,r',pl,hz⟩:=I.tuple hq;have hlen:=r'.length;obtain⟨o,ho,hc,n,hd⟩:=pl;exact call_list_seq p (.inr rfl) ho hc hd (fun h' c' kp e=>fin its r' hz h' c' kp e) (by simp only[W7]<;>omega)
theorem E4:CallR X (.type "tuple") (fun xs H Q=>∃ p ys,xs=[.ref p]/\((SqL X.K H p ys/\∀ l,H l=none->Q (.ref l) (upd H l (.tup ys)))\/(SqT X.K H p ys/\Q (.ref p) H))):=by
 intro pins s σ H xs us Q I r h;obtain⟨p,ys,rfl,h⟩:=h;obtain⟨u,rfl,rx⟩:=Ar r;cases rx;rcases h with⟨hq,q⟩ | ⟨hq,q⟩
 ·obtain⟨its,r',pl,hz⟩:=I.list hq;have hlen:=r'.length;refine call_tuple_list pl.isList (fun h' kp=>?_) (by simp only[W7]<;>omega);have I1:Inv X pins σ H {s with heap:=h'}:=I.kept (t':=s.toks) kp
  have I2:Inv X pins σ (upd H h'.objs.size (.tup ys)) {s with heap:=h'.push {cls := .type "tuple",data := .seq its.toArray}}:=
   I1.laid (t':=s.toks) (fun b o e=>W8 _ e) (WB _) (show ObjOk X.prog X.w _ _ _ (.tup ys) from ⟨hz,its,r',IsTup.new _ _⟩)
  exact⟨.ref h'.objs.size,_,I2,rfl,q _ (I1.hok.fresh (WB _))⟩
 ·obtain⟨its,r',pl,hz⟩:=I.tuple hq;exact call_tuple_same pl ⟨.ref p,H,I,rfl,q⟩
noncomputable def tyV(K:Vy)(T:String)(x:V)(H:Hp):Prop:=match x with
 | .str _=>T="str"
 | .int _=>T="int"
 | .ref p=>(T="list"/\∃ xs,SqL K H p xs)\/(T="tuple"/\∃ o,K.lookup p=some o/\o.cls = .type "tuple"/\o.dict=none)\/
    (T="dict"/\((∃ kvs,H p=some (.dK kvs))\/∃ kvs,H p=some (.dT kvs)))\/(T="set"/\∃ S n,H p=some (.set S n))
 | _=>False
theorem MH{pins:List (Addr×Obj)}{σ:St}{H:Hp}{s:Shared}{T:String}{x:V}{v:Value}(I:Inv X pins σ H s)(r:RelV x v)(ty:tyV X.K T x H):
 s.TypeIs v T/\∀ a,v = .ref a->∃ ob,s.heap.get? a=some ob/\ob.dict=none:=by
 cases x with
 | str z=>
   obtain⟨t,rfl⟩:=r;cases(show T="str" from ty);exact⟨typeIs_str s z t,fun _ e=>nomatch e⟩
 | int i=>
   obtain⟨t,rfl⟩:=r;cases(show T="int" from ty);exact⟨typeIs_int s i t,fun _ e=>nomatch e⟩
 | ref p=>
   cases r;rcases ty with⟨rfl,xs,hq⟩ | ⟨rfl,o,hk,hc,hd⟩ | ⟨rfl,hk⟩ | ⟨rfl,S,n,hk⟩
   ·obtain⟨its,_,pl,_⟩:=I.list hq;refine⟨pl.isList.typeIs,fun a e=>?_⟩;cases e;obtain⟨o,n,e,c,hd,_⟩:=pl;exact⟨o,e,hd⟩
   ·refine⟨⟨o,I.kIn p o hk,hc⟩,fun a e=>?_⟩;cases e;exact⟨o,I.kIn _ o hk,hd⟩
   ·have z:∃ o,s.heap.get? p=some o/\o.ExactDict:=by
     rcases hk with⟨kvs,hk⟩ | ⟨kvs,hk⟩
     ·obtain⟨_,_,_,_,o,_,_,e,ex,_⟩:=I.hok p _ hk;exact⟨o,e,ex⟩
     ·obtain⟨_,_,_,_,o,_,_,e,ex,_⟩:=I.hok p _ hk;exact⟨o,e,ex⟩
    obtain⟨o,e,ex⟩:=z;refine⟨⟨o,e,ex.1⟩,fun a e2=>?_⟩;cases e2;exact⟨o,e,ex.2.1⟩
   ·obtain⟨o,_,_,_,e,ex,_⟩:=I.hok p _ hk;refine⟨⟨o,e,ex.1⟩,fun a e2=>?_⟩;cases e2;exact⟨o,e,ex.2.1⟩
 | _=>exact False.elim ty
noncomputable def SY(K:Vy)(T:String)(r:V->List V->Hp->VK->Prop)(to:TE):TE:=fun σ H Q=>to σ H fun x H1=>tyV K T x H1/\r x [] H1 Q
noncomputable def tBM(K:Vy)(T:String)(r:V->List V->Hp->VK->Prop)(to:TE)(t:TA):TE:=fun σ H Q=>to σ H fun x H1=>tyV K T x H1/\t σ H1 fun xs H2=>r x xs H2 Q
variable{o e:Expr}{es:List Expr}{to:TE}{t:TA}{name:Str}{apos cpos:Pos}{T id:String}{r:V->List V->Hp->VK->Prop}
theorem Cf(pa:PlainAttrs T)(slot:Slot T name id)(hty:typeOf (.builtin id)=pure (.type "method_descriptor"))(hm:MtR X id r)(ho:PE X o to)
 (hbase:attributeBase o name X.env (eval o X.env)=eval o X.env:=by rfl) (hline:(apos.endLine == cpos.line)=true:=by rfl):PE X (.Call (.Attribute o name apos) [] [] cpos) (SY X.K T r to):=by
 intro pins s σ H Q I h;refine wpAny_Call_method0_late hbase hline (thn (ho pins s σ H _ I h) fun v s1 ⟨x,H1,I1,r1,ty,q1⟩=>?_);obtain⟨h1,h2⟩:=MH I1 r1 ty;exact⟨T,id,pa,slot,hty,h1,h2,Calls.callWith_builtin rfl (PySem.evalArgs_none (hm pins s1 σ H1 x [] v [] Q I1 r1 .nil q1))⟩
theorem EH(pa:PlainAttrs T)(slot:Slot T name id)(hty:typeOf (.builtin id)=pure (.type "method_descriptor"))(hm:MtR X id r)(ho:PE X o to)(ha:PA X (e::es) t)
 (hbase:attributeBase o name X.env (eval o X.env)=eval o X.env:=by rfl)
 (hfew:((backTo cpos (starEach (e::es) X.env)).all (fun x=>!x.1)&&(backToKw cpos (keywordEach [] X.env)).all (fun x=>x.1.isSome)
   && decide ((e::es).length+([]:List Keyword).length+(if ([]:List Keyword).isEmpty then 0 else 1)<30))=true:=by rfl)
 (hline:(apos.endLine == cpos.line)=true:=by rfl) (hs:starEach (e::es) X.env=(false,eval e X.env)::starEach es X.env:=by rfl) (hplain:(backTo cpos (starEach es X.env)).any (·.1)=false:=by rfl):
 PE X (.Call (.Attribute o name apos) (e::es) [] cpos) (tBM X.K T r to t):=by
 intro pins s σ H Q I h;refine wpAny_Call_method_late hbase hfew hline rfl (thn (ho pins s σ H _ I h) fun v s1 ⟨x,H1,I1,r1,ty,q1⟩=>?_);obtain⟨h1,h2⟩:=MH I1 r1 ty;refine⟨T,id,pa,slot,hty,h1,h2,?_⟩;have hA:=ha cpos pins s1 σ H1 _ I1 q1;rw[hs]at hA ⊢;refine Calls.callWith_builtin (by show(false||(backTo cpos (starEach es X.env)).any (·.1))=false;rw[hplain]<;>rfl) (Calls.evalArgs_plain ?_);exact thn hA fun us s2 ⟨vs,H2,I2,r2,q2⟩=>hm pins s2 σ H2 x vs v us Q I2 r1 r2 q2
end
open PySem PySem.Spec PyProof.Rows
noncomputable def MtM(X:Cx)(id:String)(r:V->List V->Hp->VK->Prop):Prop:=
 ∀(pins:List (Addr×Obj)) (s:Shared) (σ:St) (H:Hp) (x:V) (xs:List V) (v:Value) (us:List Value) (Q:VK),Inv X pins σ H s->RelV x v->Vals xs us->r x xs H Q->
  wpAny (model X.prog X.w) X.A (call (.builtin id) (v::us)) (EP X pins σ Q) X.xe s
theorem Vals.one:∀{x:V} {us:List Value},Vals [x] us->∃ u,us=[u]/\RelV x u
 | _,_,.cons r .nil=>⟨_,rfl,r⟩
theorem Vals.two:∀{x y:V} {us:List Value},Vals [x,y] us->∃ u v,us=[u,v]/\RelV x u/\RelV y v
 | _,_,_,.cons r (.cons q .nil)=>⟨_,_,rfl,r,q⟩
theorem Vals.zero:∀{us:List Value},Vals [] us->us=[]
 | _,.nil=>rfl
theorem Vals.dropLast{xs:List V}{us:List Value}(h:Vals xs us):Vals xs.dropLast us.dropLast:=by
 induction h with
 | nil=>exact .nil
 | cons r t ih=>
   cases t with
   | nil=>exact .nil
   | cons q t'=>exact .cons r ih
theorem Vals.eraseIdx:∀{xs:List V} {us:List Value} (i:Nat),Vals xs us->Vals (xs.eraseIdx i) (us.eraseIdx i)
 | _,_,_,.nil => .nil
 | _,_,0,.cons _ t=>t
 | _,_,i+1,.cons r t => .cons r (Vals.eraseIdx i t)
theorem Vals.reverse{xs:List V}{us:List Value}(h:Vals xs us):Vals xs.reverse us.reverse:=by
 induction h with
 | nil=>exact .nil
 | cons r t ih=>rw[Xy,Xy];exact Vals.append ih (.cons r .nil)
theorem Vals.rep{xs:List V}{us:List Value}(h:Vals xs us):∀ k:Nat,Vals (WC k xs).flatten (WC k us).flatten
 | 0 => .nil
 | k+1=>by
   rw[Wr,Wr,XE,XE];exact Vals.append h (Vals.rep h k)
theorem Hq{α:Type}(l:List α):l.eraseIdx (l.length - 1)=l.dropLast:=by
 induction l with
 | nil=>rfl
 | cons a r ih=>
   cases r with
   | nil=>rfl
   | cons b r=>
     have e:(a::b::r).length - 1=((b::r).length - 1)+1:=by
      have h1:(a::b::r).length=r.length+2:=rfl;have h2:(b::r).length=r.length+1:=rfl;omega
     rw[e,List.eraseIdx_cons_succ,ih]
     all_goals rfl
theorem EI{α:Type}:∀(l:List α) (i:Nat),(l.eraseIdx i).length<=l.length
 | [],_=>WB _
 | _::_,0=>Y7 _
 | _::r,i+1=>Nat.succ_le_succ (EI r i)
theorem EJ(its:List Value):∀(k:Nat) (acc:List Value),
 ZS (fun x1 x2=>x1++x2) acc.toArray (WC k its.toArray)=(acc++(WC k its).flatten).toArray
 | 0,acc=>by simp
 | k+1,acc=>by
   have e:acc.toArray++its.toArray=(acc++its).toArray:=by simp
   have e2:(acc++its)++(WC k its).flatten=acc++(WC (k+1) its).flatten:=by
    rw[Wr,XE,WV]
   rw[<-e2,<-EJ its k (acc++its),<-e,Wr,ZQ]
section
variable{X:Cx}{pins:List (Addr×Obj)}{σ:St}{H:Hp}{s:Shared}{l b:Addr}{xs ys zs:List V}
theorem Inv.lset{its its':List Value}{n:Nat}{f:Array Value->Array Value}{t':Nat}(I:Inv X pins σ H s)(hH:H l=some (.lst xs))
 (e:s.heap.get? l=some {cls := .type "list",data := .seq its.toArray n}) (hf:f its.toArray=its'.toArray) (hv:Vals ys its') (hz:ys.length<=sizeLine):
 Inv X pins σ (upd H l (.lst ys)) {s with heap:=s.heap.update l (Obj.mapSeq f),toks:=t'}:=by
 have q:=PySem.IsL.update e f;rw[hf]at q;refine I.write (x:=l) (e:=l) (by rw[hH];exact trivial) (.inl rfl) (fun b' u hb hu=>(Wx s.heap (Obj.mapSeq f) (Ne.symm hb)).trans hu) ⟨_,q⟩ ?_;exact⟨hz,its',_,hv,q⟩
theorem Inv.lnew{its:List Value}{t':Nat}(I:Inv X pins σ H s)(hv:Vals ys its)(hz:ys.length<=sizeLine):
 Inv X pins σ (upd H s.heap.objs.size (.lst ys)) {s with heap:=s.heap.push {cls := .type "list",data := .seq its.toArray},toks:=t'}:=
 I.laid (fun _ _ q=>W8 _ q) (WB _) ⟨hz,its,0,hv,WL _ rfl⟩
theorem Inv.fresh(I:Inv X pins σ H s):H s.heap.objs.size=none:=I.hok.fresh (WB _)
theorem Inv.lstM(I:Inv X pins σ H s)(hH:H l=some (.lst xs)):xs.length<=sizeLine/\∃(its:List Value) (n:Nat),Vals xs its/\xs.length=its.length/\s.heap.get? l=some {cls := .type "list",data := .seq its.toArray n}:=by
 obtain⟨z,its,n,r,e⟩:=I.hok l _ hH;exact⟨z,its,n,r,r.length,e⟩
theorem DP{n:Nat}(h:n<=sizeLine):Builtin.List.listTooLong n=false:=by
 unfold Builtin.List.listTooLong;exact decide_eq_false (by omega)
end
section
variable{X:Cx}
noncomputable def JB:V->List V->Hp->VK->Prop:=fun x vs H Q=>∃ l xs y,x = .ref l/\vs=[y]/\H l=some (.lst xs)/\xs.length<sizeLine/\Q .non (upd H l (.lst (xs++[y])))
theorem Cg:MtM X "list.append" JB:=by
 intro pins s σ H x vs v us Q I rx rv h;obtain⟨l,xs,y,rfl,rfl,hH,hz,q⟩:=h;cases rx;obtain⟨u,rfl,ru⟩:=rv.one;obtain⟨z,its,n,r,hl,e⟩:=I.lstM hH;refine call_meets F.slot_list_append ⟨_,e,rfl⟩ F.entry_list_append (F.args_list_append_2 _ _) (PySem.list_append l its.toArray n u (by rw[W7];omega)) ⟨e,?_⟩;refine⟨.non,_,I.lset (its':=its++[u]) hH e (by simp) (r.append (.cons ru .nil)) ?_,rfl,q⟩;rw[W3,We];omega
noncomputable def JC:V->List V->Hp->VK->Prop:=fun x vs H Q=>∃ l b xs zs,x = .ref l/\vs=[.ref b]/\H l=some (.lst xs)/\H b=some (.lst zs)/\xs.length+zs.length<=sizeLine/\Q .non (upd H l (.lst (xs++zs)))
theorem EK:MtM X "list.extend" JC:=by
 intro pins s σ H x vs v us Q I rx rv h;obtain⟨l,b,xs,zs,rfl,rfl,hH,hB,hz,q⟩:=h;cases rx;obtain⟨u,rfl,ru⟩:=rv.one;cases ru;obtain⟨z,its,n,r,hl,e⟩:=I.lstM hH;obtain⟨z2,its2,n2,r2,hl2,e2⟩:=I.lstM hB;have hsz:its.toArray.size+its2.toArray.size<=sizeLine:=by rw[W7,W7];omega
 have hlong:¬ (!its.toArray.isEmpty&&Builtin.List.listTooLong (its.toArray.size+its2.toArray.size))=true:=by
  rw[DP hsz,Yy];exact WF
 refine call_meets F.slot_list_extend ⟨_,e,rfl⟩ F.entry_list_extend (F.args_list_extend_2 _ _)
  (AutoSeq1.list_extend_list_list_0 l its.toArray n b its2.toArray n2 hlong (by rw[W7];omega) (by omega)) ⟨e,e2,?_⟩
 refine⟨.non,_,I.lset (its':=its++its2) hH e (by simp) (r.append r2) ?_,rfl,q⟩;rw[W3];omega
noncomputable def UZ:V->List V->Hp->VK->Prop:=fun x vs H Q=>∃ l xs y,x = .ref l/\vs=[]/\H l=some (.lst xs)/\xs[xs.length - 1]?=some y/\Q y (upd H l (.lst xs.dropLast))
theorem MI:MtM X "list.pop" UZ:=by
 intro pins s σ H x vs v us Q I rx rv h;obtain⟨l,xs,y,rfl,rfl,hH,hy,q⟩:=h;cases rx;have hus:=rv.zero;subst hus;obtain⟨z,its,n,r,hl,e⟩:=I.lstM hH;obtain⟨u,hu,ru⟩:=r.get hy
 have hy':its.toArray[its.toArray.size - 1]?=some u:=by
  show its.toArray[its.length - 1]?=some u;rw[<-XA,<-hl];exact hu
 refine call_meets F.slot_list_pop ⟨_,e,rfl⟩ F.entry_list_pop (F.args_list_pop_1 _) (MeetsSeq.list_pop_last l its.toArray n u hy' (by rw[W7];omega)) ⟨e,?_⟩;refine⟨y,_,I.lset (its':=its.dropLast) hH e ?_ r.dropLast ?_,ru,q⟩
 ·show its.toArray.eraseIdxIfInBounds (its.toArray.size - 1)=its.dropLast.toArray;rw[W7,YJ,Hq]
 ·rw[List.length_dropLast];omega
noncomputable def MJ:V->List V->Hp->VK->Prop:=fun x vs H Q=>∃ l xs i k y,x = .ref l/\vs=[.int i]/\H l=some (.lst xs) /\ -(2 ^ 63)<=i/\i<2 ^ 63/\seqIndex? i xs.length=some k/\xs[k]?=some y/\Q y (upd H l (.lst (xs.eraseIdx k)))
theorem Fz:MtM X "list.pop" MJ:=by
 intro pins s σ H x vs v us Q I rx rv h;obtain⟨l,xs,i,k,y,rfl,rfl,hH,h1,h2,hk,hy,q⟩:=h;cases rx;obtain⟨u,rfl,ru⟩:=rv.one;obtain⟨t,rfl⟩:=ru;obtain⟨z,its,n,r,hl,e⟩:=I.lstM hH;obtain⟨w,hw,rw'⟩:=r.get hy
 refine call_meets F.slot_list_pop ⟨_,e,rfl⟩ F.entry_list_pop (F.args_list_pop_2 _ _)
  (MeetsSeq.list_pop_at l its.toArray n i t k w (fitsIndex_both h1 h2) (by rw[W7,<-hl];exact hk) (by rw[<-XA];exact hw) (by rw[W7];omega)) ⟨e,?_⟩
 refine⟨y,_,I.lset (its':=its.eraseIdx k) hH e ?_ (r.eraseIdx k) ?_,rw',q⟩
 ·show its.toArray.eraseIdxIfInBounds k=(its.eraseIdx k).toArray;rw[YJ]
 ·have:=EI xs k;omega
noncomputable def G8:V->List V->Hp->VK->Prop:=fun x vs H Q=>∃ l xs,x = .ref l/\vs=[]/\H l=some (.lst xs)/\Q .non (upd H l (.lst xs.reverse))
theorem DQ:MtM X "list.reverse" G8:=by
 intro pins s σ H x vs v us Q I rx rv h;obtain⟨l,xs,rfl,rfl,hH,q⟩:=h;cases rx;have hus:=rv.zero;subst hus;obtain⟨z,its,n,r,hl,e⟩:=I.lstM hH;refine call_meets F.slot_list_reverse ⟨_,e,rfl⟩ F.entry_list_reverse (F.args_list_reverse_1 _) (AutoSeq1.list_reverse_list_0 l its.toArray n (by rw[W7];omega)) ⟨e,?_⟩;refine⟨.non,_,I.lset (its':=its.reverse) hH e (by simp) r.reverse ?_,rfl,q⟩;rw[Z4];omega
noncomputable def Ua:R2:=fun x y H Q=>∃ l b xs zs,x = .ref l/\y = .ref b/\H l=some (.lst xs)/\H b=some (.lst zs)/\xs.length+zs.length<=sizeLine/\∀ p,H p=none->Q (.ref p) (upd H p (.lst (xs++zs)))
theorem SZ:OpR X (binaryOp .Add) Ua:=by
 intro pins s σ H x y v u Q I rx ry h;obtain⟨l,b,xs,zs,rfl,rfl,hH,hB,hz,q⟩:=h;cases rx;cases ry;obtain⟨z,its,n,r,hl,e⟩:=I.lstM hH;obtain⟨z2,its2,n2,r2,hl2,e2⟩:=I.lstM hB;refine PySem.P.add_list e e2 ?_ (by rw[W7,W7];omega);have ea:its.toArray++its2.toArray=(its++its2).toArray:=by simp
 rw[ea];exact⟨.ref _,_,I.lnew (t':=s.toks) (r.append r2) (by rw[W3];omega),rfl,q _ I.fresh⟩
noncomputable def Ub:R2:=fun x y H Q=>∃ l k xs,x = .ref l/\y = .int k/\H l=some (.lst xs) /\ -(2 ^ 63)<=k/\k<2 ^ 63/\xs.length * k.toNat<=sizeLine/\
 ∀ p,H p=none->Q (.ref p) (upd H p (.lst (WC k.toNat xs).flatten))
theorem P6{α:Type}(xs:List α)(k:Nat):(WC k xs).flatten.length=k * xs.length:=by
 induction k with
 | zero=>simp
 | succ k ih=>rw[Wr,XE,W3,ih,ZD,Nat.add_comm]
theorem Sa:OpR X (binaryOp .Mult) Ub:=by
 intro pins s σ H x y v u Q I rx ry h;obtain⟨l,k,xs,rfl,rfl,hH,h1,h2,hz,q⟩:=h;cases rx;obtain⟨t,rfl⟩:=ry;obtain⟨z,its,n,r,hl,e⟩:=I.lstM hH;have hlen:its.toArray.size * k.toNat<=sizeLine:=by rw[W7,<-hl];exact hz
 have hcap:¬ its.toArray.size * k.toNat>(2 ^ 63 - 1) / 8:=by
  have:(sizeLine:Nat)<=(2 ^ 63 - 1) / 8:=by decide
  omega
 have hfit:¬ (!Builtin.List.listFitsIndex k)=true:=by
  rw[fitsIndex_both h1 h2];exact WF
 have hlong:¬ Builtin.List.listTooLong (its.toArray.size * k.toNat)=true:=by
  rw[DP hlen];exact WF
 have hnew:ZS (fun x1 x2=>x1++x2) #[] (WC (if its.toArray.isEmpty=true then 0 else k.toNat) its.toArray)=(WC k.toNat its).flatten.toArray:=by
  have f0:∀ m:Nat,ZS (fun x1 x2=>x1++x2) #[] (WC m its.toArray)=(WC m its).flatten.toArray:=fun m=>by
   have:=EJ its m [];rw[List.nil_append]at this;exact this
  rw[f0];cases its with
  | nil=>simp
  | cons a r'=>rw[if_neg (by simp)]
 refine wpAny_binaryOp_repeat_ref (T:="list") (U:="int") (by decide) ⟨_,e,rfl⟩ (fun s'=>typeIs_int s' k t) noFill_list_mul F.fills_int_mul F.slot_int_rmul repeat_list F.slot_int_index.lookup
  (call_meets F.slot_int_rmul (typeIs_int s k t) F.entry_int_rmul (F.args_int_rmul_2 _ _) (int___rmul___int_list k t l its.toArray n)
    ⟨e,rfl,⟨_,e,rfl⟩,call_meets F.slot_list_mul ⟨_,e,rfl⟩ F.entry_list_mul (F.args_list_mul_2 _ _) (AutoListH.list___mul___list_int_3 l its.toArray n k t hfit hcap hlong) ⟨e,?_⟩⟩)
 rw[hnew];exact⟨.ref _,_,I.lnew (t':=s.toks) (r.rep k.toNat) (by rw[P6,Nat.mul_comm];exact hz),rfl,q _ I.fresh⟩
end
end L2
namespace Att
open PySem PySem.W PySem.Calls PyProof.Rows
theorem D4{P:Params}{h:Heap}:∀(ns:List Int) (vs:List Value),WellAll P h vs (ns.map WData.int)->IntsAre vs ns:=by
 intro ns
 induction ns with
 | nil=>
   intro vs w;rw[ZE]at w;cases w;exact .nil
 | cons n ns ih=>
   intro vs w;rw[Wl]at w;cases w with
   | cons a b=>
     cases a;exact .cons _ _ (ih _ b)
theorem KQ{l:OpenLaw}{n:Nat}(hn:l.most=some n){P:Params}{h:Heap}{args:List WData}{vals:List Value}
 (hpre:l.row.toRowW.claim.pre args=true) (hwl:WellAll P h vals args):
 ∃ a vs ns,vals=[Value.ref a]/\args=[WData.list (ns.map WData.int)]/\h.get? a=some {cls := .type "list",data := .seq vs.toArray}/\IntsAre vs ns/\ns.length<=n:=by
 have hsh:WShape.hasAll [] args [.list .int]=true:=(pre_splitW hpre).1;have hc:l.pre.holds [] {args:=args}=true:=(pre_splitW hpre).2;obtain⟨d,r,rfl,h1,h2⟩:=hasAllW_cons hsh;obtain rfl:=hasAllW_nil h2;obtain⟨xs,rfl,h3⟩:=hasW_list h1;obtain⟨ns,rfl⟩:=items_int h3
 have hlen:ns.length<=n:=by
  unfold OpenLaw.pre at hc
  have h4:(WTm.not (.lt (.lit (.int (n:Int))) (.len (.arg 0)))).holds [] {args:=[.list (ns.map .int)]}=true:=by
   have h4:=(holds_andW hc).1;rw[hn]at h4;exact h4
  have h5:=condW_of h4 (w_not (w_lt w_lit (w_len_list (w_arg rfl))));rw[W2]at h5;refine Nat.le_of_not_lt fun q=>?_;have q':(n:Int)<((ns.length:Nat):Int):=by omega
  first
   | (rw[decide_eq_true q']at h5;exact absurd h5 (by decide))
   | (simp at h5;omega)
 cases hwl with
 | cons w1 w2=>
   cases w2;cases w1 with
   | list ho hall=>exact⟨_,_,ns,rfl,rfl,ho,D4 ns _ hall,hlen⟩
theorem KR(l:OpenLaw)(args:List WData):l.row.toRowW.claim.post args (.bool true) args=true:=
 postW_of (r:=l.row.toRowW) (X:=(true == true))
  (show WShape.has [] (.bool true) .bool=true by first | rfl | decide | simp[WShape.has,WShape.arms,WShape.armsAll])
  (show(WTm.eq .res (.lit (.bool true))).value [] {args:=args,res:=some (.bool true),after:=args}=some (.bool (true == true)) from w_eq_bool (w_res rfl) w_lit) rfl
theorem attach_call{l:OpenLaw}{n:Nat}{q:Program}{loose:List Str}{XP:(Str->Option Value)->Heap->Prop}{YP:World->Heap->Prop}{d:DefRec}
 (hn:l.most=some n) (hdf:d.params.defaults=[])
 (call:∀(w:World) (s₀ s₁:Shared) (mg mb:Str->Option Value) (fa:Addr) (o:Obj) (pm cd doc:Value) (a:Addr) (vs:List Value) (ns:List Int),
   Ground q loose [] XP w s₀ mg mb s₁.heap->YP w s₁.heap->
   s₁.heap.get? fa=some o->o.data = .func (docDef d.name d.params d.body d.scope pm cd doc)->s₁.heap.CodeRec cd d.name->mg d.name=some (.ref fa)->
   s₁.heap.get? a=some {cls := .type "list",data := .seq vs.toArray}->IntsAre vs ns->ns.length<=n->s₁.gens=#[]->
   codeAny (model l.prog w) callerA (.call (.ref fa) ⟨[.ref a],[]⟩) (fun r s'=>r = .ok (.ret (.bool true))/\OldK s₁.heap s'.heap/\s'.os=s₁.os/\AllBare s'.gens) s₁):
 WalkO q loose XP YP l.row.toRowW d [] (fun f vs=>PySem.call f vs):=by
 intro w s₀ s₁ mg mb G Y fa o pm cd doc dV kV ho hd hcd hD hmg hg args vals as hpre hlay hrd hwl hlo;obtain rfl:dV = .none:=Dflts.none hD hdf;obtain rfl:kV = .none:=Dflts.noKw hD;obtain⟨a,vs,ns,rfl,rfl,hobj,hints,hlen⟩:=KQ hn hpre hwl;refine enter_call (codeAny_mono (call w s₀ s₁ mg mb fa o pm cd doc a vs ns G Y ho (fd_plain hd) hcd hmg hobj hints hlen hg) fun r s' hq=>?_);obtain⟨rfl,h2,h3,h4⟩:=hq;exact⟨.inl ⟨.bool true,.bool true,[],rfl,fun _=>rfl,.bool true,KR l _,fun _=>⟨List.Pairwise.nil,fun _ hm=>(nomatch hm)⟩⟩,h2,h3,h4⟩
end Att
namespace L2
open PySem PySem.Spec PyProof.Rows
theorem EL:∀{vs:List Value} {ns:List Int},IntsAre vs ns->Vals (ns.map V.int) vs
 | _,_,.nil => .nil
 | _,_,.cons n t h => .cons ⟨t,rfl⟩ (EL h)
noncomputable def P7(H:Hp):Prop:=∀ b,H b=none\/∃ o xs,H b=some (.frz o (.lst xs))
theorem MK{P:Program}{w:World}{K:Vy}{mg mb:Str->Option Value}{CX:CXT}{k:Nat}{fa a:Addr}{fd:FuncData}{x:Str}{sp:Sp}{s₁:Shared}{vs:List Value}{ns:List Int}
 (KX:K.In s₁.heap) (hns:s₁.heap.Ns mainGlobals mg) (hb:s₁.heap.Ns builtinsNs mb) (hbb:∀ x:Str,x≠"__name__"->mb x=bootBuiltins x) (hlim:s₁.heap.NoLimit) (hg:s₁.gens=#[])
 (ha:s₁.heap.get? a=some {cls := .type "list",data := .seq vs.toArray}) (hi:IntsAre vs ns) (hl:ns.length<=sizeLine) (hr:Room k callerA)
 (F:∀ base:Heap,K.In base->base.Ns mainGlobals mg->FnOk P w K mg base CX k fa fd [x] sp) (hbind:∀(s:Shared) (u:Value),BindsTo s fd ⟨[u],[]⟩ [(x,u)])
 (hsp:∀ H:Hp,P7 H->SqL K H a (ns.map V.int)->sp [.ref a] H (fun v _=>v = .bl true) fun _ _ _=>False)
 (hCX:∀ H e s',CX [] H s₁ (fun _ _ _=>False) e s'->False):
 codeAny (model P w) callerA (.call (.ref fa) ⟨[.ref a],[]⟩) (fun r s'=>r = .ok (.ret (.bool true))/\OldK s₁.heap s'.heap/\s'.os=s₁.os/\AllBare s'.gens) s₁:=by
 have rv:=EL hi;have lenV:=hi.length
 have core:∀ H:Hp,P7 H->SqL K H a (ns.map V.int)->HOk P w H s₁.heap->(∀ b,H b≠none->b=a)->(H a≠none->K.lookup a=none)->
  codeAny (model P w) callerA (.call (.ref fa) ⟨[.ref a],[]⟩) (fun r s'=>r = .ok (.ret (.bool true))/\OldK s₁.heap s'.heap/\s'.os=s₁.os/\AllBare s'.gens) s₁:=by
  intro H hO hS hok hA hK;have v6:∀{b:Addr} {o:Obj},s₁.heap.get? b=some o->H b=none->(Eu s₁.heap H).get? b=some o:=fun e n=>Lj e n
  have noA:∀{b:Addr} {o:Obj} {es:Array DictEntry} {ep:Nat},s₁.heap.get? b=some o->o.data = .dict es ep->H b=none:=fun{b o es ep} e d=>by
   cases q:H b with
   | none=>rfl
   | some u=>
     have e':b=a:=hA b (by rw[q];simp);subst e';rw[ha]at e;cases e;have d':Data.seq vs.toArray _=Data.dict es ep:=d;cases d'
  have nsK:∀{b:Addr} {m:Str->Option Value},s₁.heap.Ns b m->(Eu s₁.heap H).Ns b m:=fun{b m} ⟨o,es,ep,e,d,r⟩=>⟨o,es,ep,v6 e (noA e d),d,r⟩
  have hKb:K.In (Eu s₁.heap H):=fun b o e=>v6 (KX b o e) (by
   cases q:H b with
   | none=>rfl
   | some u=>
     have e':b=a:=hA b (by rw[q];simp);subst e';rw[hK (by rw[q];simp)]at e;cases e)
  have hM:Mod K mg (Eu s₁.heap H):=⟨hKb,nsK hns,⟨mb,nsK hb,hbb⟩,let ⟨mc,h1,h2⟩:=hlim;⟨mc,nsK h1,h2⟩⟩
  have e0:Env0 P w K mg (Eu s₁.heap H) callerA [] s₁ H:=⟨rfl,hM,fun b o e=>Oj e,Zd (KF _ _),trivial,fun b hb=>absurd (show b∈([]:List Addr) from hb) (by simp),hok,.of_eq hg⟩
  refine codeAny_mono ((F _ hKb (nsK hns)).run callerA [] s₁ H ⟨[.ref a],[]⟩ [.ref a] [.ref a] _ _ hr e0 (hbind s₁ (.ref a)) (.cons rfl .nil) (hsp H hO hS)) fun r s' h=>?_;cases r with
  | error e=>exact(hCX H e s' h).elim
  | ok fl=>
    cases fl with
    | next=>exact False.elim h
    | brk=>exact False.elim h
    | cont=>exact False.elim h
    | ret u=>
      obtain⟨v,H',os,bare,un,hok',r',q⟩:=h;have q':v = .bl true:=q;subst q';obtain rfl:u=Value.bool true:=r';refine⟨rfl,OldK.of_keep fun b o e=>?_,os,bare⟩;cases q:H b with
      | none=>exact un.keep b o e q (by intro z;exact absurd (show b∈([]:List Addr) from z) (by simp)) (by simp)
      | some u=>
        rcases hO b with z | ⟨ob,xs,z⟩
        ·rw[q]at z;cases z
        ·have z2:=un.frzs b ob _ z;obtain⟨e1,_⟩:=hok b _ z;obtain⟨e2,_⟩:=hok' b _ z2;rw[e]at e1;cases e1;exact e2
 cases hk:K.lookup a with
 | some o=>
   have e:=KX a o hk;rw[ha]at e;cases e;refine core (fun _=>none) (fun _ => .inl rfl) (.inr ⟨_,vs.toArray,_,hk,rfl,rfl,rfl,by rw[W7,lenV];exact hl,by simpa using rv⟩) (fun b u z=>by have z':(none:Option HO)=some u:=z;cases z') (fun b z=>absurd rfl z) fun z=>absurd rfl z
 | none=>
   refine core (fun b=>if b=a then some (.frz {cls := .type "list",data := .seq vs.toArray} (.lst (ns.map V.int))) else none) (fun b=>?_) (.inl (.inr ⟨{cls := .type "list",data := .seq vs.toArray},if_pos rfl⟩)) (fun b u z=>?_) (fun b z=>?_) fun _=>hk
   ·by_cases hb:b=a
    ·exact .inr ⟨_,_,if_pos hb⟩
    ·exact .inl (if_neg hb)
   ·by_cases hb:b=a
    ·have z':=(if_pos hb).symm.trans z;cases z';subst hb;exact⟨ha,by rw[W2];exact hl,vs,_,rv,ha⟩
    ·have z':=(if_neg hb).symm.trans z;cases z'
   ·by_cases hb:b=a
    ·exact hb
    ·exact absurd (if_neg hb) z
open PySem PySem.Spec PyProof.Rows
theorem walk_of{l:PySem.W.OpenLaw}{n k:Nat}{q:Program}{loose:List Str}{XP:(Str->Option Value)->Heap->Prop}{YP:World->Heap->Prop}{d:DefRec}{K:Params->Vy}{CX:World->CXT}{sp:World->Sp}{x:Str}
 (hn:l.most=some n) (hn2:n<=sizeLine) (hdf:d.params.defaults=[]) (hr:Room k callerA)
 (hY:∀(w:World) (h:Heap),YP w h->(K w.params).In h)
 (F:∀(w:World) (mg:Str->Option Value) (fa:Addr) (h:Heap),(K w.params).In h->h.Ns mainGlobals mg->mg d.name=some (.ref fa)->
   ∃ fd:FuncData,(∀(s:Shared) (u:Value),BindsTo s fd ⟨[u],[]⟩ [(x,u)])/\
    ∀ base:Heap,(K w.params).In base->base.Ns mainGlobals mg->FnOk l.prog w (K w.params) mg base (CX w) k fa fd [x] (sp w))
 (hsp:∀(w:World) (H:Hp) (a:Addr) (ns:List Int),ns.length<=n->P7 H->SqL (K w.params) H a (ns.map V.int)->sp w [.ref a] H (fun v _=>v = .bl true) fun _ _ _=>False)
 (hCX:∀(w:World) (H:Hp) (s:Shared) (e:Value) (s':Shared),CX w [] H s (fun _ _ _=>False) e s'->False):
 PySem.W.WalkO q loose XP YP l.row.toRowW d [] (fun f vs=>PySem.call f vs):=by
 refine Att.attach_call hn hdf fun w s₀ s₁ mg mb fa o pm cd doc a vs ns G Y ho hd hcd hmg hobj hints hlen hg=>?_;have KX:=hY w _ Y;obtain⟨fd,hb,hF⟩:=F w mg fa _ KX G.T.g hmg;exact MK KX G.T.g G.T.b G.T.builtins G.T.nolimit hg hobj hints (Wj hlen hn2) hr hF hb (fun H hO hS=>hsp w H a ns hlen hO hS) fun H e s'=>hCX w H s₁ e s'
open PySem PySem.Spec PyProof.Rows
noncomputable def defArgs(s:Stmt):Arguments:=match s with
 | .FunctionDef _ a _ _ _ _ _ _ _ _=>a
 | _=>{posonlyargs:=[],args:=[],vararg:=none,kwonlyargs:=[],kw_defaults:=[],kwarg:=none,defaults:=[]}
noncomputable def defBody(s:Stmt):List Stmt:=match s with
 | .FunctionDef _ _ b _ _ _ _ _ _ _=>b
 | _=>[]
noncomputable def defScope(s:Stmt):Scope:=match s with
 | .FunctionDef _ _ _ _ _ _ sc _ _ _=>sc
 | _=>{kind := .function,names:=[],isGenerator:=false,isCoroutine:=false}
noncomputable abbrev CX0:CXT:=fun _ _ _ _ _ _=>False
noncomputable abbrev E0:XK:=fun _ _ _=>False
theorem Uc{X:Cx}:Hk CX0 X E0:=fun _ _ _ _ _ _ _ h=>h.elim
structure Fun(K:Vy)(x qual:Str)(st:Stmt)(f:Addr)(fd:FuncData):Prop where
 ex:∃(oc:Value) (od:Option Addr) (kV doc pm:Value) (an:Option Addr) (cdv ct:Value) (osl:Array (Option Value)),
  fd=PySem.W.fnOf x qual (defArgs st) (defBody st) (defScope st) .none kV doc pm an cdv ct/\K.lookup f=some ⟨oc,od,.func fd,osl⟩/\PySem.W.codeIn K cdv qual=true
 kp:PySem.W.keepIn K (.ref f)=true
section
variable{P:Program}{w:World}{K:Vy}{mg:Str->Option Value}{base:Heap}
theorem Fun.ok{x qual:Str}{st:Stmt}{f:Addr}{fd:FuncData}{N ps:List Str}{k:Nat}{sp:Sp}(F:Fun K x qual st f fd)(S:FnScope N ps (defScope st))(len:∀ vs H Q E,sp vs H Q E->vs.length=ps.length)
 (hbody:∀(cdv:Value) (A:Around) (outer:List Env) (s:Shared) (H:Hp) (vs:List V) (Q:VK) (E:XK),Room k (A.deeper (envOfC qual (defScope st) s.heap.objs.size f cdv))->sp vs H Q E->
   ∃ t,PSs (Hl CX0 P w K mg base N qual (defScope st) f cdv A outer s H E).nox (defBody st) t/\t {nx:=fun _ H'=>Q .non H',rt:=Q} (start N vs) H):FnOk P w K mg base CX0 (k+1) f fd ps sp:=by
 obtain⟨oc,od,kV,doc,pm,an,cdv,ct,osl,rfl,lk,hcd⟩:=F.ex;refine US lk hcd S len fun A outer s H vs Q E hr hsp=>?_;obtain⟨t,h,q⟩:=hbody cdv A outer s H vs Q E hr hsp;exact⟨t,h.nox,q⟩
theorem Fun.binds{x qual:Str}{st:Stmt}{f:Addr}{fd:FuncData}{ps:List Str}(F:Fun K x qual st f fd)
 (h:∀(kV doc pm:Value) (an:Option Addr) (cdv ct:Value) (us:List Value),us.length=ps.length->bindArgs (PySem.W.fnOf x qual (defArgs st) (defBody st) (defScope st) .none kV doc pm an cdv ct) ⟨us,[]⟩=pure (ps.zip us)):Binds K fd ps []:=by
 obtain⟨oc,od,kV,doc,pm,an,cdv,ct,osl,rfl,lk,hcd⟩:=F.ex;exact .all (h kV doc pm an cdv ct)
theorem Hr{x qual:Str}{st:Stmt}{f:Addr}{oc:Value}{od an:Option Addr}{osl:Array (Option Value)}{kV doc pm cdv ct:Value}(l:K.lookup f=some ⟨oc,od,.func (PySem.W.fnOf x qual (defArgs st) (defBody st) (defScope st) .none kV doc pm an cdv ct),osl⟩)
 (c:PySem.W.codeIn K cdv qual=true) (k:PySem.W.keepIn K (.ref f)=true):Fun K x qual st f (PySem.W.fnOf x qual (defArgs st) (defBody st) (defScope st) .none kV doc pm an cdv ct):=⟨⟨oc,od,kV,doc,pm,an,cdv,ct,osl,rfl,l,c⟩,k⟩
end
theorem EM{n:Nat}(h:n<=1000):n<sizeLine:=Yb h (by decide)
end L2
set_option maxHeartbeats 4000000
namespace L2
open PySem PySem.Spec PyProof.Rows
noncomputable def A8(env:Env):List (Str×NameKind)->List (Str×Addr)->List (Str×Addr)
 | [],acc=>acc
 | (n,k)::r,acc=>if k == .free then A8 env r ((n,(env.cells.lookup n).getD 0)::acc) else A8 env r acc
theorem n9{env:Env}{scope:Scope}(h:∀ x∈scope.names,x.2 = .free->∃ c,env.cells.lookup x.1=some c):closureFor scope env=pure (A8 env scope.names []):=by
 unfold closureFor
 have go:∀(names:List (Str×NameKind)) (acc:List (Str×Addr)),(∀ x∈names,x.2 = .free->∃ c,env.cells.lookup x.1=some c)->
  (forIn names acc fun x r=>match x with
    | (name,kind)=>if (kind == NameKind.free)=true then do let __do_lift <- cellOf env name;pure (ForInStep.yield ((name,__do_lift)::r)) else pure (ForInStep.yield r):Sem (List (Str×Addr)))=pure (A8 env names acc):=by
  intro names
  induction names with
  | nil=>intro acc _;rfl
  | cons x r ih=>
    intro acc hx;obtain⟨n,k⟩:=x;rw[List.forIn_cons];have hr:=fun y hy=>hx y (W9 _ hy);by_cases hk:k = .free
    ·subst hk;obtain⟨c,hc⟩:=hx (n,.free) WK rfl;have hc':env.cells.lookup n=some c:=hc;unfold A8;simp only[beq_self_eq_true,if_true,cellOf,hc',Option.getD_some,pure_bind];exact ih _ hr
    ·have hb:(k == NameKind.free)=false:=by simpa using hk
     unfold A8;simp only[hb,X6,if_false,pure_bind];exact ih _ hr
 have:=go scope.names [] h;simp only[this]
 first | rfl | simp
theorem Ch{env:Env}:∀(names:List (Str×NameKind)) (acc:List (Str×Addr)),(∀ x∈names,x.2 = .free->∃ c,env.cells.lookup x.1=some c)->(∀ p∈acc,env.cells.lookup p.1=some p.2)->
 ∀ p∈A8 env names acc,env.cells.lookup p.1=some p.2
 | [],_,_,ha,p,hp=>ha p hp
 | (n,k)::r,acc,h,ha,p,hp=>by
   unfold A8 at hp;have hr:=fun y hy=>h y (W9 _ hy);split at hp
   ·rename_i hk;have hk:k = .free:=by simpa using hk
    obtain⟨c,hc⟩:=h (n,k) WK hk;have hc':env.cells.lookup n=some c:=hc;refine Ch r _ hr (fun q hq=>?_) p hp;rcases WN.mp hq with rfl | hq
    ·show env.cells.lookup n=some ((env.cells.lookup n).getD 0);rw[hc'];rfl
    ·exact ha q hq
   ·exact Ch r acc hr ha p hp
theorem Ci{env:Env}:∀(names:List (Str×NameKind)) (acc:List (Str×Addr)),∀ p∈acc,p∈A8 env names acc
 | [],_,_,hp=>hp
 | (n,k)::r,acc,p,hp=>by
   unfold A8;split
   ·exact Ci r _ p (W9 _ hp)
   ·exact Ci r acc p hp
theorem Cj{env:Env}:∀(names:List (Str×NameKind)) (acc:List (Str×Addr)) (n:Str),(n,NameKind.free)∈names->∃ c,(n,c)∈A8 env names acc
 | (m,k)::r,acc,n,hn=>by
   unfold A8;rcases WN.mp hn with e | hn
   ·cases e;simp only[beq_self_eq_true,if_true];exact⟨_,Ci r _ _ WK⟩
   ·split
    ·exact Cj r _ n hn
    ·exact Cj r _ n hn
theorem BW{env:Env}:∀(names:List (Str×NameKind)) (acc:List (Str×Addr)),∀ p∈A8 env names acc,p∈acc\/(p.1,NameKind.free)∈names
 | [],_,_,hp => .inl hp
 | (n,k)::r,acc,p,hp=>by
   unfold A8 at hp;split at hp
   ·rename_i hk;have hk:k = .free:=by simpa using hk
    subst hk;rcases BW r _ p hp with z | z
    ·rcases WN.mp z with rfl | z
     ·exact .inr WK
     ·exact .inl z
    ·exact .inr (W9 _ z)
   ·rcases BW r _ p hp with z | z
    ·exact .inl z
    ·exact .inr (W9 _ z)
theorem AG:∀(names:List (Str×NameKind)) (n:Nat) (acc:List (Str×Addr)),∀ p∈cellsFrom n names acc,p∈acc\/(n<=p.2/\(p.1,NameKind.cell)∈names)
 | [],_,_,_,hp => .inl hp
 | (x,k)::r,n,acc,p,hp=>by
   unfold cellsFrom at hp;split at hp
   ·rename_i hk;have hk:k = .cell:=by simpa using hk
    subst hk;rcases AG r (n+1) _ p hp with z | ⟨z,w⟩
    ·rcases WN.mp z with rfl | z
     ·exact .inr ⟨WB _,WK⟩
     ·exact .inl z
    ·exact .inr ⟨Nat.le_of_succ_le z,W9 _ w⟩
   ·rcases AG r n acc p hp with z | ⟨z,w⟩
    ·exact .inl z
    ·exact .inr ⟨z,W9 _ w⟩
theorem AH:∀(names:List (Str×NameKind)) (n:Nat) (acc:List (Str×Addr)),∀ p∈acc,p∈cellsFrom n names acc
 | [],_,_,_,hp=>hp
 | (x,k)::r,n,acc,p,hp=>by
   unfold cellsFrom;split
   ·exact AH r _ _ p (W9 _ hp)
   ·exact AH r _ _ p hp
theorem An:∀(names:List (Str×NameKind)) (n:Nat) (acc:List (Str×Addr)) (x:Str),(x,NameKind.cell)∈names->∃ c,(x,c)∈cellsFrom n names acc
 | (y,k)::r,n,acc,x,hx=>by
   unfold cellsFrom;rcases WN.mp hx with e | hx
   ·cases e;simp only[beq_self_eq_true,if_true];exact⟨_,AH r _ _ _ WK⟩
   ·split
    ·exact An r _ _ x hx
    ·exact An r _ _ x hx
theorem Ao:∀(names:List (Str×NameKind)) (h:Heap) (acc:List (Str×Addr)),∀ p∈cellsFrom h.objs.size names acc,p∈acc\/(pushCells h names).IsCell p.2 none
 | [],_,_,_,hp => .inl hp
 | (x,k)::r,h,acc,p,hp=>by
   unfold cellsFrom at hp;unfold pushCells;split at hp
   ·rename_i hk;rw[if_pos hk];have:=Ao r (h.push {cls := .type "cell",data := .cell none}) ((x,h.objs.size)::acc) p (by rw[XD];exact hp);rcases this with z | z
    ·rcases WN.mp z with rfl | z
     ·exact .inr ⟨_,pushCells_keeps _ _ _ _ (WL _ rfl),rfl⟩
     ·exact .inl z
    ·exact .inr z
   ·rename_i hk;rw[if_neg hk];exact Ao r h acc p hp
theorem AQ:∀(names:List (Str×NameKind)) (n:Nat) (acc:List (Str×Addr)),(acc.Pairwise fun x y=>x.2≠y.2)->(∀ p∈acc,p.2<n)->(cellsFrom n names acc).Pairwise fun x y=>x.2≠y.2
 | [],_,_,h,_=>h
 | (x,k)::r,n,acc,h,hl=>by
   unfold cellsFrom;split
   ·refine AQ r (n+1) _ (Xt.mpr ⟨fun y hy e=>?_,h⟩) fun p hp=>?_
    ·have h1:=hl y hy;have e':n=y.2:=e;exact absurd h1 (by rw[<-e'];exact XZ _)
    ·rcases WN.mp hp with rfl | hp
     ·exact YK _
     ·exact Xk (hl p hp)
   ·exact AQ r n acc h hl
theorem BX{env:Env}(inj:∀ x y c,env.cells.lookup x=some c->env.cells.lookup y=some c->x=y):∀(names:List (Str×NameKind)) (acc:List (Str×Addr)),(names.map (·.1)).Nodup->
 (∀ x∈names,x.2 = .free->∃ c,env.cells.lookup x.1=some c)->(acc.Pairwise fun x y=>x.2≠y.2)->(∀ p∈acc,env.cells.lookup p.1=some p.2/\p.1∉names.map (·.1))->(A8 env names acc).Pairwise fun x y=>x.2≠y.2
 | [],_,_,_,h,_=>h
 | (n,k)::r,acc,nd,hf,h,ha=>by
   unfold A8;have nd':=XG.mp nd;have hr:=fun y hy=>hf y (W9 _ hy);split
   ·rename_i hk;have hk:k = .free:=by simpa using hk
    obtain⟨c,hc⟩:=hf (n,k) WK hk;have hc':env.cells.lookup n=some c:=hc;refine BX inj r _ nd'.2 hr (Xt.mpr ⟨fun y hy e=>?_,h⟩) fun p hp=>?_
    ·have e':(env.cells.lookup n).getD 0=y.2:=e;rw[hc']at e';have e2:c=y.2:=e';have q:=(ha y hy).1;have:=inj n y.1 c hc' (by rw[e2];exact q);exact(ha y hy).2 (by rw[<-this];exact WK)
    ·rcases WN.mp hp with rfl | hp
     ·refine⟨?_,nd'.1⟩;show env.cells.lookup n=some ((env.cells.lookup n).getD 0);rw[hc'];rfl
     ·exact⟨(ha p hp).1,fun z=>(ha p hp).2 (W9 _ z)⟩
   ·exact BX inj r acc nd'.2 hr h fun p hp=>⟨(ha p hp).1,fun z=>(ha p hp).2 (W9 _ z)⟩
theorem A9{env:Env}:∀(names:List (Str×NameKind)) (x:Str),
 (names.map fun(n,k)=>if (k == NameKind.free&&env.scope.kind == .function&&env.kindOf n == some .cell) then (n,NameKind.cell) else (n,k)).lookup x=
   (names.lookup x).map fun k=>if (k == NameKind.free&&env.scope.kind == .function&&env.kindOf x == some .cell) then NameKind.cell else k
 | [],x=>rfl
 | (n,k)::r,x=>by
   have ih:=A9 (env:=env) r x;rw[Wl];show Yz x ((if (k == NameKind.free&&env.scope.kind == .function&&env.kindOf n == some .cell)=true then (n,NameKind.cell) else (n,k))::_)=_;split
   ·rename_i hc;rw[XX,XX];cases hx:x == n with
    | false=>exact ih
    | true=>
      have e:x=n:=by simpa using hx
      subst e;simp only[Xx];rw[if_pos hc]
   ·rename_i hc;rw[XX,XX];cases hx:x == n with
    | false=>exact ih
    | true=>
      have e:x=n:=by simpa using hx
      subst e;simp only[Xx];rw[if_neg hc]
theorem g7{α:Type}:∀{l:List (Str×α)} {n:Str} {c:α},(l.map (·.1)).Nodup->(n,c)∈l->l.lookup n=some c
 | (k,v)::r,n,c,nd,h=>by
   have nd':=XG.mp nd;rw[XX];rcases WN.mp h with e | h2
   ·cases e;simp
   ·cases hb:n == k with
    | true=>
      have e:n=k:=by simpa using hb
      exact absurd (WZ.mpr ⟨(n,c),h2,e⟩:k∈r.map (·.1)) nd'.1
    | false=>exact g7 nd'.2 h2
theorem C1{α:Type}:∀{l:List (Str×α)} {n:Str} {c:α},(n,c)∈l->∃ d,l.lookup n=some d
 | (k,v)::r,n,c,h=>by
   rw[XX];cases hb:n == k with
   | true=>exact⟨v,rfl⟩
   | false=>
     rcases WN.mp h with e | h
     ·cases e;simp at hb
     ·exact C1 h
noncomputable abbrev c8(X:Cx)(scope:Scope)(N':List Str)(s2:Shared)(H2:Hp)(cs:List (Str×Addr))(C:Addr)(fp:List Addr):Cx where
 prog:=X.prog
 w:=X.w
 K:=X.K
 mg:=X.mg
 base:=X.base
 A:=X.A
 N:=N'
 s₀:=s2
 H₀:=H2
 env:=compEnvC scope cs C X.env
 outer:=X.stack
 stack:=X.stack
 ex:=fp
 fn:=fun x=>scope.names.lookup x == some .cell
 calm:=X.calm
 pn:=X.pn
 xe:=fun _ _=>False
noncomputable def j8(sc0 sc:Scope)(own cn N:List Str)(js:List Nat):Bool:=
 (decide (sc.kind = .function))&&(sc.names.all fun x=>!decide (x.2 = .free)||decide (sc0.names.lookup x.1=some .cell)||decide (sc0.names.lookup x.1=some .free))
 && decide ((sc.names.map (·.1)).Nodup)&&(own.all fun x=>decide (sc.names.lookup x=some .local)||decide (sc.names.lookup x=some .cell))&&(cn.all fun x=>decide (sc.names.lookup x=some .free))
 && decide ((own++cn).Nodup)&&decide (js.map (fun j=>N[j]?)=cn.map some)
noncomputable def Ae(k:Nat)(js:List Nat)(σ:St):St:=WC k none++js.map fun j=>(σ[j]?).join
noncomputable def C8(X:Cx)(ifs:List Expr)(t:TT):Prop:=
 ∀(pins:List (Addr×Obj)) (s:Shared) (σ:St) (H:Hp) (Q:Bool->Hp->Prop),Inv X pins σ H s->t σ H Q->
  wpAny (model X.prog X.w) X.A (forIn ifs true fun c r=>if r=true then do let ok <- isTrue c X.env (eval c X.env);pure (ForInStep.yield ok) else pure (ForInStep.yield r)) (TP X pins σ Q) X.xe s
theorem ML{X:Cx}:C8 X [] (fun _ H Q=>Q true H):=fun _ _ _ H _ I h=>wpAny_tests_nil ⟨H,I,h⟩
theorem MM{X:Cx}{c:Expr}{t:TT}(h:PT X c t):C8 X [c] t:=fun pins s σ H Q I hw=>wpAny_tests_one (h pins s σ H Q I hw)
theorem MN{M:Model}{A:Around}{E:Value->Shared->Prop}{s:Shared}{scope:Scope}{env:Env}{cl:List (Str×Addr)}{Q:Env->Shared->Prop}
 (h:Q (newEnv scope s.heap.objs.size env.globals (cellsFrom (s.heap.objs.size+1) scope.names cl) env.qual none .none (some env) builtinsNs) {s with heap:=pushCells (s.heap.push {cls := .type "dict",data := .dict #[]}) scope.names}):
 wpAny M A (newFunctionEnv scope env.globals cl [] env.qual none .none (some env)) Q E s:=by
 simp only[newFunctionEnv,Z8,if_true];refine wpAny_bind (wpAny_alloc ?_);refine wpAny_bind (wpAny_layCells _ (fun name kind cells=>by cases hkc:kind == NameKind.cell<;>simp[hkc]) _ _ _ _ ?_);rw[show({s with heap:=s.heap.push {cls := .type "dict",data := .dict #[]}}:Shared).heap.objs.size=s.heap.objs.size+1 from XD ..];refine wpAny_bind ?_;rw[List.forIn_nil];exact wpAny_pure (wpAny_pure h)
structure CForm(prog:Program)(w:World)(A:Around)(E tg iter:Expr)(ifs:List Expr)(emit:Value->Env->Sem Unit)(dp:Nat:=0):Prop where
 turn:∀(it:Value) (D:Addr) (env:Env),compTurn E dp it (.ref D) env=(do
  standAt iter.pos
  match <- pyNext it with
  | none=>pure (.done .next)
  | some v=>
    letOwnedTupleGo tg it v
    assign tg env v
    let mut ok:=true
    for c in ifs do
     if ok then ok <- isTrue c env (eval c env)
    if ok then emit (.ref D) env
    again (.compLoop E dp it (.ref D) env))
 und:∀(it acc:Value) (env:Env),A.under (.compLoop E dp it acc env)=A
 den:∀(it acc:Value) (env:Env),(model prog w).den (.compLoop E dp it acc env)=(compTurn E dp it acc env).onRaise (fun x=>do noteFrame x env;theTreesLotGoes x)
 start:∀{R:Result->Shared->Prop} {s:Shared} {it acc:Value} {env:Env},codeAny (model prog w) A (.compLoop E dp it acc env) R s->wpAny (model prog w) A (pyIter it) (fun it' s'=>codeAny (model prog w) A (.compLoop E dp it' acc env) R s') (notedBy (model prog w) A env fun x s'=>R (.error x) s') s->
  codeAny (model prog w) A (.compStart E dp it acc env) R s
theorem CForm.loop{prog:Program}{w:World}{A:Around}{E tg iter:Expr}{ifs:List Expr}{emit:Value->Env->Sem Unit}{dp:Nat}(F:CForm prog w A E tg iter ifs emit dp){R:Result->Shared->Prop}{s:Shared}{it:Value}{D:Addr}{env:Env}(I:Nat->Shared->Prop)
 (turn:∀ n s,I n s->wpAny (model prog w) A (pyNext it) (fun r s₁=>match r with
   | none=>R (.ok .next) s₁
   | some v=>wpAny (model prog w) A (letOwnedTupleGo tg it v) (fun _ s₁'=>wpAny (model prog w) A (assign tg env v) (fun _ s₂=>
      wpAny (model prog w) A (forIn ifs true fun c r=>if r=true then do let ok <- isTrue c env (eval c env);pure (ForInStep.yield ok) else pure (ForInStep.yield r)) (fun ok s₃=>
       if ok=true then wpAny (model prog w) A (emit (.ref D) env) (fun _ s₅=>∃ m,m<n/\I m s₅) (fun _ _=>False) s₃
       else ∃ m,m<n/\I m s₃) (fun _ _=>False) s₂) (fun _ _=>False) s₁') (fun _ _=>False) s₁) (fun _ _=>False) s)
 (n:Nat) (h:I n s):
 codeAny (model prog w) A (.compLoop E dp it (.ref D) env) R s:=by
 refine codeAny_loop rfl I (fun n s hI=>?_) n h;rw[F.und,F.den];refine wpAny_noted ?_;rw[F.turn];refine wpAny_bind (wpAny_standAt (wpAny_bind (wpAny_mono (turn n s hI) (fun r s₁ h₁=>?_) fun _ _ h'=>False.elim h')));cases r with
 | none=>exact wpAny_pure h₁
 | some v=>
   refine wpAny_bind (wpAny_mono h₁ (fun _ s₁' h₁'=>?_) fun _ _ h'=>False.elim h');refine wpAny_bind (wpAny_mono h₁' (fun _ s₂ h₂=>wpAny_bind (wpAny_mono h₂ (fun ok s₃ h₃=>?_) fun _ _ h'=>False.elim h')) fun _ _ h'=>False.elim h');cases ok with
   | false=>exact wpAny_pure ⟨rfl,h₃⟩
   | true=>exact wpAny_bind (wpAny_mono h₃ (fun _ s₅ h₅=>wpAny_pure ⟨rfl,h₅⟩) fun _ _ h'=>False.elim h')
noncomputable def Hs{α:Type}(J:It)(g:TG)(tt:TT)(tem:α->St->Hp->(α->Hp->Prop)->Prop)(σ':St)(Q:Hp->Prop)(W:Nat->Nat->α->Hp->Prop):Prop:=
 ∀ i m a H,W i m a H->(J.stop i H/\Q H)\/(J.go i H/\∃ N:α->Hp->Prop,(∀ a' H',N a' H'->∃ m',m'<m/\W (i+1) m' a' H')/\∀ x H',J.yld i H x H'->g x σ' H' fun σ2 H2=>tt σ2 H2 fun b H3=>if b=true then tem a σ2 H3 N else N a H3)
noncomputable def Ud(elt:Expr)(acc:Value)(env:Env):Sem Unit:=do
 let x <- eval elt env
 let _ <- call (.builtin "list.append") [acc,x]
theorem Ht{prog:Program}{w:World}{A:Around}{elt tg iter:Expr}{ifs:List Expr}{scope:Scope}{pos:Pos}:CForm prog w A (.ListComp elt [⟨tg,iter,ifs,0⟩] scope pos) tg iter ifs (Ud elt) where
 turn:=fun _ _ _=>compTurn_list ..
 und:=fun _ _ _=>rfl
 den:=fun _ _ _=>rfl
 start:=fun h0 h=>codeAny_compStart_list h0 h
noncomputable def Vj(te:TE)(D:Addr)(ys:List V)(σ:St)(H:Hp)(N:List V->Hp->Prop):Prop:=te σ H fun v H4=>H4 D=some (.lst ys)/\ys.length<sizeLine/\N (ys++[v]) (upd H4 D (.lst (ys++[v])))
noncomputable def R8(J:It)(g:TG)(tt:TT)(te:TE)(D:Addr)(σ':St)(Q:List V->Hp->Prop)(W:Nat->Nat->List V->Hp->Prop):Prop:=
 ∀ i m ys H,W i m ys H->(J.stop i H/\Q ys H)\/(J.go i H/\∃ N:List V->Hp->Prop,(∀ ys' H',N ys' H'->∃ m',m'<m/\W (i+1) m' ys' H')/\∀ x H',J.yld i H x H'->g x σ' H' fun σ2 H2=>tt σ2 H2 fun b H3=>
  if b=true then te σ2 H3 fun v H4=>H4 D=some (.lst ys)/\ys.length<sizeLine/\N (ys++[v]) (upd H4 D (.lst (ys++[v]))) else N ys H3)
noncomputable def MO(wi:TI)(g:TG)(tt:TT)(te:TE)(k:Nat)(js:List Nat):TE:=fun σ H Q=>wi σ H fun J H1=>∀ D,H1 D=none->
 ∃ W:Nat->Nat->List V->Hp->Prop,(∃ m,W 0 m [] (upd H1 D (.lst [])))/\R8 J g tt te D (Ae k js σ) (fun _ H=>Q (.ref D) H) W
section
variable{X:Cx}{pins:List (Addr×Obj)}{σ:St}{H2:Hp}{s2:Shared}{tg elt iter:Expr}{ifs:List Expr}{scope:Scope}{pos:Pos}{own cn:List Str}{js:List Nat}{g:TG}{tt:TT}{te:TE}
theorem Ai{α:Type}{E:Expr}{emit:Value->Env->Sem Unit}{mk:Sem Value}{o0:Obj}{u0:HO}{a0:α}{tem:Addr->α->St->Hp->(α->Hp->Prop)->Prop}(F:CForm X.prog X.w X.A E tg iter ifs emit)(hmk:∀{Q:Value->Shared->Prop},Q (.ref s2.heap.objs.size) {s2 with heap:=s2.heap.push o0}->wpAny (model X.prog X.w) X.A mk Q X.xe s2)(nf0:o0.isFreed=false)(new0:∀(H:Hp) (h:Heap),h.get? s2.heap.objs.size=some o0->ObjOk X.prog X.w H h s2.heap.objs.size u0)(hok:j8 X.env.scope scope own cn X.N js=true)(hc:X.calm=true)
 (hg:∀ s2 H2 cs C fp,PG (c8 X scope (own++cn) s2 H2 cs C fp) tg g) (ht:∀ s2 H2 cs C fp,C8 (c8 X scope (own++cn) s2 H2 cs C fp) ifs tt) (hem:∀ D s2 H2 cs C fp pins s σ H (a:α) (N:α->Hp->Prop),Inv (c8 X scope (own++cn) s2 H2 cs C fp) pins σ H s->tem D a σ H N->wpAny (model X.prog X.w) X.A (emit (.ref D) (compEnvC scope cs C X.env)) (fun _ s1=>∃ σ1 a1 H1,Inv (c8 X scope (own++cn) s2 H2 cs C fp) pins σ1 H1 s1/\N a1 H1) (fun _ _=>False) s)
 (I2:Inv X pins σ H2 s2) {it:Addr} {fp:List Addr} {tn:Nat->Heap->Prop} {J:It} (T:Turn X.prog X.w X.K tg J fp it tn) (st2:tn 0 s2.heap) (f2:∀ b∈fp,FpOk X pins H2 b)
 {Qe:Hp->Prop} (hW:∃ W:Nat->Nat->α->Hp->Prop,(∃ m,W 0 m a0 (upd H2 s2.heap.objs.size u0))/\Hs J g tt (tem s2.heap.objs.size) (Ae own.length js σ) Qe W)
 {RR:Value->Addr->Result->Shared->Prop}
 (hRR:∀ C H' s',Inv X pins σ H' s'->FpOk X pins H' C->(∃ m,s'.heap.Ns C m)->Qe H'->RR (.ref s2.heap.objs.size) C (.ok .next) s'):
 wpAny (model X.prog X.w) X.A mk (fun acc s₃=>wpAny (model X.prog X.w) X.A (newFunctionEnv scope X.env.globals (A8 X.env scope.names []) [] X.env.qual none .none (some X.env)) (fun cenv s₄=>
  codeAny (model X.prog X.w) X.A (.compStart E 0 (.ref it) acc {cenv with scope:=relabel scope X.env}) (RR acc cenv.locals) s₄) X.xe s₃) X.xe s2:=by
 unfold j8 at hok;simp only[Vz,decide_eq_true_eq,Wa,XC,Wi,decide_eq_false_iff_not]at hok;obtain⟨⟨⟨⟨⟨⟨k1,k2⟩,k3⟩,k4⟩,k5⟩,k6⟩,k7⟩:=hok
 have hfreeK:∀ x∈scope.names,x.2 = .free->X.env.kindOf x.1=some .cell\/X.env.kindOf x.1=some .free:=fun x hx hf=>by
  rcases k2 x hx with(z | z) | z
  ·exact absurd hf z
  ·exact .inl z
  ·exact .inr z
 have hfree:∀ x∈scope.names,x.2 = .free->∃ c,X.env.cells.lookup x.1=some c:=fun x hx hf=>I2.ok.has x.1 (hfreeK x hx hf);refine hmk (MN ?_);have hsz3:(s2.heap.push o0).objs.size=s2.heap.objs.size+1:=XD ..;dsimp only;generalize hh3:s2.heap.push o0=h3 at hsz3 ⊢;have old3:∀ b o,s2.heap.get? b=some o->h3.get? b=some o:=fun b o e=>hh3▸W8 _ e;have hD3:h3.get? s2.heap.objs.size=some o0:=hh3▸WL _ nf0;generalize hcs:cellsFrom (h3.objs.size+1) scope.names (A8 X.env scope.names [])=cs;generalize hh4:pushCells (h3.push {cls := .type "dict",data := .dict #[]}) scope.names=h4;have old4:∀ b o,h3.get? b=some o->h4.get? b=some o:=fun b o e=>hh4▸pushCells_keeps _ _ b o (W8 _ e);have old:∀ b o,s2.heap.get? b=some o->h4.get? b=some o:=fun b o e=>old4 b o (old3 b o e);have hD4:h4.get? s2.heap.objs.size=some o0:=old4 _ _ hD3;have hNs:h4.Ns h3.objs.size (fun _=>none):=hh4▸(Heap.Ns.new h3 (.type "dict")).keeps (pushCells_keeps _ _);generalize hC:h3.objs.size=C at hNs hcs ⊢;have hCD:@Eq Nat C (s2.heap.objs.size+1):=by rw[<-hC];exact hsz3
 have clM:=Ch (env:=X.env) scope.names [] hfree (fun p hp=>absurd hp (by simp));have cellLt:∀ x c,X.env.cells.lookup x=some c->@LT.lt Nat _ c s2.heap.objs.size:=fun x c e=>by obtain⟨v,z⟩:=I2.cell x c e;exact z.lt
 have apart:cs.Pairwise fun x y=>x.2≠y.2:=by
  rw[<-hcs];refine AQ _ _ _ (BX I2.ok.inj scope.names [] k3 hfree List.Pairwise.nil fun p hp=>absurd hp (by simp)) fun p hp=>?_;have:=cellLt _ _ (clM p hp);show @LT.lt Nat _ p.2 (C+1);omega
 have csM:∀ p∈cs,X.env.cells.lookup p.1=some p.2\/(C+1<=p.2/\(p.1,NameKind.cell)∈scope.names/\h4.IsCell p.2 none):=fun p hp=>by
  have hp0:=hp;rw[<-hcs]at hp;rcases AG _ _ _ p hp with z | ⟨z,y⟩
  ·exact .inl (clM p z)
  ·have e:h3.objs.size+1=(h3.push {cls := .type "dict",data := .dict #[]}).objs.size:=by rw[XD]
   have hp':=hp;rw[<-hC,e]at hp';rcases Ao _ _ _ p hp' with q | q
   ·exact .inl (clM p q)
   ·exact .inr ⟨z,y,hh4▸q⟩
 have hX:(c8 X scope (own++cn) s2 H2 cs C fp).Ok:=by
  refine⟨I2.ok.mod,k1,I2.ok.glob,I2.ok.blt,by show @LE.le Nat _ s2.heap.objs.size C;omega,fun x y c h1 h2=>name_of_addr apart (PySem.mem_of_lookup h1) (PySem.mem_of_lookup h2),fun x hx=>?_,fun x c hf hx=>?_,I2.ok.hd,I2.ok.frames,.inl rfl,fun b hb=>?_,I2.bs,Wj I2.ok.bsz I2.sz,fun b o e hb=>?_,fun b hb hf=>?_,I2.stack,I2.stkFree⟩
  ·have hx':(relabel scope X.env).names.lookup x=some .cell\/(relabel scope X.env).names.lookup x=some .free:=hx
   have hl:scope.names.lookup x=some .cell\/scope.names.lookup x=some .free:=by
    unfold relabel at hx';dsimp only at hx';rw[A9]at hx';cases e:scope.names.lookup x with
    | none=>rw[e]at hx';simp at hx'
    | some k=>
      rw[e]at hx';cases k<;>simp_all
   have:∃ c,(x,c)∈cs:=by
    rw[<-hcs];rcases hl with hl | hl
    ·exact An _ _ _ x (PySem.mem_of_lookup hl)
    ·obtain⟨c,hc'⟩:=Cj (env:=X.env) scope.names [] x (PySem.mem_of_lookup hl);exact⟨c,AH _ _ _ _ hc'⟩
   obtain⟨c,hm⟩:=this;exact C1 hm
  ·have hf':scope.names.lookup x=some .cell:=by simpa using hf
   have hm:=PySem.mem_of_lookup (show cs.lookup x=some c from hx);rcases csM _ hm with z | ⟨z,_⟩
   ·
    rw[<-hcs]at hm;rcases AG _ _ _ _ hm with q | ⟨q,_⟩
    ·rcases BW (env:=X.env) scope.names [] _ q with q' | q'
     ·exact absurd q' (by simp)
     ·have:=g7 k3 q';have h2:scope.names.lookup x=some .free:=this;rw[hf']at h2;cases h2
    ·show @LE.le Nat _ s2.heap.objs.size c;have q2:@LE.le Nat _ (C+1) c:=q;omega
   ·show @LE.le Nat _ s2.heap.objs.size c;have z2:@LE.le Nat _ (C+1) c:=z;omega
  ·obtain⟨f0,f1,f2',f3,f4,f5⟩:=f2 b hb;obtain⟨o,ho,_⟩:=T.obj 0 _ st2 b hb;have hb2:@LT.lt Nat _ b s2.heap.objs.size:=WH ho;refine⟨?_,fun x c e=>?_⟩
   ·show @Ne Nat b C;omega
   ·rcases csM _ (PySem.mem_of_lookup (show cs.lookup x=some c from e)) with z | ⟨z,_⟩
    ·exact f4 x c z
    ·have z2:@LE.le Nat _ (C+1) c:=z;show @Ne Nat c b;omega
  ·obtain⟨f0,f1,f2',f3,f4,f5⟩:=f2 b hb;rcases f3 with z | z
   ·exact I2.ok.noex b o e z
   ·exact absurd (Wo (WH e) (Wj I2.ok.bsz z)) (XZ _)
  ·obtain⟨f0,f1,f2',_⟩:=f2 b hb;rcases WN.mp (I2.stkSub b hf) with z | z
   ·exact f1 z
   ·exact f2' z
 have hDn:H2 s2.heap.objs.size=none:=I2.fresh;have hCn:H2 C=none:=I2.hok.fresh (show @LE.le Nat _ s2.heap.objs.size C by omega)
 have stkNe:∀ b,b≠X.env.locals->b∉X.fs->b∉frs X.stack:=fun b h1 h2 hb=>by
  rcases WN.mp (I2.stkSub b hb) with z | z
  ·exact h1 z
  ·exact h2 z
 have I4:Inv (c8 X scope (own++cn) s2 H2 cs C fp) pins (Ae own.length js σ) (upd H2 s2.heap.objs.size u0) {s2 with heap:=h4}:=by
  refine⟨hX,rfl,I2.bare,Un.laid old (WB _) hDn,⟨fun _=>none,hNs,fun i x v e1 e2 e3=>?_⟩,fun x c e=>?_,?_,fun x c e=>?_,fun p hp=>?_,I2.hok.laid old (WB _) (new0 _ _ hD4),?_⟩
  ·
   have hi:own.length<=i:=by
    rcases YY i own.length with z | z
    ·exfalso;unfold Ae at e2;rw[WD (by simpa using z),XM,if_pos z]at e2;cases e2
    ·exact z
   have e1':cn[i - own.length]?=some x:=by
    have:(own++cn)[i]?=some x:=e1;rw[Wh hi]at this;exact this
   have e2':(js.map fun j=>(σ[j]?).join)[i - own.length]?=some (some v):=by
    unfold Ae at e2;rw[Wh (by simpa using hi)]at e2;simpa using e2
   rw[WG]at e2';cases hj:js[i - own.length]? with
   | none=>rw[hj]at e2';cases e2'
   | some j=>
     rw[hj]at e2';have e2'':(σ[j]?).join=some v:=by simpa using e2'
     have hσ:σ[j]?=some (some v):=by
      cases q:σ[j]? with
      | none=>rw[q]at e2'';cases e2''
      | some z=>rw[q]at e2'';simp at e2'';rw[e2'']
     have hNx:X.N[j]?=some x:=by
      have:=congrArg (fun l=>l[i - own.length]?) k7;simp only[WG,hj,e1',Xx]at this;exact oj this
     have hfx:scope.names.lookup x=some .free:=k5 x (W5 e1');have hK:=hfreeK (x,.free) (PySem.mem_of_lookup hfx) rfl;have hK':X.env.kindOf x=some .cell\/X.env.kindOf x=some .free:=hK;obtain⟨m,hn,hl⟩:=I2.loc
     have hvis:Vis X.env.scope x:=by
      rcases hK' with z | z
      ·exact .inr (.inl z)
      ·exact .inr (.inr z)
     obtain⟨u,r,l⟩:=hl j x v hNx hσ hvis;refine⟨u,r,.inr ?_⟩;rcases l with⟨l1,_⟩ | ⟨l1,c,l2,l3⟩
     ·rcases hK' with z | z
      ·rw[z]at l1;cases l1
      ·rw[z]at l1;cases l1
     ·have hrl:(compEnvC scope cs C X.env).kindOf x=some .cell\/(compEnvC scope cs C X.env).kindOf x=some .free:=by
       show(relabel scope X.env).names.lookup x=_\/(relabel scope X.env).names.lookup x=_;unfold relabel;dsimp only;rw[A9,hfx];simp only[Xx];split
       ·exact .inl rfl
       ·exact .inr rfl
      refine⟨hrl,c,?_,l3.keeps fun b o e=>old b o e⟩;show cs.lookup x=some c;obtain⟨c',hc'⟩:=hX.has x hrl;have hc2:cs.lookup x=some c':=hc';rw[hc2];have hm:=PySem.mem_of_lookup hc2
      have:X.env.cells.lookup x=some c':=by
       rcases csM _ hm with z | ⟨_,z,_⟩
       ·exact z
       ·have:=g7 k3 z;have h2:scope.names.lookup x=some .cell:=this;rw[hfx]at h2;cases h2
      rw[l2]at this;exact this.symm
  ·rcases csM _ (PySem.mem_of_lookup (show cs.lookup x=some c from e)) with z | ⟨_,_,z⟩
   ·obtain⟨v,q⟩:=I2.cell _ _ z;exact⟨v,q.keeps fun b o e=>old b o e⟩
   ·exact⟨none,z⟩
  ·show upd H2 s2.heap.objs.size u0 C=none;rw[upd_ne (show @Ne Nat C s2.heap.objs.size by omega)];exact hCn
  ·have hne:c≠s2.heap.objs.size/\H2 c=none:=by
    rcases csM _ (PySem.mem_of_lookup (show cs.lookup x=some c from e)) with z | ⟨z,_,_⟩
    ·exact⟨WR (cellLt _ _ z),I2.freeC _ _ z⟩
    ·have z2:@LE.le Nat _ (C+1) c:=z;exact⟨show @Ne Nat c s2.heap.objs.size by omega,I2.hok.fresh (show @LE.le Nat _ s2.heap.objs.size c by omega)⟩
   rw[upd_ne hne.1];exact hne.2
  ·obtain⟨e,n,ne,nf,d⟩:=I2.pin p hp;have hlt:@LT.lt Nat _ p.1 s2.heap.objs.size:=WH e;refine⟨old _ _ e,?_,?_,stkNe _ ne nf,d⟩
   ·rw[upd_ne (WR hlt)];exact n
   ·show @Ne Nat p.1 C;omega
  ·show(Ae own.length js σ).length=(own++cn).length;unfold Ae;have hl:=congrArg Y1 k7;simp only[W2]at hl;simp[hl]
 have stat:∀{H':Hp},(∀ b∈fp,H' b=none)->∀ b∈fp,FpOk (c8 X scope (own++cn) s2 H2 cs C fp) pins H' b:=fun hn b hb=>by
  obtain⟨f0,f1,f2',f3,f4,f5⟩:=f2 b hb;exact⟨hn b hb,(hX.exf b hb).1,stkNe b f1 f2',.inl hb,fun x c e=>(hX.exf b hb).2 x c e,f5⟩
 have back:∀{σ':St} {H':Hp} {s':Shared},Inv (c8 X scope (own++cn) s2 H2 cs C fp) pins σ' H' s'->Inv X pins σ H' s':=fun{σ' H' s'} J'=>
  I2.call' (ch:=fp) J'.os J'.base J'.hok J'.bare fun b hb=>by
   obtain⟨f0,f1,f2',f3,f4,f5⟩:=f2 b hb;exact⟨f3,f1,f4,f5⟩
 obtain⟨W,⟨m0,w0⟩,turn⟩:=hW
 have loop:codeAny (model X.prog X.w) X.A (.compLoop E 0 (.ref it) (.ref s2.heap.objs.size) (compEnvC scope cs C X.env)) (RR (.ref s2.heap.objs.size) C) {s2 with heap:=h4}:=by
  refine F.loop (fun n s'=>∃ i ys H',Inv (c8 X scope (own++cn) s2 H2 cs C fp) pins (Ae own.length js σ) H' s'/\tn i s'.heap/\(∀ b∈fp,H' b=none)/\W i n ys H') ?_ m0
   ⟨0,a0,_,I4,T.keep _ _ _ st2 fun b hb o e=>old b o e,fun b hb=>?_,w0⟩
  ·rintro n s3 ⟨i,ys,H3,I3,st3,fr3,w3⟩;rcases turn i n ys H3 w3 with⟨stop,q⟩ | ⟨go,N,hN,step⟩
   ·refine thn (T.done (c8 X scope (own++cn) s2 H2 cs C fp) rfl rfl rfl hc i pins s3 _ H3 _ I3 (stat fr3) st3 stop) fun r s4 ⟨hr,I5⟩=>?_;subst hr;obtain⟨m,hn,_⟩:=I5.loc;exact hRR C H3 s4 (back I5) (I2.fpOk (show @LE.le Nat _ s2.heap.objs.size C by omega) I5.free) ⟨m,hn⟩ q
   ·refine thn (T.item (c8 X scope (own++cn) s2 H2 cs C fp) rfl rfl rfl hc i pins s3 _ H3 _ I3 (stat fr3) st3 go) fun r s4 ⟨u,hr,h4'⟩=>?_;subst hr;refine thn h4' fun _ s5 ⟨x,H5,I5,r5,y5,st5,fr5⟩=>?_;have I5':=I5.pinned (stat fr5) (T.obj _ _ st5);refine thn (hg s2 H2 cs C fp _ s5 _ H5 x u _ I5' r5 (step x H5 y5)) fun _ s6 ⟨σ6,H6,I6,q6⟩=>?_;refine thn (ht s2 H2 cs C fp _ s6 σ6 H6 _ I6 q6) fun b s7 ⟨H7,I7,q7⟩=>?_
    have again:∀{σ8:St} {H8:Hp} {s8:Shared} {ys8:α},Inv (c8 X scope (own++cn) s2 H2 cs C fp) (pins++C5 fp s5.heap) σ8 H8 s8->(∀(j:Nat) v,(Ae own.length js σ)[j]?=some (some v)->σ8[j]?=some (some v))->(∃ m',m'<n/\W (i+1) m' ys8 H8)->
     ∃ m,m<n/\∃ i ys H',Inv (c8 X scope (own++cn) s2 H2 cs C fp) pins (Ae own.length js σ) H' s8/\tn i s8.heap/\(∀ b∈fp,H' b=none)/\W i m ys H':=fun{σ8 H8 s8 ys8} I8 hw8 ⟨m',hm,w8⟩=>by
     refine⟨m',hm,i+1,ys8,H8,I8.unpinned.weak (by rw[I8.len,I4.len]) hw8,T.keep _ _ _ st5 fun b hb o e=>(I8.pin (b,o) (Wd _ (Wd _ (BE hb e)))).1,fun b hb=>?_,w8⟩;obtain⟨o,e,d⟩:=T.obj _ _ st5 b hb;exact(I8.pin (b,o) (Wd _ (Wd _ (BE hb e)))).2.1
    have capK:∀{σ8:St} {H8:Hp} {s8:Shared},Inv (c8 X scope (own++cn) s2 H2 cs C fp) (pins++C5 fp s5.heap) σ8 H8 s8->Inv (c8 X scope (own++cn) s2 H2 cs C fp) (pins++C5 fp s5.heap) (Ae own.length js σ) H8 s8:=fun{σ8 H8 s8} I8=>by
     have IX:=back I8.unpinned;refine⟨I8.ok,I8.os,I8.bare,I8.base,?_,I8.cell,I8.free,I8.freeC,I8.pin,I8.hok,I4.len⟩;obtain⟨m,hn,_⟩:=I8.loc;refine⟨m,hn,fun i x v e1 e2 e3=>?_⟩;obtain⟨mx,hnx,hlx⟩:=IX.loc
     have hi:own.length<=i:=by
      rcases YY i own.length with z | z
      ·exfalso;unfold Ae at e2;rw[WD (by simpa using z),XM,if_pos z]at e2;cases e2
      ·exact z
     have e1':cn[i - own.length]?=some x:=by
      have:(own++cn)[i]?=some x:=e1;rw[Wh hi]at this;exact this
     have e2':(js.map fun j=>(σ[j]?).join)[i - own.length]?=some (some v):=by
      unfold Ae at e2;rw[Wh (by simpa using hi)]at e2;simpa using e2
     rw[WG]at e2';cases hj:js[i - own.length]? with
     | none=>rw[hj]at e2';cases e2'
     | some j=>
       rw[hj]at e2';have e2'':(σ[j]?).join=some v:=by simpa using e2'
       have hσ:σ[j]?=some (some v):=by
        cases q:σ[j]? with
        | none=>rw[q]at e2'';cases e2''
        | some z=>rw[q]at e2'';simp at e2'';rw[e2'']
       have hNx:X.N[j]?=some x:=by
        have:=congrArg (fun l=>l[i - own.length]?) k7;simp only[WG,hj,e1',Xx]at this;exact oj this
       have hfx:scope.names.lookup x=some .free:=k5 x (W5 e1');have hK':X.env.kindOf x=some .cell\/X.env.kindOf x=some .free:=hfreeK (x,.free) (PySem.mem_of_lookup hfx) rfl
       have hvis:Vis X.env.scope x:=by
        rcases hK' with z | z
        ·exact .inr (.inl z)
        ·exact .inr (.inr z)
       obtain⟨u,r,l⟩:=hlx j x v hNx hσ hvis;refine⟨u,r,.inr ?_⟩;rcases l with⟨l1,_⟩ | ⟨l1,c,l2,l3⟩
       ·rcases hK' with z | z
        ·rw[z]at l1;cases l1
        ·rw[z]at l1;cases l1
       ·have hrl:(compEnvC scope cs C X.env).kindOf x=some .cell\/(compEnvC scope cs C X.env).kindOf x=some .free:=by
         show(relabel scope X.env).names.lookup x=_\/(relabel scope X.env).names.lookup x=_;unfold relabel;dsimp only;rw[A9,hfx];simp only[Xx];split
         ·exact .inl rfl
         ·exact .inr rfl
        refine⟨hrl,c,?_,l3⟩;show cs.lookup x=some c;obtain⟨c',hc'⟩:=hX.has x hrl;have hc2:cs.lookup x=some c':=hc';rw[hc2];have hm:=PySem.mem_of_lookup hc2
        have:X.env.cells.lookup x=some c':=by
         rcases csM _ hm with z | ⟨_,z,_⟩
         ·exact z
         ·have:=g7 k3 z;have h2:scope.names.lookup x=some .cell:=this;rw[hfx]at h2;cases h2
        rw[l2]at this;exact this.symm
    cases b with
    | false=>
      rw[if_neg WF];rw[if_neg WF]at q7;exact again (capK I7) (fun _ _ e=>e) (hN _ _ q7)
    | true=>
      rw[if_pos rfl];rw[if_pos rfl]at q7;exact thn (hem _ s2 H2 cs C fp _ s7 σ6 H7 _ _ I7 q7) fun _ s9 ⟨σ9,a9,H9,I9,q9⟩=>again (capK I9) (fun _ _ e=>e) (hN _ _ q9)
  ·obtain⟨f0,_⟩:=f2 b hb;obtain⟨o,ho,_⟩:=T.obj 0 _ st2 b hb;rw[upd_ne (WR (WH ho))];exact f0
 exact F.start loop (T.self _ 0 _ _ _ (T.keep _ _ _ st2 fun b hb o e=>old b o e) loop)
theorem DR(hok:j8 X.env.scope scope own cn X.N js=true)(hc:X.calm=true)
 (hg:∀ s2 H2 cs C fp,PG (c8 X scope (own++cn) s2 H2 cs C fp) tg g) (ht:∀ s2 H2 cs C fp,C8 (c8 X scope (own++cn) s2 H2 cs C fp) ifs tt) (he:∀ s2 H2 cs C fp,PE (c8 X scope (own++cn) s2 H2 cs C fp) elt te)
 (I2:Inv X pins σ H2 s2) {it:Addr} {fp:List Addr} {tn:Nat->Heap->Prop} {J:It} (T:Turn X.prog X.w X.K tg J fp it tn) (st2:tn 0 s2.heap) (f2:∀ b∈fp,FpOk X pins H2 b)
 {Qe:Hp->Prop} (hW:∃ W:Nat->Nat->List V->Hp->Prop,(∃ m,W 0 m [] (upd H2 s2.heap.objs.size (.lst [])))/\R8 J g tt te s2.heap.objs.size (Ae own.length js σ) (fun _ H=>Qe H) W)
 {RR:Value->Addr->Result->Shared->Prop}
 (hRR:∀ C H' s',Inv X pins σ H' s'->FpOk X pins H' C->(∃ m,s'.heap.Ns C m)->Qe H'->RR (.ref s2.heap.objs.size) C (.ok .next) s'):
 wpAny (model X.prog X.w) X.A (newList []) (fun acc s₃=>wpAny (model X.prog X.w) X.A (newFunctionEnv scope X.env.globals (A8 X.env scope.names []) [] X.env.qual none .none (some X.env)) (fun cenv s₄=>
  codeAny (model X.prog X.w) X.A (.compStart (.ListComp elt [⟨tg,iter,ifs,0⟩] scope pos) 0 (.ref it) acc {cenv with scope:=relabel scope X.env}) (RR acc cenv.locals) s₄) X.xe s₃) X.xe s2:=by
 obtain⟨W,w0,hw⟩:=hW;refine Ai (RR:=RR) (a0:=[]) (o0:={cls := .type "list",dict:=none,data := .seq ([]:List Value).toArray}) (u0 := .lst []) (tem:=Vj te) Ht (fun hq=>wpAny_newObj_type hq) rfl (fun _ _ hD=>⟨XQ _,[],0,.nil,hD⟩) hok hc hg ht (fun D s2 H2 cs C fp pins s σ H ys N I h=>?_) I2 T st2 f2 ⟨W,w0,hw⟩ hRR;refine wpAny_bind (thn (he s2 H2 cs C fp _ s σ H _ I h) fun y s8 ⟨v,H8,I8,r8,hD8,hz8,q8⟩=>?_);refine wpAny_bind (thn (Cg (X:=c8 X scope (own++cn) s2 H2 cs C fp) _ s8 σ H8 (.ref D) [v] (.ref D) [y] (fun _ H9=>H9=upd H8 D (.lst (ys++[v]))) I8 rfl (.cons r8 .nil) ⟨_,ys,v,rfl,rfl,hD8,hz8,rfl⟩) fun _ s9 ⟨z,H9,I9,r9,e9⟩=>?_);subst e9;exact wpAny_pure ⟨_,_,_,I9,q8⟩
theorem P8{wi:TI}(own cn:List Str)(js:List Nat)(hi:PI X tg iter wi)(hg:∀ s2 H2 cs C fp,PG (c8 X scope (own++cn) s2 H2 cs C fp) tg g)(ht:∀ s2 H2 cs C fp,C8 (c8 X scope (own++cn) s2 H2 cs C fp) ifs tt)
 (he:∀ s2 H2 cs C fp,PE (c8 X scope (own++cn) s2 H2 cs C fp) elt te) (hc:X.calm=true:=by rfl) (hok:j8 X.env.scope scope own cn X.N js=true:=by kernel_rfl)
 (hs:∀ x,foldedSetIterable iter X.env x=pure x:=by intro _;rfl):PE X (.ListComp elt [⟨tg,iter,ifs,0⟩] scope pos) (MO wi g tt te own.length js):=by
 intro pins s σ H Q I h;have hok':=hok;unfold j8 at hok';simp only[Vz,decide_eq_true_eq,Wa,XC,Wi,decide_eq_false_iff_not]at hok';obtain⟨⟨⟨⟨⟨⟨k1,k2⟩,k3⟩,k4⟩,k5⟩,k6⟩,k7⟩:=hok'
 have hfree:∀ x∈scope.names,x.2 = .free->∃ c,X.env.cells.lookup x.1=some c:=fun x hx hf=>I.ok.has x.1 (by
  rcases k2 x hx with(z | z) | z
  ·exact absurd hf z
  ·exact .inl z
  ·exact .inr z)
 rw[eval_ListComp];refine wpAny_comprehension_free (use:=none) rfl hs (n9 hfree) k1 (fun x hx hl=>?_) (thn (hi pins s σ H _ I h) fun v s1 h1=>thn h1 fun itv s2 h2=>?_)
 ·have:=g7 k3 (show(x.1,x.2)∈scope.names from hx);rw[this,hl]
 ·obtain⟨it,fp,tn,J,H2,e,I2,T,st2,f2,q⟩:=h2;subst e;refine DR (RR:=fun acc C=>compPost (model X.prog X.w) X.A X.xe none (EP X pins σ Q) acc C) hok hc hg ht he I2 T st2 f2 (q _ I2.fresh) ?_;intro C H' s' I' fC ⟨m,hn⟩ q';obtain⟨f0,f1,f2',f3,f4,f5⟩:=fC;refine⟨m,hn,fun h' hs'=>⟨.ref s2.heap.objs.size,H',?_,rfl,q'⟩⟩;exact I'.turned (t':=s'.toks) (fun b o hb e=>(hs'.2 b hb).trans e) f0 f1 f3 f4 f5
theorem Hu{wi:TI}{i:Nat}{x:Str}{px spos:Pos}(own cn:List Str)(js:List Nat)(hN:X.N.Nodup)(hix:X.N[i]?=some x)(hx:X.env.scope.names.lookup x=some .local)(hi:PI X tg iter wi)
 (hg:∀ s2 H2 cs C fp,PG (c8 X scope (own++cn) s2 H2 cs C fp) tg g) (ht:∀ s2 H2 cs C fp,C8 (c8 X scope (own++cn) s2 H2 cs C fp) ifs tt)
 (he:∀ s2 H2 cs C fp,PE (c8 X scope (own++cn) s2 H2 cs C fp) elt te) (hc:X.calm=true:=by rfl) (hok:j8 X.env.scope scope own cn X.N js=true:=by kernel_rfl)
 (hsw:swapsWith (.ListComp elt [⟨tg,iter,ifs,0⟩] scope pos) (some (.Name x px)) spos.line X.env=pure true:=by rfl)
 (hs:∀ x,foldedSetIterable iter X.env x=pure x:=by intro _;rfl):PS X (.Assign [.Name x px] (.ListComp elt [⟨tg,iter,ifs,0⟩] scope pos) spos) (Hf (MO wi g tt te own.length js) (Fv i)):=by
 intro pins s σ H D I h;have hok':=hok;unfold j8 at hok';simp only[Vz,decide_eq_true_eq,Wa,XC,Wi,decide_eq_false_iff_not]at hok';obtain⟨⟨⟨⟨⟨⟨k1,k2⟩,k3⟩,k4⟩,k5⟩,k6⟩,k7⟩:=hok'
 have hfree:∀ x∈scope.names,x.2 = .free->∃ c,X.env.cells.lookup x.1=some c:=fun x hx hf=>I.ok.has x.1 (by
  rcases k2 x hx with(z | z) | z
  ·exact absurd hf z
  ·exact .inl z
  ·exact .inr z)
 rw[exec_Assign_Name_used _ _ _ _ hsw];refine wpAny_bind (wpAny_standAt (wpAny_bind ?_));show wpAny _ X.A (do let _ <- comprehension (.ListComp elt [⟨tg,iter,ifs,0⟩] scope pos) scope X.env _ (newList []) false (eval iter X.env) (some (assign (.Name x px) X.env))) _ _ s
 refine wpAny_bind (wpAny_mono (wpAny_comprehension_free (use:=some (assign (.Name x px) X.env)) (Q:=fun _ s'=>SP X pins D .next s') rfl hs (n9 hfree) k1 (fun x hx hl=>?_)
  (thn (hi pins s σ H _ I h) fun v s1 h1=>thn h1 fun itv s2 h2=>?_)) (fun _ s' hq=>wpAny_pure (wpAny_pure hq)) fun _ _ e=>e)
 ·have:=g7 k3 (show(x.1,x.2)∈scope.names from hx);rw[this,hl]
 ·obtain⟨it,fp,tn,J,H2,e,I2,T,st2,f2,q⟩:=h2;subst e;refine DR (RR:=fun acc C=>compPost (model X.prog X.w) X.A X.xe (some (assign (.Name x px) X.env)) (fun _ s'=>SP X pins D .next s') acc C) hok hc hg ht he I2 T st2 f2 (q _ I2.fresh) ?_;intro C H' s' I' fC ⟨m,hn⟩ q';obtain⟨f0,f1,f2',f3,f4,f5⟩:=fC;show wpAny _ X.A (assign (.Name x px) X.env (.ref s2.heap.objs.size)) _ _ _;refine wpAny_assign_Name (Ce I' hN hix (.inl hx) (v := .ref s2.heap.objs.size) rfl (fun s3 I3 hch=>?_) (.inr hx));obtain⟨a,hsb,ha⟩:=hch
  have hCa:C≠a:=by
   rcases ha with z | z
   ·rw[z];exact f1
   ·exact fun e=>f4 x a z e.symm
  refine⟨m,hn.sameBut hsb hCa,fun h' hs'=>?_⟩;exact⟨_,H',I3.turned (t':=s3.toks) (fun b o hb e=>(hs'.2 b hb).trans e) f0 f1 f3 f4 f5,q'⟩
end
end L2
namespace PySem
open AutoSeq1 (wpAny_loadPart')
section
variable{prog:Program}{w:World}{A:Around}{E:Value->Shared->Prop}{s:Shared}
theorem BS{it l:Addr}{i:Nat}{items}{x:Value}{Q:Value->Shared->Prop}(hit:s.heap.IsTupleIter it l i)
 (hl:s.heap.IsTuple l items) (hx:items[i]?=some x)
 (hQ:∀ h',h'.IsTupleIter it l (i+1)->Wv it s.heap h'->Q x {s with heap:=h'}):
 wpAny (model prog w) A (Builtin.SmallTypes.nextOf (.ref it)) Q E s:=by
 obtain⟨o,ho,hc,hd⟩:=id hit;obtain⟨ol,hol,_,nl,hdl⟩:=hl;unfold Builtin.SmallTypes.nextOf
 refine wpAny_bind (wpAny_callSpecial?_slot (name:=Str.ofString "__next__") hit.typeIs F.slot_tuple_iterator_next
  (wpAny_call_entry F.slot_tuple_iterator_next hit.typeIs F.entry_tuple_iterator_next ?_ (F.args_tuple_iterator_next_1 _)))
 show wpAny _ _ (field (.ref it) 0 >>= _) _ _ s;refine wpAny_bind (wpAny_field ho hd (x := .ref l) rfl ?_);show wpAny _ _ (if (Value.ref l == Value.none)=true then _ else _) _ _ s;rw[if_neg (show ¬ ((Value.ref l == Value.none)=true) from WF)];show wpAny _ _ (field (.ref it) 1 >>= _) _ _ s;refine wpAny_bind (wpAny_field ho hd (x := .int i 0) rfl ?_);show wpAny _ _ (seqItems? (.ref l) >>= _) _ _ s;refine wpAny_bind (wpAny_seqItems hol hdl ?_);simp only[Xa,hx];refine wpAny_bind (wpAny_setField ho hd (by simp) (wpAny_pure ⟨x,rfl,wpAny_pure (hQ _ ?_ (Wv.update ..))⟩))
 exact⟨_,Ww _ ho (Obj.isFreed_of_fields (Obj.data_mapFields hd _)),(Obj.cls_mapFields ..).trans hc,by
  rw[Obj.data_mapFields hd];simp[rawInt]⟩
theorem BY{it l:Addr}{i:Nat}{items}{Q:Value->Shared->Prop}(hh:A.handled=none)
 (hit:s.heap.IsTupleIter it l i) (hl:s.heap.IsTuple l items) (hx:items[i]?=none)
 (hE:∀ h' e,ZO it s.heap h'->(∃ o,h'.get? e=some o/\o.cls = .type "StopIteration")->E (.ref e) {s with heap:=h'}):
 wpAny (model prog w) A (Builtin.SmallTypes.nextOf (.ref it)) Q E s:=by
 obtain⟨o,ho,hc,hd⟩:=id hit;obtain⟨ol,hol,_,nl,hdl⟩:=hl;unfold Builtin.SmallTypes.nextOf
 refine wpAny_bind (wpAny_callSpecial?_slot (name:=Str.ofString "__next__") hit.typeIs F.slot_tuple_iterator_next
  (wpAny_call_entry F.slot_tuple_iterator_next hit.typeIs F.entry_tuple_iterator_next ?_ (F.args_tuple_iterator_next_1 _)))
 show wpAny _ _ (field (.ref it) 0 >>= _) _ _ s;refine wpAny_bind (wpAny_field ho hd (x := .ref l) rfl ?_);show wpAny _ _ (if (Value.ref l == Value.none)=true then _ else _) _ _ s;rw[if_neg (show ¬ ((Value.ref l == Value.none)=true) from WF)];show wpAny _ _ (field (.ref it) 1 >>= _) _ _ s;refine wpAny_bind (wpAny_field ho hd (x := .int i 0) rfl ?_);show wpAny _ _ (seqItems? (.ref l) >>= _) _ _ s;refine wpAny_bind (wpAny_seqItems hol hdl ?_);simp only[Xa,hx];refine wpAny_bind (wpAny_rule (wpAny_bind (wpAny_setField ho hd (by simp) ?_)))
 first
  | refine wpAny_bind (wpAny_letGo ?_)
  | skip
 show wpAny _ _ (newExc (.type "StopIteration") [] >>= _) _ _ _;refine wpAny_bind ?_;simp only[newExc,newTuple];refine wpAny_bind (wpAny_newObj_type ?_ (by size_fits));refine wpAny_bind (m:=firstArgMember _ _) (wpAny_of_eq (a:=Value.none) (by first | rfl | (simp only[firstArgMember];rfl)) ?_);refine wpAny_newObj_type ?_ (by size_fits);simp only[raiseNew];refine wpAny_bind (wpAny_handled ?_)
 first | rw[show A.in1.handled=none from hh] | rw[hh]
 refine wpAny_bind (wpAny_pure (wpAny_throw ?_));exact hE _ _ (((Wv.update ..).extBut.push _).push _) ⟨_,WL _ rfl,rfl⟩
end
theorem BR{prog:Program}{w:World}{A:Around}(hh:A.handled=none)(it l:Addr)(hne:l≠it)(items:Array Value):
 Draws prog w A it [it,l] items.size (fun i v=>items[i]?=some v) (fun i h=>h.IsTupleIter it l i/\h.IsTuple l items) where
 live:=fun _ _ st=>let ⟨o,ho,_⟩:=st.1;⟨o,ho⟩
 frame:=fun _ _ _ st hk=>⟨st.1.at fun o e=>hk it (by simp) o e,let ⟨o,ho,r⟩:=st.2;⟨o,hk l (by simp) o ho,r⟩⟩
 item:=fun i s Q E hi st hQ=>by
  refine BS st.1 st.2 (x:=items[i]) (by simp[hi]) fun h' hit' hs'=>?_;exact hQ _ h' s.toks (by simp[hi]) ⟨hit',st.2.extBut hs'.extBut hne⟩ hs'
 done:=fun s Q E st hE=>BY hh st.1 st.2 (by simp) hE
theorem C9(l:Addr)(items:Array Value)(n:Nat)(dct:Option Addr)(sl:Array (Option Value)):
 Meets (Builtin.«enumerate.__new__» ⟨[.type "enumerate",.ref l],[]⟩) (fun _ R s=>s.heap.get? l=some {cls := .type "tuple",dict:=dct,data := .seq items n,slots:=sl}/\
  R (.ok (.ret (.ref (s.heap.push {cls := .type "tuple_iterator",data := .fields #[.ref l,.int 0 0]}).objs.size)))
   {s with heap:=(s.heap.push {cls := .type "tuple_iterator",data := .fields #[.ref l,.int 0 0]}).push {cls := .type "enumerate",data := .fields #[.none,.bool false,.ref s.heap.objs.size,rawInt 0,.none,.none]}}):=
 .of_wp fun prog w A R s h=>by
  obtain⟨hp,g,d,tk,os⟩:=s;obtain⟨hl,h⟩:=h;have hsub:=sub_enumerate;have hL:Heap.IsTuple (Shared.heap ⟨hp,g,d,tk,os⟩) l items:=⟨_,hl,rfl,n,rfl⟩
  wp_walk using wpAny_loadPart' hl
  refine wpAny_stack_any fun st=>wpAny_pure ?_;split
  ·rename_i c _ _ _ _ _;cases(c == Value.type "enumerate")
   ·wp_walk using wpAny_loadPart' hl,wpAny_pyIter_tuple hL
    exact⟨_,rfl,h⟩
   ·wp_walk using wpAny_loadPart' hl,wpAny_pyIter_tuple hL
    exact⟨_,rfl,h⟩
  ·wp_walk using wpAny_loadPart' hl,wpAny_pyIter_tuple hL
   exact⟨_,rfl,h⟩
section
variable{prog:Program}{w:World}{A:Around}{E:Value->Shared->Prop}{s:Shared}
theorem Ap{l:Addr}{items:Array Value}{Q:Value->Shared->Prop}(hL:s.heap.IsTuple l items)
 (h:∀ h',IsEnum h' (s.heap.objs.size+1) s.heap.objs.size 0 .none->h'.IsTupleIter s.heap.objs.size l 0->h'.objs.size=s.heap.objs.size+2->
   (∀ b o,s.heap.get? b=some o->h'.get? b=some o)->Q (.ref (s.heap.objs.size+1)) {s with heap:=h'}):
 wpAny (model prog w) A (call (.type "enumerate") [.ref l]) Q E s:=by
 obtain⟨⟨c,dct,dt,sl⟩,hl,hc,n,hd⟩:=hL;replace hc:c = .type "tuple":=hc;replace hd:dt = .seq items n:=hd;subst hc hd
 refine callType_new F.called_enumerate (by decide) (F.typeCall_enumerate_1 _) (F.newCall_enumerate_1 _) (fun obj=>F.args_object_init_2 obj _) F.entry_enumerate_new
  (C9 l items n dct sl) ⟨hl,?_⟩
 have hz:(s.heap.push {cls := .type "tuple_iterator",data := .fields #[.ref l,.int 0 0]}).objs.size=s.heap.objs.size+1:=XD ..;show _/\_;rw[hz]
 have he:IsEnum ((s.heap.push {cls := .type "tuple_iterator",data := .fields #[.ref l,.int 0 0]}).push
  {cls := .type "enumerate",data := .fields #[.none,.bool false,.ref s.heap.objs.size,rawInt 0,.none,.none]}) (s.heap.objs.size+1) s.heap.objs.size 0 .none:=by
  have:=WL (s.heap.push {cls := .type "tuple_iterator",data := .fields #[.ref l,.int 0 0]})
   (o:={cls := .type "enumerate",data := .fields #[.none,.bool false,.ref s.heap.objs.size,rawInt 0,.none,.none]}) rfl
  rw[hz]at this;exact this
 refine⟨⟨_,he,rfl⟩,h _ he ⟨_,W8 _ (WL _ rfl),rfl,rfl⟩ (by rw[XD,hz]) fun b o x=>W8 _ (W8 _ x)⟩
end
end PySem
namespace L2
open PySem PySem.Spec PyProof.Rows
section
variable{X:Cx}{pins:List (Addr×Obj)}{σ:St}{H:Hp}{s:Shared}{h':Heap}
theorem Inv.turnedL{t':Nat}{ch:List Addr}(I:Inv X pins σ H s)(k:∀ b o,b∉ch->s.heap.get? b=some o->h'.get? b=some o)(hf:∀ b∈ch,FpOk X pins H b):Inv X pins σ H {s with heap:=h',toks:=t'}:=by
 have nit:∀ b u,H b=some u->b∉ch:=fun b u e z=>by rw[(hf b z).1]at e;cases e
 refine I.step (g':=s.gens) (d':=s.drawn) (ch:=ch) (fun b hb=>?_) (fun b o _ _ hc e _=>k b o hc e) (fun b o _ _ hc e _=>⟨o.slots,k b o hc e⟩) (fun _ _ _ _ n=>n)
  (fun b o hc e=>⟨o,k b o hc e⟩) (fun _ _ e=>e) (fun _ _ _ e=>e) (fun b ps e=>⟨#[],by rw[e];simp⟩) (fun m hm=>?_) (fun b u e=>?_) I.bare
 ·obtain⟨f0,f1,f2,f3,f4,f5⟩:=hf b hb;exact⟨f3,f1,f4,f5⟩
 ·obtain⟨o,es,ep,ho,r⟩:=hm;exact⟨o,es,ep,k _ o (fun z=>(hf _ z).2.1 rfl) ho,r⟩
 ·refine(I.hok b u e).stay (fun c v hc q=>k c v ?_ q) (fun _ q=>q) fun _ _ q=>q;rcases hc with z | z
  ·rw[z];exact nit b u e
  ·exact nit c _ z
theorem Inv.turnLay{t':Nat}{ch:List Addr}{o:HO}(I:Inv X pins σ H s)(k:∀ b u,b∉ch->s.heap.get? b=some u->h'.get? b=some u)(hf:∀ b∈ch,FpOk X pins H b)
 (new:ObjOk X.prog X.w (upd H s.heap.objs.size o) h' s.heap.objs.size o):Inv X pins σ (upd H s.heap.objs.size o) {s with heap:=h',toks:=t'}:=by
 have hT:H s.heap.objs.size=none:=I.fresh;have nit:∀ b u,H b=some u->b∉ch:=fun b u e z=>by rw[(hf b z).1]at e;cases e
 have lt:∀ b u,s.heap.get? b=some u->b≠s.heap.objs.size:=fun b u e=>WR (WH e)
 refine I.step (g':=s.gens) (d':=s.drawn) (ch:=ch) (fun b hb=>?_) (fun b o _ _ hc e _=>k b o hc e) (fun b o _ _ hc e _=>⟨o.slots,k b o hc e⟩) (fun b u _ e n=>by rw[upd_ne (lt b u e)];exact n)
  (fun b o hc e=>⟨o,k b o hc e⟩) (fun b xs e=>by rw[upd_ne (e8 e hT)];exact e) (fun b u xs e=>by rw[upd_ne (e8 e hT)];exact e) (fun b ps e=>⟨#[],by rw[upd_ne (e8 e hT),e];simp⟩) (fun m hm=>?_) (fun b u e=>?_) I.bare
 ·obtain⟨f0,f1,f2,f3,f4,f5⟩:=hf b hb;exact⟨f3,f1,f4,f5⟩
 ·obtain⟨o,es,ep,ho,r⟩:=hm;exact⟨o,es,ep,k _ o (fun z=>(hf _ z).2.1 rfl) ho,r⟩
 ·by_cases hb:b=s.heap.objs.size
  ·subst hb;rw[f6]at e;cases e;exact new
  ·rw[upd_ne hb]at e;refine(I.hok b u e).stay (fun c v hc q=>k c v ?_ q) (fun c q=>by rw[upd_ne (e8 q hT)];exact q) fun c xs q=>by rw[upd_ne (e8 q hT)];exact q
   rcases hc with z | z
   ·rw[z];exact nit b u e
   ·exact nit c _ z
end
noncomputable def Sc(K:Vy)(a:Addr):It:=
 ⟨fun i H=>∃ xs x,SqL K H a xs/\xs[i]?=some x,fun i H x H'=>∃ p v,H p=none/\x = .ref p/\(∀ xs,SqL K H a xs->xs[i]?=some v)/\H'=upd H p (.tup [.int i,v]),fun i H=>∃ xs,SqL K H a xs/\xs.length=i⟩
noncomputable def Sd(K:Vy)(a:Addr):It:=
 ⟨fun i H=>∃ xs x,SqT K H a xs/\xs[i]?=some x,fun i H x H'=>∃ p v,H p=none/\x = .ref p/\(∀ xs,SqT K H a xs->xs[i]?=some v)/\H'=upd H p (.tup [.int i,v]),fun i H=>∃ xs,SqT K H a xs/\xs.length=i⟩
theorem MP:2<=sizeLine:=by decide
theorem Hv{P:Program}{w:World}{K:Vy}{elts:List Expr}{kx:Nat}{tp:Pos}(a e it:Addr)(hei:e≠it)(hae:a≠e)(hai:a≠it):Turn P w K (.Tuple elts kx tp) (Sc K a) [e,it] e (fun i h=>(∃ old,IsEnum h e it i old)/\h.IsListIter it a i) where
 mem:=by simp
 obj:=fun i h st b hb=>by
  rcases WN.mp hb with rfl | hb
  ·obtain⟨⟨old,z⟩,_⟩:=st;exact⟨_,z,fun v q=>by cases q⟩
  ·have e':b=it:=by simpa using hb
   subst e';obtain⟨o,q,c,d⟩:=st.2;exact⟨o,q,fun v z=>by rw[d]at z;cases z⟩
 keep:=fun i h h' st k=>⟨let ⟨old,z⟩:=st.1;⟨old,k e (by simp) _ z⟩,st.2.at fun o q=>k it (by simp) o q⟩
 item:=by
  intro X hP hw hK hc i pins s σ H E I hf st hg;subst hP hw hK;obtain⟨xs,x,hq,hx⟩:=hg;obtain⟨its,rv,p,hz⟩:=I.list hq;obtain⟨u,hu,ru⟩:=rv.get hx;obtain⟨⟨old,he⟩,hli⟩:=st
  have hil:i<its.toArray.size:=by
   have:=(gM hu).1;simpa using this
  refine wpAny_pyNext_enum_itemD (Draws.list (prog:=X.prog) (w:=X.w) (A:=X.A.in1) (show X.A.in1.handled=none from I.ok.hd hc) it a hai its.toArray) he ⟨hli,p.isList⟩ hil hei (by simp[hei,Ne.symm hae]) fun y h' tk hy ho hs' hT hsz hk=>?_
  have hyu:y=u:=by
   have:its.toArray[i]?=some u:=by simpa using hu
   rw[this]at hy;exact(oj hy).symm
  subst hyu;refine⟨_,rfl,?_⟩
  have I1:Inv X pins σ (upd H s.heap.objs.size (.tup [.int i,x])) {s with heap:=h',toks:=tk+1}:=
   I.turnLay (ch:=[e,it]) (fun b o hb q=>hk b o (fun z=>hb (by simp[z])) (fun z=>hb (by simp[z])) q) hf ⟨MP,[.int i tk,y],.cons ⟨tk,rfl⟩ (.cons ru .nil),⟨_,hT,rfl,_,rfl⟩⟩
  refine wpAny_letOwnedTupleGo_enum ho fun h2 he2 hs2=>?_
  have hfp1:∀ b∈[e,it],FpOk X pins (upd H s.heap.objs.size (.tup [.int i,x])) b:=fun b hb=>by
   obtain⟨f0,f1⟩:=hf b hb
   have hbl:b≠s.heap.objs.size:=by
    rcases WN.mp hb with rfl | hb
    ·exact WR (WH he)
    ·have e':b=it:=by simpa using hb
     subst e';obtain⟨o,q,_⟩:=hli;exact WR (WH q)
   exact⟨by rw[upd_ne hbl];exact f0,f1⟩
  have I2:Inv X pins σ (upd H s.heap.objs.size (.tup [.int i,x])) {s with heap:=h2,toks:=tk+1}:=
   Inv.turnedL (s:={s with heap:=h',toks:=tk+1}) (t':=tk+1) (ch:=[e,it]) I1 (fun b o hb q=>(hs2.2 b (fun z=>hb (by simp[z]))).trans q) hfp1
  refine⟨.ref s.heap.objs.size,_,I2,rfl,⟨_,x,I.fresh,rfl,fun ys hy=>by rw[I.list_inj hy hq];exact hx,rfl⟩,⟨⟨y,by simpa using he2⟩,hs'.1.extBut hs2.extBut (Ne.symm hei)⟩,fun b hb=>(hfp1 b hb).1⟩
 done:=by
   intro X hP hw hK hc i pins s σ H E I hf st hg;subst hP hw hK;obtain⟨xs,hq,hx⟩:=hg;obtain⟨its,rv,p,hz⟩:=I.list hq;obtain⟨⟨old,he⟩,hli⟩:=st;have hl:=rv.length;have hn:its.toArray.size=i:=by simp;omega
   refine wpAny_pyNext_enum_endD (Draws.list (prog:=X.prog) (w:=X.w) (A:=X.A.in1) (show X.A.in1.handled=none from I.ok.hd hc) it a hai its.toArray) he (by rw[hn];exact⟨hli,p.isList⟩) fun h' eb=>⟨rfl,I.turnedL (t':=s.toks) (ch:=[e,it]) (fun b o hb q=>eb b o (fun z=>hb (by simp[z])) q) hf⟩
 self:=fun _ _ _ _ _ st h=>let ⟨old,z⟩:=st.1;wpAny_pyIter_enum z h
theorem Hw{P:Program}{w:World}{K:Vy}{elts:List Expr}{kx:Nat}{tp:Pos}(a e it:Addr)(hei:e≠it)(hae:a≠e)(hai:a≠it):Turn P w K (.Tuple elts kx tp) (Sd K a) [e,it] e (fun i h=>(∃ old,IsEnum h e it i old)/\h.IsTupleIter it a i) where
 mem:=by simp
 obj:=fun i h st b hb=>by
  rcases WN.mp hb with rfl | hb
  ·obtain⟨⟨old,z⟩,_⟩:=st;exact⟨_,z,fun v q=>by cases q⟩
  ·have e':b=it:=by simpa using hb
   subst e';obtain⟨o,q,c,d⟩:=st.2;exact⟨o,q,fun v z=>by rw[d]at z;cases z⟩
 keep:=fun i h h' st k=>⟨let ⟨old,z⟩:=st.1;⟨old,k e (by simp) _ z⟩,st.2.at fun o q=>k it (by simp) o q⟩
 item:=by
  intro X hP hw hK hc i pins s σ H E I hf st hg;subst hP hw hK;obtain⟨xs,x,hq,hx⟩:=hg;obtain⟨its,rv,p,hz⟩:=I.tuple hq;obtain⟨u,hu,ru⟩:=rv.get hx;obtain⟨⟨old,he⟩,hli⟩:=st
  have hil:i<its.toArray.size:=by
   have:=(gM hu).1;simpa using this
  refine wpAny_pyNext_enum_itemD (BR (prog:=X.prog) (w:=X.w) (A:=X.A.in1) (show X.A.in1.handled=none from I.ok.hd hc) it a hai its.toArray) he ⟨hli,p⟩ hil hei (by simp[hei,Ne.symm hae]) fun y h' tk hy ho hs' hT hsz hk=>?_
  have hyu:y=u:=by
   have:its.toArray[i]?=some u:=by simpa using hu
   rw[this]at hy;exact(oj hy).symm
  subst hyu;refine⟨_,rfl,?_⟩
  have I1:Inv X pins σ (upd H s.heap.objs.size (.tup [.int i,x])) {s with heap:=h',toks:=tk+1}:=
   I.turnLay (ch:=[e,it]) (fun b o hb q=>hk b o (fun z=>hb (by simp[z])) (fun z=>hb (by simp[z])) q) hf ⟨MP,[.int i tk,y],.cons ⟨tk,rfl⟩ (.cons ru .nil),⟨_,hT,rfl,_,rfl⟩⟩
  refine wpAny_letOwnedTupleGo_enum ho fun h2 he2 hs2=>?_
  have hfp1:∀ b∈[e,it],FpOk X pins (upd H s.heap.objs.size (.tup [.int i,x])) b:=fun b hb=>by
   obtain⟨f0,f1⟩:=hf b hb
   have hbl:b≠s.heap.objs.size:=by
    rcases WN.mp hb with rfl | hb
    ·exact WR (WH he)
    ·have e':b=it:=by simpa using hb
     subst e';obtain⟨o,q,_⟩:=hli;exact WR (WH q)
   exact⟨by rw[upd_ne hbl];exact f0,f1⟩
  have I2:Inv X pins σ (upd H s.heap.objs.size (.tup [.int i,x])) {s with heap:=h2,toks:=tk+1}:=
   Inv.turnedL (s:={s with heap:=h',toks:=tk+1}) (t':=tk+1) (ch:=[e,it]) I1 (fun b o hb q=>(hs2.2 b (fun z=>hb (by simp[z]))).trans q) hfp1
  refine⟨.ref s.heap.objs.size,_,I2,rfl,⟨_,x,I.fresh,rfl,fun ys hy=>by rw[I.tuple_inj hy hq];exact hx,rfl⟩,⟨⟨y,by simpa using he2⟩,hs'.1.extBut hs2.extBut (Ne.symm hei)⟩,fun b hb=>(hfp1 b hb).1⟩
 done:=by
   intro X hP hw hK hc i pins s σ H E I hf st hg;subst hP hw hK;obtain⟨xs,hq,hx⟩:=hg;obtain⟨its,rv,p,hz⟩:=I.tuple hq;obtain⟨⟨old,he⟩,hli⟩:=st;have hl:=rv.length;have hn:its.toArray.size=i:=by simp;omega
   refine wpAny_pyNext_enum_endD (BR (prog:=X.prog) (w:=X.w) (A:=X.A.in1) (show X.A.in1.handled=none from I.ok.hd hc) it a hai its.toArray) he (by rw[hn];exact⟨hli,p⟩) fun h' eb=>⟨rfl,I.turnedL (t':=s.toks) (ch:=[e,it]) (fun b o hb q=>eb b o (fun z=>hb (by simp[z])) q) hf⟩
 self:=fun _ _ _ _ _ st h=>let ⟨old,z⟩:=st.1;wpAny_pyIter_enum z h
section
variable{X:Cx}
noncomputable def Ue(K:Vy)(ta:TA):TI:=fun σ H R=>ta σ H fun vs H1=>∃ a,vs=[.ref a]/\(((∃ xs,SqL K H1 a xs)/\R (Sc K a) H1)\/((∃ xs,SqT K H1 a xs)/\R (Sd K a) H1))
theorem DS:bootBuiltins "enumerate"=some (.type "enumerate"):=by decide +kernel
theorem P9{a:Expr}{ta:TA}{p pos:Pos}{elts:List Expr}{kx:Nat}{tp:Pos}(hg:Gl X "enumerate")(hm:X.mg "enumerate"=none)(ha:PA X [a] ta)(hs:starEach [a] X.env=[(false,eval a X.env)]:=by rfl):
 PI X (.Tuple elts kx tp) (.Call (.Name "enumerate" p) [a] [] pos) (Ue X.K ta):=by
 intro pins s σ H R I h;refine Call_ (AY I hg hm DS (PyProof.Rows.callWith_type1 (thn (ha pos pins s σ H _ I h) fun us s1 ⟨vs,H1,I1,r1,q1⟩=>?_) hs rfl));obtain⟨l,e,q1⟩:=q1;subst e;cases r1 with
 | cons r rr=>
   cases rr;cases r;rcases q1 with⟨⟨xs,hq⟩,q⟩ | ⟨⟨xs,hq⟩,q⟩
   ·obtain⟨its,rv,pl,hz⟩:=I1.list hq;have hlt:@LT.lt Nat _ l s1.heap.objs.size:=by obtain⟨o,n,e,_⟩:=pl;exact WH e
    refine call_enumerate_list pl.isList fun h' he hli hsz hk=>?_;refine wpAny_pyIter_enum he ?_;have I2:Inv X pins σ H1 {s1 with heap:=h'}:=I1.kept (t':=s1.toks) hk;refine⟨s1.heap.objs.size+1,[s1.heap.objs.size+1,s1.heap.objs.size],_,_,H1,rfl,I2,Hv l _ s1.heap.objs.size (show @Ne Nat _ _ by omega) (show @Ne Nat _ _ by omega) (show @Ne Nat _ _ by omega),⟨⟨_,he⟩,hli⟩,fun b hb=>?_,q⟩
    have hb2:@LE.le Nat _ s1.heap.objs.size b:=by
     rcases WN.mp hb with rfl | hb
     ·exact Y7 _
     ·have e:b=s1.heap.objs.size:=by simpa using hb
      rw[e];exact WB _
    exact I1.fpOk hb2 (I1.hok.fresh hb2)
   ·obtain⟨its,rv,pl,hz⟩:=I1.tuple hq;have hlt:@LT.lt Nat _ l s1.heap.objs.size:=by obtain⟨o,e,_⟩:=pl;exact WH e
    refine Ap (show s1.heap.IsTuple l its.toArray from pl) fun h' he hli hsz hk=>?_;refine wpAny_pyIter_enum he ?_;have I2:Inv X pins σ H1 {s1 with heap:=h'}:=I1.kept (t':=s1.toks) hk;refine⟨s1.heap.objs.size+1,[s1.heap.objs.size+1,s1.heap.objs.size],_,_,H1,rfl,I2,Hw l _ s1.heap.objs.size (show @Ne Nat _ _ by omega) (show @Ne Nat _ _ by omega) (show @Ne Nat _ _ by omega),⟨⟨_,he⟩,hli⟩,fun b hb=>?_,q⟩
    have hb2:@LE.le Nat _ s1.heap.objs.size b:=by
     rcases WN.mp hb with rfl | hb
     ·exact Y7 _
     ·have e:b=s1.heap.objs.size:=by simpa using hb
      rw[e];exact WB _
    exact I1.fpOk hb2 (I1.hok.fresh hb2)
end
theorem KS(its:List Value)(k:Nat)(y:Value):(its.toArray.extract 0 k).push y++its.toArray.extract k=(its.take k++y::its.drop k).toArray:=by
 apply Array.toList_inj.mp;simp
 first
  | done
  | exact Xb (by simp)
section
variable{X:Cx}
noncomputable def JD:V->List V->Hp->VK->Prop:=fun x vs H Q=>∃ l xs i y,x = .ref l/\vs=[.int i,y]/\H l=some (.lst xs)/\0<=i/\i<=xs.length/\xs.length<sizeLine/\Q .non (upd H l (.lst (xs.take i.toNat++y::xs.drop i.toNat)))
theorem EN:MtM X "list.insert" JD:=by
 intro pins s σ H x vs v us Q I rx rv h;obtain⟨l,xs,i,y,rfl,rfl,hH,h0,h1,hz,q⟩:=h;cases rx;obtain⟨u1,u2,rfl,⟨t,rfl⟩,ru⟩:=Vals.two rv;obtain⟨z,its,n,r,hl,e⟩:=I.lstM hH;have hn:=C6;refine call_meets F.slot_list_insert ⟨_,e,rfl⟩ F.entry_list_insert (F.args_list_insert_3 _ _ _) (AutoSeq1.list_insert_list_int_val_1 l its.toArray n i t u2 (by rw[fitsIndex_both (by omega) (by omega)];exact WF) (by rw[W7];omega)) ⟨e,?_⟩;refine⟨.non,_,I.lset (its':=its.take i.toNat++u2::its.drop i.toNat) hH e ?_ (Vals.append (r.take _) (.cons ru (r.drop _))) ?_,rfl,q⟩
 ·have hk:(if i<0 then (i+(its.toArray.size:Int)).toNat else min i.toNat its.toArray.size)=i.toNat:=by
   rw[if_neg (by omega),W7];omega
  show(let k:=if i<0 then (i+(its.toArray.size:Int)).toNat else min i.toNat its.toArray.size;(its.toArray.extract 0 k).push u2++its.toArray.extract k)=_;rw[hk];exact KS its i.toNat u2
 ·rw[W3,WY,Wz,Wy];omega
noncomputable def Aq(xs ys:List V):Bool:=xs.length == ys.length&&(xs.zip ys).all fun p=>eqV p.1 p.2
noncomputable def PB(K:Vy)(neg:Bool):R2:=fun x y H Q=>∃ a b xs ys,x = .ref a/\y = .ref b/\SqL K H a xs/\SqL K H b ys/\((xs.all A7=true/\ys.all A7=true)\/xs=[]\/ys=[])/\Q (.bl (if neg then !Aq xs ys else Aq xs ys)) H
theorem DT{xs ys:List V}(hl:xs.length=ys.length):(WP xs.length).all (fun j=>eqV (xs.getD j .non) (ys.getD j .non))=Aq xs ys:=by
 have e1:Aq xs ys=(xs.zip ys).all fun p=>eqV p.1 p.2:=by unfold Aq;simp[hl]
 rw[e1,XU,Wa,Wa];constructor
 ·intro h p hp;obtain⟨j,hj,e⟩:=Xh.mp hp;have hj1:j<xs.length:=by simp at hj;omega
  have hj2:j<ys.length:=by omega
  have:=h j (X5.mpr hj1);rw[<-e];simpa[Xr,hj1,hj2] using this
 ·intro h j hj;have hj1:j<xs.length:=X5.mp hj;have hj2:j<ys.length:=by omega
  have:=h (xs[j],ys[j]) (Xh.mpr ⟨j,by simp;omega,by simp⟩);simpa[Xr,hj1,hj2] using this
theorem CA{xs ys:List V}{us ws:List Value}{A:Around}{s:Shared}(r1:Vals xs us)(r2:Vals ys ws)(f:(xs.all A7=true/\ys.all A7=true)\/xs=[]\/ys=[]):
 ∀ j (h1:j<us.toArray.size) (h2:j<ws.toArray.size),SeqAt.EqAt A s us.toArray[j] ws.toArray[j] (eqV (xs.getD j .non) (ys.getD j .non)):=by
 intro j h1 h2;have l1:=r1.length;have l2:=r2.length;simp only[W7]at h1 h2;have hj1:j<xs.length:=by omega
 have hj2:j<ys.length:=by omega
 obtain⟨f1,f2⟩:xs.all A7=true/\ys.all A7=true:=by
  rcases f with f | f | f
  ·exact f
  ·subst f;simp at hj1
  ·subst f;simp at hj2
 obtain⟨u,eu,ru⟩:=r1.get (i:=j) (x:=xs[j]) (by simp[hj1]);obtain⟨w',ew,rw'⟩:=r2.get (i:=j) (x:=ys[j]) (by simp[hj2])
 have e1:us.toArray[j]=u:=by
  have:=gM eu;obtain⟨_,q⟩:=this;simpa using q
 have e2:ws.toArray[j]=w':=by
  obtain⟨_,q⟩:=gM ew;simpa using q
 rw[e1,e2];have g1:xs.getD j .non=xs[j]:=by simp[Xr,hj1]
 have g2:ys.getD j .non=ys[j]:=by simp[Xr,hj2]
 rw[g1,g2];exact MF ru rw' (Wa.mp f1 _ (X0 hj1)) (Wa.mp f2 _ (X0 hj2))
theorem Se(hu:X.A.units<cLine):OpR X (compareOp .Eq) (PB X.K false):=by
 intro pins s σ H x y v u Q I rx ry h;obtain⟨a,b,xs,ys,rfl,rfl,h1,h2,f,q⟩:=h;cases rx;cases ry;obtain⟨its1,r1,p1,_⟩:=I.list h1;obtain⟨its2,r2,p2,_⟩:=I.list h2;have l1:=r1.length;have l2:=r2.length;by_cases hl:xs.length=ys.length
 ·refine SeqAt.eq_listAt p1.isList p2.isList (by simp;omega) hu (CA r1 r2 f) ⟨.bl _,H,I,rfl,?_⟩;rw[W7,<-l1,DT hl];exact q
 ·refine SeqAt.eq_list_lengthsAt p1.isList p2.isList (by simp;omega) hu ⟨.bl false,H,I,rfl,?_⟩;have e:Aq xs ys=false:=by unfold Aq;simp[hl]
  rw[show(if false=true then !Aq xs ys else Aq xs ys)=Aq xs ys from rfl,e]at q;exact q
theorem Sf(hu:X.A.units<cLine):OpR X (compareOp .NotEq) (PB X.K true):=by
 intro pins s σ H x y v u Q I rx ry h;obtain⟨a,b,xs,ys,rfl,rfl,h1,h2,f,q⟩:=h;cases rx;cases ry;obtain⟨its1,r1,p1,_⟩:=I.list h1;obtain⟨its2,r2,p2,_⟩:=I.list h2;have l1:=r1.length;have l2:=r2.length;by_cases hl:xs.length=ys.length
 ·refine(SeqAt.RcNeAt.lists p1.isList p2.isList (by simp;omega) hu (CA r1 r2 f)) _ _ _ _ ?_;refine⟨.bl _,H,I,rfl,?_⟩;rw[W7,<-l1,DT hl];exact q
 ·refine(SeqAt.RcNeAt.lists_lengths p1.isList p2.isList (by simp;omega) hu) _ _ _ _ ?_;refine⟨.bl true,H,I,rfl,?_⟩;have e:Aq xs ys=false:=by unfold Aq;simp[hl]
  rw[show(if true=true then !Aq xs ys else Aq xs ys)=!Aq xs ys from rfl,e]at q;exact q
theorem call_isi1:CallR X (.builtin "isinstance") (fun xs H Q=>∃ x T t b,xs=[x,.ty T]/\TyOf X.K H x t/\PySem.W.kitOne X.K t (.type T)=some b/\Q (.bl b) H):=by
 intro pins s σ H xs us Q I r h;obtain⟨x,T,t,b,rfl,ty,e,q⟩:=h;obtain⟨u1,u2,rfl,r1,r2⟩:=Vals.two r;cases r2;exact KN I r1 ty e fun tk=>⟨.bl b,H,I.tok tk,rfl,q⟩
theorem Hx{pins:List (Addr×Obj)}{σ:St}{H:Hp}{s:Shared}{A:Around}{E:Value->Shared->Prop}{Q:Value->Shared->Prop}{b:Bool}{x:V}{u t:Value}{tp:Addr}{dd:Option Addr}{its:List Value}{n:Nat}{sl:Array (Option Value)}(I:Inv X pins σ H s)(rx:RelV x u)(ty:TyOf X.K H x t)
 (htp:s.heap.get? tp=some ⟨.type "tuple",dd,.seq its.toArray n,sl⟩) (e:PySem.W.kitAny X.K t its=some b) (h:∀ tk,Q (.bool b) {s with toks:=tk}):
 wpAny (model X.prog X.w) A (call (.builtin "isinstance") [u,.ref tp]) Q E s:=by
 cases ty with
 | non=>cases(show u=Value.none from rx);exact PySem.W.kia_tup PySem.W.kitx_none I.kIn True.intro htp e (fun z=>nomatch z) h
 | bl y=>cases(show u=Value.bool y from rx);exact PySem.W.kia_tup PySem.W.kitx_bool I.kIn True.intro htp e (fun z=>nomatch z) h
 | int i=>obtain⟨t,q⟩:=(show ∃ t,u=Value.int i t from rx);cases q;exact PySem.W.kia_tup PySem.W.kitx_int I.kIn True.intro htp e (fun z=>nomatch z) h
 | str y=>obtain⟨t,q⟩:=(show ∃ t,u=Value.str y t from rx);cases q;exact PySem.W.kia_tup PySem.W.kitx_str I.kIn True.intro htp e (fun z=>nomatch z) h
 | flt y=>obtain⟨t,q⟩:=(show ∃ t,u=Value.float y t from rx);cases q;exact PySem.W.kia_tup PySem.W.kitx_float I.kIn True.intro htp e (fun z=>nomatch z) h
 | @lst a xs ea=>
   cases(show u=Value.ref a from rx);obtain⟨_,_,n,_,h1⟩:=(show ObjOk X.prog X.w H s.heap a (.lst xs) from I.hok a _ ea)
   exact PySem.W.kia_tup PySem.W.kitx_list I.kIn ⟨_,h1,rfl⟩ htp e (fun z=>nomatch z) h
 | @frz a ob xs ea=>
   cases(show u=Value.ref a from rx);obtain⟨_,_,_,n,_,h1⟩:=(show ObjOk X.prog X.w H s.heap a (.frz ob (.lst xs)) from I.hok a _ ea)
   exact PySem.W.kia_tup PySem.W.kitx_list I.kIn ⟨_,h1,rfl⟩ htp e (fun z=>nomatch z) h
 | @tup a xs ea=>
   cases(show u=Value.ref a from rx);obtain⟨_,_,_,p⟩:=(show ObjOk X.prog X.w H s.heap a (.tup xs) from I.hok a _ ea)
   obtain⟨o,h1,h2,_⟩:=p;exact PySem.W.kia_tup PySem.W.kitx_tuple I.kIn ⟨o,h1,h2⟩ htp e (fun z=>nomatch z) h
 | @dK a kvs ea=>
   cases(show u=Value.ref a from rx);obtain⟨_,_,vs,_,p⟩:=(show ObjOk X.prog X.w H s.heap a (.dK kvs) from I.hok a _ ea)
   obtain⟨o,es,ep,h1,h2,_⟩:=p;exact PySem.W.kia_tup PySem.W.kitx_dict I.kIn ⟨o,h1,h2.1⟩ htp e (fun z=>nomatch z) h
 | @dT a kvs ea=>
   cases(show u=Value.ref a from rx);obtain⟨_,_,xs,_,o,es,ep,h1,h2,_⟩:=(show ObjOk X.prog X.w H s.heap a (.dT kvs) from I.hok a _ ea)
   exact PySem.W.kia_tup PySem.W.kitx_dict I.kIn ⟨o,h1,h2.1⟩ htp e (fun z=>nomatch z) h
 | @ins a C dx fs ea cl ha hn htk hm=>
   cases(show u=Value.ref a from rx);obtain⟨mA,O,_⟩:=J4 I.hok ea;obtain⟨od,J,_⟩:=O.look;exact PySem.W.kia_tup (PySem.W.kitx_own (cl.get _) cl.hd ha hn htk hm) I.kIn J htp e (fun z=>nomatch z) h
theorem JE:∀(Ts:List String) {us:List Value},Vals (Ts.map V.ty) us->us=Ts.map Value.type
 | [],_,.nil=>rfl
 | T::r,_,.cons h t=>by cases h;rw[JE r t];rfl
theorem KU:CallR X (.builtin "isinstance") (fun xs H Q=>∃(x:V) (p:Addr) (Ts:List String) (t:Value) (b:Bool),xs=[x,.ref p]/\H p=some (.tup (Ts.map V.ty))/\TyOf X.K H x t/\PySem.W.kitAny X.K t (Ts.map Value.type)=some b/\Q (.bl b) H):=by
 intro pins s σ H xs us Q I r h;obtain⟨x,p,Ts,t,b,rfl,hp,ty,e,q⟩:=h;obtain⟨u1,u2,rfl,r1,r2⟩:=Vals.two r;cases r2;obtain⟨_,its,rv,⟨⟨c,dd,dt,sl⟩,h1,h2,n,h3⟩⟩:=(show ObjOk X.prog X.w H s.heap p (.tup (Ts.map V.ty)) from I.hok p _ hp)
 have ei:=JE Ts rv;subst ei;replace h2:c = .type "tuple":=h2;replace h3:dt = .seq (Ts.map Value.type).toArray n:=h3;subst h2 h3;exact Hx I r1 ty h1 e fun tk=>⟨.bl b,H,I.tok tk,rfl,q⟩
theorem KW(hc:X.calm=true):CallR X (.builtin "all") (fun xs H Q=>∃(a:Addr) (bs:List Bool),xs=[.ref a]/\SqL X.K H a (bs.map V.bl)/\Q (.bl (bs.all id)) H):=by
 intro pins s σ H xs us Q I r h;obtain⟨a,bs,rfl,hq,q⟩:=h;obtain⟨u,rfl,ru⟩:=Ar r;cases ru;obtain⟨its,rv,pl,hz⟩:=I.list hq;have hl:=rv.length;rw[W2]at hl;refine call_all_walk (wpAny_pyIter_list pl.isList ?_);have hlt:a<s.heap.objs.size:=by obtain⟨o,n,e,_⟩:=pl;exact WH e
 refine⟨s.heap.objs.size,_,_,_,_,_,fun i=>bs.getD i false,rfl,Walks.list (by exact I.ok.hd hc) s.heap.objs.size a (WR hlt) its.toArray,⟨⟨_,WL _ rfl,rfl,rfl⟩,pl.isList.push _⟩,?_,fun h' tk hk=>?_⟩
 ·intro i v s' Q' E' hv hQ';have hv':its[i]?=some v:=by simpa using hv
  have hi:i<its.length:=(gM hv').1;have hb:(bs.map V.bl)[i]?=some (.bl (bs[i]'(by omega))):=by simp
  obtain⟨u',eu,ru'⟩:=rv.get hb;rw[hv']at eu;cases eu;cases ru';have hg:bs.getD i false=bs[i]'(by omega):=by simp[Xr,show i<bs.length by omega]
  have hQ2:Q' (bs.getD i false) s':=hQ';rw[hg]at hQ2;exact wpAny_truthy_bool hQ2
 ·have I1:Inv X pins σ H {s with heap:=h',toks:=tk}:=I.kept fun b o e=>hk b o (by simp;exact WR (WH e)) (W8 _ e);refine⟨.bl _,H,I1,rfl,?_⟩
  have e:(WP its.toArray.size).all (fun i=>bs.getD i false)=bs.all id:=by
   rw[W7,<-hl,XU,Wa,Wa];constructor
   ·intro h b hb;obtain⟨j,hj,e⟩:=Xh.mp hb;have:=h j (X5.mpr hj);simpa[Xr,hj,e] using this
   ·intro h j hj;have hj1:j<bs.length:=X5.mp hj;have:=h bs[j] (X0 hj1);simpa[Xr,hj1] using this
  rw[e];exact q
theorem KY:CallR X (.type "range") (fun xs H Q=>∃ b,xs=[.int b]/\∀ p,H p=none->Q (.ref p) (upd H p (.rng 0 b))):=by
 intro pins s σ H xs us Q I r h;obtain⟨b,rfl,q⟩:=h;obtain⟨u1,rfl,⟨t,rfl⟩⟩:=Ar r;refine call_range_1 ⟨.ref s.heap.objs.size,_,I.laid (o := .rng 0 b) (fun b o e=>W8 _ e) (WB _) ⟨_,_,_,WL _ rfl⟩,rfl,q _ I.fresh⟩
noncomputable def KZ(lo:Int)(n:Nat):List V:=(WP n).map fun(i:Nat)=>V.int (lo+(i:Int))
theorem G9(lo:Int)(n:Nat):(KZ lo n).length=n:=by unfold KZ;simp
theorem F3(hc:X.calm=true):CallR X (.type "list") (fun xs H Q=>∃ p a b,xs=[.ref p]/\H p=some (.rng a b) /\ -(2 ^ 62)<=a/\a<2 ^ 62 /\ -(2 ^ 62)<=b/\b<2 ^ 62/\(b - a).toNat<=100000/\∀ l,H l=none->Q (.ref l) (upd H l (.lst (KZ a (b - a).toNat)))):=by
 intro pins s σ H xs us Q I r h;obtain⟨p,a,b,rfl,hp,h1,h2,h3,h4,h5,q⟩:=h;obtain⟨u,rfl,ru⟩:=Ar r;cases ru;obtain⟨t,u',v,ho⟩:=(show ObjOk X.prog X.w H s.heap p (.rng a b) from I.hok p _ hp)
 have hn:Builtin.Range.rangeSize a b 1=(((b - a).toNat:Nat):Int):=by rw[rangeSize_one];split<;>omega
 refine call_list_range (I.ok.hd hc) (show IsRange s.heap p a b 1 t u' v from ho) (small_one h1 h2 h3 h4) hn (by omega) fun h' tk acc c' kp e hi=>?_;have hz:(b - a).toNat<=sizeLine:=Wj h5 (by decide);refine⟨.ref s.heap.objs.size,_,I.laid kp (WB _) (show ObjOk X.prog X.w _ h' _ (.lst (KZ a (b - a).toNat)) from ⟨by rw[G9];exact hz,acc.toList,c',?_,by simpa using e⟩),rfl,q _ I.fresh⟩;obtain⟨hs,hv⟩:=hi
 have key:∀(n:Nat) (l:List Value) (lo:Int),l.length=n->(∀(j:Nat) (v:Value),l[j]?=some v->∃ t,v=Value.int (lo+(j:Int)) t)->Vals ((WP n).map fun(i:Nat)=>V.int (lo+(i:Int))) l:=by
  intro n
  induction n with
  | zero=>intro l lo hl _;cases l with | nil=>exact .nil | cons _ _=>simp at hl
  | succ n ih=>
    intro l lo hl hv;cases l with
    | nil=>simp at hl
    | cons x r=>
      rw[List.range_succ_eq_map,Wl,Xc];refine .cons ?_ ?_
      ·obtain⟨t,e⟩:=hv 0 x (by simp);exact⟨t,e⟩
      ·have:=ih r (lo+1) (by simpa using hl) fun j v hj=>by
        obtain⟨t,e⟩:=hv (j+1) v (by simpa using hj);refine⟨t,?_⟩;rw[e]
        congr 1
        omega
       have e2:((fun(i:Nat)=>V.int (lo+(i:Int)))∘Nat.succ)=fun(i:Nat)=>V.int (lo+1+(i:Int)):=by
        funext i
        show V.int (lo+((i+1:Nat):Int))=V.int (lo+1+(i:Int))
        congr 1
        omega
       rw[e2];exact this
 refine key _ _ a (by simpa using hs) fun j v hj=>?_;obtain⟨t,e⟩:=hv j v (by simpa using hj);exact⟨t,by rw[e];congr 1;omega⟩
end
open PySem PySem.Spec PyProof.Rows
noncomputable def srt(ns:List Int):List Int:=ns.mergeSort (fun a b=>decide (a<=b))
theorem At(ns:List Int):(srt ns).Perm ns:=List.mergeSort_perm _ _
theorem MQ(ns:List Int):(srt ns).Pairwise (·<=·):=by
 have h:=List.pairwise_mergeSort (le:=fun(a b:Int)=>decide (a<=b)) (fun a b c h1 h2=>by simp only[decide_eq_true_eq]at *;omega) (fun a b=>by simp only[XC,decide_eq_true_eq];omega) ns;exact h.imp fun h=>of_decide_eq_true h
theorem F4{ns ns':List Int}(hp:ns'.Perm ns)(hs:ns'.Pairwise (·<=·)):ns'=srt ns:=
 List.Perm.eq_of_pairwise (fun _ _ _ _ a b=>Int.le_antisymm a b) hs (MQ ns) (hp.trans (At ns).symm)
theorem AT:∀{ns:List Int} {us:List Value},Vals (ns.map V.int) us->IntsAre us ns
 | [],_,.nil => .nil
 | _::_,_,.cons ⟨_,e⟩ t=>by subst e;exact .cons _ _ (AT t)
theorem Bq:∀{ns:List Int} {us:List Value},IntsAre us ns->Vals (ns.map V.int) us
 | _,_,.nil => .nil
 | _,_,.cons _ _ t => .cons ⟨_,rfl⟩ (Bq t)
theorem MR:bootBuiltins "sorted"=some (.builtin "sorted"):=by decide +kernel
end L2
set_option maxHeartbeats 1000000
namespace Srt
open PySem PyProof.Rows
noncomputable def Sg(xs:Array Keyed)(lo k:Nat):Prop:=∀ i j,i<=j->j<k->K xs (lo+i)<=K xs (lo+j)
noncomputable def Dg(xs:Array Keyed)(lo k:Nat):Prop:=∀ i j,i<=j->j<k->K xs (lo+j)<=K xs (lo+i)
structure Sb(a₀ a1:Array Keyed)(lo:Nat)(pd:Array (Nat×Nat×Nat))(st:SortSt):Prop where
 perm:(arrOf st).Perm a₀
 kind:kindOf st=oneType'
 failed:failedOf st=none
 pend:pendingOf st=pd
 pre:∀ i,i<lo->(arrOf st)[i]?=a1[i]?
section
variable{a₀ a1:Array Keyed}{lo:Nat}{pd:Array (Nat×Nat×Nat)}{st:SortSt}
theorem Sb.size(h:Sb a₀ a1 lo pd st):(arrOf st).size=a₀.size:=h.perm.size_eq
theorem Sb.put(h:Sb a₀ a1 lo pd st){xs:Array Keyed}(hp:xs.Perm (arrOf st))(hq:∀ i,i<lo->xs[i]?=(arrOf st)[i]?):Sb a₀ a1 lo pd (setArr st xs):=
 ⟨hp.trans h.perm,h.kind,h.failed,h.pend,fun i hi=>(hq i hi).trans (h.pre i hi)⟩
theorem Sb.at(h:Sb a₀ a1 lo pd st)(h0:IntKeys a₀){i:Nat}(hi:i<a₀.size):∃ t q,(arrOf st)[i]?=some (.int (K (arrOf st) i) t,q):=
 SBase.at (a₀:=a₀) (st:=SortSt.mk' oneType' (arrOf st) #[] 0 none) ⟨h.perm,rfl,rfl,rfl⟩ h0 hi
theorem PD{xs:Array Keyed}{i j k:Nat}(hj:j<=xs.size)(h:k<i):(mirror xs i j ((j - i) / 2))[k]?=xs[k]?:=by
 rw[getElem?_mirror_all hj,if_neg (by omega)]
theorem PF{xs:Array Keyed}{s d k:Nat}(hs:s<xs.size)(hd:d<=s)(h:k<s - d):(bubble xs s d)[k]?=xs[k]?:=by
 rw[getElem?_bubble hs d hd,if_neg (by omega),if_neg (by omega)]
end
section
variable{prog:Program}{w:World}{A:Around}{E:Value->Shared->Prop}{s:Shared}{a₀ a1:Array Keyed}{lo:Nat}{pd:Array (Nat×Nat×Nat)}
theorem GA{st:SortSt}{i j:Nat}{Q:Option Bool->SortSt->Prop}(hB:Sb a₀ a1 lo pd st)(h0:IntKeys a₀)(hi:i<a₀.size)(hj:j<a₀.size)
 (h:Q (some (decide (K (arrOf st) i<K (arrOf st) j))) st):wpS (model prog w) A E s (ltAt' i j) Q st:=by
 obtain⟨t,p,e1⟩:=hB.at h0 hi;obtain⟨u,q,e2⟩:=hB.at h0 hj;exact wpS_ltAt hB.kind e1 e2 h
theorem MS{st:SortSt}{n ok:Nat}{Q:Bool->SortSt->Prop}(h0:IntKeys a₀)(hn:lo+n<=a₀.size)(hok:ok<=n)(hB:Sb a₀ a1 lo pd st)(hs:Sg (arrOf st) lo ok)
 (h:∀ st',Sb a₀ a1 lo pd st'->Sg (arrOf st') lo n->Q true st'):wpS (model prog w) A E s (binarySort' lo n ok) Q st:=by
 rw[binarySort'_eq]
 refine wpS_bind (wpS_mono (wpS_forRange (I:=fun k c st'=>c=(none,())/\Sb a₀ a1 lo pd st'/\Sg (arrOf st') lo (min k n))
  (Q:=fun c st'=>c=(none,())/\Sb a₀ a1 lo pd st'/\Sg (arrOf st') lo n) ?one ?out ?ini) ?beh)
 case beh=>rintro c st' ⟨rfl,b,g⟩;exact wpS_pure (h st' b g)
 case ini=>
  refine⟨rfl,hB,fun i j hij hj=>?_⟩;rcases Nat.eq_zero_or_pos ok with z | z
  ·rw[show i=j by omega];exact Xz _
  ·exact hs i j hij (by omega)
 case out=>
  rintro c st' ⟨e,b,g⟩;rw[show min (max (max ok 1) n) n=n by omega]at g;exact⟨e,b,g⟩
 case one=>
  rintro k c st' a b ⟨rfl,hb,g⟩;rw[show min k n=k by omega]at g;have hk:lo+k<a₀.size:=by omega
  refine wpS_bind (wpS_mono (wpS_forRange (I:=fun x c z=>z=st'/\∃ l r,c=(none,l,r)/\l<=r/\r<=k/\r - l<=k - x/\(∀ i,i<l->K (arrOf st') (lo+i)<=K (arrOf st') (lo+k))/\∀ i,r<=i->i<k->K (arrOf st') (lo+k)<K (arrOf st') (lo+i))
   (Q:=fun c z=>z=st'/\∃ l r,c=(none,l,r)/\l<=k/\(∀ i,i<l->K (arrOf st') (lo+i)<=K (arrOf st') (lo+k))/\∀ i,l<=i->i<k->K (arrOf st') (lo+k)<K (arrOf st') (lo+i)) ?i1 ?i2 ?i3) ?i4)
  case i3=>exact⟨rfl,0,k,rfl,by omega,by omega,by omega,fun i hi=>by omega,fun i h1 h2=>by omega⟩
  case i2=>
   rintro c z ⟨rfl,l,r,rfl,h1,h2,h3,h4,h5⟩;rw[show r=l by omega]at h5;exact⟨rfl,l,r,rfl,by omega,h4,h5⟩
  case i1=>
   rintro x c z _ hx ⟨rfl,l,r,rfl,h1,h2,h3,h4,h5⟩;dsimp only;by_cases ge:l≥r
   ·rw[if_pos ge];rw[show r=l by omega]at h5;exact wpS_pure ⟨rfl,l,r,rfl,by omega,h4,h5⟩
   ·rw[if_neg ge];refine wpS_bind (GA hb h0 hk (by omega) ?_);by_cases y:K (arrOf z) (lo+k)<K (arrOf z) (lo+(l+r) / 2)
    ·simp only[y,decide_true,if_true];exact wpS_pure ⟨rfl,l,(l+r) / 2,rfl,by omega,by omega,by omega,h4,fun i p q=>Int.lt_of_lt_of_le y (g _ _ p q)⟩
    ·simp only[y,decide_false,X6,if_false];exact wpS_pure ⟨rfl,(l+r) / 2+1,r,rfl,by omega,by omega,by omega,fun i p=>XB (g i ((l+r) / 2) (by omega) (by omega)) (Z9.mp y),h5⟩
  case i4=>
   rintro c z ⟨rfl,l,r,rfl,h1,h4,h5⟩;show wpS _ _ _ _ (do moveDown' (lo+k) (lo+l);pure (ForInStep.yield (none,()))) _ _;rw[moveDown'_eq];have hz:lo+k<(arrOf z).size:=by rw[hb.size];exact hk
   refine wpS_bind (wpS_modify (wpS_pure ⟨rfl,hb.put (bubble_perm _ _ _) (fun i hi=>PF hz (by omega) (by omega)),?_⟩));rw[show min (k+1) n=k+1 by omega];intro i j hij hj;show K (bubble (arrOf z) (lo+k) (lo+k - (lo+l))) (lo+i)<=K (bubble (arrOf z) (lo+k) (lo+k - (lo+l))) (lo+j);rw[K_bubble hz (by omega),K_bubble hz (by omega),show lo+k - (lo+k - (lo+l))=lo+l by omega];by_cases i1:i<l
   ·rw[if_neg (by omega),if_neg (by omega)];by_cases j1:j<l
    ·rw[if_neg (by omega),if_neg (by omega)];exact g _ _ hij (by omega)
    ·by_cases j2:j=l
     ·rw[if_pos (by omega)];exact h4 _ i1
     ·rw[if_neg (by omega),if_pos (by omega),show lo+j - 1=lo+(j - 1) by omega];exact g _ _ (by omega) (by omega)
   ·by_cases i2:i=l
    ·rw[if_pos (by omega)];by_cases j2:j=l
     ·rw[if_pos (by omega)];exact Xz _
     ·rw[if_neg (by omega),if_pos (by omega),show lo+j - 1=lo+(j - 1) by omega];exact XL (h5 _ (by omega) (by omega))
    ·rw[if_neg (by omega),if_pos (by omega),if_neg (by omega),if_pos (by omega),show lo+i - 1=lo+(i - 1) by omega,show lo+j - 1=lo+(j - 1) by omega];exact g _ _ (by omega) (by omega)
end
open PySem PyProof.Rows
noncomputable def upL(lo a m:Nat):StateT SortSt Sem AscSt:=
 forIn [a:m] ((none,a):AscSt) fun _ c=>do
  match <- ltAt' (lo+c.2) (lo+c.2 - 1) with
  | some b=>if b=true then pure (.done (none,c.2)) else pure (.yield (none,c.2+1))
  | _=>pure (.done (some none,c.2))
noncomputable def Hy(lo n m:Nat):StateT SortSt Sem (Option Nat):=do
 reverseSlice' lo (lo+n)
 let c <- upL lo n m
 match c.1 with
 | some r=>pure r
 | none=>pure (some c.2)
noncomputable def dnL(lo n m:Nat):StateT SortSt Sem DescSt:=
 forIn [n:m] ((none,n,0):DescSt) fun _ c=>do
  match <- ltAt' (lo+c.2.1) (lo+c.2.1 - 1) with
  | some b=>
    if b=true then
     if c.2.2>0 then do
      reverseSlice' (lo+c.2.1 - (c.2.2+1)) (lo+c.2.1)
      pure (.yield (none,c.2.1+1,0))
     else pure (.yield (none,c.2.1+1,0))
    else do
     match <- ltAt' (lo+c.2.1 - 1) (lo+c.2.1) with
     | some d=>if d=true then pure (.done (none,c.2.1,c.2.2)) else pure (.yield (none,c.2.1+1,c.2.2+1))
     | _=>pure (.done (some none,c.2.1,c.2.2))
  | _=>pure (.done (some none,c.2.1,c.2.2))
noncomputable def dpL(lo n m:Nat):StateT SortSt Sem (Option Nat):=do
 liftM (rule "list.sort.descending-run")
 let c <- dnL lo (n+1) m
 match c.1 with
 | some r=>pure r
 | none=>
   if c.2.2>0 then do
    reverseSlice' (lo+c.2.1 - (c.2.2+1)) (lo+c.2.1)
    Hy lo c.2.1 m
   else Hy lo c.2.1 m
theorem Sh(lo m:Nat):countRun' lo m=(do
 let c <- upL lo 1 m
 match c.1 with
 | some r=>pure r
 | none=>
   if (c.2 == m)=true then pure (some c.2)
   else if c.2>1 then do
    match <- ltAt' lo (lo+c.2 - 1) with
    | some b=>if b=true then pure (some c.2) else do
       reverseSlice' lo (lo+c.2)
       dpL lo c.2 m
    | _=>pure none
   else dpL lo c.2 m):=by
 rw[countRun'_eq];have e3:∀ n (f:PUnit->StateT SortSt Sem (Option Nat)),(∀ u,f u=(upL lo n m >>= fun c=>match c.1 with | some r=>pure r | none=>pure (some c.2)))->(reverseSlice' lo (lo+n) >>= f)=Hy lo n m:=fun n f h=>congrArg (fun k=>reverseSlice' lo (lo+n) >>= k) (funext h);have up:∀ n (f g:AscSt->StateT SortSt Sem (Option Nat)),(∀ r n,f (r,n)=g (r,n))->(upL lo n m >>= f)=(upL lo n m >>= g):=fun n f g h=>congrArg (fun k=>upL lo n m >>= k) (funext fun c=>h c.1 c.2);have dn:∀ n (f g:DescSt->StateT SortSt Sem (Option Nat)),(∀ r n q,f (r,n,q)=g (r,n,q))->(dnL lo n m >>= f)=(dnL lo n m >>= g):=fun n f g h=>congrArg (fun k=>dnL lo n m >>= k) (funext fun c=>h c.1 c.2.1 c.2.2)
 have dp:∀ n (f:PUnit->StateT SortSt Sem (Option Nat)),(∀ u,f u=(dnL lo (n+1) m >>= fun c=>match c.1 with
  | some r=>pure r
  | none=>if c.2.2>0 then do
     reverseSlice' (lo+c.2.1 - (c.2.2+1)) (lo+c.2.1)
     Hy lo c.2.1 m
    else Hy lo c.2.1 m))->(liftM (rule "list.sort.descending-run") >>= f)=dpL lo n m:=fun n f h=>congrArg (fun k=>liftM (rule "list.sort.descending-run") >>= k) (funext h)
 refine up 1 _ _ fun r n=>?_;cases r with
 | some r=>rfl
 | none=>
   dsimp only;split
   ·rfl
   ·split
    ·refine congrArg (fun k=>ltAt' lo (lo+n - 1) >>= k) (funext fun x=>?_);cases x with
     | none=>rfl
     | some b=>
       dsimp only;split
       ·rfl
       ·refine congrArg (fun k=>reverseSlice' lo (lo+n) >>= k) (funext fun u=>?_);refine dp n _ fun u=>dn (n+1) _ _ fun r n q=>?_;cases r with
        | some r=>rfl
        | none=>
          dsimp only;split
          ·refine congrArg (fun k=>reverseSlice' (lo+n - (q+1)) (lo+n) >>= k) (funext fun u=>?_);exact e3 n _ fun u=>up n _ _ fun r n=>by cases r<;>rfl
          ·exact e3 n _ fun u=>up n _ _ fun r n=>by cases r<;>rfl
    ·refine dp n _ fun u=>dn (n+1) _ _ fun r n q=>?_;cases r with
     | some r=>rfl
     | none=>
       dsimp only;split
       ·refine congrArg (fun k=>reverseSlice' (lo+n - (q+1)) (lo+n) >>= k) (funext fun u=>?_);exact e3 n _ fun u=>up n _ _ fun r n=>by cases r<;>rfl
       ·exact e3 n _ fun u=>up n _ _ fun r n=>by cases r<;>rfl
section
variable{prog:Program}{w:World}{A:Around}{E:Value->Shared->Prop}{s:Shared}{a₀ a1:Array Keyed}{lo:Nat}{pd:Array (Nat×Nat×Nat)}
theorem F5{st:SortSt}{i j:Nat}{Q:Unit->SortSt->Prop}(h:Q () (setArr st (mirror (arrOf st) i j ((j - i) / 2)))):wpS (model prog w) A E s (reverseSlice' i j) Q st:=by
 rw[reverseSlice'_eq];exact wpS_modify h
theorem Sb.mir{st:SortSt}(hB:Sb a₀ a1 lo pd st){i j:Nat}(hi:lo<=i)(hj:j<=a₀.size):Sb a₀ a1 lo pd (setArr st (mirror (arrOf st) i j ((j - i) / 2))):=
 hB.put (mirror_perm _ _ _ _) fun k hk=>PD (by rw[hB.size];exact hj) (by omega)
theorem Sg.more{xs:Array Keyed}{x:Nat}(h:Sg xs lo x)(h1:1<=x)(hx:K xs (lo+x - 1)<=K xs (lo+x)):Sg xs lo (x+1):=fun i j hij hj=>by
 by_cases z:j<x
 ·exact h i j hij z
 ·rw[show j=x by omega];by_cases y:i=x
  ·rw[y];exact Xz _
  ·refine XB (h i (x - 1) (by omega) (by omega)) ?_;rw[show lo+(x - 1)=lo+x - 1 by omega];exact hx
theorem Dg.more{xs ys:Array Keyed}{x:Nat}(h:Dg xs lo x)(e:∀ k,K ys k=K xs k)(h1:1<=x)(hx:K xs (lo+x)<=K xs (lo+x - 1)):Dg ys lo (x+1):=fun i j hij hj=>by
 rw[e,e];by_cases z:j<x
 ·exact h i j hij z
 ·rw[show j=x by omega];by_cases y:i=x
  ·rw[y];exact Xz _
  ·have:=h i (x - 1) (by omega) (by omega);rw[show lo+(x - 1)=lo+x - 1 by omega]at this;exact XB hx this
theorem R9{st:SortSt}{a m:Nat}{Q:AscSt->SortSt->Prop}(h0:IntKeys a₀)(hm:lo+m<=a₀.size)(ha:1<=a)(ham:a<=m)(hB:Sb a₀ a1 lo pd st)(hs:Sg (arrOf st) lo a)
 (h:∀ n,a<=n->n<=m->Sg (arrOf st) lo n->(n=m\/K (arrOf st) (lo+n)<K (arrOf st) (lo+n - 1))->Q (none,n) st):wpS (model prog w) A E s (upL lo a m) Q st:=by
 unfold upL;refine wpS_forRange (I:=fun x c z=>z=st/\c=(none,x)/\Sg (arrOf st) lo x) (fun x c z hx hxm=>?_) (fun c z=>?_) ⟨rfl,rfl,hs⟩
 ·rintro⟨rfl,rfl,g⟩;refine wpS_bind (GA hB h0 (by omega) (by omega) ?_);by_cases y:K (arrOf z) (lo+x)<K (arrOf z) (lo+x - 1)
  ·simp only[y,decide_true,if_true];exact wpS_pure (h x hx (by omega) g (.inr y))
  ·simp only[y,decide_false,X6,if_false];exact wpS_pure ⟨rfl,rfl,g.more (by omega) (Z9.mp y)⟩
 ·rintro⟨rfl,rfl,g⟩;rw[show max a m=m by omega]at g ⊢;exact h m ham (WB _) g (.inl rfl)
theorem MU{st:SortSt}{n m:Nat}{Q:Option Nat->SortSt->Prop}(h0:IntKeys a₀)(hm:lo+m<=a₀.size)(h1:1<=n)(hnm:n<=m)(hB:Sb a₀ a1 lo pd st)(hs:Dg (arrOf st) lo n)
 (h:∀ k st',Sb a₀ a1 lo pd st'->1<=k->k<=m->Sg (arrOf st') lo k->Q (some k) st'):wpS (model prog w) A E s (Hy lo n m) Q st:=by
 unfold Hy;have hz:lo+n<=(arrOf st).size:=by rw[hB.size];omega
 have hB':=hB.mir (i:=lo) (j:=lo+n) (WB _) (by omega);refine wpS_bind (F5 (wpS_bind (R9 h0 hm h1 hnm hB' (fun i j hij hj=>?_) fun k k1 k2 g _=>wpS_pure (h k _ hB' (by omega) k2 g))));show K (mirror (arrOf st) lo (lo+n) _) (lo+i)<=K (mirror (arrOf st) lo (lo+n) _) (lo+j);rw[K_mirror hz,K_mirror hz,if_pos (by omega),if_pos (by omega)];have:=hs (n - 1 - j) (n - 1 - i) (by omega) (by omega);rw[show lo+(n - 1 - j)=lo+(lo+n) - 1 - (lo+j) by omega,show lo+(n - 1 - i)=lo+(lo+n) - 1 - (lo+i) by omega]at this;exact this
theorem Uf{st:SortSt}{n m:Nat}{Q:DescSt->SortSt->Prop}(h0:IntKeys a₀)(hm:lo+m<=a₀.size)(h1:1<=n)(hnm:n<=m)(hB:Sb a₀ a1 lo pd st)(hs:Dg (arrOf st) lo n)
 (h:∀ x q st',Sb a₀ a1 lo pd st'->n<=x->x<=m->Dg (arrOf st') lo x->q+1<=x->(∀ i,lo+x - (q+1)<=i->i<lo+x->K (arrOf st') i=K (arrOf st') (lo+x - 1))->Q (none,x,q) st'):wpS (model prog w) A E s (dnL lo n m) Q st:=by
 unfold dnL;refine wpS_forRange (I:=fun x c z=>∃ q,c=(none,x,q)/\Sb a₀ a1 lo pd z/\Dg (arrOf z) lo x/\q+1<=x/\∀ i,lo+x - (q+1)<=i->i<lo+x->K (arrOf z) i=K (arrOf z) (lo+x - 1)) (fun x c z hx hxm=>?_) (fun c z=>?_) ⟨0,rfl,hB,hs,by omega,fun i a b=>by congr 1;omega⟩
 ·rintro⟨q,rfl,hb,g,hq,he⟩;have hz:lo+x<=(arrOf z).size:=by rw[hb.size];omega
  dsimp only;refine wpS_bind (GA hb h0 (by omega) (by omega) ?_);by_cases y:K (arrOf z) (lo+x)<K (arrOf z) (lo+x - 1)
  ·simp only[y,decide_true,if_true];by_cases p:q>0
   ·rw[if_pos p];exact wpS_bind (F5 (wpS_pure ⟨0,rfl,hb.mir (by omega) (by omega),g.more (K_mirror_equal hz he) (by omega) (XL y),by omega,fun i a b=>by congr 1;omega⟩))
   ·rw[if_neg p];exact wpS_pure ⟨0,rfl,hb,g.more (fun _=>rfl) (by omega) (XL y),by omega,fun i a b=>by congr 1;omega⟩
  ·simp only[y,decide_false,X6,if_false];refine wpS_bind (GA hb h0 (by omega) (by omega) ?_);by_cases v:K (arrOf z) (lo+x - 1)<K (arrOf z) (lo+x)
   ·simp only[v,decide_true,if_true];exact wpS_pure (h x q z hb hx (by omega) g hq he)
   ·simp only[v,decide_false,X6,if_false];have e:K (arrOf z) (lo+x)=K (arrOf z) (lo+x - 1):=by omega
    refine wpS_pure ⟨q+1,rfl,hb,g.more (fun _=>rfl) (by omega) (by omega),by omega,fun i a b=>?_⟩;rw[show lo+(x+1) - 1=lo+x by omega];by_cases u:i=lo+x
    ·rw[u]
    ·rw[e];exact he i (by omega) (by omega)
 ·rintro⟨q,rfl,hb,g,hq,he⟩;rw[show max n m=m by omega]at g hq he ⊢;exact h m q z hb hnm (WB _) g hq he
theorem RA{st:SortSt}{n m:Nat}{Q:Option Nat->SortSt->Prop}(h0:IntKeys a₀)(hm:lo+m<=a₀.size)(hnm:n+1<=m)(hB:Sb a₀ a1 lo pd st)(hs:Dg (arrOf st) lo (n+1))
 (h:∀ k st',Sb a₀ a1 lo pd st'->1<=k->k<=m->Sg (arrOf st') lo k->Q (some k) st'):wpS (model prog w) A E s (dpL lo n m) Q st:=by
 unfold dpL;refine wpS_bind (wpS_lift (wpAny_rule ⟨rfl,?_⟩));refine wpS_bind (Uf h0 hm (by omega) hnm hB hs fun x q st' hb hx1 hx2 g hq he=>?_);have hz:lo+x<=(arrOf st').size:=by rw[hb.size];omega
 dsimp only;by_cases p:q>0
 ·rw[if_pos p];refine wpS_bind (F5 (MU h0 hm (by omega) hx2 (hb.mir (by omega) (by omega)) (fun i j hij hj=>?_) h));show K (mirror (arrOf st') _ _ _) (lo+j)<=K (mirror (arrOf st') _ _ _) (lo+i);rw[K_mirror_equal hz he,K_mirror_equal hz he];exact g i j hij hj
 ·rw[if_neg p];exact MU h0 hm (by omega) hx2 hb g h
theorem MV{st:SortSt}{m:Nat}{Q:Option Nat->SortSt->Prop}(h0:IntKeys a₀)(hm:lo+m<=a₀.size)(h1:1<=m)(hB:Sb a₀ a1 lo pd st)
 (h:∀ k st',Sb a₀ a1 lo pd st'->1<=k->k<=m->Sg (arrOf st') lo k->Q (some k) st'):wpS (model prog w) A E s (countRun' lo m) Q st:=by
 rw[Sh];refine wpS_bind (R9 h0 hm (WB 1) h1 hB (fun i j hij hj=>by rw[show i=j by omega];exact Xz _) fun n n1 n2 g hor=>?_);dsimp only;by_cases e:n=m
 ·rw[if_pos (by simpa using e)];exact wpS_pure (h n st hB n1 n2 g)
 ·rw[if_neg (by simpa using e)];have hlt:=hor.resolve_left e;by_cases z:n>1
  ·rw[if_pos z];refine wpS_bind (GA hB h0 (by omega) (by omega) ?_);by_cases y:K (arrOf st) lo<K (arrOf st) (lo+n - 1)
   ·simp only[y,decide_true,if_true];exact wpS_pure (h n st hB n1 n2 g)
   ·simp only[y,decide_false,X6,if_false];have hz:lo+n<=(arrOf st).size:=by rw[hB.size];omega
    have al:∀ k,lo<=k->k<lo+n->K (arrOf st) k=K (arrOf st) (lo+n - 1):=fun k a b=>by
     have p:=g 0 (k - lo) (by omega) (by omega);have q:=g (k - lo) (n - 1) (by omega) (by omega);rw[show lo+(k - lo)=k by omega]at p q;rw[show lo+(n - 1)=lo+n - 1 by omega]at q;rw[Ze]at p;omega
    refine wpS_bind (F5 (RA h0 hm (by omega) (hB.mir (WB _) (by omega)) ?_ h));refine Dg.more (xs:=arrOf st) (fun i j hij hj=>?_) (K_mirror_equal hz al) (by omega) (XL hlt);rw[al _ (by omega) (by omega),al (lo+i) (by omega) (by omega)];exact Xz _
  ·rw[if_neg z];have:n=1:=by omega
   subst this;refine RA h0 hm (by omega) hB ?_ h;exact Dg.more (xs:=arrOf st) (fun i j hij hj=>by rw[show i=j by omega];exact Xz _) (fun _=>rfl) (WB _) (XL hlt)
end
open PySem PyProof.Rows
noncomputable def GB:Bool->Keyed->Array Keyed->Nat->Nat->Nat->StateT SortSt Sem (Option Nat):=sortPriv% PySem.Builtin.gallop
noncomputable abbrev GS:=Option (Option Nat)×Nat×Nat
noncomputable def bey(l:Bool)(k:Keyed)(a:Array Keyed)(o i:Nat):StateT SortSt Sem (Option Bool):=do
 let x <- elem' a (o+i)
 if l=true then lt' x k else do
  let r <- lt' k x
  pure (r.map fun b=>!b)
noncomputable def PH(f:Nat->StateT SortSt Sem (Option Bool))(n lo hi:Nat):StateT SortSt Sem GS:=
 forIn [:n] ((none,lo,hi):GS) fun _ c=>if c.2.1≥c.2.2 then pure (.done (none,c.2.1,c.2.2)) else do
  match <- f (c.2.1+(c.2.2 - c.2.1) / 2) with
  | some b=>if b=true then pure (.yield (none,c.2.1+(c.2.2 - c.2.1) / 2+1,c.2.2)) else pure (.yield (none,c.2.1,c.2.1+(c.2.2 - c.2.1) / 2))
  | _=>pure (.done (some none,c.2.1,c.2.2))
noncomputable def PJ(f:Nat->StateT SortSt Sem (Option Bool))(n lo hi:Nat):StateT SortSt Sem (Option Nat):=do
 let c <- PH f n lo hi
 match c.1 with
 | some r=>pure r
 | none=>pure (some c.2.2)
noncomputable def Si(f:Nat->StateT SortSt Sem (Option Bool))(n h:Nat):StateT SortSt Sem GS:=
 forIn [:n] ((none,0,1):GS) fun _ c=>if c.2.2≥n - h then pure (.done (none,c.2.1,c.2.2)) else do
  match <- f (h+c.2.2) with
  | some b=>if (!b)=true then pure (.done (none,c.2.1,c.2.2)) else pure (.yield (none,c.2.2,2 * c.2.2+1))
  | _=>pure (.done (some none,c.2.1,c.2.2))
noncomputable def Sj(f:Nat->StateT SortSt Sem (Option Bool))(n h:Nat):StateT SortSt Sem GS:=
 forIn [:n] ((none,0,1):GS) fun _ c=>if c.2.2≥h+1 then pure (.done (none,c.2.1,c.2.2)) else do
  match <- f (h - c.2.2) with
  | some b=>if b=true then pure (.done (none,c.2.1,c.2.2)) else pure (.yield (none,c.2.2,2 * c.2.2+1))
  | _=>pure (.done (some none,c.2.1,c.2.2))
noncomputable def PL(f:Nat->StateT SortSt Sem (Option Bool))(n h:Nat):StateT SortSt Sem (Option Nat):=do
 match <- f h with
 | some r=>
   if r=true then do
    let c <- Si f n h
    match c.1 with
    | some r=>pure r
    | none=>PJ f n (h+c.2.1+1) (h+min c.2.2 (n - h))
   else do
    let c <- Sj f n h
    match c.1 with
    | some r=>pure r
    | none=>PJ f n (h+1 - min c.2.2 (h+1)) (h - c.2.1)
 | _=>pure none
theorem Sk(l:Bool)(k:Keyed)(a:Array Keyed)(o n h:Nat):GB l k a o n h=PL (bey l k a o) n h:=by
 unfold PL;refine congrArg (fun g=>bey l k a o h >>= g) (funext fun x=>?_);cases x with
 | none=>rfl
 | some r=>
   cases r with
   | true=>
     refine congrArg (fun g=>Si (bey l k a o) n h >>= g) (funext fun c=>?_);obtain⟨c,d,e⟩:=c;cases c with
     | some r=>rfl
     | none=>
       refine congrArg (fun g=>PH (bey l k a o) n (h+d+1) (h+min e (n - h)) >>= g) (funext fun c=>?_);obtain⟨c,d,e⟩:=c;cases c<;>rfl
   | false=>
     refine congrArg (fun g=>Sj (bey l k a o) n h >>= g) (funext fun c=>?_);obtain⟨c,d,e⟩:=c;cases c with
     | some r=>rfl
     | none=>
       refine congrArg (fun g=>PH (bey l k a o) n (h+1 - min e (h+1)) (h - d) >>= g) (funext fun c=>?_);obtain⟨c,d,e⟩:=c;cases c<;>rfl
section
variable{prog:Program}{w:World}{A:Around}{E:Value->Shared->Prop}{s:Shared}
noncomputable def RB(prog:Program)(w:World)(A:Around)(E:Value->Shared->Prop)(s:Shared)(f:Nat->StateT SortSt Sem (Option Bool))(b:Nat->Bool)(n:Nat)(st:SortSt):Prop:=
 ∀ i,i<n->∀ Q:Option Bool->SortSt->Prop,Q (some (b i)) st->wpS (model prog w) A E s (f i) Q st
structure Many(b:Nat->Bool)(n k:Nat):Prop where
 le:k<=n
 yes:∀ i,i<k->b i=true
 no:∀ i,k<=i->i<n->b i=false
theorem MW{f:Nat->StateT SortSt Sem (Option Bool)}{b:Nat->Bool}{n lo hi:Nat}{st:SortSt}{Q:Option Nat->SortSt->Prop}(hf:RB prog w A E s f b n st)(mono:∀ i j,i<=j->b j=true->b i=true)(h1:lo<=hi)(h2:hi<=n)(y:∀ i,i<lo->b i=true)(z:∀ i,hi<=i->i<n->b i=false)
 (q:∀ k,Many b n k->Q (some k) st):wpS (model prog w) A E s (PJ f n lo hi) Q st:=by
 unfold PJ PH
 refine wpS_bind (wpS_mono (wpS_forRange (I:=fun x c t=>t=st/\∃ l r,c=(none,l,r)/\l<=r/\r<=n/\r - l<=n - x/\(∀ i,i<l->b i=true)/\∀ i,r<=i->i<n->b i=false)
  (Q:=fun c t=>t=st/\∃ l r,c=(none,l,r)/\Many b n r) ?a ?b ⟨rfl,lo,hi,rfl,h1,h2,by omega,y,z⟩) ?c)
 case a=>
  rintro x c t _ hx ⟨rfl,l,r,rfl,a1,a2,a3,a4,a5⟩;dsimp only;by_cases g:l≥r
  ·rw[if_pos g];exact wpS_pure ⟨rfl,l,r,rfl,a2,fun i hi=>a4 i (by omega),a5⟩
  ·rw[if_neg g];refine wpS_bind (hf (l+(r - l) / 2) (by omega) _ ?_);cases e:b (l+(r - l) / 2) with
   | true=>exact wpS_pure ⟨rfl,_,r,rfl,by omega,a2,by omega,fun i hi=>mono i _ (by omega) e,a5⟩
   | false=>
     refine wpS_pure ⟨rfl,l,_,rfl,by omega,by omega,by omega,a4,fun i hi hn=>?_⟩;cases e':b i with
     | false=>rfl
     | true=>rw[mono _ i hi e']at e;cases e
 case b=>
  rintro c t ⟨rfl,l,r,rfl,a1,a2,a3,a4,a5⟩;have:l=r:=by omega
  subst this;exact⟨rfl,l,l,rfl,a2,a4,a5⟩
 case c=>
  rintro c t ⟨rfl,l,r,rfl,m⟩;exact wpS_pure (q r m)
theorem Sm{f:Nat->StateT SortSt Sem (Option Bool)}{b:Nat->Bool}{n h:Nat}{st:SortSt}{Q:Option Nat->SortSt->Prop}(hf:RB prog w A E s f b n st)(mono:∀ i j,i<=j->b j=true->b i=true)(hn:h<n)
 (q:∀ k,Many b n k->Q (some k) st):wpS (model prog w) A E s (PL f n h) Q st:=by
 have anti:∀ i j,i<=j->b i=false->b j=false:=fun i j hij e=>by
  cases e':b j with
  | false=>rfl
  | true=>rw[mono i j hij e']at e;cases e
 unfold PL;refine wpS_bind (hf h hn _ ?_);cases e:b h with
 | true=>
   dsimp only;rw[if_pos rfl];unfold Si
   refine wpS_bind (wpS_mono (wpS_forRange (I:=fun x c t=>t=st/\∃ l o,c=(none,l,o)/\l<o/\x+1<=o/\l<n - h/\b (h+l)=true)
    (Q:=fun c t=>t=st/\∃ l o,c=(none,l,o)/\l<o/\l<n - h/\b (h+l)=true/\(n - h<=o\/b (h+o)=false)) ?a ?b ⟨rfl,0,1,rfl,by omega,by omega,by omega,e⟩) ?c)
   case a=>
    rintro x c t _ hx ⟨rfl,l,o,rfl,a1,a2,a3,a4⟩;dsimp only;by_cases g:o≥n - h
    ·rw[if_pos g];exact wpS_pure ⟨rfl,l,o,rfl,a1,a3,a4,.inl g⟩
    ·rw[if_neg g];refine wpS_bind (hf (h+o) (by omega) _ ?_);cases e':b (h+o) with
     | true=>exact wpS_pure ⟨rfl,o,_,rfl,by omega,by omega,by omega,e'⟩
     | false=>exact wpS_pure ⟨rfl,l,o,rfl,a1,a3,a4,.inr e'⟩
   case b=>
    rintro c t ⟨rfl,l,o,rfl,a1,a2,a3,a4⟩;exact⟨rfl,l,o,rfl,a1,a3,a4,.inl (by omega)⟩
   case c=>
    rintro c t ⟨rfl,l,o,rfl,a1,a3,a4,a5⟩;dsimp only;refine MW hf mono (by omega) (by omega) (fun i hi=>mono i _ (by omega) a4) (fun i hi hn'=>?_) q;rcases a5 with z | z
    ·omega
    ·exact anti _ i (by omega) z
 | false=>
   dsimp only;rw[if_neg (by decide)];unfold Sj
   refine wpS_bind (wpS_mono (wpS_forRange (I:=fun x c t=>t=st/\∃ l o,c=(none,l,o)/\l<o/\x+1<=o/\l<=h/\b (h - l)=false)
    (Q:=fun c t=>t=st/\∃ l o,c=(none,l,o)/\l<o/\l<=h/\b (h - l)=false/\(h+1<=o\/b (h - o)=true)) ?a ?b ⟨rfl,0,1,rfl,by omega,by omega,by omega,e⟩) ?c)
   case a=>
    rintro x c t _ hx ⟨rfl,l,o,rfl,a1,a2,a3,a4⟩;dsimp only;by_cases g:o≥h+1
    ·rw[if_pos g];exact wpS_pure ⟨rfl,l,o,rfl,a1,a3,a4,.inl g⟩
    ·rw[if_neg g];refine wpS_bind (hf (h - o) (by omega) _ ?_);cases e':b (h - o) with
     | true=>exact wpS_pure ⟨rfl,l,o,rfl,a1,a3,a4,.inr e'⟩
     | false=>exact wpS_pure ⟨rfl,o,_,rfl,by omega,by omega,by omega,e'⟩
   case b=>
    rintro c t ⟨rfl,l,o,rfl,a1,a2,a3,a4⟩;exact⟨rfl,l,o,rfl,a1,a3,a4,.inl (by omega)⟩
   case c=>
    rintro c t ⟨rfl,l,o,rfl,a1,a3,a4,a5⟩;dsimp only;refine MW hf mono (by omega) (by omega) (fun i hi=>?_) (fun i hi hn'=>anti _ i (by omega) a4) q;rcases a5 with z | z
    ·omega
    ·exact mono i _ (by omega) z
end
open PySem PyProof.Rows
noncomputable def nk(p:Keyed):Int:=numOf p.1
noncomputable def Ik(p:Keyed):Prop:=∃ n t,p.1 = .int n t
noncomputable def Up(l:List Keyed):Prop:=l.Pairwise fun x y=>nk x<=nk y
structure Res(A B r:List Keyed):Prop where
 pm:r.Perm (A++B)
 so:Up r
structure Mi(A B O:List Keyed)(i j:Nat):Prop where
 pm:O.Perm (A.take i++B.take j)
 so:Up O
 la:∀ x∈O,∀ y∈A.drop i,nk x<=nk y
 lb:∀ x∈O,∀ y∈B.drop j,nk x<=nk y
section
variable{A B O:List Keyed}{i j:Nat}
theorem Up.app{l m:List Keyed}(a:Up l)(b:Up m)(h:∀ x∈l,∀ y∈m,nk x<=nk y):Up (l++m):=Z0.mpr ⟨a,b,h⟩
theorem Up.get{l:List Keyed}(a:Up l){i j:Nat}{x y:Keyed}(hi:l[i]?=some x)(hj:l[j]?=some y)(hij:i<=j):nk x<=nk y:=by
 obtain⟨h1,rfl⟩:=gM hi;obtain⟨h2,rfl⟩:=gM hj;rcases YY i j with z | z
 ·exact(Wt.mp a) i j h1 h2 z
 ·have:i=j:=by omega
  subst this;exact Xz _
theorem m5{l:List Keyed}{i:Nat}{y:Keyed}(h:y∈l.drop i):∃ k,i<=k/\l[k]?=some y:=by
 obtain⟨k,hk⟩:=Yu.mp h;rw[Xg]at hk;exact⟨i+k,by omega,hk⟩
theorem r6{l:List Keyed}{i:Nat}{y:Keyed}(h:y∈l.take i):∃ k,k<i/\l[k]?=some y:=by
 obtain⟨k,hk⟩:=Yu.mp h;rw[Yc]at hk;split at hk
 ·rename_i z;exact⟨k,z,hk⟩
 ·cases hk
theorem Au{l:List Keyed}{i:Nat}{x:Keyed}(h:l[i]?=some x):l.drop i=x::l.drop (i+1):=by
 obtain⟨h1,rfl⟩:=gM h;exact X8 h1
theorem Av{l:List Keyed}{i:Nat}{x:Keyed}(h:l[i]?=some x):l.take (i+1)=l.take i++[x]:=by rw[Ws,h];rfl
theorem Mi.pushA(M:Mi A B O i j)(hA:Up A){x:Keyed}(hx:A[i]?=some x)(h:∀ y∈B.drop j,nk x<=nk y):Mi A B (O++[x]) (i+1) j:=by
 have dx:=Au hx;refine⟨?_,M.so.app (YF _ _) fun a ha b hb=>?_,fun a ha y hy=>?_,fun a ha y hy=>?_⟩
 ·rw[Av hx,WV];refine(M.pm.append_right [x]).trans ?_;rw[WV];exact List.Perm.append_left _ Xu
 ·rw[W6.mp hb];exact M.la a ha x (by rw[dx];exact WK ..)
 ·rcases WJ.mp ha with ha | ha
  ·exact M.la a ha y (by rw[dx];exact W9 _ hy)
  ·rw[W6.mp ha];obtain⟨k,hk,e⟩:=m5 hy;exact hA.get hx e (by omega)
 ·rcases WJ.mp ha with ha | ha
  ·exact M.lb a ha y hy
  ·rw[W6.mp ha];exact h y hy
theorem Mi.pushB(M:Mi A B O i j)(hB:Up B){x:Keyed}(hx:B[j]?=some x)(h:∀ y∈A.drop i,nk x<=nk y):Mi A B (O++[x]) i (j+1):=by
 have dx:=Au hx;refine⟨?_,M.so.app (YF _ _) fun a ha b hb=>?_,fun a ha y hy=>?_,fun a ha y hy=>?_⟩
 ·rw[Av hx,<-WV];exact M.pm.append_right [x]
 ·rw[W6.mp hb];exact M.lb a ha x (by rw[dx];exact WK ..)
 ·rcases WJ.mp ha with ha | ha
  ·exact M.la a ha y hy
  ·rw[W6.mp ha];exact h y hy
 ·rcases WJ.mp ha with ha | ha
  ·exact M.lb a ha y (by rw[dx];exact W9 _ hy)
  ·rw[W6.mp ha];obtain⟨k,hk,e⟩:=m5 hy;exact hB.get hx e (by omega)
theorem Mi.moreA(hA:Up A)(M:Mi A B O i j):∀ k,i+k<=A.length->(∀ t x,t<k->A[i+t]?=some x->∀ y∈B.drop j,nk x<=nk y)->Mi A B (O++(A.drop i).take k) (i+k) j
 | 0,_,_=>by rw[ZT,XF];exact M
 | k+1,hk,h=>by
   have ih:=Mi.moreA hA M k (by omega) fun t x ht=>h t x (by omega);have hx:=W0 (show i+k<A.length by omega);have:=ih.pushA hA hx (h k _ (by omega) hx);rw[WV]at this;have e:(A.drop i).take (k+1)=(A.drop i).take k++[A[i+k]]:=by rw[Ws,Xg,hx];rfl
   rw[e];exact this
theorem Mi.moreB(hB:Up B)(M:Mi A B O i j):∀ k,j+k<=B.length->(∀ t x,t<k->B[j+t]?=some x->∀ y∈A.drop i,nk x<=nk y)->Mi A B (O++(B.drop j).take k) i (j+k)
 | 0,_,_=>by rw[ZT,XF];exact M
 | k+1,hk,h=>by
   have ih:=Mi.moreB hB M k (by omega) fun t x ht=>h t x (by omega);have hx:=W0 (show j+k<B.length by omega);have:=ih.pushB hB hx (h k _ (by omega) hx);rw[WV]at this;have e:(B.drop j).take (k+1)=(B.drop j).take k++[B[j+k]]:=by rw[Ws,Xg,hx];rfl
   rw[e];exact this
theorem D7{l:List Keyed}(h:Up l)(i:Nat):Up (l.drop i):=List.Pairwise.sublist (List.drop_sublist i l) h
theorem Mi.done(M:Mi A B O i j)(hA:Up A)(hj:B.length<=j):Res A B (O++A.drop i):=by
 refine⟨?_,M.so.app (D7 hA i) M.la⟩;have p:=M.pm;rw[Xb hj]at p;refine(p.append_right _).trans ?_;rw[WV];refine(List.Perm.append_left _ Xu).trans ?_;rw[<-WV,XI]
theorem Mi.last(M:Mi A B O i j)(hB:Up B){x:Keyed}(hx:A[i]?=some x)(hi:i+1=A.length)(h:∀ y∈B,nk y<=nk x):Res A B (O++B.drop j++A.drop i):=by
 have dx:=Au hx;rw[show A.drop (i+1)=[] from Yp (by omega)]at dx;rw[dx];refine⟨?_,(M.so.app (D7 hB j) M.lb).app (YF _ _) fun a ha b hb=>?_⟩
 ·have p:=M.pm;have tA:A.take i++[x]=A:=by rw[<-Av hx,Xb (by omega)]
  refine((p.append_right (B.drop j)).append_right [x]).trans ?_;rw[WV (A.take i),XI,WV];refine(List.Perm.append_left _ Xu).trans ?_;rw[<-WV,tA]
 ·rw[W6.mp hb];rcases WJ.mp ha with ha | ha
  ·exact M.la a ha x (by rw[dx];exact List.mem_singleton_self _)
  ·exact h a (Y8 ha)
end
section
variable{prog:Program}{w:World}{A:Around}{E:Value->Shared->Prop}{s:Shared}
theorem JF{st:SortSt}{x y:Keyed}{Q:Option Bool->SortSt->Prop}(hx:Ik x)(hy:Ik y)(hk:kindOf st=oneType')(h:Q (some (decide (nk x<nk y))) st):wpS (model prog w) A E s (lt' x y) Q st:=by
 obtain⟨a,t,ea⟩:=hx;obtain⟨b,u,eb⟩:=hy;obtain⟨x1,x2⟩:=x;obtain⟨y1,y2⟩:=y;cases ea;cases eb;rw[lt'_eq];refine wpS_bind (wpS_get ?_);rw[hk,keyLt'_oneType];refine wpS_bind (wpS_lift (wpAny_attempt (oneLt_int ⟨rfl,?_⟩)));exact wpS_pure h
theorem y7{st:SortSt}{a:Array Keyed}{i:Nat}{x:Keyed}{Q:Keyed->SortSt->Prop}(h:a.toList[i]?=some x)(q:Q x st):wpS (model prog w) A E s (elem' a i) Q st:=by
 have e:a[i]?=some x:=by rw[<-XA];exact h
 rw[elem'_eq,e];exact wpS_pure q
noncomputable def bB(l:Bool)(k:Keyed)(L:List Keyed)(o n i:Nat):Bool:=match L[o+i]? with
 | some x=>decide (i<n)&&if l then decide (nk x<nk k) else !decide (nk k<nk x)
 | none=>false
theorem PM{l:Bool}{k:Keyed}{L:List Keyed}{o n:Nat}(hL:∀ i j x y,o<=i->i<=j->j<o+n->L[i]?=some x->L[j]?=some y->nk x<=nk y)(hn:o+n<=L.length):∀ i j,i<=j->bB l k L o n j=true->bB l k L o n i=true:=by
 intro i j hij h;unfold bB at h ⊢;cases hj:L[o+j]? with
 | none=>rw[hj]at h;cases h
 | some y=>
   rw[hj]at h;simp only[Vz,decide_eq_true_eq]at h;have hi:=W0 (show o+i<L.length by omega);rw[hi];have:=hL _ _ _ _ (by omega) (by omega) (by omega) hi hj;simp only[Vz,decide_eq_true_eq];refine⟨by omega,?_⟩;cases l with
   | true=>simp only[if_true,decide_eq_true_eq]at h ⊢;omega
   | false=>simp only[X6,if_false,Wi,decide_eq_false_iff_not]at h ⊢;omega
theorem EO{st:SortSt}{l:Bool}{k:Keyed}{a:Array Keyed}{o n h:Nat}{Q:Option Nat->SortSt->Prop}(hk:kindOf st=oneType')(ik:Ik k)(ia:∀ x∈a.toList,Ik x)(hL:∀ i j x y,o<=i->i<=j->j<o+n->a.toList[i]?=some x->a.toList[j]?=some y->nk x<=nk y)(hn:o+n<=a.toList.length)(hh:h<n)
 (q:∀ c,Many (bB l k a.toList o n) n c->Q (some c) st):wpS (model prog w) A E s (GB l k a o n h) Q st:=by
 rw[Sk];refine Sm (b:=bB l k a.toList o n) (fun i hi Q q=>?_) (PM hL hn) hh q;have hx:=W0 (show o+i<a.toList.length by omega);unfold bey;refine wpS_bind (y7 hx ?_);have ix:=ia _ (W5 hx);unfold bB at q;rw[hx]at q;cases l with
 | true=>
   rw[if_pos rfl];refine JF ix ik hk ?_;simpa[hi] using q
 | false=>
   rw[if_neg (by decide)];refine wpS_bind (JF ik ix hk (wpS_pure ?_));simpa[hi] using q
end
open PySem PyProof.Rows
section
variable{prog:Program}{w:World}{A:Around}{E:Value->Shared->Prop}{s:Shared}
theorem y4{α:Type}{c:Prop}[Decidable c]{m1 m2:StateT SortSt Sem α}{Q:α->SortSt->Prop}{st:SortSt}(h1:c->wpS (model prog w) A E s m1 Q st)(h2:¬c->wpS (model prog w) A E s m2 Q st):wpS (model prog w) A E s (if c then m1 else m2) Q st:=by
 split
 ·exact h1 ‹_›
 ·exact h2 ‹_›
theorem k9{α:Type}{c:Prop}[Decidable c]{m1 m2:StateT SortSt Sem α}{Q:α->SortSt->Prop}{st:SortSt}(h:c)(k:wpS (model prog w) A E s m1 Q st):wpS (model prog w) A E s (if c then m1 else m2) Q st:=by rw[if_pos h];exact k
theorem l6{α:Type}{c:Prop}[Decidable c]{m1 m2:StateT SortSt Sem α}{Q:α->SortSt->Prop}{st:SortSt}(h:¬c)(k:wpS (model prog w) A E s m2 Q st):wpS (model prog w) A E s (if c then m1 else m2) Q st:=by rw[if_neg h];exact k
end
noncomputable def Ug:Array Keyed->Array Keyed->StateT SortSt Sem (Array Keyed):=sortPriv% PySem.Builtin.mergeLo
structure Ks(st z:SortSt):Prop where
 k:kindOf z=kindOf st
 a:arrOf z=arrOf st
 p:pendingOf z=pendingOf st
 f:failedOf z=failedOf st
theorem Ks.refl(st:SortSt):Ks st st:=⟨rfl,rfl,rfl,rfl⟩
theorem Ks.gal{st z:SortSt}(h:Ks st z)(g:Nat):Ks st (SortSt.mk' (kindOf z) (arrOf z) (pendingOf z) g (failedOf z)):=⟨h.k,h.a,h.p,h.f⟩
theorem AI(a:Array Keyed)(i j:Nat):(a.extract i j).toList=(a.toList.drop i).take (j - i):=by
 rw[Array.toList_extract,List.extract_eq_take_drop]
theorem F6(a:Array Keyed)(i:Nat):(a.extract i a.size).toList=a.toList.drop i:=by
 rw[AI,Xb (by rw[Wy,WM];exact WB _)]
theorem Mi.nil(A B:List Keyed):Mi A B [] 0 0:=⟨.nil,.nil,(fun _ h=>nomatch h),fun _ h=>nomatch h⟩
noncomputable abbrev LS:=Option (Array Keyed)×Array Keyed×Nat×Nat×Nat×Nat×Nat
noncomputable abbrev dn(a b o:Array Keyed)(i j:Nat):Array Keyed:=o++a.extract i a.size++b.extract j b.size
noncomputable abbrev ls(a b o:Array Keyed)(i j:Nat):Array Keyed:=o++b.extract j b.size++a.extract i a.size
noncomputable def loC(a b o:Array Keyed)(i j g m k:Nat):StateT SortSt Sem (ForInStep LS):=do
 let x <- elem' a i
 if (i+1+1 == a.size)=true then pure (.done (some (ls a b (o.push x) (i+1) j),o.push x,i+1,j,g,m,k))
 else if (decide (m<7)&&decide (k<7))=true then pure (.done (none,o.push x,i+1,j,g,m,k))
 else pure (.yield (none,o.push x,i+1,j,g,m,k))
noncomputable def loB(a b o:Array Keyed)(i j g m n:Nat):StateT SortSt Sem (ForInStep LS):=do
 let x <- elem' b j
 if (j+1 == b.size)=true then pure (.done (some (dn a b (o.push x) i (j+1)),o.push x,i,j+1,g,m,n)) else do
  let y <- elem' a i
  match <- GB true y b (j+1) (b.size - (j+1)) 0 with
  | some k=>(if k>0 then (if (j+1+k == b.size)=true then pure (.done (some (dn a b (o.push x++b.extract (j+1) (j+1+k)) i (j+1+k)),o.push x++b.extract (j+1) (j+1+k),i,j+1+k,g,m,k))
     else loC a b (o.push x++b.extract (j+1) (j+1+k)) i (j+1+k) g m k) else loC a b (o.push x) i (j+1) g m k)
  | _=>pure (.done (some (dn a b (o.push x) i (j+1)),o.push x,i,j+1,g,m,n))
noncomputable def loA(a b o:Array Keyed)(i j g m n:Nat):StateT SortSt Sem (ForInStep LS):=do
 modify fun z=>SortSt.mk' (kindOf z) (arrOf z) (pendingOf z) g (failedOf z)
 let y <- elem' b j
 match <- GB false y a i (a.size - i) 0 with
 | some k=>(if k>0 then (if (i+k+1 == a.size)=true then pure (.done (some (ls a b (o++a.extract i (i+k)) (i+k) j),o++a.extract i (i+k),i+k,j,g,k,n))
    else if (i+k == a.size)=true then pure (.done (some (dn a b (o++a.extract i (i+k)) (i+k) j),o++a.extract i (i+k),i+k,j,g,k,n))
    else loB a b (o++a.extract i (i+k)) (i+k) j g k n) else loB a b o i j g k n)
 | _=>pure (.done (some (dn a b o i j),o,i,j,g,m,n))
theorem Ck{k:Keyed}{L:List Keyed}{o n c:Nat}(M:Many (bB false k L o n) n c){t:Nat}{x:Keyed}(hx:L[o+t]?=some x)(ht:t<n):(t<c->nk x<=nk k)/\(c<=t->nk k<nk x):=by
 constructor
 ·intro h;have:=M.yes t h;unfold bB at this;rw[hx]at this;simp[ht]at this;omega
 ·intro h;have:=M.no t h ht;unfold bB at this;rw[hx]at this;simp[ht]at this;omega
theorem DU{k:Keyed}{L:List Keyed}{o n c:Nat}(M:Many (bB true k L o n) n c){t:Nat}{x:Keyed}(hx:L[o+t]?=some x)(ht:t<n):(t<c->nk x<nk k)/\(c<=t->nk k<=nk x):=by
 constructor
 ·intro h;have:=M.yes t h;unfold bB at this;rw[hx]at this;simp[ht]at this;omega
 ·intro h;have:=M.no t h ht;unfold bB at this;rw[hx]at this;simp[ht]at this;omega
structure Two(a b:Array Keyed)(la:Keyed):Prop where
 ia:∀ x∈a.toList,Ik x
 ib:∀ x∈b.toList,Ik x
 hA:Up a.toList
 hB:Up b.toList
 hla:a.toList[a.size - 1]?=some la
 hlt:∀ y∈b.toList,nk y<nk la
section
variable{a b:Array Keyed}{la:Keyed}(T:Two a b la)
include T
theorem Two.gA{i:Nat}(h:i<a.size):∃ x,a.toList[i]?=some x/\Ik x:=by
 have e:=W0 (show i<a.toList.length by rw[WM];exact h);exact⟨_,e,T.ia _ (W5 e)⟩
theorem Two.gB{i:Nat}(h:i<b.size):∃ x,b.toList[i]?=some x/\Ik x:=by
 have e:=W0 (show i<b.toList.length by rw[WM];exact h);exact⟨_,e,T.ib _ (W5 e)⟩
theorem Two.fin{o:Array Keyed}{i j:Nat}(M:Mi a.toList b.toList o.toList i j)(hj:b.size<=j):Res a.toList b.toList (dn a b o i j).toList:=by
 have lb1:b.toList.length=b.size:=WM;unfold dn;rw[X7,X7,F6,F6,Yp (as:=b.toList) (by omega),XF];exact M.done T.hA (by omega)
theorem Two.lst{o:Array Keyed}{i j:Nat}(M:Mi a.toList b.toList o.toList i j)(hi:i+1=a.size):Res a.toList b.toList (ls a b o i j).toList:=by
 have la1:a.toList.length=a.size:=WM;unfold ls;rw[X7,X7,F6,F6];have e:i=a.size - 1:=by omega
 subst e;exact M.last T.hB T.hla (by omega) fun y hy=>XL (T.hlt y hy)
end
@[elab_as_elim] theorem ex4{τ α β γ δ:Type}{f:α->β->γ->δ->τ}{R:α->β->γ->δ->Prop}{P:τ->Prop}(c:τ)(h:∃ x y z u,c=f x y z u/\R x y z u)(k:∀ x y z u,R x y z u->P (f x y z u)):P c:=by
  obtain⟨x,y,z,u,rfl,r⟩:=h;exact k x y z u r
@[elab_as_elim] theorem ex5{τ α β γ δ ε:Type}{f:α->β->γ->δ->ε->τ}{R:α->β->γ->δ->ε->Prop}{P:τ->Prop}(c:τ)(h:∃ x y z u v,c=f x y z u v/\R x y z u v)(k:∀ x y z u v,R x y z u v->P (f x y z u v)):P c:=by
  obtain⟨x,y,z,u,v,rfl,r⟩:=h;exact k x y z u v r
@[elab_as_elim] theorem ex6{τ α β γ δ ε ζ:Type}{f:α->β->γ->δ->ε->ζ->τ}{R:α->β->γ->δ->ε->ζ->Prop}{P:τ->Prop}(c:τ)(h:∃ x y z u v w,c=f x y z u v w/\R x y z u v w)(k:∀ x y z u v w,R x y z u v w->P (f x y z u v w)):P c:=by
  obtain⟨x,y,z,u,v,w,rfl,r⟩:=h;exact k x y z u v w r
@[elab_as_elim] theorem ex2{τ α β:Type}{f:α->β->τ}{R:α->β->Prop}{P:τ->Prop}(c:τ)(h:∃ x y,c=f x y/\R x y)(k:∀ x y,R x y->P (f x y)):P c:=by
  obtain⟨x,y,rfl,r⟩:=h;exact k x y r
noncomputable def Ends(a b:Array Keyed)(st:SortSt)(x:Nat)(c:LS)(z:SortSt):Prop:=Ks st z/\((∃ r d,c=(some r,d)/\Res a.toList b.toList r.toList)\/∃ o i j g m n,c=(none,o,i,j,g,m,n)/\Mi a.toList b.toList o.toList i j/\i+1<a.size/\j<b.size/\x<=i+j)
noncomputable def PN(a b:Array Keyed)(st:SortSt)(x:Nat)(r:ForInStep LS)(z:SortSt):Prop:=match r with
 | .done c=>Ends a b st x c z
 | .yield c=>∃ o i j g m n,c=(none,o,i,j,g,m,n)/\Ks st z/\Mi a.toList b.toList o.toList i j/\i+1<a.size/\j<b.size/\x<=i+j
section
variable{prog:Program}{w:World}{A:Around}{E:Value->Shared->Prop}{s:Shared}{a b:Array Keyed}{la:Keyed}
theorem MX(T:Two a b la){st z:SortSt}{o:Array Keyed}{x i j g m k:Nat}(K:Ks st z)(M:Mi a.toList b.toList o.toList i j)(hi:i+1<a.size)(hj:j<b.size)(hx:x<=i+j)(h:∀ u,a.toList[i]?=some u->∀ y∈b.toList.drop j,nk u<=nk y):
 wpS (model prog w) A E s (loC a b o i j g m k) (PN a b st x) z:=by
 obtain⟨u,hu,iu⟩:=T.gA (i:=i) (by omega);unfold loC;refine wpS_bind (y7 hu ?_);have M':Mi a.toList b.toList (o.push u).toList (i+1) j:=by rw[Xl];exact M.pushA T.hA hu (h u hu)
 by_cases e:i+1+1=a.size
 ·refine k9 (by simpa using e) ?_;exact wpS_pure ⟨K,.inl ⟨_,_,rfl,T.lst M' e⟩⟩
 ·refine l6 (by simpa using e) ?_;by_cases f:(decide (m<7)&&decide (k<7))=true
  ·refine k9 f ?_;exact wpS_pure ⟨K,.inr ⟨_,_,_,_,_,_,rfl,M',by omega,hj,by omega⟩⟩
  ·refine l6 f ?_;exact wpS_pure ⟨_,_,_,_,_,_,rfl,K,M',by omega,hj,by omega⟩
theorem MY(T:Two a b la){st z:SortSt}(hk:kindOf st=oneType'){o:Array Keyed}{x i j g m n:Nat}(K:Ks st z)(M:Mi a.toList b.toList o.toList i j)(hi:i+1<a.size)(hj:j<b.size)(hx:x<=i+j)(h:∀ u,b.toList[j]?=some u->∀ y∈a.toList.drop i,nk u<=nk y):
 wpS (model prog w) A E s (loB a b o i j g m n) (PN a b st x) z:=by
 have lb1:b.toList.length=b.size:=WM;obtain⟨u,hu,iu⟩:=T.gB hj;unfold loB;refine wpS_bind (y7 hu ?_);have M':Mi a.toList b.toList (o.push u).toList i (j+1):=by rw[Xl];exact M.pushB T.hB hu (h u hu)
 by_cases e:j+1=b.size
 ·refine k9 (by simpa using e) ?_;exact wpS_pure ⟨K,.inl ⟨_,_,rfl,T.fin M' (by omega)⟩⟩
 refine l6 (by simpa using e) ?_;obtain⟨v,hv,iv⟩:=T.gA (i:=i) (by omega);refine wpS_bind (y7 hv ?_);refine wpS_bind (EO (K.k.trans hk) iv T.ib (fun p q x y _ h2 _ h3 h4=>T.hB.get h3 h4 h2) (by omega) (by omega) fun k Mk=>?_);have kl:=Mk.le
 have M2:=M'.moreB T.hB k (by omega) fun t x ht hx y hy=>by
  have:=(DU Mk hx (by omega)).1 ht;obtain⟨p,hp,e⟩:=m5 hy;exact XB (XL this) (T.hA.get hv e hp)
 have rest:∀ u',a.toList[i]?=some u'->∀ y∈b.toList.drop (j+1+k),nk u'<=nk y:=fun u' hu' y hy=>by
  rw[hv]at hu';rw[<-oj hu'];obtain⟨p,hp,e⟩:=m5 hy;have pl:=(gM e).1;have e':b.toList[j+1+(p - (j+1))]?=some y:=by rw[show j+1+(p - (j+1))=p by omega];exact e
  exact(DU Mk e' (by omega)).2 (by omega)
 dsimp only;by_cases k0:k>0
 ·refine k9 k0 ?_
  have M3:Mi a.toList b.toList (o.push u++b.extract (j+1) (j+1+k)).toList i (j+1+k):=by
   rw[X7,AI,show j+1+k - (j+1)=k by omega];exact M2
  by_cases e2:j+1+k=b.size
  ·refine k9 (by simpa using e2) ?_;exact wpS_pure ⟨K,.inl ⟨_,_,rfl,T.fin M3 (by omega)⟩⟩
  ·refine l6 (by simpa using e2) ?_;exact MX T K M3 hi (by omega) (by omega) rest
 ·refine l6 k0 ?_;have:k=0:=by omega
  subst this;exact MX T K M' hi (by omega) (by omega) rest
theorem MZ(T:Two a b la){st z:SortSt}(hk:kindOf st=oneType'){o:Array Keyed}{x i j g m n:Nat}(K:Ks st z)(M:Mi a.toList b.toList o.toList i j)(hi:i+1<a.size)(hj:j<b.size)(hx:x<=i+j):
 wpS (model prog w) A E s (loA a b o i j g m n) (PN a b st x) z:=by
 have la1:a.toList.length=a.size:=WM;obtain⟨u,hu,iu⟩:=T.gB hj;unfold loA;refine wpS_bind (wpS_modify ?_);have K:=K.gal g;refine wpS_bind (y7 hu ?_);refine wpS_bind (EO (K.k.trans hk) iu T.ia (fun p q x y _ h2 _ h3 h4=>T.hA.get h3 h4 h2) (by omega) (by omega) fun k Mk=>?_);have kl:=Mk.le;have lt:=T.hlt u (W5 hu)
 have kn:i+k<a.size:=by
  rcases YY (i+k) a.size with z | z
  ·exact z
  ·have e:a.toList[i+(a.size - 1 - i)]?=some la:=by rw[show i+(a.size - 1 - i)=a.size - 1 by omega];exact T.hla
   have:=(Ck Mk e (by omega)).1 (by omega);omega
 have M2:=M.moreA T.hA k (by omega) fun t x ht hx y hy=>by
  have:=(Ck Mk hx (by omega)).1 ht;obtain⟨p,hp,e⟩:=m5 hy;exact XB this (T.hB.get hu e hp)
 have rest:∀ u',b.toList[j]?=some u'->∀ y∈a.toList.drop (i+k),nk u'<=nk y:=fun u' hu' y hy=>by
  rw[hu]at hu';rw[<-oj hu'];obtain⟨p,hp,e⟩:=m5 hy;have pl:=(gM e).1;have e':a.toList[i+(p - i)]?=some y:=by rw[show i+(p - i)=p by omega];exact e
  exact XL ((Ck Mk e' (by omega)).2 (by omega))
 dsimp only;by_cases k0:k>0
 ·refine k9 k0 ?_
  have M3:Mi a.toList b.toList (o++a.extract i (i+k)).toList (i+k) j:=by
   rw[X7,AI,show i+k - i=k by omega];exact M2
  by_cases e2:i+k+1=a.size
  ·refine k9 (by simpa using e2) ?_;exact wpS_pure ⟨K,.inl ⟨_,_,rfl,T.lst M3 e2⟩⟩
  ·refine l6 (by simpa using e2) ?_;refine l6 (by simp;omega) ?_;exact MY T hk K M3 (by omega) hj (by omega) rest
 ·refine l6 k0 ?_;have:k=0:=by omega
  subst this;exact MY T hk K M hi hj hx rest
end
section
variable{prog:Program}{w:World}{A:Around}{E:Value->Shared->Prop}{s:Shared}
theorem Uh{a b:Array Keyed}{la:Keyed}(T:Two a b la){st:SortSt}{Q:Array Keyed->SortSt->Prop}(hk:kindOf st=oneType')(hb0:1<=b.size)(h00:∀ x y,a.toList[0]?=some x->b.toList[0]?=some y->nk y<=nk x)(q:∀ r z,Ks st z->Res a.toList b.toList r.toList->Q r z):wpS (model prog w) A E s (Ug a b) Q st:=by
 have la1:a.toList.length=a.size:=WM;have lb1:b.toList.length=b.size:=WM;have ha0:1<=a.size:=by have:=(gM T.hla).1;omega
 obtain⟨b0,hb,_⟩:=T.gB (i:=0) (by omega)
 have M0:Mi a.toList b.toList (#[b0]:Array Keyed).toList 0 1:=(Mi.nil _ _).pushB T.hB hb fun y hy=>by
  obtain⟨k,_,e⟩:=m5 hy;obtain⟨x,hx,_⟩:=T.gA (i:=0) (by omega);exact XB (h00 x b0 hx hb) (T.hA.get hx e (by omega))
 refine wpS_bind (wpS_lift (wpAny_rule ⟨rfl,?_⟩));refine wpS_bind (y7 hb ?_);refine y4 (fun c1=>?_) fun c1=>?_
 ·exact wpS_pure (q _ _ (Ks.refl st) (T.fin M0 (by simp at c1;omega)))
 refine y4 (fun c2=>?_) fun c2=>?_
 ·exact wpS_pure (q _ _ (Ks.refl st) (T.lst M0 (by simpa using c2)))
 replace c1:¬ 1=b.size:=by simpa using c1
 replace c2:¬ 0+1=a.size:=by simpa using c2
 refine wpS_bind (wpS_get ?_)
 refine wpS_bind (wpS_mono (wpS_forRange (I:=fun x c z=>∃ out i j g,c=(none,out,i,j,g)/\Ks st z/\Mi a.toList b.toList out.toList i j/\i+1<a.size/\j<b.size/\x<=i+j)
  (Q:=fun c z=>∃ r d,c=(some r,d)/\Ks st z/\Res a.toList b.toList r.toList) ?out ?no ⟨#[b0],0,1,_,rfl,Ks.refl st,M0,by omega,by omega,by omega⟩) ?beh)
 case beh=>
  exact fun c z h=>ex2 c h fun r d h=>wpS_pure (q r z h.1 h.2)
 case no=>
  rintro c z ⟨out,i,j,g,rfl,K,M,h1,h2,h3⟩;omega
 case out=>
  refine fun x c z _ hx h=>ex4 c h fun out i j g h=>?_;dsimp only;have K:=h.1;have M:=h.2.1;have h1:=h.2.2.1;have h2:=h.2.2.2.1;have h3:=h.2.2.2.2;clear h
  refine wpS_bind (wpS_mono (wpS_forRange (I:=fun y c z=>∃ out i j m n,c=(none,out,i,j,m,n)/\Ks st z/\Mi a.toList b.toList out.toList i j/\i+1<a.size/\j<b.size/\x+y<=i+j)
   (Q:=fun c z=>Ks st z/\((∃ r d,c=(some r,d)/\Res a.toList b.toList r.toList)\/∃ out i j m n,c=(none,out,i,j,m,n)/\Mi a.toList b.toList out.toList i j/\i+1<a.size/\j<b.size/\x+1<=i+j)) ?one ?none ⟨out,i,j,0,0,rfl,K,M,h1,h2,by omega⟩) ?two)
  case none=>
   rintro c z ⟨out,i,j,m,n,rfl,K,M,h1,h2,h3⟩;omega
  case one=>
   clear h1 h2 h3 M K;refine fun y c z _ hy h=>ex5 c h fun out i j m n h=>?_;dsimp only;have K:=h.1;have M:=h.2.1;have h1:=h.2.2.1;have h2:=h.2.2.2.1;have h3:=h.2.2.2.2;clear h;obtain⟨u,hu,iu⟩:=T.gB h2;obtain⟨v,hv,iv⟩:=T.gA (i:=i) (by omega);refine wpS_bind (y7 hu ?_);refine wpS_bind (y7 hv ?_);refine wpS_bind (JF iu iv (K.k.trans hk) ?_);refine y4 (fun w=>?_) fun w=>?_
   ·replace w:nk u<nk v:=by simpa using w
    refine wpS_bind (y7 hu ?_)
    have M':Mi a.toList b.toList (out.push u).toList i (j+1):=by
     rw[Xl];refine M.pushB T.hB hu fun y hy=>?_;obtain⟨p,hp,e⟩:=m5 hy;exact XB (XL w) (T.hA.get hv e hp)
    refine y4 (fun e=>?_) fun e=>?_
    ·exact wpS_pure ⟨K,.inl ⟨_,_,rfl,T.fin M' (by simp at e;omega)⟩⟩
    replace e:¬ j+1=b.size:=by simpa using e
    refine y4 (fun _=>?_) fun _=>?_
    ·exact wpS_pure ⟨K,.inr ⟨_,_,_,_,_,rfl,M',h1,by omega,by omega⟩⟩
    ·exact wpS_pure ⟨_,_,_,_,_,rfl,K,M',h1,by omega,by omega⟩
   ·replace w:¬ nk u<nk v:=by simpa using w
    refine wpS_bind (y7 hv ?_)
    have M':Mi a.toList b.toList (out.push v).toList (i+1) j:=by
     rw[Xl];refine M.pushA T.hA hv fun y hy=>?_;obtain⟨p,hp,e⟩:=m5 hy;exact XB (Z9.mp w) (T.hB.get hu e hp)
    refine y4 (fun e=>?_) fun e=>?_
    ·exact wpS_pure ⟨K,.inl ⟨_,_,rfl,T.lst M' (by simpa using e)⟩⟩
    replace e:¬ i+1+1=a.size:=by simpa using e
    refine y4 (fun _=>?_) fun _=>?_
    ·exact wpS_pure ⟨K,.inr ⟨_,_,_,_,_,rfl,M',by omega,h2,by omega⟩⟩
    ·exact wpS_pure ⟨_,_,_,_,_,rfl,K,M',by omega,h2,by omega⟩
  case two=>
   clear h1 h2 h3 M K;refine fun c z h=>h.2.elim (fun R=>ex2 c R fun r d R=>wpS_pure ⟨r,_,rfl,h.1,R⟩) fun h'=>ex5 c h' fun out i j m n M=>?_
   ·have K:=h.1;have h1:=M.2.1;have h2:=M.2.2.1;have h3:=M.2.2.2;replace M:=M.1;dsimp only;refine wpS_bind (wpS_lift (wpAny_rule ⟨rfl,?_⟩))
    refine wpS_bind (wpS_mono (wpS_forRange (I:=fun y c z=>∃ o i j g m n,c=(none,o,i,j,g,m,n)/\Ks st z/\Mi a.toList b.toList o.toList i j/\i+1<a.size/\j<b.size/\x+1<=i+j)
     (Q:=Ends a b st (x+1)) ?aa ?bb ⟨_,_,_,_,_,_,rfl,K,M,h1,h2,h3⟩) ?cc)
    case aa=>
     clear h1 h2 h3 M K h;refine fun y c z _ hy h=>ex6 c h fun o i j g m n h=>?_;dsimp only;have K:=h.1;have M:=h.2.1;have h1:=h.2.2.1;have h2:=h.2.2.2.1;have h3:=h.2.2.2.2;refine wpS_mono (Q:=PN a b st (x+1)) ?_ fun r z h=>?_
     ·refine y4 (fun _=>?_) fun _=>?_
      ·exact MZ T hk (g:=g - 1) (m:=m) (n:=n) K M h1 h2 h3
      ·exact MZ T hk (g:=g) (m:=m) (n:=n) K M h1 h2 h3
     ·cases r with
      | done c=>exact h
      | yield c=>exact h
    case bb=>
     rintro c z ⟨o,i,j,g,m,n,rfl,K,M,h1,h2,h3⟩;exact⟨K,.inr ⟨_,_,_,_,_,_,rfl,M,h1,h2,h3⟩⟩
    case cc=>
     refine fun c z h=>h.2.elim (fun R=>ex2 c R fun r d R=>wpS_pure ⟨r,_,rfl,h.1,R⟩) fun h'=>ex6 c h' fun o i j g m n M=>?_;dsimp only;exact wpS_bind (wpS_modify (wpS_pure ⟨o,i,j,_,rfl,h.1.gal _,M⟩))
end
open PySem PyProof.Rows
noncomputable def Ui:Array Keyed->Array Keyed->StateT SortSt Sem (Array Keyed):=sortPriv% PySem.Builtin.mergeHi
structure Mh(A B O:List Keyed)(i j:Nat):Prop where
 pm:O.Perm (A.drop i++B.drop j)
 so:Up O
 la:∀ x∈O,∀ y∈A.take i,nk y<=nk x
 lb:∀ x∈O,∀ y∈B.take j,nk y<=nk x
section
variable{A B O:List Keyed}{i j:Nat}
theorem Up.cons{x:Keyed}{l:List Keyed}(a:Up l)(h:∀ y∈l,nk x<=nk y):Up (x::l):=Xt.mpr ⟨h,a⟩
theorem Mh.pushA(M:Mh A B O (i+1) j)(hA:Up A){x:Keyed}(hx:A[i]?=some x)(h:∀ y∈B.take j,nk y<=nk x):Mh A B (x::O) i j:=by
 have tx:=Av hx;have mx:x∈A.take (i+1):=by rw[tx];simp
 refine⟨?_,M.so.cons fun y hy=>M.la y hy x mx,fun u hu y hy=>?_,fun u hu y hy=>?_⟩
 ·rw[Au hx];exact M.pm.cons x
 ·rcases WN.mp hu with e | hu
  ·rw[e];obtain⟨k,hk,e⟩:=r6 hy;exact hA.get e hx (by omega)
  ·exact M.la u hu y (by rw[tx];exact WQ _ hy)
 ·rcases WN.mp hu with e | hu
  ·rw[e];exact h y hy
  ·exact M.lb u hu y hy
theorem Mh.pushB(M:Mh A B O i (j+1))(hB:Up B){x:Keyed}(hx:B[j]?=some x)(h:∀ y∈A.take i,nk y<=nk x):Mh A B (x::O) i j:=by
 have tx:=Av hx;have mx:x∈B.take (j+1):=by rw[tx];simp
 refine⟨?_,M.so.cons fun y hy=>M.lb y hy x mx,fun u hu y hy=>?_,fun u hu y hy=>?_⟩
 ·rw[Au hx];exact(M.pm.cons x).trans List.perm_middle.symm
 ·rcases WN.mp hu with e | hu
  ·rw[e];exact h y hy
  ·exact M.la u hu y hy
 ·rcases WN.mp hu with e | hu
  ·rw[e];obtain⟨k,hk,e⟩:=r6 hy;exact hB.get e hx (by omega)
  ·exact M.lb u hu y (by rw[tx];exact WQ _ hy)
theorem Mh.moreA(hA:Up A){p:Nat}:∀ k {O:List Keyed},Mh A B O (p+k) j->p+k<=A.length->(∀ t x,p<=t->t<p+k->A[t]?=some x->∀ y∈B.take j,nk y<=nk x)->Mh A B ((A.drop p).take k++O) p j
 | 0,_,M,_,_=>M
 | k+1,_,M,hk,h=>by
   have hx:=W0 (show p+k<A.length by omega);have M1:=Mh.pushA (i:=p+k) M hA hx (h _ _ (by omega) (by omega) hx);have:=Mh.moreA hA k M1 (by omega) fun t x h1 h2=>h t x h1 (by omega);have e:(A.drop p).take (k+1)=(A.drop p).take k++[A[p+k]]:=by rw[Ws,Xg,hx];rfl
   rw[e,WV];exact this
theorem Mh.moreB(hB:Up B){p:Nat}:∀ k {O:List Keyed},Mh A B O i (p+k)->p+k<=B.length->(∀ t x,p<=t->t<p+k->B[t]?=some x->∀ y∈A.take i,nk y<=nk x)->Mh A B ((B.drop p).take k++O) i p
 | 0,_,M,_,_=>M
 | k+1,_,M,hk,h=>by
   have hx:=W0 (show p+k<B.length by omega);have M1:=Mh.pushB (j:=p+k) M hB hx (h _ _ (by omega) (by omega) hx);have:=Mh.moreB hB k M1 (by omega) fun t x h1 h2=>h t x h1 (by omega);have e:(B.drop p).take (k+1)=(B.drop p).take k++[B[p+k]]:=by rw[Ws,Xg,hx];rfl
   rw[e,WV];exact this
theorem Br{l:List Keyed}(h:Up l)(i:Nat):Up (l.take i):=List.Pairwise.sublist (ZC i l) h
theorem RC(A B O:List Keyed)(i j:Nat)(p:O.Perm (A.drop i++B.drop j)):(A.take i++B.take j++O).Perm (A++B):=by
 refine(List.Perm.append_left _ p).trans ?_;rw[WV];refine(List.Perm.append_left _ ?_).trans (l₂:=A.take i++(A.drop i++(B.take j++B.drop j))) ?_
 ·rw[<-WV,<-WV];exact List.Perm.append_right _ Xu
 ·rw[XI,<-WV,XI]
theorem Mh.done(M:Mh A B O i j)(hA:Up A)(hB:Up B)(h:i=0\/j=0):Res A B (A.take i++B.take j++O):=by
 refine⟨RC A B O i j M.pm,?_⟩;refine Up.app (Up.app (Br hA i) (Br hB j) fun x hx y hy=>?_) M.so fun x hx y hy=>?_
 ·rcases h with rfl | rfl
  ·cases hx
  ·cases hy
 ·rcases WJ.mp hx with hx | hx
  ·exact M.la y hy x hx
  ·exact M.lb y hy x hx
theorem Mh.first(M:Mh A B O i j)(hA:Up A)(hB:Up B)(h:∀ x∈B.take j,∀ y∈A,nk x<=nk y):Res A B (B.take j++A.take i++O):=by
 refine⟨(List.Perm.append_right O Xu).trans (RC A B O i j M.pm),?_⟩;refine Up.app (Up.app (Br hB j) (Br hA i) fun x hx y hy=>h x hx y (Xi hy)) M.so fun x hx y hy=>?_;rcases WJ.mp hx with hx | hx
 ·exact M.lb y hy x hx
 ·exact M.la y hy x hx
end
noncomputable abbrev LH:=Option (Array Keyed)×Nat×Nat×Array Keyed×Nat×Nat×Nat
noncomputable abbrev dh(a b o:Array Keyed)(i j:Nat):Array Keyed:=a.extract 0 i++b.extract 0 j++o.reverse
noncomputable abbrev fh(a b o:Array Keyed)(i j:Nat):Array Keyed:=b.extract 0 j++a.extract 0 i++o.reverse
noncomputable def hiC(a b o:Array Keyed)(i j g m k:Nat):StateT SortSt Sem (ForInStep LH):=do
 let x <- elem' a (i - 1)
 if (i - 1 == 0)=true then pure (.done (some (dh a b (o.push x) (i - 1) j),i - 1,j,o.push x,g,m,k))
 else if (decide (m<7)&&decide (k<7))=true then pure (.done (none,i - 1,j,o.push x,g,m,k))
 else pure (.yield (none,i - 1,j,o.push x,g,m,k))
noncomputable def hiB(a b o:Array Keyed)(i j g m n:Nat):StateT SortSt Sem (ForInStep LH):=do
 let x <- elem' b (j - 1)
 if (j - 1 == 1)=true then pure (.done (some (fh a b (o.push x) i (j - 1)),i,j - 1,o.push x,g,m,n)) else do
  let y <- elem' a (i - 1)
  match <- GB true y b 0 (j - 1) (j - 1 - 1) with
  | some p=>(if j - 1 - p>0 then (if (p == 1)=true then pure (.done (some (fh a b (o.push x++(b.extract p (j - 1)).reverse) i p),i,p,o.push x++(b.extract p (j - 1)).reverse,g,m,j - 1 - p))
     else if (p == 0)=true then pure (.done (some (dh a b (o.push x++(b.extract p (j - 1)).reverse) i p),i,p,o.push x++(b.extract p (j - 1)).reverse,g,m,j - 1 - p))
     else hiC a b (o.push x++(b.extract p (j - 1)).reverse) i p g m (j - 1 - p)) else hiC a b (o.push x) i (j - 1) g m (j - 1 - p))
  | _=>pure (.done (some (dh a b (o.push x) i (j - 1)),i,j - 1,o.push x,g,m,n))
noncomputable def hiA(a b o:Array Keyed)(i j g m n:Nat):StateT SortSt Sem (ForInStep LH):=do
 modify fun z=>SortSt.mk' (kindOf z) (arrOf z) (pendingOf z) g (failedOf z)
 let y <- elem' b (j - 1)
 match <- GB false y a 0 i (i - 1) with
 | some p=>(if i - p>0 then (if (p == 0)=true then pure (.done (some (dh a b (o++(a.extract p i).reverse) p j),p,j,o++(a.extract p i).reverse,g,i - p,n))
    else hiB a b (o++(a.extract p i).reverse) p j g (i - p) n) else hiB a b o i j g (i - p) n)
 | _=>pure (.done (some (dh a b o i j),i,j,o,g,m,n))
noncomputable def RD(a b:Array Keyed)(st:SortSt)(x:Nat)(c:LH)(z:SortSt):Prop:=Ks st z/\((∃ r d,c=(some r,d)/\Res a.toList b.toList r.toList)\/∃ i j o g m n,c=(none,i,j,o,g,m,n)/\Mh a.toList b.toList o.toList.reverse i j/\1<=i/\i<=a.size/\2<=j/\j<=b.size/\x+(i+j)<=a.size+b.size)
noncomputable def PP(a b:Array Keyed)(st:SortSt)(x:Nat)(r:ForInStep LH)(z:SortSt):Prop:=match r with
 | .done c=>RD a b st x c z
 | .yield c=>∃ i j o g m n,c=(none,i,j,o,g,m,n)/\Ks st z/\Mh a.toList b.toList o.toList.reverse i j/\1<=i/\i<=a.size/\2<=j/\j<=b.size/\x+(i+j)<=a.size+b.size
structure Tw(a b:Array Keyed)(fb:Keyed):Prop where
 ia:∀ x∈a.toList,Ik x
 ib:∀ x∈b.toList,Ik x
 hA:Up a.toList
 hB:Up b.toList
 hfb:b.toList[0]?=some fb
 hlt:∀ y∈a.toList,nk fb<nk y
section
variable{a b:Array Keyed}{fb:Keyed}(T:Tw a b fb)
include T
theorem Tw.gA{i:Nat}(h:i<a.size):∃ x,a.toList[i]?=some x/\Ik x:=by
 have e:=W0 (show i<a.toList.length by rw[WM];exact h);exact⟨_,e,T.ia _ (W5 e)⟩
theorem Tw.gB{i:Nat}(h:i<b.size):∃ x,b.toList[i]?=some x/\Ik x:=by
 have e:=W0 (show i<b.toList.length by rw[WM];exact h);exact⟨_,e,T.ib _ (W5 e)⟩
theorem Tw.fin{o:Array Keyed}{i j:Nat}(M:Mh a.toList b.toList o.toList.reverse i j)(h:i=0\/j=0):Res a.toList b.toList (dh a b o i j).toList:=by
 unfold dh;rw[X7,X7,AI,AI,YN,YG,YG,Yq,Yq];exact M.done T.hA T.hB h
theorem Tw.fst{o:Array Keyed}{i:Nat}(M:Mh a.toList b.toList o.toList.reverse i 1):Res a.toList b.toList (fh a b o i 1).toList:=by
 unfold fh;rw[X7,X7,AI,AI,YN,YG,YG,Yq,Yq];refine M.first T.hA T.hB fun x hx y hy=>?_
 obtain⟨k,hk,e⟩:=r6 hx;rw[show k=0 by omega,T.hfb]at e;rw[<-oj e];exact XL (T.hlt y hy)
end
theorem CK(o:Array Keyed)(x:Keyed):(o.push x).toList.reverse=x::o.toList.reverse:=by rw[Xl,Z5];rfl
theorem JG(o a:Array Keyed)(p i:Nat):(o++(a.extract p i).reverse).toList.reverse=(a.toList.drop p).take (i - p)++o.toList.reverse:=by rw[X7,Z5,YN,List.reverse_reverse,AI]
section
variable{prog:Program}{w:World}{A:Around}{E:Value->Shared->Prop}{s:Shared}{a b:Array Keyed}{fb:Keyed}
theorem Ma(T:Tw a b fb){st z:SortSt}{o:Array Keyed}{x i j g m k:Nat}(K:Ks st z)(M:Mh a.toList b.toList o.toList.reverse i j)(h1:1<=i)(h2:i<=a.size)(h3:2<=j)(h4:j<=b.size)(hx:x+(i+j)<=a.size+b.size)(h:∀ u,a.toList[i - 1]?=some u->∀ y∈b.toList.take j,nk y<=nk u):
 wpS (model prog w) A E s (hiC a b o i j g m k) (PP a b st x) z:=by
 obtain⟨u,hu,iu⟩:=T.gA (i:=i - 1) (by omega);unfold hiC;refine wpS_bind (y7 hu ?_)
 have M':Mh a.toList b.toList (o.push u).toList.reverse (i - 1) j:=by
  rw[CK];exact Mh.pushA (by rw[show i - 1+1=i by omega];exact M) T.hA hu (h u hu)
 by_cases e:i - 1=0
 ·refine k9 (by simpa using e) ?_;exact wpS_pure ⟨K,.inl ⟨_,_,rfl,T.fin M' (.inl e)⟩⟩
 ·refine l6 (by simpa using e) ?_;by_cases f:(decide (m<7)&&decide (k<7))=true
  ·refine k9 f ?_;exact wpS_pure ⟨K,.inr ⟨_,_,_,_,_,_,rfl,M',by omega,by omega,h3,h4,by omega⟩⟩
  ·refine l6 f ?_;exact wpS_pure ⟨_,_,_,_,_,_,rfl,K,M',by omega,by omega,h3,h4,by omega⟩
theorem Mb(T:Tw a b fb){st z:SortSt}(hk:kindOf st=oneType'){o:Array Keyed}{x i j g m n:Nat}(K:Ks st z)(M:Mh a.toList b.toList o.toList.reverse i j)(h1:1<=i)(h2:i<=a.size)(h3:2<=j)(h4:j<=b.size)(hx:x+(i+j)<=a.size+b.size)(h:∀ u,b.toList[j - 1]?=some u->∀ y∈a.toList.take i,nk y<=nk u):
 wpS (model prog w) A E s (hiB a b o i j g m n) (PP a b st x) z:=by
 have lb1:b.toList.length=b.size:=WM;obtain⟨u,hu,iu⟩:=T.gB (i:=j - 1) (by omega);unfold hiB;refine wpS_bind (y7 hu ?_)
 have M':Mh a.toList b.toList (o.push u).toList.reverse i (j - 1):=by
  rw[CK];exact Mh.pushB (by rw[show j - 1+1=j by omega];exact M) T.hB hu (h u hu)
 by_cases e:j - 1=1
 ·refine k9 (by simpa using e) ?_;rw[e]at M' ⊢;exact wpS_pure ⟨K,.inl ⟨_,_,rfl,T.fst M'⟩⟩
 refine l6 (by simpa using e) ?_;obtain⟨v,hv,iv⟩:=T.gA (i:=i - 1) (by omega);refine wpS_bind (y7 hv ?_);refine wpS_bind (EO (K.k.trans hk) iv T.ib (fun p q x y _ h2 _ h3 h4=>T.hB.get h3 h4 h2) (by omega) (by omega) fun p Mk=>?_);have kl:=Mk.le
 have up:∀ t x,p<=t->t<j - 1->b.toList[t]?=some x->∀ y∈a.toList.take i,nk y<=nk x:=fun t x a1 a2 hx y hy=>by
  obtain⟨c,hc,e⟩:=r6 hy;have:=(DU Mk (t:=t) (by rw[XV];exact hx) a2).2 a1;exact XB (T.hA.get e hv (by omega)) this
 have rest:∀ u',a.toList[i - 1]?=some u'->∀ y∈b.toList.take p,nk y<=nk u':=fun u' hu' y hy=>by
  rw[hv]at hu';rw[<-oj hu'];obtain⟨c,hc,e⟩:=r6 hy;exact XL ((DU Mk (t:=c) (by rw[XV];exact e) (by omega)).1 hc)
 dsimp only;by_cases k0:j - 1 - p>0
 ·refine k9 k0 ?_
  have M3:Mh a.toList b.toList (o.push u++(b.extract p (j - 1)).reverse).toList.reverse i p:=by
   rw[JG];exact Mh.moreB T.hB (j - 1 - p) (by rw[show p+(j - 1 - p)=j - 1 by omega];exact M') (by omega) fun t x a1 a2=>up t x a1 (by omega)
  by_cases e1:p=1
  ·refine k9 (by simpa using e1) ?_;subst e1;exact wpS_pure ⟨K,.inl ⟨_,_,rfl,T.fst M3⟩⟩
  refine l6 (by simpa using e1) ?_;by_cases e2:p=0
  ·refine k9 (by simpa using e2) ?_;exact wpS_pure ⟨K,.inl ⟨_,_,rfl,T.fin M3 (.inr e2)⟩⟩
  refine l6 (by simpa using e2) ?_;exact Ma T K M3 h1 h2 (by omega) (by omega) (by omega) rest
 ·refine l6 k0 ?_;have:p=j - 1:=by omega
  subst this;exact Ma T K M' h1 h2 (by omega) (by omega) (by omega) rest
theorem Mc(T:Tw a b fb){st z:SortSt}(hk:kindOf st=oneType'){o:Array Keyed}{x i j g m n:Nat}(K:Ks st z)(M:Mh a.toList b.toList o.toList.reverse i j)(h1:1<=i)(h2:i<=a.size)(h3:2<=j)(h4:j<=b.size)(hx:x+(i+j)<=a.size+b.size):
 wpS (model prog w) A E s (hiA a b o i j g m n) (PP a b st x) z:=by
 have la1:a.toList.length=a.size:=WM;obtain⟨u,hu,iu⟩:=T.gB (i:=j - 1) (by omega);unfold hiA;refine wpS_bind (wpS_modify ?_);have K:=K.gal g;refine wpS_bind (y7 hu ?_);refine wpS_bind (EO (K.k.trans hk) iu T.ia (fun p q x y _ h2 _ h3 h4=>T.hA.get h3 h4 h2) (by omega) (by omega) fun p Mk=>?_);have kl:=Mk.le
 have up:∀ t x,p<=t->t<i->a.toList[t]?=some x->∀ y∈b.toList.take j,nk y<=nk x:=fun t x a1 a2 hx y hy=>by
  obtain⟨c,hc,e⟩:=r6 hy;have:=(Ck Mk (t:=t) (by rw[XV];exact hx) a2).2 a1;exact XB (T.hB.get e hu (by omega)) (XL this)
 have rest:∀ u',b.toList[j - 1]?=some u'->∀ y∈a.toList.take p,nk y<=nk u':=fun u' hu' y hy=>by
  rw[hu]at hu';rw[<-oj hu'];obtain⟨c,hc,e⟩:=r6 hy;exact(Ck Mk (t:=c) (by rw[XV];exact e) (by omega)).1 hc
 dsimp only;by_cases k0:i - p>0
 ·refine k9 k0 ?_
  have M3:Mh a.toList b.toList (o++(a.extract p i).reverse).toList.reverse p j:=by
   rw[JG];exact Mh.moreA T.hA (i - p) (by rw[show p+(i - p)=i by omega];exact M) (by omega) fun t x a1 a2=>up t x a1 (by omega)
  by_cases e2:p=0
  ·refine k9 (by simpa using e2) ?_;exact wpS_pure ⟨K,.inl ⟨_,_,rfl,T.fin M3 (.inl e2)⟩⟩
  refine l6 (by simpa using e2) ?_;exact Mb T hk K M3 (by omega) (by omega) h3 h4 (by omega) rest
 ·refine l6 k0 ?_;have:p=i:=by omega
  subst this;exact Mb T hk K M h1 h2 h3 h4 hx rest
end
open PySem PyProof.Rows
theorem Mh.nil(A B:List Keyed):Mh A B [] A.length B.length:=⟨by rw[XY,XY];exact .refl _,List.Pairwise.nil,(fun _ h=>nomatch h),fun _ h=>nomatch h⟩
section
variable{prog:Program}{w:World}{A:Around}{E:Value->Shared->Prop}{s:Shared}
theorem Uj{a b:Array Keyed}{fb:Keyed}(T:Tw a b fb){st:SortSt}{Q:Array Keyed->SortSt->Prop}(hk:kindOf st=oneType')(ha0:1<=a.size)(hll:∀ x,a.toList[a.size - 1]?=some x->∀ y∈b.toList,nk y<=nk x)(q:∀ r z,Ks st z->Res a.toList b.toList r.toList->Q r z):wpS (model prog w) A E s (Ui a b) Q st:=by
 have la1:a.toList.length=a.size:=WM;have lb1:b.toList.length=b.size:=WM;have hb0:1<=b.size:=by have:=(gM T.hfb).1;omega
 obtain⟨a0,ha,_⟩:=T.gA (i:=a.size - 1) (by omega)
 have M0:Mh a.toList b.toList (#[a0]:Array Keyed).toList.reverse (a.size - 1) b.size:=by
  refine Mh.pushA (O:=[]) ?_ T.hA ha fun y hy=>hll a0 ha y (Xi hy);have:=Mh.nil a.toList b.toList;rw[la1,lb1]at this;rw[show a.size - 1+1=a.size by omega];exact this
 refine wpS_bind (wpS_lift (wpAny_rule ⟨rfl,?_⟩));refine wpS_bind (y7 ha ?_);refine y4 (fun c1=>?_) fun c1=>?_
 ·exact wpS_pure (q _ _ (Ks.refl st) (T.fin M0 (.inl (by simpa using c1))))
 replace c1:¬ a.size - 1=0:=by simpa using c1
 refine y4 (fun c2=>?_) fun c2=>?_
 ·replace c2:b.size=1:=by simpa using c2
  refine wpS_pure (q _ _ (Ks.refl st) ?_);rw[c2]at M0 ⊢;exact T.fst M0
 replace c2:¬ b.size=1:=by simpa using c2
 refine wpS_bind (wpS_get ?_)
 refine wpS_bind (wpS_mono (wpS_forRange (I:=fun x c z=>∃ i j out g,c=(none,i,j,out,g)/\Ks st z/\Mh a.toList b.toList out.toList.reverse i j/\1<=i/\i<=a.size/\2<=j/\j<=b.size/\x+(i+j)<=a.size+b.size)
  (Q:=fun c z=>∃ r d,c=(some r,d)/\Ks st z/\Res a.toList b.toList r.toList) ?out ?no ⟨a.size - 1,b.size,#[a0],_,rfl,Ks.refl st,M0,by omega,by omega,by omega,by omega,by omega⟩) ?beh)
 case beh=>
  exact fun c z h=>ex2 c h fun r d h=>wpS_pure (q r z h.1 h.2)
 case no=>
  rintro c z ⟨i,j,out,g,rfl,K,M,h1,h2,h3,h4,h5⟩;omega
 case out=>
  refine fun x c z _ hx h=>ex4 c h fun i j out g h=>?_;dsimp only;have K:=h.1;have M:=h.2.1;have h1:=h.2.2.1;have h2:=h.2.2.2.1;have h3:=h.2.2.2.2.1;have h4:=h.2.2.2.2.2.1;have h5:=h.2.2.2.2.2.2;clear h
  refine wpS_bind (wpS_mono (wpS_forRange (I:=fun y c z=>∃ i j out m n,c=(none,i,j,out,m,n)/\Ks st z/\Mh a.toList b.toList out.toList.reverse i j/\1<=i/\i<=a.size/\2<=j/\j<=b.size/\x+y+(i+j)<=a.size+b.size)
   (Q:=fun c z=>Ks st z/\((∃ r d,c=(some r,d)/\Res a.toList b.toList r.toList)\/∃ i j out m n,c=(none,i,j,out,m,n)/\Mh a.toList b.toList out.toList.reverse i j/\1<=i/\i<=a.size/\2<=j/\j<=b.size/\x+1+(i+j)<=a.size+b.size)) ?one ?none ⟨i,j,out,0,0,rfl,K,M,h1,h2,h3,h4,by omega⟩) ?two)
  case none=>
   rintro c z ⟨i,j,out,m,n,rfl,K,M,h1,h2,h3,h4,h5⟩;omega
  case one=>
   clear h1 h2 h3 h4 h5 M K;refine fun y c z _ hy h=>ex5 c h fun i j out m n h=>?_;dsimp only;have K:=h.1;have M:=h.2.1;have h1:=h.2.2.1;have h2:=h.2.2.2.1;have h3:=h.2.2.2.2.1;have h4:=h.2.2.2.2.2.1;have h5:=h.2.2.2.2.2.2;clear h;obtain⟨u,hu,iu⟩:=T.gB (i:=j - 1) (by omega);obtain⟨v,hv,iv⟩:=T.gA (i:=i - 1) (by omega);refine wpS_bind (y7 hu ?_);refine wpS_bind (y7 hv ?_);refine wpS_bind (JF iu iv (K.k.trans hk) ?_);refine y4 (fun w=>?_) fun w=>?_
   ·replace w:nk u<nk v:=by simpa using w
    refine wpS_bind (y7 hv ?_)
    have M':Mh a.toList b.toList (out.push v).toList.reverse (i - 1) j:=by
     rw[CK];refine Mh.pushA (by rw[show i - 1+1=i by omega];exact M) T.hA hv fun y hy=>?_;obtain⟨p,hp,e⟩:=r6 hy;exact XB (T.hB.get e hu (by omega)) (XL w)
    refine y4 (fun e=>?_) fun e=>?_
    ·exact wpS_pure ⟨K,.inl ⟨_,_,rfl,T.fin M' (.inl (by simpa using e))⟩⟩
    replace e:¬ i - 1=0:=by simpa using e
    refine y4 (fun _=>?_) fun _=>?_
    ·exact wpS_pure ⟨K,.inr ⟨_,_,_,_,_,rfl,M',by omega,by omega,h3,h4,by omega⟩⟩
    ·exact wpS_pure ⟨_,_,_,_,_,rfl,K,M',by omega,by omega,h3,h4,by omega⟩
   ·replace w:¬ nk u<nk v:=by simpa using w
    refine wpS_bind (y7 hu ?_)
    have M':Mh a.toList b.toList (out.push u).toList.reverse i (j - 1):=by
     rw[CK];refine Mh.pushB (by rw[show j - 1+1=j by omega];exact M) T.hB hu fun y hy=>?_;obtain⟨p,hp,e⟩:=r6 hy;exact XB (T.hA.get e hv (by omega)) (Z9.mp w)
    refine y4 (fun e=>?_) fun e=>?_
    ·replace e:j - 1=1:=by simpa using e
     rw[e]at M' ⊢;exact wpS_pure ⟨K,.inl ⟨_,_,rfl,T.fst M'⟩⟩
    replace e:¬ j - 1=1:=by simpa using e
    refine y4 (fun _=>?_) fun _=>?_
    ·exact wpS_pure ⟨K,.inr ⟨_,_,_,_,_,rfl,M',h1,h2,by omega,by omega,by omega⟩⟩
    ·exact wpS_pure ⟨_,_,_,_,_,rfl,K,M',h1,h2,by omega,by omega,by omega⟩
  case two=>
   clear h1 h2 h3 h4 h5 M K;refine fun c z h=>h.2.elim (fun R=>ex2 c R fun r d R=>wpS_pure ⟨r,_,rfl,h.1,R⟩) fun h'=>ex5 c h' fun i j out m n M=>?_
   ·have K:=h.1;have h1:=M.2.1;have h2:=M.2.2.1;have h3:=M.2.2.2.1;have h4:=M.2.2.2.2.1;have h5:=M.2.2.2.2.2;replace M:=M.1;dsimp only;refine wpS_bind (wpS_lift (wpAny_rule ⟨rfl,?_⟩))
    refine wpS_bind (wpS_mono (wpS_forRange (I:=fun y c z=>∃ i j o g m n,c=(none,i,j,o,g,m,n)/\Ks st z/\Mh a.toList b.toList o.toList.reverse i j/\1<=i/\i<=a.size/\2<=j/\j<=b.size/\x+1+(i+j)<=a.size+b.size)
     (Q:=RD a b st (x+1)) ?aa ?bb ⟨_,_,_,_,_,_,rfl,K,M,h1,h2,h3,h4,h5⟩) ?cc)
    case aa=>
     clear h1 h2 h3 h4 h5 M K h;refine fun y c z _ hy h=>ex6 c h fun i j o g m n h=>?_;dsimp only;have K:=h.1;have M:=h.2.1;have h1:=h.2.2.1;have h2:=h.2.2.2.1;have h3:=h.2.2.2.2.1;have h4:=h.2.2.2.2.2.1;have h5:=h.2.2.2.2.2.2;clear h;refine wpS_mono (Q:=PP a b st (x+1)) ?_ fun r z h=>?_
     ·refine y4 (fun _=>?_) fun _=>?_
      ·exact Mc T hk (g:=g - 1) (m:=m) (n:=n) K M h1 h2 h3 h4 h5
      ·exact Mc T hk (g:=g) (m:=m) (n:=n) K M h1 h2 h3 h4 h5
     ·cases r with
      | done c=>exact h
      | yield c=>exact h
    case bb=>
     exact fun c z h=>ex6 c h fun i j o g m n h=>⟨h.1,.inr ⟨_,_,_,_,_,_,rfl,h.2⟩⟩
    case cc=>
     refine fun c z h=>h.2.elim (fun R=>ex2 c R fun r d R=>wpS_pure ⟨r,_,rfl,h.1,R⟩) fun h'=>ex6 c h' fun i j o g m n M=>?_;dsimp only;exact wpS_bind (wpS_modify (wpS_pure ⟨i,j,o,_,rfl,h.1.gal _,M⟩))
end
open PySem PyProof.Rows
theorem So(i:Nat):mergeAt' i=(do
 let s <- get
 let (some (sa,na,power),some (sb,nb,_)):=((pendingOf s)[i]?,(pendingOf s)[i+1]?) | unsupported "internal:list.sort.pending"
 set (setPending s (((pendingOf s).setIfInBounds i (sa,na+nb,power)).eraseIdxIfInBounds (i+1)))
 let some k <- GB false (<- elem' (arrOf s) sb) (arrOf s) sa na 0 | return false
 let (sa,na):=(sa+k,na - k)
 if na == 0 then return true
 let some nb <- GB true (<- elem' (arrOf s) (sa+na - 1)) (arrOf s) sb nb (nb - 1) | return false
 if nb == 0 then return true
 let x:=(arrOf s).extract sa sb
 let y:=(arrOf s).extract sb (sb+nb)
 let merged <- if na<=nb then Ug x y else Ui x y
 modify fun s=>setArr s (merged.toList.zipIdx.foldl (fun a (p,j)=>a.setIfInBounds (sa+j) p) (arrOf s))
 return (failedOf (<- get)).isNone):=rfl
theorem JH(sa:Nat):∀(m M:List Keyed) (o:Nat) (P S:List Keyed) (a:Array Keyed),a.toList=P++(M++S)->m.length=M.length->P.length=sa+o->
 ((m.zipIdx o).foldl (fun a (x:Keyed×Nat)=>a.setIfInBounds (sa+x.2) x.1) a).toList=P++(m++S)
 | [],[],_,_,_,_,e,_,_=>e
 | p::m,x::M,o,P,S,a,e,hl,hp=>by
   rw[List.zipIdx_cons,ZQ]
   have:=JH sa m M (o+1) (P++[p]) S (a.setIfInBounds (sa+o) p) (by
    rw[Array.toList_setIfInBounds,e,<-hp,List.set_append_right _ _ (WB _),Nat.sub_self,WV];rfl) (by simpa using hl) (by rw[W3,hp];rfl)
   rw[this,WV];rfl
 | [],_::_,_,_,_,_,_,h,_=>by simp at h
 | _::_,[],_,_,_,_,_,h,_=>by simp at h
structure Ru(L1 L2:List Keyed)(st:SortSt):Prop where
 k:kindOf st=oneType'
 f:failedOf st=none
 a:(arrOf st).toList=L1++L2
 u1:Up L1
 u2:Up L2
 ik:∀ x∈L1++L2,Ik x
structure Fi(L:List Keyed)(st:SortSt):Prop where
 f:failedOf st=none
 a:(arrOf st).toList.Perm L
 u:Up (arrOf st).toList
 p:(pendingOf st).size<=1
section
variable{prog:Program}{w:World}{A:Around}{E:Value->Shared->Prop}{s:Shared}
theorem Sq{L1 L2:List Keyed}{st:SortSt}{pw p2:Nat}{Q:Bool->SortSt->Prop}(R:Ru L1 L2 st)(h1:1<=L1.length)(h2:1<=L2.length)(hp:pendingOf st=#[(0,L1.length,pw),(L1.length,L2.length,p2)])
 (q:∀ z,Fi (L1++L2) z->Q true z):wpS (model prog w) A E s (mergeAt' 0) Q st:=by
 rw[So];refine wpS_bind (wpS_get ?_);have e1:(pendingOf st)[0]?=some (0,L1.length,pw):=by rw[hp];rfl
 have e2:(pendingOf st)[0+1]?=some (L1.length,L2.length,p2):=by rw[hp];rfl
 simp only[e1,e2];refine wpS_bind (wpS_modify (f:=fun _=>setPending st (((pendingOf st).setIfInBounds 0 (0,L1.length+L2.length,pw)).eraseIdxIfInBounds (0+1))) ?_);generalize hz:setPending st (((pendingOf st).setIfInBounds 0 (0,L1.length+L2.length,pw)).eraseIdxIfInBounds (0+1))=z0;have zk:kindOf z0=oneType':=by rw[<-hz];exact R.k
 have za:arrOf z0=arrOf st:=by rw[<-hz]
 have zf:failedOf z0=none:=by rw[<-hz];exact R.f
 have zp:(pendingOf z0).size<=1:=by
  rw[<-hz];show(((pendingOf st).setIfInBounds 0 (0,L1.length+L2.length,pw)).eraseIdxIfInBounds (0+1)).size<=1;rw[hp];simp[Array.eraseIdxIfInBounds]
 have ll:(arrOf st).toList.length=L1.length+L2.length:=by rw[R.a,W3]
 have ls:(arrOf st).size=L1.length+L2.length:=by rw[<-WM];exact ll
 have gA:∀{i x},L1[i]?=some x->(arrOf st).toList[i]?=some x:=fun{i x} h=>by
  rw[R.a,WD (gM h).1];exact h
 have gB:∀{i x},L2[i]?=some x->(arrOf st).toList[L1.length+i]?=some x:=fun{i x} h=>by
  rw[R.a,Wh (by omega),show L1.length+i - L1.length=i by omega];exact h
 have gA':∀{i x},i<L1.length->(arrOf st).toList[i]?=some x->L1[i]?=some x:=fun{i x} h e=>by
  rw[R.a,WD h]at e;exact e
 have gB':∀{i x},L1.length<=i->(arrOf st).toList[i]?=some x->L2[i - L1.length]?=some x:=fun{i x} h e=>by
  rw[R.a,Wh h]at e;exact e
 have ik:∀ x∈(arrOf st).toList,Ik x:=fun x hx=>R.ik x (by rw[<-R.a];exact hx);have hb0:=W0 (show 0<L2.length by omega);have hal:=W0 (show L1.length - 1<L1.length by omega);generalize L2[0]=b0 at hb0;generalize L1[L1.length - 1]=al at hal;have ib0:=ik b0 (W5 (gB hb0));have ial:=ik al (W5 (gA hal));have whole:(∀ x∈L1,∀ y∈L2,nk x<=nk y)->Fi (L1++L2) z0:=fun h=>⟨zf,by rw[za,R.a],by rw[za,R.a];exact R.u1.app R.u2 h,zp⟩
 refine wpS_bind (y7 (by have:=gB hb0;rwa [Ze]at this) ?_);refine wpS_bind (EO zk ib0 ik (fun i j x y _ a1 a2 a3 a4=>R.u1.get (gA' (by omega) a3) (gA' (by omega) a4) a1) (by omega) (by omega) fun k Mk=>?_);have kl:=Mk.le;have fy:∀ t x,L1[t]?=some x->(t<k->nk x<=nk b0)/\(k<=t->nk b0<nk x):=fun t x hx=>Ck Mk (t:=t) (by rw[XV];exact gA hx) (gM hx).1;dsimp only;by_cases c1:L1.length - k=0
 ·refine k9 (by simpa using c1) ?_;refine wpS_pure (q _ (whole fun x hx y hy=>?_));obtain⟨i,hi⟩:=WW hx;obtain⟨j,hj⟩:=WW hy;have:=(gM hi).1;exact XB ((fy i x hi).1 (by omega)) (R.u2.get hb0 hj (by omega))
 refine l6 (by simpa using c1) ?_;refine wpS_bind (y7 (by rw[show 0+k+(L1.length - k) - 1=L1.length - 1 by omega];exact gA hal) ?_);refine wpS_bind (EO zk ial ik (fun i j x y a0 a1 a2 a3 a4=>R.u2.get (gB' (by omega) a3) (gB' (by omega) a4) (by omega)) (by omega) (by omega) fun m Mm=>?_);have ml:=Mm.le;have sy:∀ t x,L2[t]?=some x->(t<m->nk x<nk al)/\(m<=t->nk al<=nk x):=fun t x hx=>DU Mm (t:=t) (gB hx) (gM hx).1;dsimp only;by_cases c2:m=0
 ·refine k9 (by simpa using c2) ?_;refine wpS_pure (q _ (whole fun x hx y hy=>?_));obtain⟨i,hi⟩:=WW hx;obtain⟨j,hj⟩:=WW hy;have:=(gM hi).1;exact XB (R.u1.get hi hal (by omega)) ((sy j y hj).2 (by omega))
 refine l6 (by simpa using c2) ?_
 have ex:((arrOf st).extract (0+k) L1.length).toList=L1.drop k:=by
  rw[AI,R.a,XV,List.drop_append_of_le_length kl,Xj (by rw[Wy];exact WB _),Xb (by rw[Wy];exact WB _)]
 have ey:((arrOf st).extract L1.length (L1.length+m)).toList=L2.take m:=by
  rw[AI,R.a,List.drop_left,show L1.length+m - L1.length=m by omega]
 have sx:((arrOf st).extract (0+k) L1.length).size=L1.length - k:=by rw[<-WM,ex,Wy]
 have sY:((arrOf st).extract L1.length (L1.length+m)).size=m:=by rw[<-WM,ey,WY];omega
 generalize (arrOf st).extract (0+k) L1.length=x at ex sx ⊢;generalize (arrOf st).extract L1.length (L1.length+m)=y at ey sY ⊢;have ia:∀ u∈x.toList,Ik u:=fun u hu=>R.ik u (WQ _ (Y8 (by rw[<-ex];exact hu)));have ib:∀ u∈y.toList,Ik u:=fun u hu=>R.ik u (Wd _ (Xi (by rw[<-ey];exact hu)));have hA:Up x.toList:=by rw[ex];exact D7 R.u1 k
 have hB:Up y.toList:=by rw[ey];exact Br R.u2 m
 have xa:x.toList[x.size - 1]?=some al:=by rw[ex,Xg,sx,show k+(L1.length - k - 1)=L1.length - 1 by omega];exact hal
 have yb:y.toList[0]?=some b0:=by rw[ey,Yc,if_pos (by omega)];exact hb0
 have lt1:∀ u∈y.toList,nk u<nk al:=fun u hu=>by
  rw[ey]at hu;obtain⟨i,hi,e⟩:=r6 hu;exact(sy i u e).1 hi
 have lt2:∀ u∈x.toList,nk b0<nk u:=fun u hu=>by
  rw[ex]at hu;obtain⟨i,hi,e⟩:=m5 hu;exact(fy i u e).2 hi
 have fin:∀(r:Array Keyed) (z:SortSt),Ks z0 z->Res x.toList y.toList r.toList->Q true (setArr z (r.toList.zipIdx.foldl (fun a (p:Keyed×Nat)=>a.setIfInBounds (0+k+p.2) p.1) (arrOf z))):=fun r z K Rs=>by
  have pr:=Rs.1;have ur:=Rs.2;rw[ex,ey]at pr;have lr:r.toList.length=(L1.drop k++L2.take m).length:=pr.length_eq
  have ez:(arrOf z).toList=L1.take k++((L1.drop k++L2.take m)++L2.drop m):=by
   rw[K.a,za,R.a,WV,XI,<-WV,XI]
  have bk:=JH (0+k) r.toList (L1.drop k++L2.take m) 0 (L1.take k) (L2.drop m) (arrOf z) ez lr (by rw[WY];omega);have mr:∀ u∈r.toList,u∈L1.drop k\/u∈L2.take m:=fun u hu=>WJ.mp (pr.mem_iff.mp hu);refine q _ ⟨K.f.trans zf,?_,?_,by show(pendingOf z).size<=1;rw[K.p];exact zp⟩
  ·show(r.toList.zipIdx.foldl (fun a (p:Keyed×Nat)=>a.setIfInBounds (0+k+p.2) p.1) (arrOf z)).toList.Perm _;rw[bk];refine((pr.append_right (L2.drop m)).append_left (L1.take k)).trans ?_;rw[<-ez,K.a,za,R.a]
  ·show Up (r.toList.zipIdx.foldl (fun a (p:Keyed×Nat)=>a.setIfInBounds (0+k+p.2) p.1) (arrOf z)).toList;rw[bk];refine(Br R.u1 k).app (ur.app (D7 R.u2 m) ?_) ?_
   ·intro u hu v hv;obtain⟨j,hj,ej⟩:=m5 hv;rcases mr u hu with h | h
    ·obtain⟨i,hi,ei⟩:=m5 h;have:=(gM ei).1;exact XB (R.u1.get ei hal (by omega)) ((sy j v ej).2 hj)
    ·obtain⟨i,hi,ei⟩:=r6 h;exact R.u2.get ei ej (by omega)
   ·intro u hu v hv;obtain⟨i,hi,ei⟩:=r6 hu;have a1:=(fy i u ei).1 hi;rcases WJ.mp hv with hv | hv
    ·rcases mr v hv with h | h
     ·obtain⟨j,hj,ej⟩:=m5 h;exact R.u1.get ei ej (by omega)
     ·obtain⟨j,hj,ej⟩:=r6 h;exact XB a1 (R.u2.get hb0 ej (by omega))
    ·obtain⟨j,hj,ej⟩:=m5 hv;exact XB a1 (R.u2.get hb0 ej (by omega))
 have tail:∀(r:Array Keyed) (z:SortSt),Ks z0 z->Res x.toList y.toList r.toList->wpS (model prog w) A E s (do
  modify fun s=>setArr s (r.toList.zipIdx.foldl (fun a (p,j)=>a.setIfInBounds (0+k+j) p) (arrOf s))
  return (failedOf (<- get)).isNone) Q z:=fun r z K Rs=>by
  refine wpS_bind (wpS_modify (wpS_bind (wpS_get (wpS_pure ?_))));have:=fin r z K Rs;have e:(failedOf z).isNone=true:=by rw[K.f,zf];rfl
  show Q (failedOf z).isNone _;rw[e];exact this
 by_cases c3:L1.length - k<=m
 ·refine k9 c3 ?_;refine wpS_bind (Uh (la:=al) ⟨ia,ib,hA,hB,xa,lt1⟩ zk (by omega) (fun u v a1 a2=>?_) fun r z K Rs=>tail r z K Rs);rw[yb]at a2;rw[<-oj a2];exact XL (lt2 u (W5 a1))
 ·refine l6 c3 ?_;refine wpS_bind (Uj (fb:=b0) ⟨ia,ib,hA,hB,yb,lt2⟩ zk (by omega) (fun u a1 v hv=>?_) fun r z K Rs=>tail r z K Rs);rw[xa]at a1;rw[<-oj a1];exact XL (lt1 v hv)
end
open PySem PyProof.Rows
theorem JI{xs:Array Keyed}{i:Nat}{x:Keyed}(h:xs.toList[i]?=some x):K xs i=nk x:=by
 rw[XA]at h;unfold K;rw[h];rfl
theorem RE{xs:Array Keyed}{lo k:Nat}(h:Sg xs lo k):Up ((xs.toList.drop lo).take k):=by
 refine Wt.mpr fun i j hi hj hij=>?_;have a1:=W0 hi;have a2:=W0 hj;have jk:j<k:=by rw[WY]at hj;omega
 rw[Yc,if_pos (by omega),Xg]at a1 a2;rw[<-JI a1,<-JI a2];exact h i j (by omega) jk
theorem Uk{xs:Array Keyed}(h:Up xs.toList):SortedTo xs xs.size:=fun i j hij hj=>by
 have a1:=W0 (show i<xs.toList.length by rw[WM];omega);have a2:=W0 (show j<xs.toList.length by rw[WM];omega);rw[JI a1,JI a2];exact h.get a1 a2 hij
theorem Sg.pre{xs ys:Array Keyed}{n:Nat}(h:Sg xs 0 n)(e:∀ i,i<n->ys[i]?=xs[i]?):Sg ys 0 n:=fun i j hij hj=>by
 have k:∀ i,i<n->K ys (0+i)=K xs (0+i):=fun i hi=>by unfold K;rw[XV,e i hi]
 rw[k i (by omega),k j hj];exact h i j hij hj
structure Lv(a₀:Array Keyed)(st:SortSt):Prop where
 perm:(arrOf st).Perm a₀
 kind:kindOf st=oneType'
 failed:failedOf st=none
 runs:((pendingOf st).size<=1/\SortedTo (arrOf st) a₀.size)\/∃ n1 pw,1<=n1/\n1<a₀.size/\pendingOf st=#[(0,n1,pw),(n1,a₀.size - n1,0)]/\Sg (arrOf st) 0 n1/\Sg (arrOf st) n1 (a₀.size - n1)
section
variable{prog:Program}{w:World}{A:Around}{E:Value->Shared->Prop}{s:Shared}{a₀:Array Keyed}
theorem Lv.one{st:SortSt}(h:Sb a₀ a₀ 0 #[] st)(g:Sg (arrOf st) 0 a₀.size):Lv a₀ (setPending st ((pendingOf st).push (0,a₀.size,0))):=
 ⟨h.perm,h.kind,h.failed,.inl ⟨by show((pendingOf st).push _).size<=1;rw[h.pend];exact WB 1,fun i j hij hj=>by have:=g i j hij hj;rwa [XV,XV]at this⟩⟩
theorem Md{st:SortSt}{Q:Bool->SortSt->Prop}(h0:IntKeys a₀){n1 pw:Nat}(h1:1<=n1)(h2:n1<a₀.size)(L:Lv a₀ st)(hp:pendingOf st=#[(0,n1,pw),(n1,a₀.size - n1,0)])(g1:Sg (arrOf st) 0 n1)(g2:Sg (arrOf st) n1 (a₀.size - n1))
 (q:∀ z,(arrOf z).Perm a₀->failedOf z=none->SortedTo (arrOf z) a₀.size->(pendingOf z).size<=1->Q true z):wpS (model prog w) A E s (mergeAt' 0) Q st:=by
 have sz:(arrOf st).toList.length=a₀.size:=by rw[WM];exact L.perm.size_eq
 have l1:((arrOf st).toList.take n1).length=n1:=by rw[WY];omega
 have l2:((arrOf st).toList.drop n1).length=a₀.size - n1:=by rw[Wy];omega
 have e:=XI n1 (arrOf st).toList;refine Sq (L1:=(arrOf st).toList.take n1) (L2:=(arrOf st).toList.drop n1) (pw:=pw) (p2:=0) ⟨L.kind,L.failed,e.symm,?_,?_,?_⟩ (by omega) (by omega) (by rw[l1,l2];exact hp) fun z F=>?_
 ·have:=RE g1;rwa [YG]at this
 ·have:=RE g2;rwa [Xb (by omega)]at this
 ·intro x hx;rw[e]at hx;exact h0 x (L.perm.toList.mem_iff.mp hx)
 ·have pm:(arrOf z).toList.Perm a₀.toList:=by have:=F.a;rw[e]at this;exact this.trans L.perm.toList
  have pz:(arrOf z).Perm a₀:=Array.perm_iff_toList_perm.mpr pm;have:=Uk F.u;rw[pz.size_eq]at this;exact q z pz F.f this F.p
theorem PQ{st:SortSt}{Q:Unit->SortSt->Prop}(h0:IntKeys a₀)(hB:SBase a₀ st)(h64:64<=a₀.size)(h128:a₀.size<128)
 (h:∀ st',(arrOf st').Perm a₀->failedOf st'=none->SortedTo (arrOf st') a₀.size->Q () st'):wpS (model prog w) A E s sortRuns' Q st:=by
 rw[sortRuns'_eq];refine wpS_bind (wpS_get ?_);dsimp only
 obtain⟨mr,hmr,m1,m2⟩:∃ mr,minRun' a₀.size a₀.size 0=mr/\a₀.size<=2 * mr/\1<=mr/\mr<a₀.size:=by
  refine⟨a₀.size / 2+max 0 (a₀.size % 2),?_,by omega,by omega,by omega⟩;obtain⟨f,hf⟩:∃ f,a₀.size=f+1+1:=⟨a₀.size - 2,by omega⟩
  have:minRun' (f+1+1) a₀.size 0=a₀.size / 2+max 0 (a₀.size % 2):=by rw[minRun'_succ,if_neg (by omega),minRun'_succ,if_pos (by omega)]
  rwa [<-hf]at this
 simp only[hB.size,hmr];have S0:Sb a₀ a₀ 0 #[] st:=⟨hB.perm,hB.kind,hB.failed,hB.pend,fun i hi=>by omega⟩
 refine wpS_bind (wpS_mono (wpS_forRange
  (I:=fun x c z=>(x=0/\c=(none,0)/\Sb a₀ a₀ 0 #[] z)\/(x=1/\∃ n1,c=(none,n1)/\mr<=n1/\n1<a₀.size/\Sb a₀ (arrOf z) n1 #[(0,n1,0)] z/\Sg (arrOf z) 0 n1)\/(1<=x/\c=(none,a₀.size)/\Lv a₀ z))
  (Q:=fun c z=>c=(none,a₀.size)/\Lv a₀ z) ?step ?fin (.inl ⟨rfl,rfl,S0⟩)) ?post)
 case fin=>
  rintro c z (⟨hx,_,_⟩ | ⟨hx,_⟩ | ⟨_,hc,hD⟩)
  ·omega
  ·omega
  ·exact⟨hc,hD⟩
 case step=>
  rintro x c z _ hx (⟨rfl,rfl,hB'⟩ | ⟨rfl,n1,rfl,hn1,hn2,hB',g1⟩ | ⟨hx1,rfl,hD⟩)
  ·dsimp only;refine l6 (by omega) ?_
   have go:∀ n z,Sb a₀ a₀ 0 #[] z->mr<=n->n<=a₀.size->Sg (arrOf z) 0 n->wpS (model prog w) A E s (do
    modify fun s=>setPending s ((pendingOf s).push (0,n,0))
    pure (ForInStep.yield ((none:Option Unit),0+n))) (fun r st'=>match r with
    | .done b=>b=(none,a₀.size)/\Lv a₀ st'
    | .yield b=>(0+1=0/\b=(none,0)/\Sb a₀ a₀ 0 #[] st')\/(0+1=1/\∃ n1,b=(none,n1)/\mr<=n1/\n1<a₀.size/\Sb a₀ (arrOf st') n1 #[(0,n1,0)] st'/\Sg (arrOf st') 0 n1)\/(1<=0+1/\b=(none,a₀.size)/\Lv a₀ st')) z:=fun n z S a1 a2 g=>by
    refine wpS_bind (wpS_modify (wpS_pure ?_));by_cases e:n=a₀.size
    ·subst e;exact .inr (.inr ⟨by omega,by rw[XV],Lv.one S g⟩)
    ·exact .inr (.inl ⟨rfl,n,by rw[XV],a1,by omega,⟨S.perm,S.kind,S.failed,by show(pendingOf z).push _=_;rw[S.pend];rfl,fun _ _=>rfl⟩,g⟩)
   refine wpS_bind (MV h0 (by omega) (by omega) hB' fun m z2 S2 a1 a2 g2=>?_);dsimp only;by_cases hlt:m<mr
   ·refine k9 hlt ?_;refine wpS_bind (wpS_lift (wpAny_rule ⟨rfl,?_⟩));refine wpS_bind (MS h0 (by omega) (by omega) S2 g2 fun z3 S3 g3=>?_);rw[if_neg (by decide)];refine wpS_bind (wpS_get ?_);have hb:(pendingOf z3).back?=none:=by rw[S3.pend];rfl
    rw[hb];dsimp only;exact go _ z3 S3 (by omega) (by omega) g3
   ·refine l6 hlt ?_;refine wpS_bind (wpS_get ?_);have hb:(pendingOf z2).back?=none:=by rw[S2.pend];rfl
    rw[hb];dsimp only;exact go _ z2 S2 (by omega) (by omega) g2
  ·dsimp only;refine l6 (by omega) ?_;refine wpS_bind (MV h0 (by omega) (by omega) hB' fun m z2 S2 a1 a2 g2=>?_);dsimp only;by_cases hlt:m<mr
   ·refine k9 hlt ?_;refine wpS_bind (wpS_lift (wpAny_rule ⟨rfl,?_⟩));refine wpS_bind (MS h0 (by omega) (by omega) S2 g2 fun z3 S3 g3=>?_);rw[if_neg (by decide)];refine wpS_bind (wpS_get ?_);have hb:(pendingOf z3).back?=some (0,n1,0):=by rw[S3.pend];rfl
    rw[hb];dsimp only;have e:min (a₀.size - n1) mr=a₀.size - n1:=by omega
    refine wpS_bind (wpS_mono (wpS_forRange (I:=fun _ c z''=>z''=z3/\c=(none,())) (Q:=fun c z''=>z''=z3/\c=(none,())) ?_ (fun _ _ hh=>hh) ⟨rfl,rfl⟩) ?_)
    ·rintro y c z'' _ _ ⟨rfl,rfl⟩;refine wpS_bind (wpS_get ?_);rw[if_neg (by rw[S3.pend];exact XZ 1)];exact wpS_pure ⟨rfl,rfl⟩
    ·rintro c z'' ⟨rfl,rfl⟩;refine wpS_bind (wpS_modify (wpS_bind (wpS_modify (wpS_pure ?_))));refine .inr (.inr ⟨by omega,by rw[e,show n1+(a₀.size - n1)=a₀.size by omega],S3.perm,S3.kind,S3.failed,.inr ⟨n1,power' a₀.size (2 * 0+n1) (2 * 0+n1+n1+min (a₀.size - n1) mr) a₀.size,by omega,hn2,?_,g1.pre S3.pre,by rw[<-e];exact g3⟩⟩);show((pendingOf _).modify ((pendingOf _).size - 1) _).push (n1,min (a₀.size - n1) mr,0)=_;rw[S3.pend];generalize power' a₀.size (2 * 0+n1) (2 * 0+n1+n1+min (a₀.size - n1) mr) a₀.size=pw;rw[e];rfl
   ·refine l6 hlt ?_;refine wpS_bind (wpS_get ?_);have hb:(pendingOf z2).back?=some (0,n1,0):=by rw[S2.pend];rfl
    rw[hb];dsimp only;have e:m=a₀.size - n1:=by omega
    refine wpS_bind (wpS_mono (wpS_forRange (I:=fun _ c z''=>z''=z2/\c=(none,())) (Q:=fun c z''=>z''=z2/\c=(none,())) ?_ (fun _ _ hh=>hh) ⟨rfl,rfl⟩) ?_)
    ·rintro y c z'' _ _ ⟨rfl,rfl⟩;refine wpS_bind (wpS_get ?_);rw[if_neg (by rw[S2.pend];exact XZ 1)];exact wpS_pure ⟨rfl,rfl⟩
    ·rintro c z'' ⟨rfl,rfl⟩;refine wpS_bind (wpS_modify (wpS_bind (wpS_modify (wpS_pure ?_))));refine .inr (.inr ⟨by omega,by rw[e,show n1+(a₀.size - n1)=a₀.size by omega],S2.perm,S2.kind,S2.failed,.inr ⟨n1,power' a₀.size (2 * 0+n1) (2 * 0+n1+n1+m) a₀.size,by omega,hn2,?_,g1.pre S2.pre,by rw[<-e];exact g2⟩⟩);show((pendingOf _).modify ((pendingOf _).size - 1) _).push (n1,m,0)=_;rw[S2.pend];generalize power' a₀.size (2 * 0+n1) (2 * 0+n1+n1+m) a₀.size=pw;rw[e];rfl
  ·dsimp only;refine k9 (WB _) ?_;exact wpS_pure ⟨rfl,hD⟩
 case post=>
  rintro c z ⟨rfl,hD⟩;dsimp only
  refine wpS_bind (wpS_mono (wpS_forRange (I:=fun x c z=>c=(none,())/\((x=0/\Lv a₀ z)\/((arrOf z).Perm a₀/\failedOf z=none/\SortedTo (arrOf z) a₀.size/\(pendingOf z).size<=1)))
   (Q:=fun c z=>c=(none,())/\(arrOf z).Perm a₀/\failedOf z=none/\SortedTo (arrOf z) a₀.size) ?one ?two ⟨rfl,.inl ⟨rfl,hD⟩⟩) ?beh)
  case two=>
   rintro c z ⟨rfl,⟨e,_⟩ | ⟨b1,b2,b3,b4⟩⟩
   ·omega
   ·exact⟨rfl,b1,b2,b3⟩
  case beh=>
   rintro c z ⟨rfl,b1,b2,b3⟩;exact wpS_pure (h _ b1 b2 b3)
  case one=>
   have stop:∀ z,(arrOf z).Perm a₀->failedOf z=none->SortedTo (arrOf z) a₀.size->(pendingOf z).size<=1->True:=fun _ _ _ _ _=>trivial;rintro x c z _ _ ⟨rfl,⟨rfl,L⟩ | ⟨b1,b2,b3,b4⟩⟩
   ·refine wpS_bind (wpS_get ?_);rcases L.runs with⟨r1,r2⟩ | ⟨n1,pw,r1,r2,r3,r4,r5⟩
    ·refine k9 r1 ?_;exact wpS_pure ⟨rfl,L.perm,L.failed,r2⟩
    ·rw[if_neg (by rw[r3];exact(by decide:¬ (2:Nat)<=1))];have ei:(pendingOf z).size - 2=0:=by rw[r3];rfl
     rw[ei];refine wpS_bind (Md h0 r1 r2 L r3 r4 r5 fun z' c1 c2 c3 c4=>?_);exact wpS_pure ⟨rfl,.inr ⟨c1,c2,c3,c4⟩⟩
   ·refine wpS_bind (wpS_get ?_);refine k9 b4 ?_;exact wpS_pure ⟨rfl,b1,b2,b3⟩
end
open PySem PyProof.Rows
section
variable{prog:Program}{w:World}{A:Around}{E:Value->Shared->Prop}{s:Shared}
theorem Ka{a:Addr}{vs:List Value}{ns:List Int}{n:Nat}{P:Fin->Shared->Prop}(ho:s.heap.get? a=some (seqObj "list" vs.toArray n))(hI:IntsAre vs ns)(h64:64<=vs.length)(h128:vs.length<128)
 (h:∀(out:Array Value) (ns':List Int),IntsAre out.toList ns'->ns'.Perm ns->ns'.Pairwise (·<=·)->P (.done (.ret .none)) {s with heap:=sortedHeap s.heap a vs out}):
 wpAny (model prog w) A (Builtin.«list.sort» ⟨[.ref a],[]⟩) P E s:=by
 rw[list_sort_plain];refine wpAny_bind (listItems_at ho rfl (wpAny_bind (listUpdate_at ho rfl ?_)));obtain⟨e1,ho1⟩:∃ e1,(s.heap.update a (Obj.mapSeq fun _=>#[])).get? a=some (seqObj "list" #[] e1):=⟨_,get?_update_seq ho (fun _=>#[])⟩
 refine wpAny_bind (seqEpoch_at ho1 rfl (wpAny_bind (wpAny_newTuple (wpAny_bind (wpAny_newList (wpAny_holding ?_))))))
 have ho6:(((s.heap.update a (Obj.mapSeq fun _=>#[])).push (seqObj "tuple" vs.toArray 0)).push (seqObj "list" #[] 0)).get? a=some (seqObj "list" #[] e1):=
  W8 _ (W8 _ ho1)
 show wpAny (model prog w) A _ P E {s with heap:=((s.heap.update a (Obj.mapSeq fun _=>#[])).push (seqObj "tuple" vs.toArray 0)).push (seqObj "list" #[] 0)};dsimp only;have c:¬ vs.toArray.size<2:=by simp;omega
 rw[if_neg c,if_neg c]
 match vs,hI,h64 with
 | v::u::vs,hI,h64=>
   rw[keyKind_ints hI];refine wpAny_bind (wpAny_pure ?_)
   refine wpAny_bind (wpAny_mono (PQ (a₀:=pairsOf (v::u::vs)) (st:=SortSt.mk' oneType' (pairsOf (v::u::vs)) #[] 7 none)
    (Q:=fun _ z=>(arrOf z).Perm (pairsOf (v::u::vs))/\failedOf z=none/\SortedTo (arrOf z) (pairsOf (v::u::vs)).size)
    hI.intKeys ⟨Array.Perm.refl _,rfl,rfl,rfl⟩ (by rw[pairsOf_size];exact h64) (by rw[pairsOf_size];exact h128) fun z a1 a2 a3=>⟨a1,a2,a3⟩) ?_ fun _ _ e=>e)
   rintro⟨⟨⟩,z⟩ s' ⟨rfl,hp,hf,hs⟩;obtain⟨ns',b1,b2,b3⟩:=sorted_out hI hp hs;dsimp only;refine wpAny_bind (seqEpoch_at ho6 rfl (wpAny_bind (listUpdate_at ho6 rfl ?_ (hsz2:=by refine Wj (Zd ((Array.size_map ..).trans (hp.size_eq.trans (pairsOf_size _)))) ?_;rw[sizeLine_eq];omega))));rw[hf];simp only[bne_self_eq_false,X6,if_false];exact wpAny_pure (h _ ns' b1 b2 b3)
theorem sort_all{a:Addr}{vs:List Value}{ns:List Int}{n:Nat}{P:Fin->Shared->Prop}(ho:s.heap.get? a=some (seqObj "list" vs.toArray n))(hI:IntsAre vs ns)(h128:vs.length<128)
 (h:∀(out:Array Value) (ns':List Int),IntsAre out.toList ns'->ns'.Perm ns->ns'.Pairwise (·<=·)->P (.done (.ret .none)) {s with heap:=sortedHeap s.heap a vs out}):
 wpAny (model prog w) A (Builtin.«list.sort» ⟨[.ref a],[]⟩) P E s:=by
 rcases YY vs.length 64 with c | c
 ·exact list_sort_tree ho hI c h
 ·exact Ka ho hI c h128 h
theorem sorted_all{l:Addr}{vs:List Value}{ns:List Int}{Q:Value->Shared->Prop}(hl:s.heap.IsList l vs.toArray)(hI:IntsAre vs ns)(h128:vs.length<128)
 (h:∀(out:Array Value) (ns':List Int),IntsAre out.toList ns'->ns'.Perm ns->ns'.Pairwise (·<=·)->Q (.ref (s.heap.objs.size+1)) {s with heap:=sortedAll s.heap vs out}):
 wpAny (model prog w) A (call (.builtin "sorted") [.ref l]) Q E s:=by
 refine Calls.call_function_entry kind_sorted plain_sorted entry_sorted (args_sorted1 _) ?_;unfold Builtin.«sorted»;refine wpAny_bind (m:=checkCount "sorted" 1 1 _) (wpAny_pure (wpAny_bind (collect_list hl (wpAny_bind (wpAny_newList ?_)))));have hz:((s.heap.push (seqObj "list" #[] 0)).update s.heap.objs.size (Obj.mapSeq (·++vs.toArray))).objs.size=s.heap.objs.size+1:=by rw[Yk,size_push']
 have hg:(((s.heap.push (seqObj "list" #[] 0)).update s.heap.objs.size (Obj.mapSeq (·++vs.toArray))).push (seqObj "list" vs.toArray 0)).get? (s.heap.objs.size+1)=some (seqObj "list" vs.toArray 0):=by
  rw[<-hz];exact WL _ rfl
 show wpAny _ _ _ _ _ {s with heap:=((s.heap.push (seqObj "list" #[] 0)).update s.heap.objs.size (Obj.mapSeq (·++vs.toArray))).push (seqObj "list" vs.toArray 0)};rw[hz];exact wpAny_bind (wpAny_holding (wpAny_call_entry slot_list_sort ⟨_,hg,rfl⟩ entry_list_sort (sort_all hg hI h128 fun out ns' a1 a2 a3=>⟨_,rfl,wpAny_pure ⟨_,rfl,h out ns' a1 a2 a3⟩⟩) (args_list_sort _)))
end
end Srt
namespace L2
open PySem PySem.Spec PyProof.Rows
section
variable{X:Cx}
theorem F7:CallR X (.builtin "sorted") (fun xs H Q=>∃ p ns,xs=[.ref p]/\SqL X.K H p (ns.map V.int)/\ns.length<128/\∀ l,H l=none->Q (.ref l) (upd H l (.lst ((srt ns).map V.int)))):=by
 intro pins s σ H xs us Q I r h;obtain⟨p,ns,rfl,hq,hb,q⟩:=h;obtain⟨u,rfl,rx⟩:=Ar r;cases rx;obtain⟨its,r',pl,hz⟩:=I.list hq;have hlen:=r'.length;rw[W2]at hlen;refine Srt.sorted_all pl.isList (AT r') (by omega) fun out ns' a1 a2 a3=>?_;obtain⟨e,he⟩:=sortedAll_at s.heap its out;have en:=F4 a2 a3;subst en;refine⟨.ref (s.heap.objs.size+1),_,I.laid (t':=s.toks) (fun b o h=>sortedAll_old h) (Y7 _) (show ObjOk X.prog X.w _ _ _ (.lst ((srt ns).map V.int)) from ⟨?_,out.toList,e,Bq a1,by simpa using he⟩),rfl,q _ (I.hok.fresh (Y7 _))⟩;rw[W2,a2.length_eq];exact Wj (XT hb) (by decide)
end
end L2
namespace Rf
open PySem L2
inductive TyN where
 | int | bool | str | list | tuple | none
 deriving DecidableEq
noncomputable def TyN.nm:TyN->String
 | .int=>"int" | .bool=>"bool" | .str=>"str" | .list=>"list" | .tuple=>"tuple" | .none=>"NoneType"
inductive SV where
 | non | bl (b:Bool) | int (i:Int) | str (x:Str) | tup (xs:List SV) | loc (k:Nat) | ro (xs:List SV) | ty (t:TyN)
inductive SO where
 | lst (xs:List SV)
 /-- a set of ints -/
 | iset (ms:List Int)
 /-- a dict with int keys;one that is held fast (walked) -/
 | dct (kvs:List (Int×SV)) | dcf (o:Obj) (ks:List (Key×V)) (kvs:List (Int×SV))
noncomputable abbrev Sto:=List SO
noncomputable abbrev EnvS:=List (Option SV)
noncomputable def FzL(K:Vy)(H:Hp)(a:Addr)(vs:List V):Prop:=(∃ o,H a=some (.frz o (.lst vs)))\/
 ∃(o:Obj) (its:Array Value) (n:Nat),K.lookup a=some o/\o.cls = .type "list"/\o.dict=none/\o.data = .seq its n/\its.size<=sizeLine/\Vals vs its.toList
theorem FzL.sq{K:Vy}{H:Hp}{a:Addr}{vs:List V}(h:FzL K H a vs):SqL K H a vs:=h.imp (fun⟨o,e⟩ => .inr ⟨o,e⟩) id
mutual
noncomputable def Rl(K:Vy)(as:List Addr)(H:Hp):V->SV->Prop
 | v,.non=>v = .non
 | v,.bl b=>v = .bl b
 | v,.int i=>v = .int i
 | v,.str x=>v = .str x
 | v,.tup xs=>∃ p vs,v = .ref p/\H p=some (.tup vs)/\RlAll K as H vs xs
 | v,.loc k=>∃ a,as[k]?=some a/\v = .ref a
 | v,.ro xs=>∃ a vs,v = .ref a/\FzL K H a vs/\RlAll K as H vs xs
 | v,.ty t=>v = .ty t.nm
noncomputable def RlAll(K:Vy)(as:List Addr)(H:Hp):List V->List SV->Prop
 | vs,[]=>vs=[]
 | vs,x::xs=>∃ v r,vs=v::r/\Rl K as H v x/\RlAll K as H r xs
end
noncomputable def imm:HO->Bool
 | .tup _=>true
 | .frz _ (.lst _)=>true
 | _=>false
noncomputable def KeepU(H H':Hp):Prop:=∀ b o,H b=some o->imm o=true->H' b=some o
theorem KeepU.refl(H:Hp):KeepU H H:=fun _ _ h _=>h
theorem KeepU.trans{H H' H'':Hp}(a:KeepU H H')(b:KeepU H' H''):KeepU H H'':=fun x o h i=>b x o (a x o h i) i
theorem Aw{H:Hp}{p:Addr}{o:HO}(hp:H p=none):KeepU H (upd H p o):=fun b u h _=>by
 rw[upd_ne (e8 h hp)];exact h
theorem Ax{H:Hp}{a:Addr}{u o:HO}(h:H a=some u)(i:imm u=false):KeepU H (upd H a o):=fun b v hb iv=>by
 rw[upd_ne (Qt hb h (by intro z;rw[z,i]at iv;cases iv))];exact hb
theorem FzL.mono{K:Vy}{H H':Hp}{a:Addr}{vs:List V}(k:KeepU H H')(h:FzL K H a vs):FzL K H' a vs:=h.imp (fun⟨o,e⟩=>⟨o,k _ _ e rfl⟩) id
theorem PR{α:Type}{as as':List α}(h:as <+: as'){k:Nat}{a:α}(e:as[k]?=some a):as'[k]?=some a:=by
 obtain⟨t,rfl⟩:=h;rw[WD ((gM e).1)];exact e
mutual
theorem Rl.mono{K:Vy}{as as':List Addr}{H H':Hp}(ha:as <+: as')(hH:KeepU H H'):∀(x:SV) (v:V),Rl K as H v x->Rl K as' H' v x
 | .non,v,h=>by unfold Rl at h ⊢;exact h
 | .bl _,v,h=>by unfold Rl at h ⊢;exact h
 | .int _,v,h=>by unfold Rl at h ⊢;exact h
 | .str _,v,h=>by unfold Rl at h ⊢;exact h
 | .tup xs,v,h=>by
   unfold Rl at h ⊢;obtain⟨p,vs,e,hp,h⟩:=h;exact⟨p,vs,e,hH p _ hp rfl,RlAll.mono ha hH xs vs h⟩
 | .ro xs,v,h=>by
   unfold Rl at h ⊢;obtain⟨p,vs,e,hp,h⟩:=h;exact⟨p,vs,e,hp.mono hH,RlAll.mono ha hH xs vs h⟩
 | .ty _,v,h=>by unfold Rl at h ⊢;exact h
 | .loc k,v,h=>by
   unfold Rl at h ⊢;obtain⟨a,e,z⟩:=h;exact⟨a,PR ha e,z⟩
theorem RlAll.mono{K:Vy}{as as':List Addr}{H H':Hp}(ha:as <+: as')(hH:KeepU H H'):∀(xs:List SV) (vs:List V),RlAll K as H vs xs->RlAll K as' H' vs xs
 | [],vs,h=>by unfold RlAll at h ⊢;exact h
 | x::xs,vs,h=>by
   unfold RlAll at h ⊢;obtain⟨v,r,e,h1,h2⟩:=h;exact⟨v,r,e,Rl.mono ha hH x v h1,RlAll.mono ha hH xs r h2⟩
end
section
variable{K:Vy}{as:List Addr}{H:Hp}
theorem rl_non{v:V}:Rl K as H v .non↔v = .non:=by unfold Rl;exact Iff.rfl
theorem rl_bl{v:V}{b:Bool}:Rl K as H v (.bl b)↔v = .bl b:=by unfold Rl;exact Iff.rfl
theorem rl_int{v:V}{i:Int}:Rl K as H v (.int i)↔v = .int i:=by unfold Rl;exact Iff.rfl
theorem rl_str{v:V}{x:Str}:Rl K as H v (.str x)↔v = .str x:=by unfold Rl;exact Iff.rfl
theorem rl_tup{v:V}{xs:List SV}:Rl K as H v (.tup xs)↔∃ p vs,v = .ref p/\H p=some (.tup vs)/\RlAll K as H vs xs:=by rw[Rl]
theorem rl_loc{v:V}{k:Nat}:Rl K as H v (.loc k)↔∃ a,as[k]?=some a/\v = .ref a:=by unfold Rl;exact Iff.rfl
theorem rl_ro{v:V}{xs:List SV}:Rl K as H v (.ro xs)↔∃ a vs,v = .ref a/\FzL K H a vs/\RlAll K as H vs xs:=by rw[Rl]
theorem rl_ty{v:V}{n:TyN}:Rl K as H v (.ty n)↔v = .ty n.nm:=by unfold Rl;exact Iff.rfl
theorem rla_nil{vs:List V}:RlAll K as H vs []↔vs=[]:=by unfold RlAll;exact Iff.rfl
theorem rla_cons{vs:List V}{x:SV}{xs:List SV}:RlAll K as H vs (x::xs)↔∃ v r,vs=v::r/\Rl K as H v x/\RlAll K as H r xs:=by rw[RlAll]
theorem RlAll.nil:RlAll K as H [] []:=rla_nil.mpr rfl
theorem RlAll.cons{v:V}{x:SV}{vs:List V}{xs:List SV}(h:Rl K as H v x)(t:RlAll K as H vs xs):RlAll K as H (v::vs) (x::xs):=rla_cons.mpr ⟨v,vs,rfl,h,t⟩
theorem RlAll.length:∀{xs:List SV} {vs:List V},RlAll K as H vs xs->vs.length=xs.length
 | [],_,h=>by rw[rla_nil.mp h];rfl
 | x::xs,_,h=>by
   obtain⟨v,r,rfl,_,t⟩:=rla_cons.mp h;simp[t.length]
theorem RlAll.get:∀{xs:List SV} {vs:List V} {i:Nat} {x:SV},RlAll K as H vs xs->xs[i]?=some x->∃ v,vs[i]?=some v/\Rl K as H v x
 | [],_,i,_,_,e=>by simp at e
 | y::xs,_,0,_,h,e=>by
   obtain⟨v,r,rfl,a,_⟩:=rla_cons.mp h;simp at e;subst e;exact⟨v,rfl,a⟩
 | y::xs,_,i+1,_,h,e=>by
   obtain⟨v,r,rfl,_,t⟩:=rla_cons.mp h;simpa using t.get (by simpa using e)
theorem RlAll.append:∀{xs ys:List SV} {vs us:List V},RlAll K as H vs xs->RlAll K as H us ys->RlAll K as H (vs++us) (xs++ys)
 | [],_,_,_,h,h'=>by rw[rla_nil.mp h];exact h'
 | x::xs,_,_,_,h,h'=>by
   obtain⟨v,r,rfl,a,t⟩:=rla_cons.mp h;exact .cons a (t.append h')
theorem RlAll.take:∀{xs:List SV} {vs:List V} (n:Nat),RlAll K as H vs xs->RlAll K as H (vs.take n) (xs.take n)
 | _,_,0,_=>by simpa using RlAll.nil
 | [],_,n+1,h=>by rw[rla_nil.mp h];exact .nil
 | x::xs,_,n+1,h=>by
   obtain⟨v,r,rfl,a,t⟩:=rla_cons.mp h;exact .cons a (t.take n)
theorem RlAll.drop:∀{xs:List SV} {vs:List V} (n:Nat),RlAll K as H vs xs->RlAll K as H (vs.drop n) (xs.drop n)
 | _,_,0,h=>h
 | [],_,n+1,h=>by rw[rla_nil.mp h];exact .nil
 | x::xs,_,n+1,h=>by
   obtain⟨v,r,rfl,a,t⟩:=rla_cons.mp h;exact t.drop n
theorem RlAll.set{x:SV}{v:V}(hx:Rl K as H v x):∀{xs:List SV} {vs:List V} (n:Nat),RlAll K as H vs xs->RlAll K as H (vs.set n v) (xs.set n x)
 | [],_,n,h=>by rw[rla_nil.mp h];exact .nil
 | y::xs,_,0,h=>by
   obtain⟨_,r,rfl,_,t⟩:=rla_cons.mp h;exact .cons hx t
 | y::xs,_,n+1,h=>by
   obtain⟨_,r,rfl,a,t⟩:=rla_cons.mp h;exact .cons a (t.set hx n)
theorem RlAll.rev:∀{xs:List SV} {vs:List V},RlAll K as H vs xs->RlAll K as H vs.reverse xs.reverse
 | [],_,h=>by rw[rla_nil.mp h];exact .nil
 | x::xs,_,h=>by
   obtain⟨v,r,rfl,a,t⟩:=rla_cons.mp h;rw[Xy,Xy];exact t.rev.append (.cons a .nil)
theorem RlAll.ins{x:SV}{v:V}(hx:Rl K as H v x){xs:List SV}{vs:List V}(h:RlAll K as H vs xs)(n:Nat):RlAll K as H (vs.take n++v::vs.drop n) (xs.take n++x::xs.drop n):=(h.take n).append (.cons hx (h.drop n))
theorem RlAll.ints{is:List Int}:RlAll K as H (is.map V.int) (is.map SV.int):=by
 induction is with
 | nil=>exact .nil
 | cons i is ih=>exact .cons (rl_int.mpr rfl) ih
end
noncomputable def RlD(K:Vy)(as:List Addr)(H:Hp):List (Key×V)->List (Int×SV)->Prop
 | ks,[]=>ks=[]
 | ks,p::r=>∃ v t,ks=(.inl p.1,v)::t/\Rl K as H v p.2/\RlD K as H t r
theorem RlD.mono{K:Vy}{as as':List Addr}{H H':Hp}(ha:as <+: as')(hH:KeepU H H'):∀(kvs:List (Int×SV)) (ks:List (Key×V)),RlD K as H ks kvs->RlD K as' H' ks kvs
 | [],_,h=>h
 | p::r,_,⟨v,t,e,h1,h2⟩=>⟨v,t,e,Rl.mono ha hH p.2 v h1,RlD.mono ha hH r t h2⟩
noncomputable def RlO(K:Vy)(as:List Addr)(H:Hp)(a:Addr):SO->Prop
 | .lst xs=>∃ vs,H a=some (.lst vs)/\RlAll K as H vs xs
 | .iset ms=>∃ F,H a=some (.set F ms.length)/\∀ k,F k=decide (k∈ms)
 | .dct kvs=>∃ ks,H a=some (.dK ks)/\RlD K as H ks kvs
 | .dcf o ks kvs=>H a=some (.frz o (.dK ks))/\RlD K as H ks kvs
structure Ok(K:Vy)(as:List Addr)(H:Hp)(S:Sto):Prop where
 len:as.length=S.length
 nd:as.Nodup
 obj:∀(k:Nat) (o:SO) (a:Addr),S[k]?=some o->as[k]?=some a->RlO K as H a o
noncomputable def EnvOk(K:Vy)(as:List Addr)(H:Hp)(σ:St)(ρ:EnvS):Prop:=σ.length=ρ.length/\∀(i:Nat) (x:SV),ρ[i]?=some (some x)->∃ v,σ[i]?=some (some v)/\Rl K as H v x
theorem EnvOk.mono{K:Vy}{as as':List Addr}{H H':Hp}{σ:St}{ρ:EnvS}(h:EnvOk K as H σ ρ)(ha:as <+: as')(hH:KeepU H H'):EnvOk K as' H' σ ρ:=⟨h.1,fun i x e=>let ⟨v,a,b⟩:=h.2 i x e;⟨v,a,Rl.mono ha hH x v b⟩⟩
theorem EnvOk.set{K:Vy}{as:List Addr}{H:Hp}{σ:St}{ρ:EnvS}(h:EnvOk K as H σ ρ){i:Nat}{v:V}{x:SV}(hx:Rl K as H v x):EnvOk K as H (σ.set i (some v)) (ρ.set i (some x)):=⟨by rw[WU,WU];exact h.1,fun j y e=>by
 by_cases hij:i=j
 ·subst hij;have hi:i<ρ.length:=by have:=(gM e).1;rwa [WU]at this
  rw[Wg hi]at e;rw[Wg (by rw[h.1];exact hi)];cases e;exact⟨v,rfl,hx⟩
 ·rw[Wp hij]at e ⊢;exact h.2 j y e⟩
section
variable{K:Vy}{as:List Addr}{H:Hp}{S:Sto}
theorem RlO.mono{as':List Addr}{H':Hp}{a:Addr}(ha:as <+: as')(hH:KeepU H H')(e:∀ u,H a=some u->H' a=some u):∀{o:SO},RlO K as H a o->RlO K as' H' a o
 | .lst xs,⟨vs,h1,h2⟩=>⟨vs,e _ h1,RlAll.mono ha hH xs vs h2⟩
 | .iset ms,⟨F,h1,h2⟩=>⟨F,e _ h1,h2⟩
 | .dct kvs,⟨ks,h1,h2⟩=>⟨ks,e _ h1,RlD.mono ha hH kvs ks h2⟩
 | .dcf _ ks kvs,⟨h1,h2⟩=>⟨e _ h1,RlD.mono ha hH kvs ks h2⟩
theorem RlO.some{a:Addr}:∀{o:SO},RlO K as H a o->∃ u,H a=some u/\imm u=false
 | .lst _,⟨_,h,_⟩=>⟨_,h,rfl⟩
 | .iset _,⟨_,h,_⟩=>⟨_,h,rfl⟩
 | .dct _,⟨_,h,_⟩=>⟨_,h,rfl⟩
 | .dcf _ _ _,⟨h,_⟩=>⟨_,h,rfl⟩
theorem Ok.of(h:Ok K as H S){k:Nat}{a:Addr}(e:as[k]?=some a):∃ o,S[k]?=some o/\RlO K as H a o:=by
 have hk:k<S.length:=by rw[<-h.len];exact(gM e).1
 exact⟨S[k],W0 hk,h.obj k _ a (W0 hk) e⟩
theorem Ok.new(h:Ok K as H S){p:Addr}{o:HO}(hp:H p=none):Ok K as (upd H p o) S:=⟨h.len,h.nd,fun k u a e ea=>by
 have r:=h.obj k u a e ea;obtain⟨z,hz,_⟩:=r.some;exact r.mono (Wq as) (Aw hp) fun vs hv=>by rw[upd_ne (e8 hz hp)];exact hv⟩
theorem Ok.free(h:Ok K as H S){p:Addr}(hp:H p=none):p∉as:=fun hm=>by
 obtain⟨k,hk⟩:=WW hm;obtain⟨o,_,r⟩:=h.of hk;obtain⟨z,hz,_⟩:=r.some;rw[hp]at hz;cases hz
theorem Ok.pushO(h:Ok K as H S){p:Addr}(hp:H p=none){u:HO}{x:SO}(r:RlO K (as++[p]) (upd H p u) p x):Ok K (as++[p]) (upd H p u) (S++[x]):=by
 have pre:as <+: as++[p]:=XW _ _;refine⟨by rw[W3,W3,h.len];rfl,?_,fun k o a e ea=>?_⟩
 ·rw[Xd];refine⟨h.nd,by simp,fun a ha b hb=>?_⟩;rw[W6.mp hb];intro z;subst z;exact h.free hp ha
 ·by_cases hk:k<S.length
  ·rw[WD hk]at e;rw[WD (by rw[h.len];exact hk)]at ea;exact((h.new (o:=u) hp).obj k o a e ea).mono pre (KeepU.refl _) fun _ z=>z
  ·have hk':k=S.length:=by
    have:=(gM e).1;rw[W3,We]at this;omega
   subst hk';rw[Wc]at e;rw[<-h.len,Wc]at ea;cases e;cases ea;exact r
theorem Ok.push(h:Ok K as H S){p:Addr}(hp:H p=none){vs:List V}{xs:List SV}(r:RlAll K as H vs xs):Ok K (as++[p]) (upd H p (.lst vs)) (S++[.lst xs]):=h.pushO hp ⟨vs,f6,RlAll.mono (XW _ _) (Aw hp) xs vs r⟩
theorem Ok.writeO(h:Ok K as H S){k:Nat}{a:Addr}{y x:SO}{u:HO}(e:S[k]?=some y)(ea:as[k]?=some a)(r:KeepU H (upd H a u)->RlO K as (upd H a u) a x):Ok K as (upd H a u) (S.set k x)/\KeepU H (upd H a u):=by
 obtain⟨z,h1,iz⟩:=(h.obj k _ a e ea).some;have ku:KeepU H (upd H a u):=Ax h1 iz;refine⟨⟨by rw[WU];exact h.len,h.nd,fun j o b eo eb=>?_⟩,ku⟩;by_cases hj:k=j
 ·subst hj;rw[Wg ((gM e).1)]at eo;rw[ea]at eb;cases eo;cases eb;exact r ku
 ·rw[Wp hj]at eo
  have hab:b≠a:=fun z=>by
   subst z;exact hj ((List.getElem?_inj ((gM ea).1) h.nd).mp (ea.trans eb.symm))
  exact(h.obj j o b eo eb).mono (Wq as) ku fun ws hw=>by rw[upd_ne hab];exact hw
theorem Ok.write(h:Ok K as H S){k:Nat}{a:Addr}{ys xs:List SV}{vs:List V}(e:S[k]?=some (.lst ys))(ea:as[k]?=some a)(r:RlAll K as H vs xs):Ok K as (upd H a (.lst vs)) (S.set k (.lst xs))/\KeepU H (upd H a (.lst vs)):=h.writeO e ea fun ku=>⟨vs,f6,RlAll.mono (Wq as) ku xs vs r⟩
end
structure Go(as:List Addr)(H:Hp)(as':List Addr)(H':Hp):Prop where
 pre:as <+: as'
 keep:∀ b o,H b=some o->b∉as->H' b=some o/\b∉as'
theorem Go.refl(as:List Addr)(H:Hp):Go as H as H:=⟨Wq _,fun _ _ h n=>⟨h,n⟩⟩
theorem Go.trans{as as1 as2:List Addr}{H H1 H2:Hp}(a:Go as H as1 H1)(b:Go as1 H1 as2 H2):Go as H as2 H2:=⟨a.pre.trans b.pre,fun x o h n=>let ⟨h1,n1⟩:=a.keep x o h n;b.keep x o h1 n1⟩
theorem Go.new{as:List Addr}{H:Hp}{p:Addr}{o:HO}(hp:H p=none):Go as H as (upd H p o):=⟨Wq _,fun b u h n=>⟨by rw[upd_ne (e8 h hp)];exact h,n⟩⟩
theorem Go.push{as:List Addr}{H:Hp}{p:Addr}{o:HO}(hp:H p=none):Go as H (as++[p]) (upd H p o):=⟨XW _ _,fun b u h n=>⟨by rw[upd_ne (e8 h hp)];exact h,by
 rw[WJ,W6];rintro(z | z)
 ·exact n z
 ·exact e8 h hp z⟩⟩
theorem Go.write{as:List Addr}{H:Hp}{a:Addr}{o:HO}(ha:a∈as):Go as H as (upd H a o):=⟨Wq _,fun b u h n=>⟨by rw[upd_ne (fun z=>n (by rw[z];exact ha))];exact h,n⟩⟩
section
variable{K:Vy}{as as':List Addr}{H H':Hp}{S:Sto}
theorem Ok.away(h:Ok K as H S){b:Addr}{o:HO}(e:H b=some o)(i:imm o=true):b∉as:=fun hm=>by
 obtain⟨k,hk⟩:=WW hm;obtain⟨_,_,r⟩:=h.of hk;obtain⟨z,hz,iz⟩:=r.some;rw[e]at hz;cases hz;rw[i]at iz;cases iz
theorem Go.ku(g:Go as H as' H')(ok:Ok K as H S):KeepU H H':=fun b o h i=>(g.keep b o h (ok.away h i)).1
theorem Ok.other(h:Ok K as H S){b:Addr}{vs us:List V}(hb:H b=some (.lst vs))(n:b∉as):Ok K as (upd H b (.lst us)) S:=⟨h.len,h.nd,fun k o a e ea=>(h.obj k o a e ea).mono (Wq as) (Ax hb rfl) fun ws hw=>by
 rw[upd_ne (fun z=>n (by rw[<-z];exact W5 ea))];exact hw⟩
end
end Rf
namespace L2
open PySem PySem.Spec PyProof.Rows
section
variable{κ:Type}[DecidableEq κ]
noncomputable def BZ(kvs:List (κ×V))(k:κ):Option V:=(kvs.find? fun kv=>decide (kv.1=k)).map (·.2)
noncomputable def Ay(kvs:List (κ×V))(k:κ)(v:V):List (κ×V):=
 if (kvs.any fun kv=>decide (kv.1=k))=true then kvs.map (fun kv=>if kv.1=k then (kv.1,v) else kv) else kvs++[(k,v)]
theorem DV{p:κ×V}{r:List (κ×V)}{k:κ}(e:p.1=k):BZ (p::r) k=some p.2:=by simp[BZ,Xn,e]
theorem DW{p:κ×V}{r:List (κ×V)}{k:κ}(e:¬ p.1=k):BZ (p::r) k=BZ r k:=by simp[BZ,Xn,e]
theorem GC(k:κ):∀ kvs:List (κ×V),(kvs.any fun kv=>decide (kv.1=k))=(BZ kvs k).isSome
 | []=>rfl
 | p::r=>by
   rw[Xp];by_cases e:p.1=k
   ·simp only[DV e,decide_eq_true e,Bool.true_or,Z8]
   ·rw[DW e,decide_eq_false e,ZV];exact GC k r
theorem Ba(kvs:List (κ×V))(k:κ)(v:V):(Ay kvs k v).length<=kvs.length+1:=by
 unfold Ay;split
 ·rw[W2];omega
 ·rw[W3,Wz,Y3];omega
theorem RelO.isSome_eq{o:Option V}{u:Option Value}(r:RelO o u):o.isSome=u.isSome:=by
 cases o with
 | none=>cases u with
   | none=>rfl
   | some _=>exact(show False from r).elim
 | some _=>cases u with
   | none=>exact(show False from r).elim
   | some _=>rfl
theorem KV.val{kvs:List (κ×V)}{vs:List (κ×Value)}(r:KV kvs vs)(k:κ):RelO (BZ kvs k) (valueAt vs k):=by
 unfold KV at r
 induction r with
 | nil=>exact True.intro
 | @cons p q ps qs h t ih=>
   obtain⟨h1,h2⟩:=h;by_cases e:p.1=k
   ·have e':q.1=k:=h1.symm.trans e;have b:valueAt (q::qs) k=some q.2:=by simp[valueAt,Xn,e']
    rw[DV e,b];exact h2
   ·have e':¬ q.1=k:=fun z=>e (h1.trans z);have b:valueAt (q::qs) k=valueAt qs k:=by simp[valueAt,Xn,e']
    rw[DW e,b];exact ih
theorem KV.any{kvs:List (κ×V)}{vs:List (κ×Value)}(r:KV kvs vs)(k:κ):(kvs.any fun kv=>decide (kv.1=k))=vs.any fun kv=>decide (kv.1=k):=by
 unfold KV at r
 induction r with
 | nil=>rfl
 | cons h t ih=>rw[Xp,Xp,ih,h.1]
theorem KV.repl{kvs:List (κ×V)}{vs:List (κ×Value)}(r:KV kvs vs)(k:κ){y:V}{u:Value}(ry:RelV y u):
 KV (kvs.map fun kv=>if kv.1=k then (kv.1,y) else kv) (vs.map fun kv=>if kv.1=k then (kv.1,u) else kv):=by
 unfold KV at r ⊢
 induction r with
 | nil=>exact .nil
 | @cons p q ps qs h t ih=>
   rw[Wl,Wl];refine .cons ?_ ih;obtain⟨h1,h2⟩:=h;by_cases e:p.1=k
   ·rw[if_pos e,if_pos (h1.symm.trans e)];exact⟨h1,ry⟩
   ·rw[if_neg e,if_neg (fun z=>e (h1.trans z))];exact⟨h1,h2⟩
theorem KV.put{kvs:List (κ×V)}{vs:List (κ×Value)}(r:KV kvs vs)(k:κ){y:V}{u:Value}(ry:RelV y u):KV (Ay kvs k y) (stored vs k u):=by
 unfold Ay stored;rw[r.any k];by_cases e:(vs.any fun kv=>decide (kv.1=k))=true
 ·rw[if_pos e,if_pos e];exact r.repl k ry
 ·rw[if_neg e,if_neg e];exact Paired.snoc r ⟨rfl,ry⟩
theorem KV.keys{kvs:List (κ×V)}{vs:List (κ×Value)}(r:KV kvs vs):kvs.map (·.1)=vs.map (·.1):=by
 unfold KV at r
 induction r with
 | nil=>rfl
 | cons h t ih=>rw[Wl,Wl,ih,h.1]
theorem KV.length{kvs:List (κ×V)}{vs:List (κ×Value)}(r:KV kvs vs):kvs.length=vs.length:=Paired.length r
end
theorem EQ{P:Program}{w:World}{k:Key}{u:Value}(r:RelV (kV k) u):(j4 P w).is k u=true:=by
 cases k with
 | inl i=>obtain⟨t,e⟩:=(show ∃ t,u=Value.int i t from r);subst e;exact Fq P w i t
 | inr x=>obtain⟨t,e⟩:=(show ∃ t,u=Value.str x t from r);subst e;exact Fs P w x t
theorem ER{P:Program}{w:World}:∀{ks:List Key} {us:List Value},Vals (ks.map kV) us->ItemsAre (j4 P w) ks us
 | [],_,r=>by rw[ZE]at r;cases r;exact .nil
 | k::ks,_,r=>by
   rw[Wl]at r;cases r with
   | cons h t=>exact .cons (EQ h) (ER t)
noncomputable abbrev KT(H:Hp):List (List Key×V)->List (List Key×Addr×Value)->Prop:=Paired fun p q=>p.1=q.1/\H q.2.1=some (.tup (p.1.map kV))/\RelV p.2 q.2.2
theorem KT.val{H:Hp}{kvs:List (List Key×V)}{xs:List (List Key×Addr×Value)}(r:KT H kvs xs)(k:List Key):RelO (BZ kvs k) ((atKey xs k).map (·.2)):=by
 induction r with
 | nil=>exact True.intro
 | @cons p q ps qs h t ih=>
   obtain⟨h1,_,h2⟩:=h;by_cases e:p.1=k
   ·have e':q.1=k:=h1.symm.trans e;have b:atKey (q::qs) k=some q.2:=by simp[atKey,Xn,e']
    rw[DV e,b];exact h2
   ·have e':¬ q.1=k:=fun z=>e (h1.trans z);have b:atKey (q::qs) k=atKey qs k:=by simp[atKey,Xn,e']
    rw[DW e,b];exact ih
theorem KT.repl{H:Hp}{kvs:List (List Key×V)}{xs:List (List Key×Addr×Value)}(r:KT H kvs xs)(k:List Key){y:V}{u:Value}(ry:RelV y u):
 KT H (kvs.map fun kv=>if kv.1=k then (kv.1,y) else kv) (xs.map (putAt k u)):=by
 induction r with
 | nil=>exact .nil
 | @cons p q ps qs h t ih=>
   rw[Wl,Wl];refine .cons ?_ ih;obtain⟨h1,h2,h3⟩:=h;unfold putAt;by_cases e:p.1=k
   ·rw[if_pos e,if_pos (h1.symm.trans e)];exact⟨h1,h2,ry⟩
   ·rw[if_neg e,if_neg (fun z=>e (h1.trans z))];exact⟨h1,h2,h3⟩
theorem KT.put{H:Hp}{kvs:List (List Key×V)}{xs:List (List Key×Addr×Value)}(r:KT H kvs xs)(k:List Key){b:Addr}{y:V}{u:Value}(hb:H b=some (.tup (k.map kV)))(ry:RelV y u):
 KT H (Ay kvs k y) (storedH xs k b u):=by
 have e:(kvs.any fun kv=>decide (kv.1=k))=(atKey xs k).isSome:=by
  rw[GC,(r.val k).isSome_eq,Y6]
 unfold Ay storedH;rw[e];by_cases q:(atKey xs k).isSome=true
 ·rw[if_pos q,if_pos q];exact r.repl k ry
 ·rw[if_neg q,if_neg q];exact Paired.snoc r ⟨rfl,hb,ry⟩
theorem KT.keeps{H H':Hp}{kvs:List (List Key×V)}{xs:List (List Key×Addr×Value)}(r:KT H kvs xs)(ht:∀ b ys,H b=some (.tup ys)->H' b=some (.tup ys)):KT H' kvs xs:=
 Paired.mapP r fun _ _ z=>⟨z.1,ht _ _ z.2.1,z.2.2⟩
section
variable{P:Program}{w:World}{H:Hp}{h:Heap}{a:Addr}
theorem RF{u:HO}(ok:HOk P w H h)(e:Rd H a u):ObjOk P w H h a u:=e.ok ok
theorem GD{kvs:List (Key×V)}(ok:HOk P w H h)(e:Rd H a (.dK kvs)):kvs.length<=sizeLine/\(a == sysModules)=false/\∃ vs,KV kvs vs/\h.DictOf (j4 P w) a vs:=
 show ObjOk P w H h a (.dK kvs) from RF ok e
theorem RG{kvs:List (Key×V)}(ok:HOk P w H h)(e:H a=some (.dK kvs)):kvs.length<=sizeLine/\(a == sysModules)=false/\∃ vs,KV kvs vs/\h.DictOf (j4 P w) a vs:=GD ok (.inl e)
theorem DX{ks:List Key}(ok:HOk P w H h)(e:H a=some (.tup (ks.map kV))):(tupleKind (j4 P w)).is h ks a:=by
 obtain⟨_,its,r,o,h1,h2,n,h3⟩:=(show ObjOk P w H h a (.tup (ks.map kV)) from ok a _ e)
 exact⟨o,its.toArray,n,h1,h2,h3,by simpa using ER r⟩
theorem GE{kvs:List (List Key×V)}(ok:HOk P w H h)(e:Rd H a (.dT kvs)):kvs.length<=sizeLine/\(a == sysModules)=false/\
 ∃ xs,KT H kvs xs/\h.DictOfH (tupleKind (j4 P w)) a xs:=by
 obtain⟨z,y,xs,r,o,es,ep,h1,h2,h3,h4,h5⟩:=(show ObjOk P w H h a (.dT kvs) from RF ok e)
 refine⟨z,y,xs,r,o,es,ep,h1,h2,h3,h4,fun x hx=>?_,h5⟩
 have all:∀{l:List (List Key×V)} {m:List (List Key×Addr×Value)},KT H l m->∀ x∈m,(tupleKind (j4 P w)).is h x.1 x.2.1:=by
  intro l m q
  induction q with
  | nil=>intro x hx;exact nomatch hx
  | @cons p q ps qs hq t ih=>
    intro x hx;rcases WN.mp hx with e | hx
    ·subst e;exact DX ok (by rw[<-hq.1];exact hq.2.1)
    ·exact ih x hx
 exact all r x hx
theorem Ul{kvs:List (List Key×V)}(ok:HOk P w H h)(e:H a=some (.dT kvs)):kvs.length<=sizeLine/\(a == sysModules)=false/\
 ∃ xs,KT H kvs xs/\h.DictOfH (tupleKind (j4 P w)) a xs:=GE ok (.inl e)
end
noncomputable def F8(H:Hp)(a:Addr)(y:V)(r:Option V):Prop:=
 (∃ kvs k,Rd H a (.dK kvs)/\y=kV k/\r=BZ kvs k)\/∃ kvs k b,Rd H a (.dT kvs)/\y = .ref b/\H b=some (.tup (k.map kV))/\r=BZ kvs k
noncomputable def Um(H:Hp)(a:Addr)(y v:V)(H':Hp):Prop:=
 (∃ kvs k,H a=some (.dK kvs)/\y=kV k/\kvs.length<sizeLine/\H'=upd H a (.dK (Ay kvs k v)))\/
 ∃ kvs k b,H a=some (.dT kvs)/\y = .ref b/\H b=some (.tup (k.map kV))/\kvs.length<sizeLine/\H'=upd H a (.dT (Ay kvs k v))
section
variable{X:Cx}{pins:List (Addr×Obj)}{σ:St}{H:Hp}{s:Shared}{a:Addr}{y v:V}{u r:Value}{o:Option V}{A:Around}{E:Value->Shared->Prop}
theorem Inv.big(I:Inv X pins σ H s):sysModules<s.heap.objs.size:=by
 have h:mainGlobals<s.heap.objs.size:=(I.mod.glob.keeps I.bk).lt;exact ZF (by decide) h
theorem Kb{Q:Value->Shared->Prop}(hu:A.units+1<cLine)(I:Inv X pins σ H s)(g:F8 H a y (some v))(ry:RelV y u)(h:∀ w' s',Inv X pins σ H s'->RelV v w'->Q w' s'):
 wpAny (model X.prog X.w) A (getItem (.ref a) u) Q E s:=by
 rcases g with⟨kvs,k,e,ey,l⟩ | ⟨kvs,k,b,e,ey,eb,l⟩
 ·subst ey;obtain⟨z,hd,vs,rel,dd⟩:=GD I.hok e;obtain⟨w',hw,rw'⟩:=RelO.some_of (v:=v) (o:=valueAt vs k) (by rw[l];exact rel.val k);exact wpAny_getItem_of (EQ ry) dd.mapOf hw (h w' _ (I.tok _) rw')
 ·subst ey;cases(show u=Value.ref b from ry);obtain⟨z,hd,xs,rel,dd⟩:=GE I.hok e;obtain⟨w',hw,rw'⟩:=RelO.some_of (v:=v) (o:=(atKey xs k).map (·.2)) (by rw[l];exact rel.val k);obtain⟨p,hp,hp2⟩:=Option.map_eq_some_iff.mp hw;refine wpAny_getItem_heap (tupleKind_room_in1 hu) (DX I.hok eb) dd hp ?_;rw[hp2];exact h w' _ (I.tok _) rw'
theorem Vk{Q:Value->Shared->Prop}(hu:A.units+1<cLine)(I:Inv X pins σ H s)(g:F8 H a y o)(ry:RelV y u)(h:∀ s',Inv X pins σ H s'->Q (.bool o.isSome) s'):
 wpAny (model X.prog X.w) A (compareOp .In u (.ref a)) Q E s:=by
 rcases g with⟨kvs,k,e,ey,l⟩ | ⟨kvs,k,b,e,ey,eb,l⟩
 ·subst ey;obtain⟨z,hd,vs,rel,dd⟩:=GD I.hok e;refine wpAny_in_of (EQ ry) hd dd.mapOf ?_;rw[<-(rel.val k).isSome_eq,<-l];exact h _ (I.tok _)
 ·subst ey;cases(show u=Value.ref b from ry);obtain⟨z,hd,xs,rel,dd⟩:=GE I.hok e;refine wpAny_in_heap (tupleKind_room_in1 hu) (DX I.hok eb) hd dd ?_;have q:=(rel.val k).isSome_eq;rw[Y6]at q;rw[<-q,<-l];exact h _ (I.tok _)
theorem PU{Q:Value->Shared->Prop}(hu:A.units+1<cLine)(I:Inv X pins σ H s)(g:F8 H a y o)(ry:RelV y u)(h:∀ s',Inv X pins σ H s'->Q (.bool (!o.isSome)) s'):
 wpAny (model X.prog X.w) A (compareOp .NotIn u (.ref a)) Q E s:=by
 rcases g with⟨kvs,k,e,ey,l⟩ | ⟨kvs,k,b,e,ey,eb,l⟩
 ·subst ey;obtain⟨z,hd,vs,rel,dd⟩:=GD I.hok e;refine wpAny_notIn_of (EQ ry) hd dd.mapOf ?_;rw[<-(rel.val k).isSome_eq,<-l];exact h _ (I.tok _)
 ·subst ey;cases(show u=Value.ref b from ry);obtain⟨z,hd,xs,rel,dd⟩:=GE I.hok e;refine wpAny_notIn_heap (tupleKind_room_in1 hu) (DX I.hok eb) hd dd ?_;have q:=(rel.val k).isSome_eq;rw[Y6]at q;rw[<-q,<-l];exact h _ (I.tok _)
theorem F9{h':Heap}{t':Nat}{ob:HO}(I:Inv X pins σ H s)(mu:Mut (H a))(hs:Wv a s.heap h')(he:∃ q,h'.get? a=some q)(new:ObjOk X.prog X.w (upd H a ob) h' a ob):
 Inv X pins σ (upd H a ob) {s with heap:=h',toks:=t'}:=
 I.write (x:=a) (e:=a) mu (.inl rfl) (fun b q hb z=>(hs.2 b hb).trans z) he new
theorem FA{P:Program}{w:World}{H':Hp}{h':Heap}{kvs:List (Key×V)}{vs:List (Key×Value)}(z:kvs.length<=sizeLine)(hd:(a == sysModules)=false)(rel:KV kvs vs)(dd:h'.DictOf (j4 P w) a vs):
 ObjOk P w H' h' a (.dK kvs):=⟨z,hd,vs,rel,dd⟩
theorem Kc{H':Hp}{Q:Unit->Shared->Prop}(hu:A.units+1<cLine)(I:Inv X pins σ H s)(g:Um H a y v H')(ry:RelV y u)(rv:RelV v r)(h:∀ s',Inv X pins σ H' s'->Q () s'):
 wpAny (model X.prog X.w) A (setItem (.ref a) u r) Q E s:=by
 rcases g with⟨kvs,k,e,ey,l,eH⟩ | ⟨kvs,k,b,e,ey,eb,l,eH⟩
 ·subst ey eH;obtain⟨z,hd,vs,rel,dd⟩:=RG I.hok e;have hz:vs.length<=sizeLine:=by rw[<-rel.length];exact z
  have hl:(Ay kvs k v).length<=sizeLine:=by have:=Ba kvs k v;omega
  refine wpAny_setItem_pairs (hsz:=hz) (EQ ry) dd fun h' dd' hs=>h _ ?_;have he:∃ q,h'.get? a=some q:=let ⟨q,_,_,hq,_⟩:=dd';⟨q,hq⟩
  exact F9 I (by rw[e];exact True.intro) hs he (FA hl hd (rel.put k rv) dd')
 ·subst ey eH;cases(show u=Value.ref b from ry);obtain⟨z,hd,xs,rel,dd⟩:=Ul I.hok e;have hz:xs.length<=sizeLine:=by rw[<-Paired.length rel];exact z
  have hl:(Ay kvs k v).length<=sizeLine:=by have:=Ba kvs k v;omega
  refine wpAny_setItem_heap (hsz:=hz) (tupleKind_room_in1 hu) (DX I.hok eb) dd fun h' dd' hs=>h _ ?_;obtain⟨q,es,ep,hq,h2,h3,h4,_,h5⟩:=dd';refine F9 I (by rw[e];exact True.intro) hs ⟨q,hq⟩ ⟨hl,hd,_,(rel.put k eb rv).keeps fun c ys ec=>?_,q,es,ep,hq,h2,h3,h4,h5⟩;rw[upd_ne (Qt ec e (fun z=>nomatch z))];exact ec
end
noncomputable def Uo(i:Expr):Prop:=∀ ov iv,subscripted i false ov iv=operate [ov,iv] (getItem ov iv)
theorem PV{prog:Program}{w:World}{A:Around}{E:Value->Shared->Prop}{s:Shared}{env:Env}{value slice:Expr}{pos:Pos}{T id:String}{Q:Value->Shared->Prop}
 (hl:typeLookup (.type T) "__getitem__"=pure (some (.builtin id))) (hs:Uo slice)
 (h:wpAny (model prog w) A (eval value env) (fun o s₁=>wpAny (model prog w) A (eval slice env) (fun i s₂=>s₂.TypeIs o T/\wpAny (model prog w) A (getItem o i) Q E s₂) E s₁) E s):
 wpAny (model prog w) A (eval (.Subscript value slice pos) env) Q E s:=by
 refine Subscript_ (wpAny_mono h (fun o s₁ h₁=>wpAny_mono h₁ (fun i s₂ h₂=>?_) fun _ _ x=>x) fun _ _ x=>x);obtain⟨hT,h₂⟩:=h₂;unfold subscriptTail;refine wpAny_bind ?_;rw[getitemInPython_of_ne hT.not_modules];refine wpAny_bind (wpAny_specialOf hT hl ?_)
 have fin:wpAny (model prog w) A (subscripted slice false o i) (fun r s₃=>wpAny (model prog w) A (letTemporaryGo value o r >>= fun _=>pure r) Q E s₃) E s₂:=by
  rw[hs o i];exact wpAny_operating (wpAny_mono h₂ (fun r s₃ h₃=>wpAny_bind (wpAny_letTemporaryGo (wpAny_pure h₃))) fun _ _ x=>x)
 first
  | exact wpAny_pure (wpAny_bind fin)
  | exact wpAny_bind (wpAny_pure (wpAny_bind fin))
  | exact wpAny_bind fin
theorem GF{X:Cx}{pins:List (Addr×Obj)}{σ:St}{H:Hp}{s:Shared}{a:Addr}{y:V}{o:Option V}(I:Inv X pins σ H s)(g:F8 H a y o):s.TypeIs (.ref a) "dict":=by
 rcases g with⟨kvs,k,e,_,_⟩ | ⟨kvs,k,b,e,_,_,_⟩
 ·obtain⟨_,_,vs,_,dd⟩:=GD I.hok e;exact dd.typeIs
 ·obtain⟨_,_,xs,_,dd⟩:=GE I.hok e;exact dd.typeIs
noncomputable def Uq(td ty:TE):TE:=fun σ H Q=>td σ H fun x H1=>ty σ H1 fun y H2=>∃ a v,x = .ref a/\F8 H2 a y (some v)/\Q v H2
noncomputable def Vl(ty td:TE):TE:=fun σ H Q=>ty σ H fun y H1=>td σ H1 fun x H2=>∃ a o,x = .ref a/\F8 H2 a y o/\Q (.bl o.isSome) H2
noncomputable def PX(ty td:TE):TE:=fun σ H Q=>ty σ H fun y H1=>td σ H1 fun x H2=>∃ a o,x = .ref a/\F8 H2 a y o/\Q (.bl (!o.isSome)) H2
section
variable{X:Cx}{o i e value:Expr}{pos pos' tpos:Pos}{td ty tv:TE}
theorem PY(hu:X.A.units+1<cLine)(ho:PE X o td)(hi:PE X i ty)(hs:Uo i):PE X (.Subscript o i pos) (Uq td ty):=by
 intro pins s σ H Q I h;refine PV PySem.F.slot_dict_getitem.lookup hs (thn (ho pins s σ H _ I h) fun u s1 ⟨x,H1,I1,rx,q1⟩=>thn (hi pins s1 σ H1 _ I1 q1) fun iv s2 ⟨y,H2,I2,ry,a,v,ex,g,q2⟩=>?_);subst ex;obtain rfl:u=Value.ref a:=rx;exact⟨GF I2 g,Kb hu I2 g ry fun w' s3 I3 rw'=>⟨v,H2,I3,rw',q2⟩⟩
theorem Me(hu:X.A.units+1<cLine)(hi:PE X i ty)(ho:PE X o td):PC X .In i o (Vl ty td):=by
 intro pins s σ H Q I h;refine thn (hi pins s σ H _ I h) fun iv s1 ⟨y,H1,I1,ry,q1⟩=>thn (ho pins s1 σ H1 _ I1 q1) fun u s2 ⟨x,H2,I2,rx,a,ov,ex,g,q2⟩=>?_;subst ex;obtain rfl:u=Value.ref a:=rx;exact Vk hu I2 g ry fun s3 I3=>⟨.bl ov.isSome,H2,I3,rfl,q2⟩
theorem ES(hu:X.A.units+1<cLine)(hi:PE X i ty)(ho:PE X o td):PC X .NotIn i o (PX ty td):=by
 intro pins s σ H Q I h;refine thn (hi pins s σ H _ I h) fun iv s1 ⟨y,H1,I1,ry,q1⟩=>thn (ho pins s1 σ H1 _ I1 q1) fun u s2 ⟨x,H2,I2,rx,a,ov,ex,g,q2⟩=>?_;subst ex;obtain rfl:u=Value.ref a:=rx;exact PU hu I2 g ry fun s3 I3=>⟨.bl (!ov.isSome),H2,I3,rfl,q2⟩
end
open PySem PySem.Spec PyProof.Rows
mutual
noncomputable def Dat(H:Hp):V->PyData->Prop
 | x,.none=>x = .non
 | x,.bool b=>x = .bl b
 | x,.int i=>x = .int i
 | x,.str s=>x = .str s
 | x,.list ds=>∃ a xs,x = .ref a/\H a=some (.lst xs)/\DatAll H xs ds
 | x,.tuple ds=>∃ a xs,x = .ref a/\H a=some (.tup xs)/\DatAll H xs ds
 | _,.dict _=>False
noncomputable def DatAll(H:Hp):List V->List PyData->Prop
 | [],[]=>True
 | x::xs,d::ds=>Dat H x d/\DatAll H xs ds
 | [],_::_=>False
 | _::_,[]=>False
end
mutual
theorem Dat.mono{H H':Hp}(k:∀ b o,H b=some o->H' b=some o):∀(x:V) (d:PyData),Dat H x d->Dat H' x d
 | _,.none,h=>by unfold Dat at h ⊢;exact h
 | _,.bool _,h=>by unfold Dat at h ⊢;exact h
 | _,.int _,h=>by unfold Dat at h ⊢;exact h
 | _,.str _,h=>by unfold Dat at h ⊢;exact h
 | x,.list ds,h=>by
   unfold Dat at h ⊢;obtain⟨a,xs,e,h1,h2⟩:=h;exact⟨a,xs,e,k _ _ h1,DatAll.mono k xs ds h2⟩
 | x,.tuple ds,h=>by
   unfold Dat at h ⊢;obtain⟨a,xs,e,h1,h2⟩:=h;exact⟨a,xs,e,k _ _ h1,DatAll.mono k xs ds h2⟩
 | _,.dict _,h=>by unfold Dat at h;exact h.elim
theorem DatAll.mono{H H':Hp}(k:∀ b o,H b=some o->H' b=some o):∀(xs:List V) (ds:List PyData),DatAll H xs ds->DatAll H' xs ds
 | [],[],_=>by unfold DatAll;trivial
 | x::xs,d::ds,h=>by
   unfold DatAll at h ⊢;exact⟨Dat.mono k x d h.1,DatAll.mono k xs ds h.2⟩
 | [],_::_,h=>by unfold DatAll at h;exact h.elim
 | _::_,[],h=>by unfold DatAll at h;exact h.elim
end
section
variable{X:Cx}{a b:Expr}{ta:TE}{pos:Pos}
theorem Kd:OpR X (compareOp .IsNot) (fun x y H Q=>∃ c d,x = .bl c/\y = .bl d/\Q (.bl (c != d)) H):=by
 intro pins s σ H x y v u Q I rx ry h;obtain⟨c,d,rfl,rfl,q⟩:=h;cases rx;cases ry;exact isnot_bool ⟨.bl (c != d),H,I,rfl,q⟩
end
section
variable{prog:Program}{w:World}{A:Around}{E:Value->Shared->Prop}{s:Shared}
open HT in
theorem E5{t sl:Addr}{items:Array Value}{vl vu:Value}{lo hi:Option Int}{Q:Value->Shared->Prop}(ht:IsTup s.heap t items)(hs:s.heap.IsSliceOf sl vl vu .none)(pl:IsPart vl lo)(pu:IsPart vu hi)
 (hw:sIx items.size 0 lo=0/\sIx items.size items.size hi=items.size) (h:Q (.ref t) s):wpAny (model prog w) A (getItem (.ref t) (.ref sl)) Q E s:=by
 obtain⟨os,hos,hcs,hds⟩:=id hs;have hTs:s.TypeIs (.ref sl) "slice":=⟨os,hos,hcs⟩
 unfold getItem
 try with_reducible refine wpAny_holding ?_
 first | refine wpAny_bind (wpAny_pure ?_) | skip
 refine wpAny_bind (wpAny_sequenceKey ht.typeIs (by decide) ?_)
 refine wpAny_bind (wpAny_callSpecial?_slot (name:=Str.ofString "__getitem__") ht.typeIs PyProof.Rows.slot_tuple_getitem
  (wpAny_call_entry PyProof.Rows.slot_tuple_getitem ht.typeIs entry_tuple_getitem ?_ (args_tuple_getitem _ _)))
 show wpAny _ _ (Builtin.Tuple.tupleItemsOf (.ref t) >>= _) _ _ s;refine wpAny_bind (tupleItemsOf_ ht ?_);refine wpAny_bind (wpAny_typeOf hTs ?_);rw[if_pos (by decide)];refine wpAny_bind (As hs pl pu ?_)
 have hyes:(((sIx items.size 0 lo:Nat):Int) == 0&&(1:Int) == 1&&(sIx items.size items.size hi - sIx items.size 0 lo) == items.size)=true:=by
  rw[hw.1,hw.2];simp
 show wpAny _ _ (if (((sIx items.size 0 lo:Nat):Int) == 0&&(1:Int) == 1&&(sIx items.size items.size hi - sIx items.size 0 lo) == items.size)=true then _ else _) _ _ s;rw[if_pos hyes];unfold Builtin.Tuple.tupleIsExact;refine wpAny_bind (wpAny_bind (wpAny_typeOf ht.typeIs (wpAny_pure ?_)));rw[if_pos (by decide)];exact wpAny_bind (wpAny_rule (wpAny_pure ⟨_,rfl,wpAny_pure h⟩))
end
section
variable{X:Cx}
noncomputable def Ur(K:Vy):V->Option Int->Option Int->Hp->VK->Prop:=fun x lo hi H Q=>∃ a xs,x = .ref a/\SqT K H a xs/\(HT.sIx xs.length 0 lo=0/\HT.sIx xs.length xs.length hi=xs.length)/\Q (.ref a) H
theorem PZ:SlR X (Ur X.K):=by
 intro pins s σ H x v vl vu lo hi sl Q I rx hs pl pu h;obtain⟨a,xs,rfl,hx,hw,q⟩:=h;cases rx;obtain⟨its,r,ht,hz⟩:=I.tuple hx;have hlen:its.toArray.size=xs.length:=by rw[W7];exact r.length.symm
 exact⟨"tuple",_,PyProof.Rows.slot_tuple_getitem.lookup,ht.typeIs,E5 ht hs pl pu (by rw[hlen];exact hw) ⟨.ref a,H,I,rfl,q⟩⟩
end
open PySem PySem.Spec PyProof.Rows
theorem b_set:bootBuiltins "set"=some (.type "set"):=by decide +kernel
theorem Sr:bootBuiltins "len"=some (.builtin "len"):=by decide +kernel
section
variable{X:Cx}
noncomputable def Pa(K:Vy)(te:TE):TE:=fun σ H Q=>te σ H fun x H1=>∃(p:Addr) (ns:List Int),x = .ref p/\SqL K H1 p (ns.map V.int)/\ns.length+1<scanBound/\Q (.int (firstMet (fun i=>ns.getD i 0) ns.length).length) H1
theorem Ke{e:Expr}{te:TE}{p1 p2 pos1 pos2:Pos}(hc:X.calm=true)(hl:Gl X "len")(hml:X.mg "len"=none)(hs:Gl X "set")(hms:X.mg "set"=none)(he:PE X e te)
 (h1:starEach [e] X.env=(false,eval e X.env)::starEach [] X.env:=by rfl)
 (h2:starEach [.Call (.Name "set" p2) [e] [] pos2] X.env=(false,eval (.Call (.Name "set" p2) [e] [] pos2) X.env)::starEach [] X.env:=by rfl)
 (h3:(backTo pos1 (starEach [] X.env)).any (·.1)=false:=by rfl) (h4:(backTo pos2 (starEach [] X.env)).any (·.1)=false:=by rfl):
 PE X (.Call (.Name "len" p1) [.Call (.Name "set" p2) [e] [] pos2] [] pos1) (Pa X.K te):=by
 intro pins s σ H Q I h;refine wpAny_Call_Name_kw (AY I hl hml Sr ?_ (by decide) (by decide));refine PyProof.Rows.callWith_builtin1 ?_ h2 h3;rw[h2];show wpAny _ _ (spliced ((false,eval (.Call (.Name "set" p2) [e] [] pos2) X.env)::backTo pos1 (starEach [] X.env))) _ _ s;refine Calls.spliced_cons ?_;refine wpAny_Call_Name_kw (AY I hs hms b_set ?_ (by decide) (by decide));refine PyProof.Rows.callWith_type1 ?_ h1 h4;rw[h1];show wpAny _ _ (spliced ((false,eval e X.env)::backTo pos2 (starEach [] X.env))) _ _ s;refine Calls.spliced_cons (thn (he pins s σ H _ I h) fun u s1 ⟨x,H1,I1,rx,p,ns,ex,hq,hb,q1⟩=>Calls.spliced_nil ?_);subst ex;cases rx;obtain⟨its,r',pl,hz⟩:=I1.list hq;have hlen:=r'.length;rw[W2]at hlen;refine call_set_list (items:=its.toArray) (ns:=ns) (I1.ok.hd hc) pl.isList (by simpa using AT r') (by simp only[W7];omega) fun h' tk hS hk=>?_;refine Calls.spliced_nil ?_;have I2:Inv X pins σ H1 {s1 with heap:=h',toks:=tk}:=I1.kept fun b o e=>hk b o (WH e) e;obtain⟨o,es,ep,t,ho,hex,hd,_,_,hbb,hf,hn⟩:=hS;refine call_len_set (s:={s1 with heap:=h',toks:=tk}) ho hex hd hf (by unfold scanBound at hbb;omega) ?_;refine⟨.int _,H1,I2.tok _,⟨_,rfl⟩,?_⟩;rw[hn];simp only[W7];rw[<-hlen];exact q1
end
open PySem PySem.Spec PyProof.Rows
noncomputable def Up(xs:Array Nat):Prop:=∀ i j (hi:i<xs.size) (hj:j<xs.size),i<j->xs[i]<xs[j]
theorem up_list{xs:Array Nat}:Up xs↔xs.toList.Pairwise (·<·):=by
 rw[Wt]
 exact⟨fun h i j hi hj hij=>by simpa using h i j (by simpa using hi) (by simpa using hj) hij,fun h i j hi hj hij=>by
  have:=h i j (by simpa using hi) (by simpa using hj) hij
  rwa [Z1,Z1]at this⟩
theorem Mf{xs:Array Nat}(hu:Up xs)(j:Nat):∀(f lo hi:Nat),hi<=xs.size->lo<=hi->hi - lo<=f->(∀ i (h:i<xs.size),i<lo->xs[i]<j)->(∀ i (h:i<xs.size),hi<=i->j<=xs[i])->
 (SetTable.below.go xs j f lo hi)<=xs.size/\(∀ i (h:i<xs.size),i<SetTable.below.go xs j f lo hi->xs[i]<j)/\(∀ i (h:i<xs.size),SetTable.below.go xs j f lo hi<=i->j<=xs[i]):=by
 intro f
 induction f with
 | zero=>
   intro lo hi h1 h2 h3 h4 h5;have:lo=hi:=by omega
   subst this;unfold SetTable.below.go;exact⟨h1,h4,h5⟩
 | succ f ih=>
   intro lo hi h1 h2 h3 h4 h5;unfold SetTable.below.go;by_cases hlh:lo<hi
   ·rw[if_pos hlh];have hm:(lo+hi) / 2<xs.size:=by omega
    have e:xs.getD ((lo+hi) / 2) j=xs[(lo+hi) / 2]:=by simp[ZU,hm]
    dsimp only;rw[e];by_cases hc:xs[(lo+hi) / 2]<j
    ·rw[if_pos hc];refine ih _ _ h1 (by omega) (by omega) (fun i h hi'=>?_) h5;by_cases z:i=(lo+hi) / 2
     ·subst z;exact hc
     ·exact ZF (hu i _ h hm (by omega)) hc
    ·rw[if_neg hc];refine ih _ _ (by omega) (by omega) (by omega) h4 (fun i h hi'=>?_);by_cases z:i=(lo+hi) / 2
     ·subst z;omega
     ·have:=hu _ i hm h (by omega);omega
   ·rw[if_neg hlh];have:lo=hi:=by omega
    subst this;exact⟨h1,h4,h5⟩
theorem GG{xs:Array Nat}(hu:Up xs)(j:Nat):SetTable.below xs j<=xs.size/\(∀ i (h:i<xs.size),i<SetTable.below xs j->xs[i]<j)/\(∀ i (h:i<xs.size),SetTable.below xs j<=i->j<=xs[i]):=
 Mf hu j xs.size 0 xs.size (WB _) (XQ _) (by omega) (fun i _ h=>absurd h (Y4 _)) (fun i h h'=>absurd h (Nat.not_lt.mpr h'))
theorem Ss{xs:Array Nat}(hu:Up xs){j:Nat}(hn:xs[SetTable.below xs j]?≠some j):Up (SetTable.insertAt xs (SetTable.below xs j) j):=by
 obtain⟨h1,h2,h3⟩:=GG hu j;rw[up_list,SetTable.toList_insertAt];have hl:=up_list.mp hu
 have hgt:∀ i (h:i<xs.size),SetTable.below xs j<=i->j<xs[i]:=by
  intro i h hi;have:=h3 i h hi;by_cases z:SetTable.below xs j=i
  ·have:xs[i]≠j:=fun e=>hn (by rw[z];simp[h,e]);omega
  ·have a:=hu _ i (by omega) h (Nat.lt_of_le_of_ne hi z);have b:=h3 (SetTable.below xs j) (by omega) (WB _);omega
 rw[Z0];refine⟨hl.take,?_,?_⟩
 ·rw[Xt];refine⟨fun y hy=>?_,hl.drop⟩;obtain⟨i,hi,e⟩:=Xh.mp hy;rw[ZG]at e;have hi':SetTable.below xs j+i<xs.size:=by simp at hi;omega
  have:=hgt _ hi' (ZM _ _);rw[<-e];simpa using this
 ·intro x hx y hy;obtain⟨i,hi,e⟩:=Xh.mp hx;have hib:i<SetTable.below xs j:=by simp at hi;omega
  have hx':x<j:=by
   rw[<-e,List.getElem_take];have:=h2 i (by omega) hib;simpa using this
  rcases WN.mp hy with rfl | hy
  ·exact hx'
  ·obtain⟨k,hk,e2⟩:=Xh.mp hy;rw[ZG]at e2;have hk':SetTable.below xs j+k<xs.size:=by simp at hk;omega
   have:=hgt _ hk' (ZM _ _);have h:xs.toList[SetTable.below xs j+k]'(by simpa using hk')=xs[SetTable.below xs j+k]:=by simp
   rw[h]at e2;omega
structure Tab(w:World)(t:SetTable):Prop where
 up:Up t.place
 no:t.dummies=#[]
 led:t.led=!w.params.followText "set-order"
theorem Mg{w:World}{t:SetTable}(T:Tab w t)(j:Nat):t.slot j ≠ .dummy:=by
 unfold SetTable.slot;rw[T.no];dsimp only;split
 ·exact fun z=>nomatch z
 ·have:SetTable.has #[] j=false:=rfl;rw[this];exact fun z=>nomatch z
theorem Su{w:World}{t:SetTable}(T:Tab w t)(g:Nat->Int)(h:Int):∀(f:Nat) (p:SetTable.Probe) (j:Nat) (d:Option Nat),p.dummy=none->SetTable.probe.go t g h f p=some (.empty j d)->t.slot j = .empty/\d=none:=by
 intro f
 induction f with
 | zero=>intro p j d _ e;unfold SetTable.probe.go at e;cases e
 | succ f ih=>
   intro p j d hp e
   have adv:∀ q:SetTable.Probe,q.dummy=none->(t.advance q).dummy=none:=by
    intro q hq;unfold SetTable.advance;split
    ·exact hq
    ·exact hq
   unfold SetTable.probe.go at e;split at e
   ·rename_i hs;cases e;exact⟨hs,hp⟩
   ·rename_i hs;exact absurd hs (Mg T _)
   ·split at e
    ·cases e
    ·exact ih _ _ _ (adv _ hp) e
theorem Mj{w:World}{t:SetTable}(T:Tab w t){h:Int}{j:Nat}{b:Bool}(e:t.freeSlot h=some (j,b)):t.place[SetTable.below t.place j]?≠some j:=by
 unfold SetTable.freeSlot at e;split at e
 ·rename_i j' d hp;unfold SetTable.probe at hp;obtain⟨hs,hd⟩:=Su T _ _ _ _ _ _ rfl hp;subst hd;cases e;unfold SetTable.slot at hs;dsimp only[Yj]at hs ⊢;split at hs
  ·cases hs
  ·rename_i hn;intro z;exact hn (by rw[z];simp)
 ·cases e
theorem Bs{w:World}{t:SetTable}(T:Tab w t)(n:Nat):Tab w (t.standIn n):=by
 refine⟨?_,rfl,T.led⟩;show Up (Array.range n);intro i j hi hj hij;simpa using hij
theorem Sv{w:World}{t:SetTable}(T:Tab w t)(n:Nat):Tab w (t.orStandIn n):=by
 unfold SetTable.orStandIn;split
 ·exact T
 ·exact Bs T n
theorem Pb{w:World}{t:SetTable}(T:Tab w t)(es:Array (Int×Value))(h:Int)(x:Value):Tab w (layNew t es h x).2.1:=by
 unfold layNew;split
 ·rename_i j b e;refine Sv (t:=(t.put j).1) ⟨Ss T.up (Mj T e),?_,T.led⟩ _;show(if SetTable.has t.dummies j=true then _ else t.dummies)=#[];rw[T.no];rfl
 ·exact Bs T _
theorem Kf{w:World}{t:SetTable}(T:Tab w t)(es:Array (Int×Value))(n:Nat):Tab w (relayAll t es n).2.1:=by
 unfold relayAll;split
 ·rename_i t' order e;dsimp only;split
  ·unfold SetTable.relaid SetTable.laid at e;obtain⟨owner,_,e⟩:=Option.bind_eq_some_iff.mp e;have e':=oj e;have e1:=congrArg Prod.fst e';subst e1;refine⟨?_,rfl,T.led⟩;rw[up_list]
   have key:∀ l:List Nat,l.Pairwise (·<·)->((l.filterMap fun j=>(owner.getD j none).map (j,·)).map (·.1)).Pairwise (·<·):=by
    intro l hl
    have:(l.filterMap fun j=>(owner.getD j none).map (j,·)).map (·.1)=l.filter fun j=>(owner.getD j none).isSome:=by
     induction l with
     | nil=>rfl
     | cons a l ih=>
       have ih:=ih (Xt.mp hl).2;cases ho:owner.getD a none with
       | none=>rw[List.filterMap_cons_none (by rw[ho];rfl),List.filter_cons_of_neg (by rw[ho];simp),ih]
       | some b=>rw[Yg (b:=(a,b)) (by rw[ho];rfl),List.filter_cons_of_pos (by rw[ho];rfl),Wl,ih]
    rw[this];exact hl.filter _
   simpa using key _ YH
  ·exact Bs T _
 ·exact Bs T _
noncomputable def SetX(prog:Program)(w:World)(h:Heap)(a:Addr)(L:List Int):Prop:=
 ∃ o es ep t,h.get? a=some o/\o.ExactSet/\o.data = .set es ep t/\ElemsOf (intKind prog w) es.toList/\es.size<scanBound/\t.fits es.size=true/\Tab w t/\(es.toList.map fun e=>numOf e.2).Perm L
section
variable{prog:Program}{w:World}{A:Around}{E:Value->Shared->Prop}{s:Shared}
theorem SetX.keep{h h':Heap}{a:Addr}{L:List Int}(x:SetX prog w h a L)(k:∀ o,h.get? a=some o->h'.get? a=some o):SetX prog w h' a L:=by
 obtain⟨o,es,ep,t,ho,r⟩:=x;exact⟨o,es,ep,t,k o ho,r⟩
theorem D8{k:Int}{v:Value}(h:(intKind prog w).is k v=true):numOf v=k:=by
 obtain⟨t,rfl⟩:=Value.isInt_shape (k:=k) (v:=v) h;rfl
theorem Ml{h:Heap}{a:Addr}{o:Obj}{es es':Array (Int×Value)}{ep:Nat}{t t':SetTable}{L:List Int}(ho:h.get? a=some o)(hx:o.ExactSet)(hd:o.data = .set es ep t)
 (he:ElemsOf (intKind prog w) es'.toList) (hb:es'.size<scanBound) (hf:t'.fits es'.size=true) (hT:Tab w t') (hp:(es'.toList.map fun e=>numOf e.2).Perm L):
 (h.update a (Obj.putSet es' t')).get? a=some {o with data := .set es' (ep+1) t'}/\SetX prog w (h.update a (Obj.putSet es' t')) a L:=by
 have g:=Ww (Obj.putSet es' t') ho (by rw[putSet_of es' t' hd];rfl);rw[putSet_of es' t' hd]at g;exact⟨g,_,es',ep+1,t',g,hx,rfl,he,hb,hf,hT,hp⟩
theorem RH{g:Bool->Sem Unit}(hg:∀(b:Bool) (s₁:Shared) (Q':Unit->Shared->Prop),Q' () s₁->wpAny (model prog w) A (g b) Q' E s₁){a:Addr}{o:Obj}{es es1:Array (Int×Value)}{ep:Nat}{t t2:SetTable}{L:List Int}{dm:Bool}
 {R:Option Bool->Shared->Prop} (ho:s.heap.get? a=some o) (hx:o.ExactSet) (hd:o.data = .set es ep t) (he:ElemsOf (intKind prog w) es1.toList) (hb:es1.size<scanBound) (hf:t2.fits es1.size=true) (hT:Tab w t2) (hp:(es1.toList.map fun e=>numOf e.2).Perm L)
 (h:∀ h',Wv a s.heap h'->SetX prog w h' a L->R (some true) {s with heap:=h'}):
 wpAny (model prog w) A (do
  storeSet a es1 t2
  if (!dm&&t2.tooFull)=true then do
      g (relayAll t2 es1 (SetTable.grown es1.size)).2.2
      storeSet a (relayAll t2 es1 (SetTable.grown es1.size)).1 (relayAll t2 es1 (SetTable.grown es1.size)).2.1
      pure (some true)
   else pure (some true)) R E s:=by
 obtain⟨g1,x1⟩:=Ml (prog:=prog) ho hx hd he hb hf hT hp;have b1:=Wv.update s.heap a (Obj.putSet es1 t2);refine wpAny_bind (wpAny_storeSet_of ho hd ?_ (fits_of_scanBound hb));by_cases hc:(!dm&&t2.tooFull)=true
 ·rw[if_pos hc];have hpr:=relayAll_perm t2 es1 (SetTable.grown es1.size);have hfr:=relayAll_fits t2 es1 (SetTable.grown es1.size);have hTr:=Kf hT es1 (SetTable.grown es1.size)
  have hsz:(relayAll t2 es1 (SetTable.grown es1.size)).1.size<scanBound:=by
   rw[<-WM,hpr.length_eq,WM];exact hb
  obtain⟨_,x2⟩:=Ml (prog:=prog) g1 hx rfl (he.perm hpr) hsz hfr hTr ((hpr.map _).trans hp);exact wpAny_bind (hg _ _ _ (wpAny_bind (wpAny_storeSet_of g1 rfl (wpAny_pure (h _ (b1.trans (Wv.update _ a _)) x2)) (fits_of_scanBound hsz))))
 ·rw[if_neg hc];exact wpAny_pure (h _ b1 x1)
theorem Us{a:Addr}{L:List Int}{k:Int}{tk:Tok}{Q:Bool->Shared->Prop}(hX:SetX prog w s.heap a L)(hroom:L.length+1<scanBound)
 (h:∀ h' b,Wv a s.heap h'->SetX prog w h' a (step_dedup L k)->Q b {s with heap:=h'}):wpAny (model prog w) A (setAddHashed a (.int k tk) ((intKind prog w).hash k)) Q E s:=by
 obtain⟨o,es,ep,t,ho,hx,hd,hel,hb,hf,hT,hp⟩:=hX;have hkey:(intKind prog w).is k (.int k tk)=true:=intKind_is _ _ _ _;have hsz:es.size=L.length:=by rw[<-hp.length_eq,W2,WM]
 unfold setAddHashed setAddHashedIn;refine wpAny_holding (wpAny_bind (wpAny_setState_of ho hd hf ?_));dsimp only;rw[byScan_of (knd:=intKind prog w) rfl hb hel,if_pos rfl];unfold setAddByScan;refine wpAny_bind (wpAny_bind (wpAny_rule (wpAny_bind (wpAny_setScan_of hkey ho hd hf hel ?_))))
 have hin:(L.any (· == k))=true↔∃ e∈es.toList,(intKind prog w).is k e.2=true:=by
  rw[Xs];constructor
  ·rintro⟨x,hxL,e⟩;obtain⟨y,hy,ey⟩:=WZ.mp (hp.mem_iff.mpr hxL);obtain⟨⟨k',hk',_⟩,_⟩:=hel y hy;have:numOf y.2=k':=D8 hk';have:k'=k:=by rw[<-this,ey];simpa using e
   subst this;exact⟨y,hy,hk'⟩
  ·rintro⟨y,hy,hk'⟩;refine⟨k,hp.mem_iff.mp (WZ.mpr ⟨y,hy,D8 hk'⟩),by simp⟩
 cases hr:List.findIdx? (fun e=>(intKind prog w).is k e.2) es.toList with
 | some j=>
   obtain⟨hj,hpj,_⟩:=List.findIdx?_eq_some_iff_getElem.mp hr;have hL:step_dedup L k=L:=by unfold step_dedup;rw[if_pos (hin.mpr ⟨_,X0 hj,hpj⟩)]
   refine wpAny_pure (wpAny_pure ?_);exact h s.heap _ (Wv.refl a s.heap) (by rw[hL];exact⟨o,es,ep,t,ho,hx,hd,hel,hb,hf,hT,hp⟩)
 | none=>
   have hL:step_dedup L k=L++[k]:=by
    unfold step_dedup;rw[if_neg];intro z;obtain⟨e,he,hk'⟩:=hin.mp z;have:=List.findIdx?_eq_none_iff.mp hr e he;rw[hk']at this;cases this
   have q1:=layNew_perm t es ((intKind prog w).hash k) (.int k tk);have q2:=layNew_fits t es ((intKind prog w).hash k) (.int k tk);have q3:=Pb hT es ((intKind prog w).hash k) (.int k tk);generalize layNew t es ((intKind prog w).hash k) (.int k tk)=lay at q1 q2 q3 ⊢;obtain⟨es1,t1,dm,gv⟩:=lay;dsimp only at q1 q2 q3 ⊢;rw[Xl]at q1;have he1:ElemsOf (intKind prog w) es1.toList:=(hel.push hkey rfl).perm q1
   have hz1:es1.size<scanBound:=by
    rw[<-WM,q1.length_eq,W3,WM,hsz];simpa using hroom
   have hp1:(es1.toList.map fun e=>numOf e.2).Perm (step_dedup L k):=by
    rw[hL];refine(q1.map _).trans ?_;rw[Wn];exact hp.append_right _
   have hgw:∀(b:Bool) (s₁:Shared) (Q':Unit->Shared->Prop),Q' () s₁->wpAny (model prog w) A (match b with | true=>rule "set.scan.the-table-gave-way" | false=>pure ()) Q' E s₁:=
    fun b s₁ Q' hq=>by cases b<;>first | exact wpAny_pure hq | exact wpAny_rule hq
   refine wpAny_bind (hgw _ _ _ ?_);split
   ·refine wpAny_bind ?_;rw[hashByValue_scannable 8 rfl];refine wpAny_pure (RH hgw ho hx hd he1 hz1 q2 q3 hp1 fun h' hsb hX'=>?_);exact wpAny_pure (h h' _ hsb hX')
   ·refine wpAny_bind (wpAny_pure ?_);rw[if_pos rfl];refine RH hgw ho hx hd he1 hz1 q2 q3 hp1 fun h' hsb hX'=>?_;exact wpAny_pure (h h' _ hsb hX')
end
section
variable{prog:Program}{w:World}{A:Around}{R:Result->Shared->Prop}{I:Addr}{fp wr:List Addr}{G:Array GenState->Array GenState->Prop}{n:Nat}{P:Nat->Value->Prop}{St:Nat->Shared->Prop}
theorem Vm(W:WalksS prog w A.in1 I fp wr G n P St)(S:Addr)(hSf:S∉fp)(val:Nat->Int)(hval:∀ i v,P i v->∃ t,v = .int (val i) t)(hb:n+1<scanBound):
 ∀(k i:Nat) (s:Shared),i+k=n->St i s->SetX prog w s.heap S (firstMet val i)->
  (∀ s',Moved (S::wr) G s s'->SetX prog w s'.heap S (firstMet val n)->R (.ok (.ret .none)) s')->
  codeAny (model prog w) A (.builtin "set.update.loop" ⟨[.ref S,.ref I],[]⟩) R s:=by
 have nw:S∉wr:=fun z=>hSf (W.sub _ z);have up:∀ b∈wr,b∈S::wr:=fun b hb=>W9 _ hb;intro k
 induction k with
 | zero=>
   intro i s hk hst hX hR;obtain rfl:i=n:=hk;refine codeAny_builtin F.entry_set_update_loop ?_;rw[Around.under_plainId F.plain_set_update_loop _];exact wpAny_bind (m:=pyNext (.ref I)) (W.done s _ _ hst fun s' hm=>wpAny_pure (hR s' (hm.mono up) (hX.keep fun o e=>hm.heap S o nw e)))
 | succ k ih=>
   intro i s hk hst hX hR;refine codeAny_builtin F.entry_set_update_loop ?_;rw[Around.under_plainId F.plain_set_update_loop _];refine wpAny_bind (m:=pyNext (.ref I)) (W.item i s _ _ (by omega) hst fun v s1 hP st1 hm=>?_);obtain⟨t,rfl⟩:=hval i v hP;refine wpAny_bind (m:=holding [Value.int (val i) t] (setAdd S (.int (val i) t))) (wpAny_holding ?_);unfold setAdd;have X1:SetX prog w s1.heap S (firstMet val i):=hX.keep fun o e=>hm.heap S o nw e;have room:(firstMet val i).length+1<scanBound:=by have:=firstMet_length_le val i;omega
   refine wpAny_holding (wpAny_bind ((intKind prog w).pyHash (k:=val i) (intKind_is _ _ _ _) ?_));refine Us (s:={s1 with toks:=s1.toks+1}) X1 room fun h2 b hsb X2=>?_;rw[<-firstMet_succ]at X2;have oth:∀ b o,b≠S->s1.heap.get? b=some o->h2.get? b=some o:=fun b o hne e=>(hsb.2 b hne).trans e;refine wpAny_pure ⟨plainId_quiet F.plain_set_update_loop _,ih (i+1) _ (by omega) (W.frame _ s1 _ _ st1 (Y7 _) fun b hbf o e=>oth b o (fun z=>hSf (z▸hbf)) e) X2 fun s3 m3 X3=>?_⟩;exact hR s3 (Moved.trans W.gtrans ((hm.mono up).then_heap (Y7 _) fun b o hb e=>oth b o (fun z=>hb (by rw[z];exact WK)) e) m3) X3
end
section
variable{prog:Program}{w:World}{A:Around}{E:Value->Shared->Prop}{s:Shared}
noncomputable abbrev CB(w:World):Obj:={cls := .type "set",dict:=none,data := .set #[] 0 (.fresh 0 0 (!w.params.followText "set-order"))}
theorem Vn(a:Value){Q₁:Value->Shared->Prop}(h:Q₁ (.ref s.heap.objs.size) {s with heap:=s.heap.push (CB w)}):codeAny (model prog w) A (.call (.builtin "set.__new__") ⟨[.type "set",a],[]⟩) (wants Q₁ E) s:=by
 refine codeAny_of_tree ?_;show wpAny _ A.in1 (checkBuiltinCall "set.__new__" ⟨[.type "set",a],[]⟩ >>= fun _=>again (.builtin "set.__new__" ⟨[.type "set",a],[]⟩)) _ _ s;refine wpAny_bind (wpAny_of_eq (F.newCall_set_1 a) (wpAny_pure ⟨plainId_quiet F.plain_set_new _,codeAny_builtin F.entry_set_new ?_⟩));rw[Around.under_plainId F.plain_set_new _];unfold Builtin.«set.__new__» Builtin.Frozenset.newClass;have sub:=sub_set_self;obtain⟨hp,g,d,tk,os⟩:=s;dsimp only
 wp_walk
 refine wpAny_askSetting (wpAny_pure ?_);dsimp only;simp only[newObj];exact wpAny_bind (wpAny_alloc (wpAny_pure (wpAny_pure h)))
theorem Mn(h:Heap):SetX prog w (h.push (CB w)) h.objs.size []:=
 ⟨_,#[],0,_,WL _ rfl,⟨rfl,rfl,rfl⟩,rfl,fun e he=>by simp at he,by decide,rfl,⟨fun i j hi=>absurd hi (Y4 _),rfl,rfl⟩,by simp⟩
set_option maxHeartbeats 8000000 in
theorem Ut{l:Addr}{items:Array Value}{ns:List Int}{Q:Value->Shared->Prop}(hh:A.handled=none)(hl:s.heap.IsList l items)(hi:IntsAre items.toList ns)(hb:items.size+1<scanBound)
 (h:∀(h':Heap) (tk:Nat),SetX prog w h' s.heap.objs.size (firstMet (fun i=>ns.getD i 0) items.size)->(∀ b o,b<s.heap.objs.size->s.heap.get? b=some o->h'.get? b=some o)->Q (.ref s.heap.objs.size) {s with heap:=h',toks:=tk}):
 wpAny (model prog w) A (call (.type "set") [.ref l]) Q E s:=by
 obtain⟨c,tl,hmro⟩:=F.called_set.mro;have made:=F.called_set.made;have sub:=F.called_set.sub;have u1:=F.called_set.notType;have u2:=F.called_set.canCreate;have u3:=F.typeCall_set_1 (.ref l);refine wpAny_call (codeAny_of_tree ?_);show wpAny _ _ (callAny (.type "set") _) _ _ _;refine wpAny_pure ⟨Code.quiet_builtin _ (by decide +kernel),codeAny_builtin F.entry_type_call ?_⟩;rw[Around.under_plain (weight_type_call_type "set" [.ref l] []) rfl]
 repeat (any_goals (first | assumption | wp_step))
 refine codeAny_mono (Vn (.ref l) (E:=E) (Q₁:=fun obj s₁=>obj = .ref s.heap.objs.size/\s₁={s with heap:=s.heap.push (CB w)}) ⟨rfl,rfl⟩) fun r s₁ hr=>?_;cases r with
 | error e=>exact hr
 | ok fl=>
   cases fl with
   | ret obj=>
     obtain⟨rfl,rfl⟩:=hr;have gS:(s.heap.push (CB w)).get? s.heap.objs.size=some (CB w):=WL _ rfl;have hT:Shared.TypeIs {s with heap:=s.heap.push (CB w)} (.ref s.heap.objs.size) "set":=⟨_,gS,rfl⟩
     have u4:=F.called_set.init.lookup;have u5:=F.called_set.init.bind (.ref s.heap.objs.size)
     repeat (any_goals (first | assumption | wp_step))
     refine codeAny_mono (codeAny_call_builtin (R:=wants (fun r s₂=>r = .none/\∃ h' tk,s₂={s with heap:=h',toks:=tk}/\SetX prog w h' s.heap.objs.size (firstMet (fun i=>ns.getD i 0) items.size)/\
      (∀ b o,b<s.heap.objs.size->s.heap.get? b=some o->h'.get? b=some o)) E) F.called_set.init.plain F.entry_set_init (check_set_init_1 hT ?_)) fun r₂ s₂ hr₂=>?_
     ·obtain⟨⟨cl,di,da,sl⟩,ol,cl',nl,da'⟩:=hl;simp only at cl' da';subst cl' da';have hol:(s.heap.push (CB w)).get? l=some {cls := .type "list",dict:=di,data := .seq items nl,slots:=sl}:=W8 _ ol;have v1:=F.sub_list_set;have v2:=F.sub_list_frozenset;have v3:(Value.type "list" == Value.type "dict")=false:=by decide
      have hl1:(s.heap.push (CB w)).IsList l items:=⟨_,hol,rfl,nl,rfl⟩
      unfold Builtin.«set.__init__» noKeywords Builtin.Frozenset.updateFrom;generalize hPI:pyIter=PI
      wp_walk
      subst hPI;refine wpAny_pyIter_list hl1 (wpAny_bind (wpAny_runValue ?_));have lS:l<s.heap.objs.size:=WH ol;have z1:(s.heap.push (CB w)).objs.size=s.heap.objs.size+1:=XD _ _;have lI:l≠(s.heap.push (CB w)).objs.size:=by rw[z1];exact WR (Xk lS)
      have hSf:s.heap.objs.size∉[(s.heap.push (CB w)).objs.size,l]:=by
       rw[z1];intro z;rcases WN.mp z with z | z
       ·exact absurd z (WR (YK _))
       ·exact absurd (W6.mp z) (Zb lS)
      have hval:∀(i:Nat) (v:Value),items[i]?=some v->∃ t,v = .int ((fun i=>ns.getD i 0) i) t:=fun i v hv=>IntsAre.int_at hi i v (by rw[XA];exact hv)
      refine Vm ((Walks.list (by simp[hh]) _ l lI items).toS) s.heap.objs.size hSf (fun i=>ns.getD i 0) hval hb items.size 0 _ (XV _)
       ⟨⟨_,WL _ rfl,rfl,rfl⟩,hl1.push _⟩ ((Mn s.heap).keep fun o e=>W8 _ e) fun s' hm X'=>?_
      obtain⟨h',g',d',tk',os'⟩:=s';obtain rfl:g'=s.gens:=hm.gens;obtain rfl:d'=s.drawn:=hm.drawn;obtain rfl:os'=s.os:=hm.os;refine wpAny_pure (wpAny_pure ⟨rfl,h',tk',rfl,X',fun b o hb e=>hm.heap b o (fun z=>?_) (W8 _ (W8 _ e))⟩);rcases WN.mp z with z | z
      ·exact absurd z (WR hb)
      ·have z':=W6.mp z;rw[z1]at z';exact absurd z' (WR (Xk hb))
     ·cases r₂ with
      | error e=>exact hr₂
      | ok fl₂=>
        cases fl₂ with
        | ret r=>
          obtain⟨rfl,h',tk,rfl,X',hk'⟩:=hr₂
          repeat (any_goals (first | assumption | wp_step))
          exact h _ _ X' hk'
        | _=>exact hr₂.elim
   | _=>exact hr.elim
end
open PySem PySem.Spec PyProof.Rows
namespace SiF
theorem slot_si_next:Slot "set_iterator" "__next__" "set_iterator.__next__":=
 .of (owner:="set_iterator") (n:="__next__") (by rw[typeLookup_type,builtinLookup_eq_fast];kernel_rfl) (by decide +kernel) (by decide +kernel) (by decide +kernel)
  (by first | exact .inl (by decide +kernel) | exact .inr (by decide +kernel)) (by rw[isSubtype_type];kernel_rfl)
theorem entry_si_next:entryFor table "set_iterator.__next__"=some Builtin.«set_iterator.__next__»:=entryFor_of_fast (by kernel_rfl)
theorem args_si_next(a:Value):argsOk "set_iterator.__next__" ⟨[a],[]⟩:=by unfold argsOk;kernel_rfl
theorem slot_si_iter:Slot "set_iterator" "__iter__" "set_iterator.__iter__":=
 .of (owner:="set_iterator") (n:="__iter__") (by rw[typeLookup_type,builtinLookup_eq_fast];kernel_rfl) (by decide +kernel) (by decide +kernel) (by decide +kernel)
  (by first | exact .inl (by decide +kernel) | exact .inr (by decide +kernel)) (by rw[isSubtype_type];kernel_rfl)
theorem entry_si_iter:entryFor table "set_iterator.__iter__"=some Builtin.«dict_keyiterator.__iter__»:=entryFor_alias (id':="dict_keyiterator.__iter__") (by kernel_rfl) rfl (by decide +kernel) (by kernel_rfl)
theorem args_si_iter(a:Value):argsOk "set_iterator.__iter__" ⟨[a],[]⟩:=by unfold argsOk;kernel_rfl
theorem entry_set_iter:entryFor table "set.__iter__"=some Builtin.«frozenset.__iter__»:=entryFor_alias (id':="frozenset.__iter__") (by kernel_rfl) rfl (by decide +kernel) (by kernel_rfl)
end SiF
theorem CC{α:Type}:∀{l:List α} {i:Nat} (h:i<l.length),(l[i]::l.eraseIdx i).Perm l
 | a::l,0,h => .rfl
 | a::l,i+1,h=>(List.Perm.swap a _ _).trans ((CC (l:=l) (i:=i) (by simpa using h)).cons a)
section
variable{prog:Program}{w:World}{A:Around}{E:Value->Shared->Prop}
theorem Pc{src:Source}{n:Nat}(hn:n≠0){s:Shared}{Q:Nat->Shared->Prop}(h:∀ i d,i<n->Q i {s with drawn:=d}):wpAny (model prog w) A (choose src n) Q E s:=by
 intro Γ p hΓ;show Sem.wp _ _ (.choose src n .pure) _ _ _ _;rw[Sem.wp_choose];exact⟨hn,h _ _ (Zk _ (YC hn))⟩
theorem RI{α:Type}:∀(n:Nat) (xs:List α) (s:Shared) (Q:List α->Shared->Prop),xs.length=n->(∀ ys d,ys.Perm xs->Q ys {s with drawn:=d})->wpAny (model prog w) A (drawOrder n xs) Q E s
 | 0,xs,s,Q,hl,h=>by
   unfold drawOrder;have:xs=[]:=YO hl;subst this;exact wpAny_pure (h [] s.drawn .rfl)
 | n+1,[],s,Q,hl,h=>by cases hl
 | n+1,x::xs,s,Q,hl,h=>by
   unfold drawOrder;refine wpAny_bind (Pc (by simp) fun i d hi=>?_);rw[W0 hi];dsimp only;refine wpAny_bind (RI n _ _ _ (by rw[Yd hi];simp at hl ⊢;omega) fun ys d' hp=>wpAny_pure (h _ d' ?_));exact((hp.cons _)).trans (CC hi)
end
theorem JJ{α:Type}(f:Nat->Nat):∀(n k:Nat) (left:List α) (out:Array α),left.length=n->(pickOrder.go f n k left out).toList.Perm (out.toList++left)
 | 0,k,left,out,hl=>by
   have:left=[]:=YO hl;subst this;unfold pickOrder.go;simp
 | n+1,k,left,out,hl=>by
   unfold pickOrder.go;have hi:f k % left.length<left.length:=Zk _ (by omega);rw[W0 hi];dsimp only;refine(JJ f n (k+1) _ _ (by rw[Yd hi];omega)).trans ?_;rw[Xl,WV];exact List.Perm.append_left _ (CC hi)
theorem Kg{α:Type}(f:Nat->Nat)(xs:Array α):(pickOrder f xs).toList.Perm xs.toList:=by
 unfold pickOrder;simpa using JJ f xs.size 0 xs.toList #[] (by simp)
end L2
set_option maxHeartbeats 400000
namespace L2
open PySem PySem.Spec PyProof.Rows
noncomputable def SetAt(w:World)(h:Heap)(a:Addr)(es:Array (Int×Value))(ep:Nat)(t:SetTable):Prop:=∃ o,h.get? a=some o/\o.cls = .type "set"/\o.data = .set es ep t/\t.fits es.size=true/\Tab w t
theorem SetAt.keep{w:World}{h h':Heap}{a:Addr}{es:Array (Int×Value)}{ep:Nat}{t:SetTable}(x:SetAt w h a es ep t)(k:∀ o,h.get? a=some o->h'.get? a=some o):SetAt w h' a es ep t:=let ⟨o,e,r⟩:=x;⟨o,k o e,r⟩
noncomputable def slotAt(t:SetTable)(i:Nat):Nat:=if i=0 then 0 else t.place.getD (i - 1) 0+1
theorem Hz{w:World}{t:SetTable}(T:Tab w t){i:Nat}(hi:i<=t.place.size):SetTable.below t.place (slotAt t i)=i:=by
 obtain⟨h1,h2,h3⟩:=GG T.up (slotAt t i);by_cases z:i=0
 ·subst z;have e:slotAt t 0=0:=rfl;rw[e]at h2 h1 ⊢;by_cases q:SetTable.below t.place 0=0
  ·exact q
  ·have:=h2 0 (by omega) (by omega);omega
 ·have e:slotAt t i=t.place[i - 1]'(by omega)+1:=by unfold slotAt;rw[if_neg z];simp[ZU,show i - 1<t.place.size by omega]
  rw[e]at h1 h2 h3 ⊢;rcases ZH (SetTable.below t.place (t.place[i - 1]'(by omega)+1)) i with q | q | q
  ·have:=h3 (i - 1) (by omega) (by omega);omega
  ·exact q
  ·have hi2:i<t.place.size:=by omega
   have a:=h2 i hi2 q;have b:=T.up (i - 1) i (by omega) hi2 (by omega);omega
inductive Way(w:World)(h:Heap)(T0 S:Addr)(es:Array (Int×Value))(ep:Nat)(t:SetTable)(fs:List (Int×Value))(i:Nat):Value->Prop where
 | text (hw:w.params.followText "set-order"=true) (hf:fs=(pickOrder (w.params.setOrder S ep) es).toList):Way w h T0 S es ep t fs i (.int 0 0)
 | table (hw:w.params.followText "set-order"=false) (hd:(!t.plain&&decide (es.size>1))=false) (hf:fs=es.toList):Way w h T0 S es ep t fs i (.int (slotAt t i:Nat) 0)
 | drawn (hw:w.params.followText "set-order"=false) (pl:List Nat) (o:Obj) (n:Nat) (ho:h.get? T0=some o) (hd:o.data = .seq (pl.map fun k=>Value.int (k:Nat) 0).toArray n) (hl:pl.length=fs.length)
    (hf:∀(k:Nat) p,pl[k]?=some p->es[p]?=fs[k]?):Way w h T0 S es ep t fs i (.ref T0)
noncomputable def Sit(w:World)(h:Heap)(T0 I S:Addr)(es:Array (Int×Value))(ep:Nat)(t:SetTable)(fs:List (Int×Value))(i:Nat):Prop:=
 ∃ o first,h.get? I=some o/\o.cls = .type "set_iterator"/\o.data = .fields #[first,.int (i:Nat) 0,.ref S,.int (es.size:Nat) 0,.int (ep:Nat) 0]/\Way w h T0 S es ep t fs i first
section
variable{prog:Program}{w:World}{A:Around}{E:Value->Shared->Prop}{s:Shared}{T0 I S:Addr}{es:Array (Int×Value)}{ep:Nat}{t:SetTable}{fs:List (Int×Value)}{i:Nat}
theorem Sit.typeIs(x:Sit w s.heap T0 I S es ep t fs i):s.TypeIs (.ref I) "set_iterator":=let ⟨o,_,e,c,_⟩:=x;⟨o,e,c⟩
theorem Az{b:Bool}(hw:w.params.followText "set-order"=b){Q:Bool->Shared->Prop}(h:Q b s):wpAny (model prog w) A setsByText Q E s:=by
 unfold setsByText;refine wpAny_bind (wpAny_askSetting (wpAny_pure ?_));show Q (w.params.followText "set-order") s;rw[hw];exact h
theorem CL{sl:Nat}{Q:Option (Value×Nat)->Shared->Prop}(y:SetAt w s.heap S es ep t)(hw:w.params.followText "set-order"=true)(h:Q (((pickOrder (w.params.setOrder S ep) es)[i]?).map fun e=>(e.2,sl)) s):
 wpAny (model prog w) A (setNext S sl i ep) Q E s:=by
 obtain⟨oS,hoS,hcS,hdS,hf,T⟩:=y;unfold setNext;refine wpAny_bind (wpAny_setState_of hoS hdS hf ?_);dsimp only;refine wpAny_bind (Az hw ?_);rw[if_pos rfl,if_neg (by simp)];refine wpAny_bind ?_;unfold setWalk;refine wpAny_bind (wpAny_setState_of hoS hdS hf ?_);dsimp only;refine wpAny_bind (Az hw ?_);rw[if_pos rfl];refine wpAny_bind (wpAny_askSetting (wpAny_pure ?_));exact wpAny_pure h
theorem C2{Q:Option (Value×Nat)->Shared->Prop}(y:SetAt w s.heap S es ep t)(hw:w.params.followText "set-order"=false)(hd:(!t.plain&&decide (es.size>1))=false)(hi:i<=es.size)
 (h:Q (match es[i]?,t.place[i]? with | some (_,x),some j=>some (x,j+1) | _,_=>none) s):wpAny (model prog w) A (setNext S (slotAt t i) i ep) Q E s:=by
 obtain⟨oS,hoS,hcS,hdS,hf,T⟩:=y
 have hsz:t.place.size=es.size:=by
  simp only[SetTable.fits,Vz,beq_iff_eq]at hf;exact hf.1
 unfold setNext;refine wpAny_bind (wpAny_setState_of hoS hdS hf ?_);dsimp only;refine wpAny_bind (Az hw ?_);rw[if_neg WF];show wpAny _ _ (if (!t.plain&&decide (es.size>1))=true then _ else _) _ _ _;rw[hd,if_neg WF];show wpAny _ _ ((if (!t.led&&!es.isEmpty)=true then unsupported "set:maker-not-led" else pure ()) >>= _) _ _ _;rw[T.led,hw];refine wpAny_bind ?_;rw[show(!(!false)&&!es.isEmpty)=false from rfl,if_neg WF];refine wpAny_pure (wpAny_pure ?_);rw[Hz T (by omega)];exact h
theorem Kh{e:Int×Value}{Q:Option Value->Shared->Prop}(x:Sit w s.heap T0 I S es ep t fs i)(y:SetAt w s.heap S es ep t)(hl:fs.length=es.size)(hi:fs[i]?=some e)
 (hQ:∀ h',Wv I s.heap h'->Sit w h' T0 I S es ep t fs (i+1)->Q (some e.2) {s with heap:=h'}):wpAny (model prog w) A (pyNext (.ref I)) Q E s:=by
 obtain⟨o,first,ho,hc,hd,W⟩:=id x;obtain⟨oS,hoS,hcS,hdS,hf,T⟩:=id y;have hlt:i<es.size:=by rw[<-hl];exact(gM hi).1
 unfold pyNext;refine wpAny_bind (wpAny_attempt (wpAny_callSpecial?_slot (name:=Str.ofString "__next__") x.typeIs SiF.slot_si_next (wpAny_call_entry SiF.slot_si_next x.typeIs SiF.entry_si_next ?_ (SiF.args_si_next _))));unfold Builtin.«set_iterator.__next__»;refine wpAny_bind (m:=slotArgs "__next__" 0 ⟨[.ref I],[]⟩) (wpAny_pure ?_);refine wpAny_bind (wpAny_fieldsOf ho hd ?_);dsimp only;refine wpAny_bind (wpAny_setEntries_of hoS hdS hf ?_);rw[if_neg (by simp)]
 have step2:∀(nx:Nat) (v:Value),v=e.2->(∀ h',(∀ T o,T≠I->s.heap.get? T=some o->h'.get? T=some o)->Way w h' T0 S es ep t fs (i+1) (.int nx 0))->
  wpAny (model prog w) A.in1 (do setField (.ref I) 0 (rawInt nx);setField (.ref I) 1 (rawInt ((i:Int)+1));ret v) (fun fin s'=>∃ v,fin=Fin.done (Flow.ret v)/\wpAny (model prog w) A (pure (some v)) Q E s')
   (fun e s'=>wpAny (model prog w) A (do let __do_lift <- isInstance e (Value.type "StopIteration");if __do_lift=true then pure none else throw e) Q E s') s:=by
  intro nx v hv hW;subst hv;refine wpAny_bind (wpAny_setField ho hd (by simp) ?_);have g1:=Ww (Obj.mapFields (·.setIfInBounds 0 (rawInt nx))) ho (Obj.isFreed_of_fields (Obj.data_mapFields hd _));refine wpAny_bind (wpAny_setField g1 (Obj.data_mapFields hd _) (by simp) ?_);have g2:=Ww (Obj.mapFields (·.setIfInBounds 1 (rawInt ((i:Int)+1)))) g1 (Obj.isFreed_of_fields (Obj.data_mapFields (Obj.data_mapFields hd _) _));refine wpAny_pure ⟨_,rfl,wpAny_pure (hQ _ ((Wv.update _ I _).trans (Wv.update _ I _)) ⟨_,_,g2,?_,?_,hW _ fun T o hT e=>?_⟩)⟩
  ·exact((Obj.cls_mapFields ..).trans (Obj.cls_mapFields ..)).trans hc
  ·rw[Obj.data_mapFields (Obj.data_mapFields hd _)];simp[rawInt]
  ·exact(Wx _ _ (Ne.symm hT)).trans ((Wx _ _ (Ne.symm hT)).trans e)
 cases W with
 | text hw hf'=>
   dsimp only;refine wpAny_bind (CL (i:=i) (ep:=ep) y hw ?_);have:(pickOrder (w.params.setOrder S ep) es)[i]?=some e:=by rw[<-XA,<-hf'];exact hi
   rw[this];exact step2 0 e.2 rfl fun h' _ => .text hw hf'
 | table hw hd' hf'=>
   dsimp only;refine wpAny_bind (C2 (i:=i) (ep:=ep) y hw hd' (by omega) ?_)
   have hsz:t.place.size=es.size:=by
    simp only[SetTable.fits,Vz,beq_iff_eq]at hf;exact hf.1
   have e1:es[i]?=some e:=by rw[<-XA,<-hf'];exact hi
   have e2:t.place[i]?=some (t.place[i]'(by omega)):=by simp[show i<t.place.size by omega]
   rw[e1,e2];refine step2 _ e.2 rfl fun h' _=>?_;have:t.place[i]'(by omega)+1=slotAt t (i+1):=by unfold slotAt;rw[if_neg (by omega)];simp[ZU,show i<t.place.size by omega]
   rw[this];exact .table hw hd' hf'
 | drawn hw pl oT nT hoT hdT hlT hfT=>
   dsimp only;refine wpAny_bind (wpAny_seqItems hoT hdT ?_);have hip:i<pl.length:=by omega
   have e1:pl[i]?=some (pl[i]'hip):=by simp
   have e2:(pl.map fun k=>Value.int (k:Nat) 0).toArray[(i:Int).toNat]?=some (.int ((pl[i]'hip:Nat):Int) 0):=by simp[hip]
   dsimp only;rw[e2];dsimp only;have e3:es[pl[i]'hip]?=some e:=by rw[hfT i _ e1];exact hi
   refine wpAny_bind ?_;unfold setNextDrawn;refine wpAny_bind (wpAny_setState_of hoS hdS hf ?_);dsimp only;rw[if_neg (by simp),Xa,e3];refine wpAny_pure (wpAny_bind (wpAny_setField ho hd (by simp) ?_));have g1:=Ww (Obj.mapFields (·.setIfInBounds 1 (rawInt ((i:Int)+1)))) ho (Obj.isFreed_of_fields (Obj.data_mapFields hd _));have hTI:T0≠I:=fun z=>by subst z;rw[ho]at hoT;cases hoT;rw[hd]at hdT;cases hdT
   refine wpAny_pure ⟨_,rfl,wpAny_pure (hQ _ (Wv.update _ I _) ⟨_,_,g1,(Obj.cls_mapFields ..).trans hc,?_,.drawn hw pl oT nT ((Wx _ _ (Ne.symm hTI)).trans hoT) hdT hlT hfT⟩)⟩;rw[Obj.data_mapFields hd];simp[rawInt]
theorem Mo{Q:Option Value->Shared->Prop}(hh:A.handled=none)(hQ:∀ h',ZO I s.heap h'->Q none {s with heap:=h'})(k:Sem Unit)(hk:∀(Q':Unit->Shared->Prop) (E':Value->Shared->Prop),(∀ h',Wv I s.heap h'->Q' () {s with heap:=h'})->wpAny (model prog w) A.in1 k Q' E' s):
 wpAny (model prog w) A.in1 (k >>= fun _=>newExc (.type "StopIteration") [] >>= fun e=>raiseNew (α:=Fin) e) (fun fin s'=>∃ v,fin=Fin.done (Flow.ret v)/\wpAny (model prog w) A (pure (some v)) Q E s')
  (fun e s'=>wpAny (model prog w) A (do let __do_lift <- isInstance e (Value.type "StopIteration");if __do_lift=true then pure none else throw e) Q E s') s:=by
 refine wpAny_bind (hk _ _ fun h' hs=>?_);refine wpAny_bind ?_;simp only[newExc,newTuple];refine wpAny_bind (wpAny_newObj_type ?_ (by size_fits));refine wpAny_bind (m:=firstArgMember _ _) (wpAny_of_eq (a:=Value.none) (by first | rfl | (simp only[firstArgMember];rfl)) ?_);refine wpAny_newObj_type ?_ (by size_fits);simp only[raiseNew];refine wpAny_bind (wpAny_handled ?_);rw[show A.in1.handled=none from hh];refine wpAny_bind (wpAny_pure (wpAny_throw ?_));refine wpAny_bind (wpAny_isInstance (T:="StopIteration") (b:=true) ⟨_,WL _ rfl,rfl⟩ isSubtype_stop ?_);exact wpAny_pure (hQ _ ((hs.extBut.push _).push _))
theorem Mp{Q:Option Value->Shared->Prop}(hh:A.handled=none)(x:Sit w s.heap T0 I S es ep t fs es.size)(y:SetAt w s.heap S es ep t)(hl:fs.length=es.size)
 (hQ:∀ h',ZO I s.heap h'->Q none {s with heap:=h'}):wpAny (model prog w) A (pyNext (.ref I)) Q E s:=by
 obtain⟨o,first,ho,hc,hd,W⟩:=id x;obtain⟨oS,hoS,hcS,hdS,hf,T⟩:=id y;unfold pyNext;refine wpAny_bind (wpAny_attempt (wpAny_callSpecial?_slot (name:=Str.ofString "__next__") x.typeIs SiF.slot_si_next (wpAny_call_entry SiF.slot_si_next x.typeIs SiF.entry_si_next ?_ (SiF.args_si_next _))));unfold Builtin.«set_iterator.__next__»;refine wpAny_bind (m:=slotArgs "__next__" 0 ⟨[.ref I],[]⟩) (wpAny_pure ?_);refine wpAny_bind (wpAny_fieldsOf ho hd ?_);dsimp only;refine wpAny_bind (wpAny_setEntries_of hoS hdS hf ?_);rw[if_neg (by simp)];have one:∀(Q':Unit->Shared->Prop) (E':Value->Shared->Prop),(∀ h',Wv I s.heap h'->Q' () {s with heap:=h'})->wpAny (model prog w) A.in1 (setField (.ref I) 2 .none) Q' E' s:=fun Q' E' q=>wpAny_setField ho hd (by simp) (q _ (Wv.update ..));cases W with
 | text hw hf'=>
   dsimp only;refine wpAny_bind (CL (i:=es.size) (ep:=ep) y hw ?_);have:(pickOrder (w.params.setOrder S ep) es)[es.size]?=none:=by rw[<-XA,<-hf'];exact XJ (by omega)
   rw[this];exact Mo hh hQ _ one
 | table hw hd' hf'=>
   dsimp only;refine wpAny_bind (C2 (i:=es.size) (ep:=ep) y hw hd' (WB _) ?_);rw[show es[es.size]?=none by simp];exact Mo hh hQ _ one
 | drawn hw pl oT nT hoT hdT hlT hfT=>
   dsimp only;refine wpAny_bind (wpAny_seqItems hoT hdT ?_);have e2:(pl.map fun k=>Value.int (k:Nat) 0).toArray[((es.size:Nat):Int).toNat]?=none:=by simp;omega
   dsimp only;rw[e2];dsimp only
   have two:=Mo (prog:=prog) (w:=w) (A:=A) (E:=E) (s:=s) (I:=I) (Q:=Q) hh hQ (setField (.ref I) 0 (rawInt 0) >>= fun _=>setField (.ref I) 2 .none) fun Q' E' q=>by
    refine wpAny_bind (wpAny_setField ho hd (by simp) ?_);have g1:=Ww (Obj.mapFields (·.setIfInBounds 0 (rawInt 0))) ho (Obj.isFreed_of_fields (Obj.data_mapFields hd _));exact wpAny_setField g1 (Obj.data_mapFields hd _) (by simp) (q _ ((Wv.update _ I _).trans (Wv.update _ I _)))
   rw[bind_assoc]at two;exact two
theorem Ki{Q:Value->Shared->Prop}(x:Sit w s.heap T0 I S es ep t fs i)(h:Q (.ref I) s):wpAny (model prog w) A (pyIter (.ref I)) Q E s:=by
 refine wpAny_pyIter_slot x.typeIs SiF.slot_si_iter (wpAny_call_entry SiF.slot_si_iter x.typeIs SiF.entry_si_iter ?_ (SiF.args_si_iter _));show wpAny _ _ (ret (.ref I)) _ _ s;exact wpAny_pure ⟨_,rfl,"set_iterator",_,x.typeIs,SiF.slot_si_next.lookup,h⟩
theorem Sit.keep{h h':Heap}(x:Sit w h T0 I S es ep t fs i)(k:∀ b,b=I\/b=T0->∀ o,h.get? b=some o->h'.get? b=some o):Sit w h' T0 I S es ep t fs i:=by
 obtain⟨o,first,ho,hc,hd,W⟩:=x;refine⟨o,first,k I (.inl rfl) _ ho,hc,hd,?_⟩;cases W with
 | text hw hf=>exact .text hw hf
 | table hw hp hf=>exact .table hw hp hf
 | drawn hw pl oT n hoT hdT hl hf=>exact .drawn hw pl oT n (k T0 (.inr rfl) _ hoT) hdT hl hf
theorem Uu(hh:A.handled=none)(T0 I S:Addr)(hne:S≠I)(es:Array (Int×Value))(ep:Nat)(t:SetTable)(fs:List (Int×Value))(hl:fs.length=es.size):
 Walks prog w A I [I,S,T0] [I] es.size (fun i v=>∃ e,fs[i]?=some e/\e.2=v) (fun i h=>Sit w h T0 I S es ep t fs i/\SetAt w h S es ep t) where
 sub:=fun b hb=>by simp at hb;simp[hb]
 frame:=fun _ _ _ st hk=>⟨st.1.keep fun b hb o e=>hk b (by rcases hb with rfl | rfl<;>simp) o e,st.2.keep fun o e=>hk S (by simp) o e⟩
 item:=fun i s Q E hi st hQ=>by
  have hi':i<fs.length:=by omega
  refine Kh (e:=fs[i]) st.1 st.2 hl (by simp) fun h' hs' x'=>?_;exact hQ fs[i].2 h' s.toks ⟨fs[i],by simp,rfl⟩ ⟨x',st.2.keep fun o e=>hs'.extBut _ _ hne e⟩ fun b o hb e=>hs'.extBut b o (fun h=>hb (by simp[h])) e
 done:=fun s Q E st hQ=>Mp hh st.1 st.2 hl fun h' he'=>hQ h' s.toks fun b o hb e=>he' b o (fun h=>hb (by simp[h])) e
 self:=fun _ _ _ _ st hQ=>Ki st.1 hQ
theorem Uv{Q:Value->Shared->Prop}(y:SetAt w s.heap S es ep t)(hz:es.size<=sizeLine)
 (hQ:∀ h' d I T0 fs,(∀ b o,s.heap.get? b=some o->h'.get? b=some o)->s.heap.objs.size<=I->s.heap.objs.size<=T0->h'.objs.size=I+1->fs.Perm es.toList->Sit w h' T0 I S es ep t fs 0->Q (.ref I) {s with heap:=h',drawn:=d}):wpAny (model prog w) A (pyIter (.ref S)) Q E s:=by
 obtain⟨oS,hoS,hcS,hdS,hf,T⟩:=id y;have hT:s.TypeIs (.ref S) "set":=⟨oS,hoS,hcS⟩
 refine wpAny_pyIter_slot hT F.slot_set_iter (wpAny_call_entry F.slot_set_iter hT SiF.entry_set_iter ?_ (F.args_set_iter_1 _));unfold Builtin.«frozenset.__iter__»;refine wpAny_bind (m:=Builtin.Frozenset.slot0 "__iter__" ⟨[.ref S],[]⟩) (wpAny_pure ?_);refine wpAny_bind (m:=Builtin.Frozenset.sizeOf S) ?_;unfold Builtin.Frozenset.sizeOf;refine wpAny_bind (wpAny_setEntries_of hoS hdS hf (wpAny_pure ?_));refine wpAny_bind ?_;unfold setDrawn;refine wpAny_bind (wpAny_setState_of hoS hdS hf ?_);dsimp only
 have fin:∀(first:Value) (h:Heap) (d:Drawn) (fs:List (Int×Value)) (T0:Addr),(∀ b o,s.heap.get? b=some o->h.get? b=some o)->s.heap.objs.size<=h.objs.size->s.heap.objs.size<=T0->fs.Perm es.toList->(∀ h',(∀ b o,h.get? b=some o->h'.get? b=some o)->Way w h' T0 S es ep t fs 0 first)->
  wpAny (model prog w) A.in1 (setEpoch S >>= fun e=>newFields "set_iterator" [first,rawInt 0,.ref S,rawInt (es.size:Nat),rawInt e] >>= fun v=>ret v)
   (fun fin s'=>∃ r,fin=Fin.done (Flow.ret r)/\∃ T' r_1,s'.TypeIs r T'/\typeLookup (.type T') "__next__"=pure (some r_1)/\Q r s') E {s with heap:=h,drawn:=d}:=by
  intro first h d fs T0 hk h1 h2 hp hW
  refine wpAny_bind (wpAny_setEpoch_of (hk _ _ hoS) hdS hf ?_);refine wpAny_bind (wpAny_newObj_type ?_ (by size_fits));refine wpAny_pure ⟨_,rfl,"set_iterator",_,⟨_,WL _ rfl,rfl⟩,SiF.slot_si_next.lookup,?_⟩;have kp:∀ b o,h.get? b=some o->(h.push {cls := .type "set_iterator",data := .fields #[first,rawInt 0,.ref S,rawInt (es.size:Nat),rawInt (ep:Nat)]}).get? b=some o:=fun b o e=>W8 _ e;exact hQ _ d h.objs.size T0 fs (fun b o e=>kp b o (hk b o e)) h1 h2 (XD _ _) hp ⟨_,first,WL _ rfl,rfl,rfl,hW _ kp⟩
 cases hw:w.params.followText "set-order" with
 | true=>
   refine wpAny_bind (Az hw (wpAny_pure ?_));show wpAny _ _ (if (!true&&(!t.plain&&decide (es.size>1)))=true then _ else _) _ _ _;rw[if_neg (by simp)];refine wpAny_bind (wpAny_pure ?_);exact fin _ s.heap s.drawn _ s.heap.objs.size (fun _ _ e=>e) (WB _) (WB _) (Kg (w.params.setOrder S ep) es) fun h' _ => .text hw rfl
 | false=>
   refine wpAny_bind (Az hw (wpAny_pure ?_));show wpAny _ _ (if (!false&&(!t.plain&&decide (es.size>1)))=true then _ else _) _ _ _;cases hpl:(!t.plain&&decide (es.size>1)) with
   | false=>
     rw[if_neg (by simp)];refine wpAny_bind (wpAny_pure ?_);exact fin _ s.heap s.drawn es.toList s.heap.objs.size (fun _ _ e=>e) (WB _) (WB _) .rfl fun h' _ => .table hw hpl rfl
   | true=>
     rw[if_pos (by simp)];refine wpAny_bind (RI es.size (WP es.size) s _ (by simp) fun pl d hp=>?_);refine wpAny_bind (wpAny_newTuple ?_ (by rw[W2,hp.length_eq,Xm];exact hz));have hin:∀ p∈pl,p<es.size:=fun p hpm=>X5.mp (hp.mem_iff.mp hpm);have efs:∃ fs:List (Int×Value),fs=pl.filterMap (fun p=>es[p]?):=⟨_,rfl⟩
     obtain⟨fs,efs⟩:=efs
     have hfs:∀(l:List Nat),(∀ p∈l,p<es.size)->(l.filterMap fun p=>es[p]?).length=l.length/\∀(k:Nat) p,l[k]?=some p->es[p]?=(l.filterMap fun p=>es[p]?)[k]?:=by
      intro l
      induction l with
      | nil=>intro _;exact⟨rfl,fun k p h=>by simp at h⟩
      | cons a l ih=>
        intro hl;obtain⟨i1,i2⟩:=ih fun p hp=>hl p (W9 _ hp);have ha:=hl a (WK ..);have ea:es[a]?=some es[a]:=by simp[ha]
        rw[Yg ea];refine⟨by simp[i1],fun k p h=>?_⟩;cases k with
        | zero=>simp at h;subst h;simp[ha]
        | succ k=>simpa using i2 k p (by simpa using h)
     obtain⟨l1,l2⟩:=hfs pl hin;refine fin _ _ d fs s.heap.objs.size (fun b o e=>W8 _ e) (by rw[XD];exact Y7 _) (WB _) ?_ fun h' k=>?_
     ·rw[efs];exact(hp.filterMap _).trans (by rw[filterMap_getElem?_range])
     ·exact .drawn hw pl _ 0 (k _ _ (WL _ rfl)) rfl (by rw[efs,l1]) (fun k p h=>by rw[efs];exact l2 k p h)
end
end L2
set_option maxHeartbeats 800000
namespace L2
open PySem PySem.Spec PyProof.Rows
section
variable{prog:Program}{w:World}{A:Around}{E:Value->Shared->Prop}{s:Shared}{S:Addr}{es:Array (Int×Value)}{ep:Nat}{t:SetTable}
theorem Uw{Q:Bool->Shared->Prop}(hT:s.TypeIs (.ref S) "set")(h:Q false s):wpAny (model prog w) A (Builtin.List.listLengthHint (.ref S)) Q E s:=by
 unfold Builtin.List.listLengthHint;refine wpAny_bind (wpAny_specialOf hT PySem.F.slot_set_len.lookup ?_);generalize hid:("set.__len__":String)=id0
 wp_delta
 rw[show splitId id0=some ("set","__len__") from by subst hid;decide +kernel];subst hid;refine wpAny_bind (wpAny_isInstance (T:="set") (b:=true) hT sub_set_self ?_);refine wpAny_ite_split (fun z=>absurd z (by decide)) (fun _=>?_);refine wpAny_ite_split (fun _=>?_) (fun z=>absurd (by decide +kernel) z);exact wpAny_bind (wpAny_typeOf hT (wpAny_pure h))
theorem Mq{Q:List Value->Shared->Prop}(hh:A.handled=none)(y:SetAt w s.heap S es ep t)(hz:es.size<=sizeLine)
 (hQ:∀ h' tk d (acc:List Value) (fs:List (Int×Value)),(∀ b o,s.heap.get? b=some o->h'.get? b=some o)->s.heap.objs.size<=h'.objs.size->fs.Perm es.toList->acc=fs.map (·.2)->Q acc {s with heap:=h',toks:=tk,drawn:=d}):
 wpAny (model prog w) A (collect (.ref S)) Q E s:=by
 obtain⟨oS,hoS,hcS,hdS,hf,T⟩:=id y;unfold collect;refine wpAny_bind (wpAny_runValue (codeAny_builtin PySem.F.entry_proto_collect ?_));rw[Around.under_plainId PySem.F.plain_proto_collect _];refine wpAny_bind (m:=newList []) (wpAny_newObj_type ?_);refine wpAny_pure ⟨plainId_quiet PySem.F.plain_list_iadd _,codeAny_builtin PySem.F.entry_list_iadd ?_⟩;rw[Around.under_plainId PySem.F.plain_list_iadd _];show wpAny _ A.in1 (Builtin.List.listExtendWith (.ref s.heap.objs.size) (.ref S) (.ref s.heap.objs.size)) _ _ {s with heap:=s.heap.push {cls := .type "list",data := .seq ([]:List Value).toArray}};have y1:SetAt w (s.heap.push {cls := .type "list",data := .seq ([]:List Value).toArray}) S es ep t:=y.keep fun o e=>W8 _ e;have hne:s.heap.objs.size≠S:=fun z=>by rw[<-z]at hoS;exact absurd (WH hoS) (XZ _)
 have hL:(s.heap.push {cls := .type "list",data := .seq ([]:List Value).toArray}).get? s.heap.objs.size=some {cls := .type "list",data := .seq #[]}:=WL _ rfl;have hz1:(s.heap.push {cls := .type "list",data := .seq ([]:List Value).toArray}).objs.size=s.heap.objs.size+1:=XD _ _;unfold Builtin.List.listExtendWith;refine wpAny_bind (wpAny_typeOf (T:="set") ⟨oS,W8 _ hoS,hcS⟩ ?_);have b1:Builtin.List.listSameRef (.ref s.heap.objs.size) (.ref S)=false:=by simp[Builtin.List.listSameRef,hne]
 have b2:(Value.type "set" == Value.type "list")=false:=by decide
 have b3:(Value.type "set" == Value.type "tuple")=false:=by decide
 simp only[b1,b2,b3,ZW,X6,if_false];refine wpAny_bind (Uv (s:={s with heap:=s.heap.push {cls := .type "list",data := .seq ([]:List Value).toArray}}) y1 hz fun h2 d I T0 fs k2 hI hT0 hz2 hp x2=>?_);have y2:SetAt w h2 S es ep t:=y1.keep fun o e=>k2 _ _ e;refine wpAny_bind (wpAny_holding (Uw (s:={s with heap:=h2,drawn:=d}) ⟨oS,k2 _ _ (W8 _ hoS),hcS⟩ ?_));have hL2:=k2 _ _ hL;have LI:s.heap.objs.size≠I:=by rw[hz1]at hI;exact WR hI
 have LT:s.heap.objs.size≠T0:=by rw[hz1]at hT0;exact WR hT0
 have SI:S≠I:=fun z=>by
  have h1:=WH hoS;rw[hz1,<-z]at hI;exact absurd (ZI hI) (Yl h1)
 have nf:s.heap.objs.size∉[I,S,T0]:=by
  simp only[WN,ZN,or_false,not_or];exact⟨LI,hne,LT⟩
 have hlen:fs.length=es.size:=by rw[hp.length_eq,WM]
 have W:=(Uu (prog:=prog) (w:=w) (A:=A.in1) hh T0 I S SI es ep t fs hlen).toS
 have key:∀(h:Heap) (c tk:Nat),Sit w h T0 I S es ep t fs 0->SetAt w h S es ep t->(∀ b o,b≠s.heap.objs.size->h2.get? b=some o->h.get? b=some o)->h.get? s.heap.objs.size=some {cls := .type "list",dict:=none,data := .seq #[] c,slots:=#[]}->s.heap.objs.size<=h.objs.size->
  codeAny (model prog w) A (.builtin "list.extend.loop" ⟨[.ref s.heap.objs.size,.ref I,.ref s.heap.objs.size],[]⟩) (wants (fun v s'=>∃ h' tk' acc c',v = .ref s.heap.objs.size/\s'={s with heap:=h',toks:=tk',drawn:=d}/\(∀ b o,s.heap.get? b=some o->h'.get? b=some o)/\s.heap.objs.size<=h'.objs.size/\h'.get? s.heap.objs.size=some {cls := .type "list",dict:=none,data := .seq acc c',slots:=#[]}/\ItemsOf (fun i v=>∃ e,fs[i]?=some e/\e.2=v) acc es.size) E) {s with heap:=h,toks:=tk,drawn:=d}:=by
  intro h c tk x3 y3 k3 hL3 hz3;refine codeAny_extend_loopS W hz s.heap.objs.size nf (.ref s.heap.objs.size) es.size 0 _ #[] c rfl (XQ _) ⟨x3,y3⟩ hL3 (ItemsOf.nil _) fun s' acc c' hm hS' hacc=>?_;rw[Moved.eq_with hm];refine⟨s'.heap,s'.toks,acc,c',rfl,rfl,fun b o e=>hm.heap b o (fun z=>?_) (k3 b o (WR (WH e)) (k2 _ _ (W8 _ e))),XT (WH hS'),hS',hacc⟩;rcases WN.mp z with z | z
  ·exact absurd z (WR (WH e))
  ·have z':=W6.mp z;rw[hz1]at hI;have:=WH e;rw[z']at this;exact absurd this (Yl (ZI hI))
 have fin:∀ r s',wants (fun v s'=>∃ h' tk' acc c',v = .ref s.heap.objs.size/\s'={s with heap:=h',toks:=tk',drawn:=d}/\(∀ b o,s.heap.get? b=some o->h'.get? b=some o)/\s.heap.objs.size<=h'.objs.size/\h'.get? s.heap.objs.size=some {cls := .type "list",dict:=none,data := .seq acc c',slots:=#[]}/\ItemsOf (fun i v=>∃ e,fs[i]?=some e/\e.2=v) acc es.size) E r s'->
  wants (fun v s'=>wpAny (model prog w) A (match v with | .ref a=>load a >>= fun o=>(match o.data with | .seq xs _=>pure xs.toList | _=>unsupported "internal:collect") | _=>unsupported "internal:collect") Q E s') E r s':=by
  intro r s' hr;cases r with
  | error e=>exact hr
  | ok fl=>
    cases fl with
    | ret v=>
      obtain⟨h',tk',acc,c',rfl,rfl,h3,h4,h5,h6⟩:=hr;refine wpAny_bind (wpAny_load (s:={s with heap:=h',toks:=tk',drawn:=d}) h5 (wpAny_pure (hQ h' tk' d _ fs h3 h4 hp ?_)));refine YI fun k=>?_;rw[WG,XA];by_cases hk:k<es.size
      ·have ha:acc[k]?=some (acc[k]'(by rw[h6.1];exact hk)):=by simp[h6.1,hk]
       obtain⟨e,he,ev⟩:=h6.2 k _ ha;rw[ha,he,<-ev];rfl
      ·rw[Array.getElem?_eq_none (by rw[h6.1];omega),XJ (by omega)];rfl
    | _=>exact hr.elim
 refine wpAny_ite_split (fun _=>?_) (fun _=>wpAny_pure ⟨plainId_quiet PySem.F.plain_extend_loop _,codeAny_mono (key _ _ _ x2 y2 (fun _ _ _ e=>e) hL2 (XT (WH hL2))) fin⟩);refine wpAny_bind (wpAny_rule (wpAny_bind ?_));show wpAny _ _ (updateSeq s.heap.objs.size (·.push .none) >>= fun _=>updateSeq s.heap.objs.size (·.pop)) _ _ _;refine wpAny_bind (wpAny_updateSeq hL2 rfl ?_);have u1:=Ww (Obj.mapSeq (·.push Value.none)) hL2 rfl;refine wpAny_updateSeq (hz:=by seq_fits) u1 rfl ?_;have u2:=Ww (Obj.mapSeq (·.pop)) u1 rfl;have oth:∀ b o,b≠s.heap.objs.size->h2.get? b=some o->((h2.update s.heap.objs.size (Obj.mapSeq (·.push Value.none))).update s.heap.objs.size (Obj.mapSeq (·.pop))).get? b=some o:=fun b o hb e=>(Wx _ _ (Ne.symm hb)).trans ((Wx _ _ (Ne.symm hb)).trans e);refine wpAny_pure ⟨plainId_quiet PySem.F.plain_extend_loop _,codeAny_mono (key _ _ _ (x2.keep fun b hb o e=>oth b o (by rcases hb with rfl | rfl;exact LI.symm;exact LT.symm) e) (y2.keep fun o e=>oth _ o hne.symm e) oth u2 ?_) fin⟩;rw[Yk,Yk];exact XT (WH hL2)
end
theorem _root_.L2.Inv.dr{X:Cx}{pins:List (Addr×Obj)}{σ:St}{H:Hp}{s:Shared}(I:Inv X pins σ H s)(d:Drawn):Inv X pins σ H {s with drawn:=d}:=
 ⟨I.ok,I.os,I.bare,I.base,I.loc,I.cell,I.free,I.freeC,I.pin,I.hok,I.len⟩
section
variable{prog:Program}{w:World}{A:Around}{E:Value->Shared->Prop}{s:Shared}
theorem JK{S:Addr}{L:List Int}{Q:Value->Shared->Prop}(hh:A.handled=none)(x:SetX prog w s.heap S L)(h64:L.length<128)
 (h:∀(h':Heap) (tk:Nat) (d:Drawn) (l:Addr) (out:Array Value) (e:Nat),(∀ b o,s.heap.get? b=some o->h'.get? b=some o)->s.heap.objs.size<=l->h'.get? l=some (seqObj "list" out e)->IntsAre out.toList (srt L)->Q (.ref l) {s with heap:=h',toks:=tk,drawn:=d}):
 wpAny (model prog w) A (call (.builtin "sorted") [.ref S]) Q E s:=by
 obtain⟨o,es,ep,t,ho,hx,hd,hel,hb,hf,hT,hp⟩:=x;refine Calls.call_function_entry kind_sorted plain_sorted entry_sorted (args_sorted1 _) ?_;unfold Builtin.«sorted»;refine wpAny_bind (m:=checkCount "sorted" 1 1 _) (wpAny_pure ?_);refine wpAny_bind (Mq (A:=A.in1) hh ⟨o,ho,hx.1,hd,hf,hT⟩ (fits_of_scanBound hb) fun h2 tk d acc fs k2 hz2 hpf hacc=>?_)
 have hints:∀ v∈acc,∃ n tt,v=Value.int n tt:=by
  intro v hv;rw[hacc]at hv;obtain⟨e,he,rfl⟩:=WZ.mp hv;obtain⟨⟨k,hk,_⟩,_⟩:=hel e (hpf.mem_iff.mp he);obtain⟨tt,e2⟩:=Value.isInt_shape (k:=k) (v:=e.2) hk;exact⟨k,tt,e2⟩
 have hI:IntsAre acc (acc.map numOf):=intsAre_map acc hints
 have hpL:(acc.map numOf).Perm L:=by
  rw[hacc,Xc];exact(hpf.map _).trans hp
 have hl64:acc.length<128:=by have:=hpL.length_eq;rw[W2]at this;omega
 refine wpAny_bind (wpAny_newList ?_ (by rw[sizeLine_eq];omega));have hoL:(h2.push (seqObj "list" acc.toArray 0)).get? h2.objs.size=some (seqObj "list" acc.toArray 0):=WL _ rfl;refine wpAny_bind (wpAny_holding (wpAny_call_entry (s:={s with heap:=h2.push (seqObj "list" acc.toArray 0),toks:=tk,drawn:=d}) slot_list_sort ⟨_,hoL,rfl⟩ entry_list_sort (Srt.sort_all hoL hI hl64 fun out ns' a1 a2 a3=>⟨_,rfl,?_⟩) (args_list_sort _)));have en:ns'=srt L:=F4 (a2.trans hpL) a3;subst en;obtain⟨e,he⟩:=sortedHeap_at (vs:=acc) (out:=out) hoL;refine wpAny_pure ⟨_,rfl,h _ tk d h2.objs.size out e (fun b o eb=>?_) hz2 he a1⟩;have hlt:=WH (k2 b o eb);rw[sortedHeap_old (WR hlt) (by rw[XD];exact Xk hlt)];exact W8 _ (k2 b o eb)
end
section
variable{X:Cx}
theorem ET:bootBuiltins "sorted"=some (.builtin "sorted"):=by decide +kernel
noncomputable def AD(ns:List Int):List Int:=firstMet (fun i=>ns.getD i 0) ns.length
noncomputable def Mr(K:Vy)(te:TE):TE:=fun σ H Q=>te σ H fun x H1=>∃(p:Addr) (ns:List Int),x = .ref p/\SqL K H1 p (ns.map V.int)/\ns.length<128/\∀ l,H1 l=none->Q (.ref l) (upd H1 l (.lst ((srt (AD ns)).map V.int)))
theorem I0{e:Expr}{te:TE}{p1 p2 pos1 pos2:Pos}(hc:X.calm=true)(hl:Gl X "sorted")(hml:X.mg "sorted"=none)(hs:Gl X "set")(hms:X.mg "set"=none)(he:PE X e te)
 (h1:starEach [e] X.env=(false,eval e X.env)::starEach [] X.env:=by rfl)
 (h2:starEach [.Call (.Name "set" p2) [e] [] pos2] X.env=(false,eval (.Call (.Name "set" p2) [e] [] pos2) X.env)::starEach [] X.env:=by rfl)
 (h3:(backTo pos1 (starEach [] X.env)).any (·.1)=false:=by rfl) (h4:(backTo pos2 (starEach [] X.env)).any (·.1)=false:=by rfl):
 PE X (.Call (.Name "sorted" p1) [.Call (.Name "set" p2) [e] [] pos2] [] pos1) (Mr X.K te):=by
 intro pins s σ H Q I h;refine wpAny_Call_Name_kw (AY I hl hml ET ?_ (by decide) (by decide));refine PyProof.Rows.callWith_builtin1 ?_ h2 h3;rw[h2];show wpAny _ _ (spliced ((false,eval (.Call (.Name "set" p2) [e] [] pos2) X.env)::backTo pos1 (starEach [] X.env))) _ _ s;refine Calls.spliced_cons ?_;refine wpAny_Call_Name_kw (AY I hs hms b_set ?_ (by decide) (by decide));refine PyProof.Rows.callWith_type1 ?_ h1 h4;rw[h1];show wpAny _ _ (spliced ((false,eval e X.env)::backTo pos2 (starEach [] X.env))) _ _ s;refine Calls.spliced_cons (thn (he pins s σ H _ I h) fun u s1 ⟨x,H1,I1,rx,p,ns,ex,hq,hb,q1⟩=>Calls.spliced_nil ?_);subst ex;cases rx;obtain⟨its,r',pl,hz⟩:=I1.list hq;have hlen:=r'.length;rw[W2]at hlen;refine Ut (items:=its.toArray) (ns:=ns) (I1.ok.hd hc) pl.isList (by simpa using AT r') (by simp only[W7];show its.length+1<4096;omega) fun h' tk hX hk=>?_;refine Calls.spliced_nil ?_;have k1:∀ b o,s1.heap.get? b=some o->h'.get? b=some o:=fun b o e=>hk b o (WH e) e;have I2:Inv X pins σ H1 {s1 with heap:=h',toks:=tk}:=I1.kept k1
 have hX:SetX X.prog X.w h' s1.heap.objs.size (AD ns):=by
  have e:its.toArray.size=ns.length:=by rw[W7,hlen]
  rw[e]at hX;exact hX
 have hl64:(AD ns).length<128:=Yb (firstMet_length_le _ _) hb;refine JK (s:={s1 with heap:=h',toks:=tk}) (I1.ok.hd hc) hX hl64 fun h3 tk3 d l out e k3 hz3 hl3 ho3=>?_;have J:=(I2.dr d).laid (h':=h3) (a:=l) (o := .lst ((srt (AD ns)).map V.int)) (t':=tk3) k3 hz3 (show ObjOk X.prog X.w _ _ _ (.lst ((srt (AD ns)).map V.int)) from ⟨?_,out.toList,e,Bq ho3,by simpa using hl3⟩)
 ·exact⟨.ref l,_,J,rfl,q1 l ((I2.dr d).hok.fresh hz3)⟩
 ·rw[W2,(At _).length_eq];exact XT (EM (by omega))
end
end L2
set_option maxHeartbeats 2000000
namespace L2
open PySem PySem.Spec PyProof.Rows
open PySem.AutoSeq1 (wpAny_loadPart')
section
variable{X:Cx}
theorem Ux:bootBuiltins "any"=some (.builtin "any"):=by decide +kernel
end
end L2
namespace Rf
open PySem L2
noncomputable abbrev QE:=SV->Sto->Prop
noncomputable abbrev WE:=EnvS->Sto->QE->Prop
noncomputable abbrev WA:=EnvS->Sto->(List SV->Sto->Prop)->Prop
noncomputable abbrev WT:=EnvS->Sto->(Bool->Sto->Prop)->Prop
noncomputable def Post(K:Vy)(as:List Addr)(H:Hp)(Q:VK):QE:=fun x S'=>∀ as' H' v,Go as H as' H'->Ok K as' H' S'->Rl K as' H' v x->Q v H'
noncomputable def Uy(K:Vy)(as:List Addr)(H:Hp)(Q:List V->Hp->Prop):List SV->Sto->Prop:=fun xs S'=>∀ as' H' vs,Go as H as' H'->Ok K as' H' S'->RlAll K as' H' vs xs->Q vs H'
noncomputable def PostT(K:Vy)(as:List Addr)(H:Hp)(Q:Bool->Hp->Prop):Bool->Sto->Prop:=fun b S'=>∀ as' H',Go as H as' H'->Ok K as' H' S'->Q b H'
noncomputable def lift(K:Vy)(w:WE):TE:=fun σ H Q=>∃ as ρ S,Ok K as H S/\EnvOk K as H σ ρ/\w ρ S (Post K as H Q)
noncomputable def liftA(K:Vy)(w:WA):TA:=fun σ H Q=>∃ as ρ S,Ok K as H S/\EnvOk K as H σ ρ/\w ρ S (Uy K as H Q)
noncomputable def liftT(K:Vy)(w:WT):TT:=fun σ H Q=>∃ as ρ S,Ok K as H S/\EnvOk K as H σ ρ/\w ρ S (PostT K as H Q)
noncomputable def Mono(w:WE):Prop:=∀ ρ S (P P':QE),(∀ x S',P x S'->P' x S')->w ρ S P->w ρ S P'
noncomputable def MonoA(w:WA):Prop:=∀ ρ S (P P':List SV->Sto->Prop),(∀ x S',P x S'->P' x S')->w ρ S P->w ρ S P'
noncomputable def MonoT(w:WT):Prop:=∀ ρ S (P P':Bool->Sto->Prop),(∀ x S',P x S'->P' x S')->w ρ S P->w ρ S P'
theorem f8{X:Cx}{e:Expr}{t:TE}(t':TE)(h:PE X e t)(imp:∀ σ H Q,t' σ H Q->t σ H Q):PE X e t':=fun pins s σ H Q I hw=>h pins s σ H Q I (imp σ H Q hw)
theorem Bb{X:Cx}{e:Expr}{t:TT}(t':TT)(h:PT X e t)(imp:∀ σ H Q,t' σ H Q->t σ H Q):PT X e t':=fun pins s σ H Q I hw=>h pins s σ H Q I (imp σ H Q hw)
theorem Ms{X:Cx}{e:List Expr}{t:TA}(t':TA)(h:PA X e t)(imp:∀ σ H Q,t' σ H Q->t σ H Q):PA X e t':=fun p pins s σ H Q I hw=>h p pins s σ H Q I (imp σ H Q hw)
section
variable{K:Vy}{as as1 as2:List Addr}{H H1 H2:Hp}
theorem Post.mono{Q:VK}{x:SV}{S:Sto}(h:Post K as H Q x S)(g:Go as H as1 H1):Post K as1 H1 Q x S:=fun as' H' v g'=>h as' H' v (g.trans g')
end
noncomputable abbrev S2:=SV->SV->Sto->QE->Prop
noncomputable abbrev S1:=SV->Sto->QE->Prop
noncomputable abbrev Sn:=List SV->Sto->QE->Prop
noncomputable def w2(s:S2)(a b:WE):WE:=fun ρ S Q=>a ρ S fun x S1=>b ρ S1 fun y S2=>s x y S2 Q
noncomputable def w1(s:S1)(a:WE):WE:=fun ρ S Q=>a ρ S fun x S1=>s x S1 Q
noncomputable def wn(s:Sn)(a:WA):WE:=fun ρ S Q=>a ρ S fun xs S1=>s xs S1 Q
noncomputable def Mono2(s:S2):Prop:=∀ x y S (P P':QE),(∀ x S',P x S'->P' x S')->s x y S P->s x y S P'
noncomputable def EU(s:S1):Prop:=∀ x S (P P':QE),(∀ x S',P x S'->P' x S')->s x S P->s x S P'
noncomputable def MonoN(s:Sn):Prop:=∀ x S (P P':QE),(∀ x S',P x S'->P' x S')->s x S P->s x S P'
theorem Mono.two{s:S2}{a b:WE}(hs:Mono2 s)(ha:Mono a)(hb:Mono b):Mono (w2 s a b):=fun ρ S P P' i h=>ha _ _ _ _ (fun _ _ h=>hb _ _ _ _ (fun _ _ h=>hs _ _ _ _ _ i h) h) h
theorem Mono.one{s:S1}{a:WE}(hs:EU s)(ha:Mono a):Mono (w1 s a):=fun ρ S P P' i h=>ha _ _ _ _ (fun _ _ h=>hs _ _ _ _ i h) h
theorem Mono.n{s:Sn}{a:WA}(hs:MonoN s)(ha:MonoA a):Mono (wn s a):=fun ρ S P P' i h=>ha _ _ _ _ (fun _ _ h=>hs _ _ _ _ i h) h
noncomputable def BG(K:Vy)(s:S2)(r:R2):Prop:=∀ as H S x y v u Q,Ok K as H S->Rl K as H v x->Rl K as H u y->s x y S (Post K as H Q)->r v u H Q
noncomputable def Vo(K:Vy)(s:S1)(r:V->Hp->VK->Prop):Prop:=∀ as H S x v Q,Ok K as H S->Rl K as H v x->s x S (Post K as H Q)->r v H Q
noncomputable def Uz(K:Vy)(s:Sn)(r:List V->Hp->VK->Prop):Prop:=∀ as H S xs vs Q,Ok K as H S->RlAll K as H vs xs->s xs S (Post K as H Q)->r vs H Q
theorem w6{K:Vy}{s:S2}{r:R2}{wa wb:WE}(sim:BG K s r)(ms:Mono2 s)(ma:Mono wa)(mb:Mono wb):∀ σ H Q,lift K (w2 s wa wb) σ H Q->tOp r (lift K wa) (lift K wb) σ H Q:=by
 rintro σ H Q ⟨as,ρ,S,ok,en,h⟩;refine⟨as,ρ,S,ok,en,ma _ _ _ _ (fun x S1 hb as1 H1 v g1 ok1 rv=>?_) h⟩;refine⟨as1,ρ,S1,ok1,en.mono g1.pre (g1.ku ok),mb _ _ _ _ (fun y S2 hs as2 H2 u g2 ok2 ru=>?_) hb⟩;exact sim as2 H2 S2 x y v u Q ok2 (Rl.mono g2.pre (g2.ku ok1) x v rv) ru (ms _ _ _ _ _ (fun z S3 hz=>hz.mono (g1.trans g2)) hs)
theorem Sw{K:Vy}{s:S1}{r:V->Hp->VK->Prop}{wa:WE}(sim:Vo K s r)(ms:EU s)(ma:Mono wa):∀ σ H Q,lift K (w1 s wa) σ H Q->tUn r (lift K wa) σ H Q:=by
 rintro σ H Q ⟨as,ρ,S,ok,en,h⟩;refine⟨as,ρ,S,ok,en,ma _ _ _ _ (fun x S1 hs as1 H1 v g1 ok1 rv=>?_) h⟩;exact sim as1 H1 S1 x v Q ok1 rv (ms _ _ _ _ (fun z S3 hz=>hz.mono g1) hs)
theorem V0{K:Vy}{s:Sn}{r:List V->Hp->VK->Prop}{wa:WA}(sim:Uz K s r)(ms:MonoN s)(ma:MonoA wa):∀ σ H Q,lift K (wn s wa) σ H Q->tCB r (liftA K wa) σ H Q:=by
 rintro σ H Q ⟨as,ρ,S,ok,en,h⟩;refine⟨as,ρ,S,ok,en,ma _ _ _ _ (fun x S1 hs as1 H1 v g1 ok1 rv=>?_) h⟩;exact sim as1 H1 S1 x v Q ok1 rv (ms _ _ _ _ (fun z S3 hz=>hz.mono g1) hs)
noncomputable def EV:WA:=fun _ S Q=>Q [] S
noncomputable def DY(a:WE)(b:WA):WA:=fun ρ S Q=>a ρ S fun x S1=>b ρ S1 fun xs S2=>Q (x::xs) S2
theorem MonoA.nil:MonoA EV:=fun _ _ _ _ i h=>i _ _ h
theorem MonoA.cons{a:WE}{b:WA}(ha:Mono a)(hb:MonoA b):MonoA (DY a b):=fun _ _ _ _ i h=>ha _ _ _ _ (fun _ _ h=>hb _ _ _ _ (fun _ _ h=>i _ _ h) h) h
theorem Pd{X:Cx}{K:Vy}:PA X [] (liftA K EV):=Ms _ C7 fun σ H Q ⟨as,ρ,S,ok,en,h⟩=>h as H [] (Go.refl _ _) ok .nil
theorem Mt{K:Vy}{a:WE}{b:WA}(ma:Mono a)(mb:MonoA b):∀ σ H Q,liftA K (DY a b) σ H Q->MC (lift K a) (liftA K b) σ H Q:=by
 rintro σ H Q ⟨as,ρ,S,ok,en,h⟩;refine⟨as,ρ,S,ok,en,ma _ _ _ _ (fun x S1 hs as1 H1 v g1 ok1 rv=>?_) h⟩;refine⟨as1,ρ,S1,ok1,en.mono g1.pre (g1.ku ok),mb _ _ _ _ (fun xs S2 hq as2 H2 vs g2 ok2 rs=>?_) hs⟩;exact hq as2 H2 _ (g1.trans g2) ok2 (.cons (Rl.mono g2.pre (g2.ku ok1) x v rv) rs)
theorem Mu{X:Cx}{K:Vy}{e:Expr}{es:List Expr}{a:WE}{b:WA}(ma:Mono a)(mb:MonoA b)(h1:PE X e (lift K a))(h2:PA X es (liftA K b))(hs:starEach (e::es) X.env=(false,eval e X.env)::starEach es X.env):PA X (e::es) (liftA K (DY a b)):=Ms _ (BF h1 h2 hs) (Mt ma mb)
noncomputable def Sx(i:Nat):WE:=fun ρ S Q=>∃ x,ρ[i]?=some (some x)/\Q x S
noncomputable def wC(x:SV):WE:=fun _ S Q=>Q x S
theorem Mono.var{i:Nat}:Mono (Sx i):=fun _ _ _ _ i ⟨x,a,b⟩=>⟨x,a,i _ _ b⟩
theorem Mono.c{x:SV}:Mono (wC x):=fun _ _ _ _ i h=>i _ _ h
theorem Pe{K:Vy}{i:Nat}:∀ σ H Q,lift K (Sx i) σ H Q->Ol i σ H Q:=fun σ H Q ⟨as,ρ,S,ok,en,x,e,h⟩=>let ⟨v,ev,rv⟩:=en.2 i x e;⟨v,ev,h as H v (Go.refl _ _) ok rv⟩
theorem GH{K:Vy}{x:SV}{v:V}(hx:∀ as H,Rl K as H v x):∀ σ H Q,lift K (wC x) σ H Q->tC v σ H Q:=fun σ H Q ⟨as,ρ,S,ok,en,h⟩=>h as H v (Go.refl _ _) ok (hx as H)
noncomputable def big:Nat:=100000
theorem B0{n:Nat}(h:n<=big):n<=sizeLine:=Wj h (by decide)
theorem Cl{n:Nat}(h:n<big):n<sizeLine:=Wo h (by decide)
noncomputable def Pf:Sn:=fun xs S Q=>xs.length<=big/\Q (.tup xs) S
noncomputable def Pg:Sn:=fun xs S Q=>xs.length<=big/\Q (.loc S.length) (S++[.lst xs])
theorem MonoN.tup:MonoN Pf:=fun _ _ _ _ i h=>⟨h.1,i _ _ h.2⟩
theorem MonoN.lst:MonoN Pg:=fun _ _ _ _ i h=>⟨h.1,i _ _ h.2⟩
theorem Sy{K:Vy}{as:List Addr}{H:Hp}{S:Sto}{p:Addr}(ok:Ok K as H S):Rl K (as++[p]) (upd H p (.lst vs)) (.ref p) (.loc S.length):=rl_loc.mpr ⟨p,by rw[<-ok.len,Wc],rfl⟩
theorem y8{K:Vy}{as:List Addr}{H:Hp}{S:Sto}{Q:VK}{xs:List SV}{vs:List V}(ok:Ok K as H S)(r:RlAll K as H vs xs)(h:Post K as H Q (.loc S.length) (S++[.lst xs])):∀ p,H p=none->Q (.ref p) (upd H p (.lst vs)):=fun p hp=>
 h (as++[p]) _ (.ref p) (Go.push hp) (ok.push hp r) (Sy ok)
theorem CM{K:Vy}{as:List Addr}{H:Hp}{S:Sto}{Q:VK}{xs:List SV}{vs:List V}(ok:Ok K as H S)(r:RlAll K as H vs xs)(h:Post K as H Q (.tup xs) S):∀ p,H p=none->Q (.ref p) (upd H p (.tup vs)):=fun p hp=>
 h as _ (.ref p) (Go.new hp) (ok.new hp) (rl_tup.mpr ⟨p,vs,rfl,f6,RlAll.mono (Wq _) (Aw hp) xs vs r⟩)
theorem Ph{K:Vy}{wa:WA}(ma:MonoA wa):∀ σ H Q,lift K (wn Pf wa) σ H Q->UQ (liftA K wa) σ H Q:=by
 rintro σ H Q ⟨as,ρ,S,ok,en,h⟩;refine⟨as,ρ,S,ok,en,ma _ _ _ _ (fun xs S1 hs as1 H1 vs g1 ok1 rv=>?_) h⟩;exact⟨by rw[rv.length];exact B0 hs.1,CM ok1 rv (hs.2.mono g1)⟩
theorem Pi{K:Vy}{wa:WA}(ma:MonoA wa):∀ σ H Q,lift K (wn Pg wa) σ H Q->UR (liftA K wa) σ H Q:=by
 rintro σ H Q ⟨as,ρ,S,ok,en,h⟩;refine⟨as,ρ,S,ok,en,ma _ _ _ _ (fun xs S1 hs as1 H1 vs g1 ok1 rv=>?_) h⟩;exact⟨by rw[rv.length];exact B0 hs.1,y8 ok1 rv (hs.2.mono g1)⟩
end Rf
namespace L2
open PySem PySem.Spec PyProof.Rows
section
variable{prog:Program}{w:World}{A:Around}{E:Value->Shared->Prop}{s:Shared}
theorem SetX.kind{h:Heap}{a:Addr}{L:List Int}(x:SetX prog w h a L):h.SetOf (intKind prog w) a (fun k=>decide (k∈L)) L.length:=by
 obtain⟨o,es,ep,t,ho,hx,hd,hel,hb,hf,hT,hp⟩:=x;refine⟨o,es,ep,t,ho,hx,hd,hel,fun k=>?_,hb,hf,by rw[<-hp.length_eq];simp⟩;rw[decide_eq_true_eq,<-hp.mem_iff,WZ];constructor
 ·rintro⟨e,he,rfl⟩;obtain⟨⟨k,hk,_⟩,_⟩:=hel e he;exact⟨e,he,by rw[D8 hk];exact hk⟩
 ·rintro⟨e,he,hk⟩;exact⟨e,he,D8 hk⟩
end
section
variable{X:Cx}
noncomputable def JL(ns:List Int):List Int:=firstMet (fun i=>ns.getD i 0) ns.length
theorem GI(ns:List Int)(k:Int):k∈JL ns↔k∈ns:=by
 have e:=firstMet_any (fun i=>ns.getD i 0) ns.length k
 have e2:(WP ns.length).map (fun i=>ns.getD i 0)=ns:=by
  apply List.ext_getElem
  ·simp
  ·intro i h1 h2;simp[W0 h2]
 rw[e2]at e;have h1:(JL ns).any (· == k)=true↔k∈JL ns:=by simp
 have h2:ns.any (· == k)=true↔k∈ns:=by simp
 rw[<-h1,<-h2];unfold JL;rw[e]
theorem Mv:OpR X (compareOp .In) (fun x y H Q=>∃(k:Int) (p:Addr) (S:Int->Bool) (n:Nat),x = .int k/\y = .ref p/\H p=some (.set S n)/\Q (.bl (S k)) H):=by
 intro pins s σ H x y v u Q I rx ry h;obtain⟨k,p,S,n,rfl,rfl,hp,q⟩:=h;obtain⟨t,rfl⟩:=rx;cases ry;have hS:s.heap.SetOf (intKind X.prog X.w) p S n:=I.hok p _ hp;exact wpAny_inSet_of (k:=k) (intKind_is _ _ _ _) rfl hS ⟨.bl _,H,I.tok _,rfl,q⟩
end
open PySem PySem.Spec PyProof.Rows
section
variable{X:Cx}
theorem JM(hu:X.A.units<cLine):OpR X (compareOp .Eq) (fun x y H Q=>∃ a b xs,x = .ref a/\y = .ref b/\SqT X.K H a xs/\SqT X.K H b []/\Q (.bl xs.isEmpty) H):=by
 intro pins s σ H x y v u Q I rx ry h;obtain⟨a,b,xs,rfl,rfl,ha,hb,q⟩:=h;cases rx;cases ry;obtain⟨its1,r1,p1,_⟩:=I.tuple ha;obtain⟨its2,r2,p2,_⟩:=I.tuple hb;cases r2;refine SeqAt.eq_tupleAt (e:=fun _=>true) (show s.heap.IsTuple a its1.toArray from p1) (show s.heap.IsTuple b _ from p2) hu (fun j _ h2=>by simp at h2) ?_;refine⟨.bl xs.isEmpty,H,I,?_,q⟩;show Value.bool _=Value.bool _
 congr 1
 cases xs with
 | nil=>cases r1;rfl
 | cons x xs=>cases r1;simp
end
open PySem PySem.Spec PyProof.Rows
theorem Vals.rev:∀{xs:List V} {us:List Value},Vals xs us->Vals xs.reverse us.reverse
 | _,_,.nil => .nil
 | _,_,.cons r rr=>by
   rw[Xy,Xy];exact(Vals.rev rr).append (.cons r .nil)
section
variable{X:Cx}{e st:Expr}{te:TE}{tp:TO}{pos p2:Pos}
noncomputable def Vp(K:Vy)(te:TE)(tp:TO):TE:=fun σ H Q=>te σ H fun x H1=>tp σ H1 fun u H2=>u=some (-1)/\∃ a xs,x = .ref a/\SqL K H2 a xs/\∀ p,H2 p=none->Q (.ref p) (upd H2 p (.lst xs.reverse))
theorem Sz(he:PE X e te)(hp:PO X (some st) tp):PE X (.Subscript e (.Slice none none (some st) p2) pos) (Vp X.K te tp):=by
 intro pins s σ H Q I h;refine Subscript_ (thn (he pins s σ H _ I h) fun v s1 ⟨x,H1,I1,r1,q1⟩=>?_);refine wpAny_Slice ?_;rw[evalPart_none];refine wpAny_pure (wpAny_pure ?_);refine thn (hp pins s1 σ H1 _ I1 q1) fun vu s3 ⟨u,H3,I3,pu,q3⟩=>?_;obtain⟨rfl,a,xs,rfl,hx,q⟩:=q3;cases r1;have I4:Inv X pins σ H3 {s3 with heap:=s3.heap.push {cls := .type "slice",data := .fields #[.none,.none,vu]}}:=I3.kept (t':=s3.toks) fun b ob q=>W8 _ q;show wpAny (model X.prog X.w) X.A (subscriptTail e (.Slice none none (some st) p2) (.ref a) (.ref s3.heap.objs.size)) (EP X pins σ Q) X.xe {s3 with heap:=s3.heap.push {cls := .type "slice",data := .fields #[.none,.none,vu]}};obtain⟨its,r,ht,hz⟩:=I4.list hx;have hlen:=r.length;refine tail_any (ops:=[.ref a,.ref s3.heap.objs.size]) ht.isList.typeIs slot_list_getitem.lookup ?_ (by with_unfolding_all rfl);refine wpAny_getItem_list_slice ht.isList (ZR.new ..) .none .none pu (by decide) ?_ (by rw[W7]<;>omega);rw[PySem.W.krv_pick];refine⟨.ref _,_,I4.laid (t':=s3.toks) (o := .lst xs.reverse) (fun b ob q=>W8 _ q) (WB _) ?_,rfl,q _ (I4.hok.fresh (WB _))⟩;exact⟨by rw[Z4];exact hz,_,0,r.rev,WL _ rfl⟩
end
end L2
namespace Rf
open PySem L2
noncomputable def AZ:SV->Bool
 | .non=>true | .bl _=>true | .int _=>true | .str _=>true | _=>false
noncomputable def toV:SV->V
 | .non => .non | .bl b => .bl b | .int i => .int i | .str x => .str x | _ => .non
noncomputable def eqF:SV->SV->Bool
 | .non,.non=>true
 | .bl a,.bl b=>a == b
 | .bl a,.int b=>(if a then 1 else 0) == b
 | .int a,.bl b=>a == (if b then 1 else 0)
 | .int a,.int b=>a == b
 | .str a,.str b=>a == b
 | _,_=>false
noncomputable def FB(xs ys:List SV):Bool:=xs.length == ys.length&&(xs.zip ys).all fun p=>eqF p.1 p.2
noncomputable def inS(x:SV)(xs:List SV):Bool:=xs.any fun y=>eqF y x
section
variable{K:Vy}{as:List Addr}{H:Hp}
theorem JN{x:SV}{v:V}(f:AZ x=true)(r:Rl K as H v x):v=toV x:=by
 cases x with
 | non=>exact rl_non.mp r
 | bl _=>exact rl_bl.mp r
 | int _=>exact rl_int.mp r
 | str _=>exact rl_str.mp r
 | _=>cases f
theorem B3:∀{xs:List SV} {vs:List V},xs.all AZ=true->RlAll K as H vs xs->vs=xs.map toV
 | [],_,_,r=>rla_nil.mp r
 | x::xs,_,f,r=>by
   rw[XS,Vz]at f;obtain⟨v,vs,rfl,r1,r2⟩:=rla_cons.mp r;rw[JN f.1 r1,B3 f.2 r2];rfl
theorem GJ{x:SV}(f:AZ x=true):A7 (toV x)=true:=by cases x<;>first | rfl | cases f
theorem Cn{xs:List SV}(f:xs.all AZ=true):(xs.map toV).all A7=true:=by
 rw[Wa]at f ⊢;intro v hv;obtain⟨x,hx,rfl⟩:=WZ.mp hv;exact GJ (f x hx)
theorem FC{x y:SV}(fx:AZ x=true)(fy:AZ y=true):eqV (toV x) (toV y)=eqF x y:=by
 cases x<;>first | cases fx;done | (cases y<;>first | rfl | cases fy)
theorem T9{x:SV}{xs:List SV}(fx:AZ x=true)(f:xs.all AZ=true):inV (toV x) (xs.map toV)=inS x xs:=by
 unfold inV inS;rw[ZJ];rw[Wa]at f;rw[XU,Xs,Xs];constructor
 ·rintro⟨y,hy,e⟩;exact⟨y,hy,by rw[<-FC (f y hy) fx];exact e⟩
 ·rintro⟨y,hy,e⟩;exact⟨y,hy,by show eqV (toV y) (toV x)=true;rw[FC (f y hy) fx];exact e⟩
theorem Pj:∀{xs ys:List SV},xs.all AZ=true->ys.all AZ=true->Aq (xs.map toV) (ys.map toV)=FB xs ys:=by
 intro xs ys fx fy;unfold Aq FB;rw[W2,W2,List.zip_map,ZK]
 congr 1
 rw[XU,Wa,Wa];rw[Wa]at fx fy;constructor
 ·rintro h ⟨a,b⟩ hm;have:=h (a,b) hm;rw[<-FC (fx a (Xw hm).1) (fy b (Xw hm).2)];exact this
 ·rintro h ⟨a,b⟩ hm;have:=h (a,b) hm;show eqV (toV a) (toV b)=true;rw[FC (fx a (Xw hm).1) (fy b (Xw hm).2)];exact this
noncomputable def Aa:SV->Sto->Option (List SV)
 | .tup xs,_=>some xs
 | .ro xs,_=>some xs
 | .loc k,S=>match S[k]? with | some (.lst xs)=>some xs | _=>none
 | _,_=>none
theorem FD{x:SV}{v:V}{S:Sto}{xs:List SV}(ok:Ok K as H S)(r:Rl K as H v x)(h:Aa x S=some xs):∃ a vs,v = .ref a/\(SqL K H a vs\/SqT K H a vs)/\RlAll K as H vs xs:=by
 cases x with
 | tup ys=>
   cases h;obtain⟨p,vs,rfl,hp,rr⟩:=rl_tup.mp r;exact⟨p,vs,rfl,.inr (SqT.of hp),rr⟩
 | ro ys=>
   cases h;obtain⟨p,vs,rfl,hp,rr⟩:=rl_ro.mp r;exact⟨p,vs,rfl,.inl hp.sq,rr⟩
 | loc k=>
   obtain⟨a,ea,rfl⟩:=rl_loc.mp r;unfold Aa at h;cases hs:S[k]? with
   | none=>simp only[hs]at h;cases h
   | some o=>
     cases o with
     | lst ys=>
       simp only[hs]at h;cases h;obtain⟨vs,h1,rr⟩:=ok.obj k _ a hs ea;exact⟨a,vs,rfl,.inl (SqL.of h1),rr⟩
     | iset _=>simp only[hs]at h;cases h
     | dct _=>simp only[hs]at h;cases h
     | dcf _ _ _=>simp only[hs]at h;cases h
 | _=>cases h
theorem m9{k:Nat}{v:V}{S:Sto}{xs:List SV}(ok:Ok K as H S)(r:Rl K as H v (.loc k))(h:S[k]?=some (.lst xs)):∃ a vs,v = .ref a/\as[k]?=some a/\H a=some (.lst vs)/\RlAll K as H vs xs:=by
 obtain⟨a,ea,rfl⟩:=rl_loc.mp r;obtain⟨vs,h1,rr⟩:=ok.obj k _ a h ea;exact⟨a,vs,rfl,ea,h1,rr⟩
end
noncomputable def Mw:S2
 | .int i,.int j,S,Q=>Q (.int (i+j)) S
 | .loc k,.loc l,S,Q=>∃ xs ys,S[k]?=some (.lst xs)/\S[l]?=some (.lst ys)/\xs.length+ys.length<=big/\Q (.loc S.length) (S++[.lst (xs++ys)])
 | _,_,_,_=>False
noncomputable def IA(C:Int->Int->Prop)(g:Int->Int->SV):S2
 | .int i,.int j,S,Q=>C i j/\Q (g i j) S
 | _,_,_,_=>False
noncomputable def CN(g:Int->Int->SV):S2
 | .int i,.int j,S,Q=>Q (g i j) S
 | _,_,_,_=>False
noncomputable def Mx:S2
 | .int i,.int j,S,Q=>CMul i j/\Q (.int (i * j)) S
 | .loc k,.int j,S,Q=>∃ xs,S[k]?=some (.lst xs)/\(-1000000<j/\j<1000000)/\xs.length * j.toNat<=big/\Q (.loc S.length) (S++[.lst (WC j.toNat xs).flatten])
 | _,_,_,_=>False
theorem Mono2.add:Mono2 Mw:=fun x y S P P' i h=>by
 unfold Mw at h ⊢
 split at h<;>first
  | exact i _ _ h
  | exact⟨h.1,i _ _ h.2⟩
  | (obtain⟨xs,ys,a,b,c,d⟩:=h;exact⟨xs,ys,a,b,c,i _ _ d⟩)
  | exact h.elim
theorem Mono2.int{C:Int->Int->Prop}{g:Int->Int->SV}:Mono2 (IA C g):=fun x y S P P' i h=>by
 unfold IA at h ⊢;split at h
 ·exact⟨h.1,i _ _ h.2⟩
 ·exact h.elim
theorem Mono2.int0{g:Int->Int->SV}:Mono2 (CN g):=fun x y S P P' i h=>by
 unfold CN at h ⊢;split at h
 ·exact i _ _ h
 ·exact h.elim
theorem Mono2.mul:Mono2 Mx:=fun x y S P P' i h=>by
 unfold Mx at h ⊢;split at h
 ·exact⟨h.1,i _ _ h.2⟩
 ·obtain⟨xs,a,b,c,d⟩:=h;exact⟨xs,a,b,c,i _ _ d⟩
 ·exact h.elim
section
variable{K:Vy}
theorem Post.here{as:List Addr}{H:Hp}{Q:VK}{x:SV}{S:Sto}{v:V}(h:Post K as H Q x S)(ok:Ok K as H S)(r:Rl K as H v x):Q v H:=h as H v (Go.refl _ _) ok r
theorem FE{C:Int->Int->Prop}{g:Int->Int->SV}{g':Int->Int->V}(hg:∀ as H i j,Rl K as H (g' i j) (g i j)):BG K (IA C g) (rI C g'):=fun as H S x y v u Q ok rx ry h=>by
 unfold IA at h;split at h
 ·rw[rl_int]at rx ry;exact⟨_,_,rx,ry,h.1,h.2.here ok (hg _ _ _ _)⟩
 ·exact h.elim
theorem Bc{g:Int->Int->SV}{g':Int->Int->V}(hg:∀ as H i j,Rl K as H (g' i j) (g i j)):BG K (CN g) (rI0 g'):=fun as H S x y v u Q ok rx ry h=>by
 unfold CN at h;split at h
 ·rw[rl_int]at rx ry;exact⟨_,_,rx,ry,h.here ok (hg _ _ _ _)⟩
 ·exact h.elim
noncomputable def V1(K:Vy):R2:=fun x y H Q=>(rI0 fun i j => .int (i+j)) x y H Q\/Ua x y H Q
theorem Pk{X:Cx}:OpR X (binaryOp .Add) (V1 X.K):=op_add.or SZ
theorem Pl:BG K Mw (V1 K):=fun as H S x y v u Q ok rx ry h=>by
 unfold Mw at h;split at h
 ·rw[rl_int]at rx ry;exact .inl ⟨_,_,rx,ry,h.here ok (rl_int.mpr rfl)⟩
 ·obtain⟨xs,ys,h1,h2,h3,h4⟩:=h;obtain⟨a,vs,rfl,_,ha,ra⟩:=m9 ok rx h1;obtain⟨b,us,rfl,_,hb,rb⟩:=m9 ok ry h2;exact(.inr (⟨a,b,vs,us,rfl,rfl,ha,hb,by rw[ra.length,rb.length];exact B0 h3,y8 ok (ra.append rb) h4⟩))
 ·exact h.elim
theorem RlAll.rep{as:List Addr}{H:Hp}{vs:List V}{xs:List SV}(h:RlAll K as H vs xs):∀ n,RlAll K as H (WC n vs).flatten (WC n xs).flatten
 | 0=>by simpa using RlAll.nil
 | n+1=>by
   rw[Wr,Wr,XE,XE];exact h.append (RlAll.rep h n)
theorem Pm:BG K Mx (fun x y H Q=>(rI CMul fun i j => .int (i * j)) x y H Q\/Ub x y H Q):=fun as H S x y v u Q ok rx ry h=>by
 unfold Mx at h;split at h
 ·rw[rl_int]at rx ry;exact .inl ⟨_,_,rx,ry,h.1,h.2.here ok (rl_int.mpr rfl)⟩
 ·rename_i k j;obtain⟨xs,h1,h2,h3,h4⟩:=h;obtain⟨a,vs,rfl,_,ha,ra⟩:=m9 ok rx h1;rw[rl_int]at ry;subst ry;exact .inr (⟨a,j,vs,rfl,rfl,ha,by omega,by omega,by rw[ra.length];exact B0 h3,y8 ok (ra.rep _) h4⟩)
 ·exact h.elim
end
noncomputable def scS:SV->SV->Option Bool
 | .int i,.int j=>some (decide (i=j))
 | .bl i,.bl j=>some (decide (i=j))
 | .str i,.str j=>some (decide (i=j))
 | .non,.non=>some true
 | .non,.int _=>some false | .int _,.non=>some false | .non,.bl _=>some false | .bl _,.non=>some false | .non,.str _=>some false | .str _,.non=>some false
 | .int _,.str _=>some false | .str _,.int _=>some false | .bl _,.str _=>some false | .str _,.bl _=>some false
 | _,_=>none
noncomputable def IB:SV->SV->Sto->(Bool->Prop)->Prop
 | .loc k,.loc l,S,Q=>∃ xs ys,S[k]?=some (.lst xs)/\S[l]?=some (.lst ys)/\((xs.all AZ=true/\ys.all AZ=true)\/xs=[]\/ys=[])/\Q (FB xs ys)
 | _,_,_,_=>False
noncomputable def sEq:S2:=fun x y S Q=>match scS x y with | some b=>Q (.bl b) S | none=>IB x y S fun b=>Q (.bl b) S
noncomputable def sNe:S2:=fun x y S Q=>match scS x y with | some b=>Q (.bl (!b)) S | none=>IB x y S fun b=>Q (.bl (!b)) S
noncomputable def EW:SV->Sto->Option (List Int)
 | .loc k,S=>match S[k]? with | some (.iset ms)=>some ms | _=>none
 | _,_=>none
noncomputable def sIn(neg:Bool):S2:=fun x y S Q=>match EW y S with
 | some ms=>∃ i,x = .int i/\neg=false/\Q (.bl (decide (i∈ms))) S
 | none=>AZ x=true/\∃ ys,Aa y S=some ys/\ys.all AZ=true/\Q (.bl (if neg then !inS x ys else inS x ys)) S
noncomputable def My:SV->Bool
 | .non=>true
 | _=>false
noncomputable def Mz(neg:Bool):S2:=fun x y S Q=>(y = .non/\Q (.bl (if neg then !My x else My x)) S)\/∃ c d,neg=true/\x = .bl c/\y = .bl d/\Q (.bl (c != d)) S
theorem EX{x y:SV}{S:Sto}{P P':Bool->Prop}(i:∀ b,P b->P' b)(h:IB x y S P):IB x y S P':=by
 unfold IB at h ⊢;split at h
 ·obtain⟨xs,ys,a,b,c,d⟩:=h;exact⟨xs,ys,a,b,c,i _ d⟩
 ·exact h.elim
theorem Mono2.eq:Mono2 sEq:=fun x y S P P' i h=>by
 unfold sEq at h ⊢;split at h
 ·exact i _ _ h
 ·exact EX (fun _=>i _ _) h
theorem Mono2.ne:Mono2 sNe:=fun x y S P P' i h=>by
 unfold sNe at h ⊢;split at h
 ·exact i _ _ h
 ·exact EX (fun _=>i _ _) h
theorem Mono2.in'{n:Bool}:Mono2 (sIn n):=fun x y S P P' i h=>by
 unfold sIn at h ⊢;split at h
 ·obtain⟨j,e,z,h⟩:=h;exact⟨j,e,z,i _ _ h⟩
 ·obtain⟨f,ys,a,b,h⟩:=h;exact⟨f,ys,a,b,i _ _ h⟩
theorem Mono2.isN{n:Bool}:Mono2 (Mz n):=fun x y S P P' i h=>h.imp (fun h=>⟨h.1,i _ _ h.2⟩) fun⟨c,d,z,a,b,h⟩=>⟨c,d,z,a,b,i _ _ h⟩
section
variable{K:Vy}
theorem N0{as:List Addr}{H:Hp}{x y:SV}{v u:V}{b:Bool}(e:scS x y=some b)(rx:Rl K as H v x)(ry:Rl K as H u y):SM v u=true/\decide (v=u)=b:=by
 cases x<;>first | (unfold scS at e;cases e;done) | (cases y<;>first | (unfold scS at e;cases e;done) | (simp only[rl_non,rl_bl,rl_int,rl_str]at rx ry;subst rx ry;unfold scS at e;injection e with e;subst e;exact⟨rfl,by simp⟩))
theorem JO{as:List Addr}{H:Hp}{S:Sto}{x y:SV}{v u:V}{Q:Bool->Prop}(ok:Ok K as H S)(rx:Rl K as H v x)(ry:Rl K as H u y)(h:IB x y S Q):∃ a b xs ys,v = .ref a/\u = .ref b/\SqL K H a xs/\SqL K H b ys/\((xs.all A7=true/\ys.all A7=true)\/xs=[]\/ys=[])/\Q (Aq xs ys):=by
 unfold IB at h;split at h
 ·obtain⟨xs,ys,h1,h2,h3,h4⟩:=h;obtain⟨a,vs,rfl,_,ha,ra⟩:=m9 ok rx h1;obtain⟨b,us,rfl,_,hb,rb⟩:=m9 ok ry h2;refine⟨a,b,vs,us,rfl,rfl,SqL.of ha,SqL.of hb,?_,?_⟩
  ·rcases h3 with⟨f1,f2⟩ | h3 | h3
   ·rw[B3 f1 ra,B3 f2 rb];exact .inl ⟨Cn f1,Cn f2⟩
   ·subst h3;exact .inr (.inl (rla_nil.mp ra))
   ·subst h3;exact .inr (.inr (rla_nil.mp rb))
  ·have e:Aq vs us=FB xs ys:=by
    rcases h3 with⟨f1,f2⟩ | h3 | h3
    ·rw[B3 f1 ra,B3 f2 rb,Pj f1 f2]
    ·subst h3;have:=rla_nil.mp ra;subst this;have l:=rb.length;unfold Aq FB;simp[l]
    ·subst h3;have:=rla_nil.mp rb;subst this;have l:=ra.length;unfold Aq FB;simp[l]
   rw[e];exact h4
 ·exact h.elim
theorem TB:BG K sEq (fun x y H Q=>rEq x y H Q\/PB K false x y H Q):=fun as H S x y v u Q ok rx ry h=>by
 unfold sEq at h;split at h
 ·rename_i b e;obtain⟨h1,h2⟩:=N0 e rx ry;exact .inl ⟨h1,by rw[h2];exact h.here ok (rl_bl.mpr rfl)⟩
 ·obtain⟨a,b,xs,ys,e1,e2,h1,h2,h3,h4⟩:=JO ok rx ry h;exact .inr ⟨a,b,xs,ys,e1,e2,h1,h2,h3,h4.here ok (rl_bl.mpr rfl)⟩
theorem TC:BG K sNe (fun x y H Q=>rNe x y H Q\/PB K true x y H Q):=fun as H S x y v u Q ok rx ry h=>by
 unfold sNe at h;split at h
 ·rename_i b e;obtain⟨h1,h2⟩:=N0 e rx ry;exact .inl ⟨h1,by rw[h2];exact h.here ok (rl_bl.mpr rfl)⟩
 ·obtain⟨a,b,xs,ys,e1,e2,h1,h2,h3,h4⟩:=JO ok rx ry h;exact .inr ⟨a,b,xs,ys,e1,e2,h1,h2,h3,h4.here ok (rl_bl.mpr rfl)⟩
theorem Pn{as:List Addr}{H:Hp}{S:Sto}{y:SV}{u:V}{ms:List Int}(ok:Ok K as H S)(r:Rl K as H u y)(h:EW y S=some ms):∃ a k F,y = .loc k/\u = .ref a/\as[k]?=some a/\S[k]?=some (.iset ms)/\H a=some (.set F ms.length)/\∀ k,F k=decide (k∈ms):=by
 cases y with
 | loc k=>
   obtain⟨a,ea,rfl⟩:=rl_loc.mp r;unfold EW at h;cases hs:S[k]? with
   | none=>simp only[hs]at h;cases h
   | some o=>
     cases o with
     | lst ys=>simp only[hs]at h;cases h
     | iset ns=>
       simp only[hs]at h;cases h;obtain⟨F,h1,h2⟩:=ok.obj k _ a hs ea;exact⟨a,k,F,rfl,rfl,ea,hs,h1,h2⟩
     | dct _=>simp only[hs]at h;cases h
     | dcf _ _ _=>simp only[hs]at h;cases h
 | _=>cases h
noncomputable def TD(K:Vy)(neg:Bool):R2:=fun x y H Q=>rIn K neg x y H Q\/(neg=false/\∃(k:Int) (p:Addr) (S:Int->Bool) (n:Nat),x = .int k/\y = .ref p/\H p=some (.set S n)/\Q (.bl (S k)) H)
theorem TF{X:Cx}:OpR X (compareOp .In) (TD X.K false):=fun pins s σ H x y v u Q I rx ry h=>h.elim (KP pins s σ H x y v u Q I rx ry) fun h=>Mv pins s σ H x y v u Q I rx ry h.2
theorem Kj{X:Cx}:OpR X (compareOp .NotIn) (TD X.K true):=fun pins s σ H x y v u Q I rx ry h=>h.elim (F0 pins s σ H x y v u Q I rx ry) fun h=>by cases h.1
theorem N1{n:Bool}:BG K (sIn n) (TD K n):=fun as H S x y v u Q ok rx ry h=>by
 unfold sIn at h;split at h
 ·rename_i ms hi;obtain⟨i,rfl,rfl,h⟩:=h;obtain⟨a,k,F,rfl,rfl,ea,es,hF,hk⟩:=Pn ok ry hi;rw[rl_int]at rx;exact .inr ⟨rfl,i,a,F,_,rx,rfl,hF,by rw[hk];exact h.here ok (rl_bl.mpr rfl)⟩
 ·obtain⟨f,ys,hs,fs,h⟩:=h;obtain⟨a,vs,rfl,hq,rr⟩:=FD ok ry hs;have ev:=JN f rx;have es:=B3 fs rr;subst ev es;exact .inl ⟨a,_,rfl,hq,GJ f,Cn fs,by rw[T9 f fs];exact h.here ok (rl_bl.mpr rfl)⟩
theorem GK{as:List Addr}{H:Hp}{x:SV}{v:V}(r:Rl K as H v x):decide (v=V.non)=My x:=by
 cases x with
 | non=>rw[rl_non.mp r];rfl
 | bl _=>rw[rl_bl.mp r];rfl
 | int _=>rw[rl_int.mp r];rfl
 | str _=>rw[rl_str.mp r];rfl
 | tup _=>obtain⟨p,vs,rfl,_⟩:=rl_tup.mp r;rfl
 | loc _=>obtain⟨p,_,rfl⟩:=rl_loc.mp r;rfl
 | ro _=>obtain⟨p,vs,rfl,_⟩:=rl_ro.mp r;rfl
 | ty _=>rw[rl_ty.mp r];rfl
theorem Po:BG K (Mz false) (fun x y H Q=>y = .non/\Q (.bl (decide (x = .non))) H):=fun as H S x y v u Q ok rx ry h=>by
 rcases h with⟨e,h⟩ | ⟨c,d,z,_⟩
 ·subst e;exact⟨rl_non.mp ry,by rw[GK rx];exact h.here ok (rl_bl.mpr rfl)⟩
 ·cases z
theorem N3:BG K (Mz true) (fun x y H Q=>(y = .non/\Q (.bl (!decide (x = .non))) H)\/∃ c d,x = .bl c/\y = .bl d/\Q (.bl (c != d)) H):=fun as H S x y v u Q ok rx ry h=>by
 rcases h with⟨e,h⟩ | ⟨c,d,_,rfl,rfl,h⟩
 ·subst e;exact .inl ⟨rl_non.mp ry,by rw[GK rx];exact h.here ok (rl_bl.mpr rfl)⟩
 ·exact .inr ⟨c,d,rl_bl.mp rx,rl_bl.mp ry,h.here ok (rl_bl.mpr rfl)⟩
end
noncomputable def sIx:S2
 | x,.int i,S,Q=>∃ xs y,Aa x S=some xs/\atI xs i=some y/\Q y S
 | _,_,_,_=>False
theorem Mono2.ix:Mono2 sIx:=fun x y S P P' i h=>by
 unfold sIx at h ⊢;split at h
 ·obtain⟨xs,z,a,b,c⟩:=h;exact⟨xs,z,a,b,i _ _ c⟩
 ·exact h.elim
section
variable{K:Vy}
theorem RlAll.atI{as:List Addr}{H:Hp}{xs:List SV}{vs:List V}{i:Int}{y:SV}(h:RlAll K as H vs xs)(e:L2.atI xs i=some y):∃ v,L2.atI vs i=some v/\Rl K as H v y:=by
 unfold L2.atI at e ⊢;rw[h.length];cases hj:ixN xs.length i with
 | none=>rw[hj]at e;cases e
 | some j=>
   rw[hj]at e;exact h.get e
theorem TH:BG K sIx (fun x y H Q=>UW K x y H Q\/UX K x y H Q):=fun as H S x y v u Q ok rx ry h=>by
 unfold sIx at h;split at h
 ·obtain⟨xs,z,h1,h2,h3⟩:=h;obtain⟨a,vs,rfl,hq,rr⟩:=FD ok rx h1;obtain⟨w,hw,rw'⟩:=rr.atI h2;rw[rl_int]at ry;rcases hq with hq | hq
  ·exact .inl ⟨a,vs,_,w,rfl,ry,hq,hw,h3.here ok rw'⟩
  ·exact .inr ⟨a,vs,_,w,rfl,ry,hq,hw,h3.here ok rw'⟩
 ·exact h.elim
end
end Rf
namespace PySem
namespace AutoSeq1
set_option maxRecDepth 8000 in
theorem extT(l:Addr)(items:Array Value)(n:Nat)(b:Addr)(items2:Array Value)(n2:Nat)(dd:Option Addr)(sl:Array (Option Value))(hs0:¬(!items.isEmpty&&Builtin.List.listTooLong (items.size+items2.size))=true)(hs1:items.size<=sizeLine)(hs2:items.size+items2.size<=sizeLine+1:=by seq_fits):
 Meets (Builtin.«list.extend» ⟨[.ref l,.ref b],[]⟩) (fun _ R s=>s.heap.get? l=some {cls := .type "list",dict:=none,data := .seq items n,slots:=#[]}/\s.heap.get? b=some {cls := .type "tuple",dict:=dd,data := .seq items2 n2,slots:=sl}/\R (.ok (.ret Value.none)) {s with heap:=s.heap.update l (Obj.mapSeq fun x=>x++items2),toks:=s.toks}):=
 .of_wp fun prog w A R s h=>by
  obtain⟨hp,g,d,tk,os⟩:=s;obtain⟨hl,hb,h⟩:=h;have f1:=idx_int;have f2:=sub_tuple_tuple;have f3:=sub_list_list;have f4:=sub_tuple_list;have f5:=sub_list_tuple;have hz':(items++items2).size<=sizeLine+1:=by rw[Array.size_append];exact hs2
  wp_walk using (wpAny_updateSeq hl rfl (hz:=hs1) (_hz':=hz')),wpAny_loadPart' hl,wpAny_loadPart' hb;exact⟨_,rfl,h⟩
end AutoSeq1
end PySem
namespace L2
open PySem PySem.Spec PyProof.Rows
section
variable{X:Cx}
noncomputable def RJ:V->List V->Hp->VK->Prop:=fun x vs H Q=>∃ l b xs zs,x = .ref l/\vs=[.ref b]/\H l=some (.lst xs)/\H b=some (.tup zs)/\xs.length+zs.length<=sizeLine/\Q .non (upd H l (.lst (xs++zs)))
theorem JP:MtM X "list.extend" RJ:=by
 intro pins s σ H x vs v us Q I rx rv h;obtain⟨l,b,xs,zs,rfl,rfl,hH,hB,hz,q⟩:=h;cases rx;obtain⟨u,rfl,ru⟩:=rv.one;cases ru;obtain⟨z,its,n,r,hl,e⟩:=I.lstM hH;obtain⟨its2,r2,⟨⟨cls,dd,dat,sl⟩,e2,c2,n2,d2⟩,z2⟩:=I.tuple (SqT.of hB);simp only at c2 d2;subst c2 d2;have hl2:=r2.length;have hsz:its.toArray.size+its2.toArray.size<=sizeLine:=by rw[W7,W7];omega
 have hlong:¬ (!its.toArray.isEmpty&&Builtin.List.listTooLong (its.toArray.size+its2.toArray.size))=true:=by
  rw[DP hsz,Yy];exact WF
 refine call_meets F.slot_list_extend ⟨_,e,rfl⟩ F.entry_list_extend (F.args_list_extend_2 _ _)
  (AutoSeq1.extT l its.toArray n b its2.toArray n2 dd sl hlong (by rw[W7];omega) (by omega)) ⟨e,e2,?_⟩
 refine⟨.non,_,I.lset (its':=its++its2) hH e (by simp) (r.append r2) ?_,rfl,q⟩;rw[W3];omega
end
end L2
namespace Rf
open PySem L2
inductive BI where
 | len | abs | min | max | int | list | tuple | all | any | sorted | isi | str
 deriving DecidableEq
noncomputable def BI.name:BI->Str
 | .len=>"len" | .abs=>"abs" | .min=>"min" | .max=>"max" | .int=>"int" | .list=>"list" | .tuple=>"tuple" | .all=>"all" | .any=>"any" | .sorted=>"sorted" | .isi=>"isinstance" | .str=>"str"
noncomputable def blS:List SV->Option (List Bool)
 | []=>some []
 | .bl b::xs=>(blS xs).map (b::·)
 | _::_=>none
noncomputable def E6:List SV->Option (List Int)
 | []=>some []
 | .int i::xs=>(E6 xs).map (i::·)
 | _::_=>none
noncomputable def tyS:SV->Sto->Option TyN
 | .non,_=>some .none
 | .bl _,_=>some .bool
 | .int _,_=>some .int
 | .str _,_=>some .str
 | .tup _,_=>some .tuple
 | .loc k,S=>match S[k]? with | some (.lst _)=>some .list | _=>none
 | _,_=>none
noncomputable def IC:TyN->TyN->Bool
 | .bool,.int=>true
 | a,b=>decide (a=b)
noncomputable def Kk:List SV->Option (List TyN)
 | []=>some []
 | .ty t::xs=>(Kk xs).map (t::·)
 | _::_=>none
noncomputable def a0(f:Sto->QE->Prop):Sn:=fun xs S Q=>match xs with | []=>f S Q | _=>False
noncomputable def a1(f:S1):Sn:=fun xs S Q=>match xs with | [x]=>f x S Q | _=>False
noncomputable def a2(f:S2):Sn:=fun xs S Q=>match xs with | [x,y]=>f x y S Q | _=>False
noncomputable def oI(f:Int->Sto->QE->Prop):S1:=fun x S Q=>match x with | .int i=>f i S Q | _=>False
theorem V2{f:Sto->QE->Prop}{xs:List SV}{S:Sto}{Q:QE}(h:a0 f xs S Q):xs=[]/\f S Q:=match xs,h with | [],h=>⟨rfl,h⟩
theorem DZ{f:S1}{xs:List SV}{S:Sto}{Q:QE}(h:a1 f xs S Q):∃ x,xs=[x]/\f x S Q:=match xs,h with | [x],h=>⟨x,rfl,h⟩
theorem N4{f:S2}{xs:List SV}{S:Sto}{Q:QE}(h:a2 f xs S Q):∃ x y,xs=[x,y]/\f x y S Q:=match xs,h with | [x,y],h=>⟨x,y,rfl,h⟩
theorem Co{f:Int->Sto->QE->Prop}{x:SV}{S:Sto}{Q:QE}(h:oI f x S Q):∃ i,x = .int i/\f i S Q:=match x,h with | .int i,h=>⟨i,rfl,h⟩
theorem AJ{f:S1}(m:EU f):MonoN (a1 f):=fun xs S P P' i h=>by
 replace h:=DZ h;obtain⟨x,rfl,h⟩:=h;exact m x S P P' i h
theorem D9{f:S2}(m:Mono2 f):MonoN (a2 f):=fun xs S P P' i h=>by
 replace h:=N4 h;obtain⟨x,y,rfl,h⟩:=h;exact m x y S P P' i h
theorem Pp{f:Int->Sto->QE->Prop}(m:∀ k S P P',(∀ x S',P x S'->P' x S')->f k S P->f k S P'):EU (oI f):=fun x S P P' i h=>by
 replace h:=Co h;obtain⟨k,rfl,h⟩:=h;exact m k S P P' i h
noncomputable def V3:S1
 | .int i,S,Q=>Q (.int i) S
 | .bl b,S,Q=>Q (.int (if b then 1 else 0)) S
 | _,_,_=>False
theorem RK{x:SV}{S:Sto}{Q:QE}(h:V3 x S Q):(∃ i,x = .int i/\Q (.int i) S)\/∃ b,x = .bl b/\Q (.int (if b then 1 else 0)) S:=match x,h with
 | .int i,h => .inl ⟨i,rfl,h⟩
 | .bl b,h => .inr ⟨b,rfl,h⟩
noncomputable def V4:S2:=fun x y S Q=>match y with
 | .ty t=>∃ a,t ≠ .none/\tyS x S=some a/\Q (.bl (IC a t)) S
 | .tup ts=>∃ a bs,TyN.none∉bs/\tyS x S=some a/\Kk ts=some bs/\Q (.bl (bs.any (IC a))) S
 | _=>False
theorem RL{x y:SV}{S:Sto}{Q:QE}(h:V4 x y S Q):(∃ t a,y = .ty t/\t ≠ .none/\tyS x S=some a/\Q (.bl (IC a t)) S)\/∃ ts a bs,y = .tup ts/\TyN.none∉bs/\tyS x S=some a/\Kk ts=some bs/\Q (.bl (bs.any (IC a))) S:=match y,h with
 | .ty t,⟨a,h⟩ => .inl ⟨t,a,rfl,h⟩
 | .tup ts,⟨a,bs,h⟩ => .inr ⟨ts,a,bs,rfl,h⟩
noncomputable def Vq:S1:=fun x S Q=>∃ xs,Aa x S=some xs/\Q (.int xs.length) S
noncomputable def Vr:S1:=oI fun i S Q=>Q (.int (if i<0 then -i else i)) S
noncomputable def Vs:S2:=fun x y S Q=>oI (fun i S Q=>oI (fun j S Q=>Q (.int (if j<i then j else i)) S) y S Q) x S Q
noncomputable def Vt:S2:=fun x y S Q=>oI (fun i S Q=>oI (fun j S Q=>Q (.int (if j>i then j else i)) S) y S Q) x S Q
noncomputable def V5:S1:=fun x S Q=>∃ xs,Aa x S=some xs/\Q (.loc S.length) (S++[.lst xs])
noncomputable def TJ:S1:=fun x S Q=>∃ xs,Aa x S=some xs/\Q (.tup xs) S
noncomputable def Vu:S1:=fun x S Q=>∃ xs bs,x ≠ .tup xs/\Aa x S=some xs/\blS xs=some bs/\Q (.bl (bs.all id)) S
noncomputable def Pq:S1:=fun x S Q=>∃ xs ns,x ≠ .tup xs/\Aa x S=some xs/\E6 xs=some ns/\ns.length<128/\Q (.loc S.length) (S++[.lst ((srt ns).map SV.int)])
noncomputable def sBi:BI->Sn
 | .len=>a1 Vq
 | .abs=>a1 Vr
 | .min=>a2 Vs
 | .max=>a2 Vt
 | .int=>a1 V3
 | .list=>a1 V5
 | .tuple=>a1 TJ
 | .all=>a1 Vu
 | .any=>fun _ _ _=>False
 | .sorted=>a1 Pq
 | .isi=>a2 V4
 | .str=>fun _ _ _=>False
theorem MonoN.bi:∀{b:BI},MonoN (sBi b)
 | .len=>AJ fun _ _ _ _ i ⟨a,c,d⟩=>⟨a,c,i _ _ d⟩
 | .abs=>AJ (Pp fun _ _ _ _ i h=>i _ _ h)
 | .min=>D9 fun x y S P P' i h=>by
   replace h:=Co h;obtain⟨k,rfl,h1⟩:=h;obtain⟨l,rfl,h2⟩:=Co h1;exact i _ _ h2
 | .max=>D9 fun x y S P P' i h=>by
   replace h:=Co h;obtain⟨k,rfl,h1⟩:=h;obtain⟨l,rfl,h2⟩:=Co h1;exact i _ _ h2
 | .int=>AJ fun x S P P' i h=>by
   replace h:=RK h;rcases h with⟨k,rfl,h⟩ | ⟨b,rfl,h⟩
   ·exact i _ _ h
   ·exact i _ _ h
 | .list=>AJ fun _ _ _ _ i ⟨a,c,d⟩=>⟨a,c,i _ _ d⟩
 | .tuple=>AJ fun _ _ _ _ i ⟨a,c,d⟩=>⟨a,c,i _ _ d⟩
 | .all=>AJ fun _ _ _ _ i ⟨a,b,c,d,e,f⟩=>⟨a,b,c,d,e,i _ _ f⟩
 | .any=>fun _ _ _ _ _ h=>h
 | .sorted=>AJ fun _ _ _ _ i ⟨a,b,c,d,e,f,g⟩=>⟨a,b,c,d,e,f,i _ _ g⟩
 | .isi=>D9 fun x y S P P' i h=>by
   replace h:=RL h;rcases h with⟨t,a,rfl,h1,h2,h⟩ | ⟨ts,a,bs,rfl,h1,h2,h3,h⟩
   ·exact⟨a,h1,h2,i _ _ h⟩
   ·exact⟨a,bs,h1,h2,h3,i _ _ h⟩
 | .str=>fun _ _ _ _ _ h=>h
section
variable{K:Vy}{as:List Addr}{H:Hp}{S:Sto}
theorem N5:∀{xs:List SV} {bs:List Bool} {vs:List V},blS xs=some bs->RlAll K as H vs xs->vs=bs.map V.bl
 | [],_,_,e,r=>by cases e;exact rla_nil.mp r
 | .bl b::xs,_,_,e,r=>by
   obtain⟨v,vs,rfl,r1,r2⟩:=rla_cons.mp r;unfold blS at e;cases h:blS xs with
   | none=>rw[h]at e;cases e
   | some cs=>
     rw[h]at e;cases e;rw[rl_bl.mp r1,N5 h r2];rfl
 | .non::_,_,_,e,_=>by cases e
 | .int _::_,_,_,e,_=>by cases e
 | .str _::_,_,_,e,_=>by cases e
 | .tup _::_,_,_,e,_=>by cases e
 | .loc _::_,_,_,e,_=>by cases e
 | .ro _::_,_,_,e,_=>by cases e
 | .ty _::_,_,_,e,_=>by cases e
theorem DA:∀{xs:List SV} {bs:List Int} {vs:List V},E6 xs=some bs->RlAll K as H vs xs->vs=bs.map V.int
 | [],_,_,e,r=>by cases e;exact rla_nil.mp r
 | .int b::xs,_,_,e,r=>by
   obtain⟨v,vs,rfl,r1,r2⟩:=rla_cons.mp r;unfold E6 at e;cases h:E6 xs with
   | none=>rw[h]at e;cases e
   | some cs=>
     rw[h]at e;cases e;rw[rl_int.mp r1,DA h r2];rfl
 | .non::_,_,_,e,_=>by cases e
 | .bl _::_,_,_,e,_=>by cases e
 | .str _::_,_,_,e,_=>by cases e
 | .tup _::_,_,_,e,_=>by cases e
 | .loc _::_,_,_,e,_=>by cases e
 | .ro _::_,_,_,e,_=>by cases e
 | .ty _::_,_,_,e,_=>by cases e
theorem AK{x:SV}{v:V}{xs:List SV}(ok:Ok K as H S)(r:Rl K as H v x)(n:x ≠ .tup xs)(h:Aa x S=some xs):∃ a vs,v = .ref a/\SqL K H a vs/\RlAll K as H vs xs:=by
 cases x with
 | tup ys=>cases h;exact absurd rfl n
 | ro ys=>
   cases h;obtain⟨p,vs,rfl,hp,rr⟩:=rl_ro.mp r;exact⟨p,vs,rfl,hp.sq,rr⟩
 | loc k=>
   obtain⟨a,ea,rfl⟩:=rl_loc.mp r;unfold Aa at h;cases hs:S[k]? with
   | none=>simp only[hs]at h;cases h
   | some o=>
     cases o with
     | lst ys=>
       simp only[hs]at h;cases h;obtain⟨vs,h1,rr⟩:=ok.obj k _ a hs ea;exact⟨a,vs,rfl,SqL.of h1,rr⟩
     | iset _=>simp only[hs]at h;cases h
     | dct _=>simp only[hs]at h;cases h
     | dcf _ _ _=>simp only[hs]at h;cases h
 | _=>cases h
theorem D5{vs:List V}{x:SV}(r:RlAll K as H vs [x]):∃ v,vs=[v]/\Rl K as H v x:=by
 obtain⟨v,t,rfl,r1,r2⟩:=rla_cons.mp r;rw[rla_nil.mp r2];exact⟨v,rfl,r1⟩
theorem Pr{vs:List V}{x y:SV}(r:RlAll K as H vs [x,y]):∃ v u,vs=[v,u]/\Rl K as H v x/\Rl K as H u y:=by
 obtain⟨v,t,rfl,r1,r2⟩:=rla_cons.mp r;obtain⟨u,rfl,r3⟩:=D5 r2;exact⟨v,u,rfl,r1,r3⟩
end
theorem N6{K:Vy}{as:List Addr}{H:Hp}{S:Sto}{Q:VK}{x:SV}{v:V}{ys:List SV}(ok:Ok K as H S)(r1:Rl K as H v x)(h1:Aa x S=some ys)(h2:Post K as H Q (.tup ys) S):∃ p us,v = .ref p/\((SqL K H p us/\∀ l,H l=none->Q (.ref l) (upd H l (.tup us)))\/(SqT K H p us/\Q (.ref p) H)):=by
 cases x with
 | tup zs=>
   cases h1;obtain⟨p,us,rfl,hp,rr⟩:=rl_tup.mp r1;exact⟨p,us,rfl,.inr ⟨SqT.of hp,h2.here ok r1⟩⟩
 | loc k=>
   obtain⟨a,us,rfl,hq,rr⟩:=AK ok r1 (by intro z;cases z) h1;exact⟨a,us,rfl,.inl ⟨hq,CM ok rr h2⟩⟩
 | ro k=>
   obtain⟨a,us,rfl,hq,rr⟩:=AK ok r1 (by intro z;cases z) h1;exact⟨a,us,rfl,.inl ⟨hq,CM ok rr h2⟩⟩
 | _=>cases h1
section
variable{K:Vy}{as:List Addr}{H:Hp}{S:Sto}
theorem RM{x:SV}{v:V}{a:TyN}(ok:Ok K as H S)(r:Rl K as H v x)(h:tyS x S=some a):TyOf K H v (.type a.nm):=by
 cases x with
 | non=>cases h;rw[rl_non.mp r];exact .non
 | bl b=>cases h;rw[rl_bl.mp r];exact .bl b
 | int b=>cases h;rw[rl_int.mp r];exact .int b
 | str b=>cases h;rw[rl_str.mp r];exact .str b
 | tup xs=>cases h;obtain⟨p,vs,rfl,hp,_⟩:=rl_tup.mp r;exact .tup hp
 | loc k=>
   obtain⟨b,eb,rfl⟩:=rl_loc.mp r;unfold tyS at h;cases hs:S[k]? with
   | none=>simp only[hs]at h;cases h
   | some o=>
     cases o with
     | lst ys=>
       simp only[hs]at h;cases h;obtain⟨vs,h1,_⟩:=ok.obj k _ b hs eb;exact .lst h1
     | iset _=>simp only[hs]at h;cases h
     | dct _=>simp only[hs]at h;cases h
     | dcf _ _ _=>simp only[hs]at h;cases h
 | _=>cases h
noncomputable def ktn(t c:String):Option Bool:=if (Value.type t == Value.type c)=true then some true else if PySem.W.kitMeta c=true then (fastBuiltinMro t).map (·.contains (.type c)) else none
theorem JQ{K:Vy}(a:TyN)(t:TyN)(ht:t ≠ .none):PySem.W.kitOne K (.type a.nm) (.type t.nm)=some (IC a t):=by
 have e:PySem.W.kitOne K (.type a.nm) (.type t.nm)=ktn a.nm t.nm:=rfl;rw[e];cases a<;>cases t<;>first | exact absurd rfl ht | decide +kernel
theorem JR{K:Vy}(a:TyN):∀(bs:List TyN),TyN.none∉bs->PySem.W.kitAny K (.type a.nm) ((bs.map TyN.nm).map Value.type)=some (bs.any (IC a))
 | [],_=>rfl
 | b::bs,h=>by
   rw[Wl,Wl,PySem.W.kitAny,JQ a b (fun z=>h (by rw[z];simp)),Xp];cases IC a b with
   | true=>rfl
   | false=>exact JR a bs (fun z=>h (W9 _ z))
theorem N7:∀{xs:List SV} {bs:List TyN} {vs:List V},Kk xs=some bs->RlAll K as H vs xs->vs=(bs.map TyN.nm).map V.ty
 | [],_,_,e,r=>by cases e;exact rla_nil.mp r
 | .ty b::xs,_,_,e,r=>by
   obtain⟨v,vs,rfl,r1,r2⟩:=rla_cons.mp r;unfold Kk at e;cases h:Kk xs with
   | none=>rw[h]at e;cases e
   | some cs=>
     rw[h]at e;cases e;rw[rl_ty.mp r1,N7 h r2];rfl
 | .non::_,_,_,e,_=>by cases e
 | .bl _::_,_,_,e,_=>by cases e
 | .str _::_,_,_,e,_=>by cases e
 | .tup _::_,_,_,e,_=>by cases e
 | .loc _::_,_,_,e,_=>by cases e
 | .ro _::_,_,_,e,_=>by cases e
 | .int _::_,_,_,e,_=>by cases e
end
noncomputable def rBi(K:Vy):BI->List V->Hp->VK->Prop
 | .len=>fun xs H Q=>∃ p ys,xs=[.ref p]/\(SqL K H p ys\/SqT K H p ys)/\Q (.int ys.length) H
 | .abs=>fun xs H Q=>∃ i,xs=[.int i]/\Q (.int (if i<0 then -i else i)) H
 | .min=>fun xs H Q=>∃ i j,xs=[.int i,.int j]/\Q (.int (if j<i then j else i)) H
 | .max=>fun xs H Q=>∃ i j,xs=[.int i,.int j]/\Q (.int (if j>i then j else i)) H
 | .int=>fun xs H Q=>(∃ i,xs=[.int i]/\Q (.int i) H)\/∃ k,xs=[.bl k]/\Q (.int (if k then 1 else 0)) H
 | .list=>fun xs H Q=>∃ p ys,xs=[.ref p]/\(SqL K H p ys\/SqT K H p ys)/\∀ l,H l=none->Q (.ref l) (upd H l (.lst ys))
 | .tuple=>fun xs H Q=>∃ p ys,xs=[.ref p]/\((SqL K H p ys/\∀ l,H l=none->Q (.ref l) (upd H l (.tup ys)))\/(SqT K H p ys/\Q (.ref p) H))
 | .all=>fun xs H Q=>∃(a:Addr) (bs:List Bool),xs=[.ref a]/\SqL K H a (bs.map V.bl)/\Q (.bl (bs.all id)) H
 | .any=>fun _ _ _=>False
 | .sorted=>fun xs H Q=>∃ p ns,xs=[.ref p]/\SqL K H p (ns.map V.int)/\ns.length<128/\∀ l,H l=none->Q (.ref l) (upd H l (.lst ((srt ns).map V.int)))
 | .isi=>fun xs H Q=>(∃ x T t b,xs=[x,.ty T]/\TyOf K H x t/\PySem.W.kitOne K t (.type T)=some b/\Q (.bl b) H)\/(∃(x:V) (p:Addr) (Ts:List String) (t:Value) (b:Bool),xs=[x,.ref p]/\H p=some (.tup (Ts.map V.ty))/\TyOf K H x t/\PySem.W.kitAny K t (Ts.map Value.type)=some b/\Q (.bl b) H)
 | .str=>fun _ _ _=>False
theorem TK{K:Vy}:∀{b:BI},Uz K (sBi b) (rBi K b)
 | .len=>fun as H S xs vs Q ok r h=>by
   replace h:=DZ h;obtain⟨x,rfl,ys,h1,h2⟩:=h;obtain⟨v,rfl,r1⟩:=D5 r;obtain⟨a,us,rfl,hq,rr⟩:=FD ok r1 h1;exact⟨a,us,rfl,hq,by rw[rr.length];exact h2.here ok (rl_int.mpr rfl)⟩
 | .abs=>fun as H S xs vs Q ok r h=>by
   replace h:=DZ h;obtain⟨x,rfl,h⟩:=h;replace h:=Co h;obtain⟨i,rfl,h⟩:=h;obtain⟨v,rfl,r1⟩:=D5 r;exact⟨_,by rw[rl_int.mp r1],Post.here h ok (rl_int.mpr rfl)⟩
 | .min=>fun as H S xs vs Q ok r h=>by
   replace h:=N4 h;obtain⟨x,y,rfl,h⟩:=h;replace h:=Co h;obtain⟨i,rfl,h⟩:=h;replace h:=Co h;obtain⟨j,rfl,h⟩:=h;obtain⟨v,u,rfl,r1,r2⟩:=Pr r;exact⟨_,_,by rw[rl_int.mp r1,rl_int.mp r2],Post.here h ok (rl_int.mpr rfl)⟩
 | .max=>fun as H S xs vs Q ok r h=>by
   replace h:=N4 h;obtain⟨x,y,rfl,h⟩:=h;replace h:=Co h;obtain⟨i,rfl,h⟩:=h;replace h:=Co h;obtain⟨j,rfl,h⟩:=h;obtain⟨v,u,rfl,r1,r2⟩:=Pr r;exact⟨_,_,by rw[rl_int.mp r1,rl_int.mp r2],Post.here h ok (rl_int.mpr rfl)⟩
 | .int=>fun as H S xs vs Q ok r h=>by
   replace h:=DZ h;obtain⟨x,rfl,h⟩:=h;obtain⟨v,rfl,r1⟩:=D5 r;replace h:=RK h;rcases h with⟨k,rfl,h⟩ | ⟨b,rfl,h⟩
   ·exact .inl ⟨_,by rw[rl_int.mp r1],Post.here h ok (rl_int.mpr rfl)⟩
   ·exact .inr ⟨_,by rw[rl_bl.mp r1],Post.here h ok (rl_int.mpr rfl)⟩
 | .list=>fun as H S xs vs Q ok r h=>by
   replace h:=DZ h;obtain⟨x,rfl,ys,h1,h2⟩:=h;obtain⟨v,rfl,r1⟩:=D5 r;obtain⟨a,us,rfl,hq,rr⟩:=FD ok r1 h1;exact⟨a,us,rfl,hq,y8 ok rr h2⟩
 | .tuple=>fun as H S xs vs Q ok r h=>by
   replace h:=DZ h;obtain⟨x,rfl,ys,h1,h2⟩:=h;obtain⟨v,rfl,r1⟩:=D5 r;obtain⟨p,us,rfl,z⟩:=N6 ok r1 h1 h2;exact⟨p,us,rfl,z⟩
 | .all=>fun as H S xs vs Q ok r h=>by
   replace h:=DZ h;obtain⟨x,rfl,ys,bs,h0,h1,h2,h3⟩:=h;obtain⟨v,rfl,r1⟩:=D5 r;obtain⟨a,us,rfl,hq,rr⟩:=AK ok r1 h0 h1;rw[N5 h2 rr]at hq;exact⟨a,bs,rfl,hq,h3.here ok (rl_bl.mpr rfl)⟩
 | .any=>fun _ _ _ _ _ _ _ _ h=>False.elim h
 | .sorted=>fun as H S xs vs Q ok r h=>by
   replace h:=DZ h;obtain⟨x,rfl,ys,ns,h0,h1,h2,h3,h4⟩:=h;obtain⟨v,rfl,r1⟩:=D5 r;obtain⟨a,us,rfl,hq,rr⟩:=AK ok r1 h0 h1;rw[DA h2 rr]at hq;exact⟨a,ns,rfl,hq,h3,y8 ok RlAll.ints h4⟩
 | .isi=>fun as H S xs vs Q ok r h=>by
   replace h:=N4 h;obtain⟨x,y,rfl,h⟩:=h;obtain⟨v,u,rfl,r1,r2⟩:=Pr r;replace h:=RL h;rcases h with⟨t,a,rfl,h0,h1,h2⟩ | ⟨ts,a,bs,rfl,h0,h1,h2,h3⟩
   ·rw[rl_ty.mp r2];exact .inl ⟨v,_,_,_,rfl,RM ok r1 h1,JQ _ _ h0,h2.here ok (rl_bl.mpr rfl)⟩
   ·obtain⟨p,vs,rfl,hp,rr⟩:=rl_tup.mp r2;rw[N7 h2 rr]at hp;exact .inr ⟨v,p,_,_,_,rfl,hp,RM ok r1 h1,JR _ _ h0,h3.here ok (rl_bl.mpr rfl)⟩
 | .str=>fun _ _ _ _ _ _ _ _ h=>False.elim h
inductive MT where
 | append | extend | extT | pop | insert | reverse
 deriving DecidableEq
noncomputable def MT.name:MT->Str
 | .append=>"append" | .extend=>"extend" | .extT=>"extend" | .pop=>"pop" | .insert=>"insert" | .reverse=>"reverse"
noncomputable def oL(f:Nat->Sto->QE->Prop):S1:=fun x S Q=>match x with | .loc k=>f k S Q | _=>False
theorem CO{f:Nat->Sto->QE->Prop}{x:SV}{S:Sto}{Q:QE}(h:oL f x S Q):∃ k,x = .loc k/\f k S Q:=match x,h with | .loc k,h=>⟨k,rfl,h⟩
noncomputable def RN:Nat->Sto->QE->Prop:=fun k S Q=>∃ xs y,S[k]?=some (.lst xs)/\xs[xs.length - 1]?=some y/\Q y (S.set k (.lst xs.dropLast))
noncomputable def RO(k:Nat):Int->Sto->QE->Prop:=fun i S Q=>∃ xs y,S[k]?=some (.lst xs)/\(0<=i/\i<xs.length)/\xs.length<=big/\xs[i.toNat]?=some y/\Q y (S.set k (.lst (xs.eraseIdx i.toNat)))
noncomputable def RQ(y:SV):Nat->Sto->QE->Prop:=fun k S Q=>oI (RO k) y S Q
noncomputable def V6(x:SV):Sn:=fun xs S Q=>match xs with
 | []=>oL RN x S Q
 | [y]=>oL (RQ y) x S Q
 | _=>False
noncomputable def Ps(x:SV):S1:=fun y S Q=>oL (fun k S Q=>∃ xs,S[k]?=some (.lst xs)/\xs.length<big/\Q .non (S.set k (.lst (xs++[y])))) x S Q
noncomputable def Pt(x:SV):S1:=fun y S Q=>oL (fun k S Q=>oL (fun l S Q=>∃ xs ys,S[k]?=some (.lst xs)/\S[l]?=some (.lst ys)/\xs.length+ys.length<=big/\Q .non (S.set k (.lst (xs++ys)))) y S Q) x S Q
noncomputable def V7(x:SV):S1:=fun y S Q=>oL (fun k S Q=>∃ xs ys,y = .tup ys/\S[k]?=some (.lst xs)/\xs.length+ys.length<=big/\Q .non (S.set k (.lst (xs++ys)))) x S Q
noncomputable def Pu(x:SV):S2:=fun z y S Q=>oL (fun k S Q=>oI (fun i S Q=>∃ xs,S[k]?=some (.lst xs)/\(0<=i/\i<=xs.length)/\xs.length<big/\Q .non (S.set k (.lst (xs.take i.toNat++y::xs.drop i.toNat)))) z S Q) x S Q
noncomputable def N8(x:SV):Sto->QE->Prop:=fun S Q=>oL (fun k S Q=>∃ xs,S[k]?=some (.lst xs)/\Q .non (S.set k (.lst xs.reverse))) x S Q
noncomputable def sMt:MT->SV->Sn
 | .append,x=>a1 (Ps x)
 | .extend,x=>a1 (Pt x)
 | .extT,x=>a1 (V7 x)
 | .pop,x=>V6 x
 | .insert,x=>a2 (Pu x)
 | .reverse,x=>a0 (N8 x)
theorem RS{x:SV}{xs:List SV}{S:Sto}{Q:QE}(h:V6 x xs S Q):∃ k,x = .loc k/\((xs=[]/\∃ xs y,S[k]?=some (.lst xs)/\xs[xs.length - 1]?=some y/\Q y (S.set k (.lst xs.dropLast)))\/
 ∃ i,xs=[.int i]/\∃ xs y,S[k]?=some (.lst xs)/\(0<=i/\i<xs.length)/\xs.length<=big/\xs[i.toNat]?=some y/\Q y (S.set k (.lst (xs.eraseIdx i.toNat)))):=match xs,h with
 | [],h=>by
   have h:oL RN x S Q:=h;obtain⟨k,e,h⟩:=CO h;exact⟨k,e,.inl ⟨rfl,h⟩⟩
 | [y],h=>by
   have h:oL (RQ y) x S Q:=h;obtain⟨k,e,h⟩:=CO h;have h:oI (RO k) y S Q:=h;obtain⟨i,e2,h⟩:=Co h;exact⟨k,e,.inr ⟨i,by rw[e2],h⟩⟩
theorem FF:∀{m:MT} {x:SV},MonoN (sMt m x)
 | .append,x=>AJ fun y S P P' i h=>by
   replace h:=CO h;obtain⟨k,rfl,a,c,d,e⟩:=h;exact⟨a,c,d,i _ _ e⟩
 | .extend,x=>AJ fun y S P P' i h=>by
   replace h:=CO h;obtain⟨k,rfl,h⟩:=h;replace h:=CO h;obtain⟨l,rfl,a,c,d,e,f,g⟩:=h;exact⟨a,c,d,e,f,i _ _ g⟩
 | .extT,x=>AJ fun y S P P' i h=>by
   replace h:=CO h;obtain⟨k,rfl,a,c,d,e,f,g⟩:=h;exact⟨a,c,d,e,f,i _ _ g⟩
 | .pop,x=>fun xs S P P' i h=>by
   replace h:=RS h;obtain⟨k,rfl,h⟩:=h;rcases h with⟨rfl,a,c,d,e,f⟩ | ⟨j,rfl,a,c,d,e,f,g,h⟩
   ·exact⟨a,c,d,e,i _ _ f⟩
   ·exact⟨a,c,d,e,f,g,i _ _ h⟩
 | .insert,x=>D9 fun z y S P P' i h=>by
   replace h:=CO h;obtain⟨k,rfl,h⟩:=h;replace h:=Co h;obtain⟨j,rfl,a,c,d,e,f⟩:=h;exact⟨a,c,d,e,i _ _ f⟩
 | .reverse,x=>fun xs S P P' i h=>by
   replace h:=V2 h;obtain⟨rfl,h⟩:=h;replace h:=CO h;obtain⟨k,rfl,a,c,d⟩:=h;exact⟨a,c,i _ _ d⟩
noncomputable def rMt:MT->V->List V->Hp->VK->Prop
 | .append=>JB
 | .extend=>JC
 | .extT=>RJ
 | .pop=>fun x vs H Q=>UZ x vs H Q\/MJ x vs H Q
 | .insert=>JD
 | .reverse=>G8
section
variable{K:Vy}{as:List Addr}{H:Hp}{S:Sto}
theorem RlAll.erase:∀{xs:List SV} {vs:List V} (n:Nat),RlAll K as H vs xs->RlAll K as H (vs.eraseIdx n) (xs.eraseIdx n)
 | [],_,n,h=>by rw[rla_nil.mp h];exact .nil
 | x::xs,_,0,h=>by
   obtain⟨v,r,rfl,a,t⟩:=rla_cons.mp h;exact t
 | x::xs,_,n+1,h=>by
   obtain⟨v,r,rfl,a,t⟩:=rla_cons.mp h;exact .cons a (t.erase n)
theorem RlAll.dropLast{xs:List SV}{vs:List V}(h:RlAll K as H vs xs):RlAll K as H vs.dropLast xs.dropLast:=by
 rw[Yv,Yv,h.length];exact h.take _
theorem A0{Q:VK}{k:Nat}{a:Addr}{xs ys:List SV}{us:List V}{x:SV}{v:V}(ok:Ok K as H S)(e:S[k]?=some (.lst xs))(ea:as[k]?=some a)(r:RlAll K as H us ys)(h:Post K as H Q x (S.set k (.lst ys)))(rx:Rl K as H v x):Q v (upd H a (.lst us)):=by
 obtain⟨ok',ku⟩:=ok.write e ea r;exact h as _ v (Go.write (W5 ea)) ok' (Rl.mono (Wq _) ku x v rx)
theorem N9:∀{m:MT} {Q:VK} {x:SV} {v:V} {xs:List SV} {vs:List V} (ok:Ok K as H S) (rx:Rl K as H v x) (r:RlAll K as H vs xs) (h:sMt m x xs S (Post K as H Q)),rMt m v vs H Q
 | .append,Q,x,v,xs,vs,ok,rx,r,h=>by
   replace h:=DZ h;obtain⟨y,rfl,h⟩:=h;replace h:=CO h;obtain⟨k,rfl,ys,h1,h2,h3⟩:=h;obtain⟨a,us,rfl,ea,ha,ra⟩:=m9 ok rx h1;obtain⟨u,rfl,ru⟩:=D5 r;exact⟨a,us,u,rfl,rfl,ha,by rw[ra.length];exact Cl h2,A0 ok h1 ea (ra.append (.cons ru .nil)) h3 (rl_non.mpr rfl)⟩
 | .extend,Q,x,v,xs,vs,ok,rx,r,h=>by
   replace h:=DZ h;obtain⟨y,rfl,h⟩:=h;replace h:=CO h;obtain⟨k,rfl,h⟩:=h;replace h:=CO h;obtain⟨l,rfl,ys,zs,h1,h2,h3,h4⟩:=h;obtain⟨a,us,rfl,ea,ha,ra⟩:=m9 ok rx h1;obtain⟨u,rfl,ru⟩:=D5 r;obtain⟨b,ws,rfl,eb,hb,rb⟩:=m9 ok ru h2;exact⟨a,b,us,ws,rfl,rfl,ha,hb,by rw[ra.length,rb.length];exact B0 h3,A0 ok h1 ea (ra.append rb) h4 (rl_non.mpr rfl)⟩
 | .extT,Q,x,v,xs,vs,ok,rx,r,h=>by
   replace h:=DZ h;obtain⟨y,rfl,h⟩:=h;replace h:=CO h;obtain⟨k,rfl,ys,zs,rfl,h1,h3,h4⟩:=h;obtain⟨a,us,rfl,ea,ha,ra⟩:=m9 ok rx h1;obtain⟨u,rfl,ru⟩:=D5 r;obtain⟨b,ws,rfl,hb,rb⟩:=rl_tup.mp ru;exact⟨a,b,us,ws,rfl,rfl,ha,hb,by rw[ra.length,rb.length];exact B0 h3,A0 ok h1 ea (ra.append rb) h4 (rl_non.mpr rfl)⟩
 | .pop,Q,x,v,xs,vs,ok,rx,r,h=>by
   replace h:=RS h;obtain⟨k,rfl,h⟩:=h;rcases h with⟨rfl,ys,y,h1,h2,h3⟩ | ⟨i,rfl,ys,y,h1,h2,h3,h4,h5⟩
   ·obtain⟨a,us,rfl,ea,ha,ra⟩:=m9 ok rx h1;obtain⟨z,hz,rz⟩:=ra.get h2;rw[rla_nil.mp r];exact .inl ⟨a,us,z,rfl,rfl,ha,by rw[ra.length];exact hz,A0 ok h1 ea ra.dropLast h3 rz⟩
   ·obtain⟨a,us,rfl,ea,ha,ra⟩:=m9 ok rx h1;obtain⟨u,rfl,ru⟩:=D5 r;obtain⟨z,hz,rz⟩:=ra.get h4;rw[rl_int.mp ru];have hb:big=100000:=rfl;refine .inr ⟨a,us,i,i.toNat,z,rfl,rfl,ha,by omega,by omega,?_,hz,A0 ok h1 ea (ra.erase _) h5 rz⟩;rw[ra.length];exact PySem.seqIndex_of h2.1 h2.2
 | .insert,Q,x,v,xs,vs,ok,rx,r,h=>by
   replace h:=N4 h;obtain⟨z,y,rfl,h⟩:=h;replace h:=CO h;obtain⟨k,rfl,h⟩:=h;replace h:=Co h;obtain⟨i,rfl,ys,h1,h2,h3,h4⟩:=h;obtain⟨a,us,rfl,ea,ha,ra⟩:=m9 ok rx h1;obtain⟨u,w,rfl,ru,rw'⟩:=Pr r;rw[rl_int.mp ru];exact⟨a,us,i,w,rfl,rfl,ha,h2.1,by rw[ra.length];exact h2.2,by rw[ra.length];exact Cl h3,A0 ok h1 ea (ra.ins rw' _) h4 (rl_non.mpr rfl)⟩
 | .reverse,Q,x,v,xs,vs,ok,rx,r,h=>by
   replace h:=V2 h;obtain⟨rfl,h⟩:=h;replace h:=CO h;obtain⟨k,rfl,ys,h1,h2⟩:=h;obtain⟨a,us,rfl,ea,ha,ra⟩:=m9 ok rx h1;rw[rla_nil.mp r];exact⟨a,us,rfl,rfl,ha,A0 ok h1 ea ra.rev h2 (rl_non.mpr rfl)⟩
end
end Rf
namespace L2
open PySem PySem.Spec PyProof.Rows
section
variable{X:Cx}{pins:List (Addr×Obj)}{σ:St}{H:Hp}{s:Shared}{a:Addr}{u u':HO}
theorem Inv.retag(I:Inv X pins σ H s)(hu:H a=some u)(h1:∀ xs,u ≠ .tup xs)(h2:∀ y,u ≠ .own y)(h3:∀ ps,u ≠ .tbl ps)(h4:∀ o xs,u ≠ .frz o (.lst xs))(new:ObjOk X.prog X.w (upd H a u') s.heap a u'):Inv X pins σ (upd H a u') s:=by
 have ne:∀ b,H b=none->b≠a:=fun b n z=>by rw[z,hu]at n;cases n
 refine⟨I.ok,I.os,I.bare,⟨I.base.keep,I.base.slot,fun b o e n hx=>?_,I.base.there,fun b xs e=>?_,fun b o w e=>?_,fun b ps e=>?_⟩,I.loc,I.cell,?_,fun x c e=>?_,fun p hp=>?_,fun b o e=>?_,I.len⟩
 ·have q:=I.base.free b o e n hx;rw[upd_ne (ne b q)];exact q
 ·have q:=I.base.tups b xs e;by_cases hb:b=a
  ·rw[hb,hu]at q;exact absurd (oj q) (h1 xs)
  ·rw[upd_ne hb];exact q
 ·have q:=I.base.frzs b o w e;by_cases hb:b=a
  ·rw[hb,hu]at q;exact absurd (oj q) (h4 o w)
  ·rw[upd_ne hb];exact q
 ·obtain⟨m,q⟩:=I.base.tbls b ps e;by_cases hb:b=a
  ·rw[hb,hu]at q;exact absurd (oj q) (h3 _)
  ·exact⟨m,by rw[upd_ne hb];exact q⟩
 ·rw[upd_ne (ne _ I.free)];exact I.free
 ·rw[upd_ne (ne _ (I.freeC x c e))];exact I.freeC x c e
 ·obtain⟨p1,p2,p3⟩:=I.pin p hp;exact⟨p1,by rw[upd_ne (ne _ p2)];exact p2,p3⟩
 ·by_cases hb:b=a
  ·subst hb;rw[f6]at e;cases e;exact new
  ·rw[upd_ne hb]at e;refine(I.hok b o e).stay (fun _ _ _ q=>q) (fun c q=>?_) (fun c xs q=>?_)
   ·by_cases hc:c=a
    ·rw[hc,hu]at q;exact absurd (oj q) (h2 _)
    ·rw[upd_ne hc];exact q
   ·by_cases hc:c=a
    ·rw[hc,hu]at q;exact absurd (oj q) (h1 _)
    ·rw[upd_ne hc];exact q
theorem Inv.freeze{ks:List (Key×V)}{o:Obj}(I:Inv X pins σ H s)(hu:H a=some (.dK ks))(ho:s.heap.get? a=some o):Inv X pins σ (upd H a (.frz o (.dK ks))) s:=
 I.retag hu nofun nofun nofun (fun _ _ z=>by cases z) ⟨ho,I.hok a _ hu⟩
theorem Inv.melt{ks:List (Key×V)}{o:Obj}(I:Inv X pins σ H s)(hu:H a=some (.frz o (.dK ks))):Inv X pins σ (upd H a (.dK ks)) s:=
 I.retag hu nofun nofun nofun (fun o' xs z=>by injection z with z1 z2;cases z2) (show ObjOk X.prog X.w H s.heap a (.frz o (.dK ks)) from I.hok a _ hu).2
end
theorem V8{P:Program}{w:World}{k:Key}{u:Value}(h:(j4 P w).is k u=true):RelV (kV k) u:=by
 rw[He]at h;cases k with
 | inl i=>cases u<;>first | (cases h;done) | (simp[CI,Value.isInt]at h;subst h;exact⟨_,rfl⟩)
 | inr x=>cases u<;>first | (cases h;done) | (simp[CI,Value.isStrOf]at h;subst h;exact⟨_,rfl⟩)
noncomputable def Itk(d:Addr)(o:Obj)(ks:List (Key×V)):It:=⟨fun i H=>i<ks.length/\H d=some (.frz o (.dK ks)),fun i H x H'=>H'=H/\∃ p,ks[i]?=some p/\x=kV p.1,fun i H=>ks.length<=i/\H d=some (.frz o (.dK ks))⟩
theorem NA{P:Program}{w:World}{H:Hp}{h:Heap}{d:Addr}{o:Obj}{ks:List (Key×V)}{es0:Array DictEntry}{ep:Nat}(hd:o.data = .dict es0 ep)(ok:HOk P w H h)(e:H d=some (.frz o (.dK ks))):∃ vs,KV ks vs/\h.DictAt (j4 P w) d vs ep:=by
 obtain⟨ho,_,_,vs,kv,o',es,ep',ho',ex,dat,keys,prs,nd⟩:=(show ObjOk P w H h d (.frz o (.dK ks)) from ok d _ e)
 rw[ho]at ho';cases ho';rw[hd]at dat;cases dat;exact⟨vs,kv,o,_,ho,ex,hd,keys,prs,nd⟩
theorem Pv{P:Program}{w:World}{K:Vy}{tg:Expr}(it d:Addr)(o:Obj)(ks:List (Key×V)){es0:Array DictEntry}{ep:Nat}(hd:o.data = .dict es0 ep):Turn P w K tg (Itk d o ks) [it] it (fun i h=>h.IsKeyIter it d i ks.length ep) where
 mem:=by simp
 obj:=fun i h st b hb=>by
  have e:b=it:=by simpa using hb
  subst e;obtain⟨o,ho,_,hd⟩:=st;exact⟨o,ho,fun v z=>by rw[hd]at z;cases z⟩
 keep:=fun i h h' st k=>st.at fun o e=>k it (by simp) o e
 item:=by
  intro X hP hw hK hc i pins s σ H E I hf st hg;subst hP hw hK;obtain⟨f0,f1,f2,f3,f4,f5⟩:=hf it (by simp);obtain⟨vs,kv,dm⟩:=NA hd I.hok hg.2;have hl:ks.length=vs.length:=kv.length;have hi:i<vs.length:=by rw[<-hl];exact hg.1
  have hkk:ks[i].1=vs[i].1:=by
   have:=KV.keys kv;have h2:=congrArg (fun l=>l[i]?) this;simp only[WG,W0 hg.1,W0 hi]at h2;exact oj h2
  refine wpAny_pyNext_dict_item (by rw[<-hl];exact st) dm (W0 hi) fun key h' hkey hit' hs'=>?_;have I1:Inv X pins σ H {s with heap:=h'}:=I.turned (t':=s.toks) (fun b o hb e=>hs'.extBut b o hb e) f0 f1 f3 f4 f5;obtain⟨oi,hoi,hci,hdi⟩:=id hit';refine⟨_,rfl,J0 (s:={s with heap:=h'}) (n:="dict_keyiterator") hoi hci hdi (by decide) ⟨kV ks[i].1,H,I1,?_,⟨rfl,ks[i],W0 hg.1,rfl⟩,by rw[<-hl]at hit';exact hit',fun b hb=>(hf b hb).1⟩⟩;rw[hkk];exact V8 hkey
 done:=by
   intro X hP hw hK hc i pins s σ H E I hf st hg;subst hP hw hK;obtain⟨f0,f1,f2,f3,f4,f5⟩:=hf it (by simp);obtain⟨vs,kv,dm⟩:=NA hd I.hok hg.2;have hl:ks.length=vs.length:=kv.length;exact wpAny_pyNext_dict_end (I.ok.hd hc) (by rw[<-hl];exact st) dm (by rw[XJ];rw[<-hl];exact hg.1) fun h' he'=>⟨rfl,I.turned (t':=s.toks) (fun b o hb e=>he' b o hb e) f0 f1 f3 f4 f5⟩
 self:=fun _ _ _ _ _ st h=>wpAny_pyIter_keyiter st h
section
variable{X:Cx}{tg:Expr}
noncomputable def iDk(td:TE):TI:=fun σ H R=>td σ H fun x H1=>∃ a ks,x = .ref a/\((H1 a=some (.dK ks)/\∀ o,R (Itk a o ks) (upd H1 a (.frz o (.dK ks))))\/∃ o,H1 a=some (.frz o (.dK ks))/\R (Itk a o ks) H1)
theorem V9{l:Expr}{td:TE}(hl:PE X l td):PI X tg l (iDk td):=by
 intro pins s σ H R I h;refine thn (hl pins s σ H _ I h) fun v s1 ⟨x,H1,I1,r1,q1⟩=>?_;obtain⟨a,ks,e,q⟩:=q1;subst e;cases r1
 have go:∀(H2:Hp) (o:Obj),Inv X pins σ H2 s1->H2 a=some (.frz o (.dK ks))->R (Itk a o ks) H2->wpAny (model X.prog X.w) X.A (pyIter (.ref a)) (PIE X pins σ tg R) X.xe s1:=fun H2 o I2 e2 q=>by
  obtain⟨ho,len,nsys,vs,kv,o',es,ep,ho',ex,dat,keys,prs,nd⟩:=(show ObjOk X.prog X.w H2 s1.heap a (.frz o (.dK ks)) from I2.hok a _ e2)
  rw[ho]at ho';cases ho';have hl:ks.length=vs.length:=kv.length;refine wpAny_pyIter_dict nsys (⟨o,es,ho,ex,dat,keys,prs,nd⟩:s1.heap.DictAt (j4 X.prog X.w) a vs ep) ?_;refine⟨s1.heap.objs.size,[s1.heap.objs.size],_,_,_,rfl,I2.kept (t':=s1.toks) fun b o e=>W8 _ e,Pv s1.heap.objs.size a o ks dat,⟨_,WL _ rfl,rfl,by rw[hl];rfl⟩,fun b hb=>?_,q⟩;have e:b=s1.heap.objs.size:=by simpa using hb
  subst e;exact I2.fpOk (WB _) (I2.hok.fresh (WB _))
 rcases q with⟨hq,q⟩ | ⟨o,hq,q⟩
 ·obtain⟨_,_,_,_,o,_,_,ho,_⟩:=(show ObjOk X.prog X.w H1 s1.heap a (.dK ks) from I1.hok a _ hq)
  exact go _ o (I1.freeze hq ho) f6 (q o)
 ·exact go _ o I1 hq q
noncomputable def Vv(H H':Hp):Prop:=∃ a o ks,H a=some (.frz o (.dK ks))/\H'=upd H a (.dK ks)
noncomputable def NB(td ty tv:TE):TS:=fun D σ H=>tv σ H fun v H1=>td σ H1 fun x H2=>ty σ H2 fun y H3=>∃ a H3' H4,x = .ref a/\(H3'=H3\/Vv H3 H3')/\Um H3' a y v H4/\D.nx σ H4
theorem NC{o i value:Expr}{pos pos':Pos}{td ty tv:TE}(hu:X.A.units+1<cLine)(ho:PE X o td)(hi:PE X i ty)(hv:PE X value tv)(hs:swapsWith value (some (.Subscript o i pos')) pos.line X.env=pure false):
 PS X (.Assign [.Subscript o i pos'] value pos) (NB td ty tv):=by
 intro pins s σ H D I h;refine wpAny_Assign_Subscript (thn (hv pins s σ H _ I h) fun r s1 ⟨v,H1,I1,rv,q1⟩=>thn (ho pins s1 σ H1 _ I1 q1) fun u s2 ⟨x,H2,I2,rx,q2⟩=>thn (hi pins s2 σ H2 _ I2 q2) fun iv s3 ⟨y,H3,I3,ry,a,H3',H4,ex,m,g,q3⟩=>?_) hs;subst ex;obtain rfl:u=Value.ref a:=rx
 have I3':Inv X pins σ H3' s3:=by
  rcases m with rfl | ⟨b,o',ks,e1,rfl⟩
  ·exact I3
  ·exact I3.melt e1
 exact Kc hu I3' g ry rv fun s4 I4=>⟨σ,H4,I4,q3⟩
end
open PySem PySem.Spec PyProof.Rows
section
variable{X:Cx}
noncomputable def ND(X:Cx)(f:Value)(ks:List Str)(r:List V->List V->Hp->VK->Prop):Prop:=
 ∀(pins:List (Addr×Obj)) (s:Shared) (σ:St) (H:Hp) (vs zs:List V) (us ws:List Value) (Q:VK),Inv X pins σ H s->Vals vs us->Vals zs ws->r vs zs H Q->wpAny (model X.prog X.w) X.A (call f us (ks.zip ws)) (EP X pins σ Q) X.xe s
noncomputable def Vw(r:List V->List V->Hp->VK->Prop)(t tk:TA):TE:=fun σ H Q=>t σ H fun vs H1=>tk σ H1 fun zs H2=>r vs zs H2 Q
theorem Kl{id:String}{ks:List Str}{r:List V->List V->Hp->VK->Prop}{x:Str}{p pos:Pos}{e:Expr}{es:List Expr}{kws:List Keyword}{t tk:TA}(hc:ND X (.builtin id) ks r)(hg:Gl X x)(hm:X.mg x=none)(hv:bootBuiltins x=some (.builtin id))(ha:PA X (e::es) t)(hkw:PK X kws tk)
 (hks:(backToKw pos (keywordEach kws X.env)).filterMap (·.1)=ks:=by rfl) (hn:x≠"__name__":=by decide) (hdb:(x == ("__debug__":Str))=false:=by decide)
 (he:backTo pos (starEach (e::es) X.env)=(false,eval e X.env)::backTo pos (starEach es X.env):=by rfl) (hpl:(backTo pos (starEach (e::es) X.env)).any (·.1)=false:=by rfl)
 (hall:(backToKw pos (keywordEach kws X.env)).all (·.1.isSome)=true:=by rfl) (hno:(backToKw pos (keywordEach kws X.env)).any (·.1.isNone)=false:=by rfl):PE X (.Call (.Name x p) (e::es) kws pos) (Vw r t tk):=by
 intro pins s σ H Q I h;refine wpAny_Call_Name_kw (AY I hg hm hv ?_ hn hdb);refine callWith_kw (thn (ha pos pins s σ H _ I h) fun us s1 ⟨vs,H1,I1,r1,q1⟩=>thn (hkw pos pins s1 σ H1 _ I1 q1) fun ws s2 ⟨zs,H2,I2,r2,q2⟩=>?_) he hpl hall hno;rw[hks];exact hc pins s2 σ H2 vs zs us ws Q I2 r1 r2 q2
end
open PySem PySem.Spec PyProof.Rows
section
variable{prog:Program}{w:World}{A:Around}{R:Result->Shared->Prop}{I:Addr}{fp wr:List Addr}{n:Nat}{P:Nat->Value->Prop}{St:Nat->Heap->Prop}
structure CmpMx(prog:Program)(w:World)(A:Around)(wr:List Addr)(S:Addr)(P:Nat->Value->Prop)(bt:Nat->Nat->Bool)(G:Heap->Prop):Prop where
 keep:∀ h h',G h->(∀ b o,b∉wr->b≠S->h.get? b=some o->h'.get? b=some o)->G h'
 cmp:∀(s:Shared),G s.heap->∀(i j:Nat) (vi vj:Value) (Q:Value->Shared->Prop) (E:Value->Shared->Prop),P i vi->P j vj->Q (.bool (bt i j)) s->wpAny (model prog w) A (richCompare .Gt vi vj) Q E s
theorem FG{kw:List (Str×Value)}(W:Walks prog w A.in1 I fp wr n P St){bt:Nat->Nat->Bool}{S:Addr}{G:Heap->Prop}(C:CmpMx prog w A.in1 wr S P bt G)(hSf:S∉fp)(k:Nat):
 ∀(j:Nat) (s:Shared) (vb:Value) (c:Nat),n=j+1+k->St (j+1) s.heap->G s.heap->P (argBest bt j) vb->
 s.heap.get? S=some {cls := .type "list",dict:=none,data := .seq #[vb,vb] c,slots:=#[]}->
 (∀ v h' tk,P (argBest bt (n - 1)) v->(∀ b o,b∉wr->b≠S->s.heap.get? b=some o->h'.get? b=some o)->R (.ok (.ret v)) {s with heap:=h',toks:=tk})->
 codeAny (model prog w) A (.builtin "max.loop" ⟨[.ref I,.none,.ref S],kw⟩) R s:=by
 have hSw:S∉wr:=fun z=>hSf (W.sub _ z);have nm:(toString "max"++toString ".loop":String)="max.loop":=by decide
 induction k with
 | zero=>
   intro j s vb c hk hst hG hPb hS hR;refine codeAny_builtin F.entry_max_loop ?_;rw[Around.under_plainId F.plain_max_loop _];refine wpAny_bind (m:=seqItems? (.ref S)) (wpAny_seqItems hS rfl ?_);have hst':St n s.heap:=by rw[hk];exact hst
   refine wpAny_bind (m:=tryCatch (pyNext (.ref I)) _) (wpAny_tryCatch (W.done s _ _ hst' fun h1 tk k1=>?_));have hS1:=k1 S _ hSw hS;refine wpAny_bind (m:=updateSeq S (fun _=>#[])) (wpAny_updateSeq hS1 rfl (wpAny_bind (wpAny_letGo (wpAny_pure ?_))));exact hR vb _ tk (by rw[hk];exact hPb) fun b o hb hn e=>(Wx _ _ (Ne.symm hn)).trans (k1 b o hb e)
 | succ k ih=>
   intro j s vb c hk hst hG hPb hS hR;refine codeAny_builtin F.entry_max_loop ?_;rw[Around.under_plainId F.plain_max_loop _];refine wpAny_bind (m:=seqItems? (.ref S)) (wpAny_seqItems hS rfl ?_);refine wpAny_bind (m:=tryCatch (pyNext (.ref I)) _) (wpAny_tryCatch (W.item (j+1) s _ _ (by omega) hst fun v h1 tk hP st1 k1=>?_));have hS1:=k1 S _ hSw hS;have hG1:=C.keep _ _ hG fun b o hb _ e=>k1 b o hb e;refine wpAny_bind (m:=tryCatch (holding [v,v] (richCompare .Gt v vb >>= _)) _) (wpAny_tryCatch (wpAny_holding (wpAny_bind (C.cmp _ hG1 (j+1) (argBest bt j) v vb _ _ hP hPb ?_))));refine wpAny_bind (wpAny_holding (wpAny_truthy_bool (wpAny_bind (wpAny_letGo (wpAny_pure ?_)))));cases hb:bt (j+1) (argBest bt j) with
   | true=>
     simp only[if_true];refine wpAny_bind (wpAny_updateSeq hS1 rfl (wpAny_bind (wpAny_letGo ?_)));rw[nm];have up:∀ b o,b≠S->h1.get? b=some o->(Zg h1 S (Obj.mapSeq fun _=>#[v,v])).get? b=some o:=fun b o hn e=>(Wx _ _ (Ne.symm hn)).trans e;refine wpAny_pure ⟨plainId_quiet F.plain_max_loop _,ih (j+1) _ v _ (by omega) (W.frame _ _ _ st1 fun b hbf o e=>up b o (fun z=>hSf (z▸hbf)) e) (C.keep _ _ hG1 fun b o _ hn e=>up b o hn e) ?_ (Ww _ hS1 rfl) fun v' h2 tk2 hP' k2=>?_⟩
     ·simp only[argBest,hb,if_true];exact hP
     ·exact hR v' h2 tk2 hP' fun b o hbw hn e=>k2 b o hbw hn (up b o hn (k1 b o hbw e))
   | false=>
     simp only[X6,if_false];refine wpAny_bind (wpAny_letGo ?_);rw[nm];refine wpAny_pure ⟨plainId_quiet F.plain_max_loop _,ih (j+1) _ vb c (by omega) st1 hG1 ?_ hS1 fun v' h2 tk2 hP' k2=>?_⟩
     ·simp only[argBest,hb,X6,if_false];exact hPb
     ·exact hR v' h2 tk2 hP' fun b o hbw hn e=>k2 b o hbw hn (k1 b o hbw e)
theorem E7{d:Value}(W:Walks prog w A.in1 I fp wr n P St){bt:Nat->Nat->Bool}{S:Addr}{G:Heap->Prop}(C:CmpMx prog w A.in1 wr S P bt G)(hSf:S∉fp){s:Shared}{c:Nat}(hst:St 0 s.heap)(hG:G s.heap)
 (hS:s.heap.get? S=some {cls := .type "list",dict:=none,data := .seq #[] c,slots:=#[]})
 (h0:n=0->∀ h' tk,(∀ b o,b∉wr->b≠S->s.heap.get? b=some o->h'.get? b=some o)->R (.ok (.ret d)) {s with heap:=h',toks:=tk})
 (hR:0<n->∀ v h' tk,P (argBest bt (n - 1)) v->(∀ b o,b∉wr->b≠S->s.heap.get? b=some o->h'.get? b=some o)->R (.ok (.ret v)) {s with heap:=h',toks:=tk}):
 codeAny (model prog w) A (.builtin "max.loop" ⟨[.ref I,.none,.ref S],[(Str.ofString "default",d)]⟩) R s:=by
 have hSw:S∉wr:=fun z=>hSf (W.sub _ z);have nm:(toString "max"++toString ".loop":String)="max.loop":=by decide
 refine codeAny_builtin F.entry_max_loop ?_;rw[Around.under_plainId F.plain_max_loop _];refine wpAny_bind (m:=seqItems? (.ref S)) (wpAny_seqItems hS rfl ?_);by_cases hn:n=0
 ·subst hn;refine wpAny_bind (m:=tryCatch (pyNext (.ref I)) _) (wpAny_tryCatch (W.done s _ _ hst fun h1 tk k1=>?_));exact wpAny_bind (wpAny_rule (wpAny_pure (h0 rfl h1 tk fun b o hb _ e=>k1 b o hb e)))
 ·refine wpAny_bind (m:=tryCatch (pyNext (.ref I)) _) (wpAny_tryCatch (W.item 0 s _ _ (by omega) hst fun v h1 tk hP st1 k1=>?_));have hS1:=k1 S _ hSw hS;have up:∀ b o,b≠S->h1.get? b=some o->(Zg h1 S (Obj.mapSeq fun _=>#[v,v])).get? b=some o:=fun b o hn e=>(Wx _ _ (Ne.symm hn)).trans e;refine wpAny_bind (m:=updateSeq S (fun _=>#[v,v])) (wpAny_updateSeq hS1 rfl ?_);rw[nm];refine wpAny_pure ⟨plainId_quiet F.plain_max_loop _,FG W C hSf (n - 1) 0 _ v _ (by omega) (W.frame _ _ _ st1 fun b hbf o e=>up b o (fun z=>hSf (z▸hbf)) e) (C.keep _ _ (C.keep _ _ hG fun b o hb _ e=>k1 b o hb e) fun b o _ hn e=>up b o hn e) hP (Ww _ hS1 rfl) fun v' h2 tk2 hP' k2=>?_⟩;exact hR (by omega) v' h2 tk2 hP' fun b o hbw hn e=>k2 b o hbw hn (up b o hn (k1 b o hbw e))
end
theorem FH(a v:Value):argsOk "max" ⟨[a],[(Str.ofString "default",v)]⟩:=by unfold argsOk;kernel_rfl
section
variable{prog:Program}{w:World}{A:Around}{E:Value->Shared->Prop}{s:Shared}
theorem FI{l:Addr}{items:Array Value}{d:Value}{Q:Value->Shared->Prop}(hh:A.handled=none)(hl:s.heap.IsList l items)(bt:Nat->Nat->Bool)(G:Heap->Prop)(hG:G s.heap)
 (hkeep:∀ h h',G h->(∀ b o,b<s.heap.objs.size->h.get? b=some o->h'.get? b=some o)->G h')
 (hcmp:∀(s':Shared),G s'.heap->∀(i j:Nat) (vi vj:Value) (Q:Value->Shared->Prop) (E:Value->Shared->Prop),items[i]?=some vi->items[j]?=some vj->Q (.bool (bt i j)) s'->wpAny (model prog w) A.in1 (richCompare .Gt vi vj) Q E s')
 (h0:items.size=0->∀ h' tk,(∀ b o,s.heap.get? b=some o->h'.get? b=some o)->Q d {s with heap:=h',toks:=tk})
 (hR:0<items.size->∀ v h' tk,items[argBest bt (items.size - 1)]?=some v->(∀ b o,s.heap.get? b=some o->h'.get? b=some o)->Q v {s with heap:=h',toks:=tk}):
 wpAny (model prog w) A (call (.builtin "max") [.ref l] [(Str.ofString "default",d)]) Q E s:=by
 have nm:(toString "max"++toString ".loop":String)="max.loop":=by decide
 have hlt:l<s.heap.objs.size:=by obtain⟨o,ho,_⟩:=hl;exact WH ho
 refine kmb_tree F.kind_max F.plain_max F.entry_max (FH _ _) ?_;refine wpAny_bind (m:=Builtin.Builtins.bindParams "max" ["key","default"] 0 ⟨[],[(Str.ofString "default",d)]⟩) (wpAny_of_eq (show Builtin.Builtins.bindParams "max" ["key","default"] 0 ⟨[],[(Str.ofString "default",d)]⟩=pure [none,some d] from rfl) ?_);refine wpAny_bind (wpAny_pure ?_);refine wpAny_bind (wpAny_pyIter_list hl ?_);refine wpAny_bind (wpAny_newObj_type ?_);rw[nm];have W:=Walks.list (prog:=prog) (w:=w) (A:=A.in1) hh s.heap.objs.size l (WR hlt) items;have k1:∀ b o,s.heap.get? b=some o->((s.heap.push {cls := .type "list_iterator",data := .fields #[.ref l,.int 0 0]}).push {cls := .type "list",data := .seq ([]:List Value).toArray}).get? b=some o:=fun b o e=>W8 _ (W8 _ e);have nS:(s.heap.push {cls := .type "list_iterator",data := .fields #[.ref l,.int 0 0]}).objs.size=s.heap.objs.size+1:=by simp[XD]
 have C:CmpMx prog w A.in1 [s.heap.objs.size] (s.heap.push {cls := .type "list_iterator",data := .fields #[.ref l,.int 0 0]}).objs.size (fun i v=>items[i]?=some v) bt G:=⟨fun h h' g k=>hkeep h h' g fun b o hb e=>k b o (by simp;exact WR hb) (by rw[nS];exact WR (Xk hb)) e,hcmp⟩
 have old:∀(h:Heap),(∀ b o,b∉[s.heap.objs.size]->b≠(s.heap.push {cls := .type "list_iterator",data := .fields #[.ref l,.int 0 0]}).objs.size->((s.heap.push {cls := .type "list_iterator",data := .fields #[.ref l,.int 0 0]}).push {cls := .type "list",data := .seq ([]:List Value).toArray}).get? b=some o->h.get? b=some o)->∀ b o,s.heap.get? b=some o->h.get? b=some o:=fun h k b o e=>k b o (by simp;exact WR (WH e)) (by rw[nS];have:=WH e;exact WR (Xk this)) (k1 b o e);refine wpAny_pure ⟨plainId_quiet F.plain_max_loop _,E7 (d:=d) W C ?_ ?_ (hkeep _ _ hG fun b o _ e=>k1 b o e) (WL _ rfl) (fun hz h' tk k=>h0 hz h' tk (old h' k)) (fun hz v h' tk hv k=>hR hz v h' tk hv (old h' k))⟩
 ·rw[nS];simp only[WN,ZN,or_false,not_or];exact⟨Nat.succ_ne_self _,fun z=>absurd hlt (by rw[<-z];exact Yl (YK _))⟩
 ·exact⟨⟨_,W8 _ (WL _ rfl),rfl,rfl⟩,hl.at fun o e=>k1 _ _ e⟩
end
section
variable{X:Cx}
noncomputable def gtB(ns:List Int)(a b:Nat):Bool:=decide (ns.getD a 0>ns.getD b 0)
theorem JS(ns:List Int):∀ k j,j<=k->ns.getD j 0<=ns.getD (argBest (gtB ns) k) 0
 | 0,j,hj=>by
   have:j=0:=by omega
   subst this;exact Xz _
 | k+1,j,hj=>by
   have ih:=JS ns k;simp only[argBest];split
   ·rename_i hb;have hb:=of_decide_eq_true hb;by_cases e:j=k+1
    ·subst e;exact Xz _
    ·have:=ih j (by omega);omega
   ·rename_i hb;have hb:¬ ns.getD (k+1) 0>ns.getD (argBest (gtB ns) k) 0:=fun z=>hb (decide_eq_true z);by_cases e:j=k+1
    ·subst e;omega
    ·exact ih j (by omega)
theorem GL(bt:Nat->Nat->Bool):∀ k,argBest bt k<=k
 | 0=>WB _
 | k+1=>by
   simp only[argBest];split
   ·exact WB _
   ·exact Nat.le_succ_of_le (GL bt k)
noncomputable def Grt(ns:List Int)(m:Int):Prop:=m∈ns/\∀ n∈ns,n<=m
theorem GM{ns:List Int}(h:0<ns.length):Grt ns (ns.getD (argBest (gtB ns) (ns.length - 1)) 0):=by
 have hb:=GL (gtB ns) (ns.length - 1);have hlt:argBest (gtB ns) (ns.length - 1)<ns.length:=by omega
 refine⟨by rw[show ns.getD (argBest (gtB ns) (ns.length - 1)) 0=ns[argBest (gtB ns) (ns.length - 1)] by simp[Xr,hlt]];exact X0 hlt,fun n hn=>?_⟩;obtain⟨j,hj⟩:=WW hn;have hjl:=(gM hj).1;have:=JS ns (ns.length - 1) j (by omega);rw[show ns.getD j 0=n by simp[Xr,hj]]at this;exact this
noncomputable def VA:List V->List V->Hp->VK->Prop:=fun xs zs H Q=>∃ l ns d,xs=[.ref l]/\zs=[.int d]/\H l=some (.lst (ns.map V.int))/\(ns=[]->Q (.int d) H)/\∀ m,Grt ns m->Q (.int m) H
theorem DB{ns:List Int}{its:List Value}(rv:Vals (ns.map V.int) its){i:Nat}{v:Value}(h:its[i]?=some v):∃ n t,ns[i]?=some n/\v = .int n t:=by
 have hl:=rv.length;rw[W2]at hl;have hi:i<ns.length:=by have:=(gM h).1;omega
 have e:(ns.map V.int)[i]?=some (.int ns[i]):=by simp[hi]
 obtain⟨u,eu,ru⟩:=rv.get e;rw[h]at eu;cases eu;obtain⟨t,rfl⟩:=ru;exact⟨_,t,by simp[hi],rfl⟩
theorem Km(hc:X.calm=true):ND X (.builtin "max") ["default"] VA:=by
 intro pins s σ H xs zs us ws Q I r rz h;obtain⟨l,ns,d,rfl,rfl,hl,q0,q1⟩:=h;obtain⟨u,rfl,ru⟩:=Ar r;cases ru;obtain⟨z,rfl,rz'⟩:=Ar rz;obtain⟨t,rfl⟩:=rz';obtain⟨its,rv,pl,hz⟩:=I.list (SqL.of hl);have hl2:ns.length=its.length:=by have:=rv.length;rwa [W2]at this
 refine FI (I.ok.hd hc) pl.isList (gtB ns) (fun _=>True) trivial (fun _ _ _ _=>trivial) ?_ ?_ ?_
 ·intro s' _ i j vi vj Q' E' hi hj q
  exact CmpOf.ints_gt (P:=fun i v=>its.toArray[i]?=some v) (fun i=>ns.getD i 0) (fun i v h=>by
   obtain⟨n,t1,e1,rfl⟩:=DB rv (show its[i]?=some v by simpa using h);exact⟨t1,by simp[Xr,e1]⟩) i j vi vj s' Q' E' hi hj q
 ·intro hz' h' tk k
  have:ns=[]:=by
   cases ns with
   | nil=>rfl
   | cons p r=>rw[W7]at hz';simp at hl2;omega
  exact⟨.int d,H,I.kept (t':=tk) k,⟨t,rfl⟩,q0 this⟩
 ·intro hp v h' tk hv k;obtain⟨n,t1,e1,rfl⟩:=DB rv (show its[argBest (gtB ns) (its.toArray.size - 1)]?=some v by simpa using hv);have hsz:its.toArray.size=ns.length:=by rw[W7];omega
  rw[hsz]at e1 hp;have g:=GM hp;rw[show ns.getD (argBest (gtB ns) (ns.length - 1)) 0=n by simp[Xr,e1]]at g;exact⟨.int n,H,I.kept (t':=tk) k,⟨t1,rfl⟩,q1 n g⟩
theorem Kn(hc:X.calm=true):CallR X (.builtin "max") (fun xs H Q=>∃ l ns,xs=[.ref l]/\H l=some (.lst (ns.map V.int))/\0<ns.length/\∀ m,Grt ns m->Q (.int m) H):=by
 intro pins s σ H xs us Q I r h;obtain⟨l,ns,rfl,hl,hn,q1⟩:=h;obtain⟨u,rfl,ru⟩:=Ar r;cases ru;obtain⟨its,rv,pl,hz⟩:=I.list (SqL.of hl);have hl2:ns.length=its.length:=by have:=rv.length;rwa [W2]at this
 have hlt:l<s.heap.objs.size:=by obtain⟨o,ho,_⟩:=pl.isList;exact WH ho
 have hne:l≠s.heap.objs.size:=WR hlt;refine call_max_walk (wpAny_pyIter_list pl.isList ⟨s.heap.objs.size,[s.heap.objs.size,l],[s.heap.objs.size],its.toArray.size,_,_,gtB ns,rfl,Walks.list (prog:=X.prog) (w:=X.w) (A:=X.A.in1) (I.ok.hd hc) s.heap.objs.size l hne its.toArray,?_,?_,?_,?_,?_⟩)
 ·exact⟨⟨_,WL _ rfl,rfl,rfl⟩,pl.isList.at fun o e=>W8 _ e⟩
 ·intro b hb;rcases WN.mp hb with rfl | hb
  ·show _<(s.heap.push _).objs.size;rw[XD];exact YK _
  ·rw[W6.mp hb];show _<(s.heap.push _).objs.size;rw[XD];exact Xk hlt
 ·rw[W7];omega
 ·exact CmpOf.ints_gt (fun i=>ns.getD i 0) (fun i v h=>by
   obtain⟨n,t1,e1,rfl⟩:=DB rv (show its[i]?=some v by simpa using h);exact⟨t1,by simp[Xr,e1]⟩)
 ·intro v h' tk hv k;obtain⟨n,t1,e1,rfl⟩:=DB rv (show its[argBest (gtB ns) (its.toArray.size - 1)]?=some v by simpa using hv);have hsz:its.toArray.size=ns.length:=by rw[W7];omega
  rw[hsz]at e1;have g:=GM hn;rw[show ns.getD (argBest (gtB ns) (ns.length - 1)) 0=n by simp[Xr,e1]]at g;refine⟨.int n,H,I.kept (t':=tk) (fun b o e=>k b o (fun z=>?_) (W8 _ e)),⟨t1,rfl⟩,q1 n g⟩;rw[W6.mp z]at e;exact XZ _ (WH e)
end
end L2
namespace Rf
open PySem L2
mutual
inductive Tg where
 | nm (i:Nat) | tup (ts:Tgs)
inductive Tgs where
 | nil | cons (t:Tg) (ts:Tgs)
end
mutual
inductive Ex where
 | var (i:Nat) | c (x:SV) | op (o:Operator) (a b:Ex) | neg (a:Ex) | cmp (o:CmpOp) (a b:Ex) | chn (o p:CmpOp) (a b c:Ex)
 | and (a b:Ex) | or (a b:Ex) | not (a:Ex) | ife (t a b:Ex) | tup (es:Exs) | lst (es:Exs) | ix (a b:Ex) | slc (a:Ex) (lo hi:Eo)
 | call (f:Nat) (es:Exs) | bi (b:BI) (es:Exs) | mt (m:MT) (a:Ex) (es:Exs) | comp (own cn:List Str) (js:List Nat) (g:Tg) (it:Itb) (t:Eo) (e:Ex) | tyc (t:TyN) | lrng1 (a:Ex) | rev (a:Ex) | max1 (a:Ex) | maxd (a d:Ex) | lenset (a:Ex) | srtset (a:Ex) | dcomp (own cn:List Str) (js:List Nat) (g:Tg) (it:Itb) (t:Eo) (e f:Ex) | srtsc (own cn:List Str) (js:List Nat) (g:Tg) (it:Itb) (t:Eo) (e:Ex) | eqt0 (a b:Ex) | nell (a b:Ex) | dget (a b:Ex) | din (n:Bool) (a b:Ex) | no
inductive Exs where
 | nil | cons (e:Ex) (es:Exs)
inductive Eo where
 | no | yes (e:Ex)
inductive Itb where
 | seq (e:Ex) | rng1 (a:Ex) | enum (e:Ex) | dk (e:Ex)
end
inductive Stm where
 | asg (t:Tg) (e:Ex) | put (o i e:Ex) | augS (o i e:Ex) | dput (o i e:Ex) | expr (e:Ex) | iff (t:Ex) (a b:List Stm) | loop (g:Tg) (it:Itb) (b:List Stm) | whl (t:Ex) (b:List Stm)
 | ret (e:Ex) | retN | no
noncomputable def sOp:Operator->S2
 | .Add=>Mw
 | .Sub=>CN fun i j => .int (i - j)
 | .Mult=>Mx
 | .FloorDiv=>IA UJ fun i j => .int (i / j)
 | .Mod=>IA (fun _ j=>0<j) fun i j => .int (i % j)
 | .Pow=>IA UK fun i j => .int (i ^ j.toNat)
 | _=>fun _ _ _ _=>False
noncomputable def BH:CmpOp->S2
 | .Eq=>sEq
 | .NotEq=>sNe
 | .Lt=>CN fun i j => .bl (decide (i<j))
 | .LtE=>CN fun i j => .bl (decide (i<=j))
 | .Gt=>CN fun i j => .bl (decide (j<i))
 | .GtE=>CN fun i j => .bl (decide (j<=i))
 | .In=>sIn false
 | .NotIn=>sIn true
 | .Is=>Mz false
 | .IsNot=>Mz true
noncomputable def NE:S1
 | .int i,S,Q=>Q (.int (-i)) S
 | _,_,_=>False
noncomputable def NF:SV->Sto->Option Bool
 | .bl b,_=>some b
 | .loc k,S=>match S[k]? with | some (.lst xs)=>some (!xs.isEmpty) | _=>none
 | _,_=>none
noncomputable def TL(w:WE):WT:=fun ρ S Q=>w ρ S fun x S'=>∃ b,NF x S'=some b/\Q b S'
noncomputable def NG(a b:WE):WE:=fun ρ S Q=>a ρ S fun x S1=>∃ c,x = .bl c/\if c=true then b ρ S1 Q else Q (.bl false) S1
noncomputable def wOr(a b:WE):WE:=fun ρ S Q=>a ρ S fun x S1=>∃ c,x = .bl c/\if c=true then Q (.bl true) S1 else b ρ S1 Q
noncomputable def Pw(a:WE):WE:=fun ρ S Q=>a ρ S fun x S1=>∃ c,x = .bl c/\Q (.bl (!c)) S1
noncomputable def Da(a b:WT):WT:=fun ρ S Q=>a ρ S fun c S1=>if c=true then b ρ S1 Q else Q false S1
noncomputable def ID(a b:WT):WT:=fun ρ S Q=>a ρ S fun c S1=>if c=true then Q true S1 else b ρ S1 Q
noncomputable def JT(a:WT):WT:=fun ρ S Q=>a ρ S fun c S1=>Q (!c) S1
noncomputable def Px(t:WT)(a b:WE):WE:=fun ρ S Q=>t ρ S fun c S1=>if c=true then a ρ S1 Q else b ρ S1 Q
noncomputable def NH(s s':S2)(a b c:WE):WE:=fun ρ S Q=>a ρ S fun x S1=>b ρ S1 fun y S2=>s x y S2 fun z S3=>∃ k,z = .bl k/\if k=true then c ρ S3 fun u S4=>s' y u S4 Q else Q (.bl false) S3
noncomputable abbrev WO:=EnvS->Sto->(Option Int->Sto->Prop)->Prop
noncomputable def TM:WO:=fun _ S Q=>Q none S
noncomputable def NI(w:WE):WO:=fun ρ S Q=>w ρ S fun x S1=>∃ i,x = .int i/\Q (some i) S1
noncomputable def FJ(xs:List SV)(lo hi:Option Int):List SV:=(xs.drop (HT.sIx xs.length 0 lo)).take (HT.sIx xs.length xs.length hi - HT.sIx xs.length 0 lo)
noncomputable def NJ:SV->Option Int->Option Int->Sto->QE->Prop
 | .loc k,lo,hi,S,Q=>∃ xs,S[k]?=some (.lst xs)/\Q (.loc S.length) (S++[.lst (FJ xs lo hi)])
 | .tup xs,lo,hi,S,Q=>Q (.tup (FJ xs lo hi)) S
 | _,_,_,_,_=>False
noncomputable def TN(a:WE)(lo hi:WO):WE:=fun ρ S Q=>a ρ S fun x S1=>lo ρ S1 fun l S2=>hi ρ S2 fun h S3=>NJ x l h S3 Q
noncomputable abbrev WI:=EnvS->Sto->((Sto->Prop)->List SV->Sto->Prop)->Prop
noncomputable def CP:SV->Sto->Sto->Prop
 | .loc k,S,S'=>S'[k]?=S[k]?
 | _,_,_=>True
noncomputable def RT(w:WE):WI:=fun ρ S R=>w ρ S fun x S1=>∃ xs,Aa x S1=some xs/\R (CP x S1) xs S1
noncomputable def C0(lo hi:Int):List SV:=(WP (hi - lo).toNat).map fun(i:Nat) => .int (lo+i)
noncomputable def NK(w:WE):WI:=fun ρ S R=>w ρ S fun x S1=>∃ j,x = .int j/\(-(2 ^ 62)<=j/\j<2 ^ 62)/\R (fun _=>True) (C0 0 j) S1
noncomputable def Bd(xs:List SV):List SV:=(WP xs.length).zipWith (fun(i:Nat) x => .tup [.int i,x]) xs
noncomputable def NL(w:WE):WI:=fun ρ S R=>w ρ S fun x S1=>∃ xs,Aa x S1=some xs/\R (CP x S1) (Bd xs) S1
noncomputable def IE(a:WE):WE:=fun ρ S Q=>a ρ S fun x S1=>∃ j,x = .int j/\(-(2 ^ 62)<=j/\j<=100000)/\Q (.loc S1.length) (S1++[.lst (C0 0 j)])
noncomputable def Py:S1
 | .loc k,S,Q=>∃ xs,S[k]?=some (.lst xs)/\Q (.loc S.length) (S++[.lst xs.reverse])
 | _,_,_=>False
noncomputable def NM(a:WE):WE:=fun ρ S Q=>a ρ S fun x S1=>∃ k ns,x = .loc k/\S1[k]?=some (.lst (ns.map SV.int))/\0<ns.length/\∀ m,Grt ns m->Q (.int m) S1
noncomputable def NN(a d:WE):WE:=fun ρ S Q=>a ρ S fun x S1=>d ρ S1 fun y S2=>∃ k ns i,x = .loc k/\y = .int i/\S2[k]?=some (.lst (ns.map SV.int))/\(ns=[]->Q (.int i) S2)/\∀ m,Grt ns m->Q (.int m) S2
noncomputable def FK(a:WE):WE:=fun ρ S Q=>a ρ S fun x S1=>∃ xs ns,x ≠ .tup xs/\Aa x S1=some xs/\E6 xs=some ns/\ns.length<=900/\Q (.int (AD ns).length) S1
noncomputable def FL(a:WE):WE:=fun ρ S Q=>a ρ S fun x S1=>∃ xs ns,x ≠ .tup xs/\Aa x S1=some xs/\E6 xs=some ns/\ns.length<128/\Q (.loc S1.length) (S1++[.lst ((srt (AD ns)).map SV.int)])
noncomputable def D6(kvs:List (Int×SV))(i:Int):Option SV:=(kvs.find? fun p=>decide (p.1=i)).map (·.2)
noncomputable def Aj(kvs:List (Int×SV))(i:Int)(x:SV):List (Int×SV):=if (kvs.any fun p=>decide (p.1=i))=true then kvs.map (fun p=>if p.1=i then (p.1,x) else p) else kvs++[(i,x)]
noncomputable def CQ:SV->Sto->Option (List (Int×SV))
 | .loc k,S=>match S[k]? with | some (.dct kvs)=>some kvs | some (.dcf _ _ kvs)=>some kvs | _=>none
 | _,_=>none
noncomputable def JU:S2:=fun x y S Q=>∃ kvs i v,CQ x S=some kvs/\y = .int i/\D6 kvs i=some v/\Q v S
noncomputable def Ko(neg:Bool):S2:=fun y x S Q=>∃ kvs i,CQ x S=some kvs/\y = .int i/\Q (.bl (if neg then !(D6 kvs i).isSome else (D6 kvs i).isSome)) S
noncomputable def LsI(S:Sto)(ts:List Nat)(xss:List (List Int)):Prop:=ts.length=xss.length/\∀(i t:Nat) (xs:List Int),ts[i]?=some t->xss[i]?=some xs->S[t]?=some (.lst (xs.map SV.int))
noncomputable def GN:S2:=fun x y S Q=>∃ xs,x = .tup xs/\y = .tup []/\Q (.bl xs.isEmpty) S
noncomputable def GO:S2:=fun x y S Q=>∃ k l ts us xss,x = .loc k/\y = .loc l/\S[k]?=some (.lst (ts.map SV.loc))/\S[l]?=some (.lst (us.map SV.loc))/\LsI S ts xss/\LsI S us xss/\Q (.bl false) S
noncomputable def VB(w:WE):WI:=fun ρ S R=>w ρ S fun x S1=>∃ k kvs,x = .loc k/\S1[k]?=some (.dct kvs)/\∀ o ks,R (fun S'=>S'[k]?=some (.dcf o ks kvs)) (kvs.map fun p => .int p.1) (S1.set k (.dcf o ks kvs))
noncomputable def JV:SV->SV->SV->Sto->(Sto->Prop)->Prop:=fun x y v S Q=>∃ k i kvs,x = .loc k/\y = .int i/\(S[k]?=some (.dct kvs)\/∃ o ks,S[k]?=some (.dcf o ks kvs))/\kvs.length<big/\Q (S.set k (.dct (Aj kvs i v)))
noncomputable def wMt(m:MT)(a:WE)(b:WA):WE:=fun ρ S Q=>a ρ S fun x S1=>(∃ k xs,x = .loc k/\S1[k]?=some (.lst xs))/\b ρ S1 fun xs S2=>sMt m x xs S2 Q
mutual
noncomputable def wTg:Tg->SV->EnvS->(EnvS->Prop)->Prop
 | .nm i,x,ρ,Q=>Q (ρ.set i (some x))
 | .tup ts,.tup xs,ρ,Q=>Af ts xs ρ Q
 | .tup _,_,_,_=>False
noncomputable def Af:Tgs->List SV->EnvS->(EnvS->Prop)->Prop
 | .nil,[],ρ,Q=>Q ρ
 | .cons t ts,x::xs,ρ,Q=>wTg t x ρ fun ρ'=>Af ts xs ρ' Q
 | _,_,_,_=>False
end
noncomputable def BT(k:Nat)(js:List Nat)(ρ:EnvS):EnvS:=WC k none++js.map fun j=>(ρ[j]?).join
noncomputable def u9(keep:Sto->Prop)(g:Tg)(t:WT)(e:WE)(ρ:EnvS)(Q:List SV->Sto->Prop):List SV->List SV->Sto->Prop
 | [],ys,S=>keep S/\Q ys S
 | x::xs,ys,S=>keep S/\wTg g x ρ fun ρ2=>t ρ2 S fun b S1=>if b=true then e ρ2 S1 fun y S2=>ys.length<big/\u9 keep g t e ρ Q xs (ys++[y]) S2 else u9 keep g t e ρ Q xs ys S1
noncomputable def JW(k:Nat)(js:List Nat)(g:Tg)(i:WI)(t:WT)(e:WE):WE:=fun ρ S Q=>i ρ S fun keep xs S1=>u9 keep g t e (BT k js ρ) (fun ys S2=>Q (.loc S2.length) (S2++[.lst ys])) xs [] S1
noncomputable def v4(keep:Sto->Prop)(g:Tg)(t:WT)(e f:WE)(ρ:EnvS)(Q:List (Int×SV)->Sto->Prop):List SV->List (Int×SV)->Sto->Prop
 | [],kvs,S=>keep S/\Q kvs S
 | x::xs,kvs,S=>keep S/\wTg g x ρ fun ρ2=>t ρ2 S fun b S1=>if b=true then e ρ2 S1 fun y S2=>f ρ2 S2 fun z S3=>∃ i,y = .int i/\kvs.length<big/\v4 keep g t e f ρ Q xs (Aj kvs i z) S3 else v4 keep g t e f ρ Q xs kvs S1
noncomputable def FM(k:Nat)(js:List Nat)(g:Tg)(i:WI)(t:WT)(e f:WE):WE:=fun ρ S Q=>i ρ S fun keep xs S1=>v4 keep g t e f (BT k js ρ) (fun kvs S2=>Q (.loc S2.length) (S2++[.dct kvs])) xs [] S1
noncomputable def v5(keep:Sto->Prop)(g:Tg)(t:WT)(e:WE)(ρ:EnvS)(Q:List Int->Sto->Prop):List SV->List Int->Sto->Prop
 | [],ns,S=>keep S/\Q ns S
 | x::xs,ns,S=>keep S/\wTg g x ρ fun ρ2=>t ρ2 S fun b S1=>if b=true then e ρ2 S1 fun y S2=>∃ i,y = .int i/\ns.length<900/\v5 keep g t e ρ Q xs (ns++[i]) S2 else v5 keep g t e ρ Q xs ns S1
noncomputable def FN(k:Nat)(js:List Nat)(g:Tg)(i:WI)(t:WT)(e:WE):WE:=fun ρ S Q=>i ρ S fun keep xs S1=>v5 keep g t e (BT k js ρ) (fun ns S2=>ns.length<64/\Q (.loc S2.length) (S2++[.lst ((srt (AD ns)).map SV.int)])) xs [] S1
noncomputable def tt1(w:WE):WE×WT:=(w,TL w)
noncomputable def wBl(w:WE):WT:=fun ρ S Q=>w ρ S fun x S'=>∃ b,x = .bl b/\Q b S'
noncomputable def tt2(w:WE):WE×WT:=(w,wBl w)
noncomputable def VC:WT:=fun _ S Q=>Q true S
mutual
noncomputable def wEx(Δ:Nat->Sn):Ex->WE×WT
 | .var i=>tt1 (Sx i)
 | .c x=>tt1 (wC x)
 | .op o a b=>tt1 (w2 (sOp o) (wEx Δ a).1 (wEx Δ b).1)
 | .neg a=>tt1 (w1 NE (wEx Δ a).1)
 | .cmp o a b=>tt2 (w2 (BH o) (wEx Δ a).1 (wEx Δ b).1)
 | .chn o p a b c=>tt2 (NH (BH o) (BH p) (wEx Δ a).1 (wEx Δ b).1 (wEx Δ c).1)
 | .and a b=>(NG (wEx Δ a).1 (wEx Δ b).1,Da (wEx Δ a).2 (wEx Δ b).2)
 | .or a b=>(wOr (wEx Δ a).1 (wEx Δ b).1,ID (wEx Δ a).2 (wEx Δ b).2)
 | .not a=>(Pw (wEx Δ a).1,JT (wEx Δ a).2)
 | .ife t a b=>(Px (wEx Δ t).2 (wEx Δ a).1 (wEx Δ b).1,fun _ _ _=>False)
 | .tup es=>tt1 (wn Pf (GP Δ es))
 | .lst es=>tt1 (wn Pg (GP Δ es))
 | .ix a b=>tt1 (w2 sIx (wEx Δ a).1 (wEx Δ b).1)
 | .slc a lo hi=>tt1 (TN (wEx Δ a).1 (wEo Δ lo).1 (wEo Δ hi).1)
 | .call f es=>tt1 (wn (Δ f) (GP Δ es))
 | .bi b es=>tt1 (wn (sBi b) (GP Δ es))
 | .mt m a es=>tt1 (wMt m (wEx Δ a).1 (GP Δ es))
 | .comp own _ js g it t e=>tt1 (JW own.length js g (Kq Δ it) (wEo Δ t).2 (wEx Δ e).1)
 | .tyc t=>tt1 (wC (.ty t))
 | .lrng1 a=>tt1 (IE (wEx Δ a).1)
 | .rev a=>tt1 (w1 Py (wEx Δ a).1)
 | .max1 a=>tt1 (NM (wEx Δ a).1)
 | .maxd a d=>tt1 (NN (wEx Δ a).1 (wEx Δ d).1)
 | .lenset a=>tt1 (FK (wEx Δ a).1)
 | .srtset a=>tt1 (FL (wEx Δ a).1)
 | .dcomp own _ js g it t e f=>tt1 (FM own.length js g (Kq Δ it) (wEo Δ t).2 (wEx Δ e).1 (wEx Δ f).1)
 | .srtsc own _ js g it t e=>tt1 (FN own.length js g (Kq Δ it) (wEo Δ t).2 (wEx Δ e).1)
 | .eqt0 a b=>tt2 (w2 GN (wEx Δ a).1 (wEx Δ b).1)
 | .nell a b=>tt2 (w2 GO (wEx Δ a).1 (wEx Δ b).1)
 | .dget a b=>tt1 (w2 JU (wEx Δ a).1 (wEx Δ b).1)
 | .din n a b=>tt2 (w2 (Ko n) (wEx Δ a).1 (wEx Δ b).1)
 | .no=>(fun _ _ _=>False,fun _ _ _=>False)
noncomputable def GP(Δ:Nat->Sn):Exs->WA
 | .nil=>EV
 | .cons e es=>DY (wEx Δ e).1 (GP Δ es)
noncomputable def wEo(Δ:Nat->Sn):Eo->WO×WT
 | .no=>(TM,VC)
 | .yes e=>(NI (wEx Δ e).1,(wEx Δ e).2)
noncomputable def Kq(Δ:Nat->Sn):Itb->WI
 | .seq e=>RT (wEx Δ e).1
 | .rng1 a=>NK (wEx Δ a).1
 | .enum e=>NL (wEx Δ e).1
 | .dk e=>VB (wEx Δ e).1
end
structure EndsS where
 nx:EnvS->Sto->Prop
 rt:SV->Sto->Prop
 bk:EnvS->Sto->Prop:=fun _ _=>False
 ct:EnvS->Sto->Prop:=fun _ _=>False
noncomputable abbrev WS:=EndsS->EnvS->Sto->Prop
noncomputable def IF:SV->SV->SV->Sto->(Sto->Prop)->Prop
 | .loc k,.int i,v,S,Q=>∃ xs j,S[k]?=some (.lst xs)/\ixN xs.length i=some j/\Q (S.set k (.lst (xs.set j v)))
 | _,_,_,_,_=>False
noncomputable def AA(keep:Sto->Prop)(g:Tg)(b:WS)(D:EndsS):List SV->EnvS->Sto->Prop
 | [],ρ,S=>keep S/\D.nx ρ S
 | x::xs,ρ,S=>keep S/\wTg g x ρ fun ρ2=>b {D with nx:=AA keep g b D xs,ct:=AA keep g b D xs,bk:=D.nx} ρ2 S
noncomputable def TQ(t:WT)(b:WS):WS:=fun D ρ S=>∃ W:Nat->EnvS->Sto->Prop,(∃ m,W m ρ S)/\∀ m ρ S,W m ρ S->t ρ S fun c S1=>if c=true then
 b {D with nx:=fun ρ' S'=>∃ m',m'<m/\W m' ρ' S',ct:=fun ρ' S'=>∃ m',m'<m/\W m' ρ' S',bk:=D.nx} ρ S1 else D.nx ρ S1
mutual
noncomputable def wSt(Δ:Nat->Sn):Stm->WS
 | .asg t e=>fun D ρ S=>(wEx Δ e).1 ρ S fun x S1=>wTg t x ρ fun ρ'=>D.nx ρ' S1
 | .put o i e=>fun D ρ S=>(wEx Δ e).1 ρ S fun v S1=>(wEx Δ o).1 ρ S1 fun x S2=>(wEx Δ i).1 ρ S2 fun y S3=>IF x y v S3 fun S4=>D.nx ρ S4
 | .augS o i e=>fun D ρ S=>(wEx Δ o).1 ρ S fun x S1=>(wEx Δ i).1 ρ S1 fun y S2=>∃(k:Nat) (j:Nat) (xs:List SV) (a:Int),x = .loc k/\y = .int j/\S2[k]?=some (.lst xs)/\xs[j]?=some (.int a)/\(wEx Δ e).1 ρ S2 fun v S4=>∃(b:Int) (ys:List SV),v = .int b/\S4[k]?=some (.lst ys)/\j<ys.length/\D.nx ρ (S4.set k (.lst (ys.set j (.int (a+b)))))
 | .dput o i e=>fun D ρ S=>(wEx Δ e).1 ρ S fun v S1=>(wEx Δ o).1 ρ S1 fun x S2=>(wEx Δ i).1 ρ S2 fun y S3=>JV x y v S3 fun S4=>D.nx ρ S4
 | .expr e=>fun D ρ S=>(wEx Δ e).1 ρ S fun _ S1=>D.nx ρ S1
 | .iff t a b=>fun D ρ S=>(wEx Δ t).2 ρ S fun c S1=>if c=true then wSs Δ a D ρ S1 else wSs Δ b D ρ S1
 | .loop g it b=>fun D ρ S=>Kq Δ it ρ S fun keep xs S1=>AA keep g (wSs Δ b) D xs ρ S1
 | .whl t b=>TQ (wEx Δ t).2 (wSs Δ b)
 | .ret e=>fun D ρ S=>(wEx Δ e).1 ρ S D.rt
 | .retN=>fun D _ S=>D.rt .non S
 | .no=>fun _ _ _=>False
noncomputable def wSs(Δ:Nat->Sn):List Stm->WS
 | []=>fun D ρ S=>D.nx ρ S
 | s::ss=>fun D ρ S=>wSt Δ s {D with nx:=wSs Δ ss D} ρ S
end
open PySem L2
theorem v9{α:Type}{P:Prop}{x:α}(h:(none:Option α)=some x):P:=nomatch h
noncomputable def BJ(scope sc:Scope):Scope:={scope with names:=scope.names.map fun(n,k)=>if (k == .free&&sc.kind == .function&&sc.names.lookup n == some .cell) then (n,.cell) else (n,k)}
noncomputable def e7:Expr->Bool
 | .Starred ..=>false
 | _=>true
theorem j9{e:Expr}{es:List Expr}{env:Env}(h:e7 e=true):starEach (e::es) env=(false,eval e env)::starEach es env:=by
 cases e<;>first | rfl | cases h
theorem CS{env:Env}{pos:Pos}:∀{es:List Expr},es.all e7=true->(backTo pos (starEach es env)).any (·.1)=false
 | [],_=>rfl
 | e::es,h=>by
   rw[XS,Vz]at h;rw[j9 h.1];exact CS (es:=es) h.2
theorem EY{env:Env}{pos:Pos}:∀{es:List Expr},es.all e7=true->(backTo pos (starEach es env)).all (fun x=>!x.1)=true
 | [],_=>rfl
 | e::es,h=>by
   rw[XS,Vz]at h;rw[j9 h.1];exact EY (es:=es) h.2
noncomputable def glo(sc:Scope)(x:Str):Bool:=sc.names.lookup x == some .globalImplicit&&!(x == ("__name__":Str))&&!(x == ("__debug__":Str))
noncomputable def vis(sc:Scope)(x:Str):Bool:=sc.names.lookup x == some .local||sc.names.lookup x == some .cell||sc.names.lookup x == some .free
noncomputable def loc(sc:Scope)(x:Str):Bool:=sc.names.lookup x == some .local||sc.names.lookup x == some .cell
noncomputable def TR:SV->Const->Bool
 | .non,.none=>true
 | .bl a,.bool b=>a == b
 | .int i,.int j=>decide (i=j)
 | .str x,.str y=>decide (x=y)
 | _,_=>false
noncomputable def y9:Expr->Bool
 | .Slice ..=>false
 | _=>true
noncomputable def n8:Expr->Bool
 | .Set ..=>false
 | _=>true
noncomputable def NO:Expr->Bool
 | .UnaryOp .Not _ _=>false
 | .BoolOp ..=>false
 | .IfExp ..=>false
 | .Compare ..=>false
 | _=>true
noncomputable def DC:Expr->Bool
 | .Call (.Name _ _) [] [] _=>false
 | _=>true
noncomputable def CT:Expr->Option Str
 | .Name x _=>some x
 | _=>none
noncomputable def IG:Expr->Option Const
 | .Constant k _ _=>some k
 | _=>none
noncomputable def VD:Expr->Option (Expr×Operator×Expr)
 | .BinOp a o b _=>some (a,o,b)
 | _=>none
noncomputable def vUn:Expr->Option (UnaryOp×Expr)
 | .UnaryOp o a _=>some (o,a)
 | _=>none
noncomputable def Kr:Expr->Option (Expr×List CmpOp×List Expr)
 | .Compare a os bs _=>some (a,os,bs)
 | _=>none
noncomputable def NP:Expr->Option (BoolOp×List Expr×Pos)
 | .BoolOp o vs p=>some (o,vs,p)
 | _=>none
noncomputable def VE:Expr->Option (Expr×Expr×Expr)
 | .IfExp t a b _=>some (t,a,b)
 | _=>none
noncomputable def Kt:Expr->Option (List Expr)
 | .Tuple es _ _=>some es
 | _=>none
noncomputable def VF:Expr->Option (List Expr)
 | .List es _=>some es
 | _=>none
noncomputable def GQ:Expr->Option (Expr×Expr)
 | .Subscript a b _=>some (a,b)
 | _=>none
noncomputable def TU:Expr->Option (Option Expr×Option Expr×Option Expr)
 | .Slice l h s _=>some (l,h,s)
 | _=>none
noncomputable def Db:Expr->Option (Expr×List Expr×List Keyword)
 | .Call f as ks _=>some (f,as,ks)
 | _=>none
noncomputable def IH:Expr->Nat
 | .Call _ _ _ p=>p.line
 | _=>0
noncomputable def NQ:Expr->Option (Expr×Str×Nat)
 | .Attribute o n p=>some (o,n,p.endLine)
 | _=>none
noncomputable def NR:Expr->Option (Expr×List Comprehension×Scope)
 | .ListComp e gs s _=>some (e,gs,s)
 | _=>none
noncomputable def II:Expr->Option (Expr×Expr×List Comprehension×Scope)
 | .DictComp e f gs s _=>some (e,f,gs,s)
 | _=>none
noncomputable def NS:Expr->Option (Expr×List Comprehension×Scope)
 | .SetComp e gs s _=>some (e,gs,s)
 | _=>none
theorem EZ{r:Expr}{x:Expr×Expr×List Comprehension×Scope}(h:II r=some x):∃ p,r = .DictComp x.1 x.2.1 x.2.2.1 x.2.2.2 p:=by cases r<;>first | (cases h;exact⟨_,rfl⟩) | exact v9 h
theorem Ku{r:Expr}{x:Expr×List Comprehension×Scope}(h:NS r=some x):∃ p,r = .SetComp x.1 x.2.1 x.2.2 p:=by cases r<;>first | (cases h;exact⟨_,rfl⟩) | exact v9 h
theorem Be{r:Expr}{x:Str}(h:CT r=some x):∃ p,r = .Name x p:=by cases r<;>first | (cases h;exact⟨_,rfl⟩) | exact v9 h
theorem Ea{r:Expr}{x:Const}(h:IG r=some x):∃ j p,r = .Constant x j p:=by cases r<;>first | (cases h;exact⟨_,_,rfl⟩) | exact v9 h
theorem Pz{r:Expr}{x:Expr×Operator×Expr}(h:VD r=some x):∃ p,r = .BinOp x.1 x.2.1 x.2.2 p:=by cases r<;>first | (cases h;exact⟨_,rfl⟩) | exact v9 h
theorem IJ{r:Expr}{x:UnaryOp×Expr}(h:vUn r=some x):∃ p,r = .UnaryOp x.1 x.2 p:=by cases r<;>first | (cases h;exact⟨_,rfl⟩) | exact v9 h
theorem CU{r:Expr}{x:Expr×List CmpOp×List Expr}(h:Kr r=some x):∃ p,r = .Compare x.1 x.2.1 x.2.2 p:=by cases r<;>first | (cases h;exact⟨_,rfl⟩) | exact v9 h
theorem GR{r:Expr}{x:BoolOp×List Expr×Pos}(h:NP r=some x):r = .BoolOp x.1 x.2.1 x.2.2:=by cases r<;>first | (cases h;exact rfl) | exact v9 h
theorem Q0{r:Expr}{x:Expr×Expr×Expr}(h:VE r=some x):∃ p,r = .IfExp x.1 x.2.1 x.2.2 p:=by cases r<;>first | (cases h;exact⟨_,rfl⟩) | exact v9 h
theorem DD{r:Expr}{x:List Expr}(h:Kt r=some x):∃ j p,r = .Tuple x j p:=by cases r<;>first | (cases h;exact⟨_,_,rfl⟩) | exact v9 h
theorem Q1{r:Expr}{x:List Expr}(h:VF r=some x):∃ p,r = .List x p:=by cases r<;>first | (cases h;exact⟨_,rfl⟩) | exact v9 h
theorem BK{r:Expr}{x:Expr×Expr}(h:GQ r=some x):∃ p,r = .Subscript x.1 x.2 p:=by cases r<;>first | (cases h;exact⟨_,rfl⟩) | exact v9 h
theorem JX{r:Expr}{x:Option Expr×Option Expr×Option Expr}(h:TU r=some x):∃ p,r = .Slice x.1 x.2.1 x.2.2 p:=by cases r<;>first | (cases h;exact⟨_,rfl⟩) | exact v9 h
theorem Dc{r:Expr}{x:Expr×List Expr×List Keyword}(h:Db r=some x):∃ p,r = .Call x.1 x.2.1 x.2.2 p/\IH r=p.line:=by cases r<;>first | (cases h;exact⟨_,rfl,rfl⟩) | exact v9 h
theorem NT{r:Expr}{x:Expr×Str×Nat}(h:NQ r=some x):∃ p,r = .Attribute x.1 x.2.1 p/\x.2.2=p.endLine:=by cases r<;>first | (cases h;exact⟨_,rfl,rfl⟩) | exact v9 h
theorem GT{r:Expr}{x:Expr×List Comprehension×Scope}(h:NR r=some x):∃ p,r = .ListComp x.1 x.2.1 x.2.2 p:=by cases r<;>first | (cases h;exact⟨_,rfl⟩) | exact v9 h
theorem a6{α:Type}{o:Option α}{p:α->Bool}(h:o.any p=true):∃ x,o=some x/\p x=true:=by
 cases o with
 | none=>cases h
 | some x=>exact⟨x,rfl,h⟩
theorem Ak{α:Type}{l:List α}{x:α}(h:l.head?=some x):l=x::l.tail:=by
 cases l with
 | nil=>cases h
 | cons y r=>cases h;rfl
noncomputable def l1{α:Type}:List α->Option α
 | [x]=>some x
 | _=>none
noncomputable def l2{α:Type}:List α->Option (α×α)
 | [x,y]=>some (x,y)
 | _=>none
theorem u8{α:Type}{l:List α}{x:α}(h:l1 l=some x):l=[x]:=by
 match l,h with
 | [y],h=>cases h;rfl
theorem VG{α:Type}{l:List α}{x:α×α}(h:l2 l=some x):l=[x.1,x.2]:=by
 match l,h with
 | [y,z],h=>cases h;rfl
noncomputable def l3{α:Type}:List α->Option (α×α×α)
 | [x,y,z]=>some (x,y,z)
 | _=>none
noncomputable def TV(r:Expr):Option (Str×List Expr×Keyword):=(Db r).bind fun c=>match c.2.2 with
 | [kw]=>(CT c.1).map fun x=>(x,c.2.1,kw)
 | _=>none
theorem Q2{r:Expr}{x:Str×List Expr×Keyword}(h:TV r=some x):∃ p q,r = .Call (.Name x.1 p) x.2.1 [x.2.2] q:=by
 unfold TV at h;cases hc:Db r with
 | none=>rw[hc]at h;cases h
 | some c=>
   rw[hc]at h;obtain⟨q,e,_⟩:=Dc hc;obtain⟨f,as,ks⟩:=c
   match ks,h with
   | [kw],h=>
     replace h:(CT f).map (fun x=>(x,as,kw))=some x:=h;cases hn:CT f with
     | none=>rw[hn]at h;cases h
     | some nm=>
       rw[hn]at h;cases h;obtain⟨p,e2⟩:=Be hn;exact⟨p,q,by rw[e,e2]⟩
   | [],h=>cases h
   | _::_::_,h=>cases h
noncomputable def vFn(r:Expr):Option (Str×List Expr):=(Db r).bind fun c=>if c.2.2.isEmpty then (CT c.1).map fun x=>(x,c.2.1) else none
theorem AR{r:Expr}{x:Str×List Expr}(h:vFn r=some x):∃ p q,r = .Call (.Name x.1 p) x.2 [] q:=by
 unfold vFn at h;cases hc:Db r with
 | none=>rw[hc]at h;cases h
 | some c=>
   rw[hc]at h;obtain⟨q,e,_⟩:=Dc hc;simp only[Ym]at h;by_cases hk:c.2.2.isEmpty=true
   ·rw[if_pos hk]at h;cases hn:CT c.1 with
    | none=>rw[hn]at h;cases h
    | some y=>
      rw[hn]at h;cases h;obtain⟨p,ep⟩:=Be hn;rw[e,ep,XH.mp hk];exact⟨p,q,rfl⟩
   ·rw[if_neg hk]at h;cases h
noncomputable def vMt(r:Expr):Option (Expr×Str×List Expr):=(Db r).bind fun c=>if c.2.2.isEmpty then (NQ c.1).bind fun a=>if a.2.2 == IH r then some (a.1,a.2.1,c.2.1) else none else none
theorem TW{r:Expr}{x:Expr×Str×List Expr}(h:vMt r=some x):∃ ap cp,r = .Call (.Attribute x.1 x.2.1 ap) x.2.2 [] cp/\(ap.endLine == cp.line)=true:=by
 unfold vMt at h;cases hc:Db r with
 | none=>rw[hc]at h;cases h
 | some c=>
   rw[hc]at h;obtain⟨q,e,el⟩:=Dc hc;simp only[Ym]at h;by_cases hk:c.2.2.isEmpty=true
   ·rw[if_pos hk]at h;cases hn:NQ c.1 with
    | none=>rw[hn]at h;cases h
    | some y=>
      rw[hn]at h;simp only[Ym]at h;obtain⟨p,ep,el2⟩:=NT hn;by_cases hl:(y.2.2 == IH r)=true
      ·rw[if_pos hl]at h;cases h;refine⟨p,q,?_,?_⟩
       ·rw[e,ep,XH.mp hk]
       ·rw[<-el2,<-el];exact hl
      ·rw[if_neg hl]at h;cases h
   ·rw[if_neg hk]at h;cases h
mutual
noncomputable def Al(k:Nat)(N:List Str)(sc:Scope):Tg->Expr->Bool
 | .nm i,r=>(CT r).any fun x=>decide (i<k)&&decide (N[i]?=some x)&&loc sc x
 | .tup ts,r=>(Kt r).any fun es=>Ab k N sc ts es
noncomputable def Ab(k:Nat)(N:List Str)(sc:Scope):Tgs->List Expr->Bool
 | .nil,r=>r.isEmpty
 | .cons t ts,r=>(r.head?).any fun e=>Al k N sc t e&&e7 e&&Ab k N sc ts r.tail
end
noncomputable def nmB(N:List Str)(sc:Scope)(i:Nat)(x:Str):Bool:=decide (N[i]?=some x)&&vis sc x&&!(x == ("__debug__":Str))&&!(x == ("__classdict__":Str))
mutual
noncomputable def g8(T:List Str)(N:List Str)(sc:Scope):Ex->Expr->Bool
 | .var i,r=>(CT r).any fun x=>nmB N sc i x
 | .c x,r=>(IG r).any fun k=>TR x k
 | .op o a b,r=>(VD r).any fun v=>decide (o=v.2.1)&&g8 T N sc a v.1&&g8 T N sc b v.2.2
 | .neg a,r=>(vUn r).any fun v=>decide (v.1 = .USub)&&g8 T N sc a v.2
 | .cmp o a b,r=>(Kr r).any fun v=>(l1 v.2.2).any fun rb=>decide (v.2.1=[o])&&g8 T N sc a v.1&&g8 T N sc b rb&&n8 rb
 | .chn o p a b c,r=>(Kr r).any fun v=>(l2 v.2.2).any fun rs=>decide (v.2.1=[o,p])&&g8 T N sc a v.1&&g8 T N sc b rs.1&&g8 T N sc c rs.2&&n8 rs.2
 | .and a b,r=>(NP r).any fun v=>decide (v.1 = .And)&&(v.2.1.head?).any fun x=>g8 T N sc a x&&(match l1 v.2.1.tail with | some y=>g8 T N sc b y | none=>decide (2<=v.2.1.tail.length)&&g8 T N sc b (.BoolOp .And v.2.1.tail v.2.2))
 | .or a b,r=>(NP r).any fun v=>decide (v.1 = .Or)&&(v.2.1.head?).any fun x=>g8 T N sc a x&&(match l1 v.2.1.tail with | some y=>g8 T N sc b y | none=>decide (2<=v.2.1.tail.length)&&g8 T N sc b (.BoolOp .Or v.2.1.tail v.2.2))
 | .not a,r=>(vUn r).any fun v=>decide (v.1 = .Not)&&g8 T N sc a v.2
 | .ife t a b,r=>(VE r).any fun v=>g8 T N sc t v.1&&g8 T N sc a v.2.1&&g8 T N sc b v.2.2
 | .tup es,r=>(Kt r).any fun rs=>B4 T N sc es rs
 | .lst es,r=>(VF r).any fun rs=>B4 T N sc es rs
 | .ix a b,r=>(GQ r).any fun v=>g8 T N sc a v.1&&g8 T N sc b v.2&&y9 v.2
 | .slc a lo hi,r=>(GQ r).any fun v=>(TU v.2).any fun s=>g8 T N sc a v.1&&NU T N sc lo s.1&&NU T N sc hi s.2.1&&s.2.2.isNone
 | .call f es,r=>(vFn r).any fun v=>decide (T[f]?=some v.1)&&glo sc v.1&&B4 T N sc es v.2&&!v.2.isEmpty
 | .bi b es,r=>(vFn r).any fun v=>decide (b.name=v.1)&&glo sc v.1&&B4 T N sc es v.2&&!v.2.isEmpty
 | .mt m a es,r=>(vMt r).any fun v=>decide (v.2.1=m.name)&&DC v.1&&decide (v.2.2.length<29)&&g8 T N sc a v.1&&B4 T N sc es v.2.2
 | .comp own cn js g it t e,r=>(NR r).any fun v=>(l1 v.2.1).any fun c=>decide (c.is_async=0)&&j8 sc v.2.2 own cn N js&&Al own.length (own++cn) (BJ v.2.2 sc) g c.target&&IK T N sc it c.target c.iter&&n8 c.iter&&D0 T (own++cn) (BJ v.2.2 sc) t c.ifs&&g8 T (own++cn) (BJ v.2.2 sc) e v.1
 | .tyc t,r=>(CT r).any fun x=>decide (x=Str.ofString t.nm)&&glo sc x&&decide (t ≠ .none)
 | .lrng1 a,r=>(vFn r).any fun v=>(l1 v.2).any fun z=>(vFn z).any fun u=>(l1 u.2).any fun ra=>decide (v.1=("list":Str))&&decide (u.1=("range":Str))&&glo sc v.1&&glo sc u.1&&g8 T N sc a ra&&e7 ra
 | .rev a,r=>(GQ r).any fun v=>(TU v.2).any fun s=>s.1.isNone&&s.2.1.isNone&&s.2.2.any fun st=>(vUn st).any fun u=>decide (u.1 = .USub)&&(IG u.2).any fun c=>decide (c = .int 1)&&g8 T N sc a v.1
 | .max1 a,r=>(vFn r).any fun v=>(l1 v.2).any fun ra=>decide (v.1=("max":Str))&&glo sc v.1&&g8 T N sc a ra&&e7 ra
 | .maxd a d,r=>(TV r).any fun v=>(l1 v.2.1).any fun ra=>decide (v.1=("max":Str))&&glo sc v.1&&g8 T N sc a ra&&g8 T N sc d v.2.2.value&&e7 ra&&decide (v.2.2.arg=some ("default":Str))
 | .lenset a,r=>(vFn r).any fun v=>(l1 v.2).any fun z=>(vFn z).any fun u=>(l1 u.2).any fun ra=>decide (v.1=("len":Str))&&decide (u.1=("set":Str))&&glo sc v.1&&glo sc u.1&&g8 T N sc a ra&&e7 ra
 | .srtset a,r=>(vFn r).any fun v=>(l1 v.2).any fun z=>(vFn z).any fun u=>(l1 u.2).any fun ra=>decide (v.1=("sorted":Str))&&decide (u.1=("set":Str))&&glo sc v.1&&glo sc u.1&&g8 T N sc a ra&&e7 ra
 | .dcomp own cn js g it t e f,r=>(II r).any fun v=>(l1 v.2.2.1).any fun c=>decide (c.is_async=0)&&j8 sc v.2.2.2 own cn N js&&Al own.length (own++cn) (BJ v.2.2.2 sc) g c.target&&IK T N sc it c.target c.iter&&n8 c.iter&&D0 T (own++cn) (BJ v.2.2.2 sc) t c.ifs&&g8 T (own++cn) (BJ v.2.2.2 sc) e v.1&&g8 T (own++cn) (BJ v.2.2.2 sc) f v.2.1
 | .srtsc own cn js g it t e,r=>(vFn r).any fun u=>(l1 u.2).any fun z=>(NS z).any fun v=>(l1 v.2.1).any fun c=>decide (u.1=("sorted":Str))&&glo sc u.1&&decide (c.is_async=0)&&j8 sc v.2.2 own cn N js&&Al own.length (own++cn) (BJ v.2.2 sc) g c.target&&IK T N sc it c.target c.iter&&n8 c.iter&&D0 T (own++cn) (BJ v.2.2 sc) t c.ifs&&g8 T (own++cn) (BJ v.2.2 sc) e v.1
 | .eqt0 a b,r=>(Kr r).any fun v=>(l1 v.2.2).any fun rb=>decide (v.2.1=[.Eq])&&g8 T N sc a v.1&&g8 T N sc b rb&&n8 rb
 | .nell a b,r=>(Kr r).any fun v=>(l1 v.2.2).any fun rb=>decide (v.2.1=[.NotEq])&&g8 T N sc a v.1&&g8 T N sc b rb&&n8 rb
 | .dget a b,r=>(GQ r).any fun v=>g8 T N sc a v.1&&g8 T N sc b v.2&&y9 v.2
 | .din n a b,r=>(Kr r).any fun v=>(l1 v.2.2).any fun rb=>decide (v.2.1=[if n then .NotIn else .In])&&g8 T N sc a v.1&&g8 T N sc b rb&&n8 rb
 | .no,_=>true
noncomputable def B4(T:List Str)(N:List Str)(sc:Scope):Exs->List Expr->Bool
 | .nil,r=>r.isEmpty
 | .cons e es,r=>(r.head?).any fun x=>g8 T N sc e x&&e7 x&&B4 T N sc es r.tail
noncomputable def NU(T:List Str)(N:List Str)(sc:Scope):Eo->Option Expr->Bool
 | .no,r=>r.isNone
 | .yes e,r=>r.any fun x=>g8 T N sc e x
noncomputable def D0(T:List Str)(N:List Str)(sc:Scope):Eo->List Expr->Bool
 | .no,r=>r.isEmpty
 | .yes e,r=>(l1 r).any fun x=>g8 T N sc e x
noncomputable def IK(T:List Str)(N:List Str)(sc:Scope):Itb->Expr->Expr->Bool
 | .seq e,_,r=>g8 T N sc e r
 | .rng1 a,_,r=>(vFn r).any fun v=>(l1 v.2).any fun ra=>decide (v.1=("range":Str))&&glo sc v.1&&g8 T N sc a ra&&e7 ra
 | .enum e,tg,r=>(Kt tg).isSome&&(vFn r).any fun v=>(l1 v.2).any fun a=>decide (v.1=("enumerate":Str))&&glo sc v.1&&g8 T N sc e a&&e7 a
 | .dk e,_,r=>g8 T N sc e r
end
open PySem L2
noncomputable def spS(K:Vy)(w:Sn):Sp:=fun vs H Q _=>∃ as S xs,Ok K as H S/\RlAll K as H vs xs/\w xs S (Post K as H Q)
structure Cal(P:Program)(w:World)(K:Vy)(mg:Str->Option Value)(base:Heap)(k:Nat)(x:Str)(ps:List Str)(sp:Sp):Prop where
 ex:∃ f fd,FnOk P w K mg base CX0 k f fd ps sp/\mg x=some (.ref f)/\PySem.W.keepIn K (.ref f)=true/\Binds K fd ps []
structure Cok(T:List Str)(Δ:Nat->Sn)(X:Cx)(k:Nat)(N:List Str)(sc:Scope):Prop where
 hN:X.N=N
 hs:X.env.scope=sc
 nd:N.Nodup
 calm:X.calm=true
 fn:∀ i x,i<k->N[i]?=some x->sc.names.lookup x=some .cell->X.fn x=true
 un:X.A.units+100<cLine
 bl:∀ b:BI,X.mg b.name=none
 rng:X.mg "range"=none
 enm:X.mg "enumerate"=none
 zip:X.mg "zip"=none
 st0:X.mg "set"=none
 dc0:X.mg "dict"=none
 ty:∀ t:TyN,t ≠ .none->X.mg (Str.ofString t.nm)=none
 gd:X.A.guards=some []
 call:∀ f x,T[f]?=some x->∃ k ps,Cal X.prog X.w X.K X.mg X.base k x ps (spS X.K (Δ f))/\Room k X.A
 mono:∀ f,MonoN (Δ f)
structure Good(X:Cx)(r:Expr)(w:WE×WT):Prop where
 pe:PE X r (lift X.K w.1)
 pt:PT X r (liftT X.K w.2)
 m:Mono w.1
 mt:MonoT w.2
 pw:∀ op vs p,r = .BoolOp op vs p->PW X r (liftT X.K w.2)
section
variable{X:Cx}{r:Expr}{w:WE}
theorem MonoT.tru(m:Mono w):MonoT (TL w):=fun ρ S P P' i h=>m _ _ _ _ (fun x S' ⟨b,e,q⟩=>⟨b,e,i _ _ q⟩) h
theorem MonoT.bl(m:Mono w):MonoT (wBl w):=fun ρ S P P' i h=>m _ _ _ _ (fun x S' ⟨b,e,q⟩=>⟨b,e,i _ _ q⟩) h
theorem TX{K:Vy}{as:List Addr}{H:Hp}{S:Sto}{x:SV}{v:V}{b:Bool}(ok:Ok K as H S)(r:Rl K as H v x)(e:NF x S=some b):Oz K v H b:=by
 cases x with
 | bl c=>cases e;rw[rl_bl.mp r];exact rfl
 | loc k=>
   unfold NF at e;cases hs:S[k]? with
   | none=>simp only[hs]at e;cases e
   | some o=>
     cases o with
     | lst xs=>
       simp only[hs]at e;cases e;obtain⟨a,vs,rfl,_,ha,rr⟩:=m9 ok r hs;refine .inl ⟨vs,SqL.of ha,?_⟩;have:=rr.length;cases vs<;>cases xs<;>first | rfl | (simp at this)
     | iset _=>simp only[hs]at e;cases e
     | dct _=>simp only[hs]at e;cases e
     | dcf _ _ _=>simp only[hs]at e;cases e
 | _=>cases e
theorem E8{env:Env}(h:NO r=true):∀ whole,isTrue r env whole=(do let v <- whole;standAt r.pos;holding [v] (truthy v)):=by
 intro whole;cases r<;>first | rfl | (cases h;done) | (rename_i o _ _;cases o<;>first | rfl | cases h)
theorem Q3{K:Vy}(m:Mono w):∀ σ H Q,liftT K (TL w) σ H Q->lift K w σ H fun x H'=>∃ k,Oz K x H' k/\Q k H':=by
 rintro σ H Q ⟨as,ρ,S,ok,en,h⟩;exact⟨as,ρ,S,ok,en,m _ _ _ _ (fun x S' ⟨b,e,q⟩ as' H' v g ok' r=>⟨b,TX ok' r e,q as' H' g ok'⟩) h⟩
theorem Cp{K:Vy}(m:Mono w):∀ σ H Q,liftT K (wBl w) σ H Q->lift K w σ H fun x H'=>∃ k,x = .bl k/\Q k H':=by
 rintro σ H Q ⟨as,ρ,S,ok,en,h⟩;exact⟨as,ρ,S,ok,en,m _ _ _ _ (fun x S' ⟨b,e,q⟩ as' H' v g ok' r=>⟨b,by subst e;exact rl_bl.mp r,q as' H' g ok'⟩) h⟩
theorem Good.one(hp:PE X r (lift X.K w))(m:Mono w)(h:NO r=true):Good X r (tt1 w) where
 pe:=hp
 pt:=Bb _ (MA hp (E8 h)) (Q3 m)
 m:=m
 mt := .tru m
 pw:=fun op vs p e=>by rw[e]at h;cases h
theorem NV{X:Cx}{r:Expr}:PE X r (lift X.K fun _ _ _=>False):=fun _ _ _ _ _ _ h=>let ⟨_,_,_,_,_,z⟩:=h;z.elim
theorem GU{X:Cx}{r:Expr}:PT X r (liftT X.K fun _ _ _=>False):=fun _ _ _ _ _ _ h=>let ⟨_,_,_,_,_,z⟩:=h;z.elim
theorem NW{X:Cx}{r:Expr}:PW X r (liftT X.K fun _ _ _=>False):=fun _ _ _ _ _ _ _ h=>let ⟨_,_,_,_,_,z⟩:=h;z.elim
theorem Good.never:Good X r (fun _ _ _=>False,fun _ _ _=>False):=⟨NV,GU,fun _ _ _ _ _ h=>h,fun _ _ _ _ _ h=>h,fun _ _ _ _=>NW⟩
end
theorem JY{o:Operator}:Mono2 (sOp o):=by
 unfold sOp;split<;>first | exact .add | exact .int0 | exact .mul | exact .int | exact fun _ _ _ _ _ _ h=>h
theorem AN{o:CmpOp}:Mono2 (BH o):=by
 unfold BH;split<;>first | exact .eq | exact .ne | exact .int0 | exact .in' | exact .isN
section
variable{X:Cx}
theorem NX{o:Operator}{ra rb:Expr}{p:Pos}{wa wb:WE}(ha:PE X ra (lift X.K wa))(hb:PE X rb (lift X.K wb))(ma:Mono wa)(mb:Mono wb):PE X (.BinOp ra o rb p) (lift X.K (w2 (sOp o) wa wb)):=by
 have go:∀{s:S2} {rr:R2},Mono2 s->OpR X (binaryOp o) rr->BG X.K s rr->PE X (.BinOp ra o rb p) (lift X.K (w2 s wa wb)):=fun ms ho sim=>f8 _ (UH ho ha hb) (w6 sim ms ma mb);have no:PE X (.BinOp ra o rb p) (lift X.K (w2 (fun _ _ _ _=>False) wa wb)):=go (fun _ _ _ _ _ _ h=>h) (rr:=fun _ _ _ _=>False) (fun _ _ _ _ _ _ _ _ _ _ _ _ h=>h.elim) (fun _ _ _ _ _ _ _ _ _ _ _ h=>h);cases o with
 | Add=>exact go .add Pk Pl
 | Sub=>exact go .int0 SJ (Bc fun _ _ _ _=>rl_int.mpr rfl)
 | Mult=>exact go .mul (op_mul.or Sa) Pm
 | FloorDiv=>exact go .int Oy (FE fun _ _ _ _=>rl_int.mpr rfl)
 | Mod=>exact go .int SK (FE fun _ _ _ _=>rl_int.mpr rfl)
 | Pow=>exact go .int SL (FE fun _ _ _ _=>rl_int.mpr rfl)
 | _=>exact no
theorem Dd(o:CmpOp)(hu:X.A.units<cLine):∃ rr:R2,OpR X (compareOp o) rr/\BG X.K (BH o) rr:=by
 cases o with
 | Eq=>exact⟨_,op_eq.or (Se hu),TB⟩
 | NotEq=>exact⟨_,op_ne.or (Sf hu),TC⟩
 | Lt=>exact⟨_,UL,Bc fun _ _ _ _=>rl_bl.mpr rfl⟩
 | LtE=>exact⟨_,UM,Bc fun _ _ _ _=>rl_bl.mpr rfl⟩
 | Gt=>exact⟨_,UN,Bc fun _ _ _ _=>rl_bl.mpr rfl⟩
 | GtE=>exact⟨_,UO,Bc fun _ _ _ _=>rl_bl.mpr rfl⟩
 | Is=>exact⟨_,SN,Po⟩
 | IsNot=>exact⟨_,op_notN.or Kd,N3⟩
 | In=>exact⟨_,TF,N1⟩
 | NotIn=>exact⟨_,Kj,N1⟩
theorem w4{o:CmpOp}{r:Expr}(h:n8 r=true):behindInMarks o r=false:=by
 cases r<;>first | rfl | cases h
theorem Kv{o:CmpOp}{ra rb:Expr}{p:Pos}{wa wb:WE}(hu:X.A.units<cLine)(ha:PE X ra (lift X.K wa))(hb:PE X rb (lift X.K wb))(ma:Mono wa)(mb:Mono wb)(hn:n8 rb=true):Good X (.Compare ra [o] [rb] p) (tt2 (w2 (BH o) wa wb)):=by
 obtain⟨rr,ho,sim⟩:=Dd (X:=X) o hu;have m:Mono (w2 (BH o) wa wb) := .two AN ma mb
 exact{pe:=f8 _ (Ev ho ha hb (w4 hn)) (w6 sim AN ma mb)
       pt:=Bb _ (Ey ho ha hb (w4 hn)) fun σ H Q h=>w6 sim AN ma mb σ H _ (Cp m σ H Q h)
       m:=m
       mt := .bl m
       pw:=fun _ _ _ e=>by cases e}
theorem GV{o p:CmpOp}{a b c:WE}(ma:Mono a)(mb:Mono b)(mc:Mono c):Mono (NH (BH o) (BH p) a b c):=fun ρ S P P' i h=>ma _ _ _ _ (fun x S1 h=>mb _ _ _ _ (fun y S2 h=>AN _ _ _ _ _ (fun z S3 ⟨k,e,q⟩=>⟨k,e,by
 cases k with
 | true=>rw[if_pos rfl]at q ⊢;exact mc _ _ _ _ (fun u S4 h=>AN _ _ _ _ _ i h) q
 | false=>rw[if_neg WF]at q ⊢;exact i _ _ q⟩) h) h) h
theorem JZ{K:Vy}{o p:CmpOp}{r r':R2}{a b c:WE}(s1:BG K (BH o) r)(s2:BG K (BH p) r')(ma:Mono a)(mb:Mono b)(mc:Mono c):∀ σ H Q,lift K (NH (BH o) (BH p) a b c) σ H Q->Hi r r' (lift K a) (lift K b) (lift K c) σ H Q:=by
 rintro σ H Q ⟨as,ρ,S,ok,en,h⟩;refine⟨as,ρ,S,ok,en,ma _ _ _ _ (fun x S1 h as1 H1 v g1 ok1 rv=>?_) h⟩;refine⟨as1,ρ,S1,ok1,en.mono g1.pre (g1.ku ok),mb _ _ _ _ (fun y S2 h as2 H2 u g2 ok2 ru=>?_) h⟩;refine s1 as2 H2 S2 x y v u _ ok2 (Rl.mono g2.pre (g2.ku ok1) x v rv) ru (AN _ _ _ _ _ (fun z S3 ⟨k,e,q⟩ as3 H3 t g3 ok3 rt=>?_) h);subst e;refine⟨k,rl_bl.mp rt,?_⟩;cases k with
 | true=>
   rw[if_pos rfl]at q ⊢;refine⟨as3,ρ,S3,ok3,(en.mono g1.pre (g1.ku ok)).mono (g2.trans g3).pre ((g2.trans g3).ku ok1),mc _ _ _ _ (fun n S4 h as4 H4 m g4 ok4 rm=>?_) q⟩;exact s2 as4 H4 S4 y n u m Q ok4 (Rl.mono (g3.trans g4).pre ((g3.trans g4).ku ok2) y u ru) rm (AN _ _ _ _ _ (fun f S5 hf=>hf.mono (((g1.trans g2).trans g3).trans g4)) h)
 | false=>
   rw[if_neg WF]at q ⊢;exact q as3 H3 _ ((g1.trans g2).trans g3) ok3 (rl_bl.mpr rfl)
theorem Kw{o q:CmpOp}{ra rb rc:Expr}{p:Pos}{wa wb wc:WE}(hu:X.A.units<cLine)(ha:PE X ra (lift X.K wa))(hb:PE X rb (lift X.K wb))(hc:PE X rc (lift X.K wc))(ma:Mono wa)(mb:Mono wb)(mc:Mono wc)(hn:n8 rc=true):Good X (.Compare ra [o,q] [rb,rc] p) (tt2 (NH (BH o) (BH q) wa wb wc)):=by
 obtain⟨r1,ho,sim⟩:=Dd (X:=X) o hu;obtain⟨r2,hq,sim2⟩:=Dd (X:=X) q hu;have m:Mono (NH (BH o) (BH q) wa wb wc):=GV ma mb mc;have hm:lastMarks [o,q] [rb,rc]=false:=w4 hn
 exact{pe:=f8 _ (M8 ho hq ha hb hc hm) (JZ sim sim2 ma mb mc)
       pt:=Bb _ (M9 ho hq ha hb hc hm) fun σ H Q h=>JZ sim sim2 ma mb mc σ H _ (Cp m σ H Q h)
       m:=m
       mt := .bl m
       pw:=fun _ _ _ e=>by cases e}
end
open PySem L2
section
variable{K:Vy}
theorem j0{c:Bool}{A B A' B':Prop}(ha:A->A')(hb:B->B')(h:if c=true then A else B):if c=true then A' else B':=by
 cases c with
 | true=>rw[if_pos rfl]at h ⊢;exact ha h
 | false=>rw[if_neg WF]at h ⊢;exact hb h
theorem Mono.and{a b:WE}(ma:Mono a)(mb:Mono b):Mono (NG a b):=fun ρ S P P' i h=>ma _ _ _ _ (fun x S1 ⟨c,e,q⟩=>⟨c,e,j0 (mb _ _ _ _ i) (i _ _) q⟩) h
theorem Mono.or{a b:WE}(ma:Mono a)(mb:Mono b):Mono (wOr a b):=fun ρ S P P' i h=>ma _ _ _ _ (fun x S1 ⟨c,e,q⟩=>⟨c,e,j0 (i _ _) (mb _ _ _ _ i) q⟩) h
theorem Mono.not{a:WE}(ma:Mono a):Mono (Pw a):=fun ρ S P P' i h=>ma _ _ _ _ (fun x S1 ⟨c,e,q⟩=>⟨c,e,i _ _ q⟩) h
theorem MonoT.and{a b:WT}(ma:MonoT a)(mb:MonoT b):MonoT (Da a b):=fun ρ S P P' i h=>ma _ _ _ _ (fun x S1 q=>j0 (mb _ _ _ _ i) (i _ _) q) h
theorem MonoT.or{a b:WT}(ma:MonoT a)(mb:MonoT b):MonoT (ID a b):=fun ρ S P P' i h=>ma _ _ _ _ (fun x S1 q=>j0 (i _ _) (mb _ _ _ _ i) q) h
theorem MonoT.not{a:WT}(ma:MonoT a):MonoT (JT a):=fun ρ S P P' i h=>ma _ _ _ _ (fun x S1 q=>i _ _ q) h
theorem Mono.ifE{t:WT}{a b:WE}(mt:MonoT t)(ma:Mono a)(mb:Mono b):Mono (Px t a b):=fun ρ S P P' i h=>mt _ _ _ _ (fun x S1 q=>j0 (ma _ _ _ _ i) (mb _ _ _ _ i) q) h
theorem Post.at{as as1:List Addr}{H H1:Hp}{Q:VK}{x:SV}{S:Sto}{v:V}(h:Post K as H Q x S)(g:Go as H as1 H1)(ok:Ok K as1 H1 S)(r:Rl K as1 H1 v x):Q v H1:=h as1 H1 v g ok r
theorem Ja{a b:WE}(ma:Mono a)(mb:Mono b):∀ σ H Q,lift K (NG a b) σ H Q->Qv (lift K a) (lift K b) σ H Q:=by
 rintro σ H Q ⟨as,ρ,S,ok,en,h⟩;refine⟨as,ρ,S,ok,en,ma _ _ _ _ (fun x S1 ⟨c,e,q⟩ as1 H1 v g1 ok1 rv=>?_) h⟩;subst e;refine⟨c,rl_bl.mp rv,j0 (fun q=>?_) (fun q=>q.at g1 ok1 (rl_bl.mpr rfl)) q⟩;exact⟨as1,ρ,S1,ok1,en.mono g1.pre (g1.ku ok),mb _ _ _ _ (fun y S2 h=>h.mono g1) q⟩
theorem NY{a b:WE}(ma:Mono a)(mb:Mono b):∀ σ H Q,lift K (wOr a b) σ H Q->U6 (lift K a) (lift K b) σ H Q:=by
 rintro σ H Q ⟨as,ρ,S,ok,en,h⟩;refine⟨as,ρ,S,ok,en,ma _ _ _ _ (fun x S1 ⟨c,e,q⟩ as1 H1 v g1 ok1 rv=>?_) h⟩;subst e;refine⟨c,rl_bl.mp rv,j0 (fun q=>q.at g1 ok1 (rl_bl.mpr rfl)) (fun q=>?_) q⟩;exact⟨as1,ρ,S1,ok1,en.mono g1.pre (g1.ku ok),mb _ _ _ _ (fun y S2 h=>h.mono g1) q⟩
theorem Q4{a:WE}(ma:Mono a):∀ σ H Q,lift K (Pw a) σ H Q->Qw (lift K a) σ H Q:=by
 rintro σ H Q ⟨as,ρ,S,ok,en,h⟩;refine⟨as,ρ,S,ok,en,ma _ _ _ _ (fun x S1 ⟨c,e,q⟩ as1 H1 v g1 ok1 rv=>?_) h⟩;subst e;exact⟨c,rl_bl.mp rv,q.at g1 ok1 (rl_bl.mpr rfl)⟩
theorem PostT.mono{as as1:List Addr}{H H1:Hp}{Q:Bool->Hp->Prop}{x:Bool}{S:Sto}(h:PostT K as H Q x S)(g:Go as H as1 H1):PostT K as1 H1 Q x S:=fun as' H' g'=>h as' H' (g.trans g')
theorem GW{a b:WT}(ma:MonoT a)(mb:MonoT b):∀ σ H Q,liftT K (Da a b) σ H Q->U4 (liftT K a) (liftT K b) σ H Q:=by
 rintro σ H Q ⟨as,ρ,S,ok,en,h⟩;refine⟨as,ρ,S,ok,en,ma _ _ _ _ (fun c S1 q as1 H1 g1 ok1=>?_) h⟩;refine j0 (fun q=>?_) (fun q=>q as1 H1 g1 ok1) q;exact⟨as1,ρ,S1,ok1,en.mono g1.pre (g1.ku ok),mb _ _ _ _ (fun y S2 h=>h.mono g1) q⟩
theorem Jb{a b:WT}(ma:MonoT a)(mb:MonoT b):∀ σ H Q,liftT K (ID a b) σ H Q->tOr (liftT K a) (liftT K b) σ H Q:=by
 rintro σ H Q ⟨as,ρ,S,ok,en,h⟩;refine⟨as,ρ,S,ok,en,ma _ _ _ _ (fun c S1 q as1 H1 g1 ok1=>?_) h⟩;refine j0 (fun q=>q as1 H1 g1 ok1) (fun q=>?_) q;exact⟨as1,ρ,S1,ok1,en.mono g1.pre (g1.ku ok),mb _ _ _ _ (fun y S2 h=>h.mono g1) q⟩
theorem NZ{a:WT}(ma:MonoT a):∀ σ H Q,liftT K (JT a) σ H Q->U5 (liftT K a) σ H Q:=by
 rintro σ H Q ⟨as,ρ,S,ok,en,h⟩;exact⟨as,ρ,S,ok,en,ma _ _ _ _ (fun c S1 q as1 H1 g1 ok1=>q as1 H1 g1 ok1) h⟩
theorem Q5{t:WT}{a b:WE}(mt:MonoT t)(ma:Mono a)(mb:Mono b):∀ σ H Q,lift K (Px t a b) σ H Q->tIf (liftT K t) (lift K a) (lift K b) σ H Q:=by
 rintro σ H Q ⟨as,ρ,S,ok,en,h⟩;refine⟨as,ρ,S,ok,en,mt _ _ _ _ (fun c S1 q as1 H1 g1 ok1=>?_) h⟩;refine j0 (fun q=>?_) (fun q=>?_) q
 ·exact⟨as1,ρ,S1,ok1,en.mono g1.pre (g1.ku ok),ma _ _ _ _ (fun y S2 h=>h.mono g1) q⟩
 ·exact⟨as1,ρ,S1,ok1,en.mono g1.pre (g1.ku ok),mb _ _ _ _ (fun y S2 h=>h.mono g1) q⟩
end
section
variable{X:Cx}
theorem FO{e:Expr}{t:TT}(t':TT)(h:PW X e t)(imp:∀ σ H Q,t' σ H Q->t σ H Q):PW X e t':=fun wh pins s σ H Q I hw=>h wh pins s σ H Q I (imp σ H Q hw)
theorem IL{x y:Expr}{p:Pos}{a b:WE×WT}(ha:Good X x a)(hb:Good X y b):Good X (.BoolOp .And [x,y] p) (NG a.1 b.1,Da a.2 b.2):=
 have pw:PW X (.BoolOp .And [x,y] p) (liftT X.K (Da a.2 b.2)):=FO _ (Ln ha.pt (Op hb.pt)) (GW ha.mt hb.mt)
 {pe:=f8 _ (Lp ha.pe (Lo hb.pe)) (Ja ha.m hb.m),pt:=pw.pt,m := .and ha.m hb.m,mt := .and ha.mt hb.mt,pw:=fun _ _ _ _=>pw}
theorem IM{x y z:Expr}{zs:List Expr}{p:Pos}{a b:WE×WT}(ha:Good X x a)(hb:Good X (.BoolOp .And (y::z::zs) p) b):Good X (.BoolOp .And (x::y::z::zs) p) (NG a.1 b.1,Da a.2 b.2):=
 have pw:PW X (.BoolOp .And (x::y::z::zs) p) (liftT X.K (Da a.2 b.2)):=FO _ (Ln ha.pt (hb.pw _ _ _ rfl)) (GW ha.mt hb.mt)
 {pe:=f8 _ (Lp ha.pe hb.pe) (Ja ha.m hb.m),pt:=pw.pt,m := .and ha.m hb.m,mt := .and ha.mt hb.mt,pw:=fun _ _ _ _=>pw}
theorem Kx{x y:Expr}{p:Pos}{a b:WE×WT}(ha:Good X x a)(hb:Good X y b):Good X (.BoolOp .Or [x,y] p) (wOr a.1 b.1,ID a.2 b.2):=
 have pw:PW X (.BoolOp .Or [x,y] p) (liftT X.K (ID a.2 b.2)):=FO _ (Qu ha.pt (Ry hb.pt)) (Jb ha.mt hb.mt)
 {pe:=f8 _ (Qx ha.pe (Lo hb.pe)) (NY ha.m hb.m),pt:=pw.pt,m := .or ha.m hb.m,mt := .or ha.mt hb.mt,pw:=fun _ _ _ _=>pw}
theorem Ky{x y z:Expr}{zs:List Expr}{p:Pos}{a b:WE×WT}(ha:Good X x a)(hb:Good X (.BoolOp .Or (y::z::zs) p) b):Good X (.BoolOp .Or (x::y::z::zs) p) (wOr a.1 b.1,ID a.2 b.2):=
 have pw:PW X (.BoolOp .Or (x::y::z::zs) p) (liftT X.K (ID a.2 b.2)):=FO _ (Qu ha.pt (hb.pw _ _ _ rfl)) (Jb ha.mt hb.mt)
 {pe:=f8 _ (Qx ha.pe hb.pe) (NY ha.m hb.m),pt:=pw.pt,m := .or ha.m hb.m,mt := .or ha.mt hb.mt,pw:=fun _ _ _ _=>pw}
theorem Kz{x:Expr}{p:Pos}{a:WE×WT}(ha:Good X x a):Good X (.UnaryOp .Not x p) (Pw a.1,JT a.2) where
 pe:=f8 _ (S9 ha.pe) (Q4 ha.m)
 pt:=Bb _ (Rz ha.pt) (NZ ha.mt)
 m := .not ha.m
 mt := .not ha.mt
 pw:=fun _ _ _ e=>by cases e
theorem L0{t x y:Expr}{p:Pos}{c a b:WE×WT}(hc:Good X t c)(ha:Good X x a)(hb:Good X y b):Good X (.IfExp t x y p) (Px c.2 a.1 b.1,fun _ _ _=>False) where
 pe:=f8 _ (Lq hc.pt ha.pe hb.pe) (Q5 hc.mt ha.m hb.m)
 pt:=GU
 m := .ifE hc.mt ha.m hb.m
 mt:=fun _ _ _ _ _ h=>h
 pw:=fun _ _ _ e=>by cases e
theorem TY{i:Nat}{x:Str}{p:Pos}{N:List Str}{sc:Scope}{T:List Str}{Δ:Nat->Sn}{k:Nat}(C:Cok T Δ X k N sc)(hi:N[i]?=some x)(hv:vis sc x=true)(h1:(x == ("__debug__":Str))=false)(h2:(x == ("__classdict__":Str))=false):PE X (.Name x p) (Ol i):=by
 have hv':Vis X.env.scope x:=by
  rw[C.hs];unfold vis at hv;simp only[XC,beq_iff_eq]at hv;rcases hv with(hv | hv) | hv
  ·exact .inl hv
  ·exact .inr (.inl hv)
  ·exact .inr (.inr hv)
 exact Rt (i:=i) (by rw[C.hN];exact hi) hv' h1 h2
theorem Q6{x:SV}{k:Const}{j:Nat}{p:Pos}(h:TR x k=true):Good X (.Constant k j p) (tt1 (wC x)):=by
 refine .one ?_ .c rfl;unfold TR at h;split at h
 ·exact f8 _ Rv (GH fun _ _=>rl_non.mpr rfl)
 ·rw[beq_iff_eq]at h;subst h;exact f8 _ U3 (GH fun _ _=>rl_bl.mpr rfl)
 ·have h:=of_decide_eq_true h;subst h;exact f8 _ Lk (GH fun _ _=>rl_int.mpr rfl)
 ·have h:=of_decide_eq_true h;subst h;exact f8 _ Rx (GH fun _ _=>rl_str.mpr rfl)
 ·cases h
theorem De:EU NE:=fun x S P P' i h=>by
 unfold NE at h ⊢;split at h
 ·exact i _ _ h
 ·exact h.elim
theorem L3{x:Expr}{p:Pos}{a:WE×WT}(ha:Good X x a):Good X (.UnaryOp .USub x p) (tt1 (w1 NE a.1)):=by
 refine .one (f8 _ (Qz M6 ha.pe) (Sw (fun as H S x v Q ok r h=>?_) De ha.m)) (.one De ha.m) rfl;unfold NE at h;split at h
 ·exact⟨_,rl_int.mp r,h.here ok (rl_int.mpr rfl)⟩
 ·exact h.elim
theorem Dh{b:Expr}(h:y9 b=true):J9 b:=fun o i=>by cases b<;>first | rfl | cases h
theorem Na{x y:Expr}{p:Pos}{a b:WE×WT}(ha:Good X x a)(hb:Good X y b)(h:y9 y=true):Good X (.Subscript x y p) (tt1 (w2 sIx a.1 b.1)):=
 .one (f8 _ (UV (ix_list.or SX) ha.pe hb.pe (Dh h)) (w6 TH .ix ha.m hb.m)) (.two .ix ha.m hb.m) rfl
noncomputable def VH(K:Vy)(as:List Addr)(H:Hp)(Q:Option Int->Hp->Prop):Option Int->Sto->Prop:=fun b S'=>∀ as' H',Go as H as' H'->Ok K as' H' S'->Q b H'
noncomputable def GX(K:Vy)(w:WO):St->Hp->(Option Int->Hp->Prop)->Prop:=fun σ H Q=>∃ as ρ S,Ok K as H S/\EnvOk K as H σ ρ/\w ρ S (VH K as H Q)
noncomputable def MonoO(w:WO):Prop:=∀ ρ S (P P':Option Int->Sto->Prop),(∀ x S',P x S'->P' x S')->w ρ S P->w ρ S P'
theorem MonoO.no:MonoO TM:=fun _ _ _ _ i h=>i _ _ h
theorem MonoO.yes{w:WE}(m:Mono w):MonoO (NI w):=fun _ _ _ _ i h=>m _ _ _ _ (fun x S1 ⟨k,e,q⟩=>⟨k,e,i _ _ q⟩) h
theorem VI:PO X none (GX X.K TM):=fun pins s σ H Q I ⟨as,ρ,S,ok,en,h⟩=>P5 pins s σ H Q I (h as H (Go.refl _ _) ok)
theorem TZ{x:Expr}{a:WE×WT}(ha:Good X x a):PO X (some x) (GX X.K (NI a.1)):=fun pins s σ H Q I ⟨as,ρ,S,ok,en,h⟩=>
 J6 ha.pe pins s σ H Q I ⟨as,ρ,S,ok,en,ha.m _ _ _ _ (fun y S1 ⟨k,e,q⟩ as1 H1 v g1 ok1 rv=>⟨k,by subst e;exact rl_int.mp rv,q as1 H1 g1 ok1⟩) h⟩
theorem RlAll.cut{K:Vy}{as:List Addr}{H:Hp}{xs:List SV}{vs:List V}(h:RlAll K as H vs xs)(lo hi:Option Int):RlAll K as H (Fx vs lo hi) (FJ xs lo hi):=by
 unfold Fx FJ;rw[h.length];exact(h.drop _).take _
theorem Di{x:SV}{lo hi:Option Int}{S:Sto}{P P':QE}(i:∀ x S',P x S'->P' x S')(h:NJ x lo hi S P):NJ x lo hi S P':=by
 unfold NJ at h ⊢;split at h
 ·obtain⟨xs,a,b⟩:=h;exact⟨xs,a,i _ _ b⟩
 ·exact i _ _ h
 ·exact h.elim
theorem Q7{K:Vy}{as:List Addr}{H:Hp}{S:Sto}{Q:VK}{x:SV}{v:V}{l k:Option Int}(ok:Ok K as H S)(r:Rl K as H v x)(h:NJ x l k S (Post K as H Q)):UY K v l k H Q\/UU K v l k H Q\/Ur K v l k H Q:=by
 cases x with
 | loc j=>
   obtain⟨xs,h1,h2⟩:=h;obtain⟨b,vs,rfl,_,hb,rr⟩:=m9 ok r h1;exact .inl ⟨b,vs,rfl,SqL.of hb,y8 ok (rr.cut l k) h2⟩
 | tup xs=>
   obtain⟨b,vs,rfl,hb,rr⟩:=rl_tup.mp r;by_cases hw:HT.sIx vs.length 0 l=0/\HT.sIx vs.length vs.length k=vs.length
   ·refine .inr (.inr ⟨b,vs,rfl,SqT.of hb,hw,?_⟩)
    have e:FJ xs l k=xs:=by
     unfold FJ;rw[<-rr.length,hw.1,hw.2,rr.length];simp
    have h':Post K as H Q (.tup (FJ xs l k)) S:=h;rw[e]at h';exact h'.here ok r
   ·exact .inr (.inl ⟨b,vs,rfl,SqT.of hb,hw,CM ok (rr.cut l k) h⟩)
 | _=>exact False.elim h
theorem L4{x:Expr}{rl rh:Option Expr}{p p2:Pos}{a:WE×WT}{lo hi:WO}(ha:Good X x a)(hl:PO X rl (GX X.K lo))(hh:PO X rh (GX X.K hi))(ml:MonoO lo)(mh:MonoO hi):Good X (.Subscript x (.Slice rl rh none p2) p) (tt1 (TN a.1 lo hi)):=by
 refine .one (f8 _ (ME (sl_list.or (sl_tup.or PZ)) ha.pe hl hh) ?_) (fun ρ S P P' i h=>ha.m _ _ _ _ (fun x S1 h=>ml _ _ _ _ (fun l S2 h=>mh _ _ _ _ (fun k S3 h=>Di i h) h) h) h) rfl;rintro σ H Q ⟨as,ρ,S,ok,en,h⟩;refine⟨as,ρ,S,ok,en,ha.m _ _ _ _ (fun x S1 h as1 H1 v g1 ok1 rv=>?_) h⟩;refine⟨as1,ρ,S1,ok1,en.mono g1.pre (g1.ku ok),ml _ _ _ _ (fun l S2 h as2 H2 g2 ok2=>?_) h⟩;refine⟨as2,ρ,S2,ok2,(en.mono g1.pre (g1.ku ok)).mono g2.pre (g2.ku ok1),mh _ _ _ _ (fun k S3 h as3 H3 g3 ok3=>?_) h⟩;have rv3:=Rl.mono (g2.trans g3).pre ((g2.trans g3).ku ok1) x v rv;have g:=(g1.trans g2).trans g3;exact Q7 ok3 rv3 (Di (fun _ _ h=>h.mono g) h)
end
end Rf
namespace L2
open PySem PySem.Spec PyProof.Rows
section
variable{prog:Program}{w:World}{A:Around}{R:Result->Shared->Prop}{I:Addr}{fp wr:List Addr}{G:Array GenState->Array GenState->Prop}{n:Nat}{P:Nat->Value->Prop}{St:Nat->Shared->Prop}
noncomputable def TupsAt(prog:Program)(w:World)(h:Heap)(n:Nat)(ta:Nat->Addr)(kv:Nat->Key×Value):Prop:=∀ i,i<n->∃ key,(j4 prog w).is (kv i).1 key=true/\h.IsTuple (ta i) #[key,(kv i).2]
theorem TupsAt.keep{h h':Heap}{ta:Nat->Addr}{kv:Nat->Key×Value}(t:TupsAt prog w h n ta kv)(k:∀ i o,i<n->h.get? (ta i)=some o->h'.get? (ta i)=some o):TupsAt prog w h' n ta kv:=fun i hi=>by
 obtain⟨key,hk,o,ho,r⟩:=t i hi;exact⟨key,hk,o,k i o hi ho,r⟩
end
open PySem PySem.Spec PyProof.Rows
section
variable{X:Cx}
noncomputable def LiI(H:Hp)(ts:List Addr)(xss:List (List Int)):Prop:=ts.length=xss.length/\∀(i:Nat) t xs,ts[i]?=some t->xss[i]?=some xs->H t=some (.lst (xs.map V.int))
theorem Q8{A:Around}{pins:List (Addr×Obj)}{σ:St}{H:Hp}{s:Shared}(I:Inv X pins σ H s){p q:Addr}{xs:List Int}(hu:A.units<cLine)(hp:H p=some (.lst (xs.map V.int)))(hq:H q=some (.lst (xs.map V.int))):SeqAt.EqAt A s (.ref p) (.ref q) true:=by
 by_cases hne:p=q
 ·rw[hne];exact SeqAt.EqAt.same _
 ·obtain⟨i1,q1,l1,_⟩:=I.list (SqL.of hp);obtain⟨i2,q2,l2,_⟩:=I.list (SqL.of hq);have n1:=q1.length;have n2:=q2.length;have fl:(xs.map V.int).all A7=true:=by rw[ZK,Wa];intro _ _;rfl
  refine SeqAt.EqAt.of_refs hne ?_;have:=SeqAt.RcAt.lists (A:=A) (s:=s) (e:=fun k=>eqV ((xs.map V.int).getD k .non) ((xs.map V.int).getD k .non)) l1.isList l2.isList (by simp;omega) hu (CA q1 q2 (.inl ⟨fl,fl⟩))
  have e2:((WP i1.toArray.size).all fun k=>eqV ((xs.map V.int).getD k .non) ((xs.map V.int).getD k .non))=true:=by
   rw[Wa];intro k hk;have hk':k<(xs.map V.int).length:=by have:=X5.mp hk;simp at this;omega
   have hk2:k<xs.length:=by rwa [W2]at hk'
   have g:(xs.map V.int).getD k .non=V.int xs[k]:=by simp[Xr,hk2]
   rw[g];simp[eqV]
  rw[e2]at this;exact this
theorem Jc(hu:X.A.units+1<cLine):OpR X (compareOp .NotEq) (fun x y H Q=>∃(a b:Addr) (ts us:List Addr) (xss:List (List Int)),x = .ref a/\y = .ref b/\SqL X.K H a (ts.map V.ref)/\SqL X.K H b (us.map V.ref)/\LiI H ts xss/\LiI H us xss/\Q (.bl false) H):=by
 intro pins s σ H x y v u Q I rx ry h;obtain⟨a,b,ts,us,f,rfl,rfl,h1,h2,⟨l1,f1⟩,⟨l2,f2⟩,q⟩:=h;cases rx;cases ry;obtain⟨its1,r1,p1,_⟩:=I.list h1;obtain⟨its2,r2,p2,_⟩:=I.list h2;have m1:=r1.length;have m2:=r2.length;rw[W2]at m1 m2;refine(SeqAt.RcNeAt.lists (e:=fun _=>true) p1.isList p2.isList (by simp;omega) (by omega) (fun j h1 h2=>?_)) _ _ _ _ ?_
 ·simp only[W7]at h1 h2;have g1:(ts.map V.ref)[j]?=some (V.ref (ts[j]'(by omega))):=by simp
  have g2:(us.map V.ref)[j]?=some (V.ref (us[j]'(by omega))):=by simp
  obtain⟨u,hu1,ru⟩:=r1.get g1;obtain⟨u',hu1',ru'⟩:=r2.get g2;cases ru;cases ru';have z1:its1.toArray[j] = .ref (ts[j]'(by omega)):=by obtain⟨_,q⟩:=gM hu1;simpa using q
  have z2:its2.toArray[j] = .ref (us[j]'(by omega)):=by obtain⟨_,q⟩:=gM hu1';simpa using q
  rw[z1,z2];exact Q8 I (by show X.A.units+1<cLine;exact hu) (f1 j _ (f[j]'(by omega)) (by simp) (by simp)) (f2 j _ (f[j]'(by omega)) (by simp) (by simp))
 ·refine⟨.bl _,H,I,rfl,?_⟩;have:((WP its1.toArray.size).all fun _=>true)=true:=by simp
  rw[this];exact q
end
end L2
namespace Rf
open PySem L2
structure GoodA(X:Cx)(rs:List Expr)(w:WA):Prop where
 pa:PA X rs (liftA X.K w)
 m:MonoA w
section
variable{X:Cx}
theorem L5:GoodA X [] EV:=⟨Pd,.nil⟩
theorem IN{x:Expr}{xs:List Expr}{a:WE×WT}{b:WA}(ha:Good X x a)(hb:GoodA X xs b)(hs:e7 x=true):GoodA X (x::xs) (DY a.1 b):=⟨Mu ha.m hb.m ha.pe hb.pa (j9 hs),.cons ha.m hb.m⟩
theorem L6{rs:List Expr}{j:Nat}{p:Pos}{w:WA}(h:GoodA X rs w):Good X (.Tuple rs j p) (tt1 (wn Pf w)) := .one (f8 _ (SR h.pa) (Ph h.m)) (.n .tup h.m) rfl
theorem L7{rs:List Expr}{p:Pos}{w:WA}(h:GoodA X rs w):Good X (.List rs p) (tt1 (wn Pg w)) := .one (f8 _ (SS h.pa) (Pi h.m)) (.n .lst h.m) rfl
theorem Nb{K:Vy}{s:Sn}{w:WA}(ms:MonoN s)(m:MonoA w):∀ σ H Q,lift K (wn s w) σ H Q->R6 (spS K s) [] E0 (liftA K w) σ H Q:=by
 rintro σ H Q ⟨as,ρ,S,ok,en,h⟩;refine⟨as,ρ,S,ok,en,m _ _ _ _ (fun xs S1 hs as1 H1 vs g1 ok1 rv=>?_) h⟩;show spS K s (vs++[]) H1 Q E0;rw[XF];exact⟨as1,S1,xs,ok1,rv,ms _ _ _ _ (fun z S3 hz=>hz.mono g1) hs⟩
theorem IO{T:List Str}{Δ:Nat->Sn}{k f:Nat}{N:List Str}{sc:Scope}{x:Str}{y:Expr}{ys:List Expr}{p q:Pos}{w:WA}(C:Cok T Δ X k N sc)(hf:T[f]?=some x)(hg:glo sc x=true)(h:GoodA X (y::ys) w)(hy:e7 y=true)(hs:ys.all e7=true):Good X (.Call (.Name x p) (y::ys) [] q) (tt1 (wn (Δ f) w)):=by
 obtain⟨d,ps,hC,hr⟩:=C.call f x hf;obtain⟨fa,fd,F,hm,hk,hb⟩:=hC.ex;unfold glo at hg;simp only[Vz,beq_iff_eq,Wi]at hg;have gl:Gl X x:=by show X.env.scope.names.lookup x=_;rw[C.hs];exact hg.1.1
 exact .one (f8 _ (P2 F hr gl hm hk hb .nil Uc h.pa hg.2 (j9 hy) (CS hs)) (Nb (C.mono f) h.m)) (.n (C.mono f) h.m) rfl
theorem VJ:bootBuiltins "abs"=some (.builtin "abs"):=by decide +kernel
theorem VL:bootBuiltins "min"=some (.builtin "min"):=by decide +kernel
theorem Nc:bootBuiltins "max"=some (.builtin "max"):=by decide +kernel
theorem VM:bootBuiltins "len"=some (.builtin "len"):=by decide +kernel
theorem VN:bootBuiltins "all"=some (.builtin "all"):=by decide +kernel
theorem RU:bootBuiltins "int"=some (.type "int"):=by decide +kernel
theorem IP:bootBuiltins "list"=some (.type "list"):=by decide +kernel
theorem VO:bootBuiltins "isinstance"=some (.builtin "isinstance"):=by decide +kernel
theorem RV:bootBuiltins "str"=some (.type "str"):=by decide +kernel
theorem Ta:bootBuiltins "bool"=some (.type "bool"):=by decide +kernel
theorem Q9:bootBuiltins "range"=some (.type "range"):=by decide +kernel
theorem b_set:bootBuiltins "set"=some (.type "set"):=by decide +kernel
theorem Jd:bootBuiltins "tuple"=some (.type "tuple"):=by decide +kernel
theorem Nd{T:List Str}{Δ:Nat->Sn}{k:Nat}{N:List Str}{sc:Scope}{b:BI}{y:Expr}{ys:List Expr}{p q:Pos}{w:WA}(C:Cok T Δ X k N sc)(hg:glo sc b.name=true)(h:GoodA X (y::ys) w)(hy:e7 y=true)(hs:ys.all e7=true):Good X (.Call (.Name b.name p) (y::ys) [] q) (tt1 (wn (sBi b) w)):=by
 unfold glo at hg;simp only[Vz,beq_iff_eq,Wi]at hg;have gl:Gl X b.name:=by show X.env.scope.names.lookup b.name=_;rw[C.hs];exact hg.1.1
 have hm:=C.bl b;have e1:=j9 (es:=ys) (env:=X.env) hy;have e2:=CS (env:=X.env) (pos:=q) hs;refine .one (f8 (t:=tCB (rBi X.K b) (liftA X.K w)) _ ?_ (V0 TK .bi h.m)) (.n .bi h.m) rfl;cases b with
 | len=>exact A6 F1 gl hm VM h.pa (by decide) hg.2 e1 e2
 | abs=>exact A6 MB gl hm VJ h.pa (by decide) hg.2 e1 e2
 | min=>exact A6 (KK C.calm) gl hm VL h.pa (by decide) hg.2 e1 e2
 | max=>exact A6 (KJ C.calm) gl hm Nc h.pa (by decide) hg.2 e1 e2
 | int=>exact AV KL gl hm RU h.pa (by decide) hg.2 e1 e2
 | list=>exact AV F2 gl hm IP h.pa (by decide) hg.2 e1 e2
 | tuple=>exact AV E4 gl hm Jd h.pa (by decide) hg.2 e1 e2
 | all=>exact A6 (KW C.calm) gl hm VN h.pa (by decide) hg.2 e1 e2
 | any=>exact A6 (fun _ _ _ _ _ _ _ _ _ h=>False.elim h) gl hm Ux h.pa (by decide) hg.2 e1 e2
 | sorted=>exact A6 F7 gl hm MR h.pa (by decide) hg.2 e1 e2
 | isi=>exact A6 (call_isi1.or KU) gl hm VO h.pa (by decide) hg.2 e1 e2
 | str=>exact AV (fun _ _ _ _ _ _ _ _ _ h=>False.elim h) gl hm RV h.pa (by decide) hg.2 e1 e2
theorem Mono.mt{m:MT}{a:WE}{b:WA}(ma:Mono a)(mb:MonoA b):Mono (wMt m a b):=fun ρ S P P' i h=>ma _ _ _ _ (fun x S1 ⟨e,h⟩=>⟨e,mb _ _ _ _ (fun xs S2 h=>FF _ _ _ _ i h) h⟩) h
theorem v6{ro:Expr}{nm:Str}{env:Env}{wh:Sem Value}(h:DC ro=true):attributeBase ro nm env wh=wh:=by
 unfold attributeBase;split
 ·cases h
 ·rfl
theorem Nf{K:Vy}{as:List Addr}{H:Hp}{S:Sto}{k:Nat}{v:V}{xs:List SV}(ok:Ok K as H S)(r:Rl K as H v (.loc k))(hs:S[k]?=some (.lst xs)):tyV K "list" v H:=by
 obtain⟨a,vs,rfl,_,h1,_⟩:=m9 ok r hs;exact .inl ⟨rfl,_,SqL.of h1⟩
theorem Tb{K:Vy}{m:MT}{a:WE}{b:WA}(ma:Mono a)(mb:MonoA b):∀ σ H Q,lift K (wMt m a b) σ H Q->tBM K "list" (rMt m) (lift K a) (liftA K b) σ H Q:=by
 rintro σ H Q ⟨as,ρ,S,ok,en,h⟩;refine⟨as,ρ,S,ok,en,ma _ _ _ _ (fun x S1 ⟨⟨j,zs,e,hz⟩,h⟩ as1 H1 v g1 ok1 rv=>?_) h⟩;subst e;refine⟨Nf ok1 rv hz,as1,ρ,S1,ok1,en.mono g1.pre (g1.ku ok),mb _ _ _ _ (fun xs S2 h as2 H2 vs g2 ok2 rs=>?_) h⟩;exact N9 ok2 (Rl.mono g2.pre (g2.ku ok1) _ v rv) rs (FF _ _ _ _ (fun z S3 hz=>hz.mono (g1.trans g2)) h)
theorem QA{K:Vy}{m:MT}{a:WE}(ma:Mono a):∀ σ H Q,lift K (wMt m a EV) σ H Q->SY K "list" (rMt m) (lift K a) σ H Q:=by
 rintro σ H Q ⟨as,ρ,S,ok,en,h⟩;refine⟨as,ρ,S,ok,en,ma _ _ _ _ (fun x S1 ⟨⟨j,zs,e,hz⟩,h⟩ as1 H1 v g1 ok1 rv=>?_) h⟩;subst e;exact⟨Nf ok1 rv hz,N9 ok1 rv .nil (FF _ _ _ _ (fun z S3 hz=>hz.mono g1) h)⟩
theorem MtR.orM{id:String}{r r':V->List V->Hp->VK->Prop}(h:MtM X id r)(h':MtM X id r'):MtR X id (fun x xs H Q=>r x xs H Q\/r' x xs H Q):=fun pins s σ H x xs v us Q I rx rs q=>q.elim (h pins s σ H x xs v us Q I rx rs) (h' pins s σ H x xs v us Q I rx rs)
theorem Ng{m:MT}{ro y:Expr}{ys:List Expr}{ap cp:Pos}{a:WE×WT}{b:WA}(ha:Good X ro a)(hb:GoodA X (y::ys) b)(hn:DC ro=true)(hl:(ap.endLine == cp.line)=true)(hk:(y::ys).length<29)(hy:e7 y=true)(hs:ys.all e7=true):Good X (.Call (.Attribute ro m.name ap) (y::ys) [] cp) (tt1 (wMt m a.1 b)):=by
 have e1:=j9 (es:=ys) (env:=X.env) hy;have e2:=CS (env:=X.env) (pos:=cp) hs
 have e3:((backTo cp (starEach (y::ys) X.env)).all (fun x=>!x.1)&&(backToKw cp (keywordEach [] X.env)).all (fun x=>x.1.isSome)
  && decide ((y::ys).length+([]:List Keyword).length+(if ([]:List Keyword).isEmpty then 0 else 1)<30))=true:=by
  rw[EY (by rw[XS,hy,hs];rfl)];simp only[ZX,Vz,decide_eq_true_eq];exact⟨rfl,by show(y::ys).length+0+0<30;omega⟩
 refine .one (f8 (t:=tBM X.K "list" (rMt m) (lift X.K a.1) (liftA X.K b)) _ ?_ (Tb ha.m hb.m)) (.mt ha.m hb.m) rfl;cases m with
 | append=>exact EH PySem.F.plainAttrs_list PySem.F.slot_list_append PySem.F.type_list_append Cg ha.pe hb.pa (v6 hn) e3 hl e1 e2
 | extend=>exact EH PySem.F.plainAttrs_list PySem.F.slot_list_extend PySem.F.type_list_extend EK ha.pe hb.pa (v6 hn) e3 hl e1 e2
 | extT=>exact EH PySem.F.plainAttrs_list PySem.F.slot_list_extend PySem.F.type_list_extend JP ha.pe hb.pa (v6 hn) e3 hl e1 e2
 | pop=>exact EH PySem.F.plainAttrs_list PySem.F.slot_list_pop PySem.F.type_list_pop (MtR.orM MI Fz) ha.pe hb.pa (v6 hn) e3 hl e1 e2
 | insert=>exact EH PySem.F.plainAttrs_list PySem.F.slot_list_insert PySem.F.type_list_insert EN ha.pe hb.pa (v6 hn) e3 hl e1 e2
 | reverse=>exact EH PySem.F.plainAttrs_list PySem.F.slot_list_reverse PySem.F.type_list_reverse DQ ha.pe hb.pa (v6 hn) e3 hl e1 e2
theorem L8{m:MT}{ro:Expr}{ap cp:Pos}{a:WE×WT}(ha:Good X ro a)(hn:DC ro=true)(hl:(ap.endLine == cp.line)=true):Good X (.Call (.Attribute ro m.name ap) [] [] cp) (tt1 (wMt m a.1 EV)):=by
 refine .one (f8 (t:=SY X.K "list" (rMt m) (lift X.K a.1)) _ ?_ (QA ha.m)) (.mt ha.m .nil) rfl;cases m with
 | append=>exact Cf PySem.F.plainAttrs_list PySem.F.slot_list_append PySem.F.type_list_append Cg ha.pe (v6 hn) hl
 | extend=>exact Cf PySem.F.plainAttrs_list PySem.F.slot_list_extend PySem.F.type_list_extend EK ha.pe (v6 hn) hl
 | extT=>exact Cf PySem.F.plainAttrs_list PySem.F.slot_list_extend PySem.F.type_list_extend JP ha.pe (v6 hn) hl
 | pop=>exact Cf PySem.F.plainAttrs_list PySem.F.slot_list_pop PySem.F.type_list_pop (MtR.orM MI Fz) ha.pe (v6 hn) hl
 | insert=>exact Cf PySem.F.plainAttrs_list PySem.F.slot_list_insert PySem.F.type_list_insert EN ha.pe (v6 hn) hl
 | reverse=>exact Cf PySem.F.plainAttrs_list PySem.F.slot_list_reverse PySem.F.type_list_reverse DQ ha.pe (v6 hn) hl
theorem L9{T:List Str}{Δ:Nat->Sn}{k:Nat}{N:List Str}{sc:Scope}{t:TyN}{p:Pos}(C:Cok T Δ X k N sc)(hg:glo sc (Str.ofString t.nm)=true)(ht:t ≠ .none):Good X (.Name (Str.ofString t.nm) p) (tt1 (wC (.ty t))):=by
 unfold glo at hg;simp only[Vz,beq_iff_eq,Wi]at hg;have gl:Gl X (Str.ofString t.nm):=by show X.env.scope.names.lookup _=_;rw[C.hs];exact hg.1.1
 have b:bootBuiltins (Str.ofString t.nm)=some (.type t.nm):=by cases t<;>first | exact RU | exact Ta | exact RV | exact IP | exact Jd | exact absurd rfl ht
 exact .one (f8 _ (Oo (v := .ty t.nm) gl (C.ty t ht) b rfl (by cases t<;>first | decide | exact absurd rfl ht) hg.2) (GH fun _ _=>rl_ty.mpr rfl)) .c rfl
theorem Tc{K:Vy}{as:List Addr}{H:Hp}{lo hi:Int}:RlAll K as H (KZ lo (hi - lo).toNat) (C0 lo hi):=by
 unfold KZ C0
 induction WP (hi - lo).toNat with
 | nil=>exact .nil
 | cons i r ih=>exact .cons (rl_int.mpr rfl) ih
theorem Dj{a:WE}(m:Mono a):Mono (IE a):=fun ρ S P P' i h=>m _ _ _ _ (fun x S1 ⟨j,e,z,q⟩=>⟨j,e,z,i _ _ q⟩) h
theorem GY{T:List Str}{Δ:Nat->Sn}{k:Nat}{N:List Str}{sc:Scope}{r:Expr}{p p2 q q2:Pos}{a:WE×WT}(C:Cok T Δ X k N sc)(hg:glo sc "list"=true)(hg2:glo sc "range"=true)(ha:Good X r a)(hs:e7 r=true):Good X (.Call (.Name "list" p) [.Call (.Name "range" p2) [r] [] q2] [] q) (tt1 (IE a.1)):=by
 unfold glo at hg hg2;simp only[Vz,beq_iff_eq,Wi]at hg hg2;have gl:Gl X "list":=by show X.env.scope.names.lookup ("list":Str)=_;rw[C.hs];exact hg.1.1
 have gr:Gl X "range":=by show X.env.scope.names.lookup ("range":Str)=_;rw[C.hs];exact hg2.1.1
 have e1:=AV (p:=p2) (pos:=q2) KY gr C.rng Q9 (BF ha.pe C7 (j9 hs)) (by decide) hg2.2 (j9 hs) rfl;refine .one (f8 _ (AV (p:=p) (pos:=q) (F3 C.calm) gl (C.bl .list) IP (BF e1 C7 rfl) (by decide) hg.2 rfl rfl) ?_) (Dj ha.m) rfl;rintro σ H Q ⟨as,ρ,S,ok,en,h⟩;refine⟨as,ρ,S,ok,en,ha.m _ _ _ _ (fun x S1 ⟨j,e,z,q⟩ as1 H1 v g1 ok1 rv=>?_) h⟩;subst e;refine⟨j,by rw[rl_int.mp rv],fun p hp=>⟨p,0,j,rfl,f6,by decide,by decide,z.1,by omega,by omega,?_⟩⟩;exact y8 (ok1.new hp) Tc (q.mono (g1.trans (Go.new hp)))
theorem GZ:EU Py:=fun x S P P' i h=>by
 unfold Py at h ⊢;split at h
 ·obtain⟨xs,e,h⟩:=h;exact⟨xs,e,i _ _ h⟩
 ·exact h.elim
theorem LA{r:Expr}{j:Nat}{p p2 p3 p4:Pos}{a:WE×WT}(ha:Good X r a):Good X (.Subscript r (.Slice none none (some (.UnaryOp .USub (.Constant (.int 1) j p4) p3)) p2) p) (tt1 (w1 Py a.1)):=by
 refine .one (f8 _ (Sz ha.pe (J6 (Qz M6 Lk))) ?_) (.one GZ ha.m) rfl;rintro σ H Q ⟨as,ρ,S,ok,en,h⟩;refine⟨as,ρ,S,ok,en,ha.m _ _ _ _ (fun x S1 h as1 H1 v g1 ok1 rv=>?_) h⟩;refine⟨1,rfl,-1,rfl,rfl,?_⟩;cases x with
 | loc k=>
   obtain⟨xs,h1,h2⟩:=h;obtain⟨b,vs,rfl,_,hb,rr⟩:=m9 ok1 rv h1;exact⟨b,vs,rfl,SqL.of hb,y8 ok1 rr.rev (h2.mono g1)⟩
 | _=>exact False.elim h
end
section
variable{X:Cx}
theorem DE{K:Vy}{as:List Addr}{H:Hp}:∀{ns:List Int} {vs:List V},RlAll K as H vs (ns.map SV.int)->vs=ns.map V.int
 | [],vs,h=>rla_nil.mp h
 | n::ns,vs,h=>by
   obtain⟨v,r,rfl,h1,h2⟩:=rla_cons.mp h;rw[rl_int.mp h1,DE h2];rfl
theorem D1{a:WE}(m:Mono a):Mono (FK a):=fun ρ S P P' i h=>m _ _ _ _ (fun x S1 ⟨xs,ns,a,b,c,d,q⟩=>⟨xs,ns,a,b,c,d,i _ _ q⟩) h
theorem D2{a:WE}(m:Mono a):Mono (FL a):=fun ρ S P P' i h=>m _ _ _ _ (fun x S1 ⟨xs,ns,a,b,c,d,q⟩=>⟨xs,ns,a,b,c,d,i _ _ q⟩) h
theorem Eb{a:WE}(m:Mono a):Mono (NM a):=fun ρ S P P' i h=>m _ _ _ _ (fun x S1 ⟨k,ns,a,b,c,q⟩=>⟨k,ns,a,b,c,fun m g=>i _ _ (q m g)⟩) h
theorem Ec{a d:WE}(m:Mono a)(m':Mono d):Mono (NN a d):=fun ρ S P P' i h=>m _ _ _ _ (fun x S1 h=>m' _ _ _ _ (fun y S2 ⟨k,ns,z,a,b,c,q0,q⟩=>⟨k,ns,z,a,b,c,fun e=>i _ _ (q0 e),fun m g=>i _ _ (q m g)⟩) h) h
theorem IQ{T:List Str}{Δ:Nat->Sn}{k:Nat}{N:List Str}{sc:Scope}{r:Expr}{p q:Pos}{a:WE×WT}(C:Cok T Δ X k N sc)(hg:glo sc "max"=true)(ha:Good X r a)(hs:e7 r=true):Good X (.Call (.Name "max" p) [r] [] q) (tt1 (NM a.1)):=by
 unfold glo at hg;simp only[Vz,beq_iff_eq,Wi]at hg;have gl:Gl X "max":=by show X.env.scope.names.lookup ("max":Str)=_;rw[C.hs];exact hg.1.1
 refine .one (f8 _ (A6 (Kn C.calm) gl (C.bl .max) Nc (BF ha.pe C7 (j9 hs)) (by decide) hg.2 (j9 hs) rfl) ?_) (Eb ha.m) rfl;rintro σ H Q ⟨as,ρ,S,ok,en,h⟩;refine⟨as,ρ,S,ok,en,ha.m _ _ _ _ (fun x S1 ⟨k,ns,e0,h1,h2,q⟩ as1 H1 v g1 ok1 rv=>?_) h⟩;subst e0;obtain⟨a,us,rfl,ea,ha,rr⟩:=m9 ok1 rv h1;rw[DE rr]at ha;exact⟨a,ns,rfl,ha,h2,fun m g=>q m g as1 H1 _ g1 ok1 (rl_int.mpr rfl)⟩
theorem IR{T:List Str}{Δ:Nat->Sn}{k:Nat}{N:List Str}{sc:Scope}{r u:Expr}{p q kp:Pos}{a d:WE×WT}(C:Cok T Δ X k N sc)(hg:glo sc "max"=true)(ha:Good X r a)(hd:Good X u d)(hs:e7 r=true):Good X (.Call (.Name "max" p) [r] [⟨some "default",u,kp⟩] q) (tt1 (NN a.1 d.1)):=by
 unfold glo at hg;simp only[Vz,beq_iff_eq,Wi]at hg;have gl:Gl X "max":=by show X.env.scope.names.lookup ("max":Str)=_;rw[C.hs];exact hg.1.1
 refine .one (f8 _ (Kl (Km C.calm) gl (C.bl .max) Nc (BF ha.pe C7 (j9 hs)) (P3 hd.pe SU) rfl (by decide) hg.2 (by rw[j9 hs];rfl) (by rw[j9 hs];rfl) rfl rfl) ?_) (Ec ha.m hd.m) rfl;rintro σ H Q ⟨as,ρ,S,ok,en,h⟩;refine⟨as,ρ,S,ok,en,ha.m _ _ _ _ (fun x S1 h as1 H1 v g1 ok1 rv=>?_) h⟩;have en1:=en.mono g1.pre (g1.ku ok);refine⟨as1,ρ,S1,ok1,en1,hd.m _ _ _ _ (fun y S2 ⟨k,ns,i,e0,e1,h1,q0,q⟩ as2 H2 v2 g2 ok2 rv2=>?_) h⟩;subst e0;subst e1;rw[rl_int]at rv2;obtain⟨a,us,ev,ea,ha,rr⟩:=m9 ok2 (Rl.mono g2.pre (g2.ku ok1) _ _ rv) h1;rw[DE rr]at ha;exact⟨a,ns,i,by rw[ev],by rw[rv2],ha,fun e=>q0 e as2 H2 _ (g1.trans g2) ok2 (rl_int.mpr rfl),fun m g=>q m g as2 H2 _ (g1.trans g2) ok2 (rl_int.mpr rfl)⟩
theorem FP{T:List Str}{Δ:Nat->Sn}{k:Nat}{N:List Str}{sc:Scope}{r:Expr}{p p2 q q2:Pos}{a:WE×WT}(C:Cok T Δ X k N sc)(hg:glo sc "len"=true)(hg2:glo sc "set"=true)(ha:Good X r a)(hs:e7 r=true):Good X (.Call (.Name "len" p) [.Call (.Name "set" p2) [r] [] q2] [] q) (tt1 (FK a.1)):=by
 unfold glo at hg hg2;simp only[Vz,beq_iff_eq,Wi]at hg hg2;have gl:Gl X "len":=by show X.env.scope.names.lookup ("len":Str)=_;rw[C.hs];exact hg.1.1
 have gr:Gl X "set":=by show X.env.scope.names.lookup ("set":Str)=_;rw[C.hs];exact hg2.1.1
 refine .one (f8 _ (Ke C.calm gl (C.bl .len) gr C.st0 ha.pe (j9 hs) rfl rfl rfl) ?_) (D1 ha.m) rfl;rintro σ H Q ⟨as,ρ,S,ok,en,h⟩;refine⟨as,ρ,S,ok,en,ha.m _ _ _ _ (fun x S1 ⟨xs,ns,h0,h1,h2,h3,q⟩ as1 H1 v g1 ok1 rv=>?_) h⟩;obtain⟨a,us,rfl,hq,rr⟩:=AK ok1 rv h0 h1;rw[DA h2 rr]at hq;exact⟨a,ns,rfl,hq,by unfold scanBound;omega,q as1 H1 _ g1 ok1 (rl_int.mpr rfl)⟩
theorem FQ{T:List Str}{Δ:Nat->Sn}{k:Nat}{N:List Str}{sc:Scope}{r:Expr}{p p2 q q2:Pos}{a:WE×WT}(C:Cok T Δ X k N sc)(hg:glo sc "sorted"=true)(hg2:glo sc "set"=true)(ha:Good X r a)(hs:e7 r=true):Good X (.Call (.Name "sorted" p) [.Call (.Name "set" p2) [r] [] q2] [] q) (tt1 (FL a.1)):=by
 unfold glo at hg hg2;simp only[Vz,beq_iff_eq,Wi]at hg hg2;have gl:Gl X "sorted":=by show X.env.scope.names.lookup ("sorted":Str)=_;rw[C.hs];exact hg.1.1
 have gr:Gl X "set":=by show X.env.scope.names.lookup ("set":Str)=_;rw[C.hs];exact hg2.1.1
 refine .one (f8 _ (I0 C.calm gl (C.bl .sorted) gr C.st0 ha.pe (j9 hs) rfl rfl rfl) ?_) (D2 ha.m) rfl;rintro σ H Q ⟨as,ρ,S,ok,en,h⟩;refine⟨as,ρ,S,ok,en,ha.m _ _ _ _ (fun x S1 ⟨xs,ns,h0,h1,h2,h3,q⟩ as1 H1 v g1 ok1 rv=>?_) h⟩;obtain⟨a,us,rfl,hq,rr⟩:=AK ok1 rv h0 h1;rw[DA h2 rr]at hq;exact⟨a,ns,rfl,hq,h3,y8 ok1 RlAll.ints (q.mono g1)⟩
end
section
variable{K:Vy}{as:List Addr}{H:Hp}{S:Sto}
theorem RlD.length:∀{kvs:List (Int×SV)} {ks:List (Key×V)},RlD K as H ks kvs->ks.length=kvs.length
 | [],_,h=>by rw[show _=[] from h];rfl
 | p::r,_,⟨v,t,e,_,h⟩=>by rw[e,Wz,Wz,RlD.length h]
theorem RlD.get:∀{kvs:List (Int×SV)} {ks:List (Key×V)} {i:Nat} {p:Int×SV},RlD K as H ks kvs->kvs[i]?=some p->∃ v,ks[i]?=some (.inl p.1,v)
 | q::r,_,0,p,⟨v,t,e,_,_⟩,hp=>by cases hp;subst e;exact⟨v,rfl⟩
 | q::r,_,i+1,p,⟨v,t,e,_,h⟩,hp=>by
   subst e;obtain⟨u,hu⟩:=RlD.get (i:=i) h (show r[i]?=some p from hp);exact⟨u,hu⟩
theorem RlD.val:∀{kvs:List (Int×SV)} {ks:List (Key×V)},RlD K as H ks kvs->∀ i,(∃ x v,D6 kvs i=some x/\BZ ks (.inl i)=some v/\Rl K as H v x)\/(D6 kvs i=none/\BZ ks (.inl i)=none)
 | [],_,h,i=>by rw[show _=[] from h];exact .inr ⟨rfl,rfl⟩
 | p::r,_,⟨v,t,e,h1,h2⟩,i=>by
   subst e;by_cases hp:p.1=i
   ·refine .inl ⟨p.2,v,?_,?_,h1⟩
    ·unfold D6;rw[Yr (by simp[hp])];rfl
    ·unfold BZ;rw[Yr (by simp[hp])];rfl
   ·have e1:D6 (p::r) i=D6 r i:=by unfold D6;rw[Ys (by simp[hp])]
    have e2:BZ ((Sum.inl p.1,v)::t) (Sum.inl i)=BZ t (Sum.inl i):=by unfold BZ;rw[Ys (by simp[hp])]
    rw[e1,e2];exact RlD.val h2 i
theorem RlD.any:∀{kvs:List (Int×SV)} {ks:List (Key×V)},RlD K as H ks kvs->∀ i,(ks.any fun kv=>decide (kv.1=Sum.inl i))=kvs.any fun p=>decide (p.1=i)
 | [],_,h,i=>by rw[show _=[] from h];rfl
 | p::r,_,⟨v,t,e,h1,h2⟩,i=>by
   subst e;rw[Xp,Xp,RlD.any h2 i]
   congr 1
   simp
theorem RlD.set{v:V}{x:SV}(rv:Rl K as H v x):∀{kvs:List (Int×SV)} {ks:List (Key×V)},RlD K as H ks kvs->∀ i,RlD K as H (ks.map fun kv=>if kv.1=Sum.inl i then (kv.1,v) else kv) (kvs.map fun p=>if p.1=i then (p.1,x) else p)
 | [],_,h,i=>by rw[show _=[] from h];rfl
 | p::r,_,⟨u,t,e,h1,h2⟩,i=>by
   subst e;rw[Wl,Wl];by_cases hp:p.1=i
   ·rw[if_pos hp,if_pos (by rw[hp])];exact⟨v,_,rfl,rv,RlD.set rv h2 i⟩
   ·rw[if_neg hp,if_neg (fun z=>hp (Sum.inl.inj z))];exact⟨u,_,rfl,h1,RlD.set rv h2 i⟩
theorem RlD.snoc{v:V}{x:SV}(rv:Rl K as H v x)(i:Int):∀{kvs:List (Int×SV)} {ks:List (Key×V)},RlD K as H ks kvs->RlD K as H (ks++[(Sum.inl i,v)]) (kvs++[(i,x)])
 | [],_,h=>by rw[show _=[] from h];exact⟨v,[],rfl,rv,rfl⟩
 | p::r,_,⟨u,t,e,h1,h2⟩=>by subst e;exact⟨u,_,rfl,h1,RlD.snoc rv i h2⟩
theorem RlD.put{kvs:List (Int×SV)}{ks:List (Key×V)}{v:V}{x:SV}(h:RlD K as H ks kvs)(rv:Rl K as H v x)(i:Int):RlD K as H (Ay ks (Sum.inl i) v) (Aj kvs i x):=by
 unfold Ay Aj;rw[h.any i];by_cases z:(kvs.any fun p=>decide (p.1=i))=true
 ·rw[if_pos z,if_pos z];exact h.set rv i
 ·rw[if_neg z,if_neg z];exact h.snoc rv i
theorem Nh{x:SV}{v:V}{kvs:List (Int×SV)}(ok:Ok K as H S)(r:Rl K as H v x)(h:CQ x S=some kvs):∃ a k ks,x = .loc k/\v = .ref a/\as[k]?=some a/\Rd H a (.dK ks)/\RlD K as H ks kvs:=by
 cases x with
 | loc k=>
   obtain⟨a,ea,rfl⟩:=rl_loc.mp r;unfold CQ at h;cases hs:S[k]? with
   | none=>simp only[hs]at h;cases h
   | some o=>
     have ro:=ok.obj k o a hs ea;cases o with
     | lst _=>simp only[hs]at h;cases h
     | iset _=>simp only[hs]at h;cases h
     | dct kv=>simp only[hs]at h;cases h;obtain⟨ks,h1,h2⟩:=ro;exact⟨a,k,ks,rfl,rfl,ea,.inl h1,h2⟩
     | dcf o ks kv=>simp only[hs]at h;cases h;exact⟨a,k,ks,rfl,rfl,ea,.inr ⟨o,ro.1⟩,ro.2⟩
 | _=>cases h
theorem Cq:Mono2 JU:=fun x y S P P' i ⟨kvs,j,v,a,b,c,q⟩=>⟨kvs,j,v,a,b,c,i _ _ q⟩
theorem B5{n:Bool}:Mono2 (Ko n):=fun x y S P P' i ⟨kvs,j,a,b,q⟩=>⟨kvs,j,a,b,i _ _ q⟩
theorem Ni:BG K JU (fun x y H Q=>∃ a v,x = .ref a/\F8 H a y (some v)/\Q v H):=fun as H S x y v u Q ok rx ry h=>by
 obtain⟨kvs,i,w,h1,rfl,h2,q⟩:=h;obtain⟨a,k,ks,rfl,rfl,ea,rd,rr⟩:=Nh ok rx h1;rw[rl_int]at ry;subst ry;rcases rr.val i with⟨x',v',e1,e2,r'⟩ | ⟨e1,_⟩
 ·rw[h2]at e1;cases e1;exact⟨a,v',rfl,.inl ⟨ks,.inl i,rd,rfl,e2.symm⟩,q.here ok r'⟩
 ·rw[h2]at e1;cases e1
theorem DF{n:Bool}:BG K (Ko n) (fun y x H Q=>∃ a o,x = .ref a/\F8 H a y o/\Q (.bl (if n then !o.isSome else o.isSome)) H):=fun as H S y x u v Q ok ry rx h=>by
 obtain⟨kvs,i,h1,rfl,q⟩:=h;obtain⟨a,k,ks,rfl,rfl,ea,rd,rr⟩:=Nh ok rx h1;rw[rl_int]at ry;subst ry
 have e:(BZ ks (Sum.inl i)).isSome=(D6 kvs i).isSome:=by
  rcases rr.val i with⟨x',v',e1,e2,r'⟩ | ⟨e1,e2⟩<;>rw[e1,e2]<;>rfl
 refine⟨a,_,rfl,.inl ⟨ks,.inl i,rd,rfl,rfl⟩,?_⟩;rw[e];exact q.here ok (rl_bl.mpr rfl)
end
section
variable{X:Cx}
theorem IS{x y:Expr}{p:Pos}{a b:WE×WT}(hu:X.A.units+1<cLine)(ha:Good X x a)(hb:Good X y b)(h:y9 y=true):Good X (.Subscript x y p) (tt1 (w2 JU a.1 b.1)):=
 .one (f8 _ (PY hu ha.pe hb.pe (Dh h)) (w6 Ni Cq ha.m hb.m)) (.two Cq ha.m hb.m) rfl
theorem LB{n:Bool}{x y:Expr}{p:Pos}{a b:WE×WT}(hu:X.A.units+1<cLine)(ha:Good X x a)(hb:Good X y b)(h:n8 y=true):Good X (.Compare x [if n then .NotIn else .In] [y] p) (tt2 (w2 (Ko n) a.1 b.1)):=by
 have m:Mono (w2 (Ko n) a.1 b.1) := .two B5 ha.m hb.m;cases n with
 | false=>exact{pe:=f8 _ (Ll (Me hu ha.pe hb.pe) (w4 h)) (w6 DF B5 ha.m hb.m)
                pt:=Bb _ (Lm (Me hu ha.pe hb.pe) (w4 h)) fun σ H Q h=>w6 DF B5 ha.m hb.m σ H _ (Cp m σ H Q h)
                m:=m
                mt := .bl m
                pw:=fun _ _ _ e=>by cases e}
 | true=>exact{pe:=f8 _ (Ll (ES hu ha.pe hb.pe) (w4 h)) (w6 DF B5 ha.m hb.m)
               pt:=Bb _ (Lm (ES hu ha.pe hb.pe) (w4 h)) fun σ H Q h=>w6 DF B5 ha.m hb.m σ H _ (Cp m σ H Q h)
               m:=m
               mt := .bl m
               pw:=fun _ _ _ e=>by cases e}
end
section
variable{K:Vy}{as:List Addr}{H:Hp}{S:Sto}
theorem FR:∀{ts:List Nat} {vs:List V},RlAll K as H vs (ts.map SV.loc)->∃ ta:List Addr,vs=ta.map V.ref/\ta.length=ts.length/\∀(i t:Nat) (a:Addr),ts[i]?=some t->ta[i]?=some a->as[t]?=some a
 | [],vs,h=>⟨[],rla_nil.mp h,rfl,fun i t a e=>by cases e⟩
 | t::ts,vs,h=>by
   obtain⟨v,r,rfl,h1,h2⟩:=rla_cons.mp h;obtain⟨a,ea,rfl⟩:=rl_loc.mp h1;obtain⟨ta,rfl,hl,ht⟩:=FR h2;refine⟨a::ta,rfl,by rw[Wz,Wz,hl],fun i t' a' e1 e2=>?_⟩;cases i with
   | zero=>cases e1;cases e2;exact ea
   | succ i=>exact ht i t' a' e1 e2
theorem Nj(ok:Ok K as H S){ts:List Nat}{ta:List Addr}{xss:List (List Int)}(hl:ta.length=ts.length)(ht:∀(i t:Nat) (a:Addr),ts[i]?=some t->ta[i]?=some a->as[t]?=some a)(h:LsI S ts xss):LiI H ta xss:=by
 refine⟨hl.trans h.1,fun i a xs ea ex=>?_⟩;have hi:i<ts.length:=by rw[<-hl];exact(gM ea).1
 have et:=W0 hi;obtain⟨vs,e1,rr⟩:=ok.obj _ _ a (h.2 i _ xs et ex) (ht i _ a et ea);rw[e1,DE rr]
theorem Bt:Mono2 GO:=fun x y S P P' i ⟨k,l,ts,us,xss,a,b,c,d,e,f,q⟩=>⟨k,l,ts,us,xss,a,b,c,d,e,f,i _ _ q⟩
theorem Bu:Mono2 GN:=fun x y S P P' i ⟨xs,a,b,q⟩=>⟨xs,a,b,i _ _ q⟩
theorem Ga:BG K GN (fun x y H Q=>∃ a b xs,x = .ref a/\y = .ref b/\SqT K H a xs/\SqT K H b []/\Q (.bl xs.isEmpty) H):=fun as H S x y v u Q ok rx ry h=>by
 obtain⟨xs,rfl,rfl,q⟩:=h;obtain⟨a,vs,rfl,hv,rv⟩:=rl_tup.mp rx;obtain⟨b,ws,rfl,hw,rw'⟩:=rl_tup.mp ry;obtain rfl:=rla_nil.mp rw';have e:vs.isEmpty=xs.isEmpty:=by have:=rv.length;cases vs<;>cases xs<;>first | rfl | (simp at this)
 refine⟨a,b,vs,rfl,rfl,SqT.of hv,SqT.of hw,?_⟩;rw[e];exact q.here ok (rl_bl.mpr rfl)
theorem Gb:BG K GO (fun x y H Q=>∃(a b:Addr) (ts us:List Addr) (xss:List (List Int)),x = .ref a/\y = .ref b/\SqL K H a (ts.map V.ref)/\SqL K H b (us.map V.ref)/\LiI H ts xss/\LiI H us xss/\Q (.bl false) H):=fun as H S x y v u Q ok rx ry h=>by
 obtain⟨k,l,ts,us,xss,rfl,rfl,hk,hl,h1,h2,q⟩:=h;obtain⟨a,ea,rfl⟩:=rl_loc.mp rx;obtain⟨b,eb,rfl⟩:=rl_loc.mp ry;obtain⟨vs,hv,rv⟩:=ok.obj _ _ a hk ea;obtain⟨ws,hw,rw'⟩:=ok.obj _ _ b hl eb;obtain⟨ta,rfl,l1,t1⟩:=FR rv;obtain⟨tb,rfl,l2,t2⟩:=FR rw';exact⟨a,b,ta,tb,xss,rfl,rfl,SqL.of hv,SqL.of hw,Nj ok l1 t1 h1,Nj ok l2 t2 h2,q.here ok (rl_bl.mpr rfl)⟩
end
section
variable{X:Cx}
theorem IT{ra rb:Expr}{p:Pos}{wa wb:WE}(hu:X.A.units+1<cLine)(ha:PE X ra (lift X.K wa))(hb:PE X rb (lift X.K wb))(ma:Mono wa)(mb:Mono wb)(hn:n8 rb=true):Good X (.Compare ra [.NotEq] [rb] p) (tt2 (w2 GO wa wb)):=by
 have m:Mono (w2 GO wa wb) := .two Bt ma mb
 exact{pe:=f8 _ (Ev (Jc hu) ha hb (w4 hn)) (w6 Gb Bt ma mb)
       pt:=Bb _ (Ey (Jc hu) ha hb (w4 hn)) fun σ H Q h=>w6 Gb Bt ma mb σ H _ (Cp m σ H Q h)
       m:=m
       mt := .bl m
       pw:=fun _ _ _ e=>by cases e}
theorem IU{ra rb:Expr}{p:Pos}{wa wb:WE}(hu:X.A.units+1<cLine)(ha:PE X ra (lift X.K wa))(hb:PE X rb (lift X.K wb))(ma:Mono wa)(mb:Mono wb)(hn:n8 rb=true):Good X (.Compare ra [.Eq] [rb] p) (tt2 (w2 GN wa wb)):=by
 have m:Mono (w2 GN wa wb) := .two Bu ma mb
 exact{pe:=f8 _ (Ev (JM (by omega)) ha hb (w4 hn)) (w6 Ga Bu ma mb)
       pt:=Bb _ (Ey (JM (by omega)) ha hb (w4 hn)) fun σ H Q h=>w6 Ga Bu ma mb σ H _ (Cp m σ H Q h)
       m:=m
       mt := .bl m
       pw:=fun _ _ _ e=>by cases e}
end
open PySem L2
noncomputable def Bf(K:Vy)(g:Tg):TG:=fun v σ H Q=>∃ as ρ S x,Ok K as H S/\EnvOk K as H σ ρ/\Rl K as H v x/\wTg g x ρ fun ρ'=>∀ σ',EnvOk K as H σ' ρ'->Q σ' H
noncomputable def Td(K:Vy)(g:Tgs):TGs:=fun vs σ H Q=>∃ as ρ S xs,Ok K as H S/\EnvOk K as H σ ρ/\RlAll K as H vs xs/\Af g xs ρ fun ρ'=>∀ σ',EnvOk K as H σ' ρ'->Q σ' H
mutual
theorem m6:∀(g:Tg) {x:SV} {ρ:EnvS} {P P':EnvS->Prop},(∀ r,P r->P' r)->wTg g x ρ P->wTg g x ρ P'
 | .nm i,x,ρ,P,P',h,q=>by unfold wTg at q ⊢;exact h _ q
 | .tup ts,x,ρ,P,P',h,q=>by
   cases x with
   | tup xs=>unfold wTg at q ⊢;exact Gc ts h q
   | _=>unfold wTg at q;exact q.elim
theorem Gc:∀(g:Tgs) {x:List SV} {ρ:EnvS} {P P':EnvS->Prop},(∀ r,P r->P' r)->Af g x ρ P->Af g x ρ P'
 | .nil,x,ρ,P,P',h,q=>by
   cases x with
   | nil=>unfold Af at q ⊢;exact h _ q
   | cons _ _=>unfold Af at q;exact q.elim
 | .cons t ts,x,ρ,P,P',h,q=>by
   cases x with
   | nil=>unfold Af at q;exact q.elim
   | cons y ys=>unfold Af at q ⊢;exact m6 t (fun r q=>Gc ts h q) q
end
theorem Bg{env:Env}:∀{es:List Expr},es.all e7=true->(assignEach es env).length=es.length/\(assignEach es env).findIdx? (·.1)=none/\∀ e r,es=e::r->(assignEach (e::r) env).map (·.2)=assign e env::(assignEach r env).map (·.2)
 | [],_=>⟨rfl,rfl,fun e r h=>by cases h⟩
 | e::es,h=>by
   rw[XS,Vz]at h;obtain⟨h1,h2,_⟩:=Bg (env:=env) h.2;have:assignEach (e::es) env=(false,assign e env)::assignEach es env:=by cases e<;>first | rfl | (have:=h.1;cases this)
   rw[this];refine⟨by simp[h1],by rw[List.findIdx?_cons,h2];rfl,fun e' r z=>?_⟩;injection z with z1 z2;subst z1 z2;rw[this];rfl
theorem Cr{k:Nat}{N:List Str}{sc:Scope}:∀{g:Tgs} {es:List Expr},Ab k N sc g es=true->es.all e7=true
 | .nil,es,h=>by unfold Ab at h;rw[XH]at h;subst h;rfl
 | .cons t ts,es,h=>by
   rw[Ab]at h;replace h:=a6 h;obtain⟨e,he,h⟩:=h;simp only[Vz]at h;rw[Ak he,XS,h.1.2,Cr h.2];rfl
section
variable{X:Cx}{T:List Str}{Δ:Nat->Sn}{k:Nat}{N:List Str}{sc:Scope}
mutual
theorem AO(C:Cok T Δ X k N sc):∀(g:Tg) (r:Expr),Al k N sc g r=true->PG X r (Bf X.K g)
 | .nm i,r,h=>by
   rw[Al]at h;replace h:=a6 h;obtain⟨x,hx,h⟩:=h;obtain⟨p,rfl⟩:=Be hx
   ·simp only[Vz,decide_eq_true_eq]at h;obtain⟨⟨h1,h2⟩,h3⟩:=h;unfold loc at h3;simp only[XC,beq_iff_eq]at h3;have hl:Loc X.env.scope x:=by rw[C.hs];exact h3
    have hf:X.fn x=true\/X.env.scope.names.lookup x=some .local:=by
     rw[C.hs];rcases h3 with h3 | h3
     ·exact .inr h3
     ·exact .inl (C.fn i x h1 h2 h3)
    have b:=Ou (X:=X) (pos:=p) (i:=i) (by rw[C.hN];exact C.nd) (by rw[C.hN];exact h2) hl hf;intro pins s σ H v u Q I rr hq;obtain⟨as,ρ,S,y,ok,en,rv,q⟩:=hq;unfold wTg at q;exact b pins s σ H v u Q I rr (q _ (en.set rv))
 | .tup ts,r,h=>by
   rw[Al]at h;replace h:=a6 h;obtain⟨es,he,h⟩:=h;obtain⟨j,p,rfl⟩:=DD he
   ·have st:=Bg (env:=X.env) (Cr h);have b:=SC (X:=X) (k:=j) (pos:=p) C.calm (Ed C ts es h) st.1 st.2.1;intro pins s σ H v u Q I rr hq;refine b pins s σ H v u Q I rr ?_;obtain⟨as,ρ,S,y,ok,en,rv,q⟩:=hq;cases y with
    | tup xs=>
      obtain⟨a,vs,rfl,ha,ra⟩:=rl_tup.mp rv;unfold wTg at q;refine⟨a,vs,rfl,SqT.of ha,?_,as,ρ,S,xs,ok,en,ra,q⟩;rw[ra.length];exact Je ts es xs h q
    | _=>unfold wTg at q;exact q.elim
theorem Ed(C:Cok T Δ X k N sc):∀(g:Tgs) (es:List Expr),Ab k N sc g es=true->PGs X es (Td X.K g)
 | .nil,es,h=>by
   rw[Ab]at h;rw[XH]at h;subst h;intro pins s σ H vs us Q I rr hq;refine Ov pins s σ H vs us Q I rr ?_;obtain⟨as,ρ,S,xs,ok,en,rv,q⟩:=hq;cases xs with
   | nil=>unfold Af at q;exact⟨rla_nil.mp rv,q _ en⟩
   | cons _ _=>unfold Af at q;exact q.elim
 | .cons t ts,el,h=>by
   have st:=Bg (env:=X.env) (Cr h);rw[Ab]at h;replace h:=a6 h;obtain⟨e,he,h⟩:=h;simp only[Vz]at h;rw[Ak he]at st ⊢;generalize el.tail=es at h st;intro pins s σ H vs us Q I rr hq;refine Lw (AO C t e h.1.1) (Ed C ts es h.2) (st.2.2 _ _ rfl) pins s σ H vs us Q I rr ?_;obtain⟨as,ρ,S,xs,ok,en,rv,q⟩:=hq;cases xs with
   | nil=>unfold Af at q;exact q.elim
   | cons y ys=>
     unfold Af at q;obtain⟨v,r,rfl,r1,r2⟩:=rla_cons.mp rv;exact⟨v,r,rfl,as,ρ,S,y,ok,en,r1,m6 t (fun ρ' q σ' en'=>⟨as,ρ',S,ys,ok,en',r2,q⟩) q⟩
theorem Je:∀(g:Tgs) (es:List Expr) (xs:List SV) {ρ:EnvS} {P:EnvS->Prop},Ab k N sc g es=true->Af g xs ρ P->xs.length=es.length
 | .nil,es,xs,ρ,P,h,q=>by
   rw[Ab]at h;rw[XH]at h;subst h;cases xs with
   | nil=>rfl
   | cons _ _=>unfold Af at q;exact q.elim
 | .cons t ts,el,xs,ρ,P,h,q=>by
   rw[Ab]at h;replace h:=a6 h;obtain⟨e,he,h⟩:=h;simp only[Vz]at h;rw[Ak he];generalize el.tail=es at h;cases xs with
   | nil=>unfold Af at q;exact q.elim
   | cons y ys=>
     unfold Af at q;obtain⟨ρ',q'⟩:=Jf t q;simp[Je ts es ys h.2 q']
theorem Jf:∀(g:Tg) {x:SV} {ρ:EnvS} {P:EnvS->Prop},wTg g x ρ P->∃ ρ',P ρ'
 | .nm i,x,ρ,P,q=>by unfold wTg at q;exact⟨_,q⟩
 | .tup ts,x,ρ,P,q=>by
   cases x with
   | tup xs=>unfold wTg at q;exact Gd ts q
   | _=>unfold wTg at q;exact q.elim
theorem Gd:∀(g:Tgs) {xs:List SV} {ρ:EnvS} {P:EnvS->Prop},Af g xs ρ P->∃ ρ',P ρ'
 | .nil,xs,ρ,P,q=>by
   cases xs with
   | nil=>unfold Af at q;exact⟨_,q⟩
   | cons _ _=>unfold Af at q;exact q.elim
 | .cons t ts,xs,ρ,P,q=>by
   cases xs with
   | nil=>unfold Af at q;exact q.elim
   | cons y ys=>
     unfold Af at q;obtain⟨ρ',q'⟩:=Jf t q;exact Gd ts q'
end
end
structure Gu(as:List Addr)(H:Hp)(as':List Addr)(H':Hp):Prop where
 pre:as <+: as'
 kp:KeepU H H'
theorem Gu.ku{K:Vy}{as as':List Addr}{H H':Hp}{S:Sto}(g:Gu as H as' H')(_:Ok K as H S):KeepU H H':=g.kp
theorem Go.gu{K:Vy}{as as':List Addr}{H H':Hp}{S:Sto}(g:Go as H as' H')(ok:Ok K as H S):Gu as H as' H':=⟨g.pre,g.ku ok⟩
noncomputable def Walks(K:Vy)(as0:List Addr)(H0:Hp)(J:It)(keep:Sto->Prop)(xs:List SV):Prop:=∀ as H S,Gu as0 H0 as H->Ok K as H S->keep S->
 (∀(i:Nat) (x:SV),xs[i]?=some x->J.go i H/\∀ v H',J.yld i H v H'->Go as H as H'/\Ok K as H' S/\Rl K as H' v x)/\J.stop xs.length H
noncomputable def VP(K:Vy)(as:List Addr)(H:Hp)(R:It->Hp->Prop):(Sto->Prop)->List SV->Sto->Prop:=fun keep xs S1=>∀ as1 H1 J,Go as H as1 H1->Ok K as1 H1 S1->Walks K as1 H1 J keep xs->R J H1
noncomputable def liftI(K:Vy)(w:WI):TI:=fun σ H R=>∃ as ρ S,Ok K as H S/\EnvOk K as H σ ρ/\w ρ S (VP K as H R)
noncomputable def MonoI(w:WI):Prop:=∀ ρ S (P P':(Sto->Prop)->List SV->Sto->Prop),(∀ k x S',P k x S'->P' k x S')->w ρ S P->w ρ S P'
structure GoodI(X:Cx)(tg r:Expr)(w:WI):Prop where
 pi:PI X tg r (liftI X.K w)
 m:MonoI w
section
variable{X:Cx}{K:Vy}
theorem Ge{as0 as:List Addr}{H0 H:Hp}{S1 S:Sto}{x:SV}{v:V}{xs:List SV}(ok1:Ok K as0 H0 S1)(r:Rl K as0 H0 v x)(h:Aa x S1=some xs)(g:Gu as0 H0 as H)(ok:Ok K as H S)(kp:CP x S1 S):Rl K as H v x/\Aa x S=some xs:=by
 refine⟨Rl.mono g.pre (g.ku ok1) x v r,?_⟩;cases x with
 | loc k=>
   have kp:S[k]?=S1[k]?:=kp;unfold Aa at h ⊢;simp only[kp];exact h
 | _=>exact h
theorem LC{as0:List Addr}{H0:Hp}{S1:Sto}{x:SV}{a:Addr}{xs:List SV}(ok1:Ok K as0 H0 S1)(r:Rl K as0 H0 (.ref a) x)(n:x ≠ .tup xs)(h:Aa x S1=some xs):Walks K as0 H0 (Itl K a) (CP x S1) xs:=fun as H S g ok kp=>by
 obtain⟨r',h'⟩:=Ge ok1 r h g ok kp;obtain⟨b,vs,e,hq,rr⟩:=AK ok r' n h';cases e;refine⟨fun i y hy=>?_,vs,hq,by rw[rr.length];exact WB _⟩;obtain⟨v,hv,rv⟩:=rr.get hy;refine⟨⟨vs,v,hq,hv⟩,fun u H' yl=>?_⟩;obtain⟨e,yl⟩:=yl;subst e;have:=yl vs hq;rw[hv]at this;cases this;exact⟨Go.refl _ _,ok,rv⟩
theorem Nk{as0:List Addr}{H0:Hp}{S1:Sto}{a:Addr}{xs:List SV}(ok1:Ok K as0 H0 S1)(r:Rl K as0 H0 (.ref a) (.tup xs)):Walks K as0 H0 (Itt K a) (CP (.tup xs) S1) xs:=fun as H S g ok kp=>by
 have r':=Rl.mono g.pre (g.ku ok1) _ _ r;obtain⟨b,vs,e,hb,rr⟩:=rl_tup.mp r';cases e;refine⟨fun i y hy=>?_,vs,SqT.of hb,by rw[rr.length];exact WB _⟩;obtain⟨v,hv,rv⟩:=rr.get hy;refine⟨⟨vs,v,SqT.of hb,hv⟩,fun u H' yl=>?_⟩;obtain⟨e,yl⟩:=yl;subst e;have:=yl vs (SqT.of hb);rw[hv]at this;cases this;exact⟨Go.refl _ _,ok,rv⟩
theorem Nl{as0:List Addr}{H0:Hp}{lo hi:Int}:Walks K as0 H0 (Itr lo (hi - lo).toNat) (fun _=>True) (C0 lo hi):=fun as H S g ok _=>by
 have hl:(C0 lo hi).length=(hi - lo).toNat:=by unfold C0;simp
 refine⟨fun i y hy=>?_,by show(hi - lo).toNat<=(C0 lo hi).length;rw[hl];exact WB _⟩;have hi':i<(hi - lo).toNat:=by rw[<-hl];exact(gM hy).1
 refine⟨hi',fun u H' yl=>?_⟩;obtain⟨e,rfl⟩:=yl;subst e
 have:y = .int (lo+i):=by
  unfold C0 at hy;rw[WG,Xo hi']at hy;exact(oj hy).symm
 subst this;exact⟨Go.refl _ _,ok,rl_int.mpr rfl⟩
theorem Gf{xs:List SV}{i:Nat}{y:SV}(h:(Bd xs)[i]?=some y):∃ x,xs[i]?=some x/\y = .tup [.int i,x]:=by
 unfold Bd at h;rw[Yw]at h;cases h1:(WP xs.length)[i]? with
 | none=>rw[h1]at h;cases h
 | some j=>
   cases h2:xs[i]? with
   | none=>rw[h1,h2]at h;cases h
   | some x=>
     rw[h1,h2]at h;have hi:=(gM h2).1;rw[Xo hi]at h1;cases h1;cases h;exact⟨x,rfl,rfl⟩
theorem Gg{xs:List SV}:(Bd xs).length=xs.length:=by unfold Bd;simp
theorem IV{as0:List Addr}{H0:Hp}{S1:Sto}{x:SV}{a:Addr}{xs:List SV}(ok1:Ok K as0 H0 S1)(r:Rl K as0 H0 (.ref a) x)(n:x ≠ .tup xs)(h:Aa x S1=some xs):Walks K as0 H0 (Sc K a) (CP x S1) (Bd xs):=fun as H S g ok kp=>by
 obtain⟨r',h'⟩:=Ge ok1 r h g ok kp;obtain⟨b,vs,e,hq,rr⟩:=AK ok r' n h';cases e;refine⟨fun i y hy=>?_,vs,hq,by rw[rr.length,Gg]⟩;obtain⟨z,hz,rfl⟩:=Gf hy;obtain⟨v,hv,rv⟩:=rr.get hz;refine⟨⟨vs,v,hq,hv⟩,fun u H' yl=>?_⟩;obtain⟨p,w,hp,rfl,yl,rfl⟩:=yl;have:=yl vs hq;rw[hv]at this;cases this;exact⟨Go.new hp,ok.new hp,rl_tup.mpr ⟨p,_,rfl,f6,.cons (rl_int.mpr rfl) (.cons (Rl.mono (Wq _) (Aw hp) z v rv) .nil)⟩⟩
theorem IW{as0:List Addr}{H0:Hp}{S1:Sto}{a:Addr}{xs:List SV}(ok1:Ok K as0 H0 S1)(r:Rl K as0 H0 (.ref a) (.tup xs)):Walks K as0 H0 (Sd K a) (CP (.tup xs) S1) (Bd xs):=fun as H S g ok kp=>by
 have r':=Rl.mono g.pre (g.ku ok1) _ _ r;obtain⟨b,vs,e,hb,rr⟩:=rl_tup.mp r';cases e;refine⟨fun i y hy=>?_,vs,SqT.of hb,by rw[rr.length,Gg]⟩;obtain⟨z,hz,rfl⟩:=Gf hy;obtain⟨v,hv,rv⟩:=rr.get hz;refine⟨⟨vs,v,SqT.of hb,hv⟩,fun u H' yl=>?_⟩;obtain⟨p,w,hp,rfl,yl,rfl⟩:=yl;have:=yl vs (SqT.of hb);rw[hv]at this;cases this;exact⟨Go.new hp,ok.new hp,rl_tup.mpr ⟨p,_,rfl,f6,.cons (rl_int.mpr rfl) (.cons (Rl.mono (Wq _) (Aw hp) z v rv) .nil)⟩⟩
theorem FS{tg l:Expr}{w:TI}(w':TI)(h:PI X tg l w)(imp:∀ σ H R,w' σ H R->w σ H R):PI X tg l w':=fun pins s σ H R I hw=>h pins s σ H R I (imp σ H R hw)
noncomputable def Vx(K:Vy)(tl:TE):TI:=fun σ H R=>tl σ H fun x H1=>∃ a,x = .ref a/\(((∃ xs,SqL K H1 a xs)/\R (Itl K a) H1)\/((∃ xs,SqT K H1 a xs)/\R (Itt K a) H1))
theorem Te{tg l:Expr}{tl:TE}(hl:PE X l tl):PI X tg l (Vx X.K tl):=by
 intro pins s σ H R I h;refine thn (hl pins s σ H _ I h) fun v s1 ⟨x,H1,I1,r1,q1⟩=>?_;obtain⟨a,e,q⟩:=q1;subst e;cases r1;have I2:∀{ob:Obj},Inv X pins σ H1 {s1 with heap:=s1.heap.push ob}:=I1.kept (t':=s1.toks) fun b o e=>W8 _ e
 have fp:∀ b∈[s1.heap.objs.size],FpOk X pins H1 b:=fun b hb=>by
  rw[W6.mp hb];exact I1.fpOk (WB _) (I1.hok.fresh (WB _))
 rcases q with⟨⟨xs,hq⟩,q⟩ | ⟨⟨xs,hq⟩,q⟩
 ·obtain⟨its,rv,p,hz⟩:=I1.list hq;exact wpAny_pyIter_list p.isList ⟨s1.heap.objs.size,[s1.heap.objs.size],_,_,H1,rfl,I2,KG a _,⟨_,WL _ rfl,rfl,rfl⟩,fp,q⟩
 ·obtain⟨its,rv,p,hz⟩:=I1.tuple hq;exact wpAny_pyIter_tuple (show s1.heap.IsTuple a its.toArray from p) ⟨s1.heap.objs.size,[s1.heap.objs.size],_,_,H1,rfl,I2,Hg a _,⟨_,WL _ rfl,rfl,rfl⟩,fp,q⟩
theorem LD{tg r:Expr}{a:WE×WT}(ha:Good X r a):GoodI X tg r (RT a.1) where
 m:=fun ρ S P P' i h=>ha.m _ _ _ _ (fun x S1 ⟨xs,e,q⟩=>⟨xs,e,i _ _ _ q⟩) h
 pi:=FS _ (Te ha.pe) (by
  rintro σ H R ⟨as,ρ,S,ok,en,h⟩;refine⟨as,ρ,S,ok,en,ha.m _ _ _ _ (fun x S1 ⟨xs,e,q⟩ as1 H1 v g1 ok1 rv=>?_) h⟩;by_cases ht:x = .tup xs
  ·subst ht;obtain⟨p,vs,rfl,hp,rr⟩:=rl_tup.mp rv;exact⟨p,rfl,.inr ⟨⟨vs,SqT.of hp⟩,q as1 H1 _ g1 ok1 (Nk ok1 rv)⟩⟩
  ·obtain⟨p,vs,rfl,hq,rr⟩:=AK ok1 rv ht e;exact⟨p,rfl,.inl ⟨⟨vs,hq⟩,q as1 H1 _ g1 ok1 (LC ok1 rv ht e)⟩⟩)
theorem IY{T:List Str}{Δ:Nat->Sn}{k:Nat}{N:List Str}{sc:Scope}{elts:List Expr}{kx:Nat}{tp p q:Pos}{r:Expr}{a:WE×WT}(C:Cok T Δ X k N sc)(hg:glo sc "enumerate"=true)(ha:Good X r a)(hs:e7 r=true):GoodI X (.Tuple elts kx tp) (.Call (.Name "enumerate" p) [r] [] q) (NL a.1) where
 m:=fun ρ S P P' i h=>ha.m _ _ _ _ (fun x S1 ⟨xs,e,q⟩=>⟨xs,e,i _ _ _ q⟩) h
 pi:=by
  unfold glo at hg;simp only[Vz,beq_iff_eq,Wi]at hg;have gl:Gl X "enumerate":=by show X.env.scope.names.lookup ("enumerate":Str)=_;rw[C.hs];exact hg.1.1
  refine FS _ (P9 gl C.enm (BF ha.pe C7 (j9 hs)) (j9 hs)) ?_;rintro σ H R ⟨as,ρ,S,ok,en,h⟩;refine⟨as,ρ,S,ok,en,ha.m _ _ _ _ (fun x S1 ⟨xs,e,q⟩ as1 H1 v g1 ok1 rv=>?_) h⟩;by_cases ht:x = .tup xs
  ·subst ht;obtain⟨p,vs,rfl,hp,rr⟩:=rl_tup.mp rv;exact⟨p,rfl,.inr ⟨⟨vs,SqT.of hp⟩,q as1 H1 _ g1 ok1 (IW ok1 rv)⟩⟩
  ·obtain⟨p,vs,rfl,hq,rr⟩:=AK ok1 rv ht e;exact⟨p,rfl,.inl ⟨⟨vs,hq⟩,q as1 H1 _ g1 ok1 (IV ok1 rv ht e)⟩⟩
theorem IZ{T:List Str}{Δ:Nat->Sn}{k:Nat}{N:List Str}{sc:Scope}{tg r:Expr}{p q:Pos}{a:WE×WT}(C:Cok T Δ X k N sc)(hg:glo sc "range"=true)(ha:Good X r a)(hs:e7 r=true):GoodI X tg (.Call (.Name "range" p) [r] [] q) (NK a.1) where
 m:=fun ρ S P P' i h=>ha.m _ _ _ _ (fun x S1 ⟨j,e,z,q⟩=>⟨j,e,z,i _ _ _ q⟩) h
 pi:=by
  unfold glo at hg;simp only[Vz,beq_iff_eq,Wi]at hg;have gl:Gl X "range":=by show X.env.scope.names.lookup ("range":Str)=_;rw[C.hs];exact hg.1.1
  refine FS _ (KH gl C.rng (BF ha.pe C7 (j9 hs)) (j9 hs)) ?_;rintro σ H R ⟨as,ρ,S,ok,en,h⟩;refine⟨as,ρ,S,ok,en,ha.m _ _ _ _ (fun x S1 ⟨j,e,z,q⟩ as1 H1 v g1 ok1 rv=>?_) h⟩;subst e;refine⟨j,by rw[rl_int.mp rv],z.1,z.2,?_⟩;have:=q as1 H1 (Itr 0 (j - 0).toNat) g1 ok1 Nl
  rwa [Int.sub_zero]at this
theorem QB{as1:List Addr}{H1:Hp}{a:Addr}{k:Nat}{o:Obj}{ks:List (Key×V)}{kvs:List (Int×SV)}(ea:as1[k]?=some a):Walks K as1 H1 (Itk a o ks) (fun S'=>S'[k]?=some (.dcf o ks kvs)) (kvs.map fun p=>SV.int p.1):=fun as H S g ok kp=>by
 have ea':as[k]?=some a:=by
  obtain⟨t,rfl⟩:=g.pre;rw[WD ((gM ea).1)];exact ea
 obtain⟨h1,h2⟩:=(show RlO K as H a (.dcf o ks kvs) from ok.obj k _ a kp ea')
 refine⟨fun i x hx=>?_,by rw[h2.length,W2];exact WB _,h1⟩;rw[WG]at hx;cases hp:kvs[i]? with
 | none=>rw[hp]at hx;cases hx
 | some p=>
   rw[hp]at hx;cases hx;obtain⟨v,hv⟩:=h2.get hp;refine⟨⟨(gM hv).1,h1⟩,fun u H' yl=>?_⟩;obtain⟨rfl,q,hq,rfl⟩:=yl;rw[hv]at hq;cases hq;exact⟨Go.refl _ _,ok,rl_int.mpr rfl⟩
theorem Nm{tg r:Expr}{a:WE×WT}(ha:Good X r a):GoodI X tg r (VB a.1) where
 m:=fun ρ S P P' i h=>ha.m _ _ _ _ (fun x S1 ⟨k,kvs,e,hk,q⟩=>⟨k,kvs,e,hk,fun o ks=>i _ _ _ (q o ks)⟩) h
 pi:=FS _ (V9 ha.pe) (by
  rintro σ H R ⟨as,ρ,S,ok,en,h⟩;refine⟨as,ρ,S,ok,en,ha.m _ _ _ _ (fun x S1 ⟨k,kvs,e,hk,q⟩ as1 H1 v g1 ok1 rv=>?_) h⟩;subst e;obtain⟨a,ea,rfl⟩:=rl_loc.mp rv;obtain⟨ks,h1,h2⟩:=ok1.obj k _ a hk ea;refine⟨a,ks,rfl,.inl ⟨h1,fun o=>?_⟩⟩;obtain⟨ok2,ku⟩:=ok1.writeO (x := .dcf o ks kvs) (u := .frz o (.dK ks)) hk ea (fun ku=>⟨f6,RlD.mono (Wq _) ku kvs ks h2⟩);exact q o ks as1 _ (Itk a o ks) (g1.trans (Go.write (W5 ea))) ok2 (QB ea))
end
end Rf
namespace L2
open PySem PySem.Spec PyProof.Rows
noncomputable def RW(kx vx:Expr):Value->Env->Sem Unit:=fun acc env=>do
 let kv <- eval kx env
 let vv <- holding [kv] (eval vx env)
 match acc with
 | .ref d=>do
   standAt {kx.pos with endLine:=vx.pos.endLine,endCol:=vx.pos.endCol}
   holding [kv,vv] (dictSet d kv vv)
 | _=>unsupported "internal:dictcomp"
theorem Dk{prog:Program}{w:World}{A:Around}{kx vx tg iter:Expr}{ifs:List Expr}{scope:Scope}{pos:Pos}:CForm prog w A (.DictComp kx vx [⟨tg,iter,ifs,0⟩] scope pos) tg iter ifs (RW kx vx) where
 turn:=fun _ _ _=>rfl
 und:=fun _ _ _=>rfl
 den:=fun _ _ _=>rfl
 start:=fun h0 h=>codeAny_compStart_dict h0 h
noncomputable def QC(tk tv:TE)(D:Addr)(ks:List (Key×V))(σ:St)(H:Hp)(N:List (Key×V)->Hp->Prop):Prop:=
 tk σ H fun k H1=>tv σ H1 fun v H2=>∃ key,k=kV key/\H2 D=some (.dK ks)/\ks.length<sizeLine/\N (Ay ks key v) (upd H2 D (.dK (Ay ks key v)))
noncomputable def Ia(wi:TI)(g:TG)(tt:TT)(tk tv:TE)(k:Nat)(js:List Nat):TE:=fun σ H Q=>wi σ H fun J H1=>∀ D,H1 D=none->
 ∃ W:Nat->Nat->List (Key×V)->Hp->Prop,(∃ m,W 0 m [] (upd H1 D (.dK [])))/\Hs J g tt (QC tk tv D) (Ae k js σ) (fun H=>Q (.ref D) H) W
section
variable{X:Cx}{tg iter:Expr}{ifs:List Expr}{scope:Scope}{pos:Pos}{g:TG}{tt:TT}
theorem Gh{kx vx:Expr}{tk tv:TE}{own cn:List Str}(hk:∀ s2 H2 cs C fp,PE (c8 X scope (own++cn) s2 H2 cs C fp) kx tk)(hv:∀ s2 H2 cs C fp,PE (c8 X scope (own++cn) s2 H2 cs C fp) vx tv):
 ∀ D s2 H2 cs C fp pins s σ H (a:List (Key×V)) (N:List (Key×V)->Hp->Prop),Inv (c8 X scope (own++cn) s2 H2 cs C fp) pins σ H s->QC tk tv D a σ H N->wpAny (model X.prog X.w) X.A (RW kx vx (.ref D) (compEnvC scope cs C X.env)) (fun _ s1=>∃ σ1 a1 H1,Inv (c8 X scope (own++cn) s2 H2 cs C fp) pins σ1 H1 s1/\N a1 H1) (fun _ _=>False) s:=by
 intro D s2 H2 cs C fp pins s σ H ks N I h;refine wpAny_bind (thn (hk s2 H2 cs C fp pins s σ H _ I h) fun kv s1 ⟨k,H1,I1,r1,q1⟩=>?_);refine wpAny_bind (wpAny_holding (thn (hv s2 H2 cs C fp pins s1 σ H1 _ I1 q1) fun vv s3 ⟨v,H3,I3,r3,key,ek,eD,hl,q3⟩=>?_));subst ek;refine wpAny_bind (wpAny_standAt (wpAny_holding ?_));obtain⟨z,hd,vs,rel,dd⟩:=RG I3.hok eD;have hz:vs.length<=sizeLine:=by rw[<-rel.length];exact z
 have hlp:(Ay ks key v).length<=sizeLine:=by have:=Ba ks key v;omega
 refine wpAny_dictSet_pairs (EQ r1) dd (fun h' dd' hs=>?_) hz;have he:∃ q,h'.get? D=some q:=let ⟨q,_,_,hq,_⟩:=dd';⟨q,hq⟩
 exact⟨_,_,_,F9 I3 (by rw[eD];exact True.intro) hs he (FA hlp hd (rel.put key r3) dd'),q3⟩
theorem Nn{wi:TI}{kx vx:Expr}{tk tv:TE}(own cn:List Str)(js:List Nat)(hi:PI X tg iter wi)(hg:∀ s2 H2 cs C fp,PG (c8 X scope (own++cn) s2 H2 cs C fp) tg g)(ht:∀ s2 H2 cs C fp,C8 (c8 X scope (own++cn) s2 H2 cs C fp) ifs tt)
 (hk:∀ s2 H2 cs C fp,PE (c8 X scope (own++cn) s2 H2 cs C fp) kx tk) (hv:∀ s2 H2 cs C fp,PE (c8 X scope (own++cn) s2 H2 cs C fp) vx tv) (hc:X.calm=true) (hok:j8 X.env.scope scope own cn X.N js=true)
 (hs:∀ x,foldedSetIterable iter X.env x=pure x):PE X (.DictComp kx vx [⟨tg,iter,ifs,0⟩] scope pos) (Ia wi g tt tk tv own.length js):=by
 intro pins s σ H Q I h;have hok':=hok;unfold j8 at hok';simp only[Vz,decide_eq_true_eq,Wa,XC,Wi,decide_eq_false_iff_not]at hok';obtain⟨⟨⟨⟨⟨⟨k1,k2⟩,k3⟩,k4⟩,k5⟩,k6⟩,k7⟩:=hok'
 have hfree:∀ x∈scope.names,x.2 = .free->∃ c,X.env.cells.lookup x.1=some c:=fun x hx hf=>I.ok.has x.1 (by
  rcases k2 x hx with(z | z) | z
  ·exact absurd hf z
  ·exact .inl z
  ·exact .inr z)
 rw[arm_eval_DictComp];refine wpAny_comprehension_free (use:=none) rfl hs (n9 hfree) k1 (fun x hx hl=>?_) (thn (hi pins s σ H _ I h) fun v s1 h1=>thn h1 fun itv s2 h2=>?_)
 ·have:=g7 k3 (show(x.1,x.2)∈scope.names from hx);rw[this,hl]
 ·obtain⟨it,fp,tn,J,H2,e,I2,T,st2,f2,q⟩:=h2;subst e;refine Ai (RR:=fun acc C=>compPost (model X.prog X.w) X.A X.xe none (EP X pins σ Q) acc C) (o0:={cls := .type "dict",data := .dict #[]}) (u0 := .dK []) (a0:=[]) (tem:=QC tk tv) Dk (fun hq=>wpAny_newObj_type hq) rfl (fun H h e=>?_) hok hc hg ht (Gh hk hv) I2 T st2 f2 (q _ I2.fresh) ?_
  ·exact FA (XQ _) (beq_eq_false_iff_ne.mpr (Ne.symm (WR I2.big))) .nil (let ⟨o,es,ep,ho,r⟩:=Zh.new (knd:=j4 X.prog X.w) s2.heap;by
    rw[WL _ rfl]at ho;cases ho;exact⟨_,es,ep,e,r⟩)
  intro C H' s' I' fC ⟨m,hn⟩ q';obtain⟨f0,f1,f2',f3,f4,f5⟩:=fC;refine⟨m,hn,fun h' hs'=>⟨.ref s2.heap.objs.size,H',?_,rfl,q'⟩⟩;exact I'.turned (t':=s'.toks) (fun b o hb e=>(hs'.2 b hb).trans e) f0 f1 f3 f4 f5
end
noncomputable def SetXO(prog:Program)(w:World)(o:Obj)(L:List Int):Prop:=
 ∃ es ep t,o.ExactSet/\o.data = .set es ep t/\ElemsOf (intKind prog w) es.toList/\es.size<scanBound/\t.fits es.size=true/\Tab w t/\(es.toList.map fun e=>numOf e.2).Perm L
theorem SetXO.at{prog:Program}{w:World}{o:Obj}{L:List Int}{h:Heap}{a:Addr}(x:SetXO prog w o L)(e:h.get? a=some o):SetX prog w h a L:=let ⟨es,ep,t,r⟩:=x;⟨o,es,ep,t,e,r⟩
theorem SetX.obj{prog:Program}{w:World}{L:List Int}{h:Heap}{a:Addr}(x:SetX prog w h a L):∃ o,h.get? a=some o/\SetXO prog w o L:=let ⟨o,es,ep,t,e,r⟩:=x;⟨o,e,es,ep,t,r⟩
noncomputable def hoS(o:Obj)(L:List Int):HO := .frz o (.set (fun k=>decide (k∈L)) L.length)
theorem No{P:Program}{w:World}{H:Hp}{h:Heap}{a:Addr}{o:Obj}{L:List Int}(x:SetXO P w o L)(e:h.get? a=some o):ObjOk P w H h a (hoS o L):=by
 refine⟨e,?_⟩;show h.SetOf (intKind P w) a _ _;exact(x.at e).kind
noncomputable def RX(elt:Expr):Value->Env->Sem Unit:=fun acc env=>do
 let v <- eval elt env
 standAt elt.pos
 let _ <- call (.builtin "set.add") [acc,v]
theorem BU{prog:Program}{w:World}{A:Around}{R:Result->Shared->Prop}{s:Shared}{elt target iter ifs rest scope pos it acc env}
 (h0:codeAny (model prog w) A (.compLoop (.SetComp elt (⟨target,iter,ifs,0⟩::rest) scope pos) 0 it acc env) R s)
 (h:wpAny (model prog w) A (pyIter it) (fun it' s'=>codeAny (model prog w) A (.compLoop (.SetComp elt (⟨target,iter,ifs,0⟩::rest) scope pos) 0 it' acc env) R s')
   (notedBy (model prog w) A env fun x s'=>R (.error x) s') s):
 codeAny (model prog w) A (.compStart (.SetComp elt (⟨target,iter,ifs,0⟩::rest) scope pos) 0 it acc env) R s:=by
 refine codeAny_of_tree ?_;show wpAny _ A ((compStart (.SetComp elt (⟨target,iter,ifs,0⟩::rest) scope pos) 0 it acc env).onRaise (fun x=>do noteFrame x env;standAt theWindowsPlace)) _ _ s;refine wpAny_notedAt ?_;unfold compStart;show wpAny _ A (ask >>= _) _ _ s;refine wpAny_bind (wpAny_askSetting (wpAny_ite ?_));split
 ·first
   | exact wpAny_bind (wpAny_pure (wpAny_pure (And.intro rfl h0)))
   | exact wpAny_pure (And.intro rfl h0)
 ·first
   | exact wpAny_bind (wpAny_rule (wpAny_bind (wpAny_standAt (wpAny_bind (wpAny_mono h (fun it' s' h'=>wpAny_pure (And.intro rfl h')) fun _ _ x=>x)))))
   | (refine wpAny_bind (wpAny_rule ?_);show wpAny _ _ (standAt iter.pos >>= _) _ _ s;exact wpAny_bind (wpAny_standAt (wpAny_bind (wpAny_mono h (fun it' s' h'=>wpAny_pure (And.intro rfl h')) fun _ _ x=>x))))
theorem LF{prog:Program}{w:World}{A:Around}{elt tg iter:Expr}{ifs:List Expr}{scope:Scope}{pos:Pos}:CForm prog w A (.SetComp elt [⟨tg,iter,ifs,0⟩] scope pos) tg iter ifs (RX elt) where
 turn:=fun _ _ _=>rfl
 und:=fun _ _ _=>rfl
 den:=fun _ _ _=>rfl
 start:=fun h0 h=>BU h0 h
section
variable{prog:Program}{w:World}{A:Around}{E:Value->Shared->Prop}{s:Shared}
theorem QD{Q:Value->Shared->Prop}(h:Q (.ref s.heap.objs.size) {s with heap:=s.heap.push (CB w)}):wpAny (model prog w) A (newSet (.type "set")) Q E s:=by
 unfold newSet setsByText;refine wpAny_bind (wpAny_bind (wpAny_askSetting (wpAny_pure ?_)));exact wpAny_newObj_type h
theorem QF{H:Hp}{a:Addr}{u v:HO}:upd (upd H a u) a v=upd H a v:=by
 funext b
 by_cases hb:b=a
 ·subst hb;rw[f6,f6]
 ·rw[upd_ne hb,upd_ne hb,upd_ne hb]
theorem Np{a:Addr}{L:List Int}{k:Int}{tk:Tok}{Q:Value->Shared->Prop}(hX:SetX prog w s.heap a L)(hroom:L.length+1<scanBound)
 (h:∀ h',Wv a s.heap h'->SetX prog w h' a (step_dedup L k)->Q .none {s with heap:=h',toks:=s.toks+1}):wpAny (model prog w) A (call (.builtin "set.add") [.ref a,.int k tk]) Q E s:=by
 have hT:s.TypeIs (.ref a) "set":=by
  obtain⟨o,es,ep,t,ho,hx,r⟩:=hX;exact⟨o,ho,hx.1⟩
 refine wpAny_call_entry F.slot_set_add hT F.entry_set_add ?_ (F.args_set_add_2 _ _);unfold Builtin.«set.add» Builtin.Frozenset.oneOther;simp only[List.isEmpty_nil,bind_assoc];unfold Builtin.Frozenset.addrOf setAdd;refine wpAny_bind (wpAny_pure ?_)
 try dsimp only
 refine wpAny_bind (wpAny_pure ?_)
 try dsimp only
 refine wpAny_bind ?_;refine wpAny_holding ?_;refine wpAny_bind ((intKind prog w).pyHash (k:=k) (intKind_is _ _ _ _) ?_);refine Us (s:={s with toks:=s.toks+1}) hX hroom fun h' b hsb hS'=>?_;show wpAny _ _ (ret Value.none) _ _ _;exact wpAny_pure ⟨_,rfl,h h' hsb hS'⟩
end
noncomputable def Tf(P:Program)(w:World)(te:TE)(D:Addr)(L:List Int)(σ:St)(H:Hp)(N:List Int->Hp->Prop):Prop:=
 te σ H fun v H4=>∃ k o,v = .int k/\SetXO P w o L/\H4 D=some (hoS o L)/\L.length<=900/\∀ o',SetXO P w o' (step_dedup L k)->N (step_dedup L k) (upd H4 D (hoS o' (step_dedup L k)))
noncomputable def Jg(P:Program)(w:World)(wi:TI)(g:TG)(tt:TT)(te:TE)(k:Nat)(js:List Nat):TE:=fun σ H Q=>wi σ H fun J H1=>∀ D,H1 D=none->
 ∃ W:Nat->Nat->List Int->Hp->Prop,(∃ m,∀ o,SetXO P w o []->W 0 m [] (upd H1 D (hoS o [])))/\Hs J g tt (Tf P w te D) (Ae k js σ) (fun H=>∃ L o,SetXO P w o L/\H D=some (hoS o L)/\L.length<64/\∀ l,H l=none->Q (.ref l) (upd H l (.lst ((srt L).map V.int)))) W
section
variable{X:Cx}{tg iter:Expr}{ifs:List Expr}{scope:Scope}{pos:Pos}{g:TG}{tt:TT}
theorem Nq{elt:Expr}{te:TE}{own cn:List Str}(he:∀ s2 H2 cs C fp,PE (c8 X scope (own++cn) s2 H2 cs C fp) elt te):
 ∀ D s2 H2 cs C fp pins s σ H (a:List Int) (N:List Int->Hp->Prop),Inv (c8 X scope (own++cn) s2 H2 cs C fp) pins σ H s->Tf X.prog X.w te D a σ H N->wpAny (model X.prog X.w) X.A (RX elt (.ref D) (compEnvC scope cs C X.env)) (fun _ s1=>∃ σ1 a1 H1,Inv (c8 X scope (own++cn) s2 H2 cs C fp) pins σ1 H1 s1/\N a1 H1) (fun _ _=>False) s:=by
 intro D s2 H2 cs C fp pins s σ H L N I h;refine wpAny_bind (thn (he s2 H2 cs C fp pins s σ H _ I h) fun v s1 ⟨x,H1,I1,r1,k,o,ex,ho,eD,hl,q1⟩=>?_);subst ex;obtain⟨tk,rfl⟩:=r1;have hX:SetX X.prog X.w s1.heap D L:=ho.at (I1.hok D _ eD).1;refine wpAny_bind (wpAny_standAt (wpAny_bind (Np hX (by show _<4096;omega) fun h' hs X'=>wpAny_pure ?_)));obtain⟨o',ho',xo'⟩:=X'.obj;have eS:ObjOk X.prog X.w (upd H1 D (.set (fun k=>decide (k∈L)) L.length)) s1.heap D (.set (fun k=>decide (k∈L)) L.length):=hX.kind;have I2:=I1.retag (u' := .set (fun k=>decide (k∈L)) L.length) eD (fun _ z=>by cases z) (fun _ z=>by cases z) (fun _ z=>by cases z) (fun o xs z=>by injection z with z1 z2;cases z2) eS;have I3:=I2.write (x:=D) (e:=D) (o:=hoS o' (step_dedup L k)) (h':=h') (t':=s1.toks+1) (by rw[f6];exact True.intro) (.inl rfl) (fun b u hb e=>(hs.2 b hb).trans e) ⟨o',ho'⟩ (No xo' ho');rw[QF]at I3;exact⟨_,_,_,I3,q1 o' xo'⟩
theorem LG{wi:TI}{elt:Expr}{te:TE}{p1 pos1:Pos}(own cn:List Str)(js:List Nat)(hi:PI X tg iter wi)(hg:∀ s2 H2 cs C fp,PG (c8 X scope (own++cn) s2 H2 cs C fp) tg g)(ht:∀ s2 H2 cs C fp,C8 (c8 X scope (own++cn) s2 H2 cs C fp) ifs tt)
 (he:∀ s2 H2 cs C fp,PE (c8 X scope (own++cn) s2 H2 cs C fp) elt te) (hc:X.calm=true) (hok:j8 X.env.scope scope own cn X.N js=true)
 (hs:∀ x,foldedSetIterable iter X.env x=pure x) (hl:Gl X "sorted") (hml:X.mg "sorted"=none)
 (h2:starEach [.SetComp elt [⟨tg,iter,ifs,0⟩] scope pos] X.env=(false,eval (.SetComp elt [⟨tg,iter,ifs,0⟩] scope pos) X.env)::starEach [] X.env:=by rfl)
 (h3:(backTo pos1 (starEach [] X.env)).any (·.1)=false:=by rfl):PE X (.Call (.Name "sorted" p1) [.SetComp elt [⟨tg,iter,ifs,0⟩] scope pos] [] pos1) (Jg X.prog X.w wi g tt te own.length js):=by
 intro pins s σ H Q I h;have hok':=hok;unfold j8 at hok';simp only[Vz,decide_eq_true_eq,Wa,XC,Wi,decide_eq_false_iff_not]at hok';obtain⟨⟨⟨⟨⟨⟨k1,k2⟩,k3⟩,k4⟩,k5⟩,k6⟩,k7⟩:=hok'
 have hfree:∀ x∈scope.names,x.2 = .free->∃ c,X.env.cells.lookup x.1=some c:=fun x hx hf=>I.ok.has x.1 (by
  rcases k2 x hx with(z | z) | z
  ·exact absurd hf z
  ·exact .inl z
  ·exact .inr z)
 refine wpAny_Call_Name_kw (AY I hl hml ET ?_ (by decide) (by decide));refine PyProof.Rows.callWith_builtin1 ?_ h2 h3;rw[h2];show wpAny _ _ (spliced ((false,eval (.SetComp elt [⟨tg,iter,ifs,0⟩] scope pos) X.env)::backTo pos1 (starEach [] X.env))) _ _ s;refine Calls.spliced_cons ?_;rw[arm_eval_SetComp];refine wpAny_comprehension_free (use:=none) rfl hs (n9 hfree) k1 (fun x hx hl=>?_) (thn (hi pins s σ H _ I h) fun v s1 h1=>thn h1 fun itv s2 h2=>?_)
 ·have:=g7 k3 (show(x.1,x.2)∈scope.names from hx);rw[this,hl]
 ·obtain⟨it,fp,tn,J,H2,e,I2,T,st2,f2,q⟩:=h2;subst e;obtain⟨W,⟨m0,w0⟩,cw⟩:=q _ I2.fresh
  have x0:SetXO X.prog X.w (CB X.w) []:=by
   obtain⟨o,ho,xo⟩:=(Mn (prog:=X.prog) (w:=X.w) s2.heap).obj;rw[WL _ rfl]at ho;cases ho;exact xo
  refine Ai (α:=List Int) (RR:=fun acc C=>compPost (model X.prog X.w) X.A X.xe none _ acc C) (o0:=CB X.w) (u0:=hoS (CB X.w) []) (a0:=[]) (tem:=Tf X.prog X.w te) LF (fun hq=>QD hq) rfl (fun H h e=>No x0 e) hok hc hg ht (Nq he) I2 T st2 f2 ⟨W,⟨m0,w0 _ x0⟩,cw⟩ ?_;intro C H' s' I' fC ⟨m,hn⟩ ⟨L,o,xo,eD,hL,q'⟩;obtain⟨f0,f1,f2',f3,f4,f5⟩:=fC;refine⟨m,hn,fun h' hs'=>?_⟩;have I3:Inv X pins σ H' {s' with heap:=h'}:=I'.turned (t':=s'.toks) (fun b o hb e=>(hs'.2 b hb).trans e) f0 f1 f3 f4 f5;have hX:SetX X.prog X.w h' s2.heap.objs.size L:=xo.at (I3.hok _ _ eD).1;refine Calls.spliced_nil ?_;refine JK (s:={s' with heap:=h'}) (I3.ok.hd hc) hX (ZF hL (by decide)) fun h3 tk3 d l out e k3 hz3 hl3 ho3=>?_;have J:=(I3.dr d).laid (h':=h3) (a:=l) (o := .lst ((srt L).map V.int)) (t':=tk3) k3 hz3 (show ObjOk X.prog X.w _ _ _ (.lst ((srt L).map V.int)) from ⟨?_,out.toList,e,Bq ho3,by simpa using hl3⟩)
  ·exact⟨.ref l,_,J,rfl,q' l ((I3.dr d).hok.fresh hz3)⟩
  ·rw[W2,(At _).length_eq];exact XT (EM (by omega))
end
open PySem PySem.Spec PyProof.Rows
section
variable{X:Cx}{tg iter:Expr}{ifs:List Expr}{scope:Scope}{pos:Pos}{g:TG}{tt:TT}
theorem Gi{wi:TI}{kx vx:Expr}{tk tv:TE}{i:Nat}{x:Str}{px spos:Pos}(own cn:List Str)(js:List Nat)(hN:X.N.Nodup)(hix:X.N[i]?=some x)(hx:X.env.scope.names.lookup x=some .local)(hi:PI X tg iter wi)
 (hg:∀ s2 H2 cs C fp,PG (c8 X scope (own++cn) s2 H2 cs C fp) tg g) (ht:∀ s2 H2 cs C fp,C8 (c8 X scope (own++cn) s2 H2 cs C fp) ifs tt)
 (hk:∀ s2 H2 cs C fp,PE (c8 X scope (own++cn) s2 H2 cs C fp) kx tk) (hv:∀ s2 H2 cs C fp,PE (c8 X scope (own++cn) s2 H2 cs C fp) vx tv) (hc:X.calm=true) (hok:j8 X.env.scope scope own cn X.N js=true)
 (hsw:swapsWith (.DictComp kx vx [⟨tg,iter,ifs,0⟩] scope pos) (some (.Name x px)) spos.line X.env=pure true)
 (hs:∀ x,foldedSetIterable iter X.env x=pure x):PS X (.Assign [.Name x px] (.DictComp kx vx [⟨tg,iter,ifs,0⟩] scope pos) spos) (Hf (Ia wi g tt tk tv own.length js) (Fv i)):=by
 intro pins s σ H D I h;have hok':=hok;unfold j8 at hok';simp only[Vz,decide_eq_true_eq,Wa,XC,Wi,decide_eq_false_iff_not]at hok';obtain⟨⟨⟨⟨⟨⟨k1,k2⟩,k3⟩,k4⟩,k5⟩,k6⟩,k7⟩:=hok'
 have hfree:∀ x∈scope.names,x.2 = .free->∃ c,X.env.cells.lookup x.1=some c:=fun x hx hf=>I.ok.has x.1 (by
  rcases k2 x hx with(z | z) | z
  ·exact absurd hf z
  ·exact .inl z
  ·exact .inr z)
 rw[exec_Assign_Name_used _ _ _ _ hsw];refine wpAny_bind (wpAny_standAt (wpAny_bind ?_));show wpAny _ X.A (do let _ <- comprehension (.DictComp kx vx [⟨tg,iter,ifs,0⟩] scope pos) scope X.env _ newDict false (eval iter X.env) (some (assign (.Name x px) X.env))) _ _ s
 refine wpAny_bind (wpAny_mono (wpAny_comprehension_free (use:=some (assign (.Name x px) X.env)) (Q:=fun _ s'=>SP X pins D .next s') rfl hs (n9 hfree) k1 (fun x hx hl=>?_)
  (thn (hi pins s σ H _ I h) fun v s1 h1=>thn h1 fun itv s2 h2=>?_)) (fun _ s' hq=>wpAny_pure (wpAny_pure hq)) fun _ _ e=>e)
 ·have:=g7 k3 (show(x.1,x.2)∈scope.names from hx);rw[this,hl]
 ·obtain⟨it,fp,tn,J,H2,e,I2,T,st2,f2,q⟩:=h2;subst e;refine Ai (RR:=fun acc C=>compPost (model X.prog X.w) X.A X.xe (some (assign (.Name x px) X.env)) (fun _ s'=>SP X pins D .next s') acc C) (o0:={cls := .type "dict",data := .dict #[]}) (u0 := .dK []) (a0:=[]) (tem:=QC tk tv) Dk (fun hq=>wpAny_newObj_type hq) rfl (fun H h e=>?_) hok hc hg ht (Gh hk hv) I2 T st2 f2 (q _ I2.fresh) ?_
  ·exact FA (XQ _) (beq_eq_false_iff_ne.mpr (Ne.symm (WR I2.big))) .nil (let ⟨o,es,ep,ho,r⟩:=Zh.new (knd:=j4 X.prog X.w) s2.heap;by
    rw[WL _ rfl]at ho;cases ho;exact⟨_,es,ep,e,r⟩)
  intro C H' s' I' fC ⟨m,hn⟩ q';obtain⟨f0,f1,f2',f3,f4,f5⟩:=fC;show wpAny _ X.A (assign (.Name x px) X.env (.ref s2.heap.objs.size)) _ _ _;refine wpAny_assign_Name (Ce I' hN hix (.inl hx) (v := .ref s2.heap.objs.size) rfl (fun s3 I3 hch=>?_) (.inr hx));obtain⟨a,hsb,ha⟩:=hch
  have hCa:C≠a:=by
   rcases ha with z | z
   ·rw[z];exact f1
   ·exact fun e=>f4 x a z e.symm
  refine⟨m,hn.sameBut hsb hCa,fun h' hs'=>?_⟩;exact⟨_,H',I3.turned (t':=s3.toks) (fun b o hb e=>(hs'.2 b hb).trans e) f0 f1 f3 f4 f5,q'⟩
end
end L2
namespace Rf
open PySem L2
theorem join_some{α:Type}{o:Option (Option α)}{x:α}(h:o.join=some x):o=some (some x):=by
 cases o with
 | none=>cases h
 | some o=>cases o with
   | none=>cases h
   | some y=>cases h;rfl
theorem EnvOk.cap{K:Vy}{as:List Addr}{H:Hp}{σ:St}{ρ:EnvS}(h:EnvOk K as H σ ρ)(k:Nat)(js:List Nat):EnvOk K as H (Ae k js σ) (BT k js ρ):=by
 refine⟨by unfold Ae BT;simp,fun i x e=>?_⟩;unfold BT at e;unfold Ae;by_cases hi:i<k
 ·rw[WD (by simpa using hi),XM,if_pos hi]at e;cases e
 ·rw[Wh (by simpa using hi),Xf,WG]at e;rw[Wh (by simpa using hi),Xf,WG];cases hj:js[i - k]? with
  | none=>rw[hj]at e;cases e
  | some j=>
    rw[hj]at e;have e':(ρ[j]?).join=some x:=oj e;obtain⟨v,hv,rv⟩:=h.2 j x (join_some e');exact⟨v,by simp only[Xx];rw[hv];rfl,rv⟩
theorem Ok.adopt{K:Vy}{as:List Addr}{H:Hp}{S:Sto}{D:Addr}{vs:List V}{xs:List SV}(h:Ok K as H S)(n:D∉as)(hD:H D=some (.lst vs))(r:RlAll K as H vs xs):Ok K (as++[D]) H (S++[.lst xs]):=by
 have pre:as <+: as++[D]:=XW _ _;refine⟨by rw[W3,W3,h.len];rfl,?_,fun k o a e ea=>?_⟩
 ·rw[Xd];refine⟨h.nd,by simp,fun a ha b hb=>?_⟩;rw[W6.mp hb];intro z;subst z;exact n ha
 ·by_cases hk:k<S.length
  ·rw[WD hk]at e;rw[WD (by rw[h.len];exact hk)]at ea;exact(h.obj k o a e ea).mono pre (KeepU.refl _) fun _ z=>z
  ·have hk':k=S.length:=by
    have:=(gM e).1;rw[W3,We]at this;omega
   subst hk';rw[Wc]at e;rw[<-h.len,Wc]at ea;cases e;cases ea;exact⟨vs,hD,RlAll.mono pre (KeepU.refl _) xs vs r⟩
theorem CD{keep:Sto->Prop}{g:Tg}{t:WT}{e:WE}{ρ:EnvS}(mt:MonoT t)(me:Mono e){Q Q':List SV->Sto->Prop}(i:∀ ys S,Q ys S->Q' ys S):∀(xs ys:List SV) (S:Sto),u9 keep g t e ρ Q xs ys S->u9 keep g t e ρ Q' xs ys S
 | [],ys,S,h=>by unfold u9 at h ⊢;exact⟨h.1,i _ _ h.2⟩
 | x::xs,ys,S,h=>by
   unfold u9 at h ⊢;refine⟨h.1,m6 g (fun ρ2 q=>mt _ _ _ _ (fun b S1 q=>j0 (fun q=>me _ _ _ _ (fun y S2 q=>⟨q.1,CD mt me i xs _ _ q.2⟩) q) (fun q=>CD mt me i xs _ _ q) q) q) h.2⟩
theorem Mono.comp{k:Nat}{js:List Nat}{g:Tg}{i:WI}{t:WT}{e:WE}(mi:MonoI i)(mt:MonoT t)(me:Mono e):Mono (JW k js g i t e):=fun ρ S P P' im h=>mi _ _ _ _ (fun keep xs S1 h=>CD mt me (fun ys S2 q=>im _ _ q) xs [] S1 h) h
theorem Gj{K:Vy}{k:Nat}{js:List Nat}{g:Tg}{i:WI}{t:WT}{e:WE}(mi:MonoI i)(mt:MonoT t)(me:Mono e):∀ σ H Q,lift K (JW k js g i t e) σ H Q->MO (liftI K i) (Bf K g) (liftT K t) (lift K e) k js σ H Q:=by
 rintro σ H Q ⟨as,ρ,S,ok,en,h⟩;refine⟨as,ρ,S,ok,en,mi _ _ _ _ (fun keep xs S1 h as1 H1 J g1 ok1 W=>?_) h⟩;intro D hD;have Dn:D∉as1:=ok1.free hD
 refine⟨fun i m vs H2=>m=xs.length - i/\i<=xs.length/\∃ as2 S2 ys,Go as1 H1 as2 H2/\Ok K as2 H2 S2/\D∉as2/\H2 D=some (.lst vs)/\RlAll K as2 H2 vs ys/\
  u9 keep g t e (BT k js ρ) (fun ys S2=>Post K as H Q (.loc S2.length) (S2++[.lst ys])) (xs.drop i) ys S2,⟨xs.length,by simp,XQ _,as1,S1,[],Go.new hD,ok1.new hD,Dn,f6,.nil,h⟩,?_⟩
 rintro i m vs H2 ⟨rfl,hi,as2,S2,ys,g2,ok2,n2,d2,rs,h⟩;by_cases hlt:i<xs.length
 ·right;rw[X8 hlt]at h;unfold u9 at h;obtain⟨kp,h⟩:=h;obtain⟨w1,_⟩:=W as2 H2 S2 (g2.gu ok1) ok2 kp;obtain⟨go,yl⟩:=w1 i xs[i] (W0 hlt)
  refine⟨go,fun vs' H'=>∃ as2 S2 ys,Go as1 H1 as2 H'/\Ok K as2 H' S2/\D∉as2/\H' D=some (.lst vs')/\RlAll K as2 H' vs' ys/\
   u9 keep g t e (BT k js ρ) (fun ys S2=>Post K as H Q (.loc S2.length) (S2++[.lst ys])) (xs.drop (i+1)) ys S2,fun vs' H' z=>⟨xs.length - (i+1),by omega,rfl,hlt,z⟩,fun x H3 y3=>?_⟩
  obtain⟨g3,ok3,rx⟩:=yl x H3 y3;have en3:EnvOk K as2 H3 (Ae k js σ) (BT k js ρ):=((en.mono g1.pre (g1.ku ok)).mono (g2.trans g3).pre ((g2.trans g3).ku ok1)).cap k js;have rs3:=RlAll.mono g3.pre (g3.ku ok2) ys vs rs;obtain⟨d3,n3⟩:=g3.keep D _ d2 n2;refine⟨as2,BT k js ρ,S2,_,ok3,en3,rx,m6 g (fun ρ2 q σ2 en2=>?_) h⟩;refine⟨as2,ρ2,S2,ok3,en2,mt _ _ _ _ (fun b S4 q as4 H4 g4 ok4=>?_) q⟩;obtain⟨d4,n4⟩:=g4.keep D _ d3 n3;have rs4:=RlAll.mono g4.pre (g4.ku ok3) ys vs rs3;refine j0 (fun q=>?_) (fun q=>?_) q
  ·refine⟨as4,ρ2,S4,ok4,en2.mono g4.pre (g4.ku ok3),me _ _ _ _ (fun y S5 q as5 H5 v g5 ok5 rv=>?_) q⟩;obtain⟨d5,n5⟩:=g5.keep D _ d4 n4;have rs5:=RlAll.mono g5.pre (g5.ku ok4) ys vs rs4;refine⟨d5,by rw[rs.length];exact Cl q.1,as5,S5,ys++[y],?_,ok5.other d5 n5,n5,f6,?_,q.2⟩
   ·refine⟨(((g2.trans g3).trans g4).trans g5).pre,fun b o hb nb=>?_⟩;obtain⟨z1,z2⟩:=(((g2.trans g3).trans g4).trans g5).keep b o hb nb;exact⟨by rw[upd_ne (e8 hb hD)];exact z1,z2⟩
   ·exact RlAll.mono (Wq _) (Ax d5 rfl) _ _ (rs5.append (.cons rv .nil))
  ·exact⟨as4,S4,ys,(g2.trans g3).trans g4,ok4,n4,d4,rs4,q⟩
 ·left;have hi':i=xs.length:=by omega
  subst hi';rw[XY]at h;unfold u9 at h;obtain⟨kp,h⟩:=h;obtain⟨_,w2⟩:=W as2 H2 S2 (g2.gu ok1) ok2 kp;refine⟨w2,h (as2++[D]) H2 (.ref D) ?_ (ok2.adopt n2 d2 rs) (rl_loc.mpr ⟨D,by rw[<-ok2.len,Wc],rfl⟩)⟩;refine⟨(g1.pre.trans g2.pre).trans (XW _ _),fun b o hb nb=>?_⟩;obtain⟨h1,n1⟩:=g1.keep b o hb nb;obtain⟨h2,n2'⟩:=g2.keep b o h1 n1;refine⟨h2,?_⟩;rw[WJ,W6];rintro(z | z)
  ·exact n2' z
  ·exact e8 h1 hD z
theorem Ok.adoptO{K:Vy}{as:List Addr}{H:Hp}{S:Sto}{D:Addr}{x:SO}(h:Ok K as H S)(n:D∉as)(r:RlO K (as++[D]) H D x):Ok K (as++[D]) H (S++[x]):=by
 have pre:as <+: as++[D]:=XW _ _;refine⟨by rw[W3,W3,h.len];rfl,?_,fun k o a e ea=>?_⟩
 ·rw[Xd];refine⟨h.nd,by simp,fun a ha b hb=>?_⟩;rw[W6.mp hb];intro z;subst z;exact n ha
 ·by_cases hk:k<S.length
  ·rw[WD hk]at e;rw[WD (by rw[h.len];exact hk)]at ea;exact(h.obj k o a e ea).mono pre (KeepU.refl _) fun _ z=>z
  ·have hk':k=S.length:=by
    have:=(gM e).1;rw[W3,We]at this;omega
   subst hk';rw[Wc]at e;rw[<-h.len,Wc]at ea;cases e;cases ea;exact r
theorem Ok.otherO{K:Vy}{as:List Addr}{H:Hp}{S:Sto}(h:Ok K as H S){b:Addr}{u v:HO}(hb:H b=some u)(hi:imm u=false)(n:b∉as):Ok K as (upd H b v) S:=⟨h.len,h.nd,fun k o a e ea=>(h.obj k o a e ea).mono (Wq as) (Ax hb hi) fun ws hw=>by
 rw[upd_ne (fun z=>n (by rw[<-z];exact W5 ea))];exact hw⟩
theorem Bh{keep:Sto->Prop}{g:Tg}{t:WT}{e f:WE}{ρ:EnvS}(mt:MonoT t)(me:Mono e)(mf:Mono f){Q Q':List (Int×SV)->Sto->Prop}(i:∀ ys S,Q ys S->Q' ys S):∀(xs:List SV) (ys:List (Int×SV)) (S:Sto),v4 keep g t e f ρ Q xs ys S->v4 keep g t e f ρ Q' xs ys S
 | [],ys,S,h=>by unfold v4 at h ⊢;exact⟨h.1,i _ _ h.2⟩
 | x::xs,ys,S,h=>by
   unfold v4 at h ⊢;refine⟨h.1,m6 g (fun ρ2 q=>mt _ _ _ _ (fun b S1 q=>j0 (fun q=>me _ _ _ _ (fun y S2 q=>mf _ _ _ _ (fun z S3 ⟨j,a,b,c⟩=>⟨j,a,b,Bh mt me mf i xs _ _ c⟩) q) q) (fun q=>Bh mt me mf i xs _ _ q) q) q) h.2⟩
theorem Mono.dcomp{k:Nat}{js:List Nat}{g:Tg}{i:WI}{t:WT}{e f:WE}(mi:MonoI i)(mt:MonoT t)(me:Mono e)(mf:Mono f):Mono (FM k js g i t e f):=fun ρ S P P' im h=>mi _ _ _ _ (fun keep xs S1 h=>Bh mt me mf (fun ys S2 q=>im _ _ q) xs [] S1 h) h
theorem Ee{K:Vy}{k:Nat}{js:List Nat}{g:Tg}{i:WI}{t:WT}{e f:WE}(mi:MonoI i)(mt:MonoT t)(me:Mono e)(mf:Mono f):∀ σ H Q,lift K (FM k js g i t e f) σ H Q->Ia (liftI K i) (Bf K g) (liftT K t) (lift K e) (lift K f) k js σ H Q:=by
 rintro σ H Q ⟨as,ρ,S,ok,en,h⟩;refine⟨as,ρ,S,ok,en,mi _ _ _ _ (fun keep xs S1 h as1 H1 J g1 ok1 W=>?_) h⟩;intro D hD;have Dn:D∉as1:=ok1.free hD
 refine⟨fun i m ks H2=>m=xs.length - i/\i<=xs.length/\∃ as2 S2 kvs,Go as1 H1 as2 H2/\Ok K as2 H2 S2/\D∉as2/\H2 D=some (.dK ks)/\RlD K as2 H2 ks kvs/\
  v4 keep g t e f (BT k js ρ) (fun kvs S2=>Post K as H Q (.loc S2.length) (S2++[.dct kvs])) (xs.drop i) kvs S2,⟨xs.length,by simp,XQ _,as1,S1,[],Go.new hD,ok1.new hD,Dn,f6,rfl,h⟩,?_⟩
 rintro i m ks H2 ⟨rfl,hi,as2,S2,kvs,g2,ok2,n2,d2,rs,h⟩;by_cases hlt:i<xs.length
 ·right;rw[X8 hlt]at h;unfold v4 at h;obtain⟨kp,h⟩:=h;obtain⟨w1,_⟩:=W as2 H2 S2 (g2.gu ok1) ok2 kp;obtain⟨go,yl⟩:=w1 i xs[i] (W0 hlt)
  refine⟨go,fun ks' H'=>∃ as2 S2 kvs,Go as1 H1 as2 H'/\Ok K as2 H' S2/\D∉as2/\H' D=some (.dK ks')/\RlD K as2 H' ks' kvs/\
   v4 keep g t e f (BT k js ρ) (fun kvs S2=>Post K as H Q (.loc S2.length) (S2++[.dct kvs])) (xs.drop (i+1)) kvs S2,fun vs' H' z=>⟨xs.length - (i+1),by omega,rfl,hlt,z⟩,fun x H3 y3=>?_⟩
  obtain⟨g3,ok3,rx⟩:=yl x H3 y3;have en3:EnvOk K as2 H3 (Ae k js σ) (BT k js ρ):=((en.mono g1.pre (g1.ku ok)).mono (g2.trans g3).pre ((g2.trans g3).ku ok1)).cap k js;have rs3:=RlD.mono g3.pre (g3.ku ok2) kvs ks rs;obtain⟨d3,n3⟩:=g3.keep D _ d2 n2;refine⟨as2,BT k js ρ,S2,_,ok3,en3,rx,m6 g (fun ρ2 q σ2 en2=>?_) h⟩;refine⟨as2,ρ2,S2,ok3,en2,mt _ _ _ _ (fun b S4 q as4 H4 g4 ok4=>?_) q⟩;obtain⟨d4,n4⟩:=g4.keep D _ d3 n3;have rs4:=RlD.mono g4.pre (g4.ku ok3) kvs ks rs3;refine j0 (fun q=>?_) (fun q=>?_) q
  ·refine⟨as4,ρ2,S4,ok4,en2.mono g4.pre (g4.ku ok3),me _ _ _ _ (fun y S5 q as5 H5 kv g5 ok5 rk=>?_) q⟩;obtain⟨d5,n5⟩:=g5.keep D _ d4 n4;have rs5:=RlD.mono g5.pre (g5.ku ok4) kvs ks rs4;refine⟨as5,ρ2,S5,ok5,(en2.mono g4.pre (g4.ku ok3)).mono g5.pre (g5.ku ok4),mf _ _ _ _ (fun z S6 ⟨j,ey,hb,q6⟩ as6 H6 v g6 ok6 rv=>?_) q⟩;subst ey;obtain rfl:=rl_int.mp rk;obtain⟨d6,n6⟩:=g6.keep D _ d5 n5;have rs6:=RlD.mono g6.pre (g6.ku ok5) kvs ks rs5;refine⟨.inl j,rfl,d6,by rw[rs.length];exact Cl hb,as6,S6,Aj kvs j z,?_,ok6.otherO d6 rfl n6,n6,f6,?_,q6⟩
   ·refine⟨((((g2.trans g3).trans g4).trans g5).trans g6).pre,fun b o hb nb=>?_⟩;obtain⟨z1,z2⟩:=((((g2.trans g3).trans g4).trans g5).trans g6).keep b o hb nb;exact⟨by rw[upd_ne (e8 hb hD)];exact z1,z2⟩
   ·exact RlD.mono (Wq _) (Ax d6 rfl) _ _ (rs6.put rv j)
  ·exact⟨as4,S4,kvs,(g2.trans g3).trans g4,ok4,n4,d4,rs4,q⟩
 ·left;have hi':i=xs.length:=by omega
  subst hi';rw[XY]at h;unfold v4 at h;obtain⟨kp,h⟩:=h;obtain⟨_,w2⟩:=W as2 H2 S2 (g2.gu ok1) ok2 kp;refine⟨w2,h (as2++[D]) H2 (.ref D) ?_ (ok2.adoptO n2 ⟨ks,d2,RlD.mono (XW _ _) (KeepU.refl _) _ _ rs⟩) (rl_loc.mpr ⟨D,by rw[<-ok2.len,Wc],rfl⟩)⟩;refine⟨(g1.pre.trans g2.pre).trans (XW _ _),fun b o hb nb=>?_⟩;obtain⟨h1,n1⟩:=g1.keep b o hb nb;obtain⟨h2,n2'⟩:=g2.keep b o h1 n1;refine⟨h2,?_⟩;rw[WJ,W6];rintro(z | z)
  ·exact n2' z
  ·exact e8 h1 hD z
theorem Bi{keep:Sto->Prop}{g:Tg}{t:WT}{e:WE}{ρ:EnvS}(mt:MonoT t)(me:Mono e){Q Q':List Int->Sto->Prop}(i:∀ ys S,Q ys S->Q' ys S):∀(xs:List SV) (ys:List Int) (S:Sto),v5 keep g t e ρ Q xs ys S->v5 keep g t e ρ Q' xs ys S
 | [],ys,S,h=>by unfold v5 at h ⊢;exact⟨h.1,i _ _ h.2⟩
 | x::xs,ys,S,h=>by
   unfold v5 at h ⊢;refine⟨h.1,m6 g (fun ρ2 q=>mt _ _ _ _ (fun b S1 q=>j0 (fun q=>me _ _ _ _ (fun y S2 ⟨j,a,b,c⟩=>⟨j,a,b,Bi mt me i xs _ _ c⟩) q) (fun q=>Bi mt me i xs _ _ q) q) q) h.2⟩
theorem Mono.srtsc{k:Nat}{js:List Nat}{g:Tg}{i:WI}{t:WT}{e:WE}(mi:MonoI i)(mt:MonoT t)(me:Mono e):Mono (FN k js g i t e):=fun ρ S P P' im h=>mi _ _ _ _ (fun keep xs S1 h=>Bi mt me (fun ys S2 q=>⟨q.1,im _ _ q.2⟩) xs [] S1 h) h
theorem Ef(ns:List Int)(i:Int):AD (ns++[i])=PyProof.Rows.step_dedup (AD ns) i:=by
 unfold AD;rw[W3,We,PyProof.Rows.firstMet_succ];have e1:(ns++[i]).getD ns.length 0=i:=by simp
 have e2:PyProof.Rows.firstMet (fun j=>(ns++[i]).getD j 0) ns.length=PyProof.Rows.firstMet (fun j=>ns.getD j 0) ns.length:=by
  unfold PyProof.Rows.firstMet
  congr 1
  refine YV fun j hj=>?_;have hj:=X5.mp hj;simp[WD hj]
 rw[e1,e2]
theorem LJ{P:Program}{w:World}{K:Vy}{k:Nat}{js:List Nat}{g:Tg}{i:WI}{t:WT}{e:WE}(mi:MonoI i)(mt:MonoT t)(me:Mono e):∀ σ H Q,lift K (FN k js g i t e) σ H Q->Jg P w (liftI K i) (Bf K g) (liftT K t) (lift K e) k js σ H Q:=by
 rintro σ H Q ⟨as,ρ,S,ok,en,h⟩;refine⟨as,ρ,S,ok,en,mi _ _ _ _ (fun keep xs S1 h as1 H1 J g1 ok1 W=>?_) h⟩;intro D hD;have Dn:D∉as1:=ok1.free hD
 refine⟨fun i m L H2=>m=xs.length - i/\i<=xs.length/\∃ as2 S2 ns o,Go as1 H1 as2 H2/\Ok K as2 H2 S2/\D∉as2/\H2 D=some (hoS o L)/\SetXO P w o L/\L=AD ns/\
  v5 keep g t e (BT k js ρ) (fun ns S2=>ns.length<64/\Post K as H Q (.loc S2.length) (S2++[.lst ((srt (AD ns)).map SV.int)])) (xs.drop i) ns S2,⟨xs.length,fun o xo=>⟨by simp,XQ _,as1,S1,[],o,Go.new hD,ok1.new hD,Dn,f6,xo,rfl,h⟩⟩,?_⟩
 rintro i m L H2 ⟨rfl,hi,as2,S2,ns,o,g2,ok2,n2,d2,xo,rfl,h⟩;by_cases hlt:i<xs.length
 ·right;rw[X8 hlt]at h;unfold v5 at h;obtain⟨kp,h⟩:=h;obtain⟨w1,_⟩:=W as2 H2 S2 (g2.gu ok1) ok2 kp;obtain⟨go,yl⟩:=w1 i xs[i] (W0 hlt)
  refine⟨go,fun L' H'=>∃ as2 S2 ns o,Go as1 H1 as2 H'/\Ok K as2 H' S2/\D∉as2/\H' D=some (hoS o L')/\SetXO P w o L'/\L'=AD ns/\
   v5 keep g t e (BT k js ρ) (fun ns S2=>ns.length<64/\Post K as H Q (.loc S2.length) (S2++[.lst ((srt (AD ns)).map SV.int)])) (xs.drop (i+1)) ns S2,fun vs' H' z=>⟨xs.length - (i+1),by omega,rfl,hlt,z⟩,fun x H3 y3=>?_⟩
  obtain⟨g3,ok3,rx⟩:=yl x H3 y3;have en3:EnvOk K as2 H3 (Ae k js σ) (BT k js ρ):=((en.mono g1.pre (g1.ku ok)).mono (g2.trans g3).pre ((g2.trans g3).ku ok1)).cap k js;obtain⟨d3,n3⟩:=g3.keep D _ d2 n2;refine⟨as2,BT k js ρ,S2,_,ok3,en3,rx,m6 g (fun ρ2 q σ2 en2=>?_) h⟩;refine⟨as2,ρ2,S2,ok3,en2,mt _ _ _ _ (fun b S4 q as4 H4 g4 ok4=>?_) q⟩;obtain⟨d4,n4⟩:=g4.keep D _ d3 n3;refine j0 (fun q=>?_) (fun q=>?_) q
  ·refine⟨as4,ρ2,S4,ok4,en2.mono g4.pre (g4.ku ok3),me _ _ _ _ (fun y S5 ⟨j,ey,hb,q5⟩ as5 H5 kv g5 ok5 rk=>?_) q⟩;subst ey;obtain rfl:=rl_int.mp rk;obtain⟨d5,n5⟩:=g5.keep D _ d4 n4;refine⟨j,o,rfl,xo,d5,Wj (PyProof.Rows.firstMet_length_le _ _) (XT hb),fun o' xo'=>⟨as5,S5,ns++[j],o',?_,ok5.otherO d5 rfl n5,n5,f6,xo',(Ef ns j).symm,q5⟩⟩;refine⟨(((g2.trans g3).trans g4).trans g5).pre,fun b o hb nb=>?_⟩;obtain⟨z1,z2⟩:=(((g2.trans g3).trans g4).trans g5).keep b o hb nb;exact⟨by rw[upd_ne (e8 hb hD)];exact z1,z2⟩
  ·exact⟨as4,S4,ns,o,(g2.trans g3).trans g4,ok4,n4,d4,xo,rfl,q⟩
 ·left;have hi':i=xs.length:=by omega
  subst hi';rw[XY]at h;unfold v5 at h;obtain⟨kp,hl,h⟩:=h;obtain⟨_,w2⟩:=W as2 H2 S2 (g2.gu ok1) ok2 kp;refine⟨w2,AD ns,o,xo,d2,Yb (PyProof.Rows.firstMet_length_le _ _) hl,?_⟩;exact y8 ok2 RlAll.ints (h.mono (g1.trans g2))
theorem Gk{scope sc:Scope}{x:Str}(h:scope.names.lookup x=some .local):(BJ scope sc).names.lookup x=some .local:=by
 have go:∀ l:List (Str×NameKind),l.lookup x=some .local->(l.map fun(n,k)=>if (k == .free&&sc.kind == .function&&sc.names.lookup n == some .cell) then (n,.cell) else (n,k)).lookup x=some .local:=by
  intro l
  induction l with
  | nil=>intro h;cases h
  | cons a r ih=>
    obtain⟨n,k⟩:=a;intro h;rw[XX]at h;rw[Wl];cases hb:x == n with
    | true=>
      rw[hb]at h;have:k = .local:=oj h;subst this;show Yz x ((n,NameKind.local)::_)=_;rw[XX,hb]
    | false=>
      rw[hb]at h
      have e:∀ k',Yz x ((n,k')::(r.map fun(n,k)=>if (k == .free&&sc.kind == .function&&sc.names.lookup n == some .cell) then (n,.cell) else (n,k)))=some .local:=fun k'=>by
       rw[XX,hb];exact ih h
      show Yz x ((if (k == .free&&sc.kind == .function&&sc.names.lookup n == some .cell)=true then (n,NameKind.cell) else (n,k))::_)=_;split<;>exact e _
 exact go _ h
theorem Cok.comp{T:List Str}{Δ:Nat->Sn}{X:Cx}{k:Nat}{N:List Str}{sc scope:Scope}{own cn:List Str}{js:List Nat}(C:Cok T Δ X k N sc)(hok:j8 sc scope own cn N js=true)(s2:Shared)(H2:Hp)(cs:List (Str×Addr))(A:Addr)(fp:List Addr):Cok T Δ (c8 X scope (own++cn) s2 H2 cs A fp) own.length (own++cn) (BJ scope sc) where
 hN:=rfl
 hs:=by rw[<-C.hs];rfl
 nd:=by
  unfold j8 at hok;simp only[Vz,decide_eq_true_eq]at hok;exact hok.1.2
 calm:=C.calm
 fn:=fun i x hi hx hc=>by
  unfold j8 at hok;simp only[Vz,decide_eq_true_eq,Wa,XC]at hok
  have hm:x∈own:=by
   rw[WD hi]at hx;exact W5 hx
  show(scope.names.lookup x == some .cell)=true;rcases hok.1.1.1.2 x hm with h | h
  ·rw[Gk h]at hc;cases hc
  ·rw[h];rfl
 un:=C.un
 bl:=C.bl
 rng:=C.rng
 enm:=C.enm
 zip:=C.zip
 st0:=C.st0
 dc0:=C.dc0
 ty:=C.ty
 gd:=C.gd
 call:=C.call
 mono:=C.mono
theorem v8{r:Expr}(h:n8 r=true){env:Env}:∀ x,foldedSetIterable r env x=pure x:=fun x=>by cases r<;>first | rfl | cases h
theorem Bv{T N:List Str}{sc:Scope}:∀{es:Exs} {rs:List Expr},B4 T N sc es rs=true->rs.all e7=true
 | .nil,rs,h=>by unfold B4 at h;rw[XH]at h;subst h;rfl
 | .cons e es,rs,h=>by
   unfold B4 at h;replace h:=a6 h;obtain⟨x,hx,h⟩:=h;simp only[Vz]at h;rw[Ak hx,XS,h.1.2,Bv h.2];rfl
theorem Th{X:Cx}{i:Nat}{x:Str}{p:Pos}{N:List Str}{sc:Scope}{T:List Str}{Δ:Nat->Sn}{k:Nat}(C:Cok T Δ X k N sc)(h:nmB N sc i x=true):PE X (.Name x p) (Ol i):=by
 unfold nmB at h;simp only[Vz,decide_eq_true_eq,Wi]at h;exact TY C h.1.1.1 h.1.1.2 h.1.2 h.2
theorem Jh{α:Type}{l:List α}(h:(!l.isEmpty)=true):∃ y ys,l=y::ys:=by
 cases l with
 | nil=>cases h
 | cons y ys=>exact⟨y,ys,rfl⟩
theorem Ti{X:Cx}{c:Expr}{a:WE×WT}(h:Good X c a):C8 X [c] (liftT X.K a.2):=MM h.pt
theorem Nr{X:Cx}:C8 X [] (liftT X.K VC):=fun pins s σ H Q I hw=>ML pins s σ H Q I (let ⟨as,ρ,S,ok,en,h⟩:=hw;h as H (Go.refl _ _) ok)
theorem Ib{T:List Str}{Δ:Nat->Sn}{X:Cx}{k:Nat}{N:List Str}{sc scope:Scope}{own cn:List Str}{js:List Nat}{tg ri re:Expr}{ifs:List Expr}{p:Pos}{g:Tg}{i:WI}{t:WT}{e:WE×WT}(C:Cok T Δ X k N sc)(hok:j8 sc scope own cn N js=true)(hi:GoodI X tg ri i)
 (hg:∀ s2 H2 cs A fp,PG (c8 X scope (own++cn) s2 H2 cs A fp) tg (Bf X.K g)) (ht:∀ s2 H2 cs A fp,C8 (c8 X scope (own++cn) s2 H2 cs A fp) ifs (liftT X.K t)) (mt:MonoT t) (he:∀ s2 H2 cs A fp,PE (c8 X scope (own++cn) s2 H2 cs A fp) re (lift X.K e.1)) (me:Mono e.1) (hn:n8 ri=true):
 Good X (.ListComp re [⟨tg,ri,ifs,0⟩] scope p) (tt1 (JW own.length js g i t e.1)):=
 .one (f8 _ (P8 own cn js hi.pi hg ht he C.calm (by rw[C.hs,C.hN];exact hok) (v8 hn)) (Gj hi.m mt me)) (.comp hi.m mt me) rfl
theorem Gn{T:List Str}{Δ:Nat->Sn}{X:Cx}{k:Nat}{N:List Str}{sc scope:Scope}{own cn:List Str}{js:List Nat}{tg ri re rf:Expr}{ifs:List Expr}{p:Pos}{g:Tg}{i:WI}{t:WT}{e f:WE×WT}(C:Cok T Δ X k N sc)(hok:j8 sc scope own cn N js=true)(hi:GoodI X tg ri i)
 (hg:∀ s2 H2 cs A fp,PG (c8 X scope (own++cn) s2 H2 cs A fp) tg (Bf X.K g)) (ht:∀ s2 H2 cs A fp,C8 (c8 X scope (own++cn) s2 H2 cs A fp) ifs (liftT X.K t)) (mt:MonoT t) (he:∀ s2 H2 cs A fp,PE (c8 X scope (own++cn) s2 H2 cs A fp) re (lift X.K e.1)) (me:Mono e.1) (hf:∀ s2 H2 cs A fp,PE (c8 X scope (own++cn) s2 H2 cs A fp) rf (lift X.K f.1)) (mf:Mono f.1) (hn:n8 ri=true):
 Good X (.DictComp re rf [⟨tg,ri,ifs,0⟩] scope p) (tt1 (FM own.length js g i t e.1 f.1)):=
 .one (f8 _ (Nn own cn js hi.pi hg ht he hf C.calm (by rw[C.hs,C.hN];exact hok) (v8 hn)) (Ee hi.m mt me mf)) (.dcomp hi.m mt me mf) rfl
theorem Gp{T:List Str}{Δ:Nat->Sn}{X:Cx}{k:Nat}{N:List Str}{sc scope:Scope}{own cn:List Str}{js:List Nat}{tg ri re:Expr}{ifs:List Expr}{p p1 q1:Pos}{g:Tg}{i:WI}{t:WT}{e:WE×WT}(C:Cok T Δ X k N sc)(hgl:glo sc "sorted"=true)(hok:j8 sc scope own cn N js=true)(hi:GoodI X tg ri i)
 (hg:∀ s2 H2 cs A fp,PG (c8 X scope (own++cn) s2 H2 cs A fp) tg (Bf X.K g)) (ht:∀ s2 H2 cs A fp,C8 (c8 X scope (own++cn) s2 H2 cs A fp) ifs (liftT X.K t)) (mt:MonoT t) (he:∀ s2 H2 cs A fp,PE (c8 X scope (own++cn) s2 H2 cs A fp) re (lift X.K e.1)) (me:Mono e.1) (hn:n8 ri=true):
 Good X (.Call (.Name "sorted" p1) [.SetComp re [⟨tg,ri,ifs,0⟩] scope p] [] q1) (tt1 (FN own.length js g i t e.1)):=by
 unfold glo at hgl;simp only[Vz,beq_iff_eq,Wi]at hgl;have gl:Gl X "sorted":=by show X.env.scope.names.lookup ("sorted":Str)=_;rw[C.hs];exact hgl.1.1
 exact .one (f8 _ (LG own cn js hi.pi hg ht he C.calm (by rw[C.hs,C.hN];exact hok) (v8 hn) gl (C.bl .sorted) rfl rfl) (LJ hi.m mt me)) (.srtsc hi.m mt me) rfl
mutual
theorem a8{T:List Str}{Δ:Nat->Sn}:∀(e:Ex) (r:Expr) {X:Cx} {k:Nat} {N:List Str} {sc:Scope},Cok T Δ X k N sc->g8 T N sc e r=true->Good X r (wEx Δ e)
 | .var i,r,X,k,N,sc,C,h=>by
   replace h:=a6 h;obtain⟨x,hx,h⟩:=h;obtain⟨p,rfl⟩:=Be hx;exact .one (f8 _ (Th C h) Pe) .var rfl
 | .c x,r,X,k,N,sc,C,h=>by
   replace h:=a6 h;obtain⟨x,hx,h⟩:=h;obtain⟨j,p,rfl⟩:=Ea hx;exact Q6 h
 | .op o a b,r,X,k,N,sc,C,h=>by
   replace h:=a6 h;obtain⟨v,hv,h⟩:=h;obtain⟨p,rfl⟩:=Pz hv;simp only[Vz,decide_eq_true_eq]at h;have ga:=a8 a _ C h.1.2;have gb:=a8 b _ C h.2;rw[<-h.1.1];exact .one (NX ga.pe gb.pe ga.m gb.m) (.two JY ga.m gb.m) rfl
 | .neg a,r,X,k,N,sc,C,h=>by
   replace h:=a6 h;obtain⟨v,hv,h⟩:=h;obtain⟨p,rfl⟩:=IJ hv;simp only[Vz,decide_eq_true_eq]at h;rw[h.1];exact L3 (a8 a _ C h.2)
 | .cmp o a b,r,X,k,N,sc,C,h=>by
   replace h:=a6 h;obtain⟨v,hv,h⟩:=h;replace h:=a6 h;obtain⟨rb,hb,h⟩:=h;obtain⟨p,rfl⟩:=CU hv;simp only[Vz,decide_eq_true_eq]at h;obtain⟨⟨⟨h0,h1⟩,h2⟩,h3⟩:=h;rw[h0,u8 hb];have ga:=a8 a _ C h1;have gb:=a8 b _ C h2;have:=C.un;exact Kv (by omega) ga.pe gb.pe ga.m gb.m h3
 | .chn o p a b c,r,X,k,N,sc,C,h=>by
   replace h:=a6 h;obtain⟨v,hv,h⟩:=h;replace h:=a6 h;obtain⟨rs,hb,h⟩:=h;obtain⟨p,rfl⟩:=CU hv;simp only[Vz,decide_eq_true_eq]at h;obtain⟨⟨⟨⟨h0,h1⟩,h2⟩,h3⟩,h4⟩:=h;rw[h0,VG hb];have ga:=a8 a _ C h1;have gb:=a8 b _ C h2;have gc:=a8 c _ C h3;have:=C.un;exact Kw (by omega) ga.pe gb.pe gc.pe ga.m gb.m gc.m h4
 | .and a b,r,X,k,N,sc,C,h=>by
   replace h:=a6 h;obtain⟨v,hv,h⟩:=h;have e:=GR hv;subst e;rw[Vz,decide_eq_true_eq]at h;obtain⟨h0,h⟩:=h;replace h:=a6 h;obtain⟨x,hx,h⟩:=h;rw[Vz]at h;have ga:=a8 a _ C h.1;rw[h0,Ak hx];have h2:=h.2;generalize v.2.1.tail=tl at h2;cases hl:l1 tl with
   | some y=>
     rw[hl]at h2;rw[u8 hl];exact IL ga (a8 b _ C h2)
   | none=>
     rw[hl]at h2;rw[Vz,decide_eq_true_eq]at h2;have gb:=a8 b _ C h2.2
     match tl,h2,gb with
     | y::z::zs,h2,gb=>exact IM ga gb
     | [],h2,_=>exact absurd h2.1 (by simp)
     | [_],h2,_=>exact absurd h2.1 (by simp)
 | .or a b,r,X,k,N,sc,C,h=>by
   replace h:=a6 h;obtain⟨v,hv,h⟩:=h;have e:=GR hv;subst e;rw[Vz,decide_eq_true_eq]at h;obtain⟨h0,h⟩:=h;replace h:=a6 h;obtain⟨x,hx,h⟩:=h;rw[Vz]at h;have ga:=a8 a _ C h.1;rw[h0,Ak hx];have h2:=h.2;generalize v.2.1.tail=tl at h2;cases hl:l1 tl with
   | some y=>
     rw[hl]at h2;rw[u8 hl];exact Kx ga (a8 b _ C h2)
   | none=>
     rw[hl]at h2;rw[Vz,decide_eq_true_eq]at h2;have gb:=a8 b _ C h2.2
     match tl,h2,gb with
     | y::z::zs,h2,gb=>exact Ky ga gb
     | [],h2,_=>exact absurd h2.1 (by simp)
     | [_],h2,_=>exact absurd h2.1 (by simp)
 | .not a,r,X,k,N,sc,C,h=>by
   replace h:=a6 h;obtain⟨v,hv,h⟩:=h;obtain⟨p,rfl⟩:=IJ hv;simp only[Vz,decide_eq_true_eq]at h;rw[h.1];exact Kz (a8 a _ C h.2)
 | .ife t a b,r,X,k,N,sc,C,h=>by
   replace h:=a6 h;obtain⟨v,hv,h⟩:=h;obtain⟨p,rfl⟩:=Q0 hv;simp only[Vz]at h;exact L0 (a8 t _ C h.1.1) (a8 a _ C h.1.2) (a8 b _ C h.2)
 | .tup es,r,X,k,N,sc,C,h=>by
   replace h:=a6 h;obtain⟨v,hv,h⟩:=h;obtain⟨j,p,rfl⟩:=DD hv;exact L6 (AW es _ C h)
 | .lst es,r,X,k,N,sc,C,h=>by
   replace h:=a6 h;obtain⟨v,hv,h⟩:=h;obtain⟨p,rfl⟩:=Q1 hv;exact L7 (AW es _ C h)
 | .ix a b,r,X,k,N,sc,C,h=>by
   replace h:=a6 h;obtain⟨v,hv,h⟩:=h;obtain⟨p,rfl⟩:=BK hv;simp only[Vz]at h;exact Na (a8 a _ C h.1.1) (a8 b _ C h.1.2) h.2
 | .slc a lo hi,r,X,k,N,sc,C,h=>by
   replace h:=a6 h;obtain⟨v,hv,h⟩:=h;replace h:=a6 h;obtain⟨w,hw,h⟩:=h;obtain⟨p,rfl⟩:=BK hv;obtain⟨p2,ew⟩:=JX hw;simp only[Vz]at h;have hl:=Gq lo _ C h.1.1.2;have hh:=Gq hi _ C h.1.2;rw[ew,Xe.mp h.2];exact L4 (a8 a _ C h.1.1.1) hl.1 hh.1 hl.2 hh.2
 | .call f es,r,X,k,N,sc,C,h=>by
   replace h:=a6 h;obtain⟨v,hv,h⟩:=h;obtain⟨p,q,rfl⟩:=AR hv;simp only[Vz,decide_eq_true_eq]at h;obtain⟨⟨⟨h1,h2⟩,h3⟩,h4⟩:=h;obtain⟨y,ys,e⟩:=Jh h4;have st:=Bv h3;have g:=AW es _ C h3;rw[e]at st g ⊢;rw[XS,Vz]at st;exact IO C h1 h2 g st.1 st.2
 | .bi b es,r,X,k,N,sc,C,h=>by
   replace h:=a6 h;obtain⟨v,hv,h⟩:=h;obtain⟨p,q,rfl⟩:=AR hv;simp only[Vz,decide_eq_true_eq]at h;obtain⟨⟨⟨h1,h2⟩,h3⟩,h4⟩:=h;obtain⟨y,ys,e⟩:=Jh h4;have st:=Bv h3;have g:=AW es _ C h3;rw[e]at st g ⊢;rw[XS,Vz]at st;rw[<-h1]at h2 ⊢;exact Nd C h2 g st.1 st.2
 | .mt m a es,r,X,k,N,sc,C,h=>by
   replace h:=a6 h;obtain⟨v,hv,h⟩:=h;obtain⟨ap,cp,rfl,hl⟩:=TW hv;simp only[Vz,decide_eq_true_eq]at h;obtain⟨⟨⟨⟨h0,h1⟩,h3⟩,h4⟩,h5⟩:=h;have st:=Bv h5;have ga:=a8 a _ C h4;have gs:=AW es _ C h5;rw[h0];generalize v.2.2=args at h3 h5 st gs ⊢;cases args with
   | nil=>
     cases es with
     | nil=>exact L8 ga h1 hl
     | cons _ _=>rw[B4]at h5;cases h5
   | cons y ys=>
     rw[XS,Vz]at st;exact Ng ga gs h1 hl h3 st.1 st.2
 | .comp own cn js g it t e,r,X,k,N,sc,C,h=>by
   replace h:=a6 h;obtain⟨v,hv,h⟩:=h;replace h:=a6 h;obtain⟨c,hc,h⟩:=h;obtain⟨p,rfl⟩:=GT hv;simp only[Vz,decide_eq_true_eq]at h;obtain⟨⟨⟨⟨⟨⟨h0,h1⟩,h2⟩,h3⟩,h4⟩,h5⟩,h6⟩:=h;have hI:=AX it _ _ C h3;have hT:=fun s2 H2 cs A fp=>Bj t _ (C.comp h1 s2 H2 cs A fp) h5;have hE:=fun s2 H2 cs A fp=>a8 e _ (C.comp h1 s2 H2 cs A fp) h6;rw[u8 hc];obtain⟨tg,ri,ifs,az⟩:=c;have h0:az=0:=h0;subst h0;exact Ib C h1 hI (fun s2 H2 cs A fp=>AO (C.comp h1 s2 H2 cs A fp) g _ h2) (fun s2 H2 cs A fp=>(hT s2 H2 cs A fp).1) (hT X.s₀ X.H₀ [] 0 []).2 (fun s2 H2 cs A fp=>(hE s2 H2 cs A fp).pe) (hE X.s₀ X.H₀ [] 0 []).m h4
 | .tyc t,r,X,k,N,sc,C,h=>by
   replace h:=a6 h;obtain⟨x,hx,h⟩:=h;obtain⟨p,rfl⟩:=Be hx;simp only[Vz,decide_eq_true_eq]at h;obtain⟨⟨rfl,h1⟩,h2⟩:=h;exact L9 C h1 h2
 | .lrng1 a,r,X,k,N,sc,C,h=>by
   replace h:=a6 h;obtain⟨v,hv,h⟩:=h;replace h:=a6 h;obtain⟨z,hz,h⟩:=h;replace h:=a6 h;obtain⟨u,hu,h⟩:=h;replace h:=a6 h;obtain⟨ra,hra,h⟩:=h;obtain⟨p,q,rfl⟩:=AR hv;obtain⟨p2,q2,rfl⟩:=AR hu;simp only[Vz,decide_eq_true_eq]at h;obtain⟨⟨⟨⟨⟨e1,e2⟩,h1⟩,h2⟩,h3⟩,h4⟩:=h;rw[u8 hz,u8 hra,e1,e2];rw[e1]at h1;rw[e2]at h2;exact GY C h1 h2 (a8 a _ C h3) h4
 | .rev a,r,X,k,N,sc,C,h=>by
   replace h:=a6 h;obtain⟨v,hv,h⟩:=h;replace h:=a6 h;obtain⟨w,hw,h⟩:=h;obtain⟨p,rfl⟩:=BK hv;obtain⟨p2,ew⟩:=JX hw;rw[Vz,Vz]at h;obtain⟨⟨n1,n2⟩,h⟩:=h;replace h:=a6 h;obtain⟨st,hst,h⟩:=h;replace h:=a6 h;obtain⟨u,hu,h⟩:=h;obtain⟨p3,rfl⟩:=IJ hu;rw[Vz,decide_eq_true_eq]at h;obtain⟨e1,h⟩:=h;replace h:=a6 h;obtain⟨c,hc,h⟩:=h;obtain⟨j,p4,ec⟩:=Ea hc;rw[Vz,decide_eq_true_eq]at h;rw[ew,Xe.mp n1,Xe.mp n2,hst,e1,ec,h.1];exact LA (a8 a _ C h.2)
 | .max1 a,r,X,k,N,sc,C,h=>by
   replace h:=a6 h;obtain⟨v,hv,h⟩:=h;replace h:=a6 h;obtain⟨ra,hra,h⟩:=h;obtain⟨p,q,rfl⟩:=AR hv;simp only[Vz,decide_eq_true_eq]at h;obtain⟨⟨⟨e1,h1⟩,h3⟩,h4⟩:=h;rw[e1]at h1;rw[u8 hra,e1];exact IQ C h1 (a8 a _ C h3) h4
 | .maxd a d,r,X,k,N,sc,C,h=>by
   replace h:=a6 h;obtain⟨⟨x,as,kw⟩,hv,h⟩:=h;replace h:=a6 h;obtain⟨ra,hra,h⟩:=h;obtain⟨p,q,rfl⟩:=Q2 hv;obtain⟨ka,kv,kp⟩:=kw;simp only[Vz,decide_eq_true_eq]at h;obtain⟨⟨⟨⟨⟨e1,h1⟩,h3⟩,h5⟩,h4⟩,e2⟩:=h;subst e1;subst e2;rw[u8 hra];exact IR C h1 (a8 a _ C h3) (a8 d _ C h5) h4
 | .lenset a,r,X,k,N,sc,C,h=>by
   replace h:=a6 h;obtain⟨v,hv,h⟩:=h;replace h:=a6 h;obtain⟨z,hz,h⟩:=h;replace h:=a6 h;obtain⟨u,hu,h⟩:=h;replace h:=a6 h;obtain⟨ra,hra,h⟩:=h;obtain⟨p,q,rfl⟩:=AR hv;obtain⟨p2,q2,rfl⟩:=AR hu;simp only[Vz,decide_eq_true_eq]at h;obtain⟨⟨⟨⟨⟨e1,e2⟩,h1⟩,h2⟩,h3⟩,h4⟩:=h;rw[e1]at h1;rw[e2]at h2;rw[u8 hz,u8 hra,e1,e2];exact FP C h1 h2 (a8 a _ C h3) h4
 | .srtset a,r,X,k,N,sc,C,h=>by
   replace h:=a6 h;obtain⟨v,hv,h⟩:=h;replace h:=a6 h;obtain⟨z,hz,h⟩:=h;replace h:=a6 h;obtain⟨u,hu,h⟩:=h;replace h:=a6 h;obtain⟨ra,hra,h⟩:=h;obtain⟨p,q,rfl⟩:=AR hv;obtain⟨p2,q2,rfl⟩:=AR hu;simp only[Vz,decide_eq_true_eq]at h;obtain⟨⟨⟨⟨⟨e1,e2⟩,h1⟩,h2⟩,h3⟩,h4⟩:=h;rw[e1]at h1;rw[e2]at h2;rw[u8 hz,u8 hra,e1,e2];exact FQ C h1 h2 (a8 a _ C h3) h4
 | .dcomp own cn js g it t e f,r,X,k,N,sc,C,h=>by
   replace h:=a6 h;obtain⟨v,hv,h⟩:=h;replace h:=a6 h;obtain⟨c,hc,h⟩:=h;obtain⟨p,rfl⟩:=EZ hv;simp only[Vz,decide_eq_true_eq]at h;obtain⟨⟨⟨⟨⟨⟨⟨h0,h1⟩,h2⟩,h3⟩,h4⟩,h5⟩,h6⟩,h7⟩:=h;have hI:=AX it _ _ C h3;have hT:=fun s2 H2 cs A fp=>Bj t _ (C.comp h1 s2 H2 cs A fp) h5;have hE:=fun s2 H2 cs A fp=>a8 e _ (C.comp h1 s2 H2 cs A fp) h6;have hF:=fun s2 H2 cs A fp=>a8 f _ (C.comp h1 s2 H2 cs A fp) h7;rw[u8 hc];obtain⟨tg,ri,ifs,az⟩:=c;have h0:az=0:=h0;subst h0;exact Gn C h1 hI (fun s2 H2 cs A fp=>AO (C.comp h1 s2 H2 cs A fp) g _ h2) (fun s2 H2 cs A fp=>(hT s2 H2 cs A fp).1) (hT X.s₀ X.H₀ [] 0 []).2 (fun s2 H2 cs A fp=>(hE s2 H2 cs A fp).pe) (hE X.s₀ X.H₀ [] 0 []).m (fun s2 H2 cs A fp=>(hF s2 H2 cs A fp).pe) (hF X.s₀ X.H₀ [] 0 []).m h4
 | .srtsc own cn js g it t e,r,X,k,N,sc,C,h=>by
   replace h:=a6 h;obtain⟨u,hu,h⟩:=h;replace h:=a6 h;obtain⟨z,hz,h⟩:=h;replace h:=a6 h;obtain⟨v,hv,h⟩:=h;replace h:=a6 h;obtain⟨c,hc,h⟩:=h;obtain⟨p1,q1,rfl⟩:=AR hu;obtain⟨p,rfl⟩:=Ku hv;simp only[Vz,decide_eq_true_eq]at h;obtain⟨⟨⟨⟨⟨⟨⟨⟨e1,hgl⟩,h0⟩,h1⟩,h2⟩,h3⟩,h4⟩,h5⟩,h6⟩:=h;have hI:=AX it _ _ C h3;have hT:=fun s2 H2 cs A fp=>Bj t _ (C.comp h1 s2 H2 cs A fp) h5;have hE:=fun s2 H2 cs A fp=>a8 e _ (C.comp h1 s2 H2 cs A fp) h6;rw[e1]at hgl;rw[u8 hz,e1,u8 hc];obtain⟨tg,ri,ifs,az⟩:=c;have h0:az=0:=h0;subst h0;exact Gp C hgl h1 hI (fun s2 H2 cs A fp=>AO (C.comp h1 s2 H2 cs A fp) g _ h2) (fun s2 H2 cs A fp=>(hT s2 H2 cs A fp).1) (hT X.s₀ X.H₀ [] 0 []).2 (fun s2 H2 cs A fp=>(hE s2 H2 cs A fp).pe) (hE X.s₀ X.H₀ [] 0 []).m h4
 | .nell a b,r,X,k,N,sc,C,h=>by
   replace h:=a6 h;obtain⟨v,hv,h⟩:=h;replace h:=a6 h;obtain⟨rb,hb,h⟩:=h;obtain⟨p,rfl⟩:=CU hv;simp only[Vz,decide_eq_true_eq]at h;obtain⟨⟨⟨h0,h1⟩,h2⟩,h3⟩:=h;rw[h0,u8 hb];have ga:=a8 a _ C h1;have gb:=a8 b _ C h2;have:=C.un;exact IT (by omega) ga.pe gb.pe ga.m gb.m h3
 | .eqt0 a b,r,X,k,N,sc,C,h=>by
   replace h:=a6 h;obtain⟨v,hv,h⟩:=h;replace h:=a6 h;obtain⟨rb,hb,h⟩:=h;obtain⟨p,rfl⟩:=CU hv;simp only[Vz,decide_eq_true_eq]at h;obtain⟨⟨⟨h0,h1⟩,h2⟩,h3⟩:=h;rw[h0,u8 hb];have ga:=a8 a _ C h1;have gb:=a8 b _ C h2;have:=C.un;exact IU (by omega) ga.pe gb.pe ga.m gb.m h3
 | .dget a b,r,X,k,N,sc,C,h=>by
   replace h:=a6 h;obtain⟨v,hv,h⟩:=h;obtain⟨p,rfl⟩:=BK hv;simp only[Vz]at h;have:=C.un;exact IS (by omega) (a8 a _ C h.1.1) (a8 b _ C h.1.2) h.2
 | .din n a b,r,X,k,N,sc,C,h=>by
   replace h:=a6 h;obtain⟨v,hv,h⟩:=h;replace h:=a6 h;obtain⟨rb,hb,h⟩:=h;obtain⟨p,rfl⟩:=CU hv;simp only[Vz,decide_eq_true_eq]at h;obtain⟨⟨⟨h0,h1⟩,h2⟩,h3⟩:=h;rw[h0,u8 hb];have:=C.un;exact LB (by omega) (a8 a _ C h1) (a8 b _ C h2) h3
 | .no,r,X,k,N,sc,C,h => .never
theorem AW{T:List Str}{Δ:Nat->Sn}:∀(es:Exs) (rs:List Expr) {X:Cx} {k:Nat} {N:List Str} {sc:Scope},Cok T Δ X k N sc->B4 T N sc es rs=true->GoodA X rs (GP Δ es)
 | .nil,rs,X,k,N,sc,C,h=>by
   rw[B4,XH]at h;subst h;exact L5
 | .cons e es,rs,X,k,N,sc,C,h=>by
   rw[B4]at h;replace h:=a6 h;obtain⟨x,hx,h⟩:=h;simp only[Vz]at h;rw[Ak hx];exact IN (a8 e _ C h.1.1) (AW es _ C h.2) h.1.2
theorem Gq{T:List Str}{Δ:Nat->Sn}:∀(o:Eo) (r:Option Expr) {X:Cx} {k:Nat} {N:List Str} {sc:Scope},Cok T Δ X k N sc->NU T N sc o r=true->PO X r (GX X.K (wEo Δ o).1)/\MonoO (wEo Δ o).1
 | .no,r,X,k,N,sc,C,h=>by
   rw[NU]at h;rw[Xe.mp h];exact⟨VI,.no⟩
 | .yes e,r,X,k,N,sc,C,h=>by
   rw[NU]at h;replace h:=a6 h;obtain⟨x,hx,h⟩:=h;subst hx;exact⟨TZ (a8 e _ C h),.yes (a8 e _ C h).m⟩
theorem Bj{T:List Str}{Δ:Nat->Sn}:∀(o:Eo) (rs:List Expr) {X:Cx} {k:Nat} {N:List Str} {sc:Scope},Cok T Δ X k N sc->D0 T N sc o rs=true->C8 X rs (liftT X.K (wEo Δ o).2)/\MonoT (wEo Δ o).2
 | .no,rs,X,k,N,sc,C,h=>by
   rw[D0,XH]at h;subst h;exact⟨Nr,fun _ _ _ _ i q=>i _ _ q⟩
 | .yes e,rs,X,k,N,sc,C,h=>by
   rw[D0]at h;replace h:=a6 h;obtain⟨x,hx,h⟩:=h;rw[u8 hx];exact⟨Ti (a8 e _ C h),(a8 e _ C h).mt⟩
theorem AX{T:List Str}{Δ:Nat->Sn}:∀(it:Itb) (tg r:Expr) {X:Cx} {k:Nat} {N:List Str} {sc:Scope},Cok T Δ X k N sc->IK T N sc it tg r=true->GoodI X tg r (Kq Δ it)
 | .seq e,tg,r,X,k,N,sc,C,h=>by
   exact LD (a8 e _ C h)
 | .rng1 a,tg,r,X,k,N,sc,C,h=>by
   replace h:=a6 h;obtain⟨v,hv,h⟩:=h;replace h:=a6 h;obtain⟨ra,hra,h⟩:=h;obtain⟨p,q,rfl⟩:=AR hv;simp only[Vz,decide_eq_true_eq]at h;obtain⟨⟨⟨e1,h1⟩,h2⟩,h3⟩:=h;rw[e1]at h1;rw[u8 hra,e1];exact IZ C h1 (a8 a _ C h2) h3
 | .enum e,tg,r,X,k,N,sc,C,h=>by
   replace h:((Kt tg).isSome&&(vFn r).any fun v=>(l1 v.2).any fun a=>decide (v.1=("enumerate":Str))&&glo sc v.1&&g8 T N sc e a&&e7 a)=true:=h;rw[Vz]at h;obtain⟨ht,h⟩:=h;obtain⟨es,he⟩:=X9.mp ht;obtain⟨j,tp,rfl⟩:=DD he;replace h:=a6 h;obtain⟨v,hv,h⟩:=h;replace h:=a6 h;obtain⟨ra,hra,h⟩:=h;obtain⟨p,q,rfl⟩:=AR hv;simp only[Vz,decide_eq_true_eq]at h;obtain⟨⟨⟨e1,h1⟩,h2⟩,h3⟩:=h;rw[e1]at h1;rw[u8 hra,e1];exact IY C h1 (a8 e _ C h2) h3
 | .dk e,tg,r,X,k,N,sc,C,h=>by
   exact Nm (a8 e _ C h)
end
open PySem L2
noncomputable def Cs:Expr->Option Scope
 | .ListComp _ _ s _=>some s
 | .SetComp _ _ s _=>some s
 | .DictComp _ _ _ s _=>some s
 | _=>none
noncomputable def Dl(sc:Scope)(e:Expr)(x:Str)(px:Pos):Bool:=match Cs e with
 | none=>false
 | some s=>sc.names.lookup x == some .local&&px.line == e.pos.line&&!(s.names.any fun(n,k)=>n == x&&(k == .local||k == .cell))
theorem FT{env:Env}{e:Expr}{x:Str}{px:Pos}{l:Nat}(hk:env.scope.kind = .function):swapsWith e (some (.Name x px)) l env=pure (Dl env.scope e x px):=by
 have hb:env.blockKind = .function:=by unfold Env.blockKind;rw[hk];rfl
 unfold swapsWith Dl Cs
 cases e<;>first
  | rfl
  | (show(pure _:Sem Bool)=_;rw[hb];rfl)
noncomputable def Nt:Expr->Bool
 | .Tuple ..=>false
 | _=>true
noncomputable def Ic:Expr->Option (Str×Pos)
 | .Name x p=>some (x,p)
 | _=>none
theorem LK{r:Expr}{x:Str×Pos}(h:Ic r=some x):r = .Name x.1 x.2:=by cases r<;>first | (cases h;rfl) | exact v9 h
noncomputable def QG:Stmt->Option (List Expr×Expr)
 | .Assign ts e _=>some (ts,e)
 | _=>none
noncomputable def VQ:Stmt->Option Expr
 | .Expr e _=>some e
 | _=>none
noncomputable def VR:Stmt->Option (Expr×List Stmt×List Stmt)
 | .If t a b _=>some (t,a,b)
 | _=>none
noncomputable def VS:Stmt->Option (Expr×Expr×List Stmt×List Stmt)
 | .For g i b o _=>some (g,i,b,o)
 | _=>none
noncomputable def VT:Stmt->Option (Expr×List Stmt×List Stmt)
 | .While t b o _=>some (t,b,o)
 | _=>none
noncomputable def Tj:Stmt->Option (Option Expr)
 | .Return e _=>some e
 | _=>none
noncomputable def VU:Stmt->Option (Expr×Operator×Expr)
 | .AugAssign t o e _=>some (t,o,e)
 | _=>none
theorem QH{r:Stmt}{x:Expr×Operator×Expr}(h:VU r=some x):∃ p,r = .AugAssign x.1 x.2.1 x.2.2 p:=by cases r<;>first | (cases h;exact⟨_,rfl⟩) | exact v9 h
noncomputable def RY:Operator->Bool
 | .Add=>true
 | _=>false
theorem Nu{o:Operator}(h:RY o=true):o = .Add:=by cases o<;>first | rfl | (cases h;done)
theorem FU{r:Stmt}{x:List Expr×Expr}(h:QG r=some x):∃ p,r = .Assign x.1 x.2 p:=by cases r<;>first | (cases h;exact⟨_,rfl⟩) | exact v9 h
theorem QI{r:Stmt}{x:Expr}(h:VQ r=some x):∃ p,r = .Expr x p:=by cases r<;>first | (cases h;exact⟨_,rfl⟩) | exact v9 h
theorem QJ{r:Stmt}{x:Expr×List Stmt×List Stmt}(h:VR r=some x):∃ p,r = .If x.1 x.2.1 x.2.2 p:=by cases r<;>first | (cases h;exact⟨_,rfl⟩) | exact v9 h
theorem QK{r:Stmt}{x:Expr×Expr×List Stmt×List Stmt}(h:VS r=some x):∃ p,r = .For x.1 x.2.1 x.2.2.1 x.2.2.2 p:=by cases r<;>first | (cases h;exact⟨_,rfl⟩) | exact v9 h
theorem QL{r:Stmt}{x:Expr×List Stmt×List Stmt}(h:VT r=some x):∃ p,r = .While x.1 x.2.1 x.2.2 p:=by cases r<;>first | (cases h;exact⟨_,rfl⟩) | exact v9 h
theorem Ji{r:Stmt}{x:Option Expr}(h:Tj r=some x):∃ p,r = .Return x p:=by cases r<;>first | (cases h;exact⟨_,rfl⟩) | exact v9 h
noncomputable def Tk(e:Expr):Bool:=(NR e).any fun v=>(l1 v.2.1).isSome
noncomputable def Tl(e:Expr):Bool:=(II e).any fun v=>(l1 v.2.2.1).isSome
noncomputable def Tm(sc:Scope)(rt re:Expr):Bool:=match Ic rt with
 | some x=>!Dl sc re x.1 x.2||Tk re||Tl re
 | none=>(Kt rt).isSome&&Nt re
mutual
noncomputable def VV(T:List Str)(N:List Str)(sc:Scope):Stm->Stmt->Bool
 | .asg t e,r=>(QG r).any fun v=>(l1 v.1).any fun rt=>Al N.length N sc t rt&&g8 T N sc e v.2&&e7 rt&&Tm sc rt v.2
 | .put o i e,r=>(QG r).any fun v=>(l1 v.1).any fun rt=>(GQ rt).any fun oi=>g8 T N sc o oi.1&&g8 T N sc i oi.2&&g8 T N sc e v.2&&y9 oi.2
 | .augS o i e,r=>(VU r).any fun v=>(GQ v.1).any fun oi=>RY v.2.1&&g8 T N sc o oi.1&&g8 T N sc i oi.2&&g8 T N sc e v.2.2&&y9 oi.2
 | .dput o i e,r=>(QG r).any fun v=>(l1 v.1).any fun rt=>(GQ rt).any fun oi=>g8 T N sc o oi.1&&g8 T N sc i oi.2&&g8 T N sc e v.2&&y9 oi.2
 | .expr e,r=>(VQ r).any fun re=>g8 T N sc e re&&(Cs re).isNone
 | .iff t a b,r=>(VR r).any fun v=>g8 T N sc t v.1&&CV T N sc a v.2.1&&CV T N sc b v.2.2
 | .loop g it b,r=>(VS r).any fun v=>Al N.length N sc g v.1&&IK T N sc it v.1 v.2.1&&n8 v.2.1&&CV T N sc b v.2.2.1&&v.2.2.2.isEmpty
 | .whl t b,r=>(VT r).any fun v=>g8 T N sc t v.1&&CV T N sc b v.2.1&&v.2.2.isEmpty
 | .ret e,r=>(Tj r).any fun o=>o.any fun re=>g8 T N sc e re
 | .retN,r=>(Tj r).any fun o=>o.isNone
 | .no,_=>true
noncomputable def CV(T:List Str)(N:List Str)(sc:Scope):List Stm->List Stmt->Bool
 | [],r=>r.isEmpty
 | s::ss,r=>(r.head?).any fun x=>VV T N sc s x&&CV T N sc ss r.tail
end
noncomputable def Gr(K:Vy)(as:List Addr)(H:Hp)(D:Ends):EndsS where
 nx:=fun ρ' S'=>∀ as' H' σ',Go as H as' H'->Ok K as' H' S'->EnvOk K as' H' σ' ρ'->D.nx σ' H'
 rt:=Post K as H D.rt
 bk:=fun ρ' S'=>∀ as' H' σ',Go as H as' H'->Ok K as' H' S'->EnvOk K as' H' σ' ρ'->D.bk σ' H'
 ct:=fun ρ' S'=>∀ as' H' σ',Go as H as' H'->Ok K as' H' S'->EnvOk K as' H' σ' ρ'->D.ct σ' H'
noncomputable def liftS(K:Vy)(w:WS):TS:=fun D σ H=>∃ as ρ S,Ok K as H S/\EnvOk K as H σ ρ/\w (Gr K as H D) ρ S
structure Le(D D':EndsS):Prop where
 nx:∀ ρ S,D.nx ρ S->D'.nx ρ S
 rt:∀ x S,D.rt x S->D'.rt x S
 bk:∀ ρ S,D.bk ρ S->D'.bk ρ S
 ct:∀ ρ S,D.ct ρ S->D'.ct ρ S
noncomputable def MonoS(w:WS):Prop:=∀ D D' ρ S,Le D D'->w D ρ S->w D' ρ S
theorem MonoS.go{w:WS}(m:MonoS w){D D':EndsS}{ρ:EnvS}{S:Sto}(h:w D ρ S)(l:Le D D'):w D' ρ S:=m D D' ρ S l h
theorem Le.go{K:Vy}{as as':List Addr}{H H':Hp}{D:Ends}(g:Go as H as' H'):Le (Gr K as H D) (Gr K as' H' D) where
 nx:=fun ρ S h as2 H2 σ2 g2=>h as2 H2 σ2 (g.trans g2)
 rt:=fun x S h=>Post.mono h g
 bk:=fun ρ S h as2 H2 σ2 g2=>h as2 H2 σ2 (g.trans g2)
 ct:=fun ρ S h as2 H2 σ2 g2=>h as2 H2 σ2 (g.trans g2)
structure GoodS(X:Cx)(r:Stmt)(w:WS):Prop where
 ps:PS X r (liftS X.K w)
 m:MonoS w
structure GoodSs(X:Cx)(r:List Stmt)(w:WS):Prop where
 ps:PSs X r (liftS X.K w)
 m:MonoS w
theorem w9{X:Cx}{st:Stmt}{t:TS}(t':TS)(h:PS X st t)(imp:∀ D σ H,t' D σ H->t D σ H):PS X st t':=fun pins s σ H D I hw=>h pins s σ H D I (imp D σ H hw)
theorem Gs{X:Cx}{st:List Stmt}{t:TS}(t':TS)(h:PSs X st t)(imp:∀ D σ H,t' D σ H->t D σ H):PSs X st t':=fun pins s σ H D I hw=>h pins s σ H D I (imp D σ H hw)
section
variable{X:Cx}
theorem Id:GoodSs X [] (fun D ρ S=>D.nx ρ S):=⟨Gs _ Oq fun D σ H ⟨as,ρ,S,ok,en,h⟩=>h as H σ (Go.refl _ _) ok en,fun D D' ρ S l h=>l.nx _ _ h⟩
theorem Gv{s:Stmt}{ss:List Stmt}{w u:WS}(h1:GoodS X s w)(h2:GoodSs X ss u):GoodSs X (s::ss) (fun D ρ S=>w {D with nx:=u D} ρ S) where
 ps:=Gs _ (Ls h1.ps h2.ps) (by
  rintro D σ H ⟨as,ρ,S,ok,en,h⟩;refine⟨as,ρ,S,ok,en,h1.m.go h ⟨fun ρ' S' q as' H' σ' g ok' en'=>?_,fun _ _ h=>h,fun _ _ h=>h,fun _ _ h=>h⟩⟩;exact⟨as',ρ',S',ok',en',h2.m _ _ _ _ (Le.go g) q⟩)
 m:=fun D D' ρ S l h=>h1.m.go (D:={D with nx:=u D}) h ⟨fun ρ' S' q=>h2.m _ _ _ _ l q,l.rt,l.bk,l.ct⟩
theorem QM{K:Vy}{g:Tg}{w:WE}(m:Mono w):∀ D σ H,liftS K (fun D ρ S=>w ρ S fun x S1=>wTg g x ρ fun ρ'=>D.nx ρ' S1) D σ H->Hf (lift K w) (Bf K g) D σ H:=by
 rintro D σ H ⟨as,ρ,S,ok,en,h⟩;refine⟨as,ρ,S,ok,en,m _ _ _ _ (fun x S1 q as1 H1 v g1 ok1 rv=>?_) h⟩;exact⟨as1,ρ,S1,x,ok1,en.mono g1.pre (g1.ku ok),rv,m6 g (fun ρ' q σ' en'=>q as1 H1 σ' g1 ok1 en') q⟩
theorem Dm{K:Vy}{i:Nat}{w:WE}(m:Mono w):∀ D σ H,liftS K (fun D ρ S=>w ρ S fun x S1=>wTg (.nm i) x ρ fun ρ'=>D.nx ρ' S1) D σ H->Hf (lift K w) (Fv i) D σ H:=by
 rintro D σ H ⟨as,ρ,S,ok,en,h⟩;refine⟨as,ρ,S,ok,en,m _ _ _ _ (fun x S1 q as1 H1 v g1 ok1 rv=>?_) h⟩;unfold wTg at q;exact q as1 H1 _ g1 ok1 ((en.mono g1.pre (g1.ku ok)).set rv)
theorem Gx{g:Tg}{w:WE}(m:Mono w):MonoS (fun D ρ S=>w ρ S fun x S1=>wTg g x ρ fun ρ'=>D.nx ρ' S1):=fun D D' ρ S l h=>m _ _ _ _ (fun x S1 q=>m6 g (fun ρ' q=>l.nx _ _ q) q) h
theorem To{K:Vy}{t:WT}{a b:WS}(mt:MonoT t)(ma:MonoS a)(mb:MonoS b):∀ D σ H,liftS K (fun D ρ S=>t ρ S fun c S1=>if c=true then a D ρ S1 else b D ρ S1) D σ H->UA (liftT K t) (liftS K a) (liftS K b) D σ H:=by
 rintro D σ H ⟨as,ρ,S,ok,en,h⟩;refine⟨as,ρ,S,ok,en,mt _ _ _ _ (fun c S1 q as1 H1 g1 ok1=>?_) h⟩;refine j0 (fun q=>?_) (fun q=>?_) q
 ·exact⟨as1,ρ,S1,ok1,en.mono g1.pre (g1.ku ok),ma _ _ _ _ (Le.go g1) q⟩
 ·exact⟨as1,ρ,S1,ok1,en.mono g1.pre (g1.ku ok),mb _ _ _ _ (Le.go g1) q⟩
theorem Bw{keep:Sto->Prop}{g:Tg}{b:WS}(mb:MonoS b):∀(xs:List SV) {D D':EndsS},Le D D'->∀ ρ S,AA keep g b D xs ρ S->AA keep g b D' xs ρ S
 | [],D,D',l,ρ,S,h=>by unfold AA at h ⊢;exact⟨h.1,l.nx _ _ h.2⟩
 | x::xs,D,D',l,ρ,S,h=>by
   unfold AA at h ⊢;exact⟨h.1,m6 g (fun ρ2 q=>mb.go (D:={D with nx:=AA keep g b D xs,ct:=AA keep g b D xs,bk:=D.nx}) q ⟨Bw mb xs l,l.rt,l.nx,Bw mb xs l⟩) h.2⟩
theorem QN{K:Vy}{g:Tg}{i:WI}{b:WS}(mi:MonoI i)(mb:MonoS b):∀ D σ H,liftS K (fun D ρ S=>i ρ S fun keep xs S1=>AA keep g b D xs ρ S1) D σ H->UG (liftI K i) (Bf K g) (liftS K b) D σ H:=by
 rintro D σ H ⟨as,ρ,S,ok,en,h⟩;refine⟨as,ρ,S,ok,en,mi _ _ _ _ (fun keep xs S1 h as1 H1 J g1 ok1 W=>?_) h⟩
 refine⟨fun i m σ2 H2=>m=xs.length - i/\i<=xs.length/\∃ as2 ρ2 S2,Go as1 H1 as2 H2/\Ok K as2 H2 S2/\EnvOk K as2 H2 σ2 ρ2/\AA keep g b (Gr K as H D) (xs.drop i) ρ2 S2,
  ⟨xs.length,by simp,XQ _,as1,ρ,S1,Go.refl _ _,ok1,en.mono g1.pre (g1.ku ok),h⟩,?_⟩
 rintro i m σ2 H2 ⟨rfl,hi,as2,ρ2,S2,g2,ok2,en2,h⟩;by_cases hlt:i<xs.length
 ·right;rw[X8 hlt]at h;unfold AA at h;obtain⟨kp,h⟩:=h;obtain⟨w1,_⟩:=W as2 H2 S2 (g2.gu ok1) ok2 kp;obtain⟨go,yl⟩:=w1 i xs[i] (W0 hlt);refine⟨go,fun σ' H'=>∃ as2 ρ2 S2,Go as1 H1 as2 H'/\Ok K as2 H' S2/\EnvOk K as2 H' σ' ρ2/\AA keep g b (Gr K as H D) (xs.drop (i+1)) ρ2 S2,fun σ' H' z=>⟨xs.length - (i+1),by omega,rfl,hlt,z⟩,fun x H3 y3=>?_⟩;obtain⟨g3,ok3,rx⟩:=yl x H3 y3;refine⟨as2,ρ2,S2,_,ok3,en2.mono g3.pre (g3.ku ok2),rx,m6 g (fun ρ3 q σ3 en3=>?_) h⟩;have g03:=(g1.trans g2).trans g3;refine⟨as2,ρ3,S2,ok3,en3,mb.go q ⟨fun ρ' S' q as' H' σ' g' ok' en'=>?_,fun x S h=>Post.mono h g03,fun ρ' S' q as' H' σ' g' ok' en'=>q as' H' σ' (g03.trans g') ok' en',fun ρ' S' q as' H' σ' g' ok' en'=>?_⟩⟩
  ·exact⟨as',ρ',S',(g2.trans g3).trans g',ok',en',q⟩
  ·exact⟨as',ρ',S',(g2.trans g3).trans g',ok',en',q⟩
 ·left;have hi':i=xs.length:=by omega
  subst hi';rw[XY]at h;unfold AA at h;obtain⟨kp,h⟩:=h;obtain⟨_,w2⟩:=W as2 H2 S2 (g2.gu ok1) ok2 kp;exact⟨w2,h as2 H2 σ2 (g1.trans g2) ok2 en2⟩
theorem Gy{t:WT}{b:WS}(mt:MonoT t)(mb:MonoS b):MonoS (TQ t b):=fun D D' ρ S l ⟨W,w0,h⟩=>⟨W,w0,fun m ρ S w=>mt _ _ _ _ (fun c S1 q=>j0 (fun q=>mb.go (D:={D with nx:=fun ρ' S'=>∃ m',m'<m/\W m' ρ' S',ct:=fun ρ' S'=>∃ m',m'<m/\W m' ρ' S',bk:=D.nx}) q ⟨fun _ _ h=>h,l.rt,l.nx,fun _ _ h=>h⟩) (fun q=>l.nx _ _ q) q) (h m ρ S w)⟩
theorem QO{K:Vy}{t:WT}{b:WS}(mt:MonoT t)(mb:MonoS b):∀ D σ H,liftS K (TQ t b) D σ H->Ly (liftT K t) (liftS K b) D σ H:=by
 rintro D σ H ⟨as,ρ,S,ok,en,W,⟨m0,w0⟩,h⟩;refine⟨fun m σ1 H1=>∃ as1 ρ1 S1,Go as H as1 H1/\Ok K as1 H1 S1/\EnvOk K as1 H1 σ1 ρ1/\W m ρ1 S1,⟨m0,as,ρ,S,Go.refl _ _,ok,en,w0⟩,?_⟩;rintro m σ1 H1 ⟨as1,ρ1,S1,g1,ok1,en1,w1⟩;refine⟨as1,ρ1,S1,ok1,en1,mt _ _ _ _ (fun c S2 q as2 H2 g2 ok2=>?_) (h m ρ1 S1 w1)⟩;refine j0 (fun q=>?_) (fun q=>q as2 H2 σ1 (g1.trans g2) ok2 (en1.mono g2.pre (g2.ku ok1))) q;refine⟨fun σ' H'=>∃ m',m'<m/\∃ as1 ρ1 S1,Go as H as1 H'/\Ok K as1 H' S1/\EnvOk K as1 H' σ' ρ1/\W m' ρ1 S1,fun σ' H' z=>z,?_⟩;refine⟨as2,ρ1,S2,ok2,en1.mono g2.pre (g2.ku ok1),mb.go q ⟨fun ρ' S' ⟨m',hm,w'⟩ as' H' σ' g' ok' en'=>?_,fun x S h=>Post.mono h (g1.trans g2),fun ρ' S' q as' H' σ' g' ok' en'=>q as' H' σ' ((g1.trans g2).trans g') ok' en',fun ρ' S' ⟨m',hm,w'⟩ as' H' σ' g' ok' en'=>?_⟩⟩
 ·exact⟨m',hm,as',ρ',S',(g1.trans g2).trans g',ok',en',w'⟩
 ·exact⟨m',hm,as',ρ',S',(g1.trans g2).trans g',ok',en',w'⟩
theorem Do{x y v:SV}{S:Sto}{P P':Sto->Prop}(i:∀ S,P S->P' S)(h:IF x y v S P):IF x y v S P':=by
 unfold IF at h ⊢;split at h
 ·obtain⟨xs,j,a,b,c⟩:=h;exact⟨xs,j,a,b,i _ c⟩
 ·exact h.elim
theorem Jj{K:Vy}{as:List Addr}{H:Hp}{S:Sto}{x y z:SV}{o i v:V}{Q:Hp->Prop}(ok:Ok K as H S)(ro:Rl K as H o x)(ri:Rl K as H i y)(rv:Rl K as H v z)(h:IF x y z S fun S'=>∀ H',Go as H as H'->Ok K as H' S'->Q H'):JA o i v H Q:=by
 cases x with
 | loc k=>
   cases y with
   | int n=>
     obtain⟨xs,j,h1,h2,h3⟩:=h;obtain⟨a,vs,rfl,ea,ha,ra⟩:=m9 ok ro h1;rw[rl_int]at ri;subst ri;refine⟨a,vs,n,j,rfl,rfl,ha,by rw[ra.length];exact h2,h3 _ (Go.write (W5 ea)) (ok.write h1 ea (ra.set rv j)).1⟩
   | _=>exact False.elim h
 | _=>exact False.elim h
theorem QP{K:Vy}{o i e:WE}(mo:Mono o)(mi:Mono i)(me:Mono e):∀ D σ H,liftS K (fun D ρ S=>e ρ S fun v S1=>o ρ S1 fun x S2=>i ρ S2 fun y S3=>IF x y v S3 fun S4=>D.nx ρ S4) D σ H->Hf (lift K e) (UD (lift K o) (lift K i) JA) D σ H:=by
 rintro D σ H ⟨as,ρ,S,ok,en,h⟩;refine⟨as,ρ,S,ok,en,me _ _ _ _ (fun z S1 q as1 H1 v g1 ok1 rv=>?_) h⟩;have en1:=en.mono g1.pre (g1.ku ok);refine⟨as1,ρ,S1,ok1,en1,mo _ _ _ _ (fun x S2 q as2 H2 u g2 ok2 ru=>?_) q⟩;have en2:=en1.mono g2.pre (g2.ku ok1);refine⟨as2,ρ,S2,ok2,en2,mi _ _ _ _ (fun y S3 q as3 H3 t g3 ok3 rt=>?_) q⟩;have en3:=en2.mono g3.pre (g3.ku ok2);refine Jj ok3 (Rl.mono g3.pre (g3.ku ok2) x u ru) rt (Rl.mono (g2.trans g3).pre ((g2.trans g3).ku ok1) z v rv) (Do (fun S4 q H4 g4 ok4=>?_) q);exact q as3 H4 σ (((g1.trans g2).trans g3).trans g4) ok4 (en3.mono g4.pre (g4.ku ok3))
theorem QQ{n j:Nat}(h:j<n):ixN n (j:Int)=some j:=by
 unfold ixN;rw[if_pos (by omega),if_pos (by omega)];simp
noncomputable def VW(K:Vy):V->V->Hp->VK->Prop:=fun x y H Q=>∃ p xs v,∃ i:Nat,x = .ref p/\y = .int i/\SqL K H p xs/\xs[i]?=some v/\Q v H
theorem Tp{X:Cx}:UE X (VW X.K):=by
 intro pins s σ H x y v u Q I rx ry h;obtain⟨p,xs,z,i,rfl,rfl,hq,he,q⟩:=h;cases rx;obtain⟨t,rfl⟩:=ry;obtain⟨its,r,pl,hz⟩:=I.list hq;obtain⟨w,ew,rw'⟩:=r.get he;have hl:=r.length;have hn:=C6;have hi:=(gM he).1;exact wpAny_getItem_list pl.isList (YD _) (by omega) (by rw[Xa];simpa using ew) ⟨z,H,I,rw',q⟩
theorem QR{K:Vy}{o i e:WE}(mo:Mono o)(mi:Mono i)(me:Mono e):∀ D σ H,liftS K (fun D ρ S=>o ρ S fun x S1=>i ρ S1 fun y S2=>∃(k:Nat) (j:Nat) (xs:List SV) (a:Int),x = .loc k/\y = .int j/\S2[k]?=some (.lst xs)/\xs[j]?=some (.int a)/\e ρ S2 fun v S4=>∃(b:Int) (ys:List SV),v = .int b/\S4[k]?=some (.lst ys)/\j<ys.length/\D.nx ρ (S4.set k (.lst (ys.set j (.int (a+b)))))) D σ H->Qy (lift K o) (lift K i) (lift K e) (VW K) (ipI fun i j=>i+j) JA D σ H:=by
 rintro D σ H ⟨as,ρ,S,ok,en,h⟩;refine⟨as,ρ,S,ok,en,mo _ _ _ _ (fun x S1 q as1 H1 u g1 ok1 ru=>?_) h⟩;have en1:=en.mono g1.pre (g1.ku ok);refine⟨as1,ρ,S1,ok1,en1,mi _ _ _ _ (fun y S2 q as2 H2 t g2 ok2 rt=>?_) q⟩;have en2:=en1.mono g2.pre (g2.ku ok1);have ru2:=Rl.mono g2.pre (g2.ku ok1) x u ru;obtain⟨k,j,xs,a,rfl,rfl,h1,h2,q⟩:=q;obtain⟨p,vs,rfl,ea,ha,ra⟩:=m9 ok2 ru2 h1;rw[rl_int]at rt;subst rt;obtain⟨v0,e0,r0⟩:=ra.get h2;rw[rl_int]at r0;subst r0;refine⟨p,vs,_,j,rfl,rfl,SqL.of ha,e0,as2,ρ,S2,ok2,en2,me _ _ _ _ (fun d S4 ⟨b,ys,e2,h4,hj,q⟩ as4 H4 z g4 ok4 rz=>?_) q⟩;subst e2;rw[rl_int]at rz;have en4:=en2.mono g4.pre (g4.ku ok2);refine⟨a,b,rfl,rz,Jj ok4 (Rl.mono g4.pre (g4.ku ok2) (.loc k) (.ref p) ru2) (rl_int.mpr rfl) (rl_int.mpr rfl) (show IF (.loc k) (.int j) (.int (a+b)) S4 _ from ⟨ys,j,h4,QQ hj,fun H5 g5 ok5=>?_⟩)⟩;exact q as4 H5 σ (((g1.trans g2).trans g4).trans g5) ok5 (en4.mono g5.pre (g5.ku ok4))
theorem Eg{x y v:SV}{S:Sto}{Q Q':Sto->Prop}(i:∀ S',Q S'->Q' S')(h:JV x y v S Q):JV x y v S Q':=let ⟨k,j,kvs,a,b,c,d,q⟩:=h;⟨k,j,kvs,a,b,c,d,i _ q⟩
theorem Nv{K:Vy}{o i e:WE}(mo:Mono o)(mi:Mono i)(me:Mono e):∀ D σ H,liftS K (fun D ρ S=>e ρ S fun v S1=>o ρ S1 fun x S2=>i ρ S2 fun y S3=>JV x y v S3 fun S4=>D.nx ρ S4) D σ H->NB (lift K o) (lift K i) (lift K e) D σ H:=by
 rintro D σ H ⟨as,ρ,S,ok,en,h⟩;refine⟨as,ρ,S,ok,en,me _ _ _ _ (fun z S1 q as1 H1 v g1 ok1 rv=>?_) h⟩;have en1:=en.mono g1.pre (g1.ku ok);refine⟨as1,ρ,S1,ok1,en1,mo _ _ _ _ (fun x S2 q as2 H2 u g2 ok2 ru=>?_) q⟩;have en2:=en1.mono g2.pre (g2.ku ok1);refine⟨as2,ρ,S2,ok2,en2,mi _ _ _ _ (fun y S3 q as3 H3 t g3 ok3 rt=>?_) q⟩;have en3:=en2.mono g3.pre (g3.ku ok2);have ru':=Rl.mono g3.pre (g3.ku ok2) x u ru;have rv':=Rl.mono (g2.trans g3).pre ((g2.trans g3).ku ok1) z v rv;obtain⟨k,j,kvs,rfl,rfl,hk,hb,q⟩:=q;obtain⟨a,ea,rfl⟩:=rl_loc.mp ru';rw[rl_int]at rt;subst rt;rcases hk with hk | ⟨o',ks,hk⟩
 ·obtain⟨ks,h1,h2⟩:=ok3.obj k _ a hk ea;obtain⟨ok4,ku⟩:=ok3.writeO (x := .dct (Aj kvs j z)) (u := .dK (Ay ks (Sum.inl j) v)) hk ea (fun ku=>⟨_,f6,RlD.mono (Wq _) ku _ _ (h2.put rv' j)⟩);refine⟨a,H3,_,rfl,.inl rfl,.inl ⟨ks,.inl j,h1,rfl,by rw[h2.length];exact Cl hb,rfl⟩,?_⟩;exact q as3 _ σ (((g1.trans g2).trans g3).trans (Go.write (W5 ea))) ok4 (en3.mono (Wq _) ku)
 ·obtain⟨h1,h2⟩:=(show RlO K as3 H3 a (.dcf o' ks kvs) from ok3.obj k _ a hk ea)
  obtain⟨ok4,ku⟩:=ok3.writeO (x := .dct (Aj kvs j z)) (u := .dK (Ay ks (Sum.inl j) v)) hk ea (fun ku=>⟨_,f6,RlD.mono (Wq _) ku _ _ (h2.put rv' j)⟩)
  have e:upd (upd H3 a (.dK ks)) a (.dK (Ay ks (Sum.inl j) v))=upd H3 a (.dK (Ay ks (Sum.inl j) v)):=by
   funext b
   by_cases hb:b=a
   ·rw[hb,f6,f6]
   ·rw[upd_ne hb,upd_ne hb,upd_ne hb]
  refine⟨a,upd H3 a (.dK ks),upd H3 a (.dK (Ay ks (Sum.inl j) v)),rfl,.inr ⟨a,o',ks,h1,rfl⟩,.inl ⟨ks,.inl j,f6,rfl,by rw[h2.length];exact Cl hb,e.symm⟩,?_⟩;exact q as3 _ σ (((g1.trans g2).trans g3).trans (Go.write (W5 ea))) ok4 (en3.mono (Wq _) ku)
end
theorem Tq{env:Env}{es:List Expr}{k:Nat}{p:Pos}{e:Expr}{l:Nat}:swapsWithSole [.Tuple es k p] e l env=pure false:=by
 unfold swapsWithSole swapsWith;cases e<;>rfl
theorem Tr{env:Env}{o i:Expr}{p:Pos}{e:Expr}{l:Nat}:swapsWithSole [.Subscript o i p] e l env=pure false:=by
 unfold swapsWithSole swapsWith;cases e<;>rfl
theorem Tt{env:Env}{es:List Expr}{k:Nat}{p:Pos}{e:Expr}(h:Nt e=true):swappedStores [.Tuple es k p] e env=pure none:=by
 unfold swappedStores;cases e<;>first | rfl | cases h
theorem Tu{env:Env}{o i:Expr}{p:Pos}{e:Expr}:swappedStores [.Subscript o i p] e env=pure none:=by
 unfold swappedStores;cases e<;>rfl
open PySem L2
theorem Gz{t:WT}{a b:WS}(mt:MonoT t)(ma:MonoS a)(mb:MonoS b):MonoS (fun D ρ S=>t ρ S fun c S1=>if c=true then a D ρ S1 else b D ρ S1):=fun D D' ρ S l h=>mt _ _ _ _ (fun c S1 q=>j0 (fun q=>ma.go q l) (fun q=>mb.go q l) q) h
section
variable{T:List Str}{Δ:Nat->Sn}{X:Cx}{N:List Str}{sc:Scope}
theorem RZ{env:Env}{e:Expr}(h:e7 e=true):(assignEach [e] env).map (·.2)=[assign e env]:=by cases e<;>first | rfl | cases h
theorem Ie{env:Env}{o i:Expr}{p:Pos}(h:y9 i=true):∀ v,assign (.Subscript o i p) env v=(do
 let ov <- holding [v] (eval o env)
 let iv <- holding [v,ov] (eval i env)
 standAt p
 holding [v,ov,iv] (setItem ov iv v)
 release [v,ov,iv] []):=fun v=>by cases i<;>first | rfl | cases h
theorem QS{i:Expr}(h:y9 i=true):∀ ov iv new,augStore i ov iv new=(do holding [new,ov,iv] (setItem ov iv new);release [new,ov,iv] [];pure .next):=fun _ _ _=>by cases i<;>first | rfl | cases h
theorem LL(C:Cok T Δ X N.length N sc)(hk:sc.kind = .function){t:Tg}{e:Ex}{rt re:Expr}{pos:Pos}(h1:Al N.length N sc t rt=true)(h2:g8 T N sc e re=true)(h3:e7 rt=true)(h4:Tm sc rt re=true):PS X (.Assign [rt] re pos) (liftS X.K fun D ρ S=>(wEx Δ e).1 ρ S fun x S1=>wTg t x ρ fun ρ'=>D.nx ρ' S1):=by
 have ge:=a8 e re C h2;unfold Tm at h4;cases hv:Ic rt with
 | none=>
   rw[hv]at h4;rw[Vz]at h4;obtain⟨es,hes⟩:=X9.mp h4.1;obtain⟨j,p,rfl⟩:=DD hes;exact w9 _ (Lx ge.pe (AO C t _ h1) Tq (Tt h4.2) (RZ rfl)) (QM ge.m)
 | some xp=>
   rw[hv]at h4;have e0:=LK hv;obtain⟨x,px⟩:=xp;subst e0;cases t with
   | tup ts=>rw[Al]at h1;cases h1
   | nm i=>
     rw[Al]at h1;have h1:(decide (i<N.length)&&decide (N[i]?=some x)&&loc sc x)=true:=h1;simp only[Vz,decide_eq_true_eq]at h1;obtain⟨⟨hi,hx⟩,hl⟩:=h1;unfold loc at hl;simp only[XC,beq_iff_eq]at hl;have hND:X.N.Nodup:=by rw[C.hN];exact C.nd
     have hNi:X.N[i]?=some x:=by rw[C.hN];exact hx
     have hloc:Loc X.env.scope x:=by rw[C.hs];exact hl
     have hf:X.fn x=true\/X.env.scope.names.lookup x=some .local:=by
      rw[C.hs];rcases hl with hl | hl
      ·exact .inr hl
      ·exact .inl (C.fn i x hi hx hl)
     have hke:X.env.scope.kind = .function:=by rw[C.hs];exact hk
     cases hsw:Dl sc re x px with
     | false=>exact w9 _ (SE hND hNi hloc ge.pe (by rw[FT hke,C.hs,hsw]) hf) (Dm ge.m)
     | true=>
       have h4:(!Dl sc re x px||Tk re||Tl re)=true:=h4;rw[hsw,Bool.not_true,ZV,XC]at h4;rcases h4 with h4 | h4
       ·unfold Tk at h4;obtain⟨v,hv',h4⟩:=a6 h4;obtain⟨gen,hgen⟩:=X9.mp h4;obtain⟨p',rfl⟩:=GT hv';rw[u8 hgen]at h2 ge hsw ⊢
        have hxl:X.env.scope.names.lookup x=some .local:=by
         rw[C.hs];unfold Dl Cs at hsw;simp only[Vz,beq_iff_eq]at hsw;exact hsw.1.1
        have hs1:swapsWith (.ListComp v.1 [gen] v.2.2 p') (some (.Name x px)) pos.line X.env=pure true:=by rw[FT hke,C.hs,hsw]
        cases e with
        | comp own cn js g it t' e'=>
          obtain⟨tg,ri,ifs,az⟩:=gen;have h2:(decide (az=0)&&j8 sc v.2.2 own cn N js&&Al own.length (own++cn) (BJ v.2.2 sc) g tg&&IK T N sc it tg ri&&n8 ri&&D0 T (own++cn) (BJ v.2.2 sc) t' ifs&&g8 T (own++cn) (BJ v.2.2 sc) e' v.1)=true:=h2;simp only[Vz,decide_eq_true_eq]at h2;obtain⟨⟨⟨⟨⟨⟨k0,k1⟩,k2⟩,k3⟩,k4⟩,k5⟩,k6⟩:=h2;subst k0;have hI:=AX it _ _ C k3;have hT:=fun s2 H2 cs A fp=>Bj t' _ (C.comp k1 s2 H2 cs A fp) k5;have hE:=fun s2 H2 cs A fp=>a8 e' _ (C.comp k1 s2 H2 cs A fp) k6;have mt:=(hT X.s₀ X.H₀ [] 0 []).2;have me:=(hE X.s₀ X.H₀ [] 0 []).m;have b:=Hu (i:=i) (g:=Bf X.K g) (tt:=liftT X.K (wEo Δ t').2) (te:=lift X.K (wEx Δ e').1) own cn js hND hNi hxl hI.pi (fun s2 H2 cs A fp=>AO (C.comp k1 s2 H2 cs A fp) g _ k2) (fun s2 H2 cs A fp=>(hT s2 H2 cs A fp).1) (fun s2 H2 cs A fp=>(hE s2 H2 cs A fp).pe) C.calm (by rw[C.hs,C.hN];exact k1) hs1 (v8 k4);refine w9 _ b fun D σ H h=>?_;have:=Dm ge.m D σ H h;exact Gj hI.m mt me σ H _ this
        | no=>exact fun _ _ _ _ _ _ h=>let ⟨_,_,_,_,_,z⟩:=h;z.elim
        | _=>exact absurd h2 nofun
       ·unfold Tl at h4;obtain⟨v,hv',h4⟩:=a6 h4;obtain⟨gen,hgen⟩:=X9.mp h4;obtain⟨p',rfl⟩:=EZ hv';rw[u8 hgen]at h2 ge hsw ⊢
        have hxl:X.env.scope.names.lookup x=some .local:=by
         rw[C.hs];unfold Dl Cs at hsw;simp only[Vz,beq_iff_eq]at hsw;exact hsw.1.1
        have hs1:swapsWith (.DictComp v.1 v.2.1 [gen] v.2.2.2 p') (some (.Name x px)) pos.line X.env=pure true:=by rw[FT hke,C.hs,hsw]
        cases e with
        | dcomp own cn js g it t' e' f'=>
          obtain⟨tg,ri,ifs,az⟩:=gen;have h2:(decide (az=0)&&j8 sc v.2.2.2 own cn N js&&Al own.length (own++cn) (BJ v.2.2.2 sc) g tg&&IK T N sc it tg ri&&n8 ri&&D0 T (own++cn) (BJ v.2.2.2 sc) t' ifs&&g8 T (own++cn) (BJ v.2.2.2 sc) e' v.1&&g8 T (own++cn) (BJ v.2.2.2 sc) f' v.2.1)=true:=h2;simp only[Vz,decide_eq_true_eq]at h2;obtain⟨⟨⟨⟨⟨⟨⟨k0,k1⟩,k2⟩,k3⟩,k4⟩,k5⟩,k6⟩,k7⟩:=h2;subst k0;have hI:=AX it _ _ C k3;have hT:=fun s2 H2 cs A fp=>Bj t' _ (C.comp k1 s2 H2 cs A fp) k5;have hE:=fun s2 H2 cs A fp=>a8 e' _ (C.comp k1 s2 H2 cs A fp) k6;have hF:=fun s2 H2 cs A fp=>a8 f' _ (C.comp k1 s2 H2 cs A fp) k7;have mt:=(hT X.s₀ X.H₀ [] 0 []).2;have me:=(hE X.s₀ X.H₀ [] 0 []).m;have mf:=(hF X.s₀ X.H₀ [] 0 []).m;have b:=Gi (i:=i) (g:=Bf X.K g) (tt:=liftT X.K (wEo Δ t').2) (tk:=lift X.K (wEx Δ e').1) (tv:=lift X.K (wEx Δ f').1) own cn js hND hNi hxl hI.pi (fun s2 H2 cs A fp=>AO (C.comp k1 s2 H2 cs A fp) g _ k2) (fun s2 H2 cs A fp=>(hT s2 H2 cs A fp).1) (fun s2 H2 cs A fp=>(hE s2 H2 cs A fp).pe) (fun s2 H2 cs A fp=>(hF s2 H2 cs A fp).pe) C.calm (by rw[C.hs,C.hN];exact k1) hs1 (v8 k4);refine w9 _ b fun D σ H h=>?_;have:=Dm ge.m D σ H h;exact Ee hI.m mt me mf σ H _ this
        | no=>exact fun _ _ _ _ _ _ h=>let ⟨_,_,_,_,_,z⟩:=h;z.elim
        | _=>exact absurd h2 nofun
mutual
theorem Nw(C:Cok T Δ X N.length N sc)(hp:PassesOwn (model X.prog X.w) X.A X.env X.xe)(hk:sc.kind = .function):∀(s:Stm) (r:Stmt),VV T N sc s r=true->GoodS X r (wSt Δ s)
 | .asg t e,r,h=>by
   replace h:=a6 h;obtain⟨v,hv,h⟩:=h;replace h:=a6 h;obtain⟨rt,hrt,h⟩:=h;obtain⟨pos,rfl⟩:=FU hv;simp only[Vz]at h;obtain⟨⟨⟨h1,h2⟩,h3⟩,h4⟩:=h;rw[u8 hrt];exact⟨LL C hk h1 h2 h3 h4,Gx (a8 e _ C h2).m⟩
 | .put o i e,r,h=>by
   replace h:=a6 h;obtain⟨v,hv,h⟩:=h;replace h:=a6 h;obtain⟨rt,hrt,h⟩:=h;replace h:=a6 h;obtain⟨oi,hoi,h⟩:=h;obtain⟨pos,rfl⟩:=FU hv;obtain⟨p2,e2⟩:=BK hoi;simp only[Vz]at h;rw[u8 hrt,e2];have go:=a8 o _ C h.1.1.1;have gi:=a8 i _ C h.1.1.2;have ge:=a8 e _ C h.1.2;refine⟨w9 _ (Lx ge.pe (SD go.pe gi.pe Fy (Ie h.2)) Tr Tu (RZ rfl)) (QP go.m gi.m ge.m),?_⟩;exact fun D D' ρ S l h=>ge.m _ _ _ _ (fun v S1 q=>go.m _ _ _ _ (fun x S2 q=>gi.m _ _ _ _ (fun y S3 q=>Do (fun S4 q=>l.nx _ _ q) q) q) q) h
 | .augS o i e,r,h=>by
   replace h:=a6 h;obtain⟨v,hv,h⟩:=h;replace h:=a6 h;obtain⟨oi,hoi,h⟩:=h;obtain⟨pos,rfl⟩:=QH hv;obtain⟨p2,e2⟩:=BK hoi;simp only[Vz]at h;rw[Nu h.1.1.1.1,e2];have go:=a8 o _ C h.1.1.1.2;have gi:=a8 i _ C h.1.1.2;have ge:=a8 e _ C h.1.2;refine⟨w9 _ (Ow go.pe gi.pe Tp ge.pe SF Fy (QS h.2)) (QR go.m gi.m ge.m),?_⟩;exact fun D D' ρ S l h=>go.m _ _ _ _ (fun x S1 q=>gi.m _ _ _ _ (fun y S2 ⟨k,j,xs,a,e1,e2,h1,h2,q⟩=>⟨k,j,xs,a,e1,e2,h1,h2,ge.m _ _ _ _ (fun v S4 ⟨b,ys,e1,h4,h5,q⟩=>⟨b,ys,e1,h4,h5,l.nx _ _ q⟩) q⟩) q) h
 | .dput o i e,r,h=>by
   replace h:=a6 h;obtain⟨v,hv,h⟩:=h;replace h:=a6 h;obtain⟨rt,hrt,h⟩:=h;replace h:=a6 h;obtain⟨oi,hoi,h⟩:=h;obtain⟨pos,rfl⟩:=FU hv;obtain⟨p2,e2⟩:=BK hoi;simp only[Vz]at h;rw[u8 hrt,e2];have go:=a8 o _ C h.1.1.1;have gi:=a8 i _ C h.1.1.2;have ge:=a8 e _ C h.1.2;have:=C.un;refine⟨w9 _ (NC (by omega) go.pe gi.pe ge.pe (by unfold swapsWith;cases v.2<;>rfl)) (Nv go.m gi.m ge.m),?_⟩;exact fun D D' ρ S l h=>ge.m _ _ _ _ (fun v S1 q=>go.m _ _ _ _ (fun x S2 q=>gi.m _ _ _ _ (fun y S3 q=>Eg (fun S4 q=>l.nx _ _ q) q) q) q) h
 | .expr e,r,h=>by
   replace h:=a6 h;obtain⟨re,hre,h⟩:=h;obtain⟨pos,rfl⟩:=QI hre;simp only[Vz]at h;have ge:=a8 e _ C h.1
   have hs:swapsWith re none pos.line X.env=pure false:=by
    have:=h.2;unfold swapsWith;cases re<;>first | rfl | (unfold Cs at this;cases this)
   refine⟨w9 _ (Os ge.pe hs) ?_,fun D D' ρ S l h=>ge.m _ _ _ _ (fun x S1 q=>l.nx _ _ q) h⟩;rintro D σ H ⟨as,ρ,S,ok,en,h⟩;exact⟨as,ρ,S,ok,en,ge.m _ _ _ _ (fun x S1 q as1 H1 v g1 ok1 rv=>q as1 H1 σ g1 ok1 (en.mono g1.pre (g1.ku ok))) h⟩
 | .iff t a b,r,h=>by
   replace h:=a6 h;obtain⟨v,hv,h⟩:=h;obtain⟨pos,rfl⟩:=QJ hv;simp only[Vz]at h;have gt:=a8 t _ C h.1.1;have ga:=B6 C hp hk a _ h.1.2;have gb:=B6 C hp hk b _ h.2;exact⟨w9 _ (UB gt.pt ga.ps gb.ps) (To gt.mt ga.m gb.m),Gz gt.mt ga.m gb.m⟩
 | .loop g it b,r,h=>by
   replace h:=a6 h;obtain⟨v,hv,h⟩:=h;obtain⟨pos,rfl⟩:=QK hv;simp only[Vz,XH]at h;obtain⟨⟨⟨⟨h1,h2⟩,h3⟩,h4⟩,h5⟩:=h;rw[h5];have gi:=AX it _ _ C h2;have gb:=B6 C hp hk b _ h4;refine⟨w9 _ (SG hp C.calm gi.pi (AO C g _ h1) gb.ps (v8 h3)) (QN gi.m gb.m),?_⟩;exact fun D D' ρ S l h=>gi.m _ _ _ _ (fun keep xs S1 q=>Bw gb.m xs l _ _ q) h
 | .whl t b,r,h=>by
   replace h:=a6 h;obtain⟨v,hv,h⟩:=h;obtain⟨pos,rfl⟩:=QL hv;simp only[Vz,XH]at h;rw[h.2];have gt:=a8 t _ C h.1.1;have gb:=B6 C hp hk b _ h.1.2;exact⟨w9 _ (Lz hp gt.pt gb.ps) (QO gt.mt gb.m),Gy gt.mt gb.m⟩
 | .ret e,r,h=>by
   replace h:=a6 h;obtain⟨o,ho,h⟩:=h;replace h:=a6 h;obtain⟨re,hre,h⟩:=h;obtain⟨pos,rfl⟩:=Ji ho;rw[hre];have ge:=a8 e _ C h;exact⟨w9 _ (SA ge.pe) fun D σ H ⟨as,ρ,S,ok,en,h⟩=>⟨as,ρ,S,ok,en,h⟩,fun D D' ρ S l h=>ge.m _ _ _ _ l.rt h⟩
 | .retN,r,h=>by
   replace h:=a6 h;obtain⟨o,ho,h⟩:=h;obtain⟨pos,rfl⟩:=Ji ho;rw[Xe.mp h];exact⟨w9 _ Ot fun D σ H ⟨as,ρ,S,ok,en,h⟩=>Post.here h ok (rl_non.mpr rfl),fun D D' ρ S l h=>l.rt _ _ h⟩
 | .no,r,h=>⟨fun _ _ _ _ _ _ h=>let ⟨_,_,_,_,_,z⟩:=h;z.elim,fun _ _ _ _ _ h=>h⟩
theorem B6(C:Cok T Δ X N.length N sc)(hp:PassesOwn (model X.prog X.w) X.A X.env X.xe)(hk:sc.kind = .function):∀(s:List Stm) (r:List Stmt),CV T N sc s r=true->GoodSs X r (wSs Δ s)
 | [],r,h=>by
   rw[CV,XH]at h;subst h;exact Id
 | s::ss,r,h=>by
   rw[CV]at h;replace h:=a6 h;obtain⟨x,hx,h⟩:=h;rw[Vz]at h;rw[Ak hx];have:=Gv (Nw C hp hk s x h.1) (B6 C hp hk ss _ h.2);rw[wSs];exact this
end
end
open PySem L2
mutual
theorem a7{Δ:Nat->Sn}(hΔ:∀ f,MonoN (Δ f)):∀(e:Ex),Mono (wEx Δ e).1/\MonoT (wEx Δ e).2
 | .var i=>⟨.var,.tru .var⟩
 | .c x=>⟨.c,.tru .c⟩
 | .op o a b=>have m:Mono _ := .two (s:=sOp o) JY (a7 hΔ a).1 (a7 hΔ b).1;⟨m,.tru m⟩
 | .neg a=>have m:Mono _ := .one De (a7 hΔ a).1;⟨m,.tru m⟩
 | .cmp o a b=>have m:Mono _ := .two (s:=BH o) AN (a7 hΔ a).1 (a7 hΔ b).1;⟨m,.bl m⟩
 | .chn o p a b c=>have m:=GV (o:=o) (p:=p) (a7 hΔ a).1 (a7 hΔ b).1 (a7 hΔ c).1;⟨m,.bl m⟩
 | .and a b=>⟨.and (a7 hΔ a).1 (a7 hΔ b).1,.and (a7 hΔ a).2 (a7 hΔ b).2⟩
 | .or a b=>⟨.or (a7 hΔ a).1 (a7 hΔ b).1,.or (a7 hΔ a).2 (a7 hΔ b).2⟩
 | .not a=>⟨.not (a7 hΔ a).1,.not (a7 hΔ a).2⟩
 | .ife t a b=>⟨.ifE (a7 hΔ t).2 (a7 hΔ a).1 (a7 hΔ b).1,fun _ _ _ _ _ h=>h⟩
 | .tup es=>have m:Mono _ := .n .tup (B7 hΔ es);⟨m,.tru m⟩
 | .lst es=>have m:Mono _ := .n .lst (B7 hΔ es);⟨m,.tru m⟩
 | .ix a b=>have m:Mono _ := .two .ix (a7 hΔ a).1 (a7 hΔ b).1;⟨m,.tru m⟩
 | .slc a lo hi=>have m:Mono _:=(fun ρ S P P' i h=>(a7 hΔ a).1 _ _ _ _ (fun x S1 h=>(j5 hΔ lo).1 _ _ _ _ (fun l S2 h=>(j5 hΔ hi).1 _ _ _ _ (fun k S3 h=>Di i h) h) h) h:Mono (TN _ _ _));⟨m,.tru m⟩
 | .call f es=>have m:Mono _ := .n (hΔ f) (B7 hΔ es);⟨m,.tru m⟩
 | .bi b es=>have m:Mono _ := .n (s:=sBi b) .bi (B7 hΔ es);⟨m,.tru m⟩
 | .mt m' a es=>have m:Mono _:=Mono.mt (m:=m') (a7 hΔ a).1 (B7 hΔ es);⟨m,.tru m⟩
 | .comp own cn js g it t e=>have m:Mono _:=Mono.comp (k:=own.length) (js:=js) (g:=g) (CW hΔ it) (j5 hΔ t).2 (a7 hΔ e).1;⟨m,.tru m⟩
 | .tyc t=>⟨.c,.tru .c⟩
 | .lrng1 a=>have m:=Dj (a7 hΔ a).1;⟨m,.tru m⟩
 | .rev a=>have m:Mono _ := .one GZ (a7 hΔ a).1;⟨m,.tru m⟩
 | .max1 a=>have m:=Eb (a7 hΔ a).1;⟨m,.tru m⟩
 | .maxd a d=>have m:=Ec (a7 hΔ a).1 (a7 hΔ d).1;⟨m,.tru m⟩
 | .lenset a=>have m:=D1 (a7 hΔ a).1;⟨m,.tru m⟩
 | .srtset a=>have m:=D2 (a7 hΔ a).1;⟨m,.tru m⟩
 | .dcomp own cn js g it t e f=>have m:Mono _:=Mono.dcomp (k:=own.length) (js:=js) (g:=g) (CW hΔ it) (j5 hΔ t).2 (a7 hΔ e).1 (a7 hΔ f).1;⟨m,.tru m⟩
 | .srtsc own cn js g it t e=>have m:Mono _:=Mono.srtsc (k:=own.length) (js:=js) (g:=g) (CW hΔ it) (j5 hΔ t).2 (a7 hΔ e).1;⟨m,.tru m⟩
 | .eqt0 a b=>have m:Mono _ := .two Bu (a7 hΔ a).1 (a7 hΔ b).1;⟨m,.bl m⟩
 | .nell a b=>have m:Mono _ := .two Bt (a7 hΔ a).1 (a7 hΔ b).1;⟨m,.bl m⟩
 | .dget a b=>have m:Mono _ := .two Cq (a7 hΔ a).1 (a7 hΔ b).1;⟨m,.tru m⟩
 | .din n a b=>have m:Mono _ := .two (s:=Ko n) B5 (a7 hΔ a).1 (a7 hΔ b).1;⟨m,.bl m⟩
 | .no=>⟨fun _ _ _ _ _ h=>h,fun _ _ _ _ _ h=>h⟩
theorem B7{Δ:Nat->Sn}(hΔ:∀ f,MonoN (Δ f)):∀(es:Exs),MonoA (GP Δ es)
 | .nil => .nil
 | .cons e es => .cons (a7 hΔ e).1 (B7 hΔ es)
theorem j5{Δ:Nat->Sn}(hΔ:∀ f,MonoN (Δ f)):∀(o:Eo),MonoO (wEo Δ o).1/\MonoT (wEo Δ o).2
 | .no=>⟨.no,fun _ _ _ _ i q=>i _ _ q⟩
 | .yes e=>⟨.yes (a7 hΔ e).1,(a7 hΔ e).2⟩
theorem CW{Δ:Nat->Sn}(hΔ:∀ f,MonoN (Δ f)):∀(it:Itb),MonoI (Kq Δ it)
 | .seq e=>fun ρ S P P' i h=>(a7 hΔ e).1 _ _ _ _ (fun x S1 ⟨xs,e,q⟩=>⟨xs,e,i _ _ _ q⟩) h
 | .rng1 a=>fun ρ S P P' i h=>(a7 hΔ a).1 _ _ _ _ (fun x S1 ⟨j,e,z,q⟩=>⟨j,e,z,i _ _ _ q⟩) h
 | .enum e=>fun ρ S P P' i h=>(a7 hΔ e).1 _ _ _ _ (fun x S1 ⟨xs,e,q⟩=>⟨xs,e,i _ _ _ q⟩) h
 | .dk e=>fun ρ S P P' i h=>(a7 hΔ e).1 _ _ _ _ (fun x S1 ⟨k,kvs,e,hk,q⟩=>⟨k,kvs,e,hk,fun o ks=>i _ _ _ (q o ks)⟩) h
end
mutual
theorem QT{Δ:Nat->Sn}(hΔ:∀ f,MonoN (Δ f)):∀(s:Stm),MonoS (wSt Δ s)
 | .asg t e=>by exact Gx (a7 hΔ e).1
 | .put o i e=>by exact fun D D' ρ S l h=>(a7 hΔ e).1 _ _ _ _ (fun v S1 q=>(a7 hΔ o).1 _ _ _ _ (fun x S2 q=>(a7 hΔ i).1 _ _ _ _ (fun y S3 q=>Do (fun S4 q=>l.nx _ _ q) q) q) q) h
 | .augS o i e=>by exact fun D D' ρ S l h=>(a7 hΔ o).1 _ _ _ _ (fun x S1 q=>(a7 hΔ i).1 _ _ _ _ (fun y S2 ⟨k,j,xs,a,e1,e2,h1,h2,q⟩=>⟨k,j,xs,a,e1,e2,h1,h2,(a7 hΔ e).1 _ _ _ _ (fun v S4 ⟨b,ys,e1,h4,h5,q⟩=>⟨b,ys,e1,h4,h5,l.nx _ _ q⟩) q⟩) q) h
 | .dput o i e=>by exact fun D D' ρ S l h=>(a7 hΔ e).1 _ _ _ _ (fun v S1 q=>(a7 hΔ o).1 _ _ _ _ (fun x S2 q=>(a7 hΔ i).1 _ _ _ _ (fun y S3 q=>Eg (fun S4 q=>l.nx _ _ q) q) q) q) h
 | .expr e=>by exact fun D D' ρ S l h=>(a7 hΔ e).1 _ _ _ _ (fun x S1 q=>l.nx _ _ q) h
 | .iff t a b=>by exact Gz (a7 hΔ t).2 (i8 hΔ a) (i8 hΔ b)
 | .loop g it b=>by exact fun D D' ρ S l h=>CW hΔ it _ _ _ _ (fun keep xs S1 q=>Bw (i8 hΔ b) xs l _ _ q) h
 | .whl t b=>by exact Gy (a7 hΔ t).2 (i8 hΔ b)
 | .ret e=>by exact fun D D' ρ S l h=>(a7 hΔ e).1 _ _ _ _ l.rt h
 | .retN=>by exact fun D D' ρ S l h=>l.rt _ _ h
 | .no=>by exact fun D D' ρ S l h=>h
theorem i8{Δ:Nat->Sn}(hΔ:∀ f,MonoN (Δ f)):∀(s:List Stm),MonoS (wSs Δ s)
 | []=>by exact fun D D' ρ S l h=>l.nx _ _ h
 | s::ss=>by exact fun D D' ρ S l h=>(QT hΔ s).go (D:={D with nx:=wSs Δ ss D}) h ⟨fun ρ' S' q=>(i8 hΔ ss) _ _ _ _ l q,l.rt,l.bk,l.ct⟩
end
theorem FV{P:List Value->Prop}(h:∀ a,P [a]):∀ us:List Value,us.length=1->P us
 | [a],_=>h a
theorem CF{P:List Value->Prop}(h:∀ a b,P [a,b]):∀ us:List Value,us.length=2->P us
 | [a,b],_=>h a b
theorem QU{P:List Value->Prop}(h:∀ a b c,P [a,b,c]):∀ us:List Value,us.length=3->P us
 | [a,b,c],_=>h a b c
theorem Tv{P:List Value->Prop}(h:∀ a b c d,P [a,b,c,d]):∀ us:List Value,us.length=4->P us
 | [a,b,c,d],_=>h a b c d
structure Df where
 name:Str
 st:Stmt
 ps:List Str
 N:List Str
 body:List Stm
noncomputable def BL(Q:QE):EndsS:=⟨fun _ S'=>Q .non S',Q,fun _ _=>False,fun _ _=>False⟩
noncomputable def Nx(n:Nat)(xs:List SV):EnvS:=xs.map some++WC (n - xs.length) none
noncomputable def i6(Δ:Nat->Sn)(D:Df):Sn:=fun xs S Q=>xs.length=D.ps.length/\wSs Δ D.body (BL Q) (Nx D.N.length xs) S
noncomputable def W(prog:List Df):Nat->Nat->Sn
 | 0,_=>fun _ _ _=>False
 | d+1,f=>match prog[f]? with
   | some D=>i6 (W prog d) D
   | none=>fun _ _ _=>False
theorem Ny{Δ:Nat->Sn}(hΔ:∀ f,MonoN (Δ f))(D:Df):MonoN (i6 Δ D):=fun xs S P P' i h=>⟨h.1,(i8 hΔ D.body).go h.2 ⟨fun _ _ q=>i _ _ q,i,fun _ _ q=>q,fun _ _ q=>q⟩⟩
theorem Dp{prog:List Df}:∀(d f:Nat),MonoN (W prog d f)
 | 0,f=>fun _ _ _ _ _ h=>h
 | d+1,f=>by
   unfold W;split
   ·exact Ny (Dp d) _
   ·exact fun _ _ _ _ _ h=>h
noncomputable def fnB(N ps:List Str)(sc:Scope):Bool:=decide (sc.kind = .function)&&!sc.isCoroutine&&!sc.isGenerator&&decide N.Nodup&&decide (N.take ps.length=ps)&&ps.all (loc sc)&&sc.names.all (fun y=>!decide (y.2 = .free))
theorem Tx{N ps:List Str}{sc:Scope}(h:fnB N ps sc=true):FnScope N ps sc:=by
 unfold fnB at h;simp only[Vz,decide_eq_true_eq,Wi,Wa,decide_eq_false_iff_not]at h;obtain⟨⟨⟨⟨⟨⟨h1,h2⟩,h3⟩,h4⟩,h5⟩,h6⟩,h7⟩:=h;refine⟨h1,h2,h3,h4,h5,fun x hx=>?_,h7⟩;have:=h6 x hx;unfold loc at this;simpa using this
noncomputable def QV(T:List Str)(D:Df):Bool:=fnB D.N D.ps (defScope D.st)&&CV T D.N (defScope D.st) D.body (defBody D.st)
structure Bl(mg:Str->Option Value):Prop where
 bl:∀ b:BI,mg b.name=none
 rng:mg "range"=none
 enm:mg "enumerate"=none
 zip:mg "zip"=none
 st0:mg "set"=none
 dc0:mg "dict"=none
 ty:∀ t:TyN,t ≠ .none->mg (Str.ofString t.nm)=none
section
variable{P:Program}{w:World}{K:Vy}{mg:Str->Option Value}{base:Heap}
theorem LM{as:List Addr}{H:Hp}{N:List Str}{vs:List V}{xs:List SV}(r:RlAll K as H vs xs):EnvOk K as H (L2.start N vs) (Nx N.length xs):=by
 unfold L2.start Nx;rw[<-r.length];refine⟨by simp[r.length],fun i x e=>?_⟩;by_cases hi:i<vs.length
 ·rw[WD (by rw[W2,<-r.length];exact hi),WG]at e;rw[WD (by simpa using hi),WG];cases hx:xs[i]? with
  | none=>rw[hx]at e;cases e
  | some y=>
    rw[hx]at e;have:y=x:=by simpa using e
    subst this;obtain⟨v,hv,rv⟩:=r.get hx;exact⟨v,by rw[hv];rfl,rv⟩
 ·rw[Wh (by rw[W2,<-r.length];omega),XM]at e;split at e<;>cases e
theorem Nz{T:List Str}{Δ:Nat->Sn}{D:Df}{f:Addr}{fd:FuncData}{k:Nat}(F:Fun K D.name D.name D.st f fd)(hc:QV T D=true)(B:Bl mg)(hcall:∀ f x,T[f]?=some x->∃ ps,Cal P w K mg base k x ps (spS K (Δ f)))(hΔ:∀ f,MonoN (Δ f)):FnOk P w K mg base CX0 (k+1) f fd D.ps (spS K (i6 Δ D)):=by
 unfold QV at hc;rw[Vz]at hc;have S:=Tx hc.1;refine F.ok S (fun vs H Q E h=>?_) (fun cdv A outer s H vs Q E hr h=>?_)
 ·obtain⟨as,S,xs,ok,r,hl,_⟩:=h;rw[r.length];exact hl
 ·have C:Cok T Δ (Hl CX0 P w K mg base D.N D.name (defScope D.st) f cdv A outer s H E).nox D.N.length D.N (defScope D.st):={
   hN:=rfl,hs:=rfl,nd:=S.nd,calm:=rfl,fn:=fun _ _ _ _ _=>rfl
   un:=by have:=hr.un;show(A.deeper _).units+100<cLine;omega
   bl:=B.bl,rng:=B.rng,enm:=B.enm,zip:=B.zip,st0:=B.st0,dc0:=B.dc0,ty:=B.ty,gd:=hr.gd
   call:=fun g x hx=>let ⟨ps,c⟩:=hcall g x hx;⟨k,ps,c,hr⟩
   mono:=hΔ}
  refine⟨_,(B6 C PassesOwn.never S.kind D.body _ hc.2).ps,?_⟩;obtain⟨as,S,xs,ok,r,hl,h⟩:=h;refine⟨as,_,S,ok,LM r,(i8 hΔ D.body).go h ⟨fun ρ' S' q as' H' σ' g ok' en'=>q as' H' _ g ok' (rl_non.mpr rfl),fun x S' q=>q,fun _ _ q=>q.elim,fun _ _ q=>q.elim⟩⟩
structure PIn(K:Vy)(mg:Str->Option Value)(D:Df):Prop where
 ex:∃ f fd,Fun K D.name D.name D.st f fd/\mg D.name=some (.ref f)/\PySem.W.keepIn K (.ref f)=true/\Binds K fd D.ps []
theorem Jk{prog:List Df}(hc:prog.all (QV (prog.map (·.name)))=true)(B:Bl mg)(hin:∀ D∈prog,PIn K mg D):∀(d f:Nat) (D:Df),prog[f]?=some D->Cal P w K mg base d D.name D.ps (spS K (W prog d f))
 | 0,f,D,hf=>by
   obtain⟨fa,fd,F,hm,hk,hb⟩:=(hin D (W5 hf)).ex;refine⟨fa,fd,⟨fun vs H Q E h=>?_,fun A outer s H args us vs Q E hr he hbn hv h=>?_⟩,hm,hk,hb⟩
   ·obtain⟨_,_,_,_,_,z⟩:=h;exact z.elim
   ·obtain⟨_,_,_,_,_,z⟩:=h;exact z.elim
 | d+1,f,D,hf=>by
   obtain⟨fa,fd,F,hm,hk,hb⟩:=(hin D (W5 hf)).ex;have h1:=Wa.mp hc D (W5 hf)
   have:=Nz (Δ:=W prog d) (P:=P) (w:=w) (base:=base) (k:=d) F h1 B (fun g x hx=>by
    rw[WG]at hx;cases hg:prog[g]? with
    | none=>rw[hg]at hx;cases hx
    | some D'=>
      rw[hg]at hx;have:D'.name=x:=by simpa using hx
      subst this;exact⟨D'.ps,Jk hc B hin d g D' hg⟩) (Dp d)
   have e:W prog (d+1) f=i6 (W prog d) D:=by rw[W,hf]
   rw[e];exact⟨fa,fd,this,hm,hk,hb⟩
theorem Ty{prog:List Df}{d f:Nat}{H:Hp}{a:Addr}{ns:List Int}(main:W prog d f [.ro (ns.map SV.int)] [] fun x _=>x = .bl true)(hO:P7 H)(hS:SqL K H a (ns.map V.int)):spS K (W prog d f) [.ref a] H (fun v _=>v = .bl true) fun _ _ _=>False:=by
 have hz:FzL K H a (ns.map V.int):=by
  rcases hS with(h | ⟨o,h⟩) | h
  ·rcases hO a with z | ⟨o,xs,z⟩<;>rw[h]at z<;>cases z
  ·exact .inl ⟨o,h⟩
  ·exact .inr h
 refine⟨[],[],_,⟨rfl,Z2,fun k o a e=>by simp at e⟩,.cons (rl_ro.mpr ⟨a,_,rfl,hz,RlAll.ints⟩) .nil,Dp d f _ _ _ _ (fun x S' e as' H' v g ok r=>?_) main⟩;subst e;exact rl_bl.mp r
end
open PySem L2
theorem c5{k:Nat}{S:Sto}{xs:List SV}(h:S[k]?=some (.lst xs)):Aa (.loc k) S=some xs:=by simp only[Aa,h]
theorem O0{k:Nat}{S:Sto}{xs:List SV}(h:S[k]?=some (.lst xs)):EW (.loc k) S=none:=by simp only[EW,h]
theorem FW{k:Nat}{S:Sto}{xs:List SV}(h:S[k]?=some (.lst xs)):NF (.loc k) S=some (!xs.isEmpty):=by simp only[NF,h]
theorem O6{k:Nat}{S:Sto}{xs:List SV}(h:S[k]?=some (.lst xs)):tyS (.loc k) S=some .list:=by simp only[tyS,h]
theorem ifT{b:Bool}{A B:Prop}(h:b=true)(a:A):if b=true then A else B:=by rw[if_pos h];exact a
theorem ifF{b:Bool}{A B:Prop}(h:b=false)(a:B):if b=true then A else B:=by rw[if_neg (by rw[h];decide)];exact a
theorem ifD{c A B:Prop}[Decidable c](h1:c->A)(h2:¬ c->B):if decide c=true then A else B:=by
 by_cases h:c
 ·rw[if_pos (decide_eq_true h)];exact h1 h
 ·rw[if_neg (by simpa using h)];exact h2 h
theorem ifB{b:Bool}{A B:Prop}(h1:b=true->A)(h2:b=false->B):if b=true then A else B:=by
 cases b with
 | true=>rw[if_pos rfl];exact h1 rfl
 | false=>rw[if_neg (by decide)];exact h2 rfl
theorem j6{S:Sto}{k:Nat}{o u:SO}(h:S[k]?=some o):(S.set k u)[k]?=some u:=Wg ((gM h).1)
theorem i9{S:Sto}{k j:Nat}{u:SO}(h:k≠j):(S.set k u)[j]?=S[j]?:=Wp h
theorem c6{S:Sto}{o:SO}:(S++[o])[S.length]?=some o:=Wc
theorem f7{S:Sto}{o u:SO}{k:Nat}(h:S[k]?=some u):(S++[o])[k]?=some u:=by
 rw[WD ((gM h).1)];exact h
theorem m7{S:Sto}{o:SO}{k:Nat}(h:S[k]?=some o):k<S.length:=(gM h).1
structure TapeS(S:Sto)(t:Nat):Prop where
 ex:∃ a b:Int,S[t]?=some (.lst [.int a,.int b])/\0<=a/\0<=b/\b<2147483647
structure On(t:Nat)(S S':Sto):Prop where
 len:S.length<=S'.length
 keep:∀ k o,k≠t->S[k]?=some o->S'[k]?=some o
theorem On.refl(t:Nat)(S:Sto):On t S S:=⟨WB _,fun _ _ _ h=>h⟩
theorem On.trans{t:Nat}{S S' S'':Sto}(a:On t S S')(b:On t S' S''):On t S S'':=⟨Wj a.len b.len,fun k o n h=>b.keep k o n (a.keep k o n h)⟩
theorem On.push{t:Nat}{S S':Sto}{o:SO}(a:On t S S'):On t S (S'++[o]):=⟨by rw[W3];have:=a.len;omega,fun k u n h=>f7 (a.keep k u n h)⟩
theorem On.tape{t:Nat}{S S':Sto}{o:SO}(a:On t S S'):On t S (S'.set t o):=⟨by rw[WU];exact a.len,fun k u n h=>by rw[i9 (Ne.symm n)];exact a.keep k u n h⟩
theorem On.new{t k:Nat}{S S':Sto}{o:SO}(a:On t S S')(h:S.length<=k):On t S (S'.set k o):=⟨by rw[WU];exact a.len,fun j u n hj=>by
 rw[i9 (fun z=>by have:=m7 hj;omega)];exact a.keep j u n hj⟩
theorem TapeS.push{S:Sto}{t:Nat}{o:SO}(h:TapeS S t):TapeS (S++[o]) t:=let ⟨a,b,e,z⟩:=h.ex;⟨a,b,f7 e,z⟩
theorem TapeS.other{S:Sto}{t k:Nat}{o:SO}(h:TapeS S t)(n:k≠t):TapeS (S.set k o) t:=let ⟨a,b,e,z⟩:=h.ex;⟨a,b,by rw[i9 n];exact e,z⟩
theorem TapeS.lt{S:Sto}{t:Nat}(h:TapeS S t):t<S.length:=let ⟨_,_,e,_⟩:=h.ex;m7 e
theorem w5{keep:Sto->Prop}{g:Tg}{b:WS}{D:EndsS}(mb:MonoS b)(I:Nat->EnvS->Sto->Prop){xs:List SV}{ρ:EnvS}{S:Sto}(h0:I 0 ρ S)(hk:∀ i ρ S,I i ρ S->keep S)
 (hs:∀ i x ρ S,xs[i]?=some x->I i ρ S->wTg g x ρ fun ρ2=>b {D with nx:=I (i+1),ct:=I (i+1),bk:=D.nx} ρ2 S) (hd:∀ ρ S,I xs.length ρ S->D.nx ρ S):AA keep g b D xs ρ S:=by
 have go:∀(ys:List SV) (i:Nat) (ρ:EnvS) (S:Sto),xs.drop i=ys->i<=xs.length->I i ρ S->AA keep g b D ys ρ S:=by
  intro ys
  induction ys with
  | nil=>
    intro i ρ S e hi h
    have:i=xs.length:=by
     have:=congrArg Y1 e;rw[Wy,Y3]at this;omega
    subst this;unfold AA;exact⟨hk _ _ _ h,hd _ _ h⟩
  | cons y ys ih=>
    intro i ρ S e hi h
    have hy:xs[i]?=some y:=by
     rw[<-YR,e];rfl
    have hlt:=(gM hy).1;have e2:xs.drop (i+1)=ys:=by rw[<-Ye,e];rfl
    unfold AA;refine⟨hk _ _ _ h,m6 g (fun ρ2 q=>?_) (hs i y ρ S hy h)⟩;exact mb.go (D:={D with nx:=I (i+1),ct:=I (i+1),bk:=D.nx}) q ⟨fun ρ' S' z=>ih (i+1) ρ' S' e2 hlt z,fun _ _ z=>z,fun _ _ z=>z,fun ρ' S' z=>ih (i+1) ρ' S' e2 hlt z⟩
 exact go xs 0 ρ S rfl (XQ _) h0
theorem BM{keep:Sto->Prop}{g:Tg}{b:WS}{D:EndsS}(mb:MonoS b)(I:Nat->EnvS->Sto->Prop){xs:List SV}{ρ:EnvS}{S:Sto}(h0:I 0 ρ S)(hk:∀ i ρ S,I i ρ S->keep S)
 (hs:∀ i x ρ S (E:EndsS),(∀ ρ S,I (i+1) ρ S->E.nx ρ S)->(∀ y S,D.rt y S->E.rt y S)->xs[i]?=some x->I i ρ S->wTg g x ρ fun ρ2=>b E ρ2 S) (hd:∀ ρ S,I xs.length ρ S->D.nx ρ S):AA keep g b D xs ρ S:=
 w5 mb I h0 hk (fun i x ρ S hx hI=>hs i x ρ S {D with nx:=I (i+1),ct:=I (i+1),bk:=D.nx} (fun _ _ h=>h) (fun _ _ h=>h) hx hI) hd
theorem DG{b:WS}{nx ct bk:EnvS->Sto->Prop}{rt:SV->Sto->Prop}{ρ:EnvS}{S:Sto}(h:∀ E:EndsS,(∀ ρ S,nx ρ S->E.nx ρ S)->(∀ x S,rt x S->E.rt x S)->b E ρ S):b ⟨nx,rt,bk,ct⟩ ρ S:=h _ (fun _ _ z=>z) (fun _ _ z=>z)
theorem j7{keep:Sto->Prop}{g:Tg}{t:WT}{e:WE}{ρ:EnvS}{Q:List SV->Sto->Prop}(mt:MonoT t)(me:Mono e)(I:Nat->List SV->Sto->Prop){xs:List SV}{S:Sto}(h0:I 0 [] S)(hk:∀ i ys S,I i ys S->keep S)
 (hs:∀ i x ys S,xs[i]?=some x->I i ys S->wTg g x ρ fun ρ2=>t ρ2 S fun b S1=>if b=true then e ρ2 S1 fun y S2=>ys.length<big/\I (i+1) (ys++[y]) S2 else I (i+1) ys S1) (hd:∀ ys S,I xs.length ys S->Q ys S):u9 keep g t e ρ Q xs [] S:=by
 have go:∀(zs:List SV) (i:Nat) (ys:List SV) (S:Sto),xs.drop i=zs->i<=xs.length->I i ys S->u9 keep g t e ρ Q zs ys S:=by
  intro zs
  induction zs with
  | nil=>
    intro i ys S e' hi h
    have:i=xs.length:=by
     have:=congrArg Y1 e';rw[Wy,Y3]at this;omega
    subst this;unfold u9;exact⟨hk _ _ _ h,hd _ _ h⟩
  | cons y zs ih=>
    intro i ys S e' hi h;have hy:xs[i]?=some y:=by rw[<-YR,e'];rfl
    have hlt:=(gM hy).1;have e2:xs.drop (i+1)=zs:=by rw[<-Ye,e'];rfl
    unfold u9;refine⟨hk _ _ _ h,m6 g (fun ρ2 q=>mt _ _ _ _ (fun b S1 q=>j0 (fun q=>me _ _ _ _ (fun v S2 q=>⟨q.1,ih (i+1) _ S2 e2 hlt q.2⟩) q) (fun q=>ih (i+1) _ S1 e2 hlt q) q) q) (hs i y ys S hy h)⟩
 exact go xs 0 [] S rfl (XQ _) h0
theorem Am{lo hi:Int}{i:Nat}{x:SV}(h:(C0 lo hi)[i]?=some x):x = .int (lo+i)/\lo+i<hi:=by
 unfold C0 at h
 have hi':i<(hi - lo).toNat:=by
  have:=(gM h).1;simpa using this
 rw[WG,Xo hi']at h;exact⟨(oj h).symm,by omega⟩
theorem BN{lo hi:Int}:(C0 lo hi).length=(hi - lo).toNat:=by unfold C0;simp
noncomputable def pairS(e:Nat×Nat):SV := .tup [.int e.1,.int e.2]
open PySem L2
noncomputable def Ra:List Stm:=[(.asg (.nm 2) (.c (.int 0))),(.iff (.cmp .Lt (.var 1) (.bi .len (.cons (.var 0) .nil))) [(.asg (.nm 2) (.ix (.var 0) (.var 1)))] []),(.asg (.nm 3) (.op .Mult (.bi .abs (.cons (.var 2) .nil)) (.bi .int (.cons (.cmp .GtE (.bi .abs (.cons (.var 2) .nil)) (.op .Pow (.c (.int 10)) (.c (.int 18)))) .nil)))),(.ret (.lst (.cons (.var 3) (.cons (.op .Mod (.op .Mult (.op .Mod (.op .Add (.op .Add (.var 2) (.op .Mult (.c (.int 7919)) (.var 1))) (.c (.int 1))) (.c (.int 2147483647))) (.c (.int 48271))) (.c (.int 2147483647))) .nil))))]
noncomputable def Rb:List Stm:=[(.iff (.cmp .Gt (.ix (.var 0) (.c (.int 0))) (.c (.int 0))) [(.asg (.nm 2) (.op .Mod (.ix (.var 0) (.c (.int 0))) (.var 1))),(.put (.var 0) (.c (.int 0)) (.op .FloorDiv (.ix (.var 0) (.c (.int 0))) (.var 1))),(.ret (.var 2))] []),(.put (.var 0) (.c (.int 1)) (.op .Mod (.op .Add (.op .Mult (.ix (.var 0) (.c (.int 1))) (.c (.int 48271))) (.c (.int 12345))) (.c (.int 2147483647)))),(.asg (.nm 3) (.op .Mod (.op .Mult (.ix (.var 0) (.c (.int 1))) (.op .Add (.op .Mod (.ix (.var 0) (.c (.int 1))) (.c (.int 1009))) (.c (.int 3)))) (.c (.int 2147483629)))),(.ret (.op .Mod (.op .Mod (.op .Mult (.var 3) (.op .Add (.op .Mod (.var 3) (.c (.int 997))) (.c (.int 5)))) (.c (.int 998244353))) (.var 1)))]
noncomputable def Bk(s:Sn):Prop:=∀{t:Nat} {m:Int} {S:Sto} {Q:QE},TapeS S t->0<m->m<1073741824->(∀(r:Int) (S':Sto),0<=r->r<m->TapeS S' t->On t S S'->S'.length=S.length->Q (.int r) S')->s [.loc t,.int m] S Q
noncomputable def O7(s:Sn):Prop:=∀{ns:List Int} {k:Nat} {S:Sto} {Q:QE},ns.length<=63->k<=1000->(∀ a b:Int,0<=a->0<=b->b<2147483647->Q (.loc S.length) (S++[.lst [.int a,.int b]]))->s [.ro (ns.map SV.int),.int k] S Q
theorem b01(b:Bool):-(2 ^ 64)<(if b=true then (1:Int) else 0)/\(if b=true then (1:Int) else 0)<2 ^ 64:=by cases b<;>decide
theorem b00(b:Bool):0<=(if b=true then (1:Int) else 0):=by cases b<;>decide
theorem QW{Δ:Nat->Sn}{D:Df}(hb:D.body=Rb)(hN:D.N.length=4)(hp:D.ps.length=2):Bk (i6 Δ D):=by
 intro t m S Q T h0 h1 q;obtain⟨a,b,hS,ha,hb0,hb1⟩:=T.ex;unfold i6;rw[hb,hN];refine⟨hp.symm,?_⟩;have go:∀ r a' b':Int,0<=r->r<m->0<=a'->0<=b'->b'<2147483647->Q (.int r) (S.set t (.lst [.int a',.int b'])):=fun r a' b' r0 r1 a0 b0 b1=>q r _ r0 r1 ⟨a',b',j6 hS,a0,b0,b1⟩ (On.refl t S).tape (by rw[WU]);refine⟨_,rfl,_,_,c5 hS,rfl,_,rfl,ifD (fun h=>?_) (fun h=>?_)⟩
 ·refine⟨_,rfl,_,_,c5 hS,rfl,_,rfl,h0,?_⟩;refine⟨_,rfl,_,_,c5 hS,rfl,_,rfl,⟨h0,h1⟩,_,rfl,_,_,hS,rfl,_,rfl,?_⟩;exact go _ _ _ (YB _ (by omega)) (Y2 _ h0) (Int.ediv_nonneg ha (by omega)) hb0 hb1
 ·refine⟨_,rfl,_,_,c5 hS,rfl,.inr (by decide),show(0:Int)<2147483647 by decide,_,rfl,_,_,hS,rfl,?_⟩;have e0:0<=(b * 48271+12345) % 2147483647:=YB _ (by decide);have e1:(b * 48271+12345) % 2147483647<2147483647:=Y2 _ (by decide);have hS1:(S.set t (.lst [.int a,.int ((b * 48271+12345) % 2147483647)]))[t]?=some (.lst [.int a,.int ((b * 48271+12345) % 2147483647)]):=j6 hS;refine⟨_,rfl,_,_,c5 hS1,rfl,_,rfl,_,_,c5 hS1,rfl,show(0:Int)<1009 by decide,.inl ⟨by omega,by omega⟩,show(0:Int)<2147483629 by decide,?_⟩;have f0:0<=((b * 48271+12345) % 2147483647 * ((b * 48271+12345) % 2147483647 % 1009+3)) % 2147483629:=YB _ (by decide);have f1:((b * 48271+12345) % 2147483647 * ((b * 48271+12345) % 2147483647 % 1009+3)) % 2147483629<2147483629:=Y2 _ (by decide);refine⟨_,rfl,_,rfl,show(0:Int)<997 by decide,.inl ⟨by omega,by omega⟩,show(0:Int)<998244353 by decide,_,rfl,h0,?_⟩;exact go _ _ _ (YB _ (by omega)) (Y2 _ h0) ha e0 e1
theorem QX{Δ:Nat->Sn}{D:Df}(hb:D.body=Ra)(hN:D.N.length=4)(hp:D.ps.length=2):O7 (i6 Δ D):=by
 intro ns k S Q hl hk q;unfold i6;rw[hb,hN];refine⟨hp.symm,?_⟩
 have fin:∀ c:Int,wSs Δ [(.asg (.nm 3) (.op .Mult (.bi .abs (.cons (.var 2) .nil)) (.bi .int (.cons (.cmp .GtE (.bi .abs (.cons (.var 2) .nil)) (.op .Pow (.c (.int 10)) (.c (.int 18)))) .nil)))),(.ret (.lst (.cons (.var 3) (.cons (.op .Mod (.op .Mult (.op .Mod (.op .Add (.op .Add (.var 2) (.op .Mult (.c (.int 7919)) (.var 1))) (.c (.int 1))) (.c (.int 2147483647))) (.c (.int 48271))) (.c (.int 2147483647))) .nil))))] (BL Q) [some (.ro (ns.map SV.int)),some (.int k),some (.int c),none] S:=fun c=>by
  refine⟨_,rfl,_,rfl,⟨by decide,by decide,by decide⟩,.inr (b01 _),?_⟩;refine⟨_,rfl,_,rfl,_,rfl,.inl ⟨by decide,by decide⟩,show(0:Int)<2147483647 by decide,.inr ⟨by decide,by decide⟩,show(0:Int)<2147483647 by decide,by show 2<=big;decide,?_⟩;refine q _ _ (Int.mul_nonneg (by split<;>omega) (b00 _)) (YB _ (by decide)) (Y2 _ (by decide))
 refine⟨_,rfl,_,rfl,_,rfl,_,rfl,ifD (fun h=>?_) (fun h=>fin 0)⟩
 have hk':k<ns.length:=by
  have:((ns.map SV.int).length:Int)=ns.length:=by rw[W2]
  omega
 refine⟨_,rfl,_,rfl,_,_,rfl,i7 (v := .int ns[k]) (by rw[WG,W0 hk'];rfl),?_⟩;exact fin _
open PySem L2
structure Ah(t:Nat)(S0 S:Sto)(l:Nat)(es:EE):Prop where
 tape:TapeS S t
 on:On t S0 S
 at':S[l]?=some (.lst (es.map pairS))
 new:S0.length<=l
 t0:t<S0.length
theorem Ah.ne{t l:Nat}{S0 S:Sto}{es:EE}(h:Ah t S0 S l es):l≠t:=by have:=h.new;have:=h.t0;omega
theorem Ah.draw{t l:Nat}{S0 S S':Sto}{es:EE}(h:Ah t S0 S l es)(T:TapeS S' t)(O:On t S S'):Ah t S0 S' l es:=⟨T,h.on.trans O,O.keep _ _ h.ne h.at',h.new,h.t0⟩
theorem Ah.push{t l:Nat}{S0 S:Sto}{es:EE}{o:SO}(h:Ah t S0 S l es):Ah t S0 (S++[o]) l es:=⟨h.tape.push,h.on.push,f7 h.at',h.new,h.t0⟩
theorem Ah.put{t l:Nat}{S0 S:Sto}{es fs:EE}(h:Ah t S0 S l es):Ah t S0 (S.set l (.lst (fs.map pairS))) l fs:=⟨h.tape.other h.ne,h.on.new h.new,j6 h.at',h.new,h.t0⟩
open PySem L2
noncomputable def j3(n:Nat)(es:EE):SV := .tup [.int n,.tup (es.map pairS)]
theorem Dq{xs:List SV}:FB xs []=xs.isEmpty:=by cases xs<;>rfl
open PySem L2
noncomputable def O9:List Stm:=[(.ret (.and (.bi .isi (.cons (.var 0) (.cons (.tyc .int) .nil))) (.not (.bi .isi (.cons (.var 0) (.cons (.tyc .bool) .nil))))))]
noncomputable def Eh(k:Nat):List Stm:=[(.ret (.and (.call k (.cons (.var 1) .nil)) (.chn .LtE .Lt (.c (.int 0)) (.var 1) (.ix (.var 0) (.c (.int 0))))))]
noncomputable def Jl(k:Nat):List Stm:=[(.ret (.and (.call k (.cons (.var 1) .nil)) (.chn .LtE .Lt (.c (.int 0)) (.var 1) (.bi .len (.cons (.ix (.var 0) (.c (.int 1))) .nil)))))]
noncomputable def FX(k:Nat):List Stm:=[(.iff (.not (.call k (.cons (.var 0) (.cons (.var 1) .nil)))) [.no] [])]
noncomputable def Jm(k:Nat):List Stm:=[(.expr (.call k (.cons (.var 0) (.cons (.var 1) .nil)))),(.ret (.comp ["tie","ends"] ["place"] [1] (.tup (.cons (.nm 0) (.cons (.nm 1) .nil))) (.enum (.ix (.var 0) (.c (.int 1)))) (.yes (.cmp .In (.var 2) (.var 1))) (.var 0)))]
noncomputable def Jn(k:Nat):List Stm:=[(.expr (.call k (.cons (.var 0) (.cons (.var 1) .nil)))),(.asg (.tup (.cons (.nm 3) (.cons (.nm 4) .nil))) (.ix (.ix (.var 0) (.c (.int 1))) (.var 1))),(.iff (.cmp .Eq (.var 2) (.var 3)) [(.ret (.var 4))] []),(.iff (.cmp .Eq (.var 2) (.var 4)) [(.ret (.var 3))] []),.no]
noncomputable def DH(s:Sn):Prop:=∀{i:Int} {S:Sto} {Q:QE},Q (.bl true) S->s [.int i] S Q
noncomputable def CG(s:Sn):Prop:=∀{n p:Nat} {es:EE} {S:Sto} {Q:QE},p<n->Q (.bl true) S->s [j3 n es,.int p] S Q
noncomputable def Dr(s:Sn):Prop:=∀{n j:Nat} {es:EE} {S:Sto} {Q:QE},j<es.length->Q (.bl true) S->s [j3 n es,.int j] S Q
noncomputable def BO(s:Sn):Prop:=∀{n p:Nat} {es:EE} {S:Sto} {Q:QE},p<n->Q .non S->s [j3 n es,.int p] S Q
noncomputable def BP(s:Sn):Prop:=∀{n j:Nat} {es:EE} {S:Sto} {Q:QE},j<es.length->Q .non S->s [j3 n es,.int j] S Q
noncomputable def h9(es:EE)(p:Nat)(i:Nat):List Nat:=(WP i).filter fun j=>match es[j]? with | some e=>decide (e.1=p)||decide (e.2=p) | none=>false
noncomputable def natS(xs:List Nat):List SV:=xs.map fun(i:Nat)=>SV.int i
noncomputable def B8(s:Sn):Prop:=∀{n p:Nat} {es:EE} {S:Sto} {Q:QE},es.length<=5000->p<n->Q (.loc S.length) (S++[.lst (natS (h9 es p es.length))])->s [j3 n es,.int p] S Q
noncomputable def farE(e:Nat×Nat)(p:Nat):Nat:=if p=e.1 then e.2 else e.1
noncomputable def AB(s:Sn):Prop:=∀{n p j:Nat} {es:EE} {e:Nat×Nat} {S:Sto} {Q:QE},es[j]?=some e->(p=e.1\/p=e.2)->Q (.int (farE e p)) S->s [j3 n es,.int j,.int p] S Q
section
variable{Δ:Nat->Sn}
theorem OA{D:Df}(hb:D.body=O9)(hN:D.N.length=1)(hp:D.ps.length=1):DH (i6 Δ D):=by
 intro i S Q q;unfold i6;rw[hb,hN];exact⟨hp.symm,_,rfl,_,nofun,rfl,_,rfl,ifT rfl ⟨_,rfl,_,nofun,rfl,_,rfl,q⟩⟩
theorem HA{k:Nat}(h0:DH (Δ k)){D:Df}(hb:D.body=Eh k)(hN:D.N.length=2)(hp:D.ps.length=2):CG (i6 Δ D):=by
 intro n p es S Q h q;unfold i6;rw[hb,hN];refine⟨hp.symm,_,rfl,h0 ⟨_,rfl,ifT rfl ⟨_,rfl,_,rfl,ifT (decide_eq_true (YD p)) ⟨_,rfl,_,_,rfl,rfl,?_⟩⟩⟩⟩;show Q (.bl (decide ((p:Int)<n))) S;rw[decide_eq_true (by omega)];exact q
theorem LN{k:Nat}(h0:DH (Δ k)){D:Df}(hb:D.body=Jl k)(hN:D.N.length=2)(hp:D.ps.length=2):Dr (i6 Δ D):=by
 intro n p es S Q h q;unfold i6;rw[hb,hN];refine⟨hp.symm,_,rfl,h0 ⟨_,rfl,ifT rfl ⟨_,rfl,_,rfl,ifT (decide_eq_true (YD p)) ⟨_,rfl,_,_,rfl,rfl,_,rfl,?_⟩⟩⟩⟩;show Q (.bl (decide ((p:Int)<(es.map pairS).length))) S;rw[decide_eq_true (by rw[W2];omega)];exact q
theorem E9{k:Nat}(h0:CG (Δ k)){D:Df}(hb:D.body=FX k)(hN:D.N.length=2)(hp:D.ps.length=2):BO (i6 Δ D):=by
 intro n p es S Q h q;unfold i6;rw[hb,hN];exact⟨hp.symm,_,rfl,_,rfl,h0 h ⟨_,rfl,ifF rfl q⟩⟩
theorem HB{k:Nat}(h0:Dr (Δ k)){D:Df}(hb:D.body=FX k)(hN:D.N.length=2)(hp:D.ps.length=2):BP (i6 Δ D):=by
 intro n p es S Q h q;unfold i6;rw[hb,hN];exact⟨hp.symm,_,rfl,_,rfl,h0 h ⟨_,rfl,ifF rfl q⟩⟩
theorem OB{xs:List SV}{i:Nat}{x:SV}(h:(Bd xs)[i]?=some x):∃ y,xs[i]?=some y/\x = .tup [.int i,y]:=by
 unfold Bd at h;rw[Yw]at h;cases hy:xs[i]? with
 | none=>rw[hy]at h;revert h;cases(WP xs.length)[i]?<;>exact nofun
 | some y=>
   have hi:=(gM hy).1;rw[hy,Xo hi]at h;exact⟨y,rfl,(oj h).symm⟩
theorem QY{xs:List SV}:(Bd xs).length=xs.length:=by unfold Bd;simp
theorem B9{es:EE}{i:Nat}{x:SV}(h:(es.map pairS)[i]?=some x):∃ e,es[i]?=some e/\x=pairS e:=by
 rw[WG]at h;cases he:es[i]? with
 | none=>rw[he]at h;cases h
 | some e=>rw[he]at h;exact⟨e,rfl,(oj h).symm⟩
theorem Jo(p:Nat)(e:Nat×Nat):inS (.int p) [.int e.1,.int e.2]=(decide (e.1=p)||decide (e.2=p)):=by
 have k:∀ a:Nat,((a:Int) == (p:Int))=decide (a=p):=fun a=>by
  rw[XU];simp[XN]
 unfold inS;simp only[Xp,List.any_nil,ZW,eqF,k]
theorem Bm(es:EE)(p i:Nat){e:Nat×Nat}(h:es[i]?=some e):h9 es p (i+1)=h9 es p i++if (decide (e.1=p)||decide (e.2=p))=true then [i] else []:=by
 unfold h9;rw[YS,YE]
 congr 1
 rw[YL,h];rfl
theorem Ig(es:EE)(p i:Nat):(h9 es p i).length<=i:=by
 have:=Xv (fun j=>match es[j]? with | some e=>decide (e.1=p)||decide (e.2=p) | none=>false) (WP i);rw[Xm]at this;exact this
theorem mem_tiesAt{es:EE}{p j:Nat}:j∈h9 es p es.length↔∃ e,es[j]?=some e/\(e.1=p\/e.2=p):=by
 unfold h9;rw[X4,X5];constructor
 ·rintro⟨h,h2⟩;rw[W0 h]at h2;exact⟨_,W0 h,by simpa using h2⟩
 ·rintro⟨e,h,h2⟩;refine⟨(gM h).1,?_⟩;rw[h];simpa using h2
theorem LO{k:Nat}(hΔ:∀ f,MonoN (Δ f))(h0:BO (Δ k)){D:Df}(hb:D.body=Jm k)(hN:D.N.length=2)(hp:D.ps.length=2):B8 (i6 Δ D):=by
 intro n p es S Q hl h q;unfold i6;rw[hb,hN];refine⟨hp.symm,_,rfl,_,rfl,h0 h ⟨_,rfl,_,_,rfl,rfl,_,rfl,?_⟩⟩;refine j7 (j5 hΔ _).2 (a7 hΔ _).1 (fun i ys S'=>S'=S/\ys=natS (h9 es p i)) ⟨rfl,rfl⟩ (fun _ _ _ _=>trivial) ?_ ?_
 ·rintro i x ys S' hx ⟨rfl,rfl⟩;obtain⟨y,hy,rfl⟩:=OB hx;obtain⟨e,he,rfl⟩:=B9 hy;have hi:=(gM he).1;have ht:=Ig es p i;refine⟨_,rfl,_,rfl,rfl,_,rfl,rfl,_,rfl,?_⟩;show if inS (.int p) [.int e.1,.int e.2]=true then _ else _
  rw[Jo];refine ifB (fun h=>?_) (fun h=>?_)
  ·refine⟨_,rfl,by show(natS _).length<100000;unfold natS;rw[W2];omega,rfl,?_⟩;rw[Bm es p i he,if_pos h];unfold natS;rw[Wn];rfl
  ·refine⟨rfl,?_⟩;rw[Bm es p i he,if_neg (by rw[h];decide),XF]
 ·rintro ys S' ⟨rfl,rfl⟩;rw[QY,W2];exact q
theorem LP{k:Nat}(h0:BP (Δ k)){D:Df}(hb:D.body=Jn k)(hN:D.N.length=5)(hp:D.ps.length=3):AB (i6 Δ D):=by
 intro n p j es e S Q he h q;unfold i6;rw[hb,hN];refine⟨hp.symm,_,rfl,_,rfl,h0 (gM he).1 ⟨_,rfl,_,_,rfl,rfl,_,rfl,_,pairS e,rfl,i7 (by rw[WG,he];rfl),?_⟩⟩;refine⟨_,rfl,_,rfl,_,rfl,?_⟩;refine ifD (fun h1=>⟨_,rfl,?_⟩) (fun h1=>⟨_,rfl,_,rfl,_,rfl,ifD (fun h2=>⟨_,rfl,?_⟩) (fun h2=>?_)⟩)
 ·have h1:p=e.1:=XN.mp h1;unfold farE at q;rw[if_pos h1]at q;exact q
 ·have h1:¬ p=e.1:=fun z=>h1 (congrArg _ z);unfold farE at q;rw[if_neg h1]at q;exact q
 ·rcases h with h | h
  ·exact absurd (congrArg Nat.cast h) h1
  ·exact absurd (congrArg Nat.cast h) h2
end
open PySem L2
theorem c9{xs:List Nat}:(natS xs).length=xs.length:=by unfold natS;rw[W2]
theorem BA{xs:List Nat}{i x:Nat}(h:xs[i]?=some x):(natS xs)[i]?=some (.int x):=by unfold natS;rw[WG,h];rfl
theorem u6{xs ys:List Nat}:natS (xs++ys)=natS xs++natS ys:=by unfold natS;rw[Wn]
theorem Jp(m:Nat):C0 0 (m:Int)=natS (WP m):=by
 unfold C0 natS;simp
open PySem L2
noncomputable def AU:Option Nat->SV
 | some j => .int j
 | none => .non
noncomputable def optsS(xs:List (Option Nat)):List SV:=xs.map AU
theorem l7{xs:List (Option Nat)}{i:Nat}{x:Option Nat}(h:xs[i]?=some x):(optsS xs)[i]?=some (AU x):=by unfold optsS;rw[WG,h];rfl
open PySem L2
structure Gw(S S':Sto):Prop where
 len:S.length<=S'.length
 keep:∀(k:Nat) (o:SO),S[k]?=some o->S'[k]?=some o
theorem Gw.refl(S:Sto):Gw S S:=⟨WB _,fun _ _ h=>h⟩
theorem Gw.push{S S':Sto}{o:SO}(h:Gw S S'):Gw S (S'++[o]):=⟨by rw[W3];have:=h.len;omega,fun k u z=>f7 (h.keep k u z)⟩
theorem Gw.put{S S':Sto}{o:SO}{k:Nat}(h:Gw S S')(hk:S.length<=k):Gw S (S'.set k o):=⟨by rw[WU];exact h.len,fun j u z=>by
 rw[i9 (fun e=>by have:=m7 z;omega)];exact h.keep j u z⟩
theorem Gw.trans{S S' S'':Sto}(a:Gw S S')(b:Gw S' S''):Gw S S'':=⟨Wj a.len b.len,fun k o h=>b.keep k o (a.keep k o h)⟩
theorem HC{xs:List Nat}{x:Nat}:(natS (xs++[x])).dropLast=natS xs:=by rw[u6];exact YQ
theorem Ei{xs:List Nat}{x:Nat}:(natS (xs++[x]))[(natS (xs++[x])).length - 1]?=some (.int x):=by
 rw[u6,W3];exact Wc
theorem D3(xs:List Nat):xs=[]\/∃ ys y,xs=ys++[y]:=by
 rcases List.eq_nil_or_concat xs with h | ⟨ys,y,h⟩
 ·exact .inl h
 ·exact .inr ⟨ys,y,by rw[h,List.concat_eq_append]⟩
open PySem L2
noncomputable def IsSet(sd:List (Option Nat))(p:Nat):Prop:=∃ v,sd[p]?=some (some v)
noncomputable def upd(f:Nat->Nat)(p x:Nat):Nat->Nat:=fun q=>if q=p then x else f q
theorem Bn{f:Nat->Nat}{p x:Nat}:upd f p x p=x:=if_pos rfl
theorem upd_ne{f:Nat->Nat}{p x q:Nat}(h:q≠p):upd f p x q=f q:=if_neg h
theorem Ds{e:Nat×Nat}{p:Nat}(hp:p=e.1\/p=e.2):farE e p=e.1\/farE e p=e.2:=by
 unfold farE;by_cases h:p=e.1
 ·rw[if_pos h];exact .inr rfl
 ·rw[if_neg h];exact .inl rfl
theorem OC{e:Nat×Nat}{p:Nat}(he:e.1≠e.2)(hp:p=e.1\/p=e.2):farE e (farE e p)=p:=by
 unfold farE;by_cases h:p=e.1
 ·rw[if_pos h,if_neg (Ne.symm he),h]
 ·rw[if_neg h,if_pos rfl];rcases hp with hp | hp
  ·exact absurd hp h
  ·exact hp.symm
theorem AE{sd:List (Option Nat)}{f q x:Nat}(hf:f<sd.length)(h:IsSet sd q):IsSet (sd.set f (some x)) q:=by
 by_cases hq:q=f
 ·subst hq;exact⟨x,Wg hf⟩
 ·obtain⟨v,hv⟩:=h;exact⟨v,by rw[Wp (Ne.symm hq)];exact hv⟩
theorem Bx{sd:List (Option Nat)}{f x:Nat}(h:sd[f]?=some none):(sd.set f (some x)).countP Xq=sd.countP Xq+1:=by
 obtain⟨hf,hx⟩:=gM h;rw[List.countP_set hf,hx];simp
open PySem L2
noncomputable def z1:Stm:=(.put (.var 2) (.var 1) (.c (.int 0)))
noncomputable def z2:Stm:=(.asg (.nm 4) (.lst (.cons (.var 1) .nil)))
noncomputable def zin(kf:Nat):List Stm:=[(.asg (.nm 7) (.call kf (.cons (.var 0) (.cons (.var 6) (.cons (.var 5) .nil))))),(.iff (.cmp .Is (.ix (.var 2) (.var 7)) (.c .non)) [(.put (.var 2) (.var 7) (.op .Sub (.c (.int 1)) (.ix (.var 2) (.var 5)))),(.put (.var 3) (.var 7) (.var 6)),(.expr (.mt .append (.var 4) (.cons (.var 7) .nil)))] [])]
noncomputable def z3(kt kf:Nat):Stm:=(.whl (.var 4) [(.asg (.nm 5) (.mt .pop (.var 4) .nil)),(.loop (.nm 6) (.seq (.call kt (.cons (.var 0) (.cons (.var 5) .nil)))) (zin kf))])
noncomputable def Rc(kt kf:Nat):List Stm:=[z1,z2,z3 kt kf]
structure Gm(a b w:Nat)(S0 S:Sto)(sd bk:List (Option Nat))(wt:List Nat):Prop where
 ha:S[a]?=some (.lst (optsS sd))
 hb:S[b]?=some (.lst (optsS bk))
 hw:S[w]?=some (.lst (natS wt))
 len:S0.length<=S.length
 keep:∀(k:Nat) (o:SO),k≠a->k≠b->S0[k]?=some o->S[k]?=some o
 ab:a≠b
 a0:a<S0.length
 b0:b<S0.length
 w0:S0.length<=w
section
variable{a b w:Nat}{S0 S:Sto}{sd bk sd' bk':List (Option Nat)}{wt wt':List Nat}
theorem Gm.push{o:SO}(G:Gm a b w S0 S sd bk wt):Gm a b w S0 (S++[o]) sd bk wt:=⟨f7 G.ha,f7 G.hb,f7 G.hw,by rw[W3];have:=G.len;omega,fun k u h1 h2 h=>f7 (G.keep k u h1 h2 h),G.ab,G.a0,G.b0,G.w0⟩
theorem Gm.seta(G:Gm a b w S0 S sd bk wt):Gm a b w S0 (S.set a (.lst (optsS sd'))) sd' bk wt:=
 ⟨j6 G.ha,by rw[i9 G.ab];exact G.hb,by rw[i9 (by have:=G.a0;have:=G.w0;omega)];exact G.hw,by rw[WU];exact G.len,fun k u h1 h2 h=>by rw[i9 (Ne.symm h1)];exact G.keep k u h1 h2 h,G.ab,G.a0,G.b0,G.w0⟩
theorem Gm.setb(G:Gm a b w S0 S sd bk wt):Gm a b w S0 (S.set b (.lst (optsS bk'))) sd bk' wt:=
 ⟨by rw[i9 (Ne.symm G.ab)];exact G.ha,j6 G.hb,by rw[i9 (by have:=G.b0;have:=G.w0;omega)];exact G.hw,by rw[WU];exact G.len,fun k u h1 h2 h=>by rw[i9 (Ne.symm h2)];exact G.keep k u h1 h2 h,G.ab,G.a0,G.b0,G.w0⟩
theorem Gm.setw(G:Gm a b w S0 S sd bk wt):Gm a b w S0 (S.set w (.lst (natS wt'))) sd bk wt':=
 ⟨by rw[i9 (by have:=G.a0;have:=G.w0;omega)];exact G.ha,by rw[i9 (by have:=G.b0;have:=G.w0;omega)];exact G.hb,j6 G.hw,by rw[WU];exact G.len,fun k u h1 h2 h=>by rw[i9 (by have:=m7 h;have:=G.w0;omega)];exact G.keep k u h1 h2 h,G.ab,G.a0,G.b0,G.w0⟩
end
theorem Ct{n j:Nat}(h:j<n):ixN n (j:Int)=some j:=by
 unfold ixN;rw[if_pos (by omega),if_pos (by omega)];simp
theorem AF{xs:List (Option Nat)}:(optsS xs).length=xs.length:=by unfold optsS;rw[W2]
theorem Cu{xs:List (Option Nat)}{j v:Nat}:(optsS xs).set j (.int v)=optsS (xs.set j (some v)):=by unfold optsS;rw[Zf];rfl
open PySem L2
noncomputable def t1':Stm:=(.asg (.nm 1) (.op .Mult (.lst (.cons (.c .non) .nil)) (.ix (.var 0) (.c (.int 0)))))
noncomputable def t2':Stm:=(.asg (.nm 2) (.op .Mult (.lst (.cons (.c .non) .nil)) (.ix (.var 0) (.c (.int 0)))))
noncomputable def t3'(kg:Nat):Stm:=(.loop (.nm 3) (.rng1 (.ix (.var 0) (.c (.int 0)))) [(.iff (.cmp .Is (.ix (.var 1) (.var 3)) (.c .non)) [(.expr (.call kg (.cons (.var 0) (.cons (.var 3) (.cons (.var 1) (.cons (.var 2) .nil))))))] [])])
noncomputable def t4'(kr:Nat):Stm:=(.loop (.tup (.cons (.nm 4) (.cons (.tup (.cons (.nm 5) (.cons (.nm 6) .nil))) .nil))) (.enum (.ix (.var 0) (.c (.int 1)))) [(.iff (.cmp .Eq (.ix (.var 1) (.var 5)) (.ix (.var 1) (.var 6))) [(.ret (.tup (.cons (.c (.str "ring")) (.cons (.call kr (.cons (.var 0) (.cons (.var 4) (.cons (.var 2) .nil)))) .nil))))] [])])
noncomputable def t5':Stm:=(.ret (.tup (.cons (.c (.str "sides")) (.cons (.var 1) .nil))))
noncomputable def VX(kg kr:Nat):List Stm:=[t1',t2',t3' kg,t4' kr,t5']
theorem Jq(n:Nat):(WC ((n:Int)).toNat [SV.non]).flatten=optsS (WC n none):=by
 rw[Xa]
 induction n with
 | zero=>rfl
 | succ n ih=>rw[Wr,XE,ih];rfl
open PySem L2
theorem BB(xs:List Nat):(natS xs).all AZ=true:=by
 unfold natS;rw[ZK,Wa];exact fun _ _=>rfl
open PySem L2
theorem QZ(a b:Nat):(if (b:Int)<a then (b:Int) else a)=((min a b:Nat):Int):=by split<;>omega
theorem Qa(a b:Nat):(if (b:Int)>a then (b:Int) else a)=((max a b:Nat):Int):=by split<;>omega
open PySem L2
theorem OD(b:Bool)(n:Nat):blS (WC n (.bl b))=some (WC n b):=by
 induction n with
 | zero=>rfl
 | succ n ih=>rw[Wr,Wr];simp[blS,ih]
theorem HD{Δ:Nat->Sn}(hΔ:∀ f,MonoN (Δ f)){e:Ex}{keep:Sto->Prop}{g:Tg}{ρ:EnvS}{Q:List SV->Sto->Prop}{b:Bool}{xs:List SV}{S:Sto}(hl:xs.length<=1000)(hk:∀ S',Gw S S'->keep S')
 (hs:∀(i:Nat) (x:SV) (S':Sto),xs[i]?=some x->Gw S S'->wTg g x ρ fun ρ2=>(wEx Δ e).1 ρ2 S' fun y S2=>y = .bl b/\Gw S S2)
 (q:∀ S',Gw S S'->Q (WC xs.length (.bl b)) S'):u9 keep g (wEo Δ .no).2 (wEx Δ e).1 ρ Q xs [] S:=by
 refine j7 (j5 hΔ _).2 (a7 hΔ _).1 (fun i ys S'=>Gw S S'/\ys=WC i (.bl b)) ⟨Gw.refl S,rfl⟩ (fun _ _ _ h=>hk _ h.1) ?_ ?_
 ·rintro i x ys S' hx ⟨G,rfl⟩;have hi:=(gM hx).1;refine m6 g (fun ρ2 h=>?_) (hs i x S' hx G);refine(a7 hΔ e).1 _ _ _ _ (fun y S2 h=>⟨by rw[Xf];show _<100000;omega,h.2,?_⟩) h;rw[h.1,List.replicate_succ']
 ·rintro ys S' ⟨G,rfl⟩;exact q S' G
section
variable{Δ:Nat->Sn}
theorem Jr(n:Nat):(WC n true).all id=true:=by simp
end
open PySem L2
noncomputable def f9(es:EE)(t:Nat):Nat×Nat:=es.getD t (0,0)
theorem AL{es:EE}{t:Nat}(h:t<es.length):es[t]?=some (f9 es t):=by
 unfold f9;rw[Wk,W0 h];rfl
theorem OE{es:EE}{t:Nat}(h:t<es.length):f9 es t∈es:=W5 (AL h)
open PySem L2
section
variable{Δ:Nat->Sn}
theorem l9{D:EndsS}{ρ:EnvS}{S:Sto}(h:D.nx ρ S):wSs Δ [] D ρ S:=h
noncomputable def HE(k:Nat):List Stm:=[(.asg (.tup (.cons (.nm 1) (.cons (.nm 2) .nil))) (.call k (.cons (.var 0) .nil))),(.iff (.cmp .Eq (.var 1) (.c (.str "ring"))) [.no] []),(.ret (.var 2))]
end
end Rf
namespace Hue
section
variable{n:Nat}{es:EE}(hn:∀ e∈es,e.1<n/\e.2<n)
include hn
end
section
variable{n x:Nat}{es:EE}
variable(hn:∀ e∈es,e.1<n/\e.2<n)
include hn
end
end Hue
namespace Rf
open PySem L2
noncomputable abbrev Cm:=List (Nat×Option Nat)
noncomputable def keys(cm:Cm):List Nat:=cm.map (·.1)
noncomputable def lk(cm:Cm)(p:Nat):Option (Option Nat):=(cm.find? fun c=>decide (c.1=p)).map (·.2)
noncomputable def Ag(cm:Cm)(p:Nat)(v:Option Nat):Cm:=if (cm.any fun c=>decide (c.1=p))=true then cm.map (fun c=>if c.1=p then (c.1,v) else c) else cm++[(p,v)]
noncomputable def FY(es:EE)(P:List (Option Nat))(p:Nat)(st:Cm×List Nat)(t:Nat):Cm×List Nat:=
 if (lk st.1 (farE (f9 es t) p)).isSome then st else match P.getD (farE (f9 es t) p) none with
  | none=>(Ag st.1 (farE (f9 es t) p) (some t),st.2)
  | some u=>(Ag (Ag st.1 (farE (f9 es t) p) (some t)) (farE (f9 es u) (farE (f9 es t) p)) (some u),st.2++[farE (f9 es u) (farE (f9 es t) p)])
noncomputable def Ih(es:EE)(P:List (Option Nat))(st:Cm×List Nat)(p:Nat):Cm×List Nat:=(h9 es p es.length).foldl (FY es P p) (st.1,st.2.dropLast)
noncomputable def EA(es:EE)(P:List (Option Nat)):Nat->Cm×List Nat->Cm
 | 0,st=>st.1
 | f+1,st=>match st.2.getLast? with
   | none=>st.1
   | some p=>EA es P f (Ih es P st p)
noncomputable def C3(n:Nat)(es:EE)(P:List (Option Nat))(starts:List Nat):Cm:=EA es P (n+1) (starts.map fun p=>(p,none),starts)
theorem Qb{cm:Cm}{p:Nat}:lk cm p=none↔p∉keys cm:=by
 unfold lk keys;rw[Option.map_eq_none_iff,List.find?_eq_none];constructor
 ·intro h hm;obtain⟨c,hc,rfl⟩:=WZ.mp hm;exact h c hc (by simp)
 ·intro h c hc z;exact h (WZ.mpr ⟨c,hc,of_decide_eq_true z⟩)
theorem lk_some{cm:Cm}{p:Nat}:(lk cm p).isSome=true↔p∈keys cm:=by
 rw[Option.isSome_iff_ne_none,ne_eq,Qb];exact Decidable.not_not
theorem Dt{cm:Cm}{p:Nat}{v:Option Nat}(h:lk cm p=some v):(p,v)∈cm:=by
 unfold lk at h;cases hc:cm.find? fun c=>decide (c.1=p) with
 | none=>rw[hc]at h;cases h
 | some c=>
   rw[hc]at h;have h1:=List.find?_some hc;have h2:=List.mem_of_find?_eq_some hc;have h3:c.2=v:=oj h;have h4:c.1=p:=of_decide_eq_true h1;rw[<-h3,<-h4];exact h2
theorem OF{cm:Cm}(nd:(keys cm).Nodup){p:Nat}{v:Option Nat}(h:(p,v)∈cm):lk cm p=some v:=by
 have hk:p∈keys cm:=WZ.mpr ⟨_,h,rfl⟩;have:=lk_some.mpr hk;obtain⟨u,hu⟩:=X9.mp this;have hm:=Dt hu
 have:u=v:=by
  obtain⟨i,hi⟩:=WW h;obtain⟨j,hj⟩:=WW hm;have e1:(keys cm)[i]?=some p:=by unfold keys;rw[WG,hi];rfl
  have e2:(keys cm)[j]?=some p:=by unfold keys;rw[WG,hj];rfl
  have il:=(gM e1).1;have jl:=(gM e2).1
  have:i=j:=by
   rcases ZH i j with z | z | z
   ·exact absurd ((gM e1).2.trans (gM e2).2.symm) ((Wt.mp nd) i j il jl z)
   ·exact z
   ·exact absurd ((gM e2).2.trans (gM e1).2.symm) ((Wt.mp nd) j i jl il z)
  subst this;rw[hi]at hj;have:=oj hj;exact(congrArg Prod.snd this).symm
 rw[hu,this]
theorem CY{cm:Cm}{p:Nat}{v:Option Nat}(h:p∉keys cm):Ag cm p v=cm++[(p,v)]:=by
 unfold Ag;rw[if_neg];rw[Xs];rintro⟨c,hc,z⟩;exact h (WZ.mpr ⟨c,hc,of_decide_eq_true z⟩)
theorem e6{cm:Cm}{p:Nat}{v:Option Nat}:keys (cm++[(p,v)])=keys cm++[p]:=by unfold keys;rw[Wn];rfl
structure Cons(n:Nat)(es:EE)(P:List (Option Nat)):Prop where
 len:P.length=n
 two:∀ p t,P[p]?=some (some t)->∃ e,es[t]?=some e/\(p=e.1\/p=e.2)/\P[farE e p]?=some (some t)
structure Sdd(n:Nat)(es:EE)(sd:Nat->Nat):Prop where
 en:∀ e∈es,e.1<e.2/\e.2<n
 two:∀ p,sd p<2
 ne:∀ e∈es,sd e.1≠sd e.2
section
variable{n:Nat}{es:EE}{sd:Nat->Nat}{P:List (Option Nat)}
theorem Sdd.far(H:Sdd n es sd){t p:Nat}{e:Nat×Nat}(he:es[t]?=some e)(hp:p=e.1\/p=e.2):farE e p<n/\sd (farE e p)=1 - sd p/\farE e (farE e p)=p/\(farE e p=e.1\/farE e p=e.2)/\p<n:=by
 have hm:=W5 he;have h1:=H.en e hm;have h2:=H.ne e hm;have a:=H.two e.1;have b:=H.two e.2;have hne:e.1≠e.2:=by omega
 refine⟨?_,?_,OC hne hp,Ds hp,?_⟩
 ·rcases Ds hp with z | z<;>omega
 ·unfold farE;rcases hp with z | z
  ·subst z;rw[if_pos rfl];omega
  ·subst z;rw[if_neg (Ne.symm hne)];omega
 ·rcases hp with z | z<;>omega
structure Came(n:Nat)(es:EE)(sd:Nat->Nat)(P:List (Option Nat))(starts:List Nat)(cm:Cm):Prop where
 nd:(keys cm).Nodup
 lt:∀ p∈keys cm,p<n
 st:∀ p,(p,none)∈cm->p∈starts
 up:∀ i q t,cm[i]?=some (q,some t)->∃ e,es[t]?=some e/\(q=e.1\/q=e.2)/\farE e q∈keys (cm.take i)
 s0:∀ p v,(p,v)∈cm->sd p=0->P[p]?=some v
 pr:∀ q,q∈keys cm->sd q=1->∀ u e,P[q]?=some (some u)->es[u]?=some e->farE e q∈keys cm
 hs:∀ p∈starts,p∈keys cm
structure Open(starts:List Nat)(sd:Nat->Nat)(n:Nat)(P:List (Option Nat)):Prop where
 nd:starts.Nodup
 ok:∀ p∈starts,p<n/\sd p=0/\P[p]?=some none
noncomputable def Shut(es:EE)(sd:Nat->Nat)(cm:Cm)(wt:List Nat)(p:Nat)(ts:List Nat):Prop:=∀ q∈keys cm,sd q=0->q∈wt\/∀ t e,es[t]?=some e->(q=e.1\/q=e.2)->(q=p/\t∈ts)\/farE e q∈keys cm
theorem Came.start(O:Open starts sd n P):Came n es sd P starts (starts.map fun p=>(p,none)):=by
 have hk:keys (starts.map fun p=>(p,(none:Option Nat)))=starts:=by unfold keys;rw[Xc];exact ZY (fun _=>rfl) starts
 refine⟨by rw[hk];exact O.nd,fun p hp=>(O.ok p (by rw[hk]at hp;exact hp)).1,fun p h=>?_,fun i q t h=>?_,fun p v h _=>?_,fun q hq h1=>?_,fun p hp=>by rw[hk];exact hp⟩
 ·obtain⟨q,hq,e⟩:=WZ.mp h;cases e;exact hq
 ·rw[WG]at h;cases hx:starts[i]? with
  | none=>rw[hx]at h;cases h
  | some x=>rw[hx]at h;cases h
 ·obtain⟨q,hq,e⟩:=WZ.mp h;cases e;exact(O.ok p hq).2.2
 ·rw[hk]at hq;have:=(O.ok q hq).2.1;omega
theorem Came.snoc{starts:List Nat}{cm:Cm}{q t:Nat}{e:Nat×Nat}(C:Came n es sd P starts cm)(hn:q∉keys cm)(hq:q<n)(he:es[t]?=some e)(hqe:q=e.1\/q=e.2)(hf:farE e q∈keys cm)(h0:sd q=0->P[q]?=some (some t))(h1:sd q=1->∀ u e,P[q]?=some (some u)->es[u]?=some e->farE e q∈keys cm):Came n es sd P starts (cm++[(q,some t)]):=by
 refine⟨?_,fun p hp=>?_,fun p h=>?_,fun i r u h=>?_,fun p v h hs=>?_,fun r hr hs u e' hu he'=>?_,fun p hp=>?_⟩
 ·rw[e6,Xd];refine⟨C.nd,by simp,fun a ha b hb=>?_⟩;rw[W6.mp hb];exact fun z=>hn (z▸ha)
 ·rw[e6]at hp;rcases WJ.mp hp with hp | hp
  ·exact C.lt p hp
  ·rw[W6.mp hp];exact hq
 ·rcases WJ.mp h with h | h
  ·exact C.st p h
  ·have:=W6.mp h;cases this
 ·by_cases hi:i<cm.length
  ·rw[WD hi]at h;rw[Xj (XT hi)];exact C.up i r u h
  ·have hl:=(gM h).1;rw[W3,We]at hl;have:i=cm.length:=by omega
   subst this;rw[Wc]at h;cases h;rw[Z3];exact⟨e,he,hqe,hf⟩
 ·rcases WJ.mp h with h | h
  ·exact C.s0 p v h hs
  ·have:=W6.mp h;cases this;exact h0 hs
 ·rw[e6]at hr ⊢;rcases WJ.mp hr with hr | hr
  ·exact WQ _ (C.pr r hr hs u e' hu he')
  ·have:=W6.mp hr;subst this;exact WQ _ (h1 hs u e' hu he')
 ·rw[e6];exact WQ _ (C.hs p hp)
theorem Came.two{starts:List Nat}{cm:Cm}{q t u:Nat}{e f:Nat×Nat}(C:Came n es sd P starts cm)(H:Sdd n es sd)(hn:q∉keys cm)(he:es[t]?=some e)(hqe:q=e.1\/q=e.2)(hf:farE e q∈keys cm)(hs:sd q=1)(K:Cons n es P)(hu:P[q]?=some (some u))(hfu:es[u]?=some f)(hqf:q=f.1\/q=f.2)(hn2:farE f q∉keys cm):Came n es sd P starts (cm++[(q,some t)]++[(farE f q,some u)]):=by
 obtain⟨f1,f2,f3,f4,f5⟩:=H.far hfu hqf;have hne:farE f q≠q:=fun z=>by rw[z]at f2;omega
 have hPf:P[farE f q]?=some (some u):=by
  obtain⟨e',he',_,h⟩:=K.two q u hu;rw[hfu]at he';cases he';exact h
 refine⟨?_,fun p hp=>?_,fun p h=>?_,fun i r v h=>?_,fun p v h hs'=>?_,fun r hr hs' v e' hv he'=>?_,fun p hp=>?_⟩
 ·rw[e6,e6,WV,Xd];refine⟨C.nd,by simp;exact Ne.symm hne,fun a ha b hb=>?_⟩;rcases WJ.mp hb with hb | hb
  ·rw[W6.mp hb];exact fun z=>hn (z▸ha)
  ·rw[W6.mp hb];exact fun z=>hn2 (z▸ha)
 ·rw[e6,e6]at hp;rcases WJ.mp hp with hp | hp
  ·rcases WJ.mp hp with hp | hp
   ·exact C.lt p hp
   ·rw[W6.mp hp];exact f5
  ·rw[W6.mp hp];exact f1
 ·rcases WJ.mp h with h | h
  ·rcases WJ.mp h with h | h
   ·exact C.st p h
   ·have:=W6.mp h;cases this
  ·have:=W6.mp h;cases this
 ·have up1:∀ i r v,(cm++[(q,some t)])[i]?=some (r,some v)->∃ e,es[v]?=some e/\(r=e.1\/r=e.2)/\farE e r∈keys ((cm++[(q,some t)]).take i):=fun i r v h=>by
   by_cases hi:i<cm.length
   ·rw[WD hi]at h;rw[Xj (XT hi)];exact C.up i r v h
   ·have hl:=(gM h).1;rw[W3,We]at hl;have:i=cm.length:=by omega
    subst this;rw[Wc]at h;cases h;rw[Z3];exact⟨e,he,hqe,hf⟩
  by_cases hi:i<(cm++[(q,some t)]).length
  ·rw[WD hi]at h;rw[Xj (XT hi)];exact up1 i r v h
  ·have hl:=(gM h).1;rw[W3,We]at hl;have:i=(cm++[(q,some t)]).length:=by omega
   subst this;rw[Wc]at h;cases h;rw[Z3];refine⟨f,hfu,f4,?_⟩;rw[f3,e6];exact Wd _ (W6.mpr rfl)
 ·rcases WJ.mp h with h | h
  ·rcases WJ.mp h with h | h
   ·exact C.s0 p v h hs'
   ·have:=W6.mp h;cases this;omega
  ·have:=W6.mp h;cases this;exact hPf
 ·rw[e6,e6]at hr ⊢;rcases WJ.mp hr with hr | hr
  ·rcases WJ.mp hr with hr | hr
   ·exact WQ _ (WQ _ (C.pr r hr hs' v e' hv he'))
   ·have:=W6.mp hr;subst this;rw[hu]at hv;cases hv;rw[hfu]at he';cases he';exact Wd _ (W6.mpr rfl)
  ·have:=W6.mp hr;subst this;omega
 ·rw[e6,e6];exact WQ _ (WQ _ (C.hs p hp))
end
open PySem L2
section
variable{n:Nat}{es:EE}{sd:Nat->Nat}{P:List (Option Nat)}{starts:List Nat}
theorem Js{xs:List (Option Nat)}{p:Nat}{v:Option Nat}(h:xs[p]?=some v):xs.getD p none=v:=by rw[Wk,h];rfl
theorem Cv{xs:List (Option Nat)}{p:Nat}(h:p<xs.length):xs[p]?=some (xs.getD p none):=by rw[Wk,W0 h];rfl
structure WInv(n:Nat)(es:EE)(sd:Nat->Nat)(P:List (Option Nat))(starts:List Nat)(p m:Nat)(ts:List Nat)(st:Cm×List Nat):Prop where
 C:Came n es sd P starts st.1
 wk:∀ q∈st.2,q∈keys st.1/\sd q=0
 sh:Shut es sd st.1 st.2 p ts
 pk:p∈keys st.1/\sd p=0
 ms:(n - st.1.length)+st.2.length<=m
theorem BC{cm:Cm}:(keys cm).length=cm.length:=by unfold keys;rw[W2]
theorem FZ{n:Nat}:∀{l:List Nat},l.Nodup->(∀ x∈l,x<n)->l.length<=n:=by
 induction n with
 | zero=>
   intro l _ h;cases l with
   | nil=>exact WB _
   | cons x l=>exact absurd (h x (WK ..)) (Y4 x)
 | succ n ih=>
   intro l nd h;by_cases hm:n∈l
   ·have e:=Yh hm
    have:=ih (l:=l.erase n) (nd.erase n) fun x hx=>by
     have h1:=h x (List.mem_of_mem_erase hx);have h2:x≠n:=fun z=>by rw[z]at hx;exact(List.Nodup.not_mem_erase nd) hx
     omega
    have:0<l.length:=Yt hm;omega
   ·have:=ih nd fun x hx=>by
     have h1:=h x hx;have h2:x≠n:=fun z=>hm (z▸hx);omega
    omega
theorem Came.len{cm:Cm}(C:Came n es sd P starts cm):cm.length<=n:=by rw[<-BC];exact FZ C.nd C.lt
theorem Fa(H:Sdd n es sd)(K:Cons n es P){p m t:Nat}{ts:List Nat}{st:Cm×List Nat}(ht:t<es.length)(hp:p=(f9 es t).1\/p=(f9 es t).2)(W:WInv n es sd P starts p m (t::ts) st):WInv n es sd P starts p m ts (FY es P p st t):=by
 obtain⟨cm,wt⟩:=st;obtain⟨C,wk,sh,⟨pk,p0⟩,ms⟩:=W;have he:=AL ht;generalize f9 es t=e at *;obtain⟨f1,f2,f3,f4,f5⟩:=H.far he hp;have fs:sd (farE e p)=1:=by omega
 unfold FY;have hte:f9 es t=e:=by have:=AL ht;rw[he]at this;exact(oj this).symm
 rw[hte];by_cases hk:farE e p∈keys cm
 ·rw[if_pos (lk_some.mpr hk)];refine⟨C,wk,fun q hq h0=>?_,⟨pk,p0⟩,ms⟩;rcases sh q hq h0 with z | z
  ·exact .inl z
  ·refine .inr fun t' e' he' hq'=>?_;rcases z t' e' he' hq' with⟨z1,z2⟩ | z
   ·rcases WN.mp z2 with z2 | z2
    ·subst z2;rw[he]at he';cases he';rw[z1];exact .inr hk
    ·exact .inl ⟨z1,z2⟩
   ·exact .inr z
 ·rw[if_neg (fun z=>hk (lk_some.mp z))];have hfl:farE e p<P.length:=by rw[K.len];exact f1
  have hPf:=Cv hfl;have cl:=C.len;cases hv:P.getD (farE e p) none with
  | none=>
    rw[hv]at hPf;simp only;rw[CY hk];have C':Came n es sd P starts (cm++[(farE e p,some t)]):=C.snoc hk f1 he f4 (by rw[f3];exact pk) (fun z=>by omega) (fun _ u e' hu=>by rw[hPf]at hu;cases hu);have cl':=C'.len;rw[W3,We]at cl';refine⟨C',fun q hq=>⟨by rw[e6];exact WQ _ (wk q hq).1,(wk q hq).2⟩,fun q hq h0=>?_,⟨by rw[e6];exact WQ _ pk,p0⟩,by show(n - (cm++[(farE e p,some t)]).length)+wt.length<=m;rw[W3,We];have ms:(n - cm.length)+wt.length<=m:=ms;omega⟩;rw[e6]at hq;rcases WJ.mp hq with hq | hq
    ·rcases sh q hq h0 with z | z
     ·exact .inl z
     ·refine .inr fun t' e' he' hq'=>?_;rw[e6];rcases z t' e' he' hq' with⟨z1,z2⟩ | z
      ·rcases WN.mp z2 with z2 | z2
       ·subst z2;rw[he]at he';cases he';rw[z1];exact .inr (Wd _ (W6.mpr rfl))
       ·exact .inl ⟨z1,z2⟩
      ·exact .inr (WQ _ z)
    ·rw[W6.mp hq]at h0;omega
  | some u=>
    rw[hv]at hPf;simp only;obtain⟨f,hf,hfe,hPn⟩:=K.two _ _ hPf;have htf:f9 es u=f:=by have:=AL (gM hf).1;rw[hf]at this;exact(oj this).symm
    rw[htf];obtain⟨g1,g2,g3,g4,g5⟩:=H.far hf hfe
    have hn2:farE f (farE e p)∉keys cm:=fun z=>by
     obtain⟨c,hc,ec⟩:=WZ.mp z;obtain⟨c1,c2⟩:=c;have ec:c1=farE f (farE e p):=ec;subst ec;have hv:=C.s0 _ _ hc (by omega);rw[hPn]at hv;have:c2=some u:=(oj hv).symm;subst this;obtain⟨i,hi⟩:=WW hc;obtain⟨f',hf',_,hin⟩:=C.up i _ _ hi;rw[hf]at hf';cases hf';rw[g3]at hin;unfold keys at hin;rw[Z7]at hin;exact hk (Xi hin)
    have hne:farE f (farE e p)≠farE e p:=fun z=>by rw[z]at g2;omega
    rw[CY hk,CY (by rw[e6];intro z;rcases WJ.mp z with z | z;exact hn2 z;exact hne (W6.mp z))];have C':=C.two H hk he f4 (by rw[f3];exact pk) fs K hPf hf hfe hn2
    have cl':cm.length+1+1<=n:=by
     have:=C'.len;rw[W3,W3,We,We]at this;exact this
    refine⟨C',fun q hq=>?_,fun q hq h0=>?_,⟨by rw[e6,e6];exact WQ _ (WQ _ pk),p0⟩,?_⟩
    ·show q∈keys (cm++[(farE e p,some t)]++[(farE f (farE e p),some u)])/\_;rw[e6,e6];rcases WJ.mp hq with hq | hq
     ·exact⟨WQ _ (WQ _ (wk q hq).1),(wk q hq).2⟩
     ·rw[W6.mp hq];exact⟨Wd _ (W6.mpr rfl),by omega⟩
    ·show q∈wt++[farE f (farE e p)]\/_;have hq:q∈keys (cm++[(farE e p,some t)]++[(farE f (farE e p),some u)]):=hq;rw[e6,e6]at hq;rcases WJ.mp hq with hq | hq
     ·rcases WJ.mp hq with hq | hq
      ·rcases sh q hq h0 with z | z
       ·exact .inl (WQ _ z)
       ·refine .inr fun t' e' he' hq'=>?_;show _\/farE e' q∈keys (cm++[(farE e p,some t)]++[(farE f (farE e p),some u)]);rw[e6,e6];rcases z t' e' he' hq' with⟨z1,z2⟩ | z
        ·rcases WN.mp z2 with z2 | z2
         ·subst z2;rw[he]at he';cases he';rw[z1];exact .inr (WQ _ (Wd _ (W6.mpr rfl)))
         ·exact .inl ⟨z1,z2⟩
        ·exact .inr (WQ _ (WQ _ z))
      ·rw[W6.mp hq]at h0;omega
     ·exact .inl (Wd _ hq)
    ·show(n - (cm++[(farE e p,some t)]++[(farE f (farE e p),some u)]).length)+(wt++[farE f (farE e p)]).length<=m;rw[W3,W3,W3,We,We,We];have ms:(n - cm.length)+wt.length<=m:=ms;omega
theorem HF(H:Sdd n es sd)(K:Cons n es P){p m:Nat}:∀{ts:List Nat} {st:Cm×List Nat},(∀ t∈ts,t<es.length/\(p=(f9 es t).1\/p=(f9 es t).2))->WInv n es sd P starts p m ts st->WInv n es sd P starts p m [] (ts.foldl (FY es P p) st)
 | [],st,_,W=>W
 | t::ts,st,h,W=>HF (ts:=ts) H K (fun t' ht'=>h t' (W9 _ ht')) (Fa H K (h t (WK ..)).1 (h t (WK ..)).2 W)
theorem HG{p:Nat}:∀ t∈h9 es p es.length,t<es.length/\(p=(f9 es t).1\/p=(f9 es t).2):=fun t ht=>by
 obtain⟨e,he,h⟩:=mem_tiesAt.mp ht;have hl:=(gM he).1;have:f9 es t=e:=by have:=AL hl;rw[he]at this;exact(oj this).symm
 rw[this];exact⟨hl,h.imp Eq.symm Eq.symm⟩
structure WOut(n:Nat)(es:EE)(sd:Nat->Nat)(P:List (Option Nat))(starts:List Nat)(m:Nat)(st:Cm×List Nat):Prop where
 C:Came n es sd P starts st.1
 wk:∀ q∈st.2,q∈keys st.1/\sd q=0
 sh:∀ q∈keys st.1,sd q=0->q∈st.2\/∀(t:Nat) (e:Nat×Nat),es[t]?=some e->(q=e.1\/q=e.2)->farE e q∈keys st.1
 ms:(n - st.1.length)+st.2.length<=m
theorem WOut.go(H:Sdd n es sd)(K:Cons n es P){m p:Nat}{st:Cm×List Nat}(W:WOut n es sd P starts (m+1) st)(hp:st.2.getLast?=some p):WInv n es sd P starts p m (h9 es p es.length) (st.1,st.2.dropLast):=by
 obtain⟨cm,wt⟩:=st;have hne:wt≠[]:=fun z=>by rw[z]at hp;cases hp
 have hw:wt.dropLast++[p]=wt:=by
  rw[List.getLast?_eq_some_getLast hne]at hp;have:=oj hp;rw[<-this];exact List.dropLast_concat_getLast hne
 have hm:p∈wt:=by rw[<-hw];exact Wd _ (W6.mpr rfl)
 have hl:wt.length=wt.dropLast.length+1:=by
  have:=congrArg Y1 hw;rw[W3,We]at this;exact this.symm
 refine⟨W.C,fun q hq=>W.wk q (List.dropLast_subset _ hq),fun q hq h0=>?_,W.wk p hm,by show(n - cm.length)+wt.dropLast.length<=m;have ms:(n - cm.length)+wt.length<=m+1:=W.ms;omega⟩;rcases W.sh q hq h0 with z | z
 ·have z:q∈wt:=z;rw[<-hw]at z;rcases WJ.mp z with z | z
  ·exact .inl z
  ·refine .inr fun t e he hq' => .inl ⟨W6.mp z,?_⟩;rw[W6.mp z]at hq';exact mem_tiesAt.mpr ⟨e,he,hq'.imp Eq.symm Eq.symm⟩
 ·exact .inr fun t e he hq' => .inr (z t e he hq')
theorem WInv.out{p m:Nat}{st:Cm×List Nat}(W:WInv n es sd P starts p m [] st):WOut n es sd P starts m st:=⟨W.C,W.wk,fun q hq h0=>(W.sh q hq h0).imp id fun z t e he hq'=>by
 rcases z t e he hq' with⟨_,z⟩ | z
 ·cases z
 ·exact z,W.ms⟩
structure Ways(n:Nat)(es:EE)(sd:Nat->Nat)(P:List (Option Nat))(starts:List Nat)(cm:Cm):Prop where
 C:Came n es sd P starts cm
 cl:∀ q∈keys cm,sd q=0->∀(t:Nat) (e:Nat×Nat),es[t]?=some e->(q=e.1\/q=e.2)->farE e q∈keys cm
theorem Jt(H:Sdd n es sd)(K:Cons n es P):∀{f:Nat} {st:Cm×List Nat},WOut n es sd P starts f st->Ways n es sd P starts (EA es P (f+1) st)
 | f,st,W=>by
   unfold EA;cases hl:st.2.getLast? with
   | none=>
     have:st.2=[]:=List.getLast?_eq_none_iff.mp hl;refine⟨W.C,fun q hq h0=>?_⟩;rcases W.sh q hq h0 with z | z
     ·rw[this]at z;cases z
     ·exact z
   | some p=>
     cases f with
     | zero=>
       have:=W.ms;have hz:st.2=[]:=Yn.mp (by omega);rw[hz]at hl;cases hl
     | succ f=>exact Jt H K (HF H K HG (W.go H K hl)).out
theorem WOut.start(O:Open starts sd n P):WOut n es sd P starts n (starts.map fun p=>(p,none),starts):=by
 have C:Came n es sd P starts (starts.map fun p=>(p,none)):=Came.start O;have cl:=C.len;rw[W2]at cl;have hk:keys (starts.map fun p=>(p,(none:Option Nat)))=starts:=by unfold keys;rw[Xc];exact ZY (fun _=>rfl) starts
 exact⟨C,fun q hq=>⟨C.hs q hq,(O.ok q hq).2.1⟩,fun q hq _ => .inl (by rw[hk]at hq;exact hq),by show(n - (starts.map fun p=>(p,(none:Option Nat))).length)+starts.length<=n;rw[W2];omega⟩
theorem HH(H:Sdd n es sd)(K:Cons n es P)(O:Open starts sd n P):Ways n es sd P starts (C3 n es P starts):=Jt H K (WOut.start O)
end
open PySem L2
noncomputable def turn(es:EE)(cm:Cm):Nat->List (Option Nat)->Nat->List (Option Nat)
 | 0,P,_=>P
 | f+1,P,q=>match (lk cm q).join with
   | none=>P
   | some t=>match (lk cm (farE (f9 es t) q)).join with
     | none=>(P.set q (some t)).set (farE (f9 es t) q) (some t)
     | some u=>turn es cm f ((P.set q (some t)).set (farE (f9 es t) q) (some t)) (farE (f9 es u) (farE (f9 es t) q))
section
variable{n:Nat}{es:EE}{sd:Nat->Nat}{P0:List (Option Nat)}{starts:List Nat}{cm:Cm}
structure Tn(n:Nat)(es:EE)(sd:Nat->Nat)(cm:Cm)(P:List (Option Nat))(q i:Nat):Prop where
 len:P.length=n
 at':∃ t,cm[i]?=some (q,some t)
 q1:sd q=1
 t1:∀ p,p≠q->∀ t,P[p]?=some (some t)->∃ e,es[t]?=some e/\(p=e.1\/p=e.2)/\farE e p≠q/\P[farE e p]?=some (some t)
 t2:∀(j p:Nat) (v:Option Nat),j<i->cm[j]?=some (p,v)->sd p=0->P[p]?=some v
structure Zc(es:EE)(sd:Nat->Nat)(P:List (Option Nat))(Z:Nat->Prop):Prop where
 z1:∀(p t:Nat) (e:Nat×Nat),es[t]?=some e->(p=e.1\/p=e.2)->Z p->sd p=0->Z (farE e p)
 z2:∀(q u:Nat) (f:Nat×Nat),Z q->sd q=1->P[q]?=some (some u)->es[u]?=some f->Z (farE f q)
structure TnP(n:Nat)(es:EE)(sd:Nat->Nat)(starts:List Nat)(P P':List (Option Nat))(q:Nat):Prop where
 co:Cons n es P'
 more:∀ p:Nat,P'[p]?=P[p]?\/∃ t,P'[p]?=some (some t)
 st:∃ s∈starts,∃ t,P'[s]?=some (some t)
 en:∃ t,P'[q]?=some (some t)
 z:∀ Z:Nat->Prop,Zc es sd P Z->¬ Z q->∀ p:Nat,Z p->P'[p]?=P[p]?
 old:∀ p:Nat,sd p=0->P[p]?=some none->p∉starts->P'[p]?=some none
theorem VY{P:List (Option Nat)}{q r:Nat}{v w:Option Nat}(hq:q<P.length)(hr:r<P.length)(p:Nat):((P.set q v).set r w)[p]?=if p=r then some w else if p=q then some v else P[p]?:=by
 by_cases h1:p=r
 ·subst h1;rw[if_pos rfl,Wg (by rw[WU];exact hr)]
 ·rw[if_neg h1,Wp (Ne.symm h1)];by_cases h2:p=q
  ·subst h2;rw[if_pos rfl,Wg hq]
  ·rw[if_neg h2,Wp (Ne.symm h2)]
theorem Ju(C:Came n es sd P0 starts cm){p:Nat}{v:Option Nat}(h:(p,v)∈cm):(lk cm p).join=v:=by rw[OF C.nd h];cases v<;>rfl
theorem AM{t:Nat}{e:Nat×Nat}(h:es[t]?=some e):f9 es t=e:=by
 have:=AL (gM h).1;rw[h]at this;exact(oj this).symm
theorem Fb(H:Sdd n es sd)(C:Came n es sd P0 starts cm)(O:Open starts sd n P0):∀{f i q:Nat} {P:List (Option Nat)},i<f->Tn n es sd cm P q i->TnP n es sd starts P (turn es cm f P q) q
 | f+1,i,q,P,hf,T=>by
   obtain⟨t,hi⟩:=T.at';have hm:=W5 hi;obtain⟨e,he,hqe,hin⟩:=C.up i q t hi;obtain⟨f1,f2,f3,f4,f5⟩:=H.far he hqe;have hq0:sd (farE e q)=0:=by have:=T.q1;omega
   have hqn:q<P.length:=by rw[T.len];exact f5
   have hrn:farE e q<P.length:=by rw[T.len];exact f1
   have hne:q≠farE e q:=fun z=>by rw[<-z]at hq0;have:=T.q1;omega
   have s2:=fun p=>VY (v:=some t) (w:=some t) hqn hrn p;unfold turn;rw[Ju C hm];simp only;rw[AM he];obtain⟨c,hc,ec⟩:=WZ.mp hin;obtain⟨c1,v⟩:=c;have ec:c1=farE e q:=ec;subst ec;obtain⟨j,hj⟩:=WW hc
   have hji:j<i:=by
    have:=(gM hj).1;rw[WY]at this;omega
   have hj:cm[j]?=some (farE e q,v):=by rw[XR hji]at hj;exact hj
   have hPn:=T.t2 j _ v hji hj hq0;rw[Ju C (W5 hj)];cases v with
   | none=>
     simp only;have hst:=C.st _ (W5 hj);refine⟨⟨by rw[WU,WU,T.len],fun p s h=>?_⟩,fun p=>?_,⟨_,hst,t,by rw[s2,if_pos rfl]⟩,⟨t,by rw[s2,if_neg hne,if_pos rfl]⟩,fun Z z hz p hp=>?_,fun p h0 hpn hs=>?_⟩
     ·rw[s2]at h;by_cases h1:p=farE e q
      ·rw[if_pos h1]at h;cases h;subst h1;exact⟨e,he,f4,by rw[f3,s2,if_neg hne,if_pos rfl]⟩
      ·rw[if_neg h1]at h;by_cases h2:p=q
       ·rw[if_pos h2]at h;cases h;subst h2;exact⟨e,he,hqe,by rw[s2,if_pos rfl]⟩
       ·rw[if_neg h2]at h;obtain⟨e',he',hp',hfq,hPf⟩:=T.t1 p h2 s h;refine⟨e',he',hp',?_⟩;rw[s2,if_neg (fun z=>by rw[z,hPn]at hPf;cases hPf),if_neg hfq];exact hPf
     ·rw[s2];by_cases h1:p=farE e q
      ·rw[if_pos h1];exact .inr ⟨t,rfl⟩
      ·rw[if_neg h1];by_cases h2:p=q
       ·rw[if_pos h2];exact .inr ⟨t,rfl⟩
       ·rw[if_neg h2];exact .inl rfl
     ·have hz2:¬ Z (farE e q):=fun y=>hz (by have:=z.z1 _ t e he f4 y hq0;rw[f3]at this;exact this);have n1:p≠farE e q:=fun y=>hz2 (y▸hp);have n2:p≠q:=fun y=>hz (y▸hp);rw[s2,if_neg n1,if_neg n2]
     ·have n1:p≠farE e q:=fun y=>hs (y▸hst);rw[s2,if_neg n1,if_neg (fun y=>by rw[y]at h0;have:=T.q1;omega)];exact hpn
   | some u=>
     simp only;obtain⟨g,hg,hge,hgin⟩:=C.up j _ u hj;obtain⟨g1,g2,g3,g4,g5⟩:=H.far hg hge;rw[AM hg];have hq1:sd (farE g (farE e q))=1:=by omega
     obtain⟨c,hc',ec⟩:=WZ.mp hgin;obtain⟨c1,v'⟩:=c;have ec:c1=farE g (farE e q):=ec;subst ec;obtain⟨i',hi'⟩:=WW hc'
     have hij:i'<j:=by
      have:=(gM hi').1;rw[WY]at this;omega
     have hi':cm[i']?=some (farE g (farE e q),v'):=by rw[XR hij]at hi';exact hi'
     obtain⟨t',rfl⟩:∃ t',v'=some t':=by
      cases v' with
      | some t'=>exact⟨t',rfl⟩
      | none=>have:=(O.ok _ (C.st _ (W5 hi'))).2.1;omega
     obtain⟨g',hg',_,hfq,hPq'⟩:=T.t1 (farE e q) (Ne.symm hne) u hPn;rw[hg]at hg';cases hg';have hqq:farE g (farE e q)≠q:=hfq;have hqr:farE g (farE e q)≠farE e q:=fun z=>by rw[z]at hq1;omega
     have kne:∀(a b:Nat) (x y:Nat×Option Nat),cm[a]?=some x->cm[b]?=some y->a<b->x.1≠y.1:=fun a b x y ha hb hab=>by
      have al:=(gM ha).1;have bl:=(gM hb).1;have:=(Wt.mp C.nd) a b (by rw[BC];exact al) (by rw[BC];exact bl) hab;unfold keys at this;rw[YM,YM,(gM ha).2,(gM hb).2]at this;exact this
     have T':Tn n es sd cm ((P.set q (some t)).set (farE e q) (some t)) (farE g (farE e q)) i':=by
      refine⟨by rw[WU,WU,T.len],⟨t',hi'⟩,hq1,fun p hp s h=>?_,fun j' p v hj' hv h0=>?_⟩
      ·rw[s2]at h;by_cases h1:p=farE e q
       ·rw[if_pos h1]at h;cases h;subst h1;exact⟨e,he,f4,by rw[f3];exact Ne.symm hqq,by rw[f3,s2,if_neg hne,if_pos rfl]⟩
       ·rw[if_neg h1]at h;by_cases h2:p=q
        ·rw[if_pos h2]at h;cases h;subst h2;exact⟨e,he,hqe,Ne.symm hqr,by rw[s2,if_pos rfl]⟩
        ·rw[if_neg h2]at h;obtain⟨e',he',hp',hfq',hPf⟩:=T.t1 p h2 s h;obtain⟨k1,k2,k3,k4,k5⟩:=H.far he' hp';refine⟨e',he',hp',fun z=>?_,?_⟩
         ·rw[z,hPq']at hPf;cases hPf;rw[hg]at he';cases he';rw[z,g3]at k3;exact h1 k3.symm
         ·rw[s2,if_neg (fun z=>?_),if_neg hfq']
          ·exact hPf
          ·rw[z,hPn]at hPf;cases hPf;rw[hg]at he';cases he';rw[z]at k3;exact hp k3.symm
      ·have e1:p≠farE e q:=kne j' j _ _ hv hj (by omega);rw[s2,if_neg e1,if_neg (fun z=>by rw[z]at h0;have:=T.q1;omega)];exact T.t2 j' p v (by omega) hv h0
     have R:=Fb H C O (f:=f) (by omega) T';refine⟨R.co,fun p=>?_,R.st,?_,fun Z z hz p hp=>?_,fun p h0 hpn hs=>?_⟩
     ·rcases R.more p with z | z
      ·rw[s2]at z;by_cases h1:p=farE e q
       ·rw[if_pos h1]at z;exact .inr ⟨t,z⟩
       ·rw[if_neg h1]at z;by_cases h2:p=q
        ·rw[if_pos h2]at z;exact .inr ⟨t,z⟩
        ·rw[if_neg h2]at z;exact .inl z
      ·exact .inr z
     ·rcases R.more q with z | z
      ·rw[s2,if_neg hne,if_pos rfl]at z;exact⟨t,z⟩
      ·exact z
     ·have hz2:¬ Z (farE e q):=fun y=>hz (by have:=z.z1 _ t e he f4 y hq0;rw[f3]at this;exact this);have hz3:¬ Z (farE g (farE e q)):=fun y=>hz2 (by have:=z.z2 _ u g y hq1 hPq' hg;rw[g3]at this;exact this)
      have keep:∀ r,Z r->((P.set q (some t)).set (farE e q) (some t))[r]?=P[r]?:=fun r hr=>by
       have n1:r≠farE e q:=fun y=>hz2 (y▸hr);have n2:r≠q:=fun y=>hz (y▸hr);rw[s2,if_neg n1,if_neg n2]
      have z':Zc es sd ((P.set q (some t)).set (farE e q) (some t)) Z:=⟨z.z1,fun r u f hr h1 hP hf=>z.z2 r u f hr h1 (by rw[<-keep r hr];exact hP) hf⟩
      rw[R.z Z z' hz3 p hp,keep p hp]
     ·refine R.old p h0 ?_ hs;rw[s2,if_neg (fun y=>by rw[y,hPn]at hpn;cases hpn),if_neg (fun y=>by rw[y]at h0;have:=T.q1;omega)];exact hpn
noncomputable def cntAt(es:EE)(p:Nat):Nat:=(h9 es p es.length).length
noncomputable def Bo(es:EE)(cm:Cm)(P:List (Option Nat))(needed:Nat):List Nat->List (Option Nat)
 | []=>P
 | p::ps=>if P.getD p none=none then turn es cm (cm.length+1) P p else if P.getD p none=(lk cm p).join/\cntAt es p<needed then turn es cm (cm.length+1) (P.set p none) (farE (f9 es ((lk cm p).join.getD 0)) p) else Bo es cm P needed ps
noncomputable def CZ(n:Nat)(es:EE)(P:List (Option Nat))(s needed:Nat):List (Option Nat):=Bo es (C3 n es P [s]) P needed ((keys (C3 n es P [s])).filter fun q=>!decide (q=s))
end
section
variable{n:Nat}{es:EE}{sd:Nat->Nat}{P:List (Option Nat)}
theorem HI(H:Sdd n es sd){starts:List Nat}{cm:Cm}(C:Came n es sd P starts cm)(O:Open starts sd n P)(K:Cons n es P){q:Nat}(hq:q∈keys cm)(hs:q∉starts)(hP:P[q]?=some none):∃ i,i<cm.length/\Tn n es sd cm P q i:=by
 obtain⟨c,hc,ec⟩:=WZ.mp hq;obtain⟨c1,v⟩:=c;have ec:c1=q:=ec;subst ec;obtain⟨i,hi⟩:=WW hc;cases v with
 | none=>exact absurd (C.st _ hc) hs
 | some t=>
   have q1:sd c1=1:=by
    have h2:=H.two c1;by_cases h0:sd c1=0
    ·have:=C.s0 _ _ hc h0;rw[hP]at this;cases this
    ·omega
   refine⟨i,(gM hi).1,K.len,⟨t,hi⟩,q1,fun p hp s h=>?_,fun j p v hj hv h0=>C.s0 p v (W5 hv) h0⟩;obtain⟨e,he,hpe,hf⟩:=K.two p s h;exact⟨e,he,hpe,(fun z=>by rw[z,hP]at hf;cases hf),hf⟩
end
open PySem L2
noncomputable def Re(k:Nat):List Stm:=[(.loop (.nm 2) (.seq (.var 1)) [(.expr (.call k (.cons (.var 0) (.cons (.var 2) .nil))))]),(.ret (.tup (.cons (.ix (.var 0) (.c (.int 0))) (.cons (.bi .tuple (.cons (.comp ["tie"] ["web"] [0] (.nm 0) (.seq (.var 1)) .no (.ix (.ix (.var 1) (.c (.int 1))) (.var 0))) .nil)) .nil))))]
noncomputable def Fc(s:Sn):Prop:=∀{n k:Nat} {es:EE} {js:List Nat} {S:Sto} {Q:QE},S[k]?=some (.lst (natS js))->js.length<=1000->(∀ j∈js,j<es.length)->(∀(S':Sto),Gw S S'->Q (j3 n (js.map fun j=>es.getD j (0,0))) S')->s [j3 n es,.loc k] S Q
theorem y0{xs:List Nat}{i:Nat}{x:SV}(h:(natS xs)[i]?=some x):∃ j,xs[i]?=some j/\x = .int j:=by
 unfold natS at h;rw[WG]at h;cases hx:xs[i]? with
 | none=>rw[hx]at h;cases h
 | some j=>rw[hx]at h;exact⟨j,rfl,(oj h).symm⟩
theorem Qc{Δ:Nat->Sn}(hΔ:∀ f,MonoN (Δ f)){kc:Nat}(hc:BP (Δ kc)){D:Df}(hb:D.body=Re kc)(hN:D.N.length=3)(hp:D.ps.length=2):Fc (i6 Δ D):=by
 intro n k es js S Q hk hl hj q;unfold i6;rw[hb,hN];refine⟨hp.symm,_,rfl,_,c5 hk,?_⟩;refine w5 (i8 hΔ _) (fun i ρ S'=>∃ o,ρ=[some (j3 n es),some (.loc k),o]/\S'=S) ⟨none,rfl,rfl⟩ (fun _ _ _ ⟨_,_,h⟩=>by rw[h];exact rfl) ?_ ?_
 ·rintro i x ρ S' hx ⟨o,rfl,rfl⟩;obtain⟨j,hji,rfl⟩:=y0 hx;exact⟨_,rfl,_,rfl,hc (hj j (W5 hji)) ⟨_,rfl,rfl⟩⟩
 ·rintro ρ S' ⟨o,rfl,rfl⟩;refine⟨_,rfl,_,_,rfl,rfl,_,rfl,_,c5 hk,?_⟩;refine j7 (j5 hΔ _).2 (a7 hΔ _).1 (fun i ys S2=>S2=S'/\ys=((js.take i).map fun j=>es.getD j (0,0)).map pairS) ⟨rfl,rfl⟩ (fun _ _ _ h=>by rw[h.1];exact rfl) ?_ ?_
  ·rintro i x ys S2 hx ⟨rfl,rfl⟩;obtain⟨j,hji,rfl⟩:=y0 hx;have hjl:=hj j (W5 hji);have hil:=(gM hji).1;have he:=W0 hjl;refine⟨_,rfl,_,_,rfl,rfl,_,rfl,_,pairS es[j],rfl,i7 (by rw[WG,he];rfl),?_⟩;refine⟨by rw[W2,W2,WY];show _<100000;omega,rfl,?_⟩;rw[Ws,hji,Wn,Wn]
   congr 1
   show[pairS es[j]]=[pairS (es.getD j (0,0))]
   rw[Wk,he];rfl
  ·rintro ys S2 ⟨rfl,rfl⟩;rw[c9,Wu];exact⟨_,c5 c6,by show 2<=big;decide,q _ (Gw.refl S2).push⟩
theorem Tz(p:Nat)(xs:List Nat):inS (.int p) (natS xs)=decide (p∈xs):=by
 rw[XU,decide_eq_true_eq];unfold inS natS;rw[ZJ,Xs];constructor
 ·rintro⟨a,ha,h⟩;have h:((a:Int) == (p:Int))=true:=h;rw[beq_iff_eq]at h;have:=XN.mp h;rw[<-this];exact ha
 ·intro h;exact⟨p,h,by show((p:Int) == (p:Int))=true;simp⟩
open PySem L2
theorem Qd{k:Nat}{S:Sto}{kvs:List (Int×SV)}(h:S[k]?=some (.dct kvs)):CQ (.loc k) S=some kvs:=by simp only[CQ,h]
theorem DI{k:Nat}{S:Sto}{o:Obj}{ks:List (Key×V)}{kvs:List (Int×SV)}(h:S[k]?=some (.dcf o ks kvs)):CQ (.loc k) S=some kvs:=by simp only[CQ,h]
open PySem L2
theorem Ii(f:Nat->Int):∀ i,(PyProof.Rows.firstMet f i).Nodup
 | 0=>by rw[PyProof.Rows.firstMet_zero];exact Z2
 | i+1=>by
   rw[PyProof.Rows.firstMet_succ];unfold PyProof.Rows.step_dedup;split
   ·exact Ii f i
   ·rename_i h;rw[Xd];refine⟨Ii f i,by simp,fun a ha b hb=>?_⟩;rw[W6.mp hb];intro z;exact h (Xs.mpr ⟨a,ha,by simp[z]⟩)
theorem Jv:∀(xs:List Nat),E6 (natS xs)=some (xs.map fun(i:Nat)=>(i:Int))
 | []=>rfl
 | x::xs=>by
   show(E6 (natS xs)).map (((x:Nat):Int)::·)=_;rw[Jv xs];rfl
section
variable{Δ:Nat->Sn}
theorem HJ{α:Type}{P:α->Bool}{xs:List α}{j:Nat}{x:α}(h:xs[j]?=some x):(xs.take (j+1)).filter P=(xs.take j).filter P++if P x=true then [x] else []:=by
 rw[Ws,h,YE]
 congr 1
 show Zi P [x]=_;rw[YL];rfl
end
open PySem L2
theorem Fd{α:Type}[DecidableEq α]:∀{l1 l2:List α},l1.Nodup->(∀ x∈l1,x∈l2)->l1.length<=l2.length
 | [],l2,_,_=>XQ _
 | a::l1,l2,nd,h=>by
   rw[XG]at nd;have ha:=h a (WK ..)
   have:=Fd (l1:=l1) (l2:=l2.erase a) nd.2 fun x hx=>by
    have hx2:=h x (W9 _ hx);have:x≠a:=fun z=>nd.1 (z▸hx);exact(List.mem_erase_of_ne this).mpr hx2
   rw[Yh ha]at this;have:0<l2.length:=Yt ha;rw[Wz];omega
noncomputable def Apart(es:EE)(ts:List Nat):Prop:=∀ t∈ts,∀ t'∈ts,∀ p,(p=(f9 es t).1\/p=(f9 es t).2)->(p=(f9 es t').1\/p=(f9 es t').2)->t=t'
noncomputable def iN(xs:List Nat):List Int:=xs.map fun(i:Nat)=>(i:Int)
noncomputable def tNs(P:List (Option Nat)):List Nat:=P.filterMap id
noncomputable def AS(P:List (Option Nat)):List Nat:=(srt (AD (iN (tNs P)))).map Int.toNat
theorem mem_tNs{P:List (Option Nat)}{t:Nat}:t∈tNs P↔∃ p:Nat,P[p]?=some (some t):=by
 unfold tNs;rw[Ya];constructor
 ·rintro⟨a,ha,h⟩;obtain⟨i,hi⟩:=WW ha;have h:a=some t:=h;exact⟨i,by rw[hi,h]⟩
 ·rintro⟨p,h⟩;exact⟨some t,W5 h,rfl⟩
theorem OG(P:List (Option Nat)):srt (AD (iN (tNs P)))=iN (AS P):=by
 unfold AS
 have nn:∀ x∈srt (AD (iN (tNs P))),0<=x:=fun x hx=>by
  have h1:=(At _).mem_iff.mp hx;have h2:x∈iN (tNs P):=(GI _ _).mp h1;obtain⟨i,_,rfl⟩:=WZ.mp h2;omega
 generalize srt (AD (iN (tNs P)))=l at *;unfold iN;rw[Xc]
 conv=>lhs;rw[<-List.map_id l]
 refine YV fun x hx=>?_;have:=nn x hx;show x=((x.toNat:Nat):Int)
 omega
theorem mem_tiesN{P:List (Option Nat)}{t:Nat}:t∈AS P↔∃ p:Nat,P[p]?=some (some t):=by
 rw[<-mem_tNs]
 have h:(t:Int)∈iN (AS P)↔(t:Int)∈iN (tNs P):=by
  rw[<-OG];rw[(At _).mem_iff];exact GI _ _
 have inj:∀ l:List Nat,(t:Int)∈iN l↔t∈l:=fun l=>by
  unfold iN;rw[WZ];exact⟨fun⟨a,ha,e⟩=>by rw[<-XN.mp e];exact ha,fun h=>⟨t,h,rfl⟩⟩
 rw[inj,inj]at h;exact h
theorem HK(P:List (Option Nat)):(AS P).Pairwise (·<·):=by
 have s:=MQ (AD (iN (tNs P)));have nd:(srt (AD (iN (tNs P)))).Nodup:=(At _).nodup_iff.mpr (Ii _ _);rw[OG]at s nd;unfold iN at s nd;rw[Y0]at s;have nd:=Y0.mp nd;refine(s.and nd).imp fun{a b} h=>?_;have h1:(a:Int)<=b:=h.1;have h2:(a:Int)≠b:=h.2;omega
theorem Jw{l:List Nat}(h:l.Pairwise (·<·)):l.Nodup:=h.imp fun h z=>by omega
section
variable{n:Nat}{es:EE}{sd:Nat->Nat}{P:List (Option Nat)}
theorem Cons.apart(K:Cons n es P):Apart es (AS P):=fun t ht t' ht' p hp hp'=>by
 have at':∀ t,t∈AS P->(p=(f9 es t).1\/p=(f9 es t).2)->P[p]?=some (some t):=fun t ht hp=>by
  obtain⟨r,hr⟩:=mem_tiesN.mp ht;obtain⟨e,he,hre,hf⟩:=K.two r t hr;rw[AM he]at hp;by_cases h:p=r
  ·rw[h];exact hr
  ·have:farE e r=p:=by
    unfold farE;rcases hre with z | z
    ·rw[if_pos z];rcases hp with y | y
     ·exact absurd (y.trans z.symm) h
     ·exact y.symm
    ·by_cases y:r=e.1
     ·rw[if_pos y];rcases hp with x | x
      ·exact absurd (x.trans y.symm) h
      ·exact x.symm
     ·rw[if_neg y];rcases hp with x | x
      ·exact x.symm
      ·exact absurd (x.trans z.symm) h
   rw[<-this];exact hf
 have a:=at' t ht hp;have b:=at' t' ht' hp';rw[a]at b;exact oj (oj b)
theorem Cons.tlt(K:Cons n es P):∀ t∈AS P,t<es.length:=fun t ht=>by
 obtain⟨r,hr⟩:=mem_tiesN.mp ht;obtain⟨e,he,_⟩:=K.two r t hr;exact(gM he).1
end
open PySem L2
noncomputable def camS(cm:Cm):List (Int×SV):=cm.map fun c=>((c.1:Int),AU c.2)
theorem By(cm:Cm)(p:Nat):D6 (camS cm) p=(lk cm p).map AU:=by
 unfold D6 camS lk
 induction cm with
 | nil=>rfl
 | cons c cm ih=>
   rw[Wl,Xn,Xn];by_cases h:c.1=p
   ·rw[decide_eq_true (show(c.1:Int)=p from congrArg _ h),decide_eq_true h];rfl
   ·rw[decide_eq_false (fun z=>h (XN.mp z)),decide_eq_false h];exact ih
theorem Fe(cm:Cm)(p:Nat)(v:Option Nat):Aj (camS cm) p (AU v)=camS (Ag cm p v):=by
 have ha:((camS cm).any fun q=>decide (q.1=(p:Int)))=cm.any fun c=>decide (c.1=p):=by
  unfold camS;rw[ZJ]
  congr 1
  funext c
  show decide ((c.1:Int)=p)=decide (c.1=p);rw[decide_eq_decide];exact XN
 unfold Aj Ag;rw[ha];split
 ·unfold camS;rw[Xc,Xc];refine YV fun c _=>?_;show(if (c.1:Int)=p then ((c.1:Int),AU v) else ((c.1:Int),AU c.2))=(((if c.1=p then (c.1,v) else c).1:Int),AU (if c.1=p then (c.1,v) else c).2)
  by_cases h:c.1=p
  ·rw[if_pos (congrArg _ h),if_pos h]
  ·rw[if_neg (fun z=>h (XN.mp z)),if_neg h]
 ·unfold camS;rw[Wn];rfl
theorem Jx(cm:Cm):(camS cm).length=cm.length:=by unfold camS;rw[W2]
theorem OH(cm:Cm):((camS cm).map fun p=>SV.int p.1)=natS (keys cm):=by unfold camS natS keys;rw[Xc,Xc];rfl
theorem OI(cm:Cm)(p:Nat)(v:Option Nat):cm.length<=(Ag cm p v).length:=by
 unfold Ag;split
 ·rw[W2];exact WB _
 ·rw[W3];omega
theorem Ij{keep:Sto->Prop}{g:Tg}{t:WT}{e f:WE}{ρ:EnvS}{Q:List (Int×SV)->Sto->Prop}(mt:MonoT t)(me:Mono e)(mf:Mono f)(I:Nat->List (Int×SV)->Sto->Prop){xs:List SV}{S:Sto}(h0:I 0 [] S)(hk:∀ i ys S,I i ys S->keep S)
 (hs:∀ i x ys S,xs[i]?=some x->I i ys S->wTg g x ρ fun ρ2=>t ρ2 S fun b S1=>if b=true then e ρ2 S1 fun y S2=>f ρ2 S2 fun z S3=>∃ j,y = .int j/\ys.length<big/\I (i+1) (Aj ys j z) S3 else I (i+1) ys S1) (hd:∀ ys S,I xs.length ys S->Q ys S):v4 keep g t e f ρ Q xs [] S:=by
 have go:∀(zs:List SV) (i:Nat) (ys:List (Int×SV)) (S:Sto),xs.drop i=zs->i<=xs.length->I i ys S->v4 keep g t e f ρ Q zs ys S:=by
  intro zs
  induction zs with
  | nil=>
    intro i ys S e' hi h
    have:i=xs.length:=by
     have:=congrArg Y1 e';rw[Wy,Y3]at this;omega
    subst this;unfold v4;exact⟨hk _ _ _ h,hd _ _ h⟩
  | cons y zs ih=>
    intro i ys S e' hi h;have hy:xs[i]?=some y:=by rw[<-YR,e'];rfl
    have hlt:=(gM hy).1;have e2:xs.drop (i+1)=zs:=by rw[<-Ye,e'];rfl
    unfold v4;refine⟨hk _ _ _ h,m6 g (fun ρ2 q=>mt _ _ _ _ (fun b S1 q=>j0 (fun q=>me _ _ _ _ (fun v S2 q=>mf _ _ _ _ (fun z S3 hq=>by obtain⟨j,a,b,c⟩:=hq;exact⟨j,a,b,ih (i+1) _ S3 e2 hlt c⟩) q) q) (fun q=>ih (i+1) _ S1 e2 hlt q) q) q) (hs i y ys S hy h)⟩
 exact go xs 0 [] S rfl (XQ _) h0
theorem Il{keep:Sto->Prop}{g:Tg}{t:WT}{e:WE}{ρ:EnvS}{Q:List Int->Sto->Prop}(mt:MonoT t)(me:Mono e)(I:Nat->List Int->Sto->Prop){xs:List SV}{S:Sto}(h0:I 0 [] S)(hk:∀ i ys S,I i ys S->keep S)
 (hs:∀ i x ys S,xs[i]?=some x->I i ys S->wTg g x ρ fun ρ2=>t ρ2 S fun b S1=>if b=true then e ρ2 S1 fun y S2=>∃ j,y = .int j/\ys.length<900/\I (i+1) (ys++[j]) S2 else I (i+1) ys S1) (hd:∀ ys S,I xs.length ys S->Q ys S):v5 keep g t e ρ Q xs [] S:=by
 have go:∀(zs:List SV) (i:Nat) (ys:List Int) (S:Sto),xs.drop i=zs->i<=xs.length->I i ys S->v5 keep g t e ρ Q zs ys S:=by
  intro zs
  induction zs with
  | nil=>
    intro i ys S e' hi h
    have:i=xs.length:=by
     have:=congrArg Y1 e';rw[Wy,Y3]at this;omega
    subst this;unfold v5;exact⟨hk _ _ _ h,hd _ _ h⟩
  | cons y zs ih=>
    intro i ys S e' hi h;have hy:xs[i]?=some y:=by rw[<-YR,e'];rfl
    have hlt:=(gM hy).1;have e2:xs.drop (i+1)=zs:=by rw[<-Ye,e'];rfl
    unfold v5;refine⟨hk _ _ _ h,m6 g (fun ρ2 q=>mt _ _ _ _ (fun b S1 q=>j0 (fun q=>me _ _ _ _ (fun v S2 hq=>by obtain⟨j,a,b,c⟩:=hq;exact⟨j,a,b,ih (i+1) _ S2 e2 hlt c⟩) q) (fun q=>ih (i+1) _ S1 e2 hlt q) q) q) (hs i y ys S hy h)⟩
 exact go xs 0 [] S rfl (XQ _) h0
noncomputable def va1:Stm:=(.asg (.nm 3) (.dcomp ["place"] [] [] (.nm 0) (.seq (.var 2)) .no (.var 0) (.c .non)))
noncomputable def va2:Stm:=(.asg (.nm 4) (.bi .list (.cons (.var 2) .nil)))
noncomputable def vin(kf:Nat):List Stm:=[(.asg (.nm 7) (.call kf (.cons (.var 0) (.cons (.var 6) (.cons (.var 5) .nil))))),(.iff (.din true (.var 7) (.var 3)) [(.dput (.var 3) (.var 7) (.var 6)),(.iff (.cmp .IsNot (.ix (.var 1) (.var 7)) (.c .non)) [(.asg (.nm 8) (.call kf (.cons (.var 0) (.cons (.ix (.var 1) (.var 7)) (.cons (.var 7) .nil))))),(.dput (.var 3) (.var 8) (.ix (.var 1) (.var 7))),(.expr (.mt .append (.var 4) (.cons (.var 8) .nil)))] [])] [])]
noncomputable def va3(kt kf:Nat):Stm:=(.whl (.var 4) [(.asg (.nm 5) (.mt .pop (.var 4) .nil)),(.loop (.nm 6) (.seq (.call kt (.cons (.var 0) (.cons (.var 5) .nil)))) (vin kf))])
noncomputable def Rg(kt kf:Nat):List Stm:=[va1,va2,va3 kt kf,(.ret (.var 3))]
structure Wm(lp lc lw:Nat)(S0 S:Sto)(P:List (Option Nat))(st:Cm×List Nat):Prop where
 hp:S[lp]?=some (.lst (optsS P))
 hc:S[lc]?=some (.dct (camS st.1))
 hw:S[lw]?=some (.lst (natS st.2))
 g:Gw S0 S
 p0:lp<S0.length
 c0:S0.length<=lc
 w0:S0.length<=lw
 ne:lc≠lw
section
variable{lp lc lw:Nat}{S0 S:Sto}{P:List (Option Nat)}{st:Cm×List Nat}{cm':Cm}{wt':List Nat}
theorem Wm.push{o:SO}(M:Wm lp lc lw S0 S P st):Wm lp lc lw S0 (S++[o]) P st:=⟨f7 M.hp,f7 M.hc,f7 M.hw,M.g.push,M.p0,M.c0,M.w0,M.ne⟩
theorem Wm.setc(M:Wm lp lc lw S0 S P st):Wm lp lc lw S0 (S.set lc (.dct (camS cm'))) P (cm',st.2):=⟨by rw[i9 (by have:=M.p0;have:=M.c0;omega)];exact M.hp,j6 M.hc,by rw[i9 M.ne];exact M.hw,M.g.put M.c0,M.p0,M.c0,M.w0,M.ne⟩
theorem Wm.setw(M:Wm lp lc lw S0 S P st):Wm lp lc lw S0 (S.set lw (.lst (natS wt'))) P (st.1,wt'):=⟨by rw[i9 (by have:=M.p0;have:=M.w0;omega)];exact M.hp,by rw[i9 (Ne.symm M.ne)];exact M.hc,j6 M.hw,M.g.put M.w0,M.p0,M.c0,M.w0,M.ne⟩
end
section
variable{Δ:Nat->Sn}{kt kf:Nat}
theorem LQ(hf:AB (Δ kf)){n p m t l lp lc lw ls:Nat}{o:SO}{es:EE}{sd:Nat->Nat}{starts ts:List Nat}{P:List (Option Nat)}{S0 S:Sto}{st:Cm×List Nat}{D:EndsS}{o7 o8:Option SV}(H:Sdd n es sd)(K:Cons n es P)(hn:n<=100)(hm:m<=100)(hl:S[l]?=some o)(lc':l≠lc)(lw':l≠lw)(ht:t<es.length)(hp:p=(f9 es t).1\/p=(f9 es t).2)(W:WInv n es sd P starts p m (t::ts) st)(M:Wm lp lc lw S0 S P st)
 (q:∀(o7 o8:Option SV) (S':Sto),S'[l]?=some o->Wm lp lc lw S0 S' P (FY es P p st t)->D.nx [some (j3 n es),some (.loc lp),some (.loc ls),some (.loc lc),some (.loc lw),some (.int p),some (.int t),o7,o8] S'):
 wSs Δ (vin kf) D [some (j3 n es),some (.loc lp),some (.loc ls),some (.loc lc),some (.loc lw),some (.int p),some (.int t),o7,o8] S:=by
 obtain⟨cm,wt⟩:=st;have W1:=Fa H K ht hp W;have he:=AL ht;have cl:=W.C.len;have cl1:=W1.C.len;have wl:wt.length<=m:=by have:=W.ms;show wt.length<=m;have:(n - cm.length)+wt.length<=m:=this;omega
 unfold FY at q cl1;generalize f9 es t=e at *;obtain⟨f1,f2,f3,f4,f5⟩:=H.far he hp;have hfl:farE e p<P.length:=by rw[K.len];exact f1
 have hPf:=Cv hfl;refine⟨_,rfl,_,rfl,_,rfl,hf he hp ?_⟩;generalize farE e p=fr at *;refine⟨_,rfl,_,rfl,_,_,Qd M.hc,rfl,_,rfl,?_⟩;rw[By];by_cases hk:(lk cm fr).isSome=true
 ·rw[if_pos hk]at q;refine ifF ?_ (q _ _ S hl M);rw[Y6];show(!(lk cm fr).isSome)=false;rw[hk];rfl
 ·rw[if_neg hk]at q cl1;refine ifT ?_ ?_
  ·rw[Y6];show(!(lk cm fr).isSome)=true;rw[Bool.not_eq_true]at hk;rw[hk];rfl
  have cb:∀ cm':Cm,cm'.length<=100->(camS cm').length<big:=fun cm' h=>by rw[Jx];show _<100000;omega
  have hM0:=M.hc;refine⟨_,rfl,_,rfl,_,rfl,_,_,_,rfl,rfl,.inl hM0,cb _ (by have:cm.length<=n:=cl;show cm.length<=100;omega),?_⟩;have e1:Aj (camS cm) fr (.int t)=camS (Ag cm fr (some t)):=Fe cm fr (some t);have M1:=M.setc (cm':=Ag cm fr (some t));have hl1:(S.set lc (.dct (camS (Ag cm fr (some t)))))[l]?=some o:=by rw[i9 (Ne.symm lc')];exact hl
  show wSs Δ [(.iff (.cmp .IsNot (.ix (.var 1) (.var 7)) (.c .non)) [(.asg (.nm 8) (.call kf (.cons (.var 0) (.cons (.ix (.var 1) (.var 7)) (.cons (.var 7) .nil))))),(.dput (.var 3) (.var 8) (.ix (.var 1) (.var 7))),(.expr (.mt .append (.var 4) (.cons (.var 8) .nil)))] [])] _ _ (S.set lc (.dct (Aj (camS cm) fr (.int t))));rw[e1];generalize S.set lc (.dct (camS (Ag cm fr (some t))))=S1 at *;cases hv:P.getD fr none with
  | none=>
    rw[hv]at hPf q;simp only at q;refine⟨_,rfl,_,rfl,_,_,c5 M1.hp,i7 (l7 hPf),.inl ⟨rfl,_,rfl,ifF rfl ?_⟩⟩;exact q _ _ S1 hl1 M1
  | some u=>
    rw[hv]at hPf q cl1;simp only at q cl1;obtain⟨f,hfu,hfe,_⟩:=K.two fr u hPf;rw[AM hfu]at q cl1
    have cl2:(Ag cm fr (some t)).length<=100:=by
     have:=OI (Ag cm fr (some t)) (farE f fr) (some u);omega
    refine⟨_,rfl,_,rfl,_,_,c5 M1.hp,i7 (l7 hPf),.inl ⟨rfl,_,rfl,ifT rfl ?_⟩⟩;refine⟨_,rfl,_,rfl,_,rfl,_,_,c5 M1.hp,i7 (l7 hPf),_,rfl,hf hfu hfe ?_⟩;refine⟨_,rfl,_,rfl,_,_,c5 M1.hp,i7 (l7 hPf),_,rfl,_,rfl,_,_,_,rfl,rfl,.inl M1.hc,cb _ cl2,?_⟩;show wSs Δ [(.expr (.mt .append (.var 4) (.cons (.var 8) .nil)))] _ _ (S1.set lc (.dct (Aj (camS (Ag cm fr (some t))) (farE f fr) (AU (some u)))));rw[Fe];have M2:=M1.setc (cm':=Ag (Ag cm fr (some t)) (farE f fr) (some u));have hl2:(S1.set lc (.dct (camS (Ag (Ag cm fr (some t)) (farE f fr) (some u)))))[l]?=some o:=by rw[i9 (Ne.symm lc')];exact hl1
    generalize S1.set lc (.dct (camS (Ag (Ag cm fr (some t)) (farE f fr) (some u))))=S2 at *
    have wn:(natS wt).length<big:=by
     rw[c9];show _<100000;omega
    refine⟨_,rfl,⟨_,_,rfl,M2.hw⟩,_,rfl,_,M2.hw,wn,?_⟩;have M3:=M2.setw (wt':=wt++[farE f fr]);rw[u6]at M3;exact q _ _ _ (by rw[i9 (Ne.symm lw')];exact hl2) M3
end
section
variable{Δ:Nat->Sn}{kt kf:Nat}
theorem HL{wt:List Nat}{p:Nat}:(wt++[p]).getLast?=some p:=List.getLast?_concat
theorem LR{es:EE}{P:List (Option Nat)}{f p:Nat}{cm:Cm}{wt:List Nat}:EA es P (f+1) (cm,wt++[p])=EA es P f ((h9 es p es.length).foldl (FY es P p) (cm,wt)):=by
 rw[EA,show((cm,wt++[p]):Cm×List Nat).2.getLast?=some p from HL];show EA es P f (Ih es P (cm,wt++[p]) p)=_;unfold Ih;rw[show((cm,wt++[p]):Cm×List Nat).2.dropLast=wt from YQ]
noncomputable def Im(s:Sn):Prop:=∀{n lp ls:Nat} {es:EE} {sd:Nat->Nat} {starts:List Nat} {P:List (Option Nat)} {S:Sto} {Q:QE},Sdd n es sd->Cons n es P->Open starts sd n P->n<=99->es.length<=1000->S[lp]?=some (.lst (optsS P))->S[ls]?=some (.lst (natS starts))->
 (∀(l:Nat) (S':Sto),Gw S S'->S.length<=l->S'[l]?=some (.dct (camS (C3 n es P starts)))->Q (.loc l) S')->s [j3 n es,.loc lp,.loc ls] S Q
theorem OJ(hΔ:∀ f,MonoN (Δ f))(ht:B8 (Δ kt))(hf:AB (Δ kf)){n lp ls lc lw:Nat}{es:EE}{sd:Nat->Nat}{starts:List Nat}{P:List (Option Nat)}{S0 S:Sto}{Q:QE}(H:Sdd n es sd)(K:Cons n es P)(O:Open starts sd n P)(hn:n<=99)(hel:es.length<=1000)(M:Wm lp lc lw S0 S P (starts.map fun p=>(p,none),starts))
 (q:∀(S':Sto),Gw S0 S'->S'[lc]?=some (.dct (camS (C3 n es P starts)))->Q (.loc lc) S'):wSs Δ [va3 kt kf,(.ret (.var 3))] (BL Q) [some (j3 n es),some (.loc lp),some (.loc ls),some (.loc lc),some (.loc lw),none,none,none,none] S:=by
 refine⟨fun m ρ S'=>∃(st:Cm×List Nat) (o5 o6 o7 o8:Option SV),ρ=[some (j3 n es),some (.loc lp),some (.loc ls),some (.loc lc),some (.loc lw),o5,o6,o7,o8]/\Wm lp lc lw S0 S' P st/\WOut n es sd P starts m st/\EA es P (m+1) st=C3 n es P starts/\m<=100,⟨n,_,none,none,none,none,rfl,M,WOut.start O,rfl,by omega⟩,?_⟩;rintro m ρ S1 ⟨⟨cm,wt⟩,o5,o6,o7,o8,rfl,M1,W,ew,hm⟩;refine⟨_,rfl,_,FW M1.hw,?_⟩;rcases D3 wt with rfl | ⟨wt',p,rfl⟩
 ·refine ifF rfl ⟨_,rfl,?_⟩;have:EA es P (m+1) (cm,[])=cm:=rfl;rw[this]at ew;rw[<-ew]at q;exact q S1 M1.g M1.hc
 refine ifT (by rw[u6];simp[natS]) (DG fun Ew hw _=>?_);have hwl:=W.ms;have hwl:(n - cm.length)+(wt'++[p]).length<=m:=hwl;rw[W3,We]at hwl;obtain⟨m',rfl⟩:∃ m',m=m'+1:=⟨m - 1,by omega⟩
 have WI:=W.go H K (p:=p) HL;have hpk:=WI.pk;have hpn:=WI.C.lt p hpk.1;rw[show((cm,wt'++[p]):Cm×List Nat).2.dropLast=wt' from YQ]at WI;refine⟨_,rfl,⟨_,_,rfl,M1.hw⟩,_,_,M1.hw,Ei,?_⟩;rw[HC];have M2:=M1.setw (wt':=wt');refine⟨_,rfl,_,rfl,ht (by omega) hpn ⟨_,c5 c6,?_⟩⟩;have M3:=M2.push (o:=SO.lst (natS (h9 es p es.length)));have hnew:=c6 (S:=S1.set lw (.lst (natS wt'))) (o:=SO.lst (natS (h9 es p es.length)));have l2:=m7 M2.hc;have l3:=m7 M2.hw;generalize (S1.set lw (.lst (natS wt'))).length=l at *;generalize (S1.set lw (.lst (natS wt')))++[SO.lst (natS (h9 es p es.length))]=S3 at *
 refine BM (i8 hΔ _) (fun i ρ S2=>∃ o6 o7 o8,ρ=[some (j3 n es),some (.loc lp),some (.loc ls),some (.loc lc),some (.loc lw),some (.int p),o6,o7,o8]/\S2[l]?=some (.lst (natS (h9 es p es.length)))/\Wm lp lc lw S0 S2 P (((h9 es p es.length).take i).foldl (FY es P p) (cm,wt'))/\WInv n es sd P starts p m' ((h9 es p es.length).drop i) (((h9 es p es.length).take i).foldl (FY es P p) (cm,wt')))
  ⟨o6,o7,o8,rfl,hnew,M3,WI⟩ ?_ ?_ ?_
 ·rintro i ρ S2 ⟨_,_,_,_,h,_⟩;show S2[l]?=_;rw[h,hnew]
 ·rintro i x ρ S2 E hn _ hx ⟨o6,o7,o8,rfl,hl,M4,W4⟩;have hi:i<(h9 es p es.length).length:=by have:=(gM hx).1;rwa [c9]at this
  have hti:=W0 hi;have hx2:=BA hti;rw[hx2]at hx;have hx:=oj hx;subst hx;obtain⟨h1,h2⟩:=HG (p:=p) _ (X0 hi);rw[X8 hi]at W4;refine LQ hf H K (by omega) (by omega) hl (by omega) (by omega) h1 h2 W4 M4 fun o7 o8 S' hl' M'=>hn _ _ ⟨_,_,_,rfl,hl',?_,?_⟩
  ·rw[Ws,hti,ZL];exact M'
  ·rw[Ws,hti,ZL];exact Fa H K h1 h2 W4
 ·rintro ρ S2 ⟨o6,o7,o8,rfl,hl,M4,W4⟩;rw[c9,Wu]at M4 W4;rw[XY]at W4;refine hw _ _ ⟨m',by omega,_,_,_,_,_,rfl,M4,W4.out,?_,by omega⟩;rw[<-ew,LR]
theorem Qf(hΔ:∀ f,MonoN (Δ f))(ht:B8 (Δ kt))(hf:AB (Δ kf)){D:Df}(hb:D.body=Rg kt kf)(hN:D.N.length=9)(hp:D.ps.length=3):Im (i6 Δ D):=by
 intro n lp ls es sd starts P S Q H K O hn hel hlp hls q;unfold i6;rw[hb,hN];have C:Came n es sd P starts (starts.map fun p=>(p,none)):=Came.start O;have cl:=C.len;rw[W2]at cl;refine⟨hp.symm,_,rfl,_,c5 hls,?_⟩;refine Ij (j5 hΔ _).2 (a7 hΔ _).1 (a7 hΔ _).1 (fun i ys S'=>S'=S/\ys=camS ((starts.take i).map fun p=>(p,none))) ⟨rfl,rfl⟩ (fun _ _ _ h=>by rw[h.1];exact rfl) ?_ ?_
 ·rintro i x ys S' hx ⟨rfl,rfl⟩;obtain⟨p,hpi,rfl⟩:=y0 hx;have hil:=(gM hpi).1;refine⟨_,rfl,_,rfl,by rw[Jx,W2,WY];show _<100000;omega,rfl,?_⟩;show Aj (camS ((starts.take i).map fun p=>(p,none))) p (AU none)=_;rw[Fe,CY,Ws,hpi,Wn]
  ·rfl
  ·unfold keys;rw[Xc];intro z;obtain⟨r,hr,e⟩:=WZ.mp z;have e:r=p:=e;subst e;obtain⟨j,hj⟩:=WW hr
   have hji:j<i:=by
    have:=(gM hj).1;rw[WY]at this;omega
   rw[XR hji]at hj;have:=(Wt.mp O.nd) j i (gM hj).1 hil hji;rw[(gM hj).2,(gM hpi).2]at this;exact this rfl
 ·rintro ys S' ⟨rfl,rfl⟩;rw[c9,Wu];have h1:=f7 (o:=SO.dct (camS (starts.map fun p=>(p,none)))) hls;refine⟨_,rfl,_,c5 h1,?_⟩;have l0:=m7 hlp;refine OJ hΔ ht hf (S0:=S') H K O hn hel ⟨f7 (f7 hlp),f7 c6,c6,(Gw.refl S').push.push,l0,WB _,by rw[W3];omega,by rw[W3];simp⟩ fun S2 G2 h2=>q _ S2 G2 (WB _) h2
end
open PySem L2
section
variable{n:Nat}{es:EE}{sd:Nat->Nat}{P0:List (Option Nat)}{starts:List Nat}{cm:Cm}
theorem Ff(C:Came n es sd P0 starts cm):∀(a b:Nat) (x y:Nat×Option Nat),cm[a]?=some x->cm[b]?=some y->a<b->x.1≠y.1:=fun a b x y ha hb hab=>by
 have al:=(gM ha).1;have bl:=(gM hb).1;have:=(Wt.mp C.nd) a b (by rw[BC];exact al) (by rw[BC];exact bl) hab;unfold keys at this;rw[YM,YM,(gM ha).2,(gM hb).2]at this;exact this
theorem Ca{m r:Nat}(h:r∈keys (cm.take m)):∃(j:Nat) (v:Option Nat),j<m/\cm[j]?=some (r,v):=by
 obtain⟨c,hc,ec⟩:=WZ.mp h;obtain⟨c1,v⟩:=c;have ec:c1=r:=ec;subst ec;obtain⟨j,hj⟩:=WW hc
 have hji:j<m:=by
  have:=(gM hj).1;rw[WY]at this;omega
 rw[XR hji]at hj;exact⟨j,v,hji,hj⟩
theorem Qg(H:Sdd n es sd)(C:Came n es sd P0 starts cm)(O:Open starts sd n P0){P:List (Option Nat)}{q i:Nat}(T:Tn n es sd cm P q i):∃(t:Nat) (e:Nat×Nat) (v:Option Nat),lk cm q=some (some t)/\es[t]?=some e/\(q=e.1\/q=e.2)/\lk cm (farE e q)=some v/\
 (v=none\/∃(u:Nat) (g:Nat×Nat) (i':Nat),v=some u/\es[u]?=some g/\(farE e q=g.1\/farE e q=g.2)/\i'<i/\Tn n es sd cm ((P.set q (some t)).set (farE e q) (some t)) (farE g (farE e q)) i'):=by
 obtain⟨t,hi⟩:=T.at';obtain⟨e,he,hqe,hin⟩:=C.up i q t hi;obtain⟨f1,f2,f3,f4,f5⟩:=H.far he hqe;have hq0:sd (farE e q)=0:=by have:=T.q1;omega
 have hqn:q<P.length:=by rw[T.len];exact f5
 have hrn:farE e q<P.length:=by rw[T.len];exact f1
 have hne:q≠farE e q:=fun z=>by rw[<-z]at hq0;have:=T.q1;omega
 have s2:=fun p=>VY (v:=some t) (w:=some t) hqn hrn p;obtain⟨j,v,hji,hj⟩:=Ca hin;have hPn:=T.t2 j _ v hji hj hq0;refine⟨t,e,v,OF C.nd (W5 hi),he,hqe,OF C.nd (W5 hj),?_⟩;cases v with
 | none=>exact .inl rfl
 | some u=>
   right;obtain⟨g,hg,hge,hgin⟩:=C.up j _ u hj;obtain⟨g1,g2,g3,g4,g5⟩:=H.far hg hge;have hq1:sd (farE g (farE e q))=1:=by omega
   obtain⟨i',v',hij,hi'⟩:=Ca hgin
   obtain⟨t',rfl⟩:∃ t',v'=some t':=by
    cases v' with
    | some t'=>exact⟨t',rfl⟩
    | none=>have:=(O.ok _ (C.st _ (W5 hi'))).2.1;omega
   obtain⟨g',hg',_,hfq,hPq'⟩:=T.t1 (farE e q) (Ne.symm hne) u hPn;rw[hg]at hg';cases hg';have hqr:farE g (farE e q)≠farE e q:=fun z=>by rw[z]at hq1;omega
   refine⟨u,g,i',rfl,hg,hge,by omega,by rw[WU,WU,T.len],⟨t',hi'⟩,hq1,fun p hp s h=>?_,fun j' p v hj' hv h0=>?_⟩
   ·rw[s2]at h;by_cases h1:p=farE e q
    ·rw[if_pos h1]at h;cases h;subst h1;exact⟨e,he,f4,by rw[f3];exact Ne.symm hfq,by rw[f3,s2,if_neg hne,if_pos rfl]⟩
    ·rw[if_neg h1]at h;by_cases h2:p=q
     ·rw[if_pos h2]at h;cases h;subst h2;exact⟨e,he,hqe,Ne.symm hqr,by rw[s2,if_pos rfl]⟩
     ·rw[if_neg h2]at h;obtain⟨e',he',hp',hfq',hPf⟩:=T.t1 p h2 s h;obtain⟨k1,k2,k3,k4,k5⟩:=H.far he' hp';refine⟨e',he',hp',fun z=>?_,?_⟩
      ·rw[z,hPq']at hPf;cases hPf;rw[hg]at he';cases he';rw[z,g3]at k3;exact h1 k3.symm
      ·rw[s2,if_neg (fun z=>?_),if_neg hfq']
       ·exact hPf
       ·rw[z,hPn]at hPf;cases hPf;rw[hg]at he';cases he';rw[z]at k3;exact hp k3.symm
   ·have e1:p≠farE e q:=Ff C j' j _ _ hv hj (by omega);rw[s2,if_neg e1,if_neg (fun z=>by rw[z]at h0;have:=T.q1;omega)];exact T.t2 j' p v (by omega) hv h0
theorem Ej(H:Sdd n es sd)(C:Came n es sd P0 starts cm)(O:Open starts sd n P0)(K:Cons n es P0){p t:Nat}(hp:lk cm p=some (some t))(hP:P0[p]?=some (some t))(h0:sd p=0):∃(e:Nat×Nat) (i:Nat),es[t]?=some e/\(p=e.1\/p=e.2)/\i<cm.length/\Tn n es sd cm (P0.set p none) (farE e p) i:=by
 have hm:=Dt hp;obtain⟨j,hj⟩:=WW hm;obtain⟨e,he,hpe,hin⟩:=C.up j p t hj;obtain⟨f1,f2,f3,f4,f5⟩:=H.far he hpe;obtain⟨i,v,hij,hi⟩:=Ca hin;have hpl:p<P0.length:=by rw[K.len];exact f5
 obtain⟨e2,he2,_,hPq⟩:=K.two p t hP;rw[he]at he2;cases he2;have q1:sd (farE e p)=1:=by omega
 obtain⟨t',rfl⟩:∃ t',v=some t':=by
  cases v with
  | some t'=>exact⟨t',rfl⟩
  | none=>have:=(O.ok _ (C.st _ (W5 hi))).2.1;omega
 have s1:∀ r,r≠p->(P0.set p none)[r]?=P0[r]?:=fun r hr=>Wp (Ne.symm hr);have sp:(P0.set p none)[p]?=some none:=Wg hpl;refine⟨e,i,he,hpe,(gM hi).1,by rw[WU,K.len],⟨t',hi⟩,q1,fun r hr s h=>?_,fun j' r v hj' hv hr0=>?_⟩
 ·have hrp:r≠p:=fun z=>by rw[z,sp]at h;cases h
  rw[s1 r hrp]at h;obtain⟨e',he',hre,hf⟩:=K.two r s h;obtain⟨k1,k2,k3,k4,k5⟩:=H.far he' hre;refine⟨e',he',hre,fun z=>?_,?_⟩
  ·rw[z,hPq]at hf;cases hf;rw[he]at he';cases he';rw[z,f3]at k3;exact hrp k3.symm
  ·rw[s1]
   ·exact hf
   ·intro z;rw[z,hP]at hf;cases hf;rw[he]at he';cases he';rw[z]at k3;exact hr k3.symm
 ·have:=Ff C j' j _ _ hv hj (by omega);rw[s1 r this];exact C.s0 r v (W5 hv) hr0
end
structure Kp(l:Nat)(S S':Sto):Prop where
 len:S.length<=S'.length
 keep:∀(k:Nat) (o:SO),k≠l->S[k]?=some o->S'[k]?=some o
theorem Kp.refl(l:Nat)(S:Sto):Kp l S S:=⟨WB _,fun _ _ _ h=>h⟩
theorem Kp.put{l:Nat}{S S':Sto}{o:SO}(h:Kp l S S'):Kp l S (S'.set l o):=⟨by rw[WU];exact h.len,fun k u n e=>by rw[i9 (Ne.symm n)];exact h.keep k u n e⟩
theorem Kp.trans{l:Nat}{S S' S'':Sto}(a:Kp l S S')(b:Kp l S' S''):Kp l S S'':=⟨Wj a.len b.len,fun k o n h=>b.keep k o n (a.keep k o n h)⟩
theorem Gw.kp{l:Nat}{S S':Sto}(a:Gw S S'):Kp l S S':=⟨a.len,fun k o _ h=>a.keep k o h⟩
theorem HM{l lc:Nat}{S S':Sto}{kvs:List (Int×SV)}(h:CQ (.loc lc) S=some kvs)(k:Kp l S S')(ne:lc≠l):CQ (.loc lc) S'=some kvs:=by
 cases ho:S[lc]? with
 | none=>simp only[CQ,ho]at h;cases h
 | some o=>
   have h':=k.keep lc o ne ho;simp only[CQ,ho]at h;simp only[CQ,h'];exact h
section
variable{Δ:Nat->Sn}{kt kf:Nat}
noncomputable def Rh(kf:Nat):List Stm:=[(.whl (.cmp .IsNot (.var 3) (.c .non)) [(.asg (.nm 4) (.dget (.var 2) (.var 3))),(.asg (.nm 5) (.call kf (.cons (.var 0) (.cons (.var 4) (.cons (.var 3) .nil))))),(.put (.var 1) (.var 3) (.var 4)),(.put (.var 1) (.var 5) (.var 4)),(.asg (.nm 3) (.ife (.cmp .Is (.dget (.var 2) (.var 5)) (.c .non)) (.c .non) (.call kf (.cons (.var 0) (.cons (.dget (.var 2) (.var 5)) (.cons (.var 5) .nil))))))])]
noncomputable def Io(s:Sn):Prop:=∀{n lp lc q i:Nat} {es:EE} {sd:Nat->Nat} {starts:List Nat} {P0 P:List (Option Nat)} {cm:Cm} {S:Sto} {Q:QE},Sdd n es sd->Came n es sd P0 starts cm->Open starts sd n P0->Tn n es sd cm P q i->S[lp]?=some (.lst (optsS P))->CQ (.loc lc) S=some (camS cm)->lc≠lp->
 (∀(S':Sto),Kp lp S S'->S'[lp]?=some (.lst (optsS (turn es cm (cm.length+1) P q)))->Q .non S')->s [j3 n es,.loc lp,.loc lc,.int q] S Q
theorem Cw{xs:List (Option Nat)}{j:Nat}{v:Option Nat}:(optsS xs).set j (AU v)=optsS (xs.set j v):=by unfold optsS;rw[Zf]
theorem Qh(hf:AB (Δ kf)){D:Df}(hb:D.body=Rh kf)(hN:D.N.length=6)(hp:D.ps.length=4):Io (i6 Δ D):=by
 intro n lp lc q i es sd starts P0 P cm S Q H C O T hlp hlc ne k;unfold i6;rw[hb,hN];refine⟨hp.symm,?_⟩;have hil:i<cm.length:=by obtain⟨t,h⟩:=T.at';exact(gM h).1
 refine⟨fun m ρ S'=>Kp lp S S'/\∃ o4 o5,(∃(P':List (Option Nat)) (q' i' f:Nat),ρ=[some (j3 n es),some (.loc lp),some (.loc lc),some (.int q'),o4,o5]/\S'[lp]?=some (.lst (optsS P'))/\Tn n es sd cm P' q' i'/\i'<f/\turn es cm f P' q'=turn es cm (cm.length+1) P q/\m=i'+1)\/(ρ=[some (j3 n es),some (.loc lp),some (.loc lc),some .non,o4,o5]/\S'[lp]?=some (.lst (optsS (turn es cm (cm.length+1) P q)))),⟨i+1,Kp.refl lp S,none,none,.inl ⟨P,q,i,cm.length+1,rfl,hlp,T,by omega,rfl,rfl⟩⟩,?_⟩;rintro m ρ S1 ⟨K1,o4,o5,⟨P',q',i',f,rfl,h1,T1,hf1,e1,rfl⟩ | ⟨rfl,h1⟩⟩
 ·refine⟨_,rfl,.inl ⟨rfl,_,rfl,ifT rfl (DG fun Ew hw _=>?_)⟩⟩;obtain⟨t,e,v,l1,he,hqe,l2,z⟩:=Qg H C O T1;obtain⟨f1,f2,f3,f4,f5⟩:=H.far he hqe;have hc1:=HM hlc K1 ne;refine⟨_,rfl,_,rfl,_,_,_,hc1,rfl,by rw[By,l1];rfl,?_⟩;refine⟨_,rfl,_,rfl,_,rfl,hf he hqe ?_⟩;refine⟨_,rfl,_,rfl,_,rfl,_,_,h1,Ct (by rw[AF,T1.len];exact f5),?_⟩;have k2:Kp lp S (S1.set lp (.lst ((optsS P').set q' (AU (some t))))):=K1.put
  have h2:(S1.set lp (.lst ((optsS P').set q' (AU (some t)))))[lp]?=some (.lst (optsS (P'.set q' (some t)))):=by
   rw[j6 h1,Cw]
  generalize S1.set lp (.lst ((optsS P').set q' (AU (some t))))=S2 at *;refine⟨_,rfl,_,rfl,_,rfl,_,_,h2,Ct (by rw[AF,WU,T1.len];exact f1),?_⟩;have k3:Kp lp S (S2.set lp (.lst ((optsS (P'.set q' (some t))).set (farE e q') (AU (some t))))):=k2.put
  have h3:(S2.set lp (.lst ((optsS (P'.set q' (some t))).set (farE e q') (AU (some t)))))[lp]?=some (.lst (optsS ((P'.set q' (some t)).set (farE e q') (some t)))):=by
   rw[j6 h2,Cw]
  generalize S2.set lp (.lst ((optsS (P'.set q' (some t))).set (farE e q') (AU (some t))))=S3 at *;have hc3:=HM hlc k3 ne;obtain⟨f',rfl⟩:∃ f',f=f'+1:=⟨f - 1,by omega⟩
  have et:turn es cm (f'+1) P' q'=match (lk cm (farE e q')).join with | none=>(P'.set q' (some t)).set (farE e q') (some t) | some u=>turn es cm f' ((P'.set q' (some t)).set (farE e q') (some t)) (farE (f9 es u) (farE e q')):=by
   rw[turn,l1];simp only[Option.join_some];rw[AM he]<;>rfl
  rw[et,l2]at e1;refine⟨_,rfl,_,rfl,_,_,_,hc3,rfl,by rw[By,l2];rfl,.inl ⟨rfl,_,rfl,?_⟩⟩;rcases z with rfl | ⟨u,g,i2,rfl,hg,hge,hi2,T2⟩
  ·refine ifT rfl ?_;refine hw _ _ ⟨0,by omega,k3,_,_,.inr ⟨rfl,?_⟩⟩;rw[<-e1];exact h3
  ·refine ifF rfl ?_;refine⟨_,rfl,_,rfl,_,rfl,_,_,_,hc3,rfl,by rw[By,l2];rfl,_,rfl,hf hg hge ?_⟩;refine hw _ _ ⟨i2+1,by omega,k3,_,_,.inl ⟨_,_,i2,f',rfl,h3,T2,by omega,?_,rfl⟩⟩;rw[<-e1];show _=turn es cm f' _ (farE (f9 es u) (farE e q'));rw[AM hg]
 ·refine⟨_,rfl,.inl ⟨rfl,_,rfl,ifF rfl ?_⟩⟩;exact k S1 K1 h1
end
open PySem L2
theorem HN{n:Nat}{es:EE}{sd:Nat->Nat}{P:List (Option Nat)}{starts:List Nat}{cm:Cm}(H:Sdd n es sd)(C:Came n es sd P starts cm)(K:Cons n es P){p t:Nat}(hl:lk cm p=some (some t))(hP:P[p]?=some (some t)):sd p=0:=by
 have h2:=H.two p;refine Classical.byContradiction fun z=>?_;obtain⟨i,hi⟩:=WW (Dt hl);obtain⟨e,he,hpe,hin⟩:=C.up i p t hi;obtain⟨f1,f2,f3,f4,f5⟩:=H.far he hpe;obtain⟨j,v,hji,hj⟩:=Ca hin;obtain⟨e',he',_,hPf⟩:=K.two p t hP;rw[he]at he';cases he';have hv:=C.s0 _ v (W5 hj) (by omega);rw[hPf]at hv;have hv:v=some t:=(oj hv).symm;subst hv;obtain⟨e2,he2,_,hin2⟩:=C.up j _ t hj;rw[he]at he2;cases he2;rw[f3]at hin2;obtain⟨k,w,hkj,hk⟩:=Ca hin2;exact Ff C k i _ _ hk hi (by omega) rfl
section
variable{Δ:Nat->Sn}
noncomputable def OK(kt:Nat):List Stm:=[(.ret (.bi .len (.cons (.call kt (.cons (.var 0) (.cons (.var 1) .nil))) .nil)))]
noncomputable def DJ(s:Sn):Prop:=∀{n p:Nat} {es:EE} {S:Sto} {Q:QE},es.length<=5000->p<n->(∀ S',Gw S S'->Q (.int (cntAt es p)) S')->s [j3 n es,.int p] S Q
theorem OL{kt:Nat}(ht:B8 (Δ kt)){D:Df}(hb:D.body=OK kt)(hN:D.N.length=2)(hp:D.ps.length=2):DJ (i6 Δ D):=by
 intro n p es S Q hel hpn q;unfold i6;rw[hb,hN];refine⟨hp.symm,_,rfl,_,rfl,ht hel hpn ⟨_,c5 c6,?_⟩⟩;have:=q _ ((Gw.refl S).push (o:=SO.lst (natS (h9 es p es.length))));rw[c9];exact this
noncomputable def gb1(kw:Nat):Stm:=(.asg (.nm 4) (.call kw (.cons (.var 0) (.cons (.var 1) (.cons (.lst (.cons (.var 2) .nil)) .nil)))))
noncomputable def gbA(ku:Nat):Stm:=(.iff (.cmp .Is (.ix (.var 1) (.var 5)) (.c .non)) [(.expr (.call ku (.cons (.var 0) (.cons (.var 1) (.cons (.var 4) (.cons (.var 5) .nil)))))),.retN] [])
noncomputable def gbB(kc kf ku:Nat):Stm:=(.iff (.and (.cmp .Eq (.ix (.var 1) (.var 5)) (.dget (.var 4) (.var 5))) (.cmp .Lt (.call kc (.cons (.var 0) (.cons (.var 5) .nil))) (.var 3))) [(.put (.var 1) (.var 5) (.c .non)),(.expr (.call ku (.cons (.var 0) (.cons (.var 1) (.cons (.var 4) (.cons (.call kf (.cons (.var 0) (.cons (.dget (.var 4) (.var 5)) (.cons (.var 5) .nil)))) .nil)))))),.retN] [])
noncomputable def gb2(kc kf ku:Nat):Stm:=(.loop (.nm 5) (.seq (.comp ["other"] ["start"] [2] (.nm 0) (.dk (.var 4)) (.yes (.cmp .NotEq (.var 0) (.var 1))) (.var 0))) [gbA ku,gbB kc kf ku])
noncomputable def OM(kw kc kf ku:Nat):List Stm:=[gb1 kw,gb2 kc kf ku]
noncomputable def Fg(s:Sn):Prop:=∀{n lp st nd:Nat} {es:EE} {sd:Nat->Nat} {P:List (Option Nat)} {S:Sto} {Q:QE},Sdd n es sd->Cons n es P->Open [st] sd n P->n<=99->es.length<=1000->S[lp]?=some (.lst (optsS P))->(∀(S':Sto),Kp lp S S'->S'[lp]?=some (.lst (optsS (CZ n es P st nd)))->Q .non S')->s [j3 n es,.loc lp,.int st,.int nd] S Q
theorem ON(hΔ:∀ f,MonoN (Δ f)){kw kc kf ku:Nat}(hw:Im (Δ kw))(hcn:DJ (Δ kc))(hf:AB (Δ kf))(hu:Io (Δ ku)){D:Df}(hb:D.body=OM kw kc kf ku)(hN:D.N.length=6)(hp:D.ps.length=4):Fg (i6 Δ D):=by
 intro n lp st nd es sd P S Q H K O hn hel hlp q;unfold i6;rw[hb,hN];refine⟨hp.symm,_,rfl,_,rfl,_,rfl,by show 1<=big;decide,?_⟩;refine hw (starts:=[st]) H K O hn hel (f7 hlp) c6 fun lc S1 G1 hl1 h1=>?_;have W:=HH H K O;have hlp0:=m7 hlp;have ek:CZ n es P st nd=Bo es (C3 n es P [st]) P nd ((keys (C3 n es P [st])).filter fun q=>!decide (q=st)):=rfl;rw[ek]at q;generalize C3 n es P [st]=cm at *;rw[W3,We]at hl1;have K1:Kp lp S S1:=((Gw.refl S).push.trans G1).kp;have hp1:=G1.keep _ _ (f7 (o:=SO.lst [SV.int st]) hlp);have cl:=W.C.len;refine⟨_,rfl,_,_,rfl,h1,fun o ks=>?_⟩;have nlc:lc≠lp:=by omega
 have h2:(S1.set lc (.dcf o ks (camS cm)))[lc]?=some (.dcf o ks (camS cm)):=j6 h1;have hp2:(S1.set lc (.dcf o ks (camS cm)))[lp]?=some (.lst (optsS P)):=by rw[i9 nlc];exact hp1
 have K2:Kp lp S (S1.set lc (.dcf o ks (camS cm))):=⟨by rw[WU];exact K1.len,fun k u hk e=>by
  rw[i9 (fun z=>by have:=m7 e;omega)];exact K1.keep k u hk e⟩
 generalize S1.set lc (.dcf o ks (camS cm))=S2 at *;rw[OH];refine j7 (j5 hΔ _).2 (a7 hΔ _).1 (fun i ys S3=>S3=S2/\ys=natS (((keys cm).take i).filter fun q=>!decide (q=st))) ⟨rfl,rfl⟩ (fun _ _ _ h=>by rw[h.1];exact h2) ?_ ?_
 ·rintro i x ys S3 hx ⟨rfl,rfl⟩;obtain⟨p,hpi,rfl⟩:=y0 hx;have hil:=(gM hpi).1;rw[BC]at hil;have hs:=HJ (P:=fun q=>!decide (q=st)) hpi
  have hlen:(((keys cm).take i).filter fun q=>!decide (q=st)).length<=i:=by
   have:=Xv (fun q=>!decide (q=st)) ((keys cm).take i);rw[WY]at this;omega
  refine⟨_,rfl,_,rfl,_,rfl,?_⟩;show if (!((p:Int) == (st:Int)))=true then _ else _
  by_cases h:p=st
  ·rw[if_neg (by simp[h]),XF]at hs;exact ifF (by simp[h]) ⟨rfl,by rw[hs]⟩
  ·rw[if_pos (by simpa using h)]at hs;refine ifT ?_ ⟨_,rfl,by rw[c9];show _<100000;omega,rfl,by rw[hs,u6];rfl⟩;have:((p:Int) == (st:Int))=false:=by rw[beq_eq_false_iff_ne];exact fun z=>h (XN.mp z)
   rw[this];rfl
 ·rintro ys S3 ⟨rfl,rfl⟩;rw[c9,Wu]
  have hks:∀ q∈(keys cm).filter fun q=>!decide (q=st),q∈keys cm/\q≠st:=fun q hq=>by
   have:=X4.mp hq;exact⟨this.1,by simpa using this.2⟩
  generalize (keys cm).filter (fun q=>!decide (q=st))=kl at *;refine⟨_,c5 c6,?_⟩;have hl3:(S3++[SO.lst (natS kl)])[S3.length]?=some (.lst (natS kl)):=c6;have h3:(S3++[SO.lst (natS kl)])[lc]?=some (.dcf o ks (camS cm)):=f7 h2;have hp3:(S3++[SO.lst (natS kl)])[lp]?=some (.lst (optsS P)):=f7 hp2;have K3:Kp lp S (S3++[SO.lst (natS kl)]):=K2.trans ((Gw.refl S3).push).kp;generalize S3++[SO.lst (natS kl)]=S4 at *;refine w5 (i8 hΔ _) (fun i ρ S5=>∃ o5,ρ=[some (j3 n es),some (.loc lp),some (.int st),some (.int nd),some (.loc lc),o5]/\Gw S4 S5/\Bo es cm P nd (kl.drop i)=Bo es cm P nd kl) ⟨none,rfl,Gw.refl S4,rfl⟩ (fun _ _ S5 ⟨_,_,G,_⟩=>(G.keep _ _ hl3).trans hl3.symm) ?_ ?_
  ·rintro i x ρ S5 hx ⟨o5,rfl,G5,e5⟩;obtain⟨p,hpi,rfl⟩:=y0 hx;have hil:=(gM hpi).1;obtain⟨hpk,hps⟩:=hks p (W5 hpi);have hpn:=W.C.lt p hpk;have hPp:=Cv (show p<P.length by rw[K.len];exact hpn);rw[X8 hil,(gM hpi).2,Bo]at e5;have h5:=G5.keep _ _ h3;have hp5:=G5.keep _ _ hp3;cases hv:P.getD p none with
   | none=>
     rw[hv]at hPp;rw[if_pos hv]at e5;obtain⟨i0,_,T⟩:=HI H W.C O K hpk (by simpa using hps) hPp;refine⟨_,rfl,_,rfl,_,_,c5 hp5,i7 (l7 hPp),.inl ⟨rfl,_,rfl,ifT rfl ?_⟩⟩;refine⟨_,rfl,_,rfl,_,rfl,_,rfl,hu H W.C O T hp5 (DI h5) nlc fun S6 K6 h6=>?_⟩;refine q S6 ((K3.trans G5.kp).trans K6) ?_;rw[<-e5];exact h6
   | some u=>
     rw[hv]at hPp;rw[if_neg (by rw[hv];exact nofun),hv]at e5;refine⟨_,rfl,_,rfl,_,_,c5 hp5,i7 (l7 hPp),.inl ⟨rfl,_,rfl,ifF rfl (l9 ?_)⟩⟩;obtain⟨v,hlv⟩:=X9.mp (lk_some.mpr hpk)
     obtain⟨t,rfl⟩:∃ t,v=some t:=by
      cases v with
      | some t=>exact⟨t,rfl⟩
      | none=>exact absurd (W6.mp (W.C.st p (Dt hlv))) hps
     rw[hlv]at e5;refine⟨_,rfl,_,rfl,_,SV.int u,c5 hp5,i7 (v:=SV.int u) (l7 hPp),_,rfl,_,rfl,_,_,SV.int t,DI h5,rfl,by rw[By,hlv];rfl,_,rfl,?_⟩;show if decide ((u:Int)=(t:Int))=true then _ else _
     refine ifD (fun he=>?_) (fun he=>ifF rfl (l9 ⟨_,rfl,G5,?_⟩))
     ·have he:u=t:=XN.mp he;subst he;refine⟨_,rfl,_,rfl,hcn (by omega) hpn fun S6 G6=>⟨_,rfl,_,rfl,?_⟩⟩;refine ifD (fun hc=>?_) (fun hc=>l9 ⟨_,rfl,G5.trans G6,?_⟩)
      ·have hc:cntAt es p<nd:=by have:((cntAt es p:Nat):Int)<(nd:Int):=hc;omega
       rw[if_pos ⟨rfl,hc⟩]at e5;have h0:sd p=0:=HN H W.C K hlv hPp;obtain⟨e,i0,he,hpe,_,T⟩:=Ej H W.C O K hlv hPp h0;have h6:=G6.keep _ _ h5;have hp6:=G6.keep _ _ hp5;refine⟨_,rfl,_,rfl,_,_,hp6,Ct (by rw[AF,K.len];exact hpn),?_⟩;have k7:Kp lp S (S6.set lp (.lst ((optsS P).set p (AU none)))):=((K3.trans G5.kp).trans G6.kp).put;have h7:(S6.set lp (.lst ((optsS P).set p (AU none))))[lp]?=some (.lst (optsS (P.set p none))):=by rw[j6 hp6,Cw]
       have c7:(S6.set lp (.lst ((optsS P).set p (AU none))))[lc]?=some (.dcf o ks (camS cm)):=by rw[i9 (Ne.symm nlc)];exact h6
       show wSs Δ _ _ _ (S6.set lp (.lst ((optsS P).set p (AU none))));generalize S6.set lp (.lst ((optsS P).set p (AU none)))=S7 at *;refine⟨_,rfl,_,rfl,_,rfl,_,rfl,_,rfl,_,rfl,_,_,_,DI c7,rfl,by rw[By,hlv];rfl,_,rfl,hf he hpe ?_⟩;refine hu H W.C O T h7 (DI c7) nlc fun S8 K8 h8=>?_;refine q S8 (k7.trans K8) ?_;rw[<-e5];show S8[lp]?=some (.lst (optsS (turn es cm (cm.length+1) (P.set p none) (farE (f9 es u) p))));rw[AM he];exact h8
      ·have hc:¬ cntAt es p<nd:=fun z=>hc (by show((cntAt es p:Nat):Int)<(nd:Int);omega);rw[if_neg (fun z=>hc z.2)]at e5;exact e5
     ·have he:¬ u=t:=fun z=>he (congrArg _ z);rw[if_neg (fun z=>he (oj z.1))]at e5;exact e5
  ·rintro ρ S5 ⟨o5,rfl,G5,e5⟩;rw[c9,XY]at e5;refine q S5 (K3.trans G5.kp) ?_;rw[<-e5];exact G5.keep _ _ hp3
end
open PySem L2
noncomputable def v7(p:Nat)(e:Nat×Nat):Bool:=decide (e.1=p)||decide (e.2=p)
theorem endB_iff{p:Nat}{e:Nat×Nat}:v7 p e=true↔(p=e.1\/p=e.2):=by
 unfold v7;simp only[XC,decide_eq_true_eq];exact⟨fun h=>h.imp Eq.symm Eq.symm,fun h=>h.imp Eq.symm Eq.symm⟩
theorem HP(es:EE)(p:Nat):∀ i,i<=es.length->(h9 es p i).length=(es.take i).countP (v7 p)
 | 0,_=>by simp[h9]
 | i+1,h=>by
   have he:es[i]?=some es[i]:=W0 (by omega);rw[Bm es p i he,W3,HP es p i (by omega),Ws,he,Yf];show _+_=_+ZP (v7 p) [es[i]];rw[XO,YT];unfold v7;by_cases z:(decide (es[i].1=p)||decide (es[i].2=p))=true
   ·rw[if_pos z,if_pos z];rfl
   ·rw[if_neg z,if_neg z];rfl
theorem Du(es:EE)(p:Nat):cntAt es p=es.countP (v7 p):=by
 unfold cntAt;rw[HP es p _ (WB _),Wu]
theorem HQ(A:List Nat):∀ es:EE,(A.map fun a=>es.countP (v7 a)).sum=(es.map fun e=>A.countP fun a=>v7 a e).sum
 | []=>by
   induction A with
   | nil=>rfl
   | cons a A ih=>simp only[Wl,YA,YT,ZE,List.sum_nil]at ih ⊢;omega
 | e::es=>by
   rw[Wl,YA,<-HQ A es]
   induction A with
   | nil=>rfl
   | cons a A ih=>
     simp only[Wl,YA,XO]at ih ⊢;omega
theorem OO(f g:Nat×Nat->Nat):∀ es:EE,(∀ e∈es,f e<=g e)->(es.map f).sum<=(es.map g).sum
 | [],_=>WB _
 | e::es,h=>by
   simp only[Wl,YA];have h1:=h e (WK ..);have h2:=OO f g es fun x hx=>h x (W9 _ hx);omega
theorem U0{A:List Nat}{q:Nat->Bool}(nd:A.Nodup)(h:∀ a∈A,∀ b∈A,q a=true->q b=true->a=b):A.countP q<=1:=by
 rw[List.countP_eq_length_filter];have nf:=nd.filter q
 match hf:A.filter q,nf with
 | [],_=>exact XQ _
 | [_],_=>exact WB _
 | a::b::r,nf=>
   have ha:=X4.mp (hf▸WK ..:a∈A.filter q);have hb:=X4.mp (hf▸W9 _ (WK ..):b∈A.filter q);have:=h a ha.1 b hb.1 ha.2 hb.2;exact absurd this ((Xt.mp nf).1 b (WK ..))
theorem OP{f:Nat->Nat}:∀{l:List Nat},l.Nodup->(∀ a∈l,∀ b∈l,f a=f b->a=b)->(l.map f).Nodup
 | [],_,_=>List.Pairwise.nil
 | a::l,nd,h=>by
   rw[XG]at nd;rw[Wl,XG];refine⟨fun z=>?_,OP nd.2 fun x hx y hy=>h x (W9 _ hx) y (W9 _ hy)⟩;obtain⟨b,hb,e⟩:=WZ.mp z;exact nd.1 (h a (WK ..) b (W9 _ hb) e.symm▸hb)
theorem Ek{c:Nat}{f:Nat->Nat}:∀{A:List Nat},(∀ a∈A,f a=c)->(A.map f).sum=A.length * c
 | [],_=>by simp
 | a::A,h=>by
   rw[Wl,YA,h a (WK ..),Ek fun x hx=>h x (W9 _ hx),Wz,ZD];omega
theorem HR{c:Nat}{f:Nat->Nat}:∀{A:List Nat},(∀ a∈A,f a<=c)->(A.map f).sum<=A.length * c
 | [],_=>by simp
 | a::A,h=>by
   rw[Wl,YA,Wz,ZD];have h1:=h a (WK ..);have h2:=HR (f:=f) fun x hx=>h x (W9 _ hx);omega
section
variable{n:Nat}{es:EE}{sd:Nat->Nat}{P:List (Option Nat)}
theorem OQ(H:Sdd n es sd){A B:List Nat}{m:Nat}(nd:A.Nodup)(a0:∀ a∈A,sd a=0)(hA:∀ a∈A,cntAt es a=m)(hB:∀ b∈B,cntAt es b<=m)(hl:∀ e∈es,∀ a∈A,(a=e.1\/a=e.2)->farE e a∈B)(hm:0<m):A.length<=B.length:=by
 have s1:(A.map fun a=>es.countP (v7 a)).sum=A.length * m:=Ek fun a ha=>by rw[<-Du];exact hA a ha
 have s2:(B.map fun a=>es.countP (v7 a)).sum<=B.length * m:=HR fun a ha=>by rw[<-Du];exact hB a ha
 rw[HQ]at s1 s2
 have s3:=OO (fun e=>A.countP fun a=>v7 a e) (fun e=>B.countP fun a=>v7 a e) es fun e he=>by
  have le1:(A.countP fun a=>v7 a e)<=1:=U0 nd fun a ha b hb qa qb=>by
   rw[endB_iff]at qa qb;have h1:=a0 a ha;have h2:=a0 b hb;have h3:=H.ne e he;rcases qa with z | z<;>rcases qb with y | y
   ·rw[z,y]
   ·rw[z]at h1;rw[y]at h2;omega
   ·rw[z]at h1;rw[y]at h2;omega
   ·rw[z,y]
  by_cases z:(A.countP fun a=>v7 a e)=0
  ·omega
  ·obtain⟨a,ha,qa⟩:=YW.mp (YC z);rw[endB_iff]at qa;have hb:=hl e he a ha qa;have:0<B.countP fun a=>v7 a e:=YW.mpr ⟨_,hb,endB_iff.mpr (Ds qa)⟩;omega
 have s4:A.length * m<=B.length * m:=by omega
 exact Nat.le_of_mul_le_mul_right s4 hm
theorem El(H:Sdd n es sd){s nd:Nat}{cm:Cm}(C:Came n es sd P [s] cm)(O:Open [s] sd n P)(K:Cons n es P):∀{ks:List Nat},(∀ q∈ks,q∈keys cm/\q≠s)->
 (Bo es cm P nd ks=P/\∀ q∈ks,(∃ u,P[q]?=some (some u))/\(P.getD q none=(lk cm q).join->nd<=cntAt es q))\/
 (Cons n es (Bo es cm P nd ks)/\(∃ t,(Bo es cm P nd ks)[s]?=some (some t))/\∀ p t,nd<=cntAt es p->P[p]?=some (some t)->∃ t',(Bo es cm P nd ks)[p]?=some (some t'))
 | [],_ => .inl ⟨rfl,fun _ h=>nomatch h⟩
 | q::ks,h=>by
   obtain⟨hk,hs⟩:=h q (WK ..);have hql:q<P.length:=by rw[K.len];exact C.lt q hk
   have hPq:=Cv hql;unfold Bo;by_cases hp:P.getD q none=none
   ·rw[if_pos hp];rw[hp]at hPq;obtain⟨i,hi,T⟩:=HI H C O K hk (by simpa using hs) hPq;have R:=Fb H C O (f:=cm.length+1) (by omega) T;refine .inr ⟨R.co,?_,fun p t _ ht=>?_⟩
    ·obtain⟨s',hs',t,ht⟩:=R.st;rw[W6.mp hs']at ht;exact⟨t,ht⟩
    ·rcases R.more p with z | z
     ·exact⟨t,by rw[z];exact ht⟩
     ·exact z
   ·rw[if_neg hp]
    obtain⟨u,hu⟩:∃ u,P.getD q none=some u:=by
     cases hv:P.getD q none with
     | none=>exact absurd hv hp
     | some u=>exact⟨u,rfl⟩
    rw[hu]at hPq;by_cases hc:P.getD q none=(lk cm q).join/\cntAt es q<nd
    ·rw[if_pos hc];obtain⟨c1,c2⟩:=hc;rw[hu]at c1
     have hlk:lk cm q=some (some u):=by
      cases hz:lk cm q with
      | none=>rw[hz]at c1;cases c1
      | some v=>rw[hz]at c1;cases v with
        | none=>cases c1
        | some w=>cases c1;rfl
     have h0:=HN H C K hlk hPq;obtain⟨e,i,he,hqe,hi,T⟩:=Ej H C O K hlk hPq h0;have ee:farE (f9 es ((lk cm q).join.getD 0)) q=farE e q:=by rw[hlk];show farE (f9 es u) q=_;rw[AM he]
     rw[ee];have R:=Fb H C O (f:=cm.length+1) (by omega) T;refine .inr ⟨R.co,?_,fun p t hn ht=>?_⟩
     ·obtain⟨s',hs',t,ht⟩:=R.st;rw[W6.mp hs']at ht;exact⟨t,ht⟩
     ·have hpq:p≠q:=fun z=>by rw[z]at hn;omega
      rcases R.more p with z | z
      ·exact⟨t,by rw[z,Wp (Ne.symm hpq)];exact ht⟩
      ·exact z
    ·rw[if_neg hc];rcases El H C O K (nd:=nd) (ks:=ks) fun r hr=>h r (W9 _ hr) with⟨a,b⟩ | z
     ·exact .inl ⟨a,fun r hr=>by
       rcases WN.mp hr with rfl | hr
       ·exact⟨⟨u,hPq⟩,fun z=>by
         by_cases y:cntAt es r<nd
         ·exact absurd ⟨z,y⟩ hc
         ·omega⟩
       ·exact b r hr⟩
     ·exact .inr z
theorem Ip(H:Sdd n es sd){s m:Nat}(hs:s<n)(h0:sd s=0)(hP:P[s]?=some none)(K:Cons n es P)(hc:cntAt es s=m)(hmx:∀ p,p<n->cntAt es p<=m):
 Cons n es (CZ n es P s m)/\(0<m->∃ t,(CZ n es P s m)[s]?=some (some t))/\∀ p t,cntAt es p=m->P[p]?=some (some t)->∃ t',(CZ n es P s m)[p]?=some (some t'):=by
 have O:Open [s] sd n P:=⟨by simp,fun p hp=>by rw[W6.mp hp];exact⟨hs,h0,hP⟩⟩
 have W:=HH H K O;unfold CZ;generalize C3 n es P [s]=cm at *
 have hks:∀ q∈(keys cm).filter fun q=>!decide (q=s),q∈keys cm/\q≠s:=fun q hq=>by
  have:=X4.mp hq;exact⟨this.1,by simpa using this.2⟩
 rcases El H W.C O K (nd:=m) hks with⟨e,all⟩ | ⟨a,b,c⟩
 ·rw[e];refine⟨K,fun hm=>False.elim ?_,fun p t _ h=>⟨t,h⟩⟩;have all':∀ q∈keys cm,q≠s->(∃ u,P[q]?=some (some u))/\(P.getD q none=(lk cm q).join->m<=cntAt es q):=fun q hq hqs=>all q (X4.mpr ⟨hq,by simpa using hqs⟩)
  let A:=(keys cm).filter fun q=>decide (sd q=0)
  let B:=(keys cm).filter fun q=>decide (sd q=1)
  have mA:∀{q},q∈A↔q∈keys cm/\sd q=0:=fun{q}=>by show q∈(keys cm).filter _↔_;rw[X4,decide_eq_true_eq]
  have mB:∀{q},q∈B↔q∈keys cm/\sd q=1:=fun{q}=>by show q∈(keys cm).filter _↔_;rw[X4,decide_eq_true_eq]
  have ndA:A.Nodup:=W.C.nd.filter _;have ndB:B.Nodup:=W.C.nd.filter _
  have l1:A.length<=B.length:=by
   refine OQ H ndA (fun a ha=>(mA.mp ha).2) (m:=m) (fun a ha=>?_) (fun b hb=>hmx b (W.C.lt b (mB.mp hb).1)) (fun e he a ha hae=>?_) hm
   ·obtain⟨hk,ha0⟩:=mA.mp ha;by_cases z:a=s
    ·rw[z];exact hc
    ·obtain⟨⟨u,hu⟩,hle⟩:=all' a hk z;obtain⟨v,hv⟩:=X9.mp (lk_some.mpr hk);have h3:=W.C.s0 a v (Dt hv) ha0;have:=hle (by rw[hv,Js h3];cases v<;>rfl);have:=hmx a (W.C.lt a hk);omega
   ·obtain⟨hk,ha0⟩:=mA.mp ha;obtain⟨t,ht⟩:=WW he;exact mB.mpr ⟨W.cl a hk ha0 t e ht hae,by have:=(H.far ht hae).2.1;omega⟩
  have l2:B.length+1<=A.length:=by
   have par:∀ b∈B,∃ u e,P[b]?=some (some u)/\es[u]?=some e/\(b=e.1\/b=e.2)/\P[farE e b]?=some (some u):=fun b hb=>by
    obtain⟨hk,h1⟩:=mB.mp hb;obtain⟨⟨u,hu⟩,_⟩:=all' b hk (fun z=>by rw[z]at h1;omega);obtain⟨e,he,hbe,hf⟩:=K.two b u hu;exact⟨u,e,hu,he,hbe,hf⟩
   let f:Nat->Nat:=fun b=>farE (f9 es ((P.getD b none).getD 0)) b
   have fb:∀ b∈B,∃ u e,P[b]?=some (some u)/\es[u]?=some e/\(b=e.1\/b=e.2)/\P[f b]?=some (some u)/\f b=farE e b:=fun b hb=>by
    obtain⟨u,e,h1,h2,h3,h4⟩:=par b hb;have:f b=farE e b:=by show farE (f9 es ((P.getD b none).getD 0)) b=_;rw[Js h1];show farE (f9 es u) b=_;rw[AM h2]
    exact⟨u,e,h1,h2,h3,by rw[this];exact h4,this⟩
   have nd2:(s::B.map f).Nodup:=by
    rw[XG];refine⟨fun z=>?_,?_⟩
    ·obtain⟨b,hb,e⟩:=WZ.mp z;obtain⟨u,_,_,_,_,h4,_⟩:=fb b hb;rw[e,hP]at h4;cases h4
    ·refine OP ndB fun a ha b hb e=>?_;obtain⟨u,e1,h1,h2,h3,h4,h5⟩:=fb a ha;obtain⟨u',e1',h1',h2',h3',h4',h5'⟩:=fb b hb;rw[<-e,h4]at h4';cases h4';rw[h2]at h2';cases h2';have q1:=(H.far h2 h3).2.2.1;have q2:=(H.far h2 h3').2.2.1;rw[h5,h5']at e;rw[<-q1,<-q2,e]
   have:=Fd nd2 (l2:=A) fun x hx=>by
    rcases WN.mp hx with rfl | hx
    ·exact mA.mpr ⟨W.C.hs _ (W6.mpr rfl),h0⟩
    ·obtain⟨b,hb,e⟩:=WZ.mp hx;obtain⟨u,e',h1,h2,h3,h4,h5⟩:=fb b hb;obtain⟨hk,hb1⟩:=mB.mp hb;rw[<-e,h5];exact mA.mpr ⟨W.C.pr b hk hb1 u e' h1 h2,by have:=(H.far h2 h3).2.1;omega⟩
   rw[Wz,W2]at this;exact this
  omega
 ·exact⟨a,fun _=>b,fun p t hp h=>c p t (by omega) h⟩
end
open PySem L2
section
variable{Δ:Nat->Sn}
noncomputable def Jy:List Stm:=[(.ret (.srtsc ["tie"] [] [] (.nm 0) (.seq (.var 0)) (.yes (.cmp .IsNot (.var 0) (.c .non))) (.var 0)))]
noncomputable def Dv(s:Sn):Prop:=∀{lp:Nat} {P:List (Option Nat)} {S:Sto} {Q:QE},S[lp]?=some (.lst (optsS P))->P.length<=60->Q (.loc S.length) (S++[.lst (natS (AS P))])->s [.loc lp] S Q
theorem Qi{xs:List (Option Nat)}{i:Nat}{x:SV}(h:(optsS xs)[i]?=some x):∃ v,xs[i]?=some v/\x=AU v:=by
 unfold optsS at h;rw[WG]at h;cases hx:xs[i]? with
 | none=>rw[hx]at h;cases h
 | some v=>rw[hx]at h;exact⟨v,rfl,(oj h).symm⟩
theorem DK(xs:List Nat):(iN xs).map SV.int=natS xs:=by unfold iN natS;rw[Xc];rfl
theorem LU(hΔ:∀ f,MonoN (Δ f)){D:Df}(hb:D.body=Jy)(hN:D.N.length=1)(hp:D.ps.length=1):Dv (i6 Δ D):=by
 intro lp P S Q hlp hl q;unfold i6;rw[hb,hN];refine⟨hp.symm,_,rfl,_,c5 hlp,?_⟩
 have len:∀ i,(iN ((P.take i).filterMap id)).length<=60:=fun i=>by
  unfold iN;rw[W2];have:=Yi id (P.take i);rw[WY]at this;omega
 refine Il (j5 hΔ _).2 (a7 hΔ _).1 (fun i ns S'=>S'=S/\ns=iN ((P.take i).filterMap id)) ⟨rfl,rfl⟩ (fun _ _ _ h=>by rw[h.1];exact rfl) ?_ ?_
 ·rintro i x ns S' hx ⟨rfl,rfl⟩;obtain⟨v,hv,rfl⟩:=Qi hx
  have e:(P.take (i+1)).filterMap id=(P.take i).filterMap id++v.toList:=by
   rw[Ws,hv,List.filterMap_append];cases v<;>rfl
  cases v with
  | none=>exact⟨_,rfl,.inl ⟨rfl,_,rfl,ifF rfl ⟨rfl,by rw[e,Option.toList_none,XF]⟩⟩⟩
  | some t=>
    refine⟨_,rfl,.inl ⟨rfl,_,rfl,ifT rfl ⟨_,rfl,t,rfl,by have:=len i;omega,rfl,?_⟩⟩⟩;rw[e];unfold iN;rw[Wn];rfl
 ·rintro ns S' ⟨rfl,rfl⟩;rw[AF,Wu];have l:=len P.length;rw[Wu]at l;refine⟨by omega,?_⟩;have:srt (AD (iN (P.filterMap id)))=iN (AS P):=OG P;rw[this,DK];exact q
structure Web2(n:Nat)(es:EE):Prop where
 en:∀ e∈es,e.1<e.2/\e.2<n
 len:es.length<=1000
 few:n<=60
 two:∃ c:Nat->Nat,(∀ p,c p<2)/\∀ e∈es,c e.1≠c e.2
theorem HS:∀ n:Nat,(WC n [SV.non]).flatten=optsS (WC n none)
 | 0=>rfl
 | n+1=>by rw[Wr,Wr,XE,HS n];rfl
end
open PySem L2
theorem LV(fs:EE)(k:Nat)(e:Nat×Nat):(fs.map pairS).take k++pairS e::(fs.map pairS).drop k=(fs.take k++e::fs.drop k).map pairS:=by
 rw[Wn,Wl,Z7,ZZ]
theorem Qj{fs:EE}{k:Nat}{e:Nat×Nat}{P:Nat×Nat->Prop}(h:∀ f∈fs,P f)(he:P e):∀ f∈fs.take k++e::fs.drop k,P f:=fun f hf=>by
 rcases WJ.mp hf with hf | hf
 ·exact h f (Xi hf)
 ·rcases WN.mp hf with hf | hf
  ·rw[hf];exact he
  ·exact h f (Y8 hf)
theorem Qk(fs:EE)(k:Nat)(e:Nat×Nat):(fs.take k++e::fs.drop k).length=fs.length+1:=by
 rw[W3,Wz,WY,Wy];omega
open PySem L2
noncomputable def t2(kd:Nat):Stm:=(.asg (.nm 2) (.ix (.lst (.cons (.call kd (.cons (.var 0) (.cons (.c (.int 8)) .nil))) (.cons (.op .Add (.c (.int 8)) (.call kd (.cons (.var 0) (.cons (.c (.int 23)) .nil)))) .nil))) (.bi .int (.cons (.var 1) .nil))))
noncomputable def t3(kd:Nat):Stm:=(.asg (.nm 3) (.comp ["_law_k"] ["_law_tape_here"] [0] (.nm 0) (.rng1 (.var 2)) .no (.call kd (.cons (.var 1) (.cons (.c (.int 2)) .nil)))))
noncomputable def t4:Stm:=(.asg (.nm 4) (.comp ["_law_k"] ["_law_sides"] [3] (.nm 0) (.rng1 (.var 2)) (.yes (.cmp .Eq (.ix (.var 1) (.var 0)) (.c (.int 0)))) (.var 0)))
noncomputable def t5:Stm:=(.asg (.nm 5) (.comp ["_law_k"] ["_law_sides"] [3] (.nm 0) (.rng1 (.var 2)) (.yes (.cmp .Eq (.ix (.var 1) (.var 0)) (.c (.int 1)))) (.var 0)))
noncomputable def t6(kd:Nat):Stm:=(.asg (.nm 6) (.call kd (.cons (.var 0) (.cons (.c (.int 6)) .nil))))
noncomputable def t7:Stm:=(.asg (.nm 7) (.lst .nil))
noncomputable def t8a:Stm:=(.iff (.cmp .Eq (.var 6) (.c (.int 0))) [(.loop (.nm 8) (.seq (.var 4)) [(.expr (.mt .extend (.var 7) (.cons (.comp ["_law_other"] ["_law_one"] [8] (.nm 0) (.seq (.var 5)) .no (.tup (.cons (.var 1) (.cons (.var 0) .nil)))) .nil)))])] [])
noncomputable def t8b:Stm:=(.iff (.cmp .Eq (.var 6) (.c (.int 1))) [(.asg (.nm 7) (.comp ["_law_other"] ["_law_left"] [4] (.nm 0) (.seq (.var 5)) .no (.tup (.cons (.ix (.var 1) (.c (.int 0))) (.cons (.var 0) .nil)))))] [])
noncomputable def t8c(kd:Nat):Stm:=(.iff (.cmp .Gt (.var 6) (.c (.int 1))) [(.loop (.nm 9) (.rng1 (.call kd (.cons (.var 0) (.cons (.ix (.lst (.cons (.op .Add (.var 2) (.c (.int 2))) (.cons (.op .Mult (.c (.int 3)) (.var 2)) .nil))) (.op .Mod (.var 6) (.c (.int 2)))) .nil)))) [(.expr (.mt .append (.var 7) (.cons (.tup (.cons (.ix (.var 4) (.call kd (.cons (.var 0) (.cons (.bi .len (.cons (.var 4) .nil)) .nil)))) (.cons (.ix (.var 5) (.call kd (.cons (.var 0) (.cons (.bi .len (.cons (.var 5) .nil)) .nil)))) .nil))) .nil)))])] [])
noncomputable def t8(kd:Nat):Stm:=(.iff (.and (.cmp .NotEq (.var 4) (.lst .nil)) (.cmp .NotEq (.var 5) (.lst .nil))) [t8a,t8b,t8c kd] [])
noncomputable def t9(kd:Nat):Stm:=(.iff (.and (.cmp .NotEq (.var 7) (.lst .nil)) (.cmp .Eq (.call kd (.cons (.var 0) (.cons (.c (.int 3)) .nil))) (.c (.int 0)))) [(.asg (.nm 7) (.op .Add (.var 7) (.comp ["_law_turn"] ["_law_found","_law_tape_here"] [7,0] (.nm 0) (.rng1 (.op .Add (.c (.int 1)) (.call kd (.cons (.var 0) (.cons (.c (.int 6)) .nil))))) .no (.ix (.var 1) (.call kd (.cons (.var 2) (.cons (.bi .len (.cons (.var 1) .nil)) .nil)))))))] [])
noncomputable def t10:Stm:=(.asg (.nm 10) (.lst .nil))
noncomputable def t11(kd:Nat):Stm:=(.loop (.tup (.cons (.nm 8) (.cons (.nm 11) .nil))) (.seq (.slc (.var 7) .no (.yes (.c (.int 90))))) [(.expr (.mt .insert (.var 10) (.cons (.call kd (.cons (.var 0) (.cons (.op .Add (.bi .len (.cons (.var 10) .nil)) (.c (.int 1))) .nil))) (.cons (.tup (.cons (.bi .min (.cons (.var 8) (.cons (.var 11) .nil))) (.cons (.bi .max (.cons (.var 8) (.cons (.var 11) .nil))) .nil))) .nil))))])
noncomputable def t12:Stm:=(.ret (.tup (.cons (.var 2) (.cons (.bi .tuple (.cons (.var 10) .nil)) .nil))))
noncomputable def HU(kd:Nat):List Stm:=[t2 kd,t3 kd,t4,t5,t6 kd,t7,t8 kd,t9 kd,t10,t11 kd,t12]
noncomputable def Un(n:Nat)(c:Nat->Nat)(fs:EE):Prop:=∀ f∈fs,f.1<n/\f.2<n/\c f.1≠c f.2
theorem Un.app{n:Nat}{c:Nat->Nat}{fs gs:EE}(a:Un n c fs)(b:Un n c gs):Un n c (fs++gs):=fun f hf=>(WJ.mp hf).elim (a f) (b f)
section
variable{Δ:Nat->Sn}{kd:Nat}
theorem Fh(hΔ:∀ f,MonoN (Δ f))(hd:Bk (Δ kd)){t l n:Nat}{c:Nat->Nat}{S0 S:Sto}{fs:EE}{Q:QE}{o1 o3 o4 o5 o6 o8 o9:Option SV}(A:Ah t S0 S l fs)(hf:Un n c fs)(fl:fs.length<=990)
 (q:∀(es:EE) (S':Sto),(∀ e∈es,e.1<e.2/\e.2<n/\c e.1≠c e.2)->es.length<=90->TapeS S' t->On t S0 S'->Q (j3 n es) S'):
 wSs Δ [t10,t11 kd,t12] (BL Q) [some (.loc t),o1,some (.int n),o3,o4,o5,o6,some (.loc l),o8,o9,none,none] S:=by
 refine⟨by show 0<=big;decide,?_⟩;have A1:=A.push (o:=SO.lst []);have B1:Ah t S0 (S++[SO.lst []]) S.length []:=⟨A.tape.push,A.on.push,c6,A.on.len,A.t0⟩
 have nl:l≠S.length:=WR (m7 A.at');generalize S.length=lk' at *;generalize S++[SO.lst []]=S1 at *;refine⟨_,rfl,_,rfl,_,A1.at',_,c5 c6,?_⟩
 have ec:FJ (fs.map pairS) none (some 90)=((fs.drop (HT.sIx (fs.map pairS).length 0 none)).take (HT.sIx (fs.map pairS).length (fs.map pairS).length (some 90) - HT.sIx (fs.map pairS).length 0 none)).map pairS:=by
  unfold FJ;rw[Z7,ZZ]
 have gm:∀ f∈(fs.drop (HT.sIx (fs.map pairS).length 0 none)).take (HT.sIx (fs.map pairS).length (fs.map pairS).length (some 90) - HT.sIx (fs.map pairS).length 0 none),f∈fs:=fun f h=>Y8 (Xi h)
 have gl:((fs.drop (HT.sIx (fs.map pairS).length 0 none)).take (HT.sIx (fs.map pairS).length (fs.map pairS).length (some 90) - HT.sIx (fs.map pairS).length 0 none)).length<=90:=by
  have:=HT.sIx_nat (fs.map pairS).length (fs.map pairS).length 90;have e:HT.sIx (fs.map pairS).length (fs.map pairS).length (some 90)=min 90 (fs.map pairS).length:=this;rw[WY,Wy,e];omega
 rw[ec];generalize (fs.drop (HT.sIx (fs.map pairS).length 0 none)).take (HT.sIx (fs.map pairS).length (fs.map pairS).length (some 90) - HT.sIx (fs.map pairS).length 0 none)=gs at *;have hg:(S1++[SO.lst (gs.map pairS)])[S1.length]?=some (.lst (gs.map pairS)):=c6;have B2:=B1.push (o:=SO.lst (gs.map pairS));have ng:S1.length≠t:=by have:=A1.tape.lt;omega
 have ng2:S1.length≠lk':=by have:=m7 B1.at';omega
 generalize S1.length=lg at *;generalize S1++[SO.lst (gs.map pairS)]=S2 at *;refine w5 (i8 hΔ _) (fun i ρ S3=>∃(es:EE) (o8 o11:Option SV),ρ=[some (.loc t),o1,some (.int n),o3,o4,o5,o6,some (.loc l),o8,o9,some (.loc lk'),o11]/\Ah t S0 S3 lk' es/\S3[lg]?=some (.lst (gs.map pairS))/\(∀ e∈es,e.1<e.2/\e.2<n/\c e.1≠c e.2)/\es.length=i) ⟨[],o8,none,rfl,B2,hg,(fun _ h=>nomatch h),rfl⟩ (fun _ _ S3 ⟨_,_,_,_,_,h,_⟩=>h.trans hg.symm) ?_ ?_
 ·rintro i x ρ S3 hx ⟨es,p8,p11,rfl,A3,h3,he,el⟩;obtain⟨f,hfi,rfl⟩:=B9 hx;have hil:=(gM hfi).1;obtain⟨u1,u2,u3⟩:=hf f (gm f (W5 hfi));have une:f.1≠f.2:=fun z=>u3 (by rw[z]);refine⟨_,rfl,⟨_,_,rfl,A3.at'⟩,_,rfl,_,rfl,_,c5 A3.at',hd A3.tape (by omega) (by rw[W2];omega) fun r S4 r0 r1 T4 O4 _=>?_⟩;have A4:=A3.draw T4 O4;rw[W2]at r1;refine⟨_,rfl,_,rfl,_,rfl,_,rfl,by show 2<=big;decide,?_⟩;refine⟨_,A4.at',⟨r0,by rw[W2];omega⟩,by rw[W2];show _<100000;omega,?_⟩
  have key:∀ z1 z2:Int,z1=((min f.1 f.2:Nat):Int)->z2=((max f.1 f.2:Nat):Int)->∃(es':EE) (o8 o11:Option SV),([some (.loc t),o1,some (.int n),o3,o4,o5,o6,some (.loc l),some (.int f.1),o9,some (.loc lk'),some (.int f.2)]:EnvS)=[some (.loc t),o1,some (.int n),o3,o4,o5,o6,some (.loc l),o8,o9,some (.loc lk'),o11]/\Ah t S0 (S4.set lk' (.lst ((es.map pairS).take r.toNat ++ .tup [.int z1,.int z2]::(es.map pairS).drop r.toNat))) lk' es'/\(S4.set lk' (.lst ((es.map pairS).take r.toNat ++ .tup [.int z1,.int z2]::(es.map pairS).drop r.toNat)))[lg]?=some (.lst (gs.map pairS))/\(∀ e∈es',e.1<e.2/\e.2<n/\c e.1≠c e.2)/\es'.length=i+1:=by
   rintro _ _ rfl rfl;have ip:(es.map pairS).take r.toNat++SV.tup [.int ((min f.1 f.2:Nat):Int),.int ((max f.1 f.2:Nat):Int)]::(es.map pairS).drop r.toNat=(es.take r.toNat++(min f.1 f.2,max f.1 f.2)::es.drop r.toNat).map pairS:=LV es r.toNat (min f.1 f.2,max f.1 f.2);rw[ip];refine⟨_,_,_,rfl,A4.put,by rw[i9 (Ne.symm ng2)];exact O4.keep _ _ ng h3,Qj he ⟨by show min f.1 f.2<max f.1 f.2;omega,by show max f.1 f.2<n;omega,?_⟩,by rw[Qk,el]⟩;show c (min f.1 f.2)≠c (max f.1 f.2);rcases Nat.le_total f.1 f.2 with z | z
   ·rw[Nat.min_eq_left z,Nat.max_eq_right z];exact u3
   ·rw[Nat.min_eq_right z,Nat.max_eq_left z];exact Ne.symm u3
  exact key _ _ (QZ _ _) (Qa _ _)
 ·rintro ρ S3 ⟨es,p8,p11,rfl,A3,h3,he,el⟩;rw[W2]at el;exact⟨_,rfl,_,rfl,_,c5 A3.at',by show 2<=big;decide,q es S3 he (by omega) A3.tape A3.on⟩
theorem Fj(hΔ:∀ f,MonoN (Δ f))(hd:Bk (Δ kd)){t l n:Nat}{c:Nat->Nat}{S0 S:Sto}{fs:EE}{Q:QE}{o1 o3 o4 o5 o6 o8 o9:Option SV}(A:Ah t S0 S l fs)(hf:Un n c fs)(fl:fs.length<=980)
 (q:∀(es:EE) (S':Sto),(∀ e∈es,e.1<e.2/\e.2<n/\c e.1≠c e.2)->es.length<=90->TapeS S' t->On t S0 S'->Q (j3 n es) S'):
 wSs Δ [t9 kd,t10,t11 kd,t12] (BL Q) [some (.loc t),o1,some (.int n),o3,o4,o5,o6,some (.loc l),o8,o9,none,none] S:=by
 refine⟨_,rfl,by show 0<=big;decide,?_⟩;have A1:=A.push (o:=SO.lst []);refine⟨_,_,A1.at',c6,.inr (.inr rfl),_,rfl,?_⟩;rw[Dq];refine ifB (fun h1=>?_) (fun h1=>ifF rfl (l9 (Fh hΔ hd A1 hf (by omega) q)))
 have hpos:0<fs.length:=by
  cases fs with
  | nil=>cases h1
  | cons _ _=>simp
 refine⟨_,rfl,hd A1.tape (by decide) (by decide) fun r S2 r0 r1 T2 O2 _=>⟨_,rfl,?_⟩⟩;have A2:=A1.draw T2 O2;refine ifD (fun _=>?_) (fun _=>l9 (Fh hΔ hd A2 hf (by omega) q));refine⟨_,rfl,_,rfl,hd A2.tape (by decide) (by decide) fun r3 S3 a0 a1 T3 O3 _=>⟨_,rfl,⟨by omega,by omega⟩,?_⟩⟩;have A3:=A2.draw T3 O3;refine j7 (j5 hΔ _).2 (a7 hΔ _).1 (fun i ys S4=>Ah t S0 S4 l fs/\∃ gs:EE,ys=gs.map pairS/\(∀ e∈gs,e∈fs)/\gs.length=i) ⟨A3,[],rfl,(fun _ h=>nomatch h),rfl⟩ (fun _ _ _ _=>trivial) ?_ ?_
 ·rintro i x ys S4 hx ⟨A4,gs,rfl,hg,gl⟩;obtain⟨rfl,hi⟩:=Am hx;refine⟨_,rfl,_,rfl,_,rfl,_,c5 A4.at',hd A4.tape (by rw[W2];omega) (by rw[W2];omega) fun r5 S5 b0 b1 T5 O5 _=>?_⟩;have A5:=A4.draw T5 O5;rw[W2]at b1;have hr:r5.toNat<fs.length:=by omega
  refine⟨_,pairS fs[r5.toNat],c5 A5.at',?_,by rw[W2];show _<100000;omega,A5,gs++[fs[r5.toNat]],?_,fun e h=>?_,by simp[gl]⟩
  ·have:=i7 (xs:=fs.map pairS) (j:=r5.toNat) (v:=pairS fs[r5.toNat]) (by rw[WG,W0 hr];rfl)
   rwa [YX b0]at this
  ·rw[Wn];rfl
  ·rcases WJ.mp h with h | h
   ·exact hg e h
   ·rw[W6.mp h];exact X0 hr
 ·rintro ys S4 ⟨A4,gs,rfl,hg,gl⟩;rw[BN]at gl;have A5:=A4.push (o := .lst (gs.map pairS));refine⟨_,_,A5.at',c6,by simp;show _<=100000;omega,?_⟩;rw[<-Wn];refine Fh hΔ hd (fs:=fs++gs) ⟨A5.tape.push,A5.on.push,c6,A5.on.len,A.t0⟩ (hf.app fun e he=>hf e (hg e he)) (by rw[W3];omega) q
structure Lr(n:Nat)(c:Nat->Nat)(ls rs:List Nat):Prop where
 l:∀ a∈ls,a<n/\c a=0
 r:∀ b∈rs,b<n/\c b=1
 ll:ls.length<=31
 rl:rs.length<=31
theorem VZ(hΔ:∀ f,MonoN (Δ f)){t l l4 l5 n:Nat}{w:Int}{c:Nat->Nat}{ls rs:List Nat}{S0 S:Sto}{D:EndsS}{rest:List Stm}{o1 o2 o3 o8 o9:Option SV}(A:Ah t S0 S l [])(L:Lr n c ls rs)(h4:S0[l4]?=some (.lst (natS ls)))(h5:S0[l5]?=some (.lst (natS rs)))(n4:l4≠t)(n5:l5≠t)
 (q:∀(fs:EE) (o8:Option SV) (S':Sto),Ah t S0 S' l fs->Un n c fs->fs.length<=961->wSs Δ rest D [some (.loc t),o1,o2,o3,some (.loc l4),some (.loc l5),some (.int w),some (.loc l),o8,o9,none,none] S'):
 wSs Δ (t8a::rest) D [some (.loc t),o1,o2,o3,some (.loc l4),some (.loc l5),some (.int w),some (.loc l),o8,o9,none,none] S:=by
 refine⟨_,rfl,_,rfl,ifD (fun h=>?_) (fun h=>l9 (q [] _ S A (fun _ h=>nomatch h) (by simp)))⟩;have e4:=A.on.keep _ _ n4 h4;refine⟨_,rfl,_,c5 e4,?_⟩;refine w5 (i8 hΔ _) (fun i ρ S'=>∃(fs:EE) (o8:Option SV),ρ=[some (.loc t),o1,o2,o3,some (.loc l4),some (.loc l5),some (.int w),some (.loc l),o8,o9,none,none]/\Ah t S0 S' l fs/\Un n c fs/\fs.length<=31 * i) ⟨[],o8,rfl,A,(fun _ h=>nomatch h),by simp⟩ (fun _ _ S' ⟨_,_,_,A',_⟩=>(A'.on.keep _ _ n4 h4).trans e4.symm) ?_ ?_
 ·rintro i x ρ S2 hx ⟨fs,p8,rfl,A2,hf,fl⟩;obtain⟨a,ha,rfl⟩:=y0 hx;have hil:=(gM ha).1;obtain⟨a1,a2⟩:=L.l a (W5 ha);have ll:=L.ll;have rl:=L.rl;have e5:=A2.on.keep _ _ n5 h5;refine⟨_,rfl,⟨_,_,rfl,A2.at'⟩,_,rfl,_,c5 e5,?_⟩;refine j7 (j5 hΔ _).2 (a7 hΔ _).1 (fun j ys S3=>S3=S2/\ys=((rs.take j).map fun b=>(a,b)).map pairS) ⟨rfl,rfl⟩ (fun _ _ _ h=>by rw[h.1];exact rfl) ?_ ?_
  ·rintro j y ys S3 hy ⟨rfl,rfl⟩;obtain⟨b,hb,rfl⟩:=y0 hy;have hjl:=(gM hb).1;refine⟨_,rfl,_,rfl,by show 2<=big;decide,by rw[W2,W2,WY];show _<100000;omega,rfl,?_⟩;rw[Ws,hb,Wn,Wn];rfl
  ·rintro ys S3 ⟨rfl,rfl⟩;rw[c9,Wu];have A3:=A2.push (o:=SO.lst ((rs.map fun b=>(a,b)).map pairS));refine⟨_,_,A3.at',c6,by rw[W2,W2,W2];show _<=100000;omega,?_⟩;rw[<-Wn];refine⟨_,_,rfl,A3.put,hf.app fun f hf'=>?_,by rw[W3,W2];omega⟩;obtain⟨b,hb,rfl⟩:=WZ.mp hf';obtain⟨b1,b2⟩:=L.r b hb;exact⟨a1,b1,by show c a≠c b;omega⟩
 ·rintro ρ S2 ⟨fs,p8,rfl,A2,hf,fl⟩;rw[c9]at fl;have ll:=L.ll;exact q fs _ S2 A2 hf (by omega)
theorem Va(hΔ:∀ f,MonoN (Δ f)){t l l4 l5 n:Nat}{w:Int}{c:Nat->Nat}{ls rs:List Nat}{S0 S:Sto}{D:EndsS}{rest:List Stm}{fs:EE}{o1 o2 o3 o8 o9:Option SV}(A:Ah t S0 S l fs)(hf:Un n c fs)(fl:fs.length<=961)(L:Lr n c ls rs)(h4:S0[l4]?=some (.lst (natS ls)))(h5:S0[l5]?=some (.lst (natS rs)))(n4:l4≠t)(n5:l5≠t)(hp:0<ls.length)
 (q:∀(l:Nat) (fs:EE) (S':Sto),Ah t S0 S' l fs->Un n c fs->fs.length<=961->wSs Δ rest D [some (.loc t),o1,o2,o3,some (.loc l4),some (.loc l5),some (.int w),some (.loc l),o8,o9,none,none] S'):
 wSs Δ (t8b::rest) D [some (.loc t),o1,o2,o3,some (.loc l4),some (.loc l5),some (.int w),some (.loc l),o8,o9,none,none] S:=by
 refine⟨_,rfl,_,rfl,ifD (fun h=>?_) (fun h=>l9 (q l fs S A hf fl))⟩;have e4:=A.on.keep _ _ n4 h4;have e5:=A.on.keep _ _ n5 h5;have rl:=L.rl;have g0:=W0 hp;obtain⟨a1,a2⟩:=L.l _ (W5 g0);generalize ls[0]=a at *;refine⟨_,rfl,_,c5 e5,?_⟩;refine j7 (j5 hΔ _).2 (a7 hΔ _).1 (fun j ys S3=>S3=S/\ys=((rs.take j).map fun b=>(a,b)).map pairS) ⟨rfl,rfl⟩ (fun _ _ _ h=>by rw[h.1];exact rfl) ?_ ?_
 ·rintro j y ys S3 hy ⟨rfl,rfl⟩;obtain⟨b,hb,rfl⟩:=y0 hy;have hjl:=(gM hb).1;refine⟨_,rfl,_,_,c5 e4,i7 (j:=0) (BA g0),_,rfl,by show 2<=big;decide,by rw[W2,W2,WY];show _<100000;omega,rfl,?_⟩;rw[Ws,hb,Wn,Wn];rfl
 ·rintro ys S3 ⟨rfl,rfl⟩;rw[c9,Wu];refine q _ (rs.map fun b=>(a,b)) _ ⟨A.tape.push,A.on.push,c6,A.on.len,A.t0⟩ (fun f hf'=>?_) (by rw[W2];omega);obtain⟨b,hb,rfl⟩:=WZ.mp hf';obtain⟨b1,b2⟩:=L.r b hb;exact⟨a1,b1,by show c a≠c b;omega⟩
end
open PySem L2
section
variable{Δ:Nat->Sn}{kd:Nat}
theorem OR{xs:List Nat}{r:Int}(r0:0<=r)(h:r.toNat<xs.length):atI (natS xs) r=some (.int (xs[r.toNat]:Nat)):=by
 have:=i7 (xs:=natS xs) (j:=r.toNat) (v := .int (xs[r.toNat]:Nat)) (BA (W0 h))
 rwa [YX r0]at this
theorem Ri(hΔ:∀ f,MonoN (Δ f))(hd:Bk (Δ kd)){t l l4 l5 n:Nat}{w:Int}{c:Nat->Nat}{ls rs:List Nat}{S0 S:Sto}{D:EndsS}{fs:EE}{o1 o3 o8 o9:Option SV}(A:Ah t S0 S l fs)(hf:Un n c fs)(fl:fs.length<=961)(he:1<w->fs=[])(L:Lr n c ls rs)(h4:S0[l4]?=some (.lst (natS ls)))(h5:S0[l5]?=some (.lst (natS rs)))(n4:l4≠t)(n5:l5≠t)(hp:0<ls.length)(hp2:0<rs.length)(hn:n<=31)
 (q:∀(o9:Option SV) (fs:EE) (S':Sto),Ah t S0 S' l fs->Un n c fs->fs.length<=961->D.nx [some (.loc t),o1,some (.int n),o3,some (.loc l4),some (.loc l5),some (.int w),some (.loc l),o8,o9,none,none] S'):
 wSs Δ [t8c kd] D [some (.loc t),o1,some (.int n),o3,some (.loc l4),some (.loc l5),some (.int w),some (.loc l),o8,o9,none,none] S:=by
 refine⟨_,rfl,_,rfl,ifD (fun h=>?_) (fun h=>l9 (q _ fs S A hf fl))⟩;have h:1<w:=h;obtain rfl:=he h;have n0:0<n:=by obtain⟨a1,_⟩:=L.l _ (X0 hp);omega
 refine⟨_,rfl,_,rfl,_,rfl,.inl ⟨by decide,by decide⟩,by show 2<=big;decide,_,rfl,show(0:Int)<2 by decide,?_⟩;have A1:=A.push (o:=SO.lst [SV.int ((n:Int)+2),SV.int (3 * (n:Int))])
 have hm:∃ m:Int,atI [SV.int ((n:Int)+2),SV.int (3 * (n:Int))] (w % 2)=some (.int m)/\0<m/\m<=93:=by
  have:w % 2=0\/w % 2=1:=by omega
  rcases this with z | z
  ·rw[z];exact⟨(n:Int)+2,rfl,by omega,by omega⟩
  ·rw[z];exact⟨3 * (n:Int),rfl,by omega,by omega⟩
 obtain⟨m,em,m0,m1⟩:=hm;refine⟨_,SV.int m,c5 c6,em,?_⟩;generalize S++[SO.lst [SV.int ((n:Int)+2),SV.int (3 * (n:Int))]]=S1 at *;refine hd A1.tape m0 (by omega) fun r S2 r0 r1 T2 O2 _=>⟨_,rfl,⟨by omega,by omega⟩,?_⟩
 refine w5 (i8 hΔ _) (fun i ρ S'=>∃(fs:EE) (o9:Option SV),ρ=[some (.loc t),o1,some (.int n),o3,some (.loc l4),some (.loc l5),some (.int w),some (.loc l),o8,o9,none,none]/\Ah t S0 S' l fs/\Un n c fs/\fs.length=i) ⟨[],o9,rfl,A1.draw T2 O2,(fun _ h=>nomatch h),rfl⟩ (fun _ _ _ _=>trivial) ?_ ?_
 ·rintro i x ρ S3 hx ⟨fs,p9,rfl,A3,hf3,fl3⟩;obtain⟨rfl,hi⟩:=Am hx;have ll:=L.ll;have rl:=L.rl;have e4:=A3.on.keep _ _ n4 h4;refine⟨_,rfl,⟨_,_,rfl,A3.at'⟩,_,rfl,_,rfl,_,rfl,_,c5 e4,hd A3.tape (by rw[c9];omega) (by rw[c9];omega) fun a S4 a0 a1 T4 O4 _=>?_⟩;have A4:=A3.draw T4 O4;rw[c9]at a1;have ha:a.toNat<ls.length:=by omega
  refine⟨_,SV.int (ls[a.toNat]:Nat),c5 (A4.on.keep _ _ n4 h4),OR a0 ha,_,rfl,_,rfl,_,rfl,_,c5 (A4.on.keep _ _ n5 h5),hd A4.tape (by rw[c9];omega) (by rw[c9];omega) fun b S5 b0 b1 T5 O5 _=>?_⟩;have A5:=A4.draw T5 O5;rw[c9]at b1;have hb:b.toNat<rs.length:=by omega
  refine⟨_,SV.int (rs[b.toNat]:Nat),c5 (A5.on.keep _ _ n5 h5),OR b0 hb,by show 2<=big;decide,_,A5.at',by rw[W2];show _<100000;omega,?_⟩;obtain⟨u1,u2⟩:=L.l _ (X0 ha);obtain⟨v1,v2⟩:=L.r _ (X0 hb);have e1:fs.map pairS++[SV.tup [.int (ls[a.toNat]:Nat),.int (rs[b.toNat]:Nat)]]=(fs++[(ls[a.toNat],rs[b.toNat])]).map pairS:=by rw[Wn];rfl
  rw[e1];refine⟨_,_,rfl,A5.put,hf3.app fun f hf'=>?_,by rw[W3,fl3];rfl⟩;rw[W6.mp hf'];exact⟨u1,v1,by show c ls[a.toNat]≠c rs[b.toNat];omega⟩
 ·rintro ρ S3 ⟨fs,p9,rfl,A3,hf3,fl3⟩;rw[BN]at fl3;exact q _ fs S3 A3 hf3 (by omega)
theorem Ql(hΔ:∀ f,MonoN (Δ f))(hd:Bk (Δ kd)){t l4 l5 n:Nat}{c:Nat->Nat}{ls rs:List Nat}{S0:Sto}{Q:QE}{o1 o3:Option SV}(T:TapeS S0 t)(L:Lr n c ls rs)(h4:S0[l4]?=some (.lst (natS ls)))(h5:S0[l5]?=some (.lst (natS rs)))(n4:l4≠t)(n5:l5≠t)(hn:n<=31)
 (q:∀(es:EE) (S':Sto),(∀ e∈es,e.1<e.2/\e.2<n/\c e.1≠c e.2)->es.length<=90->TapeS S' t->On t S0 S'->Q (j3 n es) S'):
 wSs Δ [t6 kd,t7,t8 kd,t9 kd,t10,t11 kd,t12] (BL Q) [some (.loc t),o1,some (.int n),o3,some (.loc l4),some (.loc l5),none,none,none,none,none,none] S0:=by
 refine⟨_,rfl,hd T (by decide) (by decide) fun w S1 w0 w1 T1 O1 _=>?_⟩;refine⟨by show 0<=big;decide,?_⟩;have A1:Ah t S0 (S1++[SO.lst []]) S1.length []:=⟨T1.push,O1.push,c6,O1.len,T.lt⟩
 generalize S1.length=l at *;generalize S1++[SO.lst []]=S2 at *;have stay:∀ S,Ah t S0 S l []->wSs Δ [t9 kd,t10,t11 kd,t12] (BL Q) [some (.loc t),o1,some (.int n),o3,some (.loc l4),some (.loc l5),some (.int w),some (.loc l),none,none,none,none] S:=fun S A=>Fj hΔ hd A (fun _ h=>nomatch h) (by simp) q;refine⟨_,rfl,by show 0<=big;decide,?_⟩;have A2:=A1.push (o:=SO.lst []);refine⟨_,_,A2.on.keep _ _ n4 h4,c6,.inr (.inr rfl),_,rfl,?_⟩;rw[Dq];refine ifB (fun h1=>?_) (fun h1=>ifF rfl (l9 (stay _ A2)))
 have hp:0<ls.length:=by
  cases ls with
  | nil=>cases h1
  | cons _ _=>simp
 refine⟨_,rfl,by show 0<=big;decide,?_⟩;have A3:=A2.push (o:=SO.lst []);refine⟨_,_,A3.on.keep _ _ n5 h5,c6,.inr (.inr rfl),_,rfl,?_⟩;rw[Dq];refine ifB (fun h2=>?_) (fun h2=>l9 (stay _ A3))
 have hp2:0<rs.length:=by
  cases rs with
  | nil=>cases h2
  | cons _ _=>simp
 by_cases hw:1<w
 ·
  refine⟨_,rfl,_,rfl,ifF (decide_eq_false (by omega)) (l9 ?_)⟩;refine⟨_,rfl,_,rfl,ifF (decide_eq_false (by omega)) (l9 ?_)⟩;exact Ri hΔ hd A3 (fun _ h=>nomatch h) (by simp) (fun _=>rfl) L h4 h5 n4 n5 hp hp2 hn fun o9 fs S' A' hf fl=>Fj hΔ hd A' hf (by omega) q
 ·refine VZ (rest:=[t8b,t8c kd]) hΔ A3 L h4 h5 n4 n5 fun fs o8 S' A' hf fl=>?_;refine Va (rest:=[t8c kd]) hΔ A' hf fl L h4 h5 n4 n5 hp fun l' fs' S'' A'' hf' fl'=>?_;exact Ri hΔ hd A'' hf' fl' (fun z=>absurd z hw) L h4 h5 n4 n5 hp hp2 hn fun o9 fs S' A' hf fl=>Fj hΔ hd A' hf (by omega) q
noncomputable def BD(s:Sn):Prop:=∀{t:Nat} {g:Bool} {S:Sto} {Q:QE},TapeS S t->(∀(n:Nat) (es:EE) (S':Sto),Web2 n es->n<=31->es.length<=90->TapeS S' t->On t S S'->Q (j3 n es) S')->s [.loc t,.bl g] S Q
theorem LW(f:Nat->Bool)(i:Nat):(WP (i+1)).filter f=(WP i).filter f++if f i=true then [i] else []:=by
 rw[YS,YE]
 congr 1
 rw[YL];rfl
theorem Dw(f:Nat->Bool)(i:Nat):((WP i).filter f).length<=i:=by
 have:=Xv f (WP i)
 rwa [Xm]at this
theorem Em(hΔ:∀ f,MonoN (Δ f)){l3 n:Nat}{v:Nat}{cs:List Nat}{S:Sto}{ρ:EnvS}{Q:List SV->Sto->Prop}(h3:S[l3]?=some (.lst (natS cs)))(hl:cs.length=n)(hn:n<=31)(hρ:ρ=[none,some (.loc l3)])
 (q:Q (natS ((WP n).filter fun k=>decide (cs.getD k 0=v))) S):u9 (fun _=>True) (.nm 0) (wEo Δ (.yes (.cmp .Eq (.ix (.var 1) (.var 0)) (.c (.int v))))).2 (wEx Δ (.var 0)).1 ρ Q (C0 0 (n:Int)) [] S:=by
 subst hρ;refine j7 (j5 hΔ _).2 (a7 hΔ _).1 (fun i ys S2=>S2=S/\ys=natS ((WP i).filter fun k=>decide (cs.getD k 0=v))) ⟨rfl,rfl⟩ (fun _ _ _ _=>trivial) ?_ ?_
 ·rintro i x ys S2 hx ⟨rfl,rfl⟩;obtain⟨rfl,hi⟩:=Am hx;rw[YZ]at hi ⊢;have hil:i<cs.length:=by omega
  have hs:=LW (fun k=>decide (cs.getD k 0=v)) i;have hlen:=Dw (fun k=>decide (cs.getD k 0=v)) i;have hg:cs.getD i 0=cs[i]:=by rw[Wk,W0 hil];rfl
  refine⟨_,rfl,_,rfl,_,SV.int (cs[i]:Nat),c5 h3,i7 (BA (W0 hil)),_,rfl,?_⟩;refine ifD (fun h=>?_) (fun h=>?_)
  ·have h:cs[i]=v:=by have:((cs[i]:Nat):Int)=(v:Int):=h;omega
   rw[if_pos (decide_eq_true (hg.trans h))]at hs;exact⟨_,rfl,by rw[c9];show _<100000;omega,rfl,by rw[hs,u6];rfl⟩
  ·have h:¬ cs[i]=v:=fun z=>h (by show((cs[i]:Nat):Int)=(v:Int);omega);rw[if_neg (by simp only[hg];simpa using h),XF]at hs;exact⟨rfl,by rw[hs]⟩
 ·rintro ys S2 ⟨rfl,rfl⟩;rw[BN,show((n:Int) - 0).toNat=n by omega];exact q
theorem OS(hΔ:∀ f,MonoN (Δ f))(hd:Bk (Δ kd)){t n:Nat}{S0 S:Sto}{Q:QE}{o1:Option SV}(T:TapeS S t)(O:On t S0 S)(hn:n<=31)
 (q:∀(es:EE) (S':Sto),Web2 n es->es.length<=90->TapeS S' t->On t S0 S'->Q (j3 n es) S'):
 wSs Δ [t3 kd,t4,t5,t6 kd,t7,t8 kd,t9 kd,t10,t11 kd,t12] (BL Q) [some (.loc t),o1,some (.int n),none,none,none,none,none,none,none,none,none] S:=by
 refine⟨_,rfl,_,rfl,⟨by omega,by omega⟩,?_⟩;refine j7 (j5 hΔ _).2 (a7 hΔ _).1 (fun i ys S2=>TapeS S2 t/\On t S0 S2/\∃ cs:List Nat,ys=natS cs/\cs.length=i/\∀ v∈cs,v<2) ⟨T,O,[],rfl,rfl,(fun _ h=>nomatch h)⟩ (fun _ _ _ _=>trivial) ?_ ?_
 ·rintro i x ys S2 hx ⟨T2,O2,cs,rfl,cl,c2⟩;obtain⟨rfl,hi⟩:=Am hx;refine⟨_,rfl,hd T2 (by decide) (by decide) fun r S3 r0 r1 T3 O3 _=>⟨by rw[c9];show _<100000;omega,T3,O2.trans O3,cs++[r.toNat],?_,by rw[W3,cl];rfl,fun v hv=>?_⟩⟩
  ·rw[u6];have:(r.toNat:Int)=r:=YX r0;show _=natS cs++[SV.int (r.toNat:Int)];rw[this]
  ·rcases WJ.mp hv with hv | hv
   ·exact c2 v hv
   ·rw[W6.mp hv];omega
 ·rintro ys S2 ⟨T2,O2,cs,rfl,cl,c2⟩;rw[BN,show((n:Int) - 0).toNat=n by omega]at cl
  have c2':∀ p,cs.getD p 0<2:=fun p=>by
   rw[Wk];cases hp:cs[p]? with
   | none=>show 0<2;omega
   | some v=>exact c2 v (W5 hp)
  have T3:=T2.push (o:=SO.lst (natS cs));have O3:=O2.push (o:=SO.lst (natS cs));have h3:(S2++[SO.lst (natS cs)])[S2.length]?=some (.lst (natS cs)):=c6;have n3:S2.length≠t:=by have:=T2.lt;omega
  generalize S2.length=l3 at *;generalize S2++[SO.lst (natS cs)]=S3 at *;refine⟨_,rfl,_,rfl,⟨by omega,by omega⟩,?_⟩;refine Em (v:=0) hΔ h3 cl hn rfl ?_;have T4:=T3.push (o:=SO.lst (natS ((WP n).filter fun k=>decide (cs.getD k 0=0))));have O4:=O3.push (o:=SO.lst (natS ((WP n).filter fun k=>decide (cs.getD k 0=0))));have h4:(S3++[SO.lst (natS ((WP n).filter fun k=>decide (cs.getD k 0=0)))])[S3.length]?=some (.lst (natS ((WP n).filter fun k=>decide (cs.getD k 0=0)))):=c6;have h34:=f7 (o:=SO.lst (natS ((WP n).filter fun k=>decide (cs.getD k 0=0)))) h3;have n4:S3.length≠t:=by have:=T3.lt;omega
  generalize S3.length=l4 at *;generalize S3++[SO.lst (natS ((WP n).filter fun k=>decide (cs.getD k 0=0)))]=S4 at *;refine⟨_,rfl,_,rfl,⟨by omega,by omega⟩,?_⟩;refine Em (v:=1) hΔ h34 cl hn rfl ?_;have T5:=T4.push (o:=SO.lst (natS ((WP n).filter fun k=>decide (cs.getD k 0=1))));have O5:=O4.push (o:=SO.lst (natS ((WP n).filter fun k=>decide (cs.getD k 0=1))));have h5:(S4++[SO.lst (natS ((WP n).filter fun k=>decide (cs.getD k 0=1)))])[S4.length]?=some (.lst (natS ((WP n).filter fun k=>decide (cs.getD k 0=1)))):=c6;have h45:=f7 (o:=SO.lst (natS ((WP n).filter fun k=>decide (cs.getD k 0=1)))) h4;have n5:S4.length≠t:=by have:=T4.lt;omega
  generalize S4.length=l5 at *;generalize S4++[SO.lst (natS ((WP n).filter fun k=>decide (cs.getD k 0=1)))]=S5 at *
  have L:Lr n (fun k=>cs.getD k 0) ((WP n).filter fun k=>decide (cs.getD k 0=0)) ((WP n).filter fun k=>decide (cs.getD k 0=1)):=by
   refine⟨fun a ha=>?_,fun b hb=>?_,Wj (Dw _ _) hn,Wj (Dw _ _) hn⟩
   ·have:=X4.mp ha;exact⟨X5.mp this.1,of_decide_eq_true this.2⟩
   ·have:=X4.mp hb;exact⟨X5.mp this.1,of_decide_eq_true this.2⟩
  exact Ql hΔ hd T5 L h45 h5 n4 n5 hn fun es S' he hl T' O'=>q es S' ⟨fun e h=>⟨(he e h).1,(he e h).2.1⟩,by omega,by omega,⟨fun k=>cs.getD k 0,c2',fun e h=>(he e h).2.2⟩⟩ hl T' (O5.trans O')
theorem Iq(hΔ:∀ f,MonoN (Δ f))(hd:Bk (Δ kd)){D:Df}(hb:D.body=HU kd)(hN:D.N.length=12)(hp:D.ps.length=2):BD (i6 Δ D):=by
 intro t g S Q T q;unfold i6;rw[hb,hN];refine⟨hp.symm,?_⟩;refine⟨_,rfl,hd T (by decide) (by decide) fun r1 S2 a0 a1 T2 O2 _=>⟨_,rfl,hd T2 (by decide) (by decide) fun r2 S3 b0 b1 T3 O3 _=>⟨by show 2<=big;decide,_,rfl,_,(if g=true then .int (8+r2) else .int r1),c5 c6,?_⟩⟩⟩;have O:=(O2.trans O3).push (o := .lst [.int r1,.int (8+r2)])
 have key:∀(z:Int) (n:Nat),z=n->n<=31->wSs Δ [t3 kd,t4,t5,t6 kd,t7,t8 kd,t9 kd,t10,t11 kd,t12] (BL Q) [some (.loc t),some (.bl g),some (.int z),none,none,none,none,none,none,none,none,none] (S3++[SO.lst [.int r1,.int (8+r2)]]):=by
  rintro _ n rfl hn;exact OS hΔ hd T3.push O hn fun es S' W hl T' O'=>q n es S' W hn hl T' O'
 cases g with
 | false=>exact⟨rfl,key r1 r1.toNat (by omega) (by omega)⟩
 | true=>exact⟨rfl,key (8+r2) (8+r2).toNat (by omega) (by omega)⟩
noncomputable def En(k:Nat):List Stm:=[(.asg (.nm 2) (.call k (.cons (.var 0) (.cons (.var 1) .nil)))),(.loop (.nm 3) (.rng1 (.c (.int 3))) [(.iff (.eqt0 (.ix (.var 2) (.c (.int 1))) (.tup .nil)) [(.asg (.nm 2) (.call k (.cons (.var 0) (.cons (.var 1) .nil))))] [])]),(.ret (.var 2))]
theorem HV(hΔ:∀ f,MonoN (Δ f)){k:Nat}(h1:BD (Δ k)){D:Df}(hb:D.body=En k)(hN:D.N.length=4)(hp:D.ps.length=2):BD (i6 Δ D):=by
 intro t g S Q T q;unfold i6;rw[hb,hN];refine⟨hp.symm,_,rfl,_,rfl,h1 T fun n es S1 W hn hl T1 O1=>?_⟩;refine⟨_,rfl,⟨by decide,by decide⟩,?_⟩;refine w5 (i8 hΔ _) (fun i ρ S'=>∃(n:Nat) (es:EE) (o3:Option SV),ρ=[some (.loc t),some (.bl g),some (j3 n es),o3]/\Web2 n es/\n<=31/\es.length<=90/\TapeS S' t/\On t S S') ⟨n,es,none,rfl,W,hn,hl,T1,O1⟩ (fun _ _ _ _=>trivial) ?_ ?_
 ·rintro i x ρ S2 hx ⟨n,es,o3,rfl,W,hn,hl,T2,O2⟩;refine⟨_,rfl,_,_,rfl,rfl,by show 0<=big;decide,_,rfl,rfl,_,rfl,ifB (fun h=>?_) (fun h=>l9 ⟨n,es,_,rfl,W,hn,hl,T2,O2⟩)⟩;exact⟨_,rfl,_,rfl,h1 T2 fun n' es' S3 W' hn' hl' T3 O3=>⟨n',es',_,rfl,W',hn',hl',T3,O2.trans O3⟩⟩
 ·rintro ρ S2 ⟨n,es,o3,rfl,W,hn,hl,T2,O2⟩;exact⟨_,rfl,q n es S2 W hn hl T2 O2⟩
end
open PySem L2
theorem HW(xs:List Nat):FB (natS xs) (natS xs)=true:=by
 unfold FB natS;simp only[beq_self_eq_true,ZX];rw[Wa];intro p hp;rw[List.zip_map']at hp;obtain⟨i,_,rfl⟩:=WZ.mp hp;simp[eqF]
theorem Jz{ns:List Int}(nd:ns.Nodup):AD ns=ns:=by
 have go:∀ k,k<=ns.length->AD (ns.take k)=ns.take k:=by
  intro k
  induction k with
  | zero=>intro _;rfl
  | succ k ih=>
    intro hk;have hkl:k<ns.length:=by omega
    rw[Ws,W0 hkl];show AD (ns.take k++[ns[k]])=ns.take k++[ns[k]];rw[Ef,ih (by omega)];unfold PyProof.Rows.step_dedup;rw[if_neg];rw[Xs];rintro⟨x,hx,hb⟩;have hb:x=ns[k]:=by simpa using hb
    obtain⟨j,hj⟩:=WW hx
    have hjl:j<k:=by
     have:=(gM hj).1;rw[WY]at this;omega
    rw[XR hjl]at hj;have:=(Wt.mp nd) j k (by omega) hkl hjl;rw[(gM hj).2]at this;exact this hb
 have:=go ns.length (WB _)
 rwa [Wu]at this
theorem Rj{xs:List Nat}(nd:xs.Nodup):(iN xs).Nodup:=by
 unfold iN;exact Y0.mpr (nd.imp fun{a b} h z=>h (XN.mp z))
theorem U1{xs:List Nat}(h:xs.Pairwise (·<·)):srt (AD (iN xs))=iN xs:=by
 have nd:=Rj (Jw h);rw[Jz nd];refine(F4 (List.Perm.refl _) ?_).symm;unfold iN;exact Y0.mpr (h.imp fun{a b} h=>by show(a:Int)<=b;omega)
theorem Ir(xs:List Nat):E6 (natS xs)=some (iN xs):=Jv xs
section
variable{Δ:Nat->Sn}
noncomputable def Iu:List Stm:=[(.iff (.or (.not (.bi .isi (.cons (.var 0) (.cons (.tyc .list) .nil)))) (.not (.bi .all (.cons (.comp ["_law_one"] [] [] (.nm 0) (.seq (.var 0)) .no (.and (.bi .isi (.cons (.var 0) (.cons (.tyc .int) .nil))) (.not (.bi .isi (.cons (.var 0) (.cons (.tyc .bool) .nil)))))) .nil)))) [(.ret (.c (.bl false)))] []),(.ret (.and (.cmp .Eq (.var 0) (.srtset (.var 0))) (.bi .all (.cons (.comp ["_law_one"] ["_law_below"] [1] (.nm 0) (.seq (.var 0)) .no (.chn .LtE .Lt (.c (.int 0)) (.var 0) (.var 1))) .nil))))]
noncomputable def OT(s:Sn):Prop:=∀{l b:Nat} {xs:List Nat} {S:Sto} {Q:QE},S[l]?=some (.lst (natS xs))->xs.Pairwise (·<·)->(∀ x∈xs,x<b)->xs.length<=120->(∀ S',Gw S S'->Q (.bl true) S')->s [.loc l,.int b] S Q
theorem LX(hΔ:∀ f,MonoN (Δ f)){D:Df}(hb:D.body=Iu)(hN:D.N.length=2)(hp:D.ps.length=2):OT (i6 Δ D):=by
 intro l b xs S Q h up hlt hl q;unfold i6;rw[hb,hN];refine⟨hp.symm,_,rfl,_,nofun,O6 h,_,rfl,ifF rfl ⟨_,rfl,_,c5 h,?_⟩⟩;refine HD hΔ (b:=true) (by rw[c9];omega) (fun S' G=>by show S'[l]?=S[l]?;rw[h,G.keep _ _ h]) ?_ ?_
 ·intro i y S' hy G;obtain⟨x,_,rfl⟩:=y0 hy;exact⟨_,rfl,_,nofun,rfl,_,rfl,ifT rfl ⟨_,rfl,_,nofun,rfl,_,rfl,rfl,G⟩⟩
 intro S1 G1;refine⟨_,_,nofun,c5 c6,OD _ _,_,rfl,ifF (by rw[Jr];rfl) (l9 ?_)⟩;have G2:=G1.push (o:=SO.lst (WC (natS xs).length (.bl true)));generalize S1++[SO.lst (WC (natS xs).length (.bl true))]=S2 at *;have h2:=G2.keep _ _ h;refine⟨_,rfl,_,rfl,_,_,nofun,c5 h2,Ir xs,by unfold iN;rw[W2];omega,?_⟩;rw[U1 up,DK];refine⟨_,_,f7 h2,c6,.inl ⟨BB _,BB _⟩,_,rfl,ifT (HW xs) ?_⟩;have h3:=f7 (o:=SO.lst (natS xs)) h2;have G3:=G2.push (o:=SO.lst (natS xs));generalize S2++[SO.lst (natS xs)]=S3 at *;refine⟨_,rfl,_,c5 h3,?_⟩;refine HD hΔ (b:=true) (by rw[c9];omega) (fun S' G=>by show S'[l]?=S3[l]?;rw[h3,G.keep _ _ h3]) ?_ ?_
 ·intro i y S' hy G;obtain⟨x,hx,rfl⟩:=y0 hy;have:=hlt x (W5 hx);refine⟨_,rfl,_,rfl,ifT (decide_eq_true (YD x)) ⟨_,rfl,?_,G⟩⟩;exact congrArg SV.bl (decide_eq_true (by show(x:Int)<(b:Int);omega))
 intro S4 G4;refine⟨_,_,nofun,c5 c6,OD _ _,?_⟩;rw[Jr];exact q _ (G3.trans G4).push
noncomputable def Fk(s:Sn):Prop:=∀{l b:Nat} {xs:List Nat} {S:Sto} {Q:QE},S[l]?=some (.lst (natS xs))->xs.Pairwise (·<·)->(∀ x∈xs,x<b)->xs.length<=62->(∀ S',Gw S S'->Q (.bl true) S')->s [.loc l,.int b] S Q
theorem OU(hΔ:∀ f,MonoN (Δ f)){D:Df}(hb:D.body=Iu)(hN:D.N.length=2)(hp:D.ps.length=2):Fk (i6 Δ D):=fun h up hlt hl q=>LX hΔ hb hN hp h up hlt (Wj hl (by decide)) q
noncomputable def OV:List Stm:=[(.asg (.nm 2) (.lst .nil)),(.loop (.nm 3) (.seq (.var 1)) [(.expr (.mt .extT (.var 2) (.cons (.ix (.ix (.var 0) (.c (.int 1))) (.var 3)) .nil)))]),(.ret (.cmp .Eq (.lenset (.var 2)) (.bi .len (.cons (.var 2) .nil))))]
noncomputable def Fl(s:Sn):Prop:=∀{n l:Nat} {es:EE} {ts:List Nat} {S:Sto} {Q:QE},S[l]?=some (.lst (natS ts))->(∀ t∈ts,t<es.length)->ts.Nodup->Apart es ts->(∀ e∈es,e.1<e.2)->ts.length<=62->(∀ S',Gw S S'->Q (.bl true) S')->s [j3 n es,.loc l] S Q
noncomputable def endsT(es:EE)(ts:List Nat):List Nat:=ts.flatMap fun t=>[(f9 es t).1,(f9 es t).2]
theorem Dx(es:EE):∀ ts:List Nat,(endsT es ts).length=2 * ts.length
 | []=>rfl
 | t::ts=>by
   show([(f9 es t).1,(f9 es t).2]++endsT es ts).length=_;rw[W3,Dx es ts,Wz];simp;omega
theorem Qm{es:EE}{ts:List Nat}(nd:ts.Nodup)(hl:∀ t∈ts,t<es.length)(ha:Apart es ts)(hu:∀ e∈es,e.1<e.2):(endsT es ts).Nodup:=by
 induction ts with
 | nil=>exact Z2
 | cons t ts ih=>
   rw[XG]at nd;show([(f9 es t).1,(f9 es t).2]++endsT es ts).Nodup;have he:=hu _ (W5 (AL (hl t (WK ..))));rw[Xd];refine⟨by simp;omega,ih nd.2 (fun t' h=>hl t' (W9 _ h)) fun a ha' b hb'=>ha a (W9 _ ha') b (W9 _ hb'),fun a hma b hmb z=>?_⟩;subst z;obtain⟨t',ht',hm⟩:=Yo.mp hmb;have e1:a=(f9 es t).1\/a=(f9 es t).2:=by simpa using hma
   have e2:a=(f9 es t').1\/a=(f9 es t').2:=by simpa using hm
   have:=ha t (WK ..) t' (W9 _ ht') a e1 e2;exact nd.1 (this▸ht')
theorem OW(hΔ:∀ f,MonoN (Δ f)){D:Df}(hb:D.body=OV)(hN:D.N.length=4)(hp:D.ps.length=2):Fl (i6 Δ D):=by
 intro n l es ts S Q h hlt nd ha hu hl q;unfold i6;rw[hb,hN];refine⟨hp.symm,by show 0<=big;decide,?_⟩;have h1:=f7 (o:=SO.lst []) h;have p1:(S++[SO.lst []])[S.length]?=some (.lst (natS [])):=c6;have G1:Gw S (S++[SO.lst []]):=(Gw.refl S).push;have nl:l≠S.length:=WR (m7 h);have l0:S.length<=S.length:=WB _;generalize hk:S.length=k at p1 nl;generalize S++[SO.lst []]=S1 at *;refine⟨_,rfl,_,c5 h1,?_⟩;refine w5 (i8 hΔ _) (fun i ρ S2=>∃ o3,ρ=[some (j3 n es),some (.loc l),some (.loc k),o3]/\Gw S S2/\S2[l]?=some (.lst (natS ts))/\S2[k]?=some (.lst (natS (endsT es (ts.take i))))) ⟨none,rfl,G1,h1,p1⟩ (fun _ _ S2 ⟨_,_,_,hh,_⟩=>hh.trans h1.symm) ?_ ?_
 ·rintro i x ρ S2 hx ⟨o3,rfl,G2,h2,p2⟩;obtain⟨t,ht,rfl⟩:=y0 hx;have hil:=(gM ht).1;have htl:=hlt t (W5 ht);have he:=AL htl;refine⟨_,rfl,⟨_,_,rfl,p2⟩,_,rfl,_,_,rfl,rfl,_,rfl,_,pairS (f9 es t),rfl,i7 (by rw[WG,he];rfl),?_⟩;refine⟨_,[SV.int (f9 es t).1,SV.int (f9 es t).2],rfl,p2,?_,?_⟩
  ·rw[c9,Dx,WY];show _+2<=100000;omega
  ·refine⟨_,rfl,G2.put (by omega),by rw[i9 (Ne.symm nl)];exact h2,?_⟩;rw[j6 p2,Ws,ht]
   congr 2
   unfold endsT;rw[List.flatMap_append,u6];rfl
 ·rintro ρ S2 ⟨o3,rfl,G2,h2,p2⟩;rw[c9,Wu]at p2;have en:=Qm nd hlt ha hu;refine⟨_,rfl,_,_,nofun,c5 p2,Ir _,by unfold iN;rw[W2,Dx];omega,_,rfl,_,c5 p2,?_⟩;rw[Jz (Rj en)];have e:(((iN (endsT es ts)).length:Nat):Int)=((natS (endsT es ts)).length:Nat):=by unfold iN;rw[W2,c9]
  show Q (.bl (decide ((((iN (endsT es ts)).length:Nat):Int)=((natS (endsT es ts)).length:Nat)))) S2;rw[decide_eq_true e];exact q S2 G2
end
open PySem L2
structure Sl(n:Nat)(es:EE)(c:Nat->Nat)(sd:List (Option Nat))(f:Nat->Nat)(op:Nat->Nat->Prop):Prop where
 ls:sd.length=n
 val:∀ p v,sd[p]?=some (some v)->v=(c p+f p) % 2
 cl:∀(t:Nat) (e:Nat×Nat) (p:Nat),es[t]?=some e->(p=e.1\/p=e.2)->IsSet sd p->¬ op p t->IsSet sd (farE e p)/\f (farE e p)=f p
section
variable{n:Nat}{es:EE}{c f:Nat->Nat}{sd:List (Option Nat)}{op op':Nat->Nat->Prop}
theorem Sl.more(G:Sl n es c sd f op)(h:∀ q i,op q i->∀ e,es[i]?=some e->(q=e.1\/q=e.2)->op' q i):Sl n es c sd f op':=⟨G.ls,G.val,fun t e p he hp hs ho=>G.cl t e p he hp hs fun z=>ho (h p t z e he hp)⟩
theorem Sl.close(G:Sl n es c sd f op){t p:Nat}{e:Nat×Nat}(he:es[t]?=some e)(hf:IsSet sd (farE e p))(hfe:f (farE e p)=f p)(ho:∀ q i,op q i->op' q i\/(q=p/\i=t)):Sl n es c sd f op':=⟨G.ls,G.val,fun t' e' p' he' hp' hs' ho'=>by
 by_cases z:op p' t'
 ·rcases ho p' t' z with y | ⟨y,x⟩
  ·exact absurd y ho'
  ·subst y;subst x;rw[he]at he';cases he';exact⟨hf,hfe⟩
 ·exact G.cl t' e' p' he' hp' hs' z⟩
theorem Sl.give(G:Sl n es c sd f op)(H:Sdd n es c){t p v:Nat}{e:Nat×Nat}(he:es[t]?=some e)(hp:p=e.1\/p=e.2)(hv:sd[p]?=some (some v))(hn:sd[farE e p]?=some none)(ho:∀ q i,op q i->op' q i\/(q=p/\i=t))(hw:∀ i,op' (farE e p) i):Sl n es c (sd.set (farE e p) (some (1 - v))) (upd f (farE e p) (f p)) op':=by
 have hl:=(gM hn).1;have ns:∀ q,IsSet sd q->q≠farE e p:=fun q ⟨u,hu⟩ z=>by rw[z,hn]at hu;cases hu
 refine⟨by rw[WU];exact G.ls,fun q u hu=>?_,fun t' e' q he' hq hs ho'=>?_⟩
 ·by_cases z:q=farE e p
  ·subst z;rw[Wg hl]at hu;cases hu;rw[Bn,G.val p v hv];have h1:=(H.far he hp).2.1;have h2:=H.two p;omega
  ·rw[Wp (Ne.symm z)]at hu;rw[upd_ne z];exact G.val q u hu
 ·have hqf:q≠farE e p:=fun z=>by rw[z]at ho';exact ho' (hw t')
  have hsq:IsSet sd q:=by obtain⟨u,hu⟩:=hs;rw[Wp (Ne.symm hqf)]at hu;exact⟨u,hu⟩
  rw[upd_ne hqf];by_cases z:op q t'
  ·rcases ho q t' z with y | ⟨y,x⟩
   ·exact absurd y ho'
   ·subst y;subst x;rw[he]at he';cases he';rw[Bn];exact⟨⟨_,Wg hl⟩,rfl⟩
  ·obtain⟨a,b⟩:=G.cl t' e' q he' hq hsq z;rw[upd_ne (ns _ a)];exact⟨AE hl a,b⟩
theorem Sl.begin(G:Sl n es c sd f fun _ _=>False){s:Nat}(hn:sd[s]?=some none)(h2:c s<2)(hw:∀ i,op' s i):Sl n es c (sd.set s (some 0)) (upd f s (c s)) op':=by
 have hl:=(gM hn).1;have ns:∀ q,IsSet sd q->q≠s:=fun q ⟨u,hu⟩ z=>by rw[z,hn]at hu;cases hu
 refine⟨by rw[WU];exact G.ls,fun q u hu=>?_,fun t' e' q he' hq hs ho'=>?_⟩
 ·by_cases z:q=s
  ·subst z;rw[Wg hl]at hu;cases hu;rw[Bn];omega
  ·rw[Wp (Ne.symm z)]at hu;rw[upd_ne z];exact G.val q u hu
 ·have hqf:q≠s:=fun z=>by rw[z]at ho';exact ho' (hw t')
  have hsq:IsSet sd q:=by obtain⟨u,hu⟩:=hs;rw[Wp (Ne.symm hqf)]at hu;exact⟨u,hu⟩
  obtain⟨a,b⟩:=G.cl t' e' q he' hq hsq id;rw[upd_ne hqf,upd_ne (ns _ a)];exact⟨AE hl a,b⟩
end
section
variable{Δ:Nat->Sn}{kt kf:Nat}
noncomputable def GI2(n:Nat)(es:EE)(c:Nat->Nat)(f0 a b w p m:Nat)(S0:Sto)(sd0:List (Option Nat))(l:Nat)(o:SO)(ts:List Nat)(S:Sto):Prop:=
 S[l]?=some o/\∃ sd bk f wt,Sl n es c sd f (fun q i=>q∈wt\/(q=p/\i∈ts))/\Gm a b w S0 S sd bk wt/\bk.length=n/\(∀ q∈wt,IsSet sd q/\f q=f0)/\IsSet sd p/\f p=f0/\2 * (n - sd.countP Xq)+wt.length<=m/\wt.length<=sd.countP Xq/\∀ q,IsSet sd0 q->IsSet sd q
theorem Iv(hf:AB (Δ kf)){n f0 s a b w p m j l:Nat}{o:SO}(la:l≠a)(lb:l≠b)(lw:l≠w){es:EE}{c:Nat->Nat}{e:Nat×Nat}{S0 S:Sto}{sd0:List (Option Nat)}{ts:List Nat}{D:EndsS}{o7:Option SV}(H:Sdd n es c)(hn:n<=1000)(he:es[j]?=some e)(hpe:p=e.1\/p=e.2)
 (I:GI2 n es c f0 a b w p m S0 sd0 l o (j::ts) S) (q:∀(o7:Option SV) (S':Sto),GI2 n es c f0 a b w p m S0 sd0 l o ts S'->D.nx [some (j3 n es),some (.int s),some (.loc a),some (.loc b),some (.loc w),some (.int p),some (.int j),o7] S'):
 wSs Δ (zin kf) D [some (j3 n es),some (.int s),some (.loc a),some (.loc b),some (.loc w),some (.int p),some (.int j),o7] S:=by
 obtain⟨hlo,sd,bk,f,wt,G,M,hbl,hwt,hp,hr,hc,hw,h0⟩:=I;obtain⟨hfl,hcf,hff,hfe,hpn⟩:=H.far he hpe;have hcn:=Y5 (p:=Xq) (l:=sd);rw[G.ls]at hcn
 have ho:∀(wt':List Nat),(∀ x∈wt,x∈wt')->∀ q i,(q∈wt\/(q=p/\i∈j::ts))->(q∈wt'\/(q=p/\i∈ts))\/(q=p/\i=j):=by
  rintro wt' hs q i (h | ⟨h,h2⟩)
  ·exact .inl (.inl (hs _ h))
  ·rcases WN.mp h2 with h2 | h2
   ·exact .inr ⟨h,h2⟩
   ·exact .inl (.inr ⟨h,h2⟩)
 refine⟨_,rfl,_,rfl,_,rfl,hf he hpe ?_⟩;have hsl:farE e p<sd.length:=by rw[G.ls];exact hfl
 cases hx:sd[farE e p]'hsl with
 | some v=>
   have h:sd[farE e p]?=some (some v):=by rw[W0 hsl,hx]
   refine⟨_,rfl,_,rfl,_,_,c5 M.ha,i7 (l7 h),.inl ⟨rfl,_,rfl,ifF rfl ?_⟩⟩;refine q _ _ ⟨hlo,sd,bk,f,wt,G.close he ⟨v,h⟩ ?_ (ho wt fun _ h=>h),M,hbl,hwt,hp,hr,hc,hw,h0⟩;by_cases z:farE e p∈wt
   ·rw[(hwt _ z).2,hr]
   ·have hne:farE e p≠p:=fun y=>by rw[y]at hcf;have:=H.two p;omega
    have:=(G.cl j e (farE e p) he hfe ⟨v,h⟩ (fun y=>y.elim z fun y=>hne y.1)).2;rw[hff]at this;exact this.symm
 | none=>
   have h:sd[farE e p]?=some none:=by rw[W0 hsl,hx]
   obtain⟨v,hv⟩:=hp;have hv2:v<2:=by rw[G.val p v hv];omega
   refine⟨_,rfl,_,rfl,_,_,c5 M.ha,i7 (l7 h),.inl ⟨rfl,_,rfl,ifT rfl ?_⟩⟩;refine⟨_,rfl,_,rfl,_,_,c5 M.ha,i7 (l7 hv),_,rfl,_,rfl,_,_,M.ha,Ct (by rw[AF];exact hsl),?_⟩
   have e2:(optsS sd).set (farE e p) ((fun(i j:Int)=>SV.int (i - j)) 1 v)=optsS (sd.set (farE e p) (some (1 - v))):=by
    show(optsS sd).set _ (.int ((1:Int) - (v:Int)))=_;rw[show(1:Int) - (v:Int)=((1 - v:Nat):Int) by omega,Cu]
   rw[e2];have M1:=M.seta (sd':=sd.set (farE e p) (some (1 - v)));refine⟨_,rfl,_,rfl,_,rfl,_,_,M1.hb,Ct (by rw[AF,hbl];exact hfl),?_⟩;rw[Cu];have M2:=M1.setb (bk':=bk.set (farE e p) (some j));refine⟨_,rfl,⟨_,_,rfl,M2.hw⟩,_,rfl,_,M2.hw,by rw[c9];show _<100000;omega,?_⟩;have M3:=M2.setw (wt':=wt++[farE e p]);rw[u6]at M3;have hns:∀ q,IsSet sd q->q≠farE e p:=fun q ⟨v,hv⟩ z=>by rw[z,h]at hv;cases hv
   have hlt:sd.countP Xq<n:=by
    have h1:=Y5 (p:=Xq) (l:=sd.set (farE e p) (some 0));rw[Bx h,WU,G.ls]at h1;exact h1
   refine q _ _ ⟨by rw[i9 (Ne.symm lw),i9 (Ne.symm lb),i9 (Ne.symm la)];exact hlo,_,_,_,wt++[farE e p],G.give H he hpe hv h (ho _ fun _ h=>WQ _ h) (fun _ => .inl (by simp)),M3,by rw[WU];exact hbl,fun y hy=>?_,AE hsl ⟨v,hv⟩,?_,?_,?_,fun y hy=>AE hsl (h0 y hy)⟩
   ·rcases WJ.mp hy with hy | hy
    ·rw[upd_ne (hns _ (hwt y hy).1)];exact⟨AE hsl (hwt y hy).1,(hwt y hy).2⟩
    ·rw[W6.mp hy,Bn];exact⟨⟨_,Wg hsl⟩,hr⟩
   ·rw[upd_ne (hns _ ⟨v,hv⟩)];exact hr
   ·rw[Bx h,W3];simp;omega
   ·rw[Bx h,W3];simp;omega
noncomputable def Fm(s:Sn):Prop:=∀{n st a b:Nat} {es:EE} {c f:Nat->Nat} {sd bk:List (Option Nat)} {S:Sto} {Q:QE},Sdd n es c->es.length<=5000->n<=1000->Sl n es c sd f (fun _ _=>False)->bk.length=n->sd[st]?=some none->a≠b->S[a]?=some (.lst (optsS sd))->S[b]?=some (.lst (optsS bk))->
 (∀(sd' bk':List (Option Nat)) (f':Nat->Nat) (S':Sto),Sl n es c sd' f' (fun _ _=>False)->bk'.length=n->(∀ q,IsSet sd q->IsSet sd' q)->IsSet sd' st->S'[a]?=some (.lst (optsS sd'))->S'[b]?=some (.lst (optsS bk'))->S.length<=S'.length->(∀(k:Nat) (o:SO),k≠a->k≠b->S[k]?=some o->S'[k]?=some o)->Q .non S')->s [j3 n es,.int st,.loc a,.loc b] S Q
theorem OX(hΔ:∀ f,MonoN (Δ f))(ht:B8 (Δ kt))(hf:AB (Δ kf)){D:Df}(hb':D.body=Rc kt kf)(hN:D.N.length=8)(hps:D.ps.length=4):Fm (i6 Δ D):=by
 intro n st a b es c f sd bk S Q H hel hn G0 hbl hst ab hSa hSb q;have hsl:st<sd.length:=(gM hst).1;unfold i6;rw[hb',hN];refine⟨hps.symm,_,rfl,_,rfl,_,_,hSa,Ct (by rw[AF];exact hsl),?_⟩;have e0:(optsS sd).set st (.int 0)=optsS (sd.set st (some 0)):=Cu (v:=0);rw[e0];refine⟨_,rfl,by show 1<=big;decide,?_⟩;generalize hw0:(S.set a (.lst (optsS (sd.set st (some 0))))).length=w;have hw1:S.length=w:=by rw[<-hw0,WU]
 have M0:Gm a b w S (S.set a (.lst (optsS (sd.set st (some 0))))++[.lst (natS [st])]) (sd.set st (some 0)) bk [st]:=
  ⟨f7 (j6 hSa),f7 (by rw[i9 ab];exact hSb),by rw[<-hw0];exact c6,by simp,fun k o h1 h2 h=>f7 (by rw[i9 (Ne.symm h1)];exact h),ab,m7 hSa,m7 hSb,by omega⟩
 refine⟨fun m ρ S'=>∃ sd' bk' f' wt o5 o6 o7,ρ=[some (j3 n es),some (.int st),some (.loc a),some (.loc b),some (.loc w),o5,o6,o7]/\Sl n es c sd' f' (fun q _=>q∈wt)/\Gm a b w S S' sd' bk' wt/\bk'.length=n/\(∀ q∈wt,IsSet sd' q/\f' q=c st)/\2 * (n - sd'.countP Xq)+wt.length<=m/\wt.length<=sd'.countP Xq/\∀ q,IsSet (sd.set st (some 0)) q->IsSet sd' q,
  ⟨_,_,_,_,[st],none,none,none,rfl,G0.begin hst (H.two st) (fun _=>by simp),M0,hbl,fun q hq=>?_,WB _,by rw[Bx hst];simp,fun _ h=>h⟩,?_⟩
 ·rw[W6.mp hq,Bn];exact⟨⟨_,Wg hsl⟩,rfl⟩
 rintro m ρ S1 ⟨sd1,bk1,f1,wt,o5,o6,o7,rfl,G,M,hbl1,hwt,hm,hwc,hk⟩;refine⟨_,rfl,_,FW M.hw,?_⟩;rcases D3 wt with rfl | ⟨wt',p,rfl⟩
 ·refine ifF rfl ?_;exact q sd1 bk1 f1 S1 (G.more fun _ _ h=>by simp at h) hbl1 (fun y hy=>hk y (AE hsl hy)) (hk st ⟨_,Wg hsl⟩) M.ha M.hb M.len M.keep
 refine ifT (by rw[u6];simp[natS]) (DG fun Ew hw _=>?_);refine⟨_,rfl,⟨_,_,rfl,M.hw⟩,_,_,M.hw,Ei,?_⟩;rw[HC];have M1:=M.setw (wt':=wt');obtain⟨⟨v,hv⟩,hpr⟩:=hwt p (by simp);have hpn:p<n:=by rw[<-G.ls];exact(gM hv).1
 rw[W3]at hm hwc;simp only[Wz,Y3]at hm hwc;refine⟨_,rfl,_,rfl,ht hel hpn ⟨_,c5 c6,?_⟩⟩;have M2:=M1.push (o:=SO.lst (natS (h9 es p es.length)));have hnew:=c6 (S:=S1.set w (.lst (natS wt'))) (o:=SO.lst (natS (h9 es p es.length)));have l1:=m7 M1.ha;have l2:=m7 M1.hb;have l3:=m7 M1.hw;generalize (S1.set w (.lst (natS wt'))).length=l at *;generalize (S1.set w (.lst (natS wt')))++[SO.lst (natS (h9 es p es.length))]=S3 at *
 refine BM (i8 hΔ _) (fun i ρ S2=>∃ o6 o7,ρ=[some (j3 n es),some (.int st),some (.loc a),some (.loc b),some (.loc w),some (.int p),o6,o7]/\GI2 n es c (c st) a b w p (m - 1) S (sd.set st (some 0)) l (.lst (natS (h9 es p es.length))) ((h9 es p es.length).drop i) S2)
  ⟨o6,o7,rfl,hnew,sd1,bk1,f1,wt',G.more (fun y i h e he hye=>?_),M2,hbl1,fun y hy=>hwt y (by simp[hy]),⟨v,hv⟩,hpr,by omega,by omega,hk⟩ ?_ ?_ ?_
 ·rcases WJ.mp h with h | h
  ·exact .inl h
  ·have:=W6.mp h;exact .inr ⟨this,mem_tiesAt.mpr ⟨e,he,by rw[<-this];exact hye.imp Eq.symm Eq.symm⟩⟩
 ·rintro i ρ S2 ⟨_,_,_,h,_⟩;show S2[l]?=_;rw[h,hnew]
 ·rintro i x ρ S2 E hE _ hx ⟨o6,o7,rfl,I⟩;have hi:i<(h9 es p es.length).length:=by have:=(gM hx).1;rwa [c9]at this
  have hx2:=BA (W0 hi);rw[hx2]at hx;have hx:=oj hx;subst hx;obtain⟨e,he,hpe⟩:=mem_tiesAt.mp (X0 hi);rw[X8 hi]at I;exact Iv hf (by omega) (by omega) (by omega) H hn he (hpe.imp Eq.symm Eq.symm) I fun o7 S' I'=>hE _ _ ⟨_,_,rfl,I'⟩
 ·rintro ρ S2 ⟨o6,o7,rfl,_,sd2,bk2,f2,wt2,G2,N2,b2,h1,h2,h3,h4,h5,h6⟩;rw[c9,XY]at G2;exact hw _ _ ⟨m - 1,by omega,sd2,bk2,f2,wt2,_,_,_,rfl,G2.more (fun _ _ h _ _ _=>h.elim id fun h=>by simp at h),N2,b2,h1,h4,h5,h6⟩
noncomputable def Iw(s:Sn):Prop:=∀{n:Nat} {es:EE} {c:Nat->Nat} {S:Sto} {Q:QE},Sdd n es c->es.length<=5000->n<=1000->(∀(a:Nat) (S':Sto),Gw S S'->Q (.tup [.str "sides",.loc a]) S')->s [j3 n es] S Q
theorem Qn{kg kr:Nat}(hΔ:∀ f,MonoN (Δ f))(hg:Fm (Δ kg)){D:Df}(hb:D.body=VX kg kr)(hN:D.N.length=7)(hp:D.ps.length=1):Iw (i6 Δ D):=by
 intro n es c S Q H hel hn q1;unfold i6;rw[hb,hN];refine⟨hp.symm,by show 1<=big;decide,_,rfl,_,_,rfl,rfl,_,c6,⟨by omega,by omega⟩,by simp;show _<=100000;omega,?_⟩;rw[Jq];refine⟨by show 1<=big;decide,_,rfl,_,_,rfl,rfl,_,c6,⟨by omega,by omega⟩,by simp;show _<=100000;omega,?_⟩;rw[Jq];generalize ha:(S++[SO.lst [SV.non]]).length=a;have ha1:S.length<a:=by rw[<-ha];simp
 have hSa:(S++[SO.lst [SV.non]]++[SO.lst (optsS (WC n none))])[a]?=some (.lst (optsS (WC n none))):=by rw[<-ha];exact c6
 have G0:Gw S (S++[SO.lst [SV.non]]++[SO.lst (optsS (WC n none))]):=(Gw.refl S).push.push;generalize S++[SO.lst [SV.non]]++[SO.lst (optsS (WC n none))]=S1 at *;generalize hb2:(S1++[SO.lst [SV.non]]).length=b;have hb1:S1.length<b:=by rw[<-hb2];simp
 have hSb:(S1++[SO.lst [SV.non]]++[SO.lst (optsS (WC n none))])[b]?=some (.lst (optsS (WC n none))):=by rw[<-hb2];exact c6
 have hS2:=f7 (o:=SO.lst (optsS (WC n none))) (f7 (o:=SO.lst [SV.non]) hSa);have G2:=(G0.push (o:=SO.lst [SV.non])).push (o:=SO.lst (optsS (WC n none)));have hab:=m7 hSa;generalize S1++[SO.lst [SV.non]]++[SO.lst (optsS (WC n none))]=S2 at *
 have st0:Sl n es c (WC n none) (fun _=>0) fun _ _=>False:=by
  have h:∀ p v,(WC n (none:Option Nat))[p]?=some (some v)->False:=fun p v hv=>by
   have:=W5 hv;rw[ZA]at this;cases this.2
  exact⟨by simp,fun p v hv=>(h p v hv).elim,fun _ _ p _ _ hq=>by obtain⟨v,hv⟩:=hq;exact(h p v hv).elim⟩
 refine⟨_,rfl,_,_,rfl,rfl,_,rfl,⟨by omega,by omega⟩,?_⟩
 refine BM (i8 hΔ _) (fun i ρ S'=>∃ sd bk f o3,ρ=[some (j3 n es),some (.loc a),some (.loc b),o3,none,none,none]/\Sl n es c sd f (fun _ _=>False)/\bk.length=n/\(∀ p,p<i->IsSet sd p)/\S'[a]?=some (.lst (optsS sd))/\S'[b]?=some (.lst (optsS bk))/\Gw S S')
  ⟨_,_,_,none,rfl,st0,by simp,fun _ h=>by omega,hS2,hSb,G2⟩ (fun _ _ _ _=>trivial) ?_ ?_
 ·rintro i x ρ S' E hnx _ hx ⟨sd,bk,f,o3,rfl,G,hbl,hs,ha',hb',Gw'⟩;obtain⟨rfl,hi⟩:=Am hx;rw[YZ]at hi ⊢;have hil:i<sd.length:=by rw[G.ls];omega
  cases hx:sd[i] with
  | some v=>
    have h:sd[i]?=some (some v):=by rw[W0 hil,hx]
    refine⟨_,rfl,_,rfl,_,_,c5 ha',i7 (l7 h),.inl ⟨rfl,_,rfl,ifF rfl ?_⟩⟩;refine hnx _ _ ⟨sd,bk,f,_,rfl,G,hbl,fun p hp=>?_,ha',hb',Gw'⟩;by_cases hpi:p=i
    ·rw[hpi];exact⟨v,h⟩
    ·exact hs p (by omega)
  | none=>
    have h:sd[i]?=some none:=by rw[W0 hil,hx]
    refine⟨_,rfl,_,rfl,_,_,c5 ha',i7 (l7 h),.inl ⟨rfl,_,rfl,ifT rfl ?_⟩⟩;refine⟨_,rfl,_,rfl,_,rfl,_,rfl,hg H hel hn G hbl h (by omega) ha' hb' fun sd' bk' f' S'' G' b' k1 k2 h1 h2 h3 h4=>?_⟩;refine hnx _ _ ⟨sd',bk',f',_,rfl,G',b',fun p hp=>?_,h1,h2,⟨Wj Gw'.len h3,fun k o hk=>h4 k o (by have:=m7 hk;omega) (by have:=m7 hk;omega) (Gw'.keep k o hk)⟩⟩;by_cases hpi:p=i
    ·rw[hpi];exact k2
    ·exact k1 p (hs p (by omega))
 ·rintro ρ S' ⟨sd,bk,f,o3,rfl,G,hbl,hs,ha',hb',Gw'⟩;rw[BN]at hs;refine⟨_,rfl,_,_,rfl,rfl,_,rfl,?_⟩;refine BM (i8 hΔ _) (fun i ρ S2=>∃ o4 o5 o6,ρ=[some (j3 n es),some (.loc a),some (.loc b),o3,o4,o5,o6]/\S2=S') ⟨_,_,_,rfl,rfl⟩ (fun _ _ _ _=>trivial) ?_ ?_
  ·rintro i x ρ _ E hnx _ hx ⟨p4,p5,p6,rfl,rfl⟩;obtain⟨y,hy,rfl⟩:=OB hx;obtain⟨e,he,rfl⟩:=B9 hy;have hee:=H.en e (W5 he);obtain⟨u,hu⟩:=hs e.1 (by omega);obtain⟨v,hv⟩:=hs e.2 (by omega);refine⟨_,rfl,_,rfl,_,_,c5 ha',i7 (l7 hu),_,rfl,_,rfl,_,_,c5 ha',i7 (l7 hv),_,rfl,?_⟩;refine ifD (fun h=>False.elim ?_) (fun h=>hnx _ _ ⟨_,_,_,rfl,rfl⟩);have h:u=v:=XN.mp h;have h1:=G.val _ _ hu;have h2:=G.val _ _ hv;have h3:=(G.cl i e e.1 he (.inl rfl) ⟨u,hu⟩ id).2;rw[show farE e e.1=e.2 by unfold farE;rw[if_pos rfl]]at h3;rw[h3]at h2;have h4:=H.ne e (W5 he);have h5:=H.two e.1;have h6:=H.two e.2;omega
  ·rintro ρ _ ⟨p4,p5,p6,rfl,rfl⟩;exact⟨_,rfl,by show 2<=big;decide,q1 _ _ Gw'⟩
noncomputable def Cb(s:Sn):Prop:=∀{n:Nat} {es:EE} {c:Nat->Nat} {S:Sto} {Q:QE},Sdd n es c->es.length<=5000->n<=249->(∀(a:Nat) (S':Sto),Gw S S'->Q (.loc a) S')->s [j3 n es] S Q
theorem LY{k:Nat}(h2:Iw (Δ k)){D:Df}(hb:D.body=HE k)(hN:D.N.length=3)(hp:D.ps.length=1):Cb (i6 Δ D):=by
 intro n es c S Q H hel hn q;unfold i6;rw[hb,hN];refine⟨hp.symm,_,rfl,h2 H hel (by omega) fun a S' G=>?_⟩;exact⟨_,rfl,_,rfl,ifF (decide_eq_false (by decide)) ⟨_,rfl,q a S' G⟩⟩
end
open PySem L2
noncomputable def mostN(es:EE):Nat->Nat
 | 0=>0
 | n+1=>max (mostN es n) (cntAt es n)
theorem Ac(es:EE):∀{n p:Nat},p<n->cntAt es p<=mostN es n
 | 0,_,h=>absurd h (Y4 _)
 | n+1,p,h=>by
   show _<=max (mostN es n) (cntAt es n);by_cases e:p=n
   ·subst e;omega
   ·have:=Ac es (n:=n) (p:=p) (by omega);omega
theorem Cc(es:EE):∀ n:Nat,mostN es n=0\/∃ p,p<n/\mostN es n=cntAt es p
 | 0 => .inl rfl
 | n+1=>by
   show max (mostN es n) (cntAt es n)=0\/∃ p,p<n+1/\max (mostN es n) (cntAt es n)=cntAt es p;by_cases h:mostN es n<=cntAt es n
   ·right;exact⟨n,by omega,by omega⟩
   ·rcases Cc es n with z | ⟨p,hp,e⟩
    ·left;omega
    ·right;exact⟨p,by omega,by omega⟩
theorem Ep{es:EE}{n:Nat}{m:Int}(h1:∀ p,p<n->((cntAt es p:Nat):Int)<=m)(h2:m=0\/∃ p,p<n/\m=(cntAt es p:Nat))(h0:0<=m):m=(mostN es n:Nat):=by
 have a:m<=(mostN es n:Nat):=by
  rcases h2 with z | ⟨p,hp,z⟩
  ·omega
  ·have:=Ac es hp;omega
 have b:((mostN es n:Nat):Int)<=m:=by
  rcases Cc es n with z | ⟨p,hp,z⟩
  ·omega
  ·have:=h1 p hp;omega
 omega
noncomputable def u7(n:Nat)(es:EE)(m:Nat):Nat->List (Option Nat)
 | 0=>WC n none
 | i+1=>if (u7 n es m i).getD i none=none/\cntAt es i=m then CZ n es (u7 n es m i) i m else u7 n es m i
theorem Sdd.flip{n:Nat}{es:EE}{sd:Nat->Nat}(H:Sdd n es sd):Sdd n es fun p=>1 - sd p:=⟨H.en,fun p=>by show 1 - sd p<2;omega,fun e he=>by
 have h1:=H.ne e he;have h2:=H.two e.1;have h3:=H.two e.2;show 1 - sd e.1≠1 - sd e.2;omega⟩
theorem Sdd.at0{n:Nat}{es:EE}{sd:Nat->Nat}(H:Sdd n es sd)(s:Nat):∃ sd',Sdd n es sd'/\sd' s=0:=by
 by_cases h:sd s=0
 ·exact⟨sd,H,h⟩
 ·exact⟨_,H.flip,by show 1 - sd s=0;omega⟩
theorem Bz{n m:Nat}{es:EE}{sd:Nat->Nat}(H:Sdd n es sd)(hmx:∀ p,p<n->cntAt es p<=m):∀ i,i<=n->Cons n es (u7 n es m i)/\(0<m->∀ p,p<i->cntAt es p=m->∃ t,(u7 n es m i)[p]?=some (some t))
 | 0,_=>by
   refine⟨⟨by simp[u7],fun p t h=>?_⟩,fun _ p hp=>absurd hp (Y4 p)⟩;replace h:(WC n (none:Option Nat))[p]?=some (some t):=h;rw[XM]at h;split at h<;>cases h
 | i+1,hi=>by
   obtain⟨K,all⟩:=Bz H hmx i (by omega);have ef:u7 n es m (i+1)=if (u7 n es m i).getD i none=none/\cntAt es i=m then CZ n es (u7 n es m i) i m else u7 n es m i:=rfl
   have hg:=Cv (xs:=u7 n es m i) (p:=i) (by rw[K.len];omega);generalize u7 n es m i=P at *;by_cases c:P.getD i none=none/\cntAt es i=m
   ·rw[ef,if_pos c];obtain⟨sd',H',h0⟩:=H.at0 i;rw[c.1]at hg;obtain⟨a,b,d⟩:=Ip H' (by omega) h0 hg K c.2 hmx;refine⟨a,fun hm p hp hc=>?_⟩;by_cases e:p=i
    ·rw[e];exact b hm
    ·obtain⟨t,ht⟩:=all hm p (by omega) hc;exact d p t hc ht
   ·rw[ef,if_neg c];refine⟨K,fun hm p hp hc=>?_⟩;by_cases e:p=i
    ·subst e;cases hv:P.getD p none with
     | none=>exact absurd ⟨hv,hc⟩ c
     | some t=>rw[hv]at hg;exact⟨t,hg⟩
    ·exact all hm p (by omega) hc
noncomputable def C4(n:Nat)(es:EE):List (Option Nat):=u7 n es (mostN es n) n
noncomputable def cS(n:Nat)(f:Nat->Nat):List SV:=(WP n).map fun p=>SV.int (f p:Nat)
theorem Dy{n p:Nat}{f:Nat->Nat}(h:p<n):(cS n f)[p]?=some (.int (f p:Nat)):=by unfold cS;rw[WG,Xo h];rfl
theorem Bp{n:Nat}{f:Nat->Nat}:(cS n f).length=n:=by unfold cS;rw[W2,Xm]
theorem K0(n:Nat)(f:Nat->Nat):cS n f=((WP n).map fun p=>((f p:Nat):Int)).map SV.int:=by unfold cS;rw[Xc];rfl
theorem Rk{n p:Nat}{f:Nat->Nat}(h:p<n):(cS n f).set p (.int ((f p:Nat)+1))=cS n fun q=>f q+if q=p then 1 else 0:=by
 apply YI;intro i;by_cases hi:i<n
 ·rw[Dy hi];by_cases e:i=p
  ·subst e;rw[Wg (by rw[Bp];exact hi),if_pos rfl];rfl
  ·rw[Wp (Ne.symm e),Dy hi,if_neg e];rfl
 ·rw[XJ (by rw[WU,Bp];omega),XJ (by rw[Bp];omega)]
theorem OY:∀ n:Nat,(WC n [SV.int 0]).flatten=cS n fun _=>0:=by
 intro n
 have e:(WC n [SV.int 0]).flatten=WC n (SV.int 0):=by
  induction n with
  | zero=>rfl
  | succ n ih=>rw[Wr,XE,ih];rfl
 rw[e];apply YI;intro i;rw[XM];by_cases hi:i<n
 ·rw[if_pos hi,Dy hi];rfl
 ·rw[if_neg hi,XJ (by rw[Bp];omega)]
noncomputable def Rm:List Stm:=[(.asg (.nm 1) (.op .Mult (.lst (.cons (.c (.int 0)) .nil)) (.ix (.var 0) (.c (.int 0))))),(.loop (.tup (.cons (.nm 2) (.cons (.nm 3) .nil))) (.seq (.ix (.var 0) (.c (.int 1)))) [(.augS (.var 1) (.var 2) (.c (.int 1))),(.augS (.var 1) (.var 3) (.c (.int 1)))]),(.ret (.maxd (.var 1) (.c (.int 0))))]
noncomputable def Ix(s:Sn):Prop:=∀{n:Nat} {es:EE} {S:Sto} {Q:QE},(∀ e∈es,e.1<e.2/\e.2<n)->n<=1000->(∀ S',Gw S S'->Q (.int (mostN es n:Nat)) S')->s [j3 n es] S Q
theorem OZ{n:Nat}{es:EE}{m:Int}(h:Grt ((WP n).map fun p=>((cntAt es p:Nat):Int)) m):m=(mostN es n:Nat):=by
 obtain⟨h1,h2⟩:=h;obtain⟨p,hp,e⟩:=WZ.mp h1;rw[X5]at hp;exact Ep (fun q hq=>h2 _ (WZ.mpr ⟨q,X5.mpr hq,rfl⟩)) (.inr ⟨p,hp,e.symm⟩) (by rw[<-e];omega)
section
variable{Δ:Nat->Sn}
theorem Qo(hΔ:∀ f,MonoN (Δ f)){D:Df}(hb:D.body=Rm)(hN:D.N.length=4)(hp:D.ps.length=1):Ix (i6 Δ D):=by
 intro n es S Q hen hn q;unfold i6;rw[hb,hN];refine⟨hp.symm,by show 1<=big;decide,_,rfl,_,_,rfl,rfl,_,c6,⟨by omega,by omega⟩,by show 1 * _<=100000;omega,?_⟩;have er:(WC ((n:Int)).toNat [SV.int 0]).flatten=cS n fun _=>0:=by rw[Xa,OY]
 rw[er];have p1:((S++[SO.lst [SV.int 0]])++[SO.lst (cS n fun _=>0)])[(S++[SO.lst [SV.int 0]]).length]?=some (.lst (cS n fun _=>0)):=c6;have G1:Gw S ((S++[SO.lst [SV.int 0]])++[SO.lst (cS n fun _=>0)]):=(Gw.refl S).push.push;have kl:S.length<=(S++[SO.lst [SV.int 0]]).length:=by rw[W3];omega
 generalize (S++[SO.lst [SV.int 0]]).length=k at *;generalize (S++[SO.lst [SV.int 0]])++[SO.lst (cS n fun _=>0)]=S1 at *;refine⟨_,rfl,_,_,rfl,rfl,_,rfl,?_⟩;refine BM (i8 hΔ _) (fun i ρ S2=>∃ o2 o3,ρ=[some (j3 n es),some (.loc k),o2,o3]/\Gw S S2/\S2[k]?=some (.lst (cS n fun p=>(es.take i).countP (v7 p)))) ⟨none,none,rfl,G1,by rw[p1];simp⟩ (fun _ _ _ _=>trivial) ?_ ?_
 ·rintro i x ρ S2 E hn _ hx ⟨o2,o3,rfl,G2,h2⟩;obtain⟨e,he,rfl⟩:=B9 hx;have hee:=hen e (W5 he);refine⟨_,rfl,_,rfl,k,e.1,_,_,rfl,rfl,h2,Dy (by omega),_,_,rfl,h2,by rw[Bp];omega,?_⟩;rw[Rk (by omega)];have h3:(S2.set k (.lst (cS n fun q=>(es.take i).countP (v7 q)+if q=e.1 then 1 else 0)))[k]?=some (.lst (cS n fun q=>(es.take i).countP (v7 q)+if q=e.1 then 1 else 0)):=j6 h2;have G3:Gw S (S2.set k (.lst (cS n fun q=>(es.take i).countP (v7 q)+if q=e.1 then 1 else 0))):=G2.put kl;generalize S2.set k (.lst (cS n fun q=>(es.take i).countP (v7 q)+if q=e.1 then 1 else 0))=S3 at *;refine⟨_,rfl,_,rfl,k,e.2,_,_,rfl,rfl,h3,Dy (by omega),_,_,rfl,h3,by rw[Bp];omega,?_⟩;rw[Rk (by omega)];refine hn _ _ ⟨_,_,rfl,G3.put kl,?_⟩;rw[j6 h3]
  congr 3
  funext p
  rw[Ws,he,Yf];show _=_+ZP (v7 p) [e];rw[XO,YT];by_cases z:v7 p e=true
  ·rw[if_pos z];rcases endB_iff.mp z with y | y
   ·rw[if_pos y,if_neg (by omega)]
   ·rw[if_pos y,if_neg (by omega)]
  ·have z':¬ (p=e.1\/p=e.2):=fun y=>z (endB_iff.mpr y);rw[if_neg z,if_neg (fun y=>z' (.inl y)),if_neg (fun y=>z' (.inr y))]
 ·rintro ρ S2 ⟨o2,o3,rfl,G2,h2⟩;rw[W2,Wu]at h2;have ec:(cS n fun p=>es.countP (v7 p))=cS n (cntAt es):=by congr 1;funext p;exact(Du es p).symm
  rw[ec,K0]at h2;refine⟨_,rfl,k,_,_,rfl,rfl,h2,fun z=>?_,fun m g=>?_⟩
  ·have hn0:n=0:=by cases n with
    | zero=>rfl
    | succ n=>simp[YS]at z
   have:=q S2 G2;rw[hn0]at this;exact this
  ·rw[OZ g];exact q S2 G2
noncomputable def Oa(ks km kc kg ko:Nat):List Stm:=[(.expr (.call ks (.cons (.var 0) .nil))),(.asg (.nm 1) (.op .Mult (.lst (.cons (.c .non) .nil)) (.ix (.var 0) (.c (.int 0))))),(.asg (.nm 2) (.call km (.cons (.var 0) .nil))),(.loop (.nm 3) (.rng1 (.ix (.var 0) (.c (.int 0)))) [(.iff (.and (.cmp .Is (.ix (.var 1) (.var 3)) (.c .non)) (.cmp .Eq (.call kc (.cons (.var 0) (.cons (.var 3) .nil))) (.var 2))) [(.expr (.call kg (.cons (.var 0) (.cons (.var 1) (.cons (.var 3) (.cons (.var 2) .nil))))))] [])]),(.ret (.call ko (.cons (.var 1) .nil)))]
noncomputable def DL(s:Sn):Prop:=∀{n:Nat} {es:EE} {S:Sto} {Q:QE},Web2 n es->(∀(l:Nat) (S':Sto),Gw S S'->S.length<=l->S'[l]?=some (.lst (natS (AS (C4 n es))))->Q (.loc l) S')->s [j3 n es] S Q
theorem Ob(hΔ:∀ f,MonoN (Δ f)){ks km kc kg ko:Nat}(hs:Cb (Δ ks))(hm:Ix (Δ km))(hc:DJ (Δ kc))(hg:Fg (Δ kg))(ho:Dv (Δ ko)){D:Df}(hb:D.body=Oa ks km kc kg ko)(hN:D.N.length=4)(hp:D.ps.length=1):DL (i6 Δ D):=by
 intro n es S Q W q;have hn:=W.few;have hel:=W.len;obtain⟨c,c2,cn⟩:=W.two;have H:Sdd n es c:=⟨W.en,c2,cn⟩
 unfold i6;rw[hb,hN];refine⟨hp.symm,_,rfl,hs H (by omega) (by omega) fun ld S1 G1=>?_⟩;refine⟨by show 1<=big;decide,_,rfl,_,_,rfl,rfl,_,c6,⟨by omega,by omega⟩,by show 1 * _<=100000;omega,?_⟩;have er:(WC ((n:Int)).toNat [SV.non]).flatten=optsS (WC n none):=by rw[Xa,HS]
 rw[er];have hlp2:((S1++[SO.lst [SV.non]])++[SO.lst (optsS (WC n none))])[(S1++[SO.lst [SV.non]]).length]?=some (.lst (optsS (WC n none))):=c6;have G2:Gw S ((S1++[SO.lst [SV.non]])++[SO.lst (optsS (WC n none))]):=G1.push.push;have lpl:S.length<=(S1++[SO.lst [SV.non]]).length:=by rw[W3];have:=G1.len;omega
 generalize (S1++[SO.lst [SV.non]]).length=lp at *;generalize (S1++[SO.lst [SV.non]])++[SO.lst (optsS (WC n none))]=S2 at *;refine⟨_,rfl,hm W.en (by omega) fun S3 G3=>?_⟩;have hlp3:=G3.keep _ _ hlp2;have mx:∀ p,p<n->cntAt es p<=mostN es n:=fun p hp=>Ac es hp;refine⟨_,rfl,_,_,rfl,rfl,_,rfl,⟨by omega,by omega⟩,?_⟩;refine BM (i8 hΔ _) (fun i ρ S4=>∃ o3,ρ=[some (j3 n es),some (.loc lp),some (.int (mostN es n:Nat)),o3]/\Kp lp S3 S4/\S4[lp]?=some (.lst (optsS (u7 n es (mostN es n) i)))) ⟨none,rfl,Kp.refl lp S3,hlp3⟩ (fun _ _ _ _=>trivial) ?_ ?_
 ·rintro i x ρ S4 E hnx _ hx ⟨o3,rfl,K4,h4⟩;obtain⟨rfl,hi⟩:=Am hx;rw[YZ]at hi ⊢;have hi:i<n:=by omega
  obtain⟨K,_⟩:=Bz H mx i (by omega);have ef:u7 n es (mostN es n) (i+1)=if (u7 n es (mostN es n) i).getD i none=none/\cntAt es i=mostN es n then CZ n es (u7 n es (mostN es n) i) i (mostN es n) else u7 n es (mostN es n) i:=rfl
  have hgt:=Cv (xs:=u7 n es (mostN es n) i) (p:=i) (by rw[K.len];omega);generalize u7 n es (mostN es n) i=P at *;have ha:=i7 (v:=AU (P.getD i none)) (l7 hgt);cases hv:P.getD i none with
  | some t=>
    rw[hv]at ha;rw[if_neg (fun z=>by rw[hv]at z;cases z.1)]at ef;exact⟨_,rfl,_,rfl,_,_,c5 h4,ha,.inl ⟨rfl,_,rfl,ifF rfl (l9 (Δ:=Δ) (hnx _ _ ⟨_,rfl,K4,by rw[ef];exact h4⟩))⟩⟩
  | none=>
    rw[hv]at ha hgt;refine⟨_,rfl,_,rfl,_,_,c5 h4,ha,.inl ⟨rfl,_,rfl,ifT rfl ?_⟩⟩;refine⟨_,rfl,_,rfl,hc (by omega) hi fun S5 G5=>⟨_,rfl,_,rfl,?_⟩⟩;have h5:=G5.keep _ _ h4;refine ifD (fun z=>?_) (fun z=>l9 ?_)
    ·have z:cntAt es i=mostN es n:=by have:((cntAt es i:Nat):Int)=(mostN es n:Nat):=z;omega
     rw[if_pos ⟨hv,z⟩]at ef;obtain⟨sd',H',h0⟩:=H.at0 i;have O:Open [i] sd' n P:=⟨by simp,fun p hp=>by rw[W6.mp hp];exact⟨hi,h0,hgt⟩⟩
     refine⟨_,rfl,_,rfl,_,rfl,_,rfl,hg (nd:=mostN es n) H' K O (by omega) W.len h5 fun S6 K6 h6=>?_⟩;exact hnx _ _ ⟨_,rfl,(K4.trans G5.kp).trans K6,by rw[ef];exact h6⟩
    ·rw[if_neg (fun y=>z (by show((cntAt es i:Nat):Int)=(mostN es n:Nat);omega))]at ef;exact hnx _ _ ⟨_,rfl,K4.trans G5.kp,by rw[ef];exact h5⟩
 ·rintro ρ S4 ⟨o3,rfl,K4,h4⟩;rw[BN,show((n:Int) - 0).toNat=n by omega]at h4;have G4:Gw S S4:=⟨by have:=G2.len;have:=G3.len;have:=K4.len;omega,fun k o e=>K4.keep k o (fun z=>by have:=m7 e;omega) ((G2.trans G3).keep k o e)⟩
  refine⟨_,rfl,ho h4 (by rw[(Bz H mx n (WB _)).1.len];omega) (q _ _ G4.push (by have:=G4.len;omega) c6)⟩
end
open PySem L2
section
variable{Δ:Nat->Sn}
noncomputable def K9:List Stm:=[(.ret (.bi .len (.cons (.comp ["_law_pair"] ["_law_place"] [1] (.nm 0) (.seq (.ix (.var 0) (.c (.int 1)))) (.yes (.cmp .In (.var 1) (.var 0))) (.var 0)) .nil)))]
noncomputable def Dz(s:Sn):Prop:=∀{n p:Nat} {es:EE} {S:Sto} {Q:QE},es.length<=5000->(∀ S',Gw S S'->Q (.int (cntAt es p:Nat)) S')->s [j3 n es,.int p] S Q
theorem LZ(hΔ:∀ f,MonoN (Δ f)){D:Df}(hb:D.body=K9)(hN:D.N.length=2)(hp:D.ps.length=2):Dz (i6 Δ D):=by
 intro n p es S Q hel q;unfold i6;rw[hb,hN];refine⟨hp.symm,_,rfl,_,_,rfl,rfl,_,rfl,?_⟩;refine j7 (j5 hΔ _).2 (a7 hΔ _).1 (fun i ys S'=>S'=S/\ys.length=(es.take i).countP (v7 p)) ⟨rfl,by simp⟩ (fun _ _ _ _=>trivial) ?_ ?_
 ·rintro i x ys S' hx ⟨rfl,hy⟩;obtain⟨e,he,rfl⟩:=B9 hx;have hi:=(gM he).1;have hcl:(es.take i).countP (v7 p)<=i:=Wj (Y5 ..) (by rw[WY];omega)
  have hs:(es.take (i+1)).countP (v7 p)=(es.take i).countP (v7 p)+if v7 p e=true then 1 else 0:=by
   rw[Ws,he,Yf];show _+ZP (v7 p) [e]=_;rw[XO,YT,XV]
  refine⟨_,rfl,_,rfl,rfl,_,rfl,rfl,_,rfl,?_⟩;show if inS (.int p) [.int e.1,.int e.2]=true then _ else _
  rw[Jo];refine ifB (fun h=>?_) (fun h=>?_)
  ·refine⟨_,rfl,by rw[hy];show _<100000;omega,rfl,?_⟩;rw[W3,hy,hs,if_pos (show v7 p e=true from h)];rfl
  ·refine⟨rfl,?_⟩;rw[hy,hs,if_neg (show ¬ v7 p e=true by unfold v7;rw[h];decide)];rfl
 ·rintro ys S' ⟨rfl,hy⟩;rw[W2,Wu,<-Du]at hy;refine⟨_,c5 c6,?_⟩;rw[hy];exact q _ (Gw.refl _).push
noncomputable def Oc(kc:Nat):List Stm:=[(.ret (.max1 (.op .Add (.lst (.cons (.c (.int 0)) .nil)) (.comp ["_law_place"] ["_law_web"] [0] (.nm 0) (.rng1 (.ix (.var 0) (.c (.int 0)))) .no (.call kc (.cons (.var 1) (.cons (.var 0) .nil)))))))]
theorem La{n:Nat}{es:EE}{m:Int}(h:Grt (0::(WP n).map fun p=>((cntAt es p:Nat):Int)) m):m=(mostN es n:Nat):=by
 obtain⟨h1,h2⟩:=h;have h0:=h2 0 (WK ..);refine Ep (fun q hq=>h2 _ (W9 _ (WZ.mpr ⟨q,X5.mpr hq,rfl⟩))) ?_ h0;rcases WN.mp h1 with z | z
 ·exact .inl z
 ·obtain⟨p,hp,e⟩:=WZ.mp z;exact .inr ⟨p,X5.mp hp,e.symm⟩
noncomputable def Fn(s:Sn):Prop:=∀{n:Nat} {es:EE} {S:Sto} {Q:QE},es.length<=5000->n<=1000->(∀ S',Gw S S'->Q (.int (mostN es n:Nat)) S')->s [j3 n es] S Q
theorem Od(hΔ:∀ f,MonoN (Δ f)){kc:Nat}(hc:Dz (Δ kc)){D:Df}(hb:D.body=Oc kc)(hN:D.N.length=1)(hp:D.ps.length=1):Fn (i6 Δ D):=by
 intro n es S Q hel hn q;unfold i6;rw[hb,hN];refine⟨hp.symm,by show 1<=big;decide,_,rfl,_,_,rfl,rfl,_,rfl,⟨by omega,by omega⟩,?_⟩;have h0:(S++[SO.lst [SV.int 0]])[S.length]?=some (.lst [SV.int 0]):=c6;have G0:Gw S (S++[SO.lst [SV.int 0]]):=(Gw.refl S).push;generalize hk:S.length=k at *;generalize S++[SO.lst [SV.int 0]]=S1 at *;refine j7 (j5 hΔ _).2 (a7 hΔ _).1 (fun i ys S2=>Gw S1 S2/\ys=cS i (cntAt es)) ⟨Gw.refl S1,rfl⟩ (fun _ _ _ _=>trivial) ?_ ?_
 ·rintro i x ys S2 hx ⟨G2,rfl⟩;obtain⟨rfl,hi⟩:=Am hx;rw[YZ]at hi ⊢;refine⟨_,rfl,_,rfl,hc hel fun S3 G3=>⟨by rw[Bp];show _<100000;omega,G2.trans G3,?_⟩⟩;unfold cS;rw[YS,Wn];rfl
 ·rintro ys S2 ⟨G2,rfl⟩;rw[BN,show((n:Int) - 0).toNat=n by omega];refine⟨_,_,f7 (G2.keep _ _ h0),c6,by rw[Bp];show 1+n<=100000;omega,S2.length+1,(0::(WP n).map fun p=>((cntAt es p:Nat):Int)),?_,?_,Nat.succ_pos _,fun m g=>?_⟩
  ·rw[W3];rfl
  ·rw[K0,show S2.length+1=(S2++[SO.lst (((WP n).map fun p=>((cntAt es p:Nat):Int)).map SV.int)]).length by rw[W3];rfl,c6];rfl
  ·rw[La g];exact q _ (G0.trans G2).push.push
structure Rf28(n:Nat)(es:EE)(T:List Nat):Prop where
 tu:T.Pairwise (·<·)
 tl:∀ t∈T,t<es.length
 ap:Apart es T
 up:∀ e∈es,e.1<e.2
 few:T.length<=62
 nl:n<=60
 el:es.length<=1000
 all:0<mostN es n->∀ p,p<n->cntAt es p=mostN es n->p∈endsT es T
end
theorem DM{n:Nat}{es:EE}(W:Web2 n es):Rf28 n es (AS (C4 n es)):=by
 obtain⟨c,c2,cn⟩:=W.two;have H:Sdd n es c:=⟨W.en,c2,cn⟩
 obtain⟨K,all⟩:=Bz H (fun p hp=>Ac es hp) n (WB _);refine⟨HK _,K.tlt,K.apart,fun e he=>(W.en e he).1,?_,W.few,W.len,fun hm p hp hc=>?_⟩
 ·have h1:(AS (C4 n es)).length<=(tNs (C4 n es)).length:=Fd (Jw (HK _)) fun t ht=>by
   obtain⟨p,hp⟩:=mem_tiesN.mp ht;exact mem_tNs.mpr ⟨p,hp⟩
  have h2:(tNs (C4 n es)).length<=(C4 n es).length:=Yi _ _;have h3:(C4 n es).length=n:=K.len;have:=W.few;omega
 ·obtain⟨t,ht⟩:=all hm p hp hc;obtain⟨e,he,hpe,_⟩:=K.two p t ht;unfold endsT;rw[Yo];refine⟨t,mem_tiesN.mpr ⟨p,ht⟩,?_⟩;rw[AM he];rcases hpe with z | z
  ·rw[z];exact WK ..
  ·rw[z];exact W9 _ (WK ..)
open PySem L2
section
variable{n:Nat}{es:EE}
noncomputable def amg(es:EE)(ties:List Nat):EE:=ties.map (f9 es)
theorem BQ(L:List Nat)(p:Nat):cntAt (amg es L) p=L.countP fun t=>v7 p (f9 es t):=by
 rw[Du];unfold amg;rw[List.countP_map];rfl
theorem Fo{es:EE}{n m:Nat}(h:∀ p,p<n->cntAt es p<=m):mostN es n<=m:=by
 rcases Cc es n with z | ⟨p,hp,z⟩
 ·omega
 ·rw[z];exact h p hp
structure Gt(es:EE)(ties:List Nat):Prop where
 nd:ties.Nodup
 lt:∀ t∈ties,t<es.length
 len:ties.length<=90
theorem Gt.web{ties:List Nat}(G:Gt es ties)(W:Web2 n es):Web2 n (amg es ties):=by
 obtain⟨c,c2,cn⟩:=W.two
 have m:∀ e∈amg es ties,e∈es:=fun e he=>by
  obtain⟨t,ht,rfl⟩:=WZ.mp he;exact OE (G.lt t ht)
 exact⟨fun e he=>W.en e (m e he),by unfold amg;rw[W2];have:=G.len;omega,W.few,c,c2,fun e he=>cn e (m e he)⟩
theorem Qp(ties:List Nat):(amg es ties).length=ties.length:=W2 _
theorem Fp{ties:List Nat}{a:Nat}(h:a<ties.length):f9 (amg es ties) a=f9 es (ties.getD a 0):=by
 unfold amg;rw[f9,Wk,WG,Wk,W0 h];rfl
noncomputable def EB(ties L:List Nat):List Nat:=L.map fun a=>ties.getD a 0
theorem HX{ties:List Nat}{a:Nat}(h:a<ties.length):ties.getD a 0∈ties:=by
 rw[Wk,W0 h];exact X0 h
noncomputable def AC(n:Nat)(es:EE)(ties:List Nat):List Nat:=EB ties (AS (C4 n (amg es ties)))
theorem Er(W:Web2 n es){ties:List Nat}(G:Gt es ties)(h:mostN (amg es ties) n=0):ties=[]:=by
 cases ties with
 | nil=>rfl
 | cons t r=>
   have he:=(G.web W).en (f9 es t) (by unfold amg;simp);have h1:=Ac (amg es (t::r)) (n:=n) (p:=(f9 es t).1) (by omega)
   have h2:0<cntAt (amg es (t::r)) (f9 es t).1:=by
    rw[BQ];exact YW.mpr ⟨t,WK ..,endB_iff.mpr (.inl rfl)⟩
   omega
theorem E1(W:Web2 n es){ties:List Nat}(G:Gt es ties):Apart es (AC n es ties)/\(∀ t∈AC n es ties,t∈ties)/\∀ a∈AS (C4 n (amg es ties)),a<ties.length:=by
 have R:=DM (G.web W);have hl:∀ a∈AS (C4 n (amg es ties)),a<ties.length:=fun a ha=>by have:=R.tl a ha;rwa [Qp]at this
 refine⟨fun t ht t' ht' p hp hp'=>?_,fun t ht=>?_,hl⟩
 ·obtain⟨a,ha,rfl⟩:=WZ.mp ht;obtain⟨b,hb,rfl⟩:=WZ.mp ht';rw[<-Fp (hl a ha)]at hp;rw[<-Fp (hl b hb)]at hp';rw[R.ap a ha b hb p hp hp']
 ·obtain⟨a,ha,rfl⟩:=WZ.mp ht;exact HX (hl a ha)
theorem Gt.off{ties:List Nat}(G:Gt es ties)(q:Nat->Bool):Gt es (ties.filter q):=⟨List.Pairwise.filter _ G.nd,fun t ht=>G.lt t (X4.mp ht).1,Wj (Xv _ _) G.len⟩
theorem HY{f q:Nat->Bool}{u:Nat}(hu:f u=true)(hq:q u=false):∀{l:List Nat},u∈l->l.countP (fun t=>f t&&q t)<l.countP f
 | t::r,h=>by
   rw[XO,XO];have mono:r.countP (fun t=>f t&&q t)<=r.countP f:=Yx fun t _ h=>(Y9.mp h).1;rcases WN.mp h with e | h
   ·subst e;rw[hu,hq];simp only[Yy,X6,if_false,if_true];omega
   ·have:=HY hu hq h;cases f t<;>cases q t<;>simp<;>omega
theorem Oe(W:Web2 n es){ties:List Nat}(G:Gt es ties)(h:0<mostN (amg es ties) n):mostN (amg es (ties.filter fun t=>decide (t∉AC n es ties))) n+1<=mostN (amg es ties) n:=by
 have R:=DM (G.web W);obtain⟨_,_,hl⟩:=E1 W G;refine Nat.add_le_of_le_sub h (Fo fun p hp=>?_);rw[BQ,ZB];have h1:=Ac (amg es ties) hp
 have h2:(ties.countP fun t=>v7 p (f9 es t)&&decide (t∉AC n es ties))<=cntAt (amg es ties) p:=by
  rw[BQ];exact Yx fun t _ h=>(Y9.mp h).1
 by_cases z:cntAt (amg es ties) p=mostN (amg es ties) n
 ·have hm:=R.all h p hp z;obtain⟨a,ha,hpa⟩:=Yo.mp hm
  have hpe:v7 p (f9 es (ties.getD a 0))=true:=by
   rw[<-Fp (hl a ha)];refine endB_iff.mpr ?_;simpa using hpa
  have hlt:(ties.countP fun t=>v7 p (f9 es t)&&decide (t∉AC n es ties))<ties.countP fun t=>v7 p (f9 es t):=by
   exact HY (f:=fun t=>v7 p (f9 es t)) (q:=fun t=>decide (t∉AC n es ties)) hpe (decide_eq_false fun z=>z (WZ.mpr ⟨a,ha,rfl⟩)) (HX (hl a ha))
  rw[<-BQ]at hlt;omega
 ·omega
end
open PySem L2
section
variable{Δ:Nat->Sn}
structure Rw(S:Sto)(k:Nat)(ls:List Nat)(R:List (List Nat)):Prop where
 at':S[k]?=some (SO.lst (ls.map SV.loc))
 len:ls.length=R.length
 rows:∀(i l:Nat) (r:List Nat),ls[i]?=some l->R[i]?=some r->S[l]?=some (SO.lst (natS r))
theorem Rw.mono{S S':Sto}{k:Nat}{ls:List Nat}{R:List (List Nat)}(h:Rw S k ls R)(g:Gw S S'):Rw S' k ls R:=⟨g.keep _ _ h.at',h.len,fun i l r a b=>g.keep _ _ (h.rows i l r a b)⟩
noncomputable def pkE:Ex:=(.ix (.var 1) (.var 0))
theorem Iy(hΔ:∀ f,MonoN (Δ f)){lj lt:Nat}{L ties:List Nat}{S:Sto}{Q:List SV->Sto->Prop}{ρ:EnvS}(hρ:ρ=[none,some (.loc lt)])(hj:S[lj]?=some (SO.lst (natS L)))(ht:S[lt]?=some (SO.lst (natS ties)))(hl:∀ a∈L,a<ties.length)(hb:L.length<=90)(q:Q (natS (EB ties L)) S):
 u9 (CP (.loc lj) S) (.nm 0) (wEo Δ .no).2 (wEx Δ pkE).1 ρ Q (natS L) [] S:=by
 subst hρ;refine j7 (j5 hΔ _).2 (a7 hΔ _).1 (fun i ys S2=>S2=S/\ys=natS ((EB ties L).take i)) ⟨rfl,rfl⟩ (fun _ _ _ h=>by rw[h.1];exact rfl) ?_ ?_
 ·rintro i x ys S2 hx ⟨rfl,rfl⟩;obtain⟨a,ha,rfl⟩:=y0 hx;have hil:=(gM ha).1;have hal:=hl a (W5 ha);have e:ties[a]?=some (ties.getD a 0):=by rw[Wk,W0 hal];rfl
  have hp:(EB ties L)[i]?=some (ties.getD a 0):=by unfold EB;rw[WG,ha];rfl
  refine⟨_,rfl,_,rfl,_,_,c5 ht,i7 (BA e),?_,rfl,?_⟩
  ·rw[c9,WY];show _<100000;omega
  ·rw[Ws,hp,u6];rfl
 ·rintro ys S2 ⟨rfl,rfl⟩;rw[c9,show L.length=(EB ties L).length by unfold EB;rw[W2],Wu];exact q
theorem E2{n:Nat}{es:EE}{ties:List Nat}(G:Gt es ties):mostN (amg es ties) n<=90:=by
 refine Fo fun p _=>?_;rw[BQ];exact Wj (Y5) G.len
end
open PySem L2
section
variable{n:Nat}{es:EE}
theorem KA{g:Nat->Bool}:∀{l:List Nat},l.Nodup->(∀ a∈l,∀ b∈l,g a=true->g b=true->a=b)->l.countP g<=1
 | [],_,_=>by simp
 | t::r,nd,h=>by
   rw[XO];have nd':=XG.mp nd;by_cases z:g t=true
   ·have:r.countP g=0:=List.countP_eq_zero.mpr fun a ha y=>nd'.1 ((h t (WK ..) a (W9 _ ha) z y)▸ha);rw[this,if_pos z];omega
   ·rw[if_neg z];exact KA nd'.2 fun a ha b hb=>h a (W9 _ ha) b (W9 _ hb)
theorem Es(f q:Nat->Bool):∀ l:List Nat,l.countP f=l.countP (fun t=>f t&&!q t)+l.countP (fun t=>f t&&q t)
 | []=>rfl
 | t::r=>by
   rw[XO,XO,XO,Es f q r];cases f t<;>cases q t<;>simp<;>omega
theorem Of(W:Web2 n es){ties:List Nat}(G:Gt es ties)(h:0<mostN (amg es ties) n):mostN (amg es (ties.filter fun t=>decide (t∉AC n es ties))) n+1=mostN (amg es ties) n:=by
 refine Nat.le_antisymm (Oe W G h) ?_;rcases Cc (amg es ties) n with z | ⟨p,hp,z⟩
 ·omega
 ·have h1:=Ac (amg es (ties.filter fun t=>decide (t∉AC n es ties))) hp;rw[BQ,ZB]at h1;rw[z,BQ,Es _ (fun t=>decide (t∈AC n es ties))];simp only[decide_not]at h1
  have h3:(ties.countP fun t=>v7 p (f9 es t)&&decide (t∈AC n es ties))<=1:=KA G.nd fun a _ b _ x y=>by
   obtain⟨x1,x2⟩:=Y9.mp x;obtain⟨y1,y2⟩:=Y9.mp y;exact(E1 W G).1 a (of_decide_eq_true x2) b (of_decide_eq_true y2) p (endB_iff.mp x1) (endB_iff.mp y1)
  simp only[decide_not];omega
theorem Qq{ties L:List Nat}(U:ties.Pairwise (·<·))(hl:∀ a∈L,a<ties.length)(hL:L.Pairwise (·<·)):(EB ties L).Pairwise (·<·):=by
 unfold EB;refine Y0.mpr (List.Pairwise.imp_of_mem (fun{a b} ha hb hab=>?_) hL);rw[Wk,W0 (hl a ha),Wk,W0 (hl b hb)];exact(Wt.mp U) a b _ _ hab
noncomputable def CH(n:Nat)(es:EE):Nat->List Nat->List (List Nat)
 | 0,_=>[]
 | f+1,ties=>if ties=[] then [] else AC n es ties::CH n es f (ties.filter fun t=>decide (t∉AC n es ties))
structure RowP(es:EE)(r:List Nat):Prop where
 ap:Apart es r
 up:r.Pairwise (·<·)
 lt:∀ t∈r,t<es.length
 few:r.length<=62
structure PairsOk(n:Nat)(es:EE)(ties:List Nat)(R:List (List Nat)):Prop where
 len:R.length=mostN (amg es ties) n
 row:∀ r∈R,RowP es r
 perm:R.flatten.Perm ties
theorem Qr(W:Web2 n es){ties:List Nat}(G:Gt es ties)(U:ties.Pairwise (·<·)):RowP es (AC n es ties):=by
 obtain⟨h1,h2,hl⟩:=E1 W G;have R:=DM (G.web W);exact⟨h1,Qq U hl R.tu,fun t ht=>G.lt t (h2 t ht),by unfold AC EB;rw[W2];exact R.few⟩
theorem HZ(W:Web2 n es):∀(f:Nat) {ties:List Nat},Gt es ties->ties.Pairwise (·<·)->mostN (amg es ties) n<f->PairsOk n es ties (CH n es f ties)
 | 0,_,_,_,h=>absurd h (Y4 _)
 | f+1,ties,G,U,h=>by
   show PairsOk n es ties (if ties=[] then [] else _);by_cases z:ties=[]
   ·rw[if_pos z];subst z;refine⟨?_,fun _ h=>(nomatch h),List.Perm.refl _⟩;have:mostN (amg es []) n<=0:=Fo fun p _=>by unfold cntAt h9 amg;simp
    show 0=_;omega
   ·rw[if_neg z];have pos:0<mostN (amg es ties) n:=YC fun y=>z (Er W G y);have oe:=Of W G pos;have K:=HZ W f (G.off fun t=>decide (t∉AC n es ties)) (U.filter _) (by omega);have RP:=Qr W G U;obtain⟨_,h2,_⟩:=E1 W G;refine⟨by rw[Wz,K.len];exact oe,fun r hr=>?_,?_⟩
    ·rcases WN.mp hr with rfl | hr
     ·exact RP
     ·exact K.row r hr
    ·rw[XE];refine(List.Perm.append_left _ K.perm).trans ?_;have nd1:(AC n es ties).Nodup:=Jw RP.up;refine(List.perm_ext_iff_of_nodup ?_ G.nd).mpr fun t=>?_
     ·refine Xd.mpr ⟨nd1,List.Pairwise.filter _ G.nd,fun a ha b hb y=>?_⟩;subst y;exact of_decide_eq_true (X4.mp hb).2 ha
     ·rw[WJ,X4];constructor
      ·rintro(y | y)
       ·exact h2 t y
       ·exact y.1
      ·intro y;by_cases x:t∈AC n es ties
       ·exact .inl x
       ·exact .inr ⟨y,decide_eq_true x⟩
theorem Og(es:EE):amg es (WP es.length)=es:=by
 refine YI fun i=>?_;unfold amg;rw[WG];by_cases h:i<es.length
 ·rw[Xo h,AL h];rfl
 ·rw[XJ (by rw[Xm];omega),XJ (by omega)];rfl
theorem Cd{es:EE}(h:es.length<=90):Gt es (WP es.length):=⟨List.nodup_range,fun t ht=>X5.mp ht,by rw[Xm];exact h⟩
noncomputable def Ad(n:Nat)(es:EE):List (List Nat):=CH n es 91 (WP es.length)
theorem Et(W:Web2 n es)(h:es.length<=90):PairsOk n es (WP es.length) (Ad n es):=HZ W 91 (Cd h) YH (by have:=E2 (n:=n) (Cd h);omega)
end
section
variable{Δ:Nat->Sn}
theorem Rw.ne{S:Sto}{k i l:Nat}{ls:List Nat}{R:List (List Nat)}{r:List Nat}(h:Rw S k ls R)(a:ls[i]?=some l)(b:R[i]?=some r):l≠k:=fun z=>by
 have e:=h.rows i l r a b;rw[z,h.at']at e;have e:=SO.lst.inj (oj e);cases ls with
 | nil=>cases a
 | cons x xs=>
   cases r with
   | nil=>cases e
   | cons y r=>cases e
theorem Rw.snoc{S:Sto}{k lr:Nat}{ls:List Nat}{R:List (List Nat)}{row:List Nat}(h:Rw S k ls R)(hr:S[lr]?=some (SO.lst (natS row)))(hne:lr≠k):Rw (S.set k (SO.lst (ls.map SV.loc++[.loc lr]))) k (ls++[lr]) (R++[row]):=by
 refine⟨by rw[j6 h.at',Wn];rfl,by rw[W3,W3,h.len];rfl,fun i l r a b=>?_⟩;by_cases z:i<ls.length
 ·rw[WD z]at a;rw[WD (by rw[<-h.len];exact z)]at b;rw[i9 (Ne.symm (h.ne a b))];exact h.rows i l r a b
 ·rw[Wh (by omega)]at a;rw[Wh (by rw[<-h.len];omega),<-h.len]at b;cases hi:i - ls.length with
  | zero=>
    rw[hi]at a b;cases a;cases b;rw[i9 (Ne.symm hne)];exact hr
  | succ j=>rw[hi]at a;cases a
theorem Iz(hΔ:∀ f,MonoN (Δ f)){lr lt:Nat}{row ties:List Nat}{S:Sto}{Q:List SV->Sto->Prop}{ρ:EnvS}(hρ:ρ=[none,some (.loc lr)])(hr:S[lr]?=some (SO.lst (natS row)))(ht:S[lt]?=some (SO.lst (natS ties)))(hb:ties.length<=90)(q:Q (natS (ties.filter fun t=>decide (t∉row))) S):
 u9 (CP (.loc lt) S) (.nm 0) (wEo Δ (.yes (.cmp .NotIn (.var 0) (.var 1)))).2 (wEx Δ (.var 0)).1 ρ Q (natS ties) [] S:=by
 subst hρ;refine j7 (j5 hΔ _).2 (a7 hΔ _).1 (fun i ys S2=>S2=S/\ys=natS ((ties.take i).filter fun t=>decide (t∉row))) ⟨rfl,rfl⟩ (fun _ _ _ h=>by rw[h.1];exact rfl) ?_ ?_
 ·rintro i x ys S2 hx ⟨rfl,rfl⟩;obtain⟨t,hti,rfl⟩:=y0 hx;have hf:=Xv (fun t=>decide (t∉row)) (ties.take i);rw[WY]at hf
  have es:(ties.take (i+1)).filter (fun t=>decide (t∉row))=(ties.take i).filter (fun t=>decide (t∉row))++if decide (t∉row)=true then [t] else []:=by
   rw[Ws,hti,YE]
   congr 1
   show Zi _ [t]=_;rw[YL];rfl
  refine⟨_,rfl,_,rfl,?_⟩;show match EW (.loc lr) S2 with | some ms=>_ | none=>_
  rw[O0 hr];refine⟨rfl,_,c5 hr,BB _,_,rfl,?_⟩;show if (!inS (.int t) (natS row))=true then _ else _
  rw[Tz,es];by_cases z:t∈row
  ·rw[decide_eq_true z,decide_eq_false (fun y=>y z)];refine ifF rfl ⟨rfl,?_⟩;rw[if_neg (by decide),XF]
  ·rw[decide_eq_false z,decide_eq_true z];refine ifT rfl ⟨_,rfl,by rw[c9];show _<100000;omega,rfl,?_⟩;rw[if_pos rfl,u6];rfl
 ·rintro ys S2 ⟨rfl,rfl⟩;rw[c9,Wu];exact q
noncomputable def bp1(ko kf:Nat):Stm:=(.asg (.nm 3) (.comp ["at"] ["left"] [2] (.nm 0) (.seq (.call kf (.cons (.call ko (.cons (.var 0) (.cons (.var 2) .nil))) .nil))) .no pkE))
noncomputable def bp2:Stm:=(.expr (.mt .append (.var 1) (.cons (.var 3) .nil)))
noncomputable def bp3:Stm:=(.asg (.nm 2) (.comp ["tie"] ["row"] [3] (.nm 0) (.seq (.var 2)) (.yes (.cmp .NotIn (.var 0) (.var 1))) (.var 0)))
noncomputable def Vb(ks ko kf:Nat):List Stm:=[(.expr (.call ks (.cons (.var 0) .nil))),(.asg (.nm 1) (.lst .nil)),(.asg (.nm 2) (.lrng1 (.bi .len (.cons (.ix (.var 0) (.c (.int 1))) .nil)))),(.whl (.var 2) [bp1 ko kf,bp2,bp3]),(.ret (.var 1))]
noncomputable def Rn(s:Sn):Prop:=∀{n:Nat} {es:EE} {S:Sto} {Q:QE},Web2 n es->es.length<=90->(∀(k:Nat) (ls:List Nat) (S':Sto),Gw S S'->S.length<=k->Rw S' k ls (Ad n es)->Q (.loc k) S')->s [j3 n es] S Q
theorem Oh(hΔ:∀ f,MonoN (Δ f)){ko kf:Nat}(ho:Fc (Δ ko))(hf:DL (Δ kf)){n lk lt:Nat}{es:EE}{ties ls:List Nat}{A:List (List Nat)}{S:Sto}{D:EndsS}{o3:Option SV}(W:Web2 n es)(G:Gt es ties)(hr:Rw S lk ls A)(ha:A.length<=1000)(hl:S[lt]?=some (SO.lst (natS ties)))(ne:lt≠lk)
 (q:∀(lt' lr:Nat) (S':Sto),S.length<=S'.length->(∀ k o,k≠lk->S[k]?=some o->S'[k]?=some o)->Rw S' lk (ls++[lr]) (A++[AC n es ties])->S'[lt']?=some (SO.lst (natS (ties.filter fun t=>decide (t∉AC n es ties))))->lt'≠lk->D.nx [some (j3 n es),some (.loc lk),some (.loc lt'),some (.loc lr)] S'):wSs Δ [bp1 ko kf,bp2,bp3] D [some (j3 n es),some (.loc lk),some (.loc lt),o3] S:=by
 obtain⟨_,_,hal⟩:=E1 W G;have R0:=DM (G.web W);refine⟨_,rfl,_,rfl,ho hl (by have:=G.len;omega) G.lt fun S0 G0=>hf (G.web W) fun lj S1 G1 hlj hj=>⟨_,c5 hj,?_⟩⟩;have G01:=G0.trans G1;refine Iy hΔ rfl hj (G01.keep _ _ hl) hal (Wj R0.few (by decide)) ?_;have hrow:(S1++[SO.lst (natS (AC n es ties))])[S1.length]?=some (SO.lst (natS (AC n es ties))):=c6;have G2:Gw S (S1++[SO.lst (natS (AC n es ties))]):=G01.push;have lk1:lk<S1.length:=Wo (m7 hr.at') G01.len;have nr:S1.length≠lk:=by omega
 generalize S1.length=lr at *;show wSs Δ [bp2,bp3] D [some (j3 n es),some (.loc lk),some (.loc lt),some (.loc lr)] (S1++[SO.lst (natS (AC n es ties))]);generalize S1++[SO.lst (natS (AC n es ties))]=S2 at *;have hr2:=hr.mono G2;refine⟨_,rfl,⟨_,_,rfl,hr2.at'⟩,_,rfl,_,hr2.at',by rw[W2,hr.len];show _<100000;omega,?_⟩;have hr3:=hr2.snoc hrow nr;have hrow3:(S2.set lk (SO.lst (ls.map SV.loc++[.loc lr])))[lr]?=some (SO.lst (natS (AC n es ties))):=by rw[i9 (Ne.symm nr)];exact hrow
 have hl3:(S2.set lk (SO.lst (ls.map SV.loc++[.loc lr])))[lt]?=some (SO.lst (natS ties)):=by rw[i9 (Ne.symm ne)];exact G2.keep _ _ hl
 have k3:∀ k o,k≠lk->S[k]?=some o->(S2.set lk (SO.lst (ls.map SV.loc++[.loc lr])))[k]?=some o:=fun k o h e=>by rw[i9 (Ne.symm h)];exact G2.keep _ _ e
 have l3:S.length<=(S2.set lk (SO.lst (ls.map SV.loc++[.loc lr]))).length:=by rw[WU];exact G2.len
 show wSs Δ [bp3] D [some (j3 n es),some (.loc lk),some (.loc lt),some (.loc lr)] (S2.set lk (SO.lst (ls.map SV.loc++[.loc lr])));generalize S2.set lk (SO.lst (ls.map SV.loc++[.loc lr]))=S3 at *;refine⟨_,rfl,_,c5 hl3,Iz hΔ rfl hrow3 hl3 G.len ?_⟩;have G4:Gw S3 (S3++[SO.lst (natS (ties.filter fun t=>decide (t∉AC n es ties)))]):=(Gw.refl S3).push;exact q _ _ _ (Wj l3 G4.len) (fun k o h e=>G4.keep _ _ (k3 k o h e)) (hr3.mono G4) c6 (fun z=>by have:=m7 hr3.at';omega)
theorem U2(hΔ:∀ f,MonoN (Δ f)){ks ko kf:Nat}(hs:Cb (Δ ks))(ho:Fc (Δ ko))(hf:DL (Δ kf)){D:Df}(hb:D.body=Vb ks ko kf)(hN:D.N.length=4)(hp:D.ps.length=1):Rn (i6 Δ D):=by
 intro n es S Q W hl q;have hn:=W.few;obtain⟨c,c2,cn⟩:=W.two;have H:Sdd n es c:=⟨W.en,c2,cn⟩
 unfold i6;rw[hb,hN];refine⟨hp.symm,_,rfl,hs H (by have:=W.len;omega) (by omega) fun l0 S0 G0=>?_⟩;refine⟨by show 0<=big;decide,_,rfl,_,_,rfl,rfl,_,rfl,_,rfl,⟨by rw[W2];omega,by rw[W2];omega⟩,?_⟩;rw[W2,Jp];have k1:((S0++[SO.lst []])++[SO.lst (natS (WP es.length))])[S0.length]?=some (SO.lst []):=f7 c6;have l1:((S0++[SO.lst []])++[SO.lst (natS (WP es.length))])[(S0++[SO.lst []]).length]?=some (SO.lst (natS (WP es.length))):=c6;have G1:Gw S ((S0++[SO.lst []])++[SO.lst (natS (WP es.length))]):=G0.push.push;have ne:(S0++[SO.lst []]).length≠S0.length:=by rw[W3];show S0.length+1≠_;omega
 have lk0:S.length<=S0.length:=G0.len;generalize (S0++[SO.lst []]).length=lt at *;generalize S0.length=lk at *;generalize (S0++[SO.lst []])++[SO.lst (natS (WP es.length))]=S1 at *;have PA:=Et W hl;have ma:=E2 (n:=n) (Cd hl);have pl:=PA.len
 refine⟨fun m ρ S'=>∃ A ls lt ties f o3,ρ=[some (j3 n es),some (.loc lk),some (.loc lt),o3]/\Gw S S'/\Rw S' lk ls A/\S'[lt]?=some (SO.lst (natS ties))/\lt≠lk/\Gt es ties/\mostN (amg es ties) n<f/\mostN (amg es ties) n<=m/\A++CH n es f ties=Ad n es,
  ⟨_,[],[],lt,_,91,none,rfl,G1,⟨k1,rfl,fun i a r ha=>by cases ha⟩,l1,ne,Cd hl,by omega,WB _,rfl⟩,?_⟩
 rintro m ρ S2 ⟨A,ls,lt,ties,f,o3,rfl,G2,R2,h2,ne2,Gt2,hf2,hm2,e2⟩;refine⟨_,rfl,_,FW h2,?_⟩;by_cases z:ties=[]
 ·subst z;refine ifF rfl ⟨_,rfl,q lk ls S2 G2 lk0 ?_⟩;have:CH n es f []=[]:=by cases f<;>rfl
  rw[this,XF]at e2;rw[<-e2];exact R2
 ·have pos:0<mostN (amg es ties) n:=YC fun y=>z (Er W Gt2 y);have oe:=Of W Gt2 pos;obtain⟨f,rfl⟩:∃ g,f=g+1:=⟨f - 1,by omega⟩
  have e3:CH n es (f+1) ties=AC n es ties::CH n es f (ties.filter fun t=>decide (t∉AC n es ties)):=if_neg z
  have al:A.length<=90:=by
   have:=congrArg Y1 e2;rw[W3]at this;omega
  refine ifT (by cases ties with | nil=>exact absurd rfl z | cons t r=>rfl) (DG fun Ew hw _=>?_);refine Oh hΔ ho hf W Gt2 R2 (by omega) h2 ne2 fun lt' lr S' l' k' R' h' ne'=>?_;refine hw _ _ ⟨m - 1,by omega,A++[AC n es ties],ls++[lr],lt',_,f,_,rfl,⟨Wj G2.len l',fun k o e=>k' k o (fun y=>by have:=m7 e;omega) (G2.keep k o e)⟩,R',h',ne',Gt2.off _,by omega,by omega,?_⟩;rw[<-e2,e3,WV];rfl
end
open PySem L2
theorem Rw.lsi{S:Sto}{k:Nat}{ls:List Nat}{R:List (List Nat)}(h:Rw S k ls R):LsI S ls (R.map iN):=by
 refine⟨by rw[W2];exact h.len,fun i t xs a b=>?_⟩;rw[WG]at b;cases hr:R[i]? with
 | none=>rw[hr]at b;cases b
 | some r=>
   rw[hr]at b;have b:=(oj b).symm;subst b;rw[DK];exact h.rows i t r a hr
theorem Rw.away{S:Sto}{k l:Nat}{us:List Nat}{R:List (List Nat)}{o:SO}(h:Rw S k us R)(hk:l≠k)(hu:∀ u∈us,l≠u):Rw (S.set l o) k us R:=
 ⟨by rw[i9 hk];exact h.at',h.len,fun i u r a b=>by rw[i9 (hu u (W5 a))];exact h.rows i u r a b⟩
section
variable{Δ:Nat->Sn}
noncomputable def rq1(km:Nat):Stm:=(.iff (.or (.not (.bi .isi (.cons (.var 1) (.cons (.tyc .list) .nil)))) (.cmp .NotEq (.bi .len (.cons (.var 1) .nil)) (.call km (.cons (.var 0) .nil)))) [(.ret (.c (.bl false)))] [])
noncomputable def rq3(kr ka:Nat):Stm:=(.iff (.or (.not (.call kr (.cons (.var 3) (.cons (.bi .len (.cons (.ix (.var 0) (.c (.int 1))) .nil)) .nil)))) (.not (.call ka (.cons (.var 0) (.cons (.var 3) .nil))))) [(.ret (.c (.bl false)))] [])
noncomputable def rq4:Stm:=(.expr (.mt .extend (.var 2) (.cons (.var 3) .nil)))
noncomputable def rq5:Stm:=(.ret (.cmp .Eq (.bi .sorted (.cons (.var 2) .nil)) (.lrng1 (.bi .len (.cons (.ix (.var 0) (.c (.int 1))) .nil)))))
noncomputable def KB(kr ka km:Nat):List Stm:=[rq1 km,(.asg (.nm 2) (.lst .nil)),(.loop (.nm 3) (.seq (.var 1)) [rq3 kr ka,rq4]),rq5]
theorem Qs{xs:List Nat}{m:Nat}(h:xs.Perm (WP m)):srt (iN xs)=iN (WP m):=by
 refine(F4 ?_ ?_).symm
 ·unfold iN;exact(h.map _).symm
 ·unfold iN;exact Y0.mpr (YH.imp fun{a b} h=>by show(a:Int)<=b;omega)
noncomputable def Ha(s:Sn):Prop:=∀{n k:Nat} {es:EE} {ls:List Nat} {R:List (List Nat)} {S:Sto} {Q:QE},PairsOk n es (WP es.length) R->(∀ e∈es,e.1<e.2)->n<=60->es.length<=90->Rw S k ls R->(∀ S',Gw S S'->Q (.bl true) S')->s [j3 n es,.loc k] S Q
theorem Li(hΔ:∀ f,MonoN (Δ f)){kr ka km:Nat}(hr:Fk (Δ kr))(hap:Fl (Δ ka))(hm:Fn (Δ km)){D:Df}(hb:D.body=KB kr ka km)(hN:D.N.length=4)(hp:D.ps.length=2):Ha (i6 Δ D):=by
 intro n k es ls R S Q P hu hn hel h q;unfold i6;rw[hb,hN];have pl:=P.len;rw[Og]at pl;have fl:R.flatten.length=es.length:=by rw[P.perm.length_eq,Xm]
 have ee:(((es.map pairS).length:Nat):Int)=(es.length:Nat):=by rw[W2]
 refine⟨hp.symm,_,rfl,_,nofun,O6 h.at',_,rfl,ifF rfl ⟨_,rfl,_,c5 h.at',_,rfl,hm (by omega) (by omega) fun S1 G1=>⟨_,rfl,ifF ?_ (l9 ?_)⟩⟩⟩
 ·show(!decide (((ls.map SV.loc).length:Int)=(mostN es n:Nat)))=false;rw[W2,h.len,pl];simp
 refine⟨by show 0<=big;decide,?_⟩;have h1:=(h.mono G1).mono (Gw.push (o:=SO.lst []) (Gw.refl S1));have k1:(S1++[SO.lst []])[S1.length]?=some (.lst (natS [])):=c6;have G2:Gw S (S1++[SO.lst []]):=G1.push;have l1:S.length<=S1.length:=G1.len;generalize S1.length=kt at *;generalize S1++[SO.lst []]=S2 at *;refine⟨_,rfl,_,c5 h1.at',?_⟩;refine w5 (i8 hΔ _) (fun i ρ S3=>∃ o3,ρ=[some (j3 n es),some (.loc k),some (.loc kt),o3]/\Gw S S3/\S3[kt]?=some (.lst (natS (R.take i).flatten))) ⟨none,rfl,G2,k1⟩ (fun _ _ S3 ⟨_,_,G3,_⟩=>by show S3[k]?=S2[k]?;rw[h1.at',G3.keep _ _ h.at']) ?_ ?_
 ·rintro i x ρ S3 hx ⟨o3,rfl,G3,k3⟩;rw[WG]at hx;cases ha:ls[i]? with
  | none=>rw[ha]at hx;cases hx
  | some l=>
    rw[ha]at hx;have hx:=(oj hx).symm;subst hx;have hi:i<R.length:=by rw[<-h.len];exact(gM ha).1
    have hbb:=W0 hi;have P1:=P.row _ (X0 hi);have h0:=h.rows i l _ ha hbb;have lk:=m7 h0;generalize R[i]=r at *;have h3:=G3.keep _ _ h0;refine⟨_,rfl,_,rfl,_,_,rfl,rfl,_,rfl,?_⟩;rw[ee];refine hr h3 P1.up P1.lt P1.few fun S4 G4=>⟨_,rfl,ifF rfl ?_⟩
    have h4:=G4.keep _ _ h3;refine⟨_,rfl,_,rfl,hap h4 P1.lt (Jw P1.up) P1.ap hu P1.few fun S5 G5=>⟨_,rfl,ifF rfl (l9 ?_)⟩⟩;have h5:=G5.keep _ _ h4;have k5:=G5.keep _ _ (G4.keep _ _ k3)
    have es1:(R.take (i+1)).flatten=(R.take i).flatten++r:=by
     rw[Ws,hbb,Z6];show _++(r++[])=_;rw[XF]
    have fl1:(R.take i).flatten.length+r.length<=90:=by
     have:=congrArg Y1 (congrArg List.flatten (XI (i+1) R));rw[Z6,W3,es1,W3]at this;omega
    refine⟨_,rfl,⟨_,_,rfl,k5⟩,_,rfl,_,_,k5,h5,by rw[c9,c9];show _<=100000;omega,?_⟩;refine⟨_,rfl,((G3.trans G4).trans G5).put (by omega),?_⟩;rw[j6 k5,es1,u6]
 ·rintro ρ S3 ⟨o3,rfl,G3,k3⟩;rw[W2,h.len,Wu]at k3;refine⟨_,rfl,_,_,nofun,c5 k3,Ir _,by unfold iN;rw[W2,fl];omega,?_⟩;rw[Qs P.perm,DK];refine⟨_,rfl,_,_,rfl,rfl,_,rfl,_,rfl,⟨by rw[ee];omega,by rw[ee];omega⟩,?_⟩;rw[ee,Jp];refine⟨_,_,f7 c6,c6,.inl ⟨BB _,BB _⟩,?_⟩;rw[HW];exact q _ G3.push.push
end
end Rf
namespace Hue
open PySem L2 Rf
noncomputable def Lc:Stm:=(.asg (.nm 6) (.call 20 (.cons (.var 3) .nil)))
noncomputable def Ld:Stm:=(.iff (.not (.call 29 (.cons (.var 3) (.cons (.var 6) .nil)))) [(.ret (.c (.bl false)))] [])
noncomputable def Le:Stm:=(.asg (.nm 7) (.comp ["_law_row"] [] [] (.nm 0) (.seq (.var 6)) .no (.bi .list (.cons (.var 0) .nil))))
noncomputable def Lf:Stm:=(.loop (.nm 8) (.seq (.var 6)) [(.expr (.mt .append (.var 8) (.cons (.c (.int 0)) .nil)))])
noncomputable def Lg:Stm:=(.expr (.mt .reverse (.var 6) .nil))
noncomputable def Lh:Stm:=(.iff (.nell (.call 20 (.cons (.var 3) .nil)) (.var 7)) [(.ret (.c (.bl false)))] [])
noncomputable def Lb:Stm:=(.iff (.and (.cmp .Eq (.call 22 (.cons (.var 2) (.cons (.c (.int 4)) .nil))) (.c (.int 0))) (.cmp .Lt (.bi .len (.cons (.ix (.var 3) (.c (.int 1))) .nil)) (.c (.int 12)))) [(.asg (.nm 4) (.lst .nil)),(.loop (.nm 5) (.seq (.ix (.var 3) (.c (.int 1)))) [(.expr (.mt .extend (.var 4) (.cons (.op .Mult (.lst (.cons (.var 5) .nil)) (.op .Add (.c (.int 1)) (.call 22 (.cons (.var 2) (.cons (.c (.int 4)) .nil))))) .nil)))]),(.asg (.nm 3) (.tup (.cons (.ix (.var 3) (.c (.int 0))) (.cons (.bi .tuple (.cons (.var 4) .nil)) .nil))))] [])
noncomputable def top(i:Nat):Stmt:=PySem.Challenge.pw_huedties_k31_hued_by_pairings.main.body.getD i (.Pass ⟨0,0,0,0⟩)
noncomputable def b0:List Stm:=O9
noncomputable def d0:Df:=⟨"is_number",top 6,["thing"],["thing"],b0⟩
noncomputable def b1:List Stm:=Eh 0
noncomputable def d1:Df:=⟨"has_place",top 8,["web","place"],["web","place"],b1⟩
noncomputable def b2:List Stm:=Jl 0
noncomputable def d2:Df:=⟨"has_tie",top 9,["web","tie"],["web","tie"],b2⟩
noncomputable def b3:List Stm:=FX 1
noncomputable def d3:Df:=⟨"check_place",top 10,["web","place"],["web","place"],b3⟩
noncomputable def b4:List Stm:=FX 2
noncomputable def d4:Df:=⟨"check_tie",top 11,["web","tie"],["web","tie"],b4⟩
noncomputable def b5:List Stm:=Jm 3
noncomputable def d5:Df:=⟨"ties_at",top 12,["web","place"],["web","place"],b5⟩
noncomputable def b6:List Stm:=OK 5
noncomputable def d6:Df:=⟨"count_at",top 13,["web","place"],["web","place"],b6⟩
noncomputable def b7:List Stm:=Rm
noncomputable def d7:Df:=⟨"most_at",top 14,["web"],["web","counts","one","other"],b7⟩
noncomputable def b8:List Stm:=Jn 4
noncomputable def d8:Df:=⟨"far_end",top 15,["web","tie","place"],["web","tie","place","one","other"],b8⟩
noncomputable def b9:List Stm:=Re 4
noncomputable def d9:Df:=⟨"only",top 16,["web","ties"],["web","ties","tie"],b9⟩
noncomputable def b10:List Stm:=Rc 5 8
noncomputable def d10:Df:=⟨"give_sides",top 18,["web","start","sides","back"],["web","start","sides","back","waiting","place","tie","far"],b10⟩
noncomputable def b11:List Stm:=[(.asg (.nm 3) (.lst .nil)),(.whl (.cmp .IsNot (.ix (.var 2) (.var 1)) (.c .non)) [(.expr (.mt .append (.var 3) (.cons (.ix (.var 2) (.var 1)) .nil))),(.asg (.nm 1) (.call 8 (.cons (.var 0) (.cons (.ix (.var 2) (.var 1)) (.cons (.var 1) .nil)))))]),(.ret (.var 3))]
noncomputable def d11:Df:=⟨"way_back",top 19,["web","place","back"],["web","place","back","way"],b11⟩
noncomputable def b12:List Stm:=[(.asg (.tup (.cons (.nm 3) (.cons (.nm 4) .nil))) (.ix (.ix (.var 0) (.c (.int 1))) (.var 1))),(.asg (.nm 5) (.call 11 (.cons (.var 0) (.cons (.var 3) (.cons (.var 2) .nil))))),(.asg (.nm 6) (.call 11 (.cons (.var 0) (.cons (.var 4) (.cons (.var 2) .nil))))),(.whl (.and (.var 5) (.and (.var 6) (.cmp .Eq (.ix (.var 5) (.neg (.c (.int 1)))) (.ix (.var 6) (.neg (.c (.int 1))))))) [(.expr (.mt .pop (.var 5) .nil)),(.expr (.mt .pop (.var 6) .nil))]),(.ret (.op .Add (.op .Add (.var 5) (.rev (.var 6))) (.lst (.cons (.var 1) .nil))))]
noncomputable def d12:Df:=⟨"ring_through",top 20,["web","tie","back"],["web","tie","back","one","other","up","down"],b12⟩
noncomputable def b13:List Stm:=VX 10 12
noncomputable def d13:Df:=⟨"two_sides",top 21,["web"],["web","sides","back","place","tie","one","other"],b13⟩
noncomputable def b14:List Stm:=HE 13
noncomputable def d14:Df:=⟨"sides_of",top 22,["web"],["web","word","row"],b14⟩
noncomputable def b15:List Stm:=Rg 5 8
noncomputable def d15:Df:=⟨"ways_from",top 24,["web","pairs","starts"],["web","pairs","starts","came","waiting","place","tie","far","near"],b15⟩
noncomputable def b16:List Stm:=Rh 8
noncomputable def d16:Df:=⟨"turn_way",top 25,["web","pairs","came","end"],["web","pairs","came","end","tie","near"],b16⟩
noncomputable def b17:List Stm:=OM 15 6 8 16
noncomputable def d17:Df:=⟨"give_pair",top 26,["web","pairs","start","needed"],["web","pairs","start","needed","came","place"],b17⟩
noncomputable def b18:List Stm:=Jy
noncomputable def d18:Df:=⟨"ties_of",top 27,["pairs"],["pairs"],b18⟩
noncomputable def b19:List Stm:=Oa 14 7 6 17 18
noncomputable def d19:Df:=⟨"full_pairing",top 28,["web"],["web","pairs","most","place"],b19⟩
noncomputable def b20:List Stm:=Vb 14 9 19
noncomputable def d20:Df:=⟨"by_pairings",top 30,["web"],["web","told","left","row"],b20⟩
noncomputable def b21:List Stm:=Ra
noncomputable def d21:Df:=⟨"_law_tape",top 32,["_law_script","_law_k"],["_law_script","_law_k","_law_cell","_law_digits"],b21⟩
noncomputable def b22:List Stm:=Rb
noncomputable def d22:Df:=⟨"_law_draw",top 33,["_law_tape_here","_law_many"],["_law_tape_here","_law_many","_law_found","_law_once"],b22⟩
noncomputable def b23:List Stm:=HU 22
noncomputable def d23:Df:=⟨"_law_two_once",top 34,["_law_tape_here","_law_great"],["_law_tape_here","_law_great","_law_many","_law_sides","_law_left","_law_right_here","_law_way","_law_found","_law_one","_law_turn","_law_ties","_law_other"],b23⟩
noncomputable def b24:List Stm:=En 23
noncomputable def d24:Df:=⟨"_law_two_sided",top 35,["_law_tape_here","_law_great"],["_law_tape_here","_law_great","_law_web","_law_turn"],b24⟩
noncomputable def b25:List Stm:=Iu
noncomputable def d25:Df:=⟨"_law_rises",top 36,["_law_thing","_law_below"],["_law_thing","_law_below"],b25⟩
noncomputable def b26:List Stm:=OV
noncomputable def d26:Df:=⟨"_law_apart",top 37,["_law_web","_law_ties"],["_law_web","_law_ties","_law_places","_law_tie"],b26⟩
noncomputable def b27:List Stm:=K9
noncomputable def d27:Df:=⟨"_law_count",top 38,["_law_web","_law_place"],["_law_web","_law_place"],b27⟩
noncomputable def b28:List Stm:=Oc 27
noncomputable def d28:Df:=⟨"_law_most",top 39,["_law_web"],["_law_web"],b28⟩
noncomputable def b29:List Stm:=KB 25 26 28
noncomputable def d29:Df:=⟨"_law_right",top 40,["_law_web","_law_found"],["_law_web","_law_found","_law_ties","_law_row"],b29⟩
noncomputable def b30:List Stm:=[(.loop (.nm 1) (.rng1 (.op .Add (.c (.int 1)) (.bi .min (.cons (.c (.int 6)) (.cons (.bi .len (.cons (.var 0) .nil)) .nil))))) [(.asg (.nm 2) (.call 21 (.cons (.var 0) (.cons (.var 1) .nil)))),(.asg (.nm 3) (.call 24 (.cons (.var 2) (.cons (.and (.cmp .Eq (.var 1) (.c (.int 0))) (.cmp .Eq (.call 22 (.cons (.var 2) (.cons (.c (.int 8)) .nil))) (.c (.int 0)))) .nil)))),Lb,Lc,Ld,Le,Lf,Lg,Lh]),(.ret (.and (.cmp .Eq (.call 20 (.cons (.tup (.cons (.c (.int 0)) (.cons (.tup .nil) .nil))) .nil)) (.lst .nil)) (.cmp .Eq (.call 20 (.cons (.tup (.cons (.c (.int 6)) (.cons (.tup .nil) .nil))) .nil)) (.lst .nil))))]
noncomputable def d30:Df:=⟨"law",top 41,["_law_script"],["_law_script","_law_k","_law_tape_here","_law_web","_law_ties","_law_pair","_law_found","_law_kept","_law_row"],b30⟩
noncomputable def prog:List Df:=[d0,d1,d2,d3,d4,d5,d6,d7,d8,d9,d10,d11,d12,d13,d14,d15,d16,d17,d18,d19,d20,d21,d22,d23,d24,d25,d26,d27,d28,d29,d30]
theorem Hb:prog.all (QV (prog.map (·.name)))=true:=by decide +kernel
open PySem L2 Rf
theorem hW(d:Nat):∀ f,MonoN (W prog d f):=Dp d
theorem s0(d:Nat):DH (W prog (d+1) 0):=OA (Δ:=W prog d) (D:=d0) rfl rfl rfl
theorem s1(d:Nat):CG (W prog (d+2) 1):=HA (Δ:=W prog (d+1)) (D:=d1) (s0 d) rfl rfl rfl
theorem s2(d:Nat):Dr (W prog (d+2) 2):=LN (Δ:=W prog (d+1)) (D:=d2) (s0 d) rfl rfl rfl
theorem s3(d:Nat):BO (W prog (d+3) 3):=E9 (Δ:=W prog (d+2)) (D:=d3) (s1 d) rfl rfl rfl
theorem s4(d:Nat):BP (W prog (d+3) 4):=HB (Δ:=W prog (d+2)) (D:=d4) (s2 d) rfl rfl rfl
theorem s5(d:Nat):B8 (W prog (d+4) 5):=LO (Δ:=W prog (d+3)) (D:=d5) (hW _) (s3 d) rfl rfl rfl
theorem s6(d:Nat):DJ (W prog (d+5) 6):=OL (Δ:=W prog (d+4)) (D:=d6) (s5 d) rfl rfl rfl
theorem s7(d:Nat):Ix (W prog (d+1) 7):=Qo (Δ:=W prog d) (D:=d7) (hW _) rfl rfl rfl
theorem s8(d:Nat):AB (W prog (d+4) 8):=LP (Δ:=W prog (d+3)) (D:=d8) (s4 d) rfl rfl rfl
theorem s9(d:Nat):Fc (W prog (d+4) 9):=Qc (Δ:=W prog (d+3)) (D:=d9) (hW _) (s4 d) rfl rfl rfl
theorem s10(d:Nat):Fm (W prog (d+5) 10):=OX (Δ:=W prog (d+4)) (D:=d10) (hW _) (s5 d) (s8 d) rfl rfl rfl
theorem s13(d:Nat):Iw (W prog (d+6) 13):=Qn (Δ:=W prog (d+5)) (D:=d13) (hW _) (s10 d) rfl rfl rfl
theorem s14(d:Nat):Cb (W prog (d+7) 14):=LY (Δ:=W prog (d+6)) (D:=d14) (s13 d) rfl rfl rfl
theorem s15(d:Nat):Im (W prog (d+5) 15):=Qf (Δ:=W prog (d+4)) (D:=d15) (hW _) (s5 d) (s8 d) rfl rfl rfl
theorem s16(d:Nat):Io (W prog (d+5) 16):=Qh (Δ:=W prog (d+4)) (D:=d16) (s8 d) rfl rfl rfl
theorem s17(d:Nat):Fg (W prog (d+6) 17):=ON (Δ:=W prog (d+5)) (D:=d17) (hW _) (s15 d) (s6 d) (s8 (d+1)) (s16 d) rfl rfl rfl
theorem s18(d:Nat):Dv (W prog (d+1) 18):=LU (Δ:=W prog d) (D:=d18) (hW _) rfl rfl rfl
theorem s19(d:Nat):DL (W prog (d+8) 19):=Ob (Δ:=W prog (d+7)) (D:=d19) (hW _) (s14 d) (s7 (d+6)) (s6 (d+2)) (s17 (d+1)) (s18 (d+6)) rfl rfl rfl
theorem s20(d:Nat):Rn (W prog (d+9) 20):=U2 (Δ:=W prog (d+8)) (D:=d20) (hW _) (s14 (d+1)) (s9 (d+4)) (s19 d) rfl rfl rfl
theorem s21(d:Nat):O7 (W prog (d+1) 21):=QX (Δ:=W prog d) (D:=d21) rfl rfl rfl
theorem s22(d:Nat):Bk (W prog (d+1) 22):=QW (Δ:=W prog d) (D:=d22) rfl rfl rfl
theorem s23(d:Nat):BD (W prog (d+2) 23):=Iq (Δ:=W prog (d+1)) (D:=d23) (hW _) (s22 d) rfl rfl rfl
theorem s24(d:Nat):BD (W prog (d+3) 24):=HV (Δ:=W prog (d+2)) (D:=d24) (hW _) (s23 d) rfl rfl rfl
theorem s25(d:Nat):Fk (W prog (d+1) 25):=OU (Δ:=W prog d) (D:=d25) (hW _) rfl rfl rfl
theorem s26(d:Nat):Fl (W prog (d+1) 26):=OW (Δ:=W prog d) (D:=d26) (hW _) rfl rfl rfl
theorem s27(d:Nat):Dz (W prog (d+1) 27):=LZ (Δ:=W prog d) (D:=d27) (hW _) rfl rfl rfl
theorem s28(d:Nat):Fn (W prog (d+2) 28):=Od (Δ:=W prog (d+1)) (D:=d28) (hW _) (s27 d) rfl rfl rfl
theorem s29(d:Nat):Ha (W prog (d+3) 29):=Li (Δ:=W prog (d+2)) (D:=d29) (hW _) (s25 (d+1)) (s26 (d+1)) (s28 d) rfl rfl rfl
theorem Cy{D:EndsS}{n:Nat}{es:EE}{S:Sto}{o0 o1 o2 o4 o5 o6 o7 o8:Option SV}(Wb:Web2 n es)(hel:es.length<=90)(q:∀(o6 o7 o8:Option SV) (S':Sto),D.nx [o0,o1,o2,some (j3 n es),o4,o5,o6,o7,o8] S'):wSs (W prog 9) [Lc,Ld,Le,Lf,Lg,Lh] D [o0,o1,o2,some (j3 n es),o4,o5,o6,o7,o8] S:=by
 have hn:=Wb.few;have PA:=Et Wb hel;have ma:=E2 (n:=n) (Cd hel);have pl:=PA.len;refine⟨_,rfl,s20 0 Wb hel fun k ls S1 G1 hk R1=>?_⟩;refine⟨_,rfl,_,rfl,s29 6 PA (fun e he=>(Wb.en e he).1) hn hel R1 fun S2 G2=>⟨_,rfl,ifF rfl (l9 ?_)⟩⟩;have R2:=R1.mono G2;have rf:∀ r∈Ad n es,r.length<=62:=fun r hr=>(PA.row r hr).few;refine⟨_,rfl,_,c5 R2.at',?_⟩;refine j7 (j5 (hW _) _).2 (a7 (hW _) _).1 (fun i ys S3=>Gw S2 S3/\∃ us:List Nat,ys=us.map SV.loc/\us.length=i/\(∀ u∈us,S2.length<=u)/\∀(j u:Nat) (r:List Nat),us[j]?=some u->(Ad n es)[j]?=some r->S3[u]?=some (SO.lst (natS r))) ⟨Gw.refl _,[],rfl,rfl,(fun _ h=>nomatch h),(fun j u r h=>by simp at h)⟩ (fun _ _ S3 h=>by show S3[k]?=S2[k]?;rw[R2.at',h.1.keep _ _ R2.at']) ?_ ?_
 ·rintro i x ys S3 hx ⟨G3,us,rfl,rfl,hun,hus⟩;rw[WG]at hx;cases ha:ls[us.length]? with
  | none=>rw[ha]at hx;cases hx
  | some l=>
    rw[ha]at hx;have hx:=(oj hx).symm;subst hx;have hi:us.length<(Ad n es).length:=by rw[<-R2.len];exact(gM ha).1
    have hb:=W0 hi;have hl:=G3.keep _ _ (R2.rows _ l _ ha hb);refine⟨_,rfl,_,c5 hl,by rw[W2];show _<100000;omega,G3.push,us++[S3.length],by rw[Wn];rfl,by rw[W3];rfl,fun u hu=>?_,fun j u r hj hr=>?_⟩
    ·rcases WJ.mp hu with hu | hu
     ·exact hun u hu
     ·rw[W6.mp hu];exact G3.len
    ·by_cases z:j<us.length
     ·rw[WD z]at hj;exact f7 (hus j u r hj hr)
     ·rw[Wh (by omega)]at hj;cases hjj:j - us.length with
      | succ y=>rw[hjj]at hj;cases hj
      | zero=>
        rw[hjj]at hj;cases hj;have:j=us.length:=by omega
        rw[this,hb]at hr;rw[<-oj hr];exact c6
 rintro ys S3 ⟨G3,us,rfl,hul,hun,hus⟩;rw[W2]at hul;have K4:Rw (S3++[SO.lst (us.map SV.loc)]) S3.length us (Ad n es):=⟨c6,by rw[hul,R2.len],fun i u r a b=>f7 (hus i u r a b)⟩
 have R4:=(R2.mono G3).mono (Gw.push (o:=SO.lst (us.map SV.loc)) (Gw.refl S3));have kl:k<S2.length:=m7 R2.at'
 have ll:∀(j l:Nat),ls[j]?=some l->l<S2.length/\l≠k/\∃ xs,(S3++[SO.lst (us.map SV.loc)])[l]?=some (SO.lst xs)/\xs.length<=62:=fun j l a=>by
  have hi:j<(Ad n es).length:=by rw[<-R2.len];exact(gM a).1
  have hb:=W0 hi;exact⟨m7 (R2.rows j l _ a hb),R2.ne a hb,_,R4.rows j l _ a hb,by rw[c9];exact rf _ (X0 hi)⟩
 have h4:=R4.at';have g3:=G3.len;have ne:S2.length<=S3.length:=g3;have lsl:ls.length<=90:=by rw[R2.len];omega
 generalize S3.length=kk at *;show wSs (W prog 9) [Lf,Lg,Lh] D [o0,o1,o2,some (j3 n es),o4,o5,some (.loc k),some (.loc kk),o8] (S3++[SO.lst (us.map SV.loc)]);generalize S3++[SO.lst (us.map SV.loc)]=S4 at *;refine⟨_,rfl,_,c5 h4,?_⟩;refine BM (i8 (hW _) _) (fun i ρ S5=>∃ o8,ρ=[o0,o1,o2,some (j3 n es),o4,o5,some (.loc k),some (.loc kk),o8]/\S5[k]?=some (SO.lst (ls.map SV.loc))/\(∀(j l:Nat),ls[j]?=some l->∃ xs,S5[l]?=some (SO.lst xs)/\xs.length<=62+i)/\Rw S5 kk us (Ad n es)) ⟨o8,rfl,h4,fun j l a=>(ll j l a).2.2,K4⟩ (fun _ _ S5 h=>by obtain⟨_,_,h,_⟩:=h;show S5[k]?=S4[k]?;rw[h,h4]) ?_ ?_
 ·rintro i x ρ S5 E hE _ hx ⟨o,rfl,k5,l5,K5⟩;rw[WG]at hx;cases ha:ls[i]? with
  | none=>rw[ha]at hx;cases hx
  | some l=>
    rw[ha]at hx;have hx:=(oj hx).symm;subst hx;obtain⟨a1,a2,_⟩:=ll i l ha;obtain⟨xs,hxs,hxl⟩:=l5 i l ha;have hil:i<ls.length:=(gM ha).1;refine⟨_,rfl,⟨_,_,rfl,hxs⟩,_,hxs,by show _<100000;omega,?_⟩;refine hE _ _ ⟨_,rfl,by rw[i9 a2];exact k5,fun j l' hj=>?_,K5.away (by omega) fun u hu=>by have:=hun u hu;omega⟩;by_cases z:l=l'
    ·subst z;exact⟨_,j6 hxs,by rw[W3];show _+1<=_;omega⟩
    ·obtain⟨ys,hys,hyl⟩:=l5 j l' hj;exact⟨ys,by rw[i9 z];exact hys,by omega⟩
 rintro ρ S5 ⟨o,rfl,k5,_,K5⟩;refine⟨_,rfl,⟨_,_,rfl,k5⟩,_,k5,?_⟩;have K6:=K5.away (l:=k) (o:=SO.lst (ls.map SV.loc).reverse) (by omega) fun u hu=>by have:=hun u hu;omega
 generalize S5.set k (SO.lst (ls.map SV.loc).reverse)=S6 at *;refine⟨_,rfl,s20 0 Wb hel fun k' ls' S7 G7 _ R7=>?_⟩;have K7:=K6.mono G7;exact⟨_,rfl,_,_,ls',us,_,rfl,rfl,R7.at',K7.at',R7.lsi,K7.lsi,_,rfl,ifF rfl (l9 (q _ _ _ _))⟩
theorem Hc{n:Nat}(hn:n<=60):Web2 n []:=⟨(fun _ h=>nomatch h),by simp,hn,⟨fun _=>0,(fun _=>by show 0<2;omega),(fun _ h=>nomatch h)⟩⟩
theorem Oi(m:Nat)(e:Nat×Nat):(WC m [pairS e]).flatten=(WC m e).map pairS:=by
 induction m with
 | zero=>rfl
 | succ m ih=>rw[Wr,XE,ih,Wr,Wl];rfl
theorem Hd{E:EndsS}{n tp:Nat}{es:EE}{S3:Sto}{o0 o1 o4 o5 o6 o7 o8:Option SV}(Wb:Web2 n es)(hl:es.length<=90)(T3:TapeS S3 tp)(hE:∀(o3 o4 o5 o6 o7 o8:Option SV) (S':Sto),E.nx [o0,o1,some (.loc tp),o3,o4,o5,o6,o7,o8] S'):wSs (W prog 9) [Lb,Lc,Ld,Le,Lf,Lg,Lh] E [o0,o1,some (.loc tp),some (j3 n es),o4,o5,o6,o7,o8] S3:=by
 refine⟨_,rfl,s22 8 T3 (by decide) (by decide) fun r' S4 r0' r1' T4 O4 _=>⟨_,rfl,?_⟩⟩;refine ifD (fun _=>?_) (fun _=>ifF rfl (l9 (Cy Wb hl fun o6 o7 o8 S'=>hE _ _ _ o6 o7 o8 S')));refine⟨_,rfl,_,_,rfl,rfl,_,rfl,_,rfl,?_⟩;refine ifD (fun hlt=>?_) (fun _=>l9 (Cy Wb hl fun o6 o7 o8 S'=>hE _ _ _ o6 o7 o8 S'))
 have hlt:es.length<12:=by
  have:(((es.map pairS).length:Nat):Int)<12:=hlt;rw[W2]at this;omega
 refine⟨by show 0<=big;decide,?_⟩;have T5:=T4.push (o:=SO.lst []);have k5:(S4++[SO.lst []])[S4.length]?=some (.lst (([]:EE).map pairS)):=c6;have ne:S4.length≠tp:=by obtain⟨_,_,e,_⟩:=T4.ex;exact Ne.symm (WR (m7 e))
 generalize S4.length=k at *;generalize S4++[SO.lst []]=S5 at *;refine⟨_,rfl,_,_,rfl,rfl,_,rfl,?_⟩;refine w5 (i8 (hW _) _) (fun j ρ S6=>∃(o5:Option SV) (fs:EE),ρ=[o0,o1,some (.loc tp),some (j3 n es),some (.loc k),o5,o6,o7,o8]/\TapeS S6 tp/\S6[k]?=some (.lst (fs.map pairS))/\fs.length<=4 * j/\∀ e∈fs,e∈es) ⟨_,[],rfl,T5,k5,WB _,fun _ h=>nomatch h⟩ (fun _ _ _ _=>trivial) ?_ ?_
 ·rintro j x ρ S6 hx ⟨o5,fs,rfl,T6,k6,hfl,hfs⟩;obtain⟨e,he,rfl⟩:=B9 hx;have hjl:=(gM he).1;refine⟨_,rfl,⟨_,_,rfl,k6⟩,_,rfl,by show 1<=big;decide,_,rfl,?_⟩;have T7:=T6.push (o:=SO.lst [pairS e]);have k7:=f7 (o:=SO.lst [pairS e]) k6;have p7:(S6++[SO.lst [pairS e]])[S6.length]?=some (.lst [pairS e]):=c6;have ne2:S6.length≠tp:=by obtain⟨_,_,e,_⟩:=T6.ex;exact Ne.symm (WR (m7 e))
  generalize S6.length=kp at *;generalize S6++[SO.lst [pairS e]]=S7 at *;refine s22 8 T7 (by decide) (by decide) fun r8 S8 r80 r81 T8 O8 _=>?_;have k8:=O8.keep _ _ ne k7;have p8:=O8.keep _ _ ne2 p7;obtain⟨m8,rfl⟩:=Int.eq_ofNat_of_zero_le r80;have em:((1:Int)+(m8:Int)).toNat=m8+1:=by omega
  refine⟨_,p8,⟨by omega,by omega⟩,?_,?_⟩
  ·rw[em];show 1 * (m8+1)<=100000;omega
  rw[em,Oi];refine⟨_,_,f7 k8,c6,?_,?_⟩
  ·rw[W2,W2,Xf];show _<=100000;omega
  refine⟨_,fs++WC (m8+1) e,rfl,(T8.push).other ne,?_,?_,fun f hf=>?_⟩
  ·rw[j6 (f7 k8),Wn]
  ·rw[W3,Xf];omega
  ·rcases WJ.mp hf with hf | hf
   ·exact hfs f hf
   ·rw[(ZA.mp hf).2];exact W5 he
 ·rintro ρ S6 ⟨o5,fs,rfl,T6,k6,hfl,hfs⟩;rw[W2]at hfl
  have Wf:Web2 n fs:=by
   obtain⟨c,c2,cn⟩:=Wb.two;exact⟨fun e he=>Wb.en e (hfs e he),by omega,Wb.few,c,c2,fun e he=>cn e (hfs e he)⟩
  refine⟨_,rfl,_,_,rfl,rfl,_,rfl,_,c5 k6,by show 2<=big;decide,?_⟩;exact Cy Wf (by omega) fun o6 o7 o8 S'=>hE _ _ _ o6 o7 o8 S'
theorem law_main(ns:List Int)(h:ns.length<=63):W prog 10 30 [.ro (ns.map SV.int)] [] fun x _=>x = .bl true:=by
 show i6 (W prog 9) d30 _ _ _
 have hj:∃ m:Nat,1+(if ((ns.map SV.int).length:Int)<6 then ((ns.map SV.int).length:Int) else 6)=(m:Int)/\m<=7:=by
  rw[W2];refine⟨1+min 6 ns.length,?_,by omega⟩;split<;>omega
 obtain⟨m,hm,hm9⟩:=hj;refine⟨rfl,_,rfl,_,rfl,m,congrArg SV.int hm,⟨by omega,by omega⟩,?_⟩;refine w5 (i8 (hW _) _) (fun i ρ S'=>∃ o1 o2 o3 o4 o5 o6 o7 o8,ρ=[some (.ro (ns.map SV.int)),o1,o2,o3,o4,o5,o6,o7,o8]) ⟨none,none,none,none,none,none,none,none,rfl⟩ (fun _ _ _ _=>trivial) ?_ ?_
 ·rintro i x ρ S hx ⟨o1,o2,o3,o4,o5,o6,o7,o8,rfl⟩;obtain⟨rfl,hi⟩:=Am hx;rw[YZ]at hi ⊢;refine⟨_,rfl,_,rfl,s21 8 h (by omega) fun a b ha hb hb2=>?_⟩;have T1:TapeS (S++[SO.lst [.int a,.int b]]) S.length:=⟨a,b,c6,ha,hb,hb2⟩
  dsimp only[Zj];generalize S.length=tp at *;generalize S++[SO.lst [.int a,.int b]]=S1 at *;have go:∀(g:Bool) (S2:Sto) (Q:QE),TapeS S2 tp->(∀ n es S3,Web2 n es->es.length<=90->TapeS S3 tp->Q (j3 n es) S3)->W prog 9 24 [.loc tp,.bl g] S2 Q:=fun g S2 Q T2 q=>s24 6 T2 fun n es S3 Wb hn hl T3 O3=>q n es S3 Wb hl T3;refine⟨_,rfl,_,rfl,_,rfl,ifD (fun _=>?_) (fun _=>?_)⟩
  ·refine⟨_,rfl,s22 8 T1 (by decide) (by decide) fun r S2 r0 r1 T2 O2 _=>?_⟩;refine go _ S2 _ T2 fun n es S3 Wb hl T3=>?_;dsimp only[Zj];exact Hd Wb hl T3 fun _ _ _ _ _ _ _=>⟨_,_,_,_,_,_,_,_,rfl⟩
  ·refine go _ S1 _ T1 fun n es S3 Wb hl T3=>?_;dsimp only[Zj];exact Hd Wb hl T3 fun _ _ _ _ _ _ _=>⟨_,_,_,_,_,_,_,_,rfl⟩
 ·rintro ρ S ⟨o1,o2,o3,o4,o5,o6,o7,o8,rfl⟩;have b0:0<=big:=by decide
  have b2:2<=big:=by decide
  have none_p:∀ m,Ad m []=[]:=fun m=>rfl
  have none_r:∀{S':Sto} {m k:Nat} {ls:List Nat},Rw S' k ls (Ad m [])->S'[k]?=some (SO.lst []):=fun{S' m k ls} R=>by
   rw[none_p]at R;have:=R.at'
   rwa [Yn.mp R.len]at this
  refine⟨b0,b2,s20 0 (Hc (n:=0) (by omega)) (by simp) fun k ls S1 G1 _ R1=>?_⟩;refine⟨b0,_,_,f7 (none_r R1),c6,.inr (.inl rfl),_,rfl,ifT rfl ?_⟩;refine⟨b0,b2,s20 0 (Hc (n:=6) (by omega)) (by simp) fun k ls S2 G2 _ R2=>?_⟩;exact⟨b0,_,_,f7 (none_r R2),c6,.inr (.inl rfl),rfl⟩
end Hue
namespace PySem.W.Fast
theorem tw7523258922224298755:True:=⟨⟩
theorem tw14061376967633787539:True:=⟨⟩
theorem tw13418183200191972846:True:=⟨⟩
theorem tw14056533772200704215:True:=⟨⟩
theorem tw12346576183278691137:True:=⟨⟩
theorem tw13107935919210084434:True:=⟨⟩
theorem tw10382922259792916020:True:=⟨⟩
theorem tw726077315434828627:True:=⟨⟩
theorem tw10690557777788129913:True:=⟨⟩
theorem tw18384584817133874073:True:=⟨⟩
theorem tw7508253421924118087:True:=⟨⟩
theorem tw8398150561464777395:True:=⟨⟩
theorem tw572803953748217834:True:=⟨⟩
theorem tw2815673508147791947:True:=⟨⟩
theorem tw11987466322237879199:True:=⟨⟩
theorem tw6024193169881289480:True:=⟨⟩
theorem tw12985393273371167454:True:=⟨⟩
theorem tw1470092007584812460:True:=⟨⟩
theorem tw16241576289966419641:True:=⟨⟩
theorem tw7051343758303299028:True:=⟨⟩
theorem tw9328039169207305456:True:=⟨⟩
theorem tw18405499299278828642:True:=⟨⟩
theorem tw14473248362490687961:True:=⟨⟩
theorem tw8336230171521184250:True:=⟨⟩
theorem tw4175670925751335300:True:=⟨⟩
theorem tw13703566460721334822:True:=⟨⟩
theorem tw16081823461389816795:True:=⟨⟩
theorem tw15066825585867108109:True:=⟨⟩
theorem tw2918505182866181476:True:=⟨⟩
theorem tw14936907532316613118:True:=⟨⟩
theorem tw6401639030152954544:True:=⟨⟩
theorem tw18337929927036260659:True:=⟨⟩
theorem tw13144767265693424911:True:=⟨⟩
theorem tw4197232559783651719:True:=⟨⟩
theorem tw7459351678037882320:True:=⟨⟩
theorem tw9058102852487247338:True:=⟨⟩
theorem tw12476660718806588953:True:=⟨⟩
theorem tw10091551369908044481:True:=⟨⟩
theorem tw17247409521391047292:True:=⟨⟩
theorem tw10014146881017128458:True:=⟨⟩
theorem tw15208618632451826462:True:=⟨⟩
theorem tw1535798578475945999:True:=⟨⟩
theorem tw12600553890855295232:True:=⟨⟩
theorem tw12665479707682525470:True:=⟨⟩
theorem tw3896729766079726595:True:=⟨⟩
theorem tw15712912568644389458:True:=⟨⟩
theorem tw1375799498092100504:True:=⟨⟩
theorem tw11487442185518812314:True:=⟨⟩
theorem tw8147856120136527985:True:=⟨⟩
theorem tw17812754084577826362:True:=⟨⟩
theorem tw12747621862943123861:True:=⟨⟩
theorem tw15645233311542125304:True:=⟨⟩
theorem tw694080667177390116:True:=⟨⟩
theorem tw2244085979991311869:True:=⟨⟩
theorem tw8764584643872929808:True:=⟨⟩
theorem tw13547754173404901643:True:=⟨⟩
theorem tw2088113206588469315:True:=⟨⟩
theorem tw10842041164142026599:True:=⟨⟩
theorem tw16108106815048330521:True:=⟨⟩
theorem tw10244248495276318352:True:=⟨⟩
theorem tw1182484259133604741:True:=⟨⟩
theorem tw8492072473240008852:True:=⟨⟩
theorem tw7610251641886665284:True:=⟨⟩
theorem tw15889906520014211926:True:=⟨⟩
theorem tw4065786792341635252:True:=⟨⟩
theorem tw8264605262136457335:True:=⟨⟩
theorem tw9221537880748559:True:=⟨⟩
theorem tw9851456112541818049:True:=⟨⟩
theorem tw320091547109654190:True:=⟨⟩
theorem tw14578929642966734668:True:=⟨⟩
theorem tw16342597751615848505:True:=⟨⟩
theorem tw8271810386369766996:True:=⟨⟩
theorem tw3997753349873449001:True:=⟨⟩
theorem tw12820425321454681220:True:=⟨⟩
theorem tw8466041937049835005:True:=⟨⟩
theorem tw12838335105678607435:True:=⟨⟩
theorem tw15094061703624598156:True:=⟨⟩
theorem tw1163672715322398430:True:=⟨⟩
theorem tw12632803428725586623:True:=⟨⟩
theorem tw10549285909837363790:True:=⟨⟩
theorem tw2535934522906743553:True:=⟨⟩
theorem tw17229794615511360990:True:=⟨⟩
theorem tw15193570724508362770:True:=⟨⟩
theorem tw12376336488320815015:True:=⟨⟩
theorem tw1514895846249352742:True:=⟨⟩
theorem tw2495391226143730464:True:=⟨⟩
theorem tw11931595127350348245:True:=⟨⟩
theorem tw7686347877118985173:True:=⟨⟩
theorem tw10114135716849710133:True:=⟨⟩
theorem tw9620851149406432553:True:=⟨⟩
theorem tw1532692978775837158:True:=⟨⟩
theorem tw15288226749163899455:True:=⟨⟩
theorem tw5271559332719582458:True:=⟨⟩
theorem tw14307646198084414440:True:=⟨⟩
theorem tw12128551205630635715:True:=⟨⟩
theorem tw18408811802265822459:True:=⟨⟩
theorem tw7244130320514345738:True:=⟨⟩
theorem tw18201445703532158375:True:=⟨⟩
theorem tw16337221363217365350:True:=⟨⟩
theorem tw6393690430773061860:True:=⟨⟩
theorem tw5721154004638989133:True:=⟨⟩
theorem tw8879739814030882828:True:=⟨⟩
theorem tw16755592882041985234:True:=⟨⟩
theorem tw3028026840570718946:True:=⟨⟩
theorem tw18184599066053789120:True:=⟨⟩
theorem tw7766384077240964199:True:=⟨⟩
theorem tw12787163494947939600:True:=⟨⟩
theorem tw13661491510212130879:True:=⟨⟩
theorem tw12813340517811184633:True:=⟨⟩
theorem tw7794661876451477352:True:=⟨⟩
theorem tw12651057289810220119:True:=⟨⟩
theorem tw7635187884998573115:True:=⟨⟩
theorem tw14344979333318631918:True:=⟨⟩
theorem tw7855908488800227170:True:=⟨⟩
theorem tw13037441957360424940:True:=⟨⟩
theorem tw9912537557048762758:True:=⟨⟩
theorem tw961561277026810796:True:=⟨⟩
theorem tw9176706584440470690:True:=⟨⟩
theorem tw17198208269251171841:True:=⟨⟩
theorem tw14147564034580862504:True:=⟨⟩
theorem tw13216477090253299203:True:=⟨⟩
theorem tw11077107361166577696:True:=⟨⟩
theorem tw6708344390411452008:True:=⟨⟩
theorem tw2624542125444848759:True:=⟨⟩
theorem tw1913966510269071708:True:=⟨⟩
theorem tw14263871765117772362:True:=⟨⟩
theorem tw17386558643762598049:True:=⟨⟩
theorem tw12412130369815314838:True:=⟨⟩
theorem tw13407904366467040732:True:=⟨⟩
theorem tw4596527504385850315:True:=⟨⟩
theorem tw2178343749336049927:True:=⟨⟩
theorem tw8695749083577715916:True:=⟨⟩
theorem tw10316457117892365334:True:=⟨⟩
theorem tw15926783776714892371:True:=⟨⟩
end PySem.W.Fast
namespace Hue
open PySem L2 Rf
noncomputable def y6(K:Vy)(nm:Str)(i:Nat):Prop:=∃(f:Addr) (od an:Option Addr) (sl:Array (Option Value)) (oc kV dc pm cd ct:Value),PySem.W.nsIn K mainGlobals nm=some (some (.ref f))/\K.lookup f=some ⟨oc,od,.func (PySem.W.fnOf nm nm (defArgs (top i)) (defBody (top i)) (defScope (top i)) .none kV dc pm an cd ct),sl⟩/\PySem.W.codeIn K cd nm=true/\PySem.W.keepIn K (.ref f)=true
theorem lnkK_mk{K:Vy}{nm:Str}{i:Nat}{f:Addr}{od an:Option Addr}{sl:Array (Option Value)}{oc kV dc pm cd ct:Value}(a:PySem.W.nsIn K mainGlobals nm=some (some (.ref f)))(l:K.lookup f=some ⟨oc,od,.func (PySem.W.fnOf nm nm (defArgs (top i)) (defBody (top i)) (defScope (top i)) .none kV dc pm an cd ct),sl⟩)(c:PySem.W.codeIn K cd nm=true)(k:PySem.W.keepIn K (.ref f)=true):y6 K nm i:=⟨f,od,an,sl,oc,kV,dc,pm,cd,ct,a,l,c,k⟩
theorem i5{K:Vy}{h:Heap}{mg:Str->Option Value}(X:K.In h)(G:h.Ns mainGlobals mg)(D:Df){i:Nat}(x:y6 K D.name i)(e:D.st=top i)(b:∀(kV doc pm:Value) (an:Option Addr) (cdv ct:Value) (us:List Value),us.length=D.ps.length->bindArgs (PySem.W.fnOf D.name D.name (defArgs (top i)) (defBody (top i)) (defScope (top i)) .none kV doc pm an cdv ct) ⟨us,[]⟩=pure (D.ps.zip us)):PIn K mg D:=by
 obtain⟨_,_,_,_,_,_,_,_,_,_,a,l,c,k⟩:=x;exact⟨_,_,e▸Hr (st:=top i) l c k,PySem.W.mg_of X G a,k,(Hr (st:=top i) l c k).binds (ps:=D.ps) b⟩
theorem l8{P:Df->Prop}{D:Df}{l:List Df}(a:P D)(b:∀ x∈l,P x):∀ x∈D::l,P x:=List.forall_mem_cons.mpr ⟨a,b⟩
theorem all_mk{l:PySem.W.OpenLaw}{w:World}{K:Vy}{h:Heap}{mg:Str->Option Value}{fa:Addr}(X:K.In h)(G:h.Ns mainGlobals mg)(hfa:mg "law"=some (.ref fa))
 (x0:y6 K "is_number" 6)
 (x1:y6 K "has_place" 8)
 (x2:y6 K "has_tie" 9)
 (x3:y6 K "check_place" 10)
 (x4:y6 K "check_tie" 11)
 (x5:y6 K "ties_at" 12)
 (x6:y6 K "count_at" 13)
 (x7:y6 K "most_at" 14)
 (x8:y6 K "far_end" 15)
 (x9:y6 K "only" 16)
 (x10:y6 K "give_sides" 18)
 (x11:y6 K "way_back" 19)
 (x12:y6 K "ring_through" 20)
 (x13:y6 K "two_sides" 21)
 (x14:y6 K "sides_of" 22)
 (x15:y6 K "ways_from" 24)
 (x16:y6 K "turn_way" 25)
 (x17:y6 K "give_pair" 26)
 (x18:y6 K "ties_of" 27)
 (x19:y6 K "full_pairing" 28)
 (x20:y6 K "by_pairings" 30)
 (x21:y6 K "_law_tape" 32)
 (x22:y6 K "_law_draw" 33)
 (x23:y6 K "_law_two_once" 34)
 (x24:y6 K "_law_two_sided" 35)
 (x25:y6 K "_law_rises" 36)
 (x26:y6 K "_law_apart" 37)
 (x27:y6 K "_law_count" 38)
 (x28:y6 K "_law_most" 39)
 (x29:y6 K "_law_right" 40)
 (x30:y6 K "law" 41)
 (z0:PySem.W.nsIn K mainGlobals "len"=some none)
 (z1:PySem.W.nsIn K mainGlobals "abs"=some none)
 (z2:PySem.W.nsIn K mainGlobals "min"=some none)
 (z3:PySem.W.nsIn K mainGlobals "max"=some none)
 (z4:PySem.W.nsIn K mainGlobals "int"=some none)
 (z5:PySem.W.nsIn K mainGlobals "list"=some none)
 (z6:PySem.W.nsIn K mainGlobals "tuple"=some none)
 (z7:PySem.W.nsIn K mainGlobals "all"=some none)
 (z8:PySem.W.nsIn K mainGlobals "any"=some none)
 (z9:PySem.W.nsIn K mainGlobals "sorted"=some none)
 (z10:PySem.W.nsIn K mainGlobals "isinstance"=some none)
 (z11:PySem.W.nsIn K mainGlobals "str"=some none)
 (z12:PySem.W.nsIn K mainGlobals "range"=some none)
 (z13:PySem.W.nsIn K mainGlobals "enumerate"=some none)
 (z14:PySem.W.nsIn K mainGlobals "zip"=some none)
 (z15:PySem.W.nsIn K mainGlobals "set"=some none)
 (z16:PySem.W.nsIn K mainGlobals "bool"=some none)
 (z17:PySem.W.nsIn K mainGlobals "dict"=some none)
 : ∃ fd:FuncData,(∀(s:Shared) (v:Value),BindsTo s fd ⟨[v],[]⟩ [("_law_script",v)])/\∀ base:Heap,K.In base->base.Ns mainGlobals mg->FnOk l.prog w K mg base CX0 10 fa fd ["_law_script"] (spS K (W prog 10 30)):=by
 have y:=x30;obtain⟨f30,od30,an30,sl30,oc30,kV30,dc30,pm30,cd30,ct30,a30,l30,c30,k30⟩:=x30;have e:=hfa.symm.trans (PySem.W.mg_of X G a30);cases e
 have B:Bl mg:=by
  refine⟨fun b=>?_,WX X G z12,WX X G z13,WX X G z14,WX X G z15,WX X G z17,fun t ht=>?_⟩
  ·cases b with
   | len=>exact WX X G z0
   | abs=>exact WX X G z1
   | min=>exact WX X G z2
   | max=>exact WX X G z3
   | int=>exact WX X G z4
   | list=>exact WX X G z5
   | tuple=>exact WX X G z6
   | all=>exact WX X G z7
   | any=>exact WX X G z8
   | sorted=>exact WX X G z9
   | isi=>exact WX X G z10
   | str=>exact WX X G z11
  ·cases t with
   | int=>exact WX X G z4
   | bool=>exact WX X G z16
   | str=>exact WX X G z11
   | list=>exact WX X G z5
   | tuple=>exact WX X G z6
   | none=>exact absurd rfl ht
 have hin:∀ D∈prog,PIn K mg D:=l8 (i5 X G d0 x0 rfl fun _ _ _ _ _ _=>FV fun _=>rfl) (l8 (i5 X G d1 x1 rfl fun _ _ _ _ _ _=>CF fun _ _=>rfl) (l8 (i5 X G d2 x2 rfl fun _ _ _ _ _ _=>CF fun _ _=>rfl) (l8 (i5 X G d3 x3 rfl fun _ _ _ _ _ _=>CF fun _ _=>rfl) (l8 (i5 X G d4 x4 rfl fun _ _ _ _ _ _=>CF fun _ _=>rfl) (l8 (i5 X G d5 x5 rfl fun _ _ _ _ _ _=>CF fun _ _=>rfl) (l8 (i5 X G d6 x6 rfl fun _ _ _ _ _ _=>CF fun _ _=>rfl) (l8 (i5 X G d7 x7 rfl fun _ _ _ _ _ _=>FV fun _=>rfl) (l8 (i5 X G d8 x8 rfl fun _ _ _ _ _ _=>QU fun _ _ _=>rfl) (l8 (i5 X G d9 x9 rfl fun _ _ _ _ _ _=>CF fun _ _=>rfl) (l8 (i5 X G d10 x10 rfl fun _ _ _ _ _ _=>Tv fun _ _ _ _=>rfl) (l8 (i5 X G d11 x11 rfl fun _ _ _ _ _ _=>QU fun _ _ _=>rfl) (l8 (i5 X G d12 x12 rfl fun _ _ _ _ _ _=>QU fun _ _ _=>rfl) (l8 (i5 X G d13 x13 rfl fun _ _ _ _ _ _=>FV fun _=>rfl) (l8 (i5 X G d14 x14 rfl fun _ _ _ _ _ _=>FV fun _=>rfl) (l8 (i5 X G d15 x15 rfl fun _ _ _ _ _ _=>QU fun _ _ _=>rfl) (l8 (i5 X G d16 x16 rfl fun _ _ _ _ _ _=>Tv fun _ _ _ _=>rfl) (l8 (i5 X G d17 x17 rfl fun _ _ _ _ _ _=>Tv fun _ _ _ _=>rfl) (l8 (i5 X G d18 x18 rfl fun _ _ _ _ _ _=>FV fun _=>rfl) (l8 (i5 X G d19 x19 rfl fun _ _ _ _ _ _=>FV fun _=>rfl) (l8 (i5 X G d20 x20 rfl fun _ _ _ _ _ _=>FV fun _=>rfl) (l8 (i5 X G d21 x21 rfl fun _ _ _ _ _ _=>CF fun _ _=>rfl) (l8 (i5 X G d22 x22 rfl fun _ _ _ _ _ _=>CF fun _ _=>rfl) (l8 (i5 X G d23 x23 rfl fun _ _ _ _ _ _=>CF fun _ _=>rfl) (l8 (i5 X G d24 x24 rfl fun _ _ _ _ _ _=>CF fun _ _=>rfl) (l8 (i5 X G d25 x25 rfl fun _ _ _ _ _ _=>CF fun _ _=>rfl) (l8 (i5 X G d26 x26 rfl fun _ _ _ _ _ _=>CF fun _ _=>rfl) (l8 (i5 X G d27 x27 rfl fun _ _ _ _ _ _=>CF fun _ _=>rfl) (l8 (i5 X G d28 x28 rfl fun _ _ _ _ _ _=>FV fun _=>rfl) (l8 (i5 X G d29 x29 rfl fun _ _ _ _ _ _=>CF fun _ _=>rfl) (l8 (i5 X G d30 y rfl fun _ _ _ _ _ _=>FV fun _=>rfl) (fun _ h=>nomatch h)))))))))))))))))))))))))))))));refine⟨PySem.W.fnOf "law" "law" (defArgs (top 41)) (defBody (top 41)) (defScope (top 41)) .none kV30 dc30 pm30 an30 cd30 ct30,fun s v => .of_eq rfl,fun base _ _=>?_⟩
 exact Nz (P:=l.prog) (w:=w) (base:=base) (k:=9) (Δ:=W prog 9) (D:=d30) (Hr (st:=top 41) l30 c30 k30) (Wa.mp Hb d30 (W5 (show prog[30]?=some d30 from rfl))) B (fun g x hx=>by
  rw[WG]at hx;cases hg:prog[g]? with
  | none=>rw[hg]at hx;cases hx
  | some D'=>
    rw[hg]at hx;have:D'.name=x:=by simpa using hx
    subst this;exact⟨D'.ps,Jk Hb B hin 9 g D' hg⟩) (Dp 9)
theorem walkL{l:PySem.W.OpenLaw}{q:Program}{loose:List Str}{XP:(Str->Option Value)->Heap->Prop}{YP:World->Heap->Prop}{d:DefRec}{K:Params->Vy}(hn:l.most=some 63)(hdf:d.params.defaults=[])
 (hY:∀(w:World) (h:Heap),YP w h->(K w.params).In h)
 (F:∀(w:World) (mg:Str->Option Value) (fa:Addr) (h:Heap),(K w.params).In h->h.Ns mainGlobals mg->mg d.name=some (.ref fa)->
   ∃ fd:FuncData,(∀(s:Shared) (u:Value),BindsTo s fd ⟨[u],[]⟩ [("_law_script",u)])/\∀ base:Heap,(K w.params).In base->base.Ns mainGlobals mg->FnOk l.prog w (K w.params) mg base CX0 10 fa fd ["_law_script"] (spS (K w.params) (W prog 10 30))):
 PySem.W.WalkO q loose XP YP l.row.toRowW d [] (fun f vs=>PySem.call f vs):=
 L2.walk_of (n:=63) (k:=10) (x:="_law_script") (CX:=fun _=>CX0) (sp:=fun w=>spS (K w.params) (W prog 10 30)) hn (by decide) hdf ⟨rfl,by decide,by decide,rfl⟩ hY F (fun _ _ a ns hl hO hS=>Ty (law_main ns hl) hO hS) fun _ _ _ _ _ z=>z
end Hue
open PySem PySem.W PyProof.Rows
set_option maxRecDepth 100000 in
set_option maxHeartbeats 0 in
theorem PySem.Challenge.cw_huedties_k31_hued_by_pairings_holds : PySem.Challenge.rw_huedties_k31_hued_by_pairings.Holds := by
 w_on;o_law;k_head;(case hw=>w_witness2)
 k_fill
 refine Hue.walkL (l:=PySem.Challenge.rw_huedties_k31_hued_by_pairings) rfl rfl (fun w h Y=>PySem.W.kIn_of Y) ?F
 case F=>
  intro w mg fa h KX G hmg;refine' Hue.all_mk KX G hmg ?_ ?_ ?_ ?_ ?_ ?_ ?_ ?_ ?_ ?_ ?_ ?_ ?_ ?_ ?_ ?_ ?_ ?_ ?_ ?_ ?_ ?_ ?_ ?_ ?_ ?_ ?_ ?_ ?_ ?_ ?_ ?_ ?_ ?_ ?_ ?_ ?_ ?_ ?_ ?_ ?_ ?_ ?_ ?_ ?_ ?_ ?_ ?_ ?_
  all_goals first | exact Hue.lnkK_mk (by k_is) (by k_is) (by k_is) (by k_is) | k_is
#print axioms PySem.Challenge.cw_huedties_k31_hued_by_pairings_holds
