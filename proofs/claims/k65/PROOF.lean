import PyProof.Rows.All
import Wide.All
import OpenK.AllK
import PySem.Challenge.RW_huedties_k65_plans_shown
set_option Elab.async false
set_option linter.all false
set_option maxRecDepth 100000
open PySem.W renaming Frag→R8,mg_none_of→RT
open List renaming length_append→R9,getElem?_eq_getElem→RB,length_map→RC,mem_of_getElem?→RD,size_toArray→RF,mem_singleton→RG,getElem?_map→RI,mem_cons_of_mem→RK,range→RL,mem_cons→RM,mem_append→RO,length_set→RP,getElem?_append_left→RQ,mem_cons_self→RS,getElem?_set_ne→RU,map_cons→RV,getD_eq_getElem?_getD→RW,all_eq_true→RX,getElem?_append_right→Rb,replicate→Rc,mem_append_right→Re,length_take→Rg,prefix_refl→Rh,getElem?_set_self→Ri,flatten_cons→Rj,length_singleton→Rk,map_append→Rm,getElem?_concat_length→Rp,mem_range→Rq,length_drop→Rr,length_cons→Rt,getElem_mem→Rv,mem_or_eq_of_mem_set→Ry,isEmpty_iff→SA,length_eraseIdx_of_lt→SB,mem_map→SC,replicate_succ→SD,flatten_append→SE,all_cons→SF,mem_of_mem_eraseIdx→SG,length_nil→SH,lookup_cons→SJ,getElem?_of_mem→SK,length_reverse→SN,nodup_cons→SR,drop_eq_getElem_cons→SS,any_cons→SX,getElem?_replicate→SY,nodup_append→SZ,length_range→Sb,of_mem_zip→Se,any_eq_true→Sh,take_length→Si,prefix_append→Sj,pairwise_iff_getElem→Sm,find?_cons→So,reverse_cons→Sr,mem_of_mem_take→Su,getElem_of_mem→Sv,getElem?_range→Sw,eraseIdx_cons_succ→Sx,take_succ→Sy,flatten_singleton→TC,pairwise_map→TH,mem_iff_getElem→TK,mem_of_mem_drop→TM,getD→TN,drop_length→TQ,filterMap_cons→TR,length_flatten→TV,append_nil→TX,range_succ→TY,pairwise_cons→TZ,append_assoc→Tc,nodup_nil→Td,eraseIdxIfInBounds_toArray→Te,eraseIdx_eq_take_drop_succ→Tf,length_replicate→Th,getElem?_reverse→Ti,take_append_drop→Tj,ext_getElem→Tn,mem_append_left→Tp,length→Tq,head?_drop→Tt,mapM_cons→Tu,tail_drop→Tv,getElem?_take_of_lt→Tz,cons_ne_nil→U3,mapM→U4,getElem_map→U5,cons→U6,pairwise_singleton→U7,nodup_range→U9,take_of_length_le→UB,map_map→UC,find?_cons_of_pos→UD,find?_cons_of_neg→UE,map_set→UF,dropLast_eq_take→UJ,getElem?_zipWith→UK,lookup→UM,map_take→UO,mem_filterMap→UQ,getElem?_take→UT,getElem_take→Ua,mem_flatMap→Ud,mem_flatten→Ue,mem_reverse→Ug,mem_filter→Uh,foldl→Uk,map_drop→Us,map_nil→Uv,all_map→Uy,any_nil→Uz
open Bool renaming and_eq_true→RA,false_ne_true→RH,not_eq_true'→RZ,or_eq_true→Ru,eq_iff_iff→Rx,false_eq_true→SU,or_eq_false_iff→UN,false_or→Uo,not_true→Uq,or_false→Ur
open Nat renaming le_refl→RE,lt_of_lt_of_le→Ra,le_trans→Rn,ne_of_lt→Ro,zero_le→Rz,lt_irrefl→SL,le_succ→Ss,lt_or_ge→TB,le_of_lt→Tb,succ_lt_succ→To,mul_le_mul_right→Tr,lt_succ_self→U1,not_lt_zero→UG,lt_of_le_of_lt→US,succ_mul→UU,lt_succ_of_lt→UV,zero_add→UW,le_succ_of_le→UX,min_eq_left→Uj,mul_le_mul→Um,ne_of_gt→Uu,le_of_eq→Uw,lt_trans→Ux,succ_pos→V0,sub_self→V1
open PySem.Heap renaming get?_push_of_some→RJ,lt_size→RN,get?_push_size→RY,SameBut→T9,size_push→TJ,get?_update_other→UA,get?_update_self→UH,get?_none_of_le→UL,size_update→Uc
open Int renaming natCast_inj→SI,eq_ofNat_of_zero_le→Sd,toNat_of_nonneg→Sg,emod_lt_of_pos→Sl,toNat_natCast→Sq,emod_nonneg→TF,toNat→U8,emod_eq_of_lt→UY,zero_add→UZ
open Option renaming map_eq_some_iff→SM,isSome_iff_exists→SW,map_some→Sf,toList_some→Ta,isNone_iff_eq_none→Tw,isSome_map→Tx,getD_some→U0,bind_some→U2,isSome_some→UR,getD_none→Ub,none→V2
open Array renaming perm_iff_toList_perm→TL,length_toList→TU,getElem?_toList→UI,append_assoc→UP,size_push→Ui,size_zip→Ul,toList→Ut,Perm→V3
open PySem renaming Value→V4,wpAny_bind→V5,Shared→V6,Addr→V7,wpAny_pure→V8,sizeLine→V9,wpAny→VA,model→VB,Program→VC,mainGlobals→VD,bootBuiltins→VE,starEach→VF,World→VG,Scope→VI,compareOp→VL,Around→VM,wpAny_truthy_bool→VN,foldedSetIterable→VO,wpAny_newObj_type→VP,wpAny_mono→VR,NameKind→VT,cellsFrom→VU,assignEach→VV,wpAny_standAt→VW,swapsWith→VX,wpAny_Call_Name_kw→VY,wpAny_passesOwn→VZ,FuncData→Va,wpAny_holding→Vb,swappedStores→Vc,wpAny_comprehension_free→Vd,wpAny_callSpecial?_slot→Ve,sysModules→Vf,swapsWithSole→Vh,binaryOp→Vi,letOwnedTupleGo→Vj,wpAny_rule→Vk,call_meets→Vl,wpAny_pyIter_tuple→Vm,keywordEach→Vn,wpAny_field→Vo,sliceBounds→Vp,newFunctionEnv→Vq,wpAny_pyIter_enum→Vr,wpAny_call_entry→Vt,behindInMarks→Vu,wpAny_letOwnedTupleGo_enum→Vw,tupleKind_room_in1→Vx,wpAny_assign_Name→Vy,sizeLine_eq→Vz,wpAny_pyIter_list→W0,attributeBase→W4,Operator→W8,backToKw→W9,compEnvC→WB,wpAny_pyNext_enum_itemD→WC,SetTable→WD,codeAny_compStart_list→WH,wpAny_pyNext_enum_endD→WJ,wpAny_execs_nil→WK,pushCells_keeps→WL,wpAny_isTrue_Compare1→WN,exec_Assign_Name_used→WQ,fitsIndex_both→WR,wpAny_pyIter_revIter→WW,tupleKind→WX,scanBound→WY,assignInOrder→Wc,builtinsNs→Wd,codeAny_mono→Wg,wpAny_sequenceKey→Wh,wpAny_typeOf→Wi,seqIndex_neg→Wj,PassesOwn→Wl,pushCells→Wn,seqIndex_of→Wo,GenState→Wp,wpAny_Name→Wq,wpAny_Compare1→Wr,bindName→Ws,wpAny_bindName→Wt,recursionLimit→Wu,typeIs_int→Ww,compPost→Wx,wpAny_seqItems→Wy,wpAny_setField→Wz,firstArgMember→X0,constantsAlone→X4,lastMarks→X5,seqIndex?→X6
open PyProof.Rows renaming wpS_bind→VJ,wpS_pure→VQ,wpS_forRange→Vs,assignInOrder_cons→Vv,listUpdate_at→W7,subscriptTail_builtinR→WG,get?_update_seq→WM,wpS_reverse→WU,mirror_perm→WV,pendingOf→WZ,entry_tuple_getitem→Wa,args_tuple_getitem→We,assignInOrder_nil→Wf,failedOf→Wk,slicePart_none→Wv,wpS_mono→X1,wpS_modify→X2,size_push'→X3
abbrev EE:=List (Nat×Nat)
theorem gM{α:Type}{l:List α}{i:Nat}{a:α}(h:l[i]?=some a):∃h:i<l.length,l[i]=a:=List.getElem?_eq_some_iff.mp h
theorem oj{α:Type}{a b:α}(h:some a=some b):a=b:=Option.some.inj h
theorem dQ{p:Prop}[Decidable p]:(decide p=true)=p:=decide_eq_true_eq
theorem iG{c:Prop}{h:Decidable c}(k:¬c){α:Sort u}{t e:α}:ite c t e=e:=if_neg k
theorem iP{c:Prop}{h:Decidable c}(k:c){α:Sort u}{t e:α}:ite c t e=t:=if_pos k
theorem bQ{α:Type u}[BEq α][LawfulBEq α]{a b:α}:a==b↔a=b:=beq_iff_eq
namespace L2
open PySem PySem.Spec PyProof.Rows
noncomputable abbrev Key:=Sum Int Str
noncomputable def D0:Key->V4->Bool
 | .inl k,v=>Value.isInt k v
 | .inr x,v=>Value.isStrOf x v
noncomputable def Qb(w:VG):Key->Int
 | .inl k=>hashInt k
 | .inr x=>hashStr w x
theorem i3:∀{k:Key} {v:V4},D0 k v=true->(∃ i t,k=Sum.inl i/\v=Value.int i t)\/(∃ x t,k=Sum.inr x/\v=Value.str x t)
 | .inl i,v,h=>by
   obtain⟨t,e⟩:=Value.isInt_shape (k:=i) (v:=v) h;exact .inl ⟨i,t,rfl,e⟩
 | .inr x,v,h=>by
   obtain⟨t,e⟩:=Value.isStrOf_shape (x:=x) (v:=v) h;exact .inr ⟨x,t,rfl,e⟩
theorem HF(i:Int)(t:Tok):D0 (.inl i) (.int i t)=true:=by simp[D0,Value.isInt]
theorem HH(x:Str)(t:Tok):D0 (.inr x) (.str x t)=true:=by simp[D0,Value.isStrOf]
theorem N5(a b:Int):decide ((Sum.inl a:Key)=Sum.inl b)=(a == b):=by
 by_cases e:a=b
 ·subst e;simp
 ·have h:¬ (Sum.inl a:Key)=Sum.inl b:=fun q=>e (Sum.inl.inj q);rw[decide_eq_false h];exact(beq_eq_false_iff_ne.mpr e).symm
theorem N6(a b:Str):decide ((Sum.inr a:Key)=Sum.inr b)=decide (a=b):=by
 by_cases e:a=b
 ·subst e;simp
 ·have h:¬ (Sum.inr a:Key)=Sum.inr b:=fun q=>e (Sum.inr.inj q);rw[decide_eq_false h,decide_eq_false e]
theorem N7(a:Int)(b:Str):decide ((Sum.inl a:Key)=Sum.inr b)=false:=decide_eq_false (fun q=>nomatch q)
theorem N8(a:Str)(b:Int):decide ((Sum.inr a:Key)=Sum.inl b)=false:=decide_eq_false (fun q=>nomatch q)
noncomputable def j5(prog:VC)(w:VG):PySem.KeyKind prog w Key where
 is:=D0
 hash:=Qb w
 inj:=fun v a b ha hb=>by
  rcases i3 ha with⟨i,t,rfl,rfl⟩ | ⟨x,t,rfl,rfl⟩
  ·rcases i3 hb with⟨j,u,rfl,e⟩ | ⟨y,u,rfl,e⟩
   ·injection e with e1 _;rw[e1]
   ·exact nomatch e
  ·rcases i3 hb with⟨j,u,rfl,e⟩ | ⟨y,u,rfl,e⟩
   ·exact nomatch e
   ·injection e with e1 _;rw[e1]
 byValue:=fun k v h=>by
   rcases i3 h with⟨i,t,rfl,rfl⟩ | ⟨x,t,rfl,rfl⟩<;>rfl
 pyHash:=fun hv h=>by
  rcases i3 hv with⟨i,t,rfl,rfl⟩ | ⟨x,t,rfl,rfl⟩
  ·exact wpAny_pyHash_int h
  ·exact wpAny_pyHash_str h
 eqBool:=fun hu hv h=>by
  rcases i3 hu with⟨i,t,rfl,rfl⟩ | ⟨x,t,rfl,rfl⟩
  ·rcases i3 hv with⟨j,u,rfl,rfl⟩ | ⟨y,u,rfl,rfl⟩
   ·rw[N5]at h;exact wpAny_eqBool_int h
   ·rw[N7]at h;exact SeqAt.EqAt.int_str i t y u _ _ _ _ h
  ·rcases i3 hv with⟨j,u,rfl,rfl⟩ | ⟨y,u,rfl,rfl⟩
   ·rw[N8]at h;exact SeqAt.EqAt.str_int x t j u _ _ _ _ h
   ·rw[N6]at h;exact wpAny_eqBool_str h
 «strs»:=fun k x t v h=>by
  rcases i3 h with⟨i,u,rfl,e⟩ | ⟨y,u,rfl,e⟩
  ·exact nomatch e
  ·injection e with e1 _;subst e1;cases v<;>rfl
theorem Dy(prog:VC)(w:VG)(i:Int)(t:Tok):(j5 prog w).is (.inl i) (.int i t)=true:=HF i t
theorem Dz(prog:VC)(w:VG)(x:Str)(t:Tok):(j5 prog w).is (.inr x) (.str x t)=true:=HH x t
inductive V where
 | non | bl (b:Bool) | int (i:Int) | str (x:Str) | byt (b:Array UInt8) | flt (b:UInt64) | ref (a:V7) | ty (n:String)
 deriving DecidableEq
noncomputable def RelV:V->V4->Prop
 | .non,u=>u=Value.none
 | .bl b,u=>u=Value.bool b
 | .int i,u=>∃ t,u=Value.int i t
 | .str x,u=>∃ t,u=Value.str x t
 | .byt b,u=>∃ t,u=Value.bytes b t
 | .flt b,u=>∃ t,u=Value.float b t
 | .ref a,u=>u=Value.ref a
 | .ty n,u=>u=Value.type n
noncomputable abbrev Vals:List V->List V4->Prop:=Paired RelV
theorem Vals.length{xs:List V}{us:List V4}(r:Vals xs us):xs.length=us.length:=Paired.length r
theorem Vals.get:∀{xs:List V} {us:List V4} {i:Nat} {x:V},Vals xs us->xs[i]?=some x->∃ u,us[i]?=some u/\RelV x u
 | _,_,_,_,.nil,e=>by simp at e
 | _,_,0,_,.cons r _,e=>by simp at e;subst e;exact⟨_,rfl,r⟩
 | _,_,i+1,x,.cons _ t,e=>by
   obtain⟨u,h1,h2⟩:=Vals.get (i:=i) (x:=x) t (by simpa using e);exact⟨u,by simpa using h1,h2⟩
theorem Vals.set{x:V}{u:V4}(r:RelV x u):∀{xs:List V} {us:List V4} (i:Nat),Vals xs us->Vals (xs.set i x) (us.set i u)
 | _,_,_,.nil => .nil
 | _,_,0,.cons _ t => .cons r t
 | _,_,i+1,.cons q t => .cons q (Vals.set r i t)
theorem Vals.append:∀{xs ys:List V} {us ws:List V4},Vals xs us->Vals ys ws->Vals (xs++ys) (us++ws)
 | _,_,_,_,.nil,s=>s
 | _,_,_,_,.cons r t,s => .cons r (Vals.append t s)
theorem Vals.take:∀{xs:List V} {us:List V4} (n:Nat),Vals xs us->Vals (xs.take n) (us.take n)
 | _,_,0,_ => .nil
 | _,_,_+1,.nil => .nil
 | _,_,n+1,.cons r t => .cons r (Vals.take n t)
theorem Vals.drop:∀{xs:List V} {us:List V4} (n:Nat),Vals xs us->Vals (xs.drop n) (us.drop n)
 | _,_,0,r=>r
 | _,_,_+1,.nil => .nil
 | _,_,n+1,.cons _ t=>Vals.drop n t
noncomputable def RelO:Option V->Option V4->Prop
 | some v,some u=>RelV v u
 | none,none=>True
 | _,_=>False
noncomputable def KV{κ:Type}:List (κ×V)->List (κ×V4)->Prop:=Paired fun(p:κ×V) (q:κ×V4)=>p.1=q.1/\RelV p.2 q.2
noncomputable def kV:Key->V
 | .inl i => .int i
 | .inr x => .str x
inductive HO where
 | lst (xs:List V)
 | tup (xs:List V)
 | dK (kvs:List (Key×V)) | dT (kvs:List (List Key×V))
 | set (S:Int->Bool) (n:Nat)
 | ins (C dx:V7) (fs:List (Str×V))
 | own (x:V7)
 | xd (fs:List (Str×V))
 | met (f x:V7)
 | rng (lo hi:Int)
 | frz (o:Obj) (u:HO)
 | tbl (ps:Array V4)
 | ext (φ:Heap->Prop)
noncomputable abbrev Hp:=V7->Option HO
noncomputable def upd(H:Hp)(a:V7)(o:HO):Hp:=fun b=>if b=a then some o else H b
theorem e6{H:Hp}{a:V7}{o:HO}:upd H a o a=some o:=by unfold upd;rw[iP rfl]
theorem c3{H:Hp}{a b:V7}{o:HO}(h:b≠a):upd H a o b=H b:=by unfold upd;rw[iG h]
theorem Ma{H:Hp}{a b:V7}{o u:HO}(h:H a=some o)(h':H b=some u)(d:o≠u):a≠b:=by
 intro e;subst e;rw[h]at h';exact d (oj h')
theorem c4{H:Hp}{a b:V7}{o:HO}(h:H a=some o)(h':H b=none):a≠b:=by
 intro e;subst e;rw[h]at h';cases h'
section
variable(P:VC)(w:VG)
noncomputable def ObjOk(H:Hp)(h:Heap)(a:V7):HO->Prop
 | .lst xs=>xs.length<=V9/\∃(its:List V4) (n:Nat),Vals xs its/\h.get? a=some {cls := .type "list",data := .seq its.toArray n}
 | .tup xs=>xs.length<=V9/\∃ its:List V4,Vals xs its/\IsTup h a its.toArray
 | .dK kvs=>kvs.length<=V9/\(a == Vf)=false/\∃ vs,KV kvs vs/\h.DictOf (j5 P w) a vs
 | .dT kvs=>kvs.length<=V9/\(a == Vf)=false/\∃ xs:List (List Key×V7×V4),
    Paired (fun(p:List Key×V) (q:List Key×V7×V4)=>p.1=q.1/\H q.2.1=some (.tup (p.1.map kV))/\RelV p.2 q.2.2) kvs xs/\
    ∃ o es ep,h.get? a=some o/\o.ExactDict/\o.data = .dict es ep/\es.toList=xs.map (entryOfKey (WX (j5 P w)))/\(xs.map (·.1)).Nodup
 | .set S n=>h.SetOf (intKind P w) a S n
 | .ins C dx fs=>H dx=some (.own a)/\fs.length<=1000/\dx≠a/\h.get? a=some (PySem.W.instObj C dx)/\
    ∃ mA,h.Ns1 dx mA/\(∀ f,RelO (fs.lookup f) (mA f))/\PySem.Within mA (fs.map (·.1))
 | .own _=>∃ o,h.get? a=some o
 | .xd fs=>∃ mA,h.Ns1 a mA/\∀ f,RelO (fs.lookup f) (mA f)
 | .rng lo hi=>∃ t u v,h.get? a=some {cls := .type "range",data := .fields #[.int lo t,.int hi u,.int 1 v]}
 | .frz o u=>h.get? a=some o/\ObjOk H h a u
 | .tbl ps=>h.get? a=some {cls := .none,data := .fields ps}
 | .met f x=>h.get? a=some (PySem.W.methodObj (.ref f) (.ref x))
 | .ext φ=>φ h/\(∃ o,h.get? a=some o)/\∀ h1 h2:Heap,φ h1->(∀ o,h1.get? a=some o->h2.get? a=some o)->φ h2
noncomputable def HOk(H:Hp)(h:Heap):Prop:=∀ a o,H a=some o->ObjOk P w H h a o
end
section
variable{P:VC}{w:VG}{H H':Hp}{h h':Heap}{a:V7}{o:HO}
theorem ObjOk.lt(x:ObjOk P w H h a o):a<h.objs.size:=by
 cases o with
 | lst xs=>obtain⟨_,_,_,_,e⟩:=x;exact RN e
 | tup xs=>obtain⟨_,_,_,p⟩:=x;exact p.lt
 | dK kvs=>obtain⟨_,_,_,_,o,_,_,e,_⟩:=x;exact RN e
 | dT kvs=>obtain⟨_,_,_,_,o,_,_,e,_⟩:=x;exact RN e
 | set S n=>obtain⟨o,_,_,_,e,_⟩:=x;exact RN e
 | ins C dx fs=>obtain⟨_,_,_,e,_⟩:=x;exact RN e
 | own y=>obtain⟨_,e⟩:=x;exact RN e
 | xd fs=>obtain⟨_,⟨_,_,_,e,_⟩,_⟩:=x;exact RN e
 | rng lo hi=>obtain⟨_,_,_,e⟩:=x;exact RN e
 | frz ob u=>obtain⟨e,_⟩:=x;exact RN e
 | tbl ps=>exact RN (show h.get? a=some _ from x)
 | met f y=>exact RN (show h.get? a=some _ from x)
 | ext φ=>obtain⟨_,⟨_,e⟩,_⟩:=x;exact RN e
theorem Paired.mapP{α β:Type}{F G:α->β->Prop}:∀{l₁:List α} {l₂:List β},Paired F l₁ l₂->(∀ a b,F a b->G a b)->Paired G l₁ l₂
 | _,_,.nil,_ => .nil
 | _,_,.cons r t,f => .cons (f _ _ r) (Paired.mapP t f)
theorem ObjOk.stay(x:ObjOk P w H h a o)(k:∀ b u,(b=a\/H b=some (.own a))->h.get? b=some u->h'.get? b=some u)
 (ho:∀ b,H b=some (.own a)->H' b=some (.own a)) (ht:∀ b xs,H b=some (.tup xs)->H' b=some (.tup xs)):ObjOk P w H' h' a o:=by
 induction o with
 | lst xs=>obtain⟨z,its,n,r,e⟩:=x;exact⟨z,its,n,r,k _ _ (.inl rfl) e⟩
 | tup xs=>obtain⟨z,its,r,ob,e,c⟩:=x;exact⟨z,its,r,ob,k _ _ (.inl rfl) e,c⟩
 | dK kvs=>obtain⟨z,y,vs,r,ob,es,ep,e,c⟩:=x;exact⟨z,y,vs,r,ob,es,ep,k _ _ (.inl rfl) e,c⟩
 | dT kvs=>
   obtain⟨z,y,xs,r,ob,es,ep,e,c⟩:=x;exact⟨z,y,xs,Paired.mapP r fun p q z=>⟨z.1,ht _ _ z.2.1,z.2.2⟩,ob,es,ep,k _ _ (.inl rfl) e,c⟩
 | set S n=>obtain⟨ob,es,ep,t,e,c⟩:=x;exact⟨ob,es,ep,t,k _ _ (.inl rfl) e,c⟩
 | ins C dx fs=>
   obtain⟨d,z,ne,e,mA,⟨od,es,ep,e2,c⟩,r⟩:=x;exact⟨ho _ d,z,ne,k _ _ (.inl rfl) e,mA,⟨od,es,ep,k _ _ (.inr d) e2,c⟩,r⟩
 | own y=>obtain⟨ob,e⟩:=x;exact⟨ob,k _ _ (.inl rfl) e⟩
 | xd fs=>obtain⟨mA,⟨od,es,ep,e,c⟩,r⟩:=x;exact⟨mA,⟨od,es,ep,k _ _ (.inl rfl) e,c⟩,r⟩
 | rng lo hi=>obtain⟨t,u,v,e⟩:=x;exact⟨t,u,v,k _ _ (.inl rfl) e⟩
 | frz ob u ih=>obtain⟨e,q⟩:=x;exact⟨k _ _ (.inl rfl) e,ih q⟩
 | tbl ps=>
   have e:h.get? a=some {cls := .none,data := .fields ps}:=x;show h'.get? a=some {cls := .none,data := .fields ps};exact k a _ (.inl rfl) e
 | met f y=>
   have e:h.get? a=some (PySem.W.methodObj (.ref f) (.ref y)):=x;show h'.get? a=some (PySem.W.methodObj (.ref f) (.ref y));exact k a _ (.inl rfl) e
 | ext φ=>obtain⟨p,⟨o,e⟩,st⟩:=x;exact⟨st _ _ p fun o q=>k _ _ (.inl rfl) q,⟨o,k _ _ (.inl rfl) e⟩,st⟩
theorem HOk.lt(x:HOk P w H h)(e:H a=some o):a<h.objs.size:=(x a o e).lt
theorem HOk.fresh(x:HOk P w H h)(e:h.objs.size<=a):H a=none:=by
 cases q:H a with
 | none=>rfl
 | some u=>exact absurd (Ra (x.lt q) e) (SL _)
theorem HOk.kept(x:HOk P w H h)(k:∀ b u,h.get? b=some u->h'.get? b=some u):HOk P w H h':=fun a o e=>
 (x a o e).stay (fun b u _ q=>k b u q) (fun _ q=>q) fun _ _ q=>q
theorem HOk.laid(x:HOk P w H h)(k:∀ b u,h.get? b=some u->h'.get? b=some u)(hp:h.objs.size<=a)(new:ObjOk P w (upd H a o) h' a o):HOk P w (upd H a o) h':=fun b u e=>by
 have hn:=x.fresh hp;by_cases hb:b=a
 ·subst hb;rw[e6]at e;cases e;exact new
 ·rw[c3 hb]at e;exact(x b u e).stay (fun c v _ q=>k c v q) (fun c q=>by rw[c3 (c4 q hn)];exact q) fun c xs q=>by rw[c3 (c4 q hn)];exact q
end
noncomputable def Rd(H:Hp)(a:V7)(u:HO):Prop:=H a=some u\/∃ o,H a=some (.frz o u)
theorem Rd.ok{P:VC}{w:VG}{H:Hp}{h:Heap}{a:V7}{u:HO}(r:Rd H a u)(x:HOk P w H h):ObjOk P w H h a u:=by
 rcases r with r | ⟨o,r⟩
 ·exact x a u r
 ·obtain⟨_,q⟩:=x a _ r;exact q
noncomputable def Mut:Option HO->Prop
 | some (.lst _)=>True
 | some (.dK _)=>True
 | some (.dT _)=>True
 | some (.set _ _)=>True
 | some (.ins _ _ _)=>True
 | some (.ext _)=>True
 | _=>False
section
variable{P:VC}{w:VG}{H:Hp}{h h':Heap}{x e:V7}{o':HO}
theorem HOk.write(ok:HOk P w H h)(mu:Mut (H x))(he:e=x\/H e=some (.own x))(k:∀ b u,b≠e->h.get? b=some u->h'.get? b=some u)(heo:∃ u,h'.get? e=some u)
 (new:ObjOk P w (upd H x o') h' x o'):HOk P w (upd H x o') h':=fun b u q=>by
 have nown:∀ c y,H c=some (.own y)->c≠x:=fun c y r z=>by subst z;rw[r]at mu;exact mu
 have ntup:∀ c xs,H c=some (.tup xs)->c≠x:=fun c xs r z=>by subst z;rw[r]at mu;exact mu
 by_cases hb:b=x
 ·subst hb;rw[e6]at q;cases q;exact new
 ·rw[c3 hb]at q;by_cases hbe:b=e
  ·have q':H b=some (.own x):=by
    rcases he with z | z
    ·exact absurd (hbe.trans z) hb
    ·rw[hbe];exact z
   rw[q]at q';cases q';obtain⟨v,hv⟩:=heo;exact⟨v,by rw[hbe];exact hv⟩
  ·refine(ok b u q).stay (fun c v hc r=>k c v ?_ r) (fun c r=>by rw[c3 (nown c b r)];exact r) fun c xs r=>by rw[c3 (ntup c xs r)];exact r
   rcases hc with rfl | hc
   ·exact hbe
   ·rintro rfl;rcases he with z | z
    ·exact nown c b hc z
    ·rw[hc]at z;cases z;exact hb rfl
end
structure Un(fs ex:List V7)(H H':Hp)(h h':Heap):Prop where
 keep:∀ b o,h.get? b=some o->H b=none->b∉fs->b∉ex->h'.get? b=some o
 slot:∀ b o,h.get? b=some o->H b=none->b∈fs->b∉ex->∃ sl,h'.get? b=some {o with slots:=sl}
 free:∀ b o,h.get? b=some o->H b=none->b∉ex->H' b=none
 there:∀ b o,h.get? b=some o->b∉ex->∃ o',h'.get? b=some o'
 tups:∀ b xs,H b=some (.tup xs)->H' b=some (.tup xs)
 frzs:∀ b o u,H b=some (.frz o (.lst u))->H' b=some (.frz o (.lst u))
 tbls:∀ b ps,H b=some (.tbl ps)->∃ more,H' b=some (.tbl (ps++more))
section
variable{fs fs' ex ex':List V7}{H H1 H2:Hp}{h h1 h2 h':Heap}{a x e:V7}{o:HO}
theorem Un.any(u:Un fs ex H H1 h h1){b:V7}{ob:Obj}(q:h.get? b=some ob)(n:H b=none)(hx:b∉ex):∃ sl,h1.get? b=some {ob with slots:=sl}:=by
 by_cases hb:b∈fs
 ·exact u.slot b ob q n hb hx
 ·exact⟨ob.slots,u.keep b ob q n hb hx⟩
theorem Un.trans(a:Un fs ex H H1 h h1)(b:Un fs ex H1 H2 h1 h2):Un fs ex H H2 h h2 where
 keep:=fun c ob q n hc hx=>b.keep c ob (a.keep c ob q n hc hx) (a.free c ob q n hx) hc hx
 slot:=fun c ob q n hc hx=>by
  obtain⟨sl,e1⟩:=a.slot c ob q n hc hx;obtain⟨sl',e2⟩:=b.slot c _ e1 (a.free c ob q n hx) hc hx;exact⟨sl',e2⟩
 free:=fun c ob q n hx=>by
  obtain⟨o',e1⟩:=a.there c ob q hx;exact b.free c o' e1 (a.free c ob q n hx) hx
 there:=fun c ob q hx=>by
  obtain⟨o',e1⟩:=a.there c ob q hx;exact b.there c o' e1 hx
 tups:=fun c xs q=>b.tups c xs (a.tups c xs q)
 frzs:=fun c ob xs q=>b.frzs c ob xs (a.frzs c ob xs q)
 tbls:=fun c ps q=>by
  obtain⟨m1,e1⟩:=a.tbls c ps q;obtain⟨m2,e2⟩:=b.tbls c _ e1;exact⟨m1++m2,by rw[e2,UP]⟩
theorem Un.kept(k:∀ b u,h.get? b=some u->h'.get? b=some u):Un fs ex H H h h':=
 ⟨fun b ob q _ _ _=>k b ob q,fun b ob q _ _ _=>⟨ob.slots,k b ob q⟩,fun _ _ _ n _=>n,fun b ob q _=>⟨ob,k b ob q⟩,fun _ _ q=>q,fun _ _ _ q=>q,fun _ ps q=>⟨#[],by rw[q];simp⟩⟩
theorem Un.refl:Un fs ex H H h h:=Un.kept fun _ _ q=>q
theorem Un.laid(k:∀ b u,h.get? b=some u->h'.get? b=some u)(hp:h.objs.size<=a)(hn:H a=none):Un fs ex H (upd H a o) h h' where
 keep:=fun b u q _ _ _=>k b u q
 slot:=fun b u q _ _ _=>⟨u.slots,k b u q⟩
 free:=fun b u q n _=>by rw[c3 (Ro (Ra (RN q) hp))];exact n
 there:=fun b u q _=>⟨u,k b u q⟩
 tups:=fun b xs q=>by rw[c3 (c4 q hn)];exact q
 frzs:=fun b u xs q=>by rw[c3 (c4 q hn)];exact q
 tbls:=fun b ps q=>⟨#[],by rw[c3 (c4 q hn),q];simp⟩
theorem Un.write(mu:Mut (H x))(he:e=x\/H e=some (.own x))(k:∀ b u,b≠e->h.get? b=some u->h'.get? b=some u)(heo:∃ u,h'.get? e=some u):Un fs ex H (upd H x o) h h':=by
 have hx:∀ b,H b=none->b≠x:=fun b n z=>by subst z;rw[n]at mu;exact mu
 have hb:∀ b,H b=none->b≠e:=fun b n z=>by
  subst z;rcases he with r | r
  ·exact hx b n r
  ·rw[n]at r;cases r
 have hm:∀ b u,H b=some u->¬ Mut (some u)->b≠x:=fun b u q nm z=>by subst z;rw[q]at mu;exact nm mu
 refine⟨fun b u q n _ _=>k b u (hb b n) q,fun b u q n _ _=>⟨u.slots,k b u (hb b n) q⟩,fun b u q n _=>by rw[c3 (hx b n)];exact n,fun b u q _=>?_,
  fun b xs q=>by rw[c3 (hm b _ q fun z=>z)];exact q,fun b u xs q=>by rw[c3 (hm b _ q fun z=>z)];exact q,fun b ps q=>⟨#[],by rw[c3 (hm b _ q fun z=>z),q];simp⟩⟩
 by_cases hbe:b=e
 ·subst hbe;exact heo
 ·exact⟨u,k b u hbe q⟩
theorem Un.mono(u:Un fs ex H H1 h h1)(hs:∀ b∈fs,b∈fs')(hx:∀ b∈ex,b∈ex'):Un fs' ex' H H1 h h1:=
 ⟨fun b ob q n hb he=>u.keep b ob q n (fun z=>hb (hs b z)) fun z=>he (hx b z),fun _ _ q n _ he=>u.any q n fun z=>he (hx _ z),fun b ob q n he=>u.free b ob q n fun z=>he (hx b z),fun b ob q he=>u.there b ob q fun z=>he (hx b z),u.tups,u.frzs,u.tbls⟩
end
noncomputable def trk(h:Heap)(H:Hp):List V7:=(RL h.objs.size).filter fun a=>(H a).isSome
noncomputable def DR(h:Heap)(H:Hp):Heap:=PySem.W.hideAll h (trk h H)
theorem HI(h:Heap)(H:Hp):(DR h H).objs.size=h.objs.size:=PySem.W.hideAll_size _ _
theorem IU{h:Heap}{H:Hp}{b:V7}{o:Obj}(e:h.get? b=some o)(n:H b=none):(DR h H).get? b=some o:=
 PySem.W.hideAll_get _ e fun hm=>by
  have q:(H b).isSome=true:=(Uh.mp hm).2;rw[n]at q;simp at q
theorem Kn{h:Heap}{H:Hp}{b:V7}{o:Obj}(e:(DR h H).get? b=some o):h.get? b=some o/\H b=none:=by
 have e':h.get? b=some o:=PySem.W.of_hideAll (trk h H) e;refine⟨e',?_⟩;cases q:H b with
 | none=>rfl
 | some x=>
   have hm:b∈trk h H:=Uh.mpr ⟨Rq.mpr (RN e'),by simp[q]⟩;have z:(DR h H).get? b=none:=PySem.W.hideAll_none (trk h H) hm;rw[z]at e;cases e
structure Mod(K:R8)(mg:Str->Option V4)(base:Heap):Prop where
 kin:K.In base
 glob:base.Ns VD mg
 blt:∃ mb,base.Ns Wd mb/\∀ x:Str,x≠"__name__"->mb x=VE x
 nolimit:base.NoLimit
structure Cx where
 prog:VC
 w:VG
 K:R8
 mg:Str->Option V4
 base:Heap
 A:VM
 N:List Str
 s₀:V6
 H₀:Hp
 env:Env
 outer:List Env
 stack:List Env
 ex:List V7
 fn:Str->Bool
 calm:Bool
 pn:List (V7×Obj)
 xe:V4->V6->Prop
noncomputable def frs(l:List Env):List V7:=l.filterMap (·.frame)
noncomputable abbrev Cx.fs(X:Cx):List V7:=frs X.outer
noncomputable def Vis(sc:VI)(x:Str):Prop:=sc.names.lookup x=some .local\/sc.names.lookup x=some .cell\/sc.names.lookup x=some .free
noncomputable def Loc(sc:VI)(x:Str):Prop:=sc.names.lookup x=some .local\/sc.names.lookup x=some .cell
noncomputable def Look(env:Env)(h:Heap)(m:Str->Option V4)(x:Str)(u:V4):Prop:=
 (env.kindOf x=some .local/\m x=some u)\/((env.kindOf x=some .cell\/env.kindOf x=some .free)/\∃ c,env.cells.lookup x=some c/\h.IsCell c (some u))
structure Cx.Ok(X:Cx):Prop where
 mod:Mod X.K X.mg X.base
 kind:X.env.scope.kind = .function
 glob:X.env.globals=VD
 blt:X.env.builtins=Wd
 above:X.s₀.heap.objs.size<=X.env.locals
 inj:∀ x y c,X.env.cells.lookup x=some c->X.env.cells.lookup y=some c->x=y
 has:∀ x,(X.env.kindOf x=some .cell\/X.env.kindOf x=some .free)->∃ c,X.env.cells.lookup x=some c
 cab:∀ x c,X.fn x=true->X.env.cells.lookup x=some c->X.s₀.heap.objs.size<=c
 hd:X.calm=true->X.A.handled=none
 frames:X.A.frames=some X.stack
 stk:X.stack=X.outer\/(X.stack=X.env::X.outer/\X.env.frame=some X.env.locals)
 exf:∀ b∈X.ex,b≠X.env.locals/\∀ x c,X.env.cells.lookup x=some c->c≠b
 bs:∀ b o,X.base.get? b=some o->X.s₀.heap.get? b=some o/\X.H₀ b=none
 bsz:X.base.objs.size<=X.s₀.heap.objs.size
 noex:∀ b o,X.base.get? b=some o->b∉X.ex
 exfs:∀ b∈X.ex,b∉X.fs
 funs:X.s₀.heap.FunFrames X.base X.outer
 frf:∀ b∈X.fs,X.H₀ b=none
structure Inv(X:Cx)(pq:List (V7×Obj))(σ:List (Option V))(H:Hp)(s:V6):Prop where
 ok:X.Ok
 os:s.os=X.s₀.os
 bare:AllBare s.gens
 base:Un X.fs X.ex X.H₀ H X.s₀.heap s.heap
 loc:∃ m,s.heap.Ns X.env.locals m/\∀(i:Nat) (x:Str) (v:V),X.N[i]?=some x->σ[i]?=some (some v)->Vis X.env.scope x->∃ u,RelV v u/\Look X.env s.heap m x u
 cell:∀ x c,X.env.cells.lookup x=some c->∃ v,s.heap.IsCell c v
 free:H X.env.locals=none
 freeC:∀ x c,X.env.cells.lookup x=some c->H c=none
 pin:∀ p∈X.pn++pq,s.heap.get? p.1=some p.2/\H p.1=none/\p.1≠X.env.locals/\p.1∉X.fs/\∀ v,p.2.data ≠ .cell v
 hok:HOk X.prog X.w H s.heap
 len:σ.length=X.N.length
section
variable{X:Cx}{pq:List (V7×Obj)}{σ:List (Option V)}{H H':Hp}{s:V6}{h':Heap}
theorem Cx.Ok.nofr(ok:X.Ok){b:V7}{o:Obj}(e:X.base.get? b=some o):b∉X.fs:=fun hb=>by
 have:=(ok.funs.mem hb).1;rw[e]at this;cases this
theorem Inv.bs(I:Inv X pq σ H s):∀ b o,X.base.get? b=some o->s.heap.get? b=some o/\H b=none:=fun b o e=>
 ⟨I.base.keep b o (I.ok.bs b o e).1 (I.ok.bs b o e).2 (I.ok.nofr e) (I.ok.noex b o e),I.base.free b o (I.ok.bs b o e).1 (I.ok.bs b o e).2 (I.ok.noex b o e)⟩
theorem Inv.bk(I:Inv X pq σ H s):∀ b o,X.base.get? b=some o->s.heap.get? b=some o:=fun b o e=>(I.bs b o e).1
theorem Inv.mod(I:Inv X pq σ H s):Mod X.K X.mg X.base:=I.ok.mod
theorem Inv.kIn(I:Inv X pq σ H s):X.K.In s.heap:=I.ok.mod.kin.keeps I.bk
theorem Inv.lt(I:Inv X pq σ H s):X.env.locals<s.heap.objs.size:=let ⟨_,hn,_⟩:=I.loc;hn.lt
theorem Inv.sz(I:Inv X pq σ H s):X.s₀.heap.objs.size<=s.heap.objs.size:=Rn I.ok.above (Tb I.lt)
theorem Inv.nofs(I:Inv X pq σ H s){a:V7}(h:s.heap.objs.size<=a):a∉X.fs:=fun hb=>by
 obtain⟨_,o,ho,_⟩:=I.ok.funs.mem hb;exact absurd (Ra (RN ho) (Rn I.sz h)) (SL _)
theorem Inv.cne(I:Inv X pq σ H s):∀ x c,X.env.cells.lookup x=some c->c≠X.env.locals:=fun x c e z=>by
 obtain⟨v,o,ho,hd⟩:=I.cell x c e;obtain⟨m,⟨o',es,ep,ho',hd',_⟩,_⟩:=I.loc;rw[z,ho']at ho;cases ho;rw[hd']at hd;cases hd
theorem Inv.funs(I:Inv X pq σ H s):s.heap.FunFrames X.base X.outer:=by
 have all:∀(l:List Env),(∀ b∈frs l,b∈X.fs)->X.s₀.heap.FunFrames X.base l->s.heap.FunFrames X.base l:=by
  intro l
  induction l with
  | nil=>intro _ _;trivial
  | cons env r ih=>
    intro hs hl;obtain⟨hk,⟨L,o,hf,hn,ho,hd⟩,hr⟩:=hl;have hL:L∈X.fs:=hs L (by unfold frs;rw[TR,hf];exact RS);obtain⟨sl,e⟩:=I.base.slot L o ho (I.ok.frf L hL) hL fun z=>I.ok.exfs L z hL;exact⟨hk,⟨L,_,hf,hn,e,hd⟩,ih (fun b hb=>hs b (by unfold frs;rw[TR,hf];exact RK _ hb)) hr⟩
 exact all X.outer (fun _ hb=>hb) I.ok.funs
theorem Inv.stack(I:Inv X pq σ H s):s.heap.FunFrames X.base X.stack:=by
 rcases I.ok.stk with e | ⟨e,hf⟩
 ·rw[e];exact I.funs
 ·rw[e];obtain⟨m,hn,_⟩:=I.loc;refine .cons (by rw[I.ok.kind];decide) hf hn ?_ I.funs;exact UL (Rn I.ok.bsz I.ok.above)
theorem Inv.stkSub(I:Inv X pq σ H s):∀ b∈frs X.stack,b∈X.env.locals::X.fs:=fun b hb=>by
 rcases I.ok.stk with e | ⟨e,hf⟩
 ·rw[e]at hb;exact RK _ hb
 ·rw[e]at hb;unfold frs at hb;rw[TR,hf]at hb;exact hb
theorem Inv.stkFree(I:Inv X pq σ H s):∀ b∈frs X.stack,H b=none:=fun b hb=>by
 rcases RM.mp (I.stkSub b hb) with e | hb
 ·rw[e];exact I.free
 ·obtain⟨_,o,ho,_⟩:=I.ok.funs.mem hb;exact I.base.free b o ho (I.ok.frf b hb) fun z=>I.ok.exfs b z hb
theorem Inv.step{g':Array Wp}{t':Nat}{d':Drawn}{ch:List V7}(I:Inv X pq σ H s)
 (hch:∀ b∈ch,(b∈X.ex\/X.s₀.heap.objs.size<=b)/\b≠X.env.locals/\(∀ x c,X.env.cells.lookup x=some c->c≠b)/\∀ p∈X.pn++pq,p.1≠b)
 (keep:∀ b o,b≠X.env.locals->b∉X.fs->b∉ch->s.heap.get? b=some o->H b=none->h'.get? b=some o)
 (slot:∀ b o,b≠X.env.locals->b∈X.fs->b∉ch->s.heap.get? b=some o->H b=none->∃ sl,h'.get? b=some {o with slots:=sl}) (free:∀ b o,b∉ch->s.heap.get? b=some o->H b=none->H' b=none)
 (there:∀ b o,b∉ch->s.heap.get? b=some o->∃ o',h'.get? b=some o')
 (tups:∀ b xs,H b=some (.tup xs)->H' b=some (.tup xs)) (frzs:∀ b o u,H b=some (.frz o (.lst u))->H' b=some (.frz o (.lst u))) (tbls:∀ b ps,H b=some (.tbl ps)->∃ more,H' b=some (.tbl (ps++more)))
 (ns:∀ m,s.heap.Ns X.env.locals m->h'.Ns X.env.locals m) (hok:HOk X.prog X.w H' h') (hg:AllBare g'):
 Inv X pq σ H' {s with heap:=h',gens:=g',drawn:=d',toks:=t'}:=by
 have neL:∀ b o,X.s₀.heap.get? b=some o->b≠X.env.locals:=fun b o e=>Ro (Ra (RN e) I.ok.above)
 have neC:∀ b o,X.s₀.heap.get? b=some o->b∉X.ex->b∉ch:=fun b o e hx hb=>by
  rcases(hch b hb).1 with z | z
  ·exact hx z
  ·exact absurd (Ra (RN e) z) (SL _)
 have cellK:∀ x c,X.env.cells.lookup x=some c->∀ v,s.heap.IsCell c v->h'.IsCell c v:=fun x c e v ⟨o,ho,hd⟩=>by
  have nch:c∉ch:=fun z=>(hch c z).2.2.1 x c e rfl;by_cases hc:c∈X.fs
  ·obtain⟨sl,q⟩:=slot c o (I.cne x c e) hc nch ho (I.freeC x c e);exact⟨_,q,hd⟩
  ·exact⟨o,keep c o (I.cne x c e) hc nch ho (I.freeC x c e),hd⟩
 refine⟨I.ok,I.os,hg,⟨fun b o e n hb hx=>?_,fun b o e n hb hx=>?_,fun b o e n hx=>?_,fun b o e hx=>?_,fun b xs e=>tups b xs (I.base.tups b xs e),fun b o xs e=>frzs b o xs (I.base.frzs b o xs e),fun b ps e=>?_⟩,?_,fun x c e=>?_,?_,fun x c e=>?_,fun p hp=>?_,hok,I.len⟩
 ·exact keep b o (neL b o e) hb (neC b o e hx) (I.base.keep b o e n hb hx) (I.base.free b o e n hx)
 ·obtain⟨sl,e1⟩:=I.base.slot b o e n hb hx;obtain⟨sl',e2⟩:=slot b _ (neL b o e) hb (neC b o e hx) e1 (I.base.free b o e n hx);exact⟨sl',e2⟩
 ·obtain⟨o',e1⟩:=I.base.there b o e hx;exact free b o' (neC b o e hx) e1 (I.base.free b o e n hx)
 ·obtain⟨o',e1⟩:=I.base.there b o e hx;exact there b o' (neC b o e hx) e1
 ·obtain⟨m1,e1⟩:=I.base.tbls b ps e;obtain⟨m2,e2⟩:=tbls b _ e1;exact⟨m1++m2,by rw[e2,UP]⟩
 ·obtain⟨m,hn,hl⟩:=I.loc;refine⟨m,ns m hn,fun i x v e1 e2 e3=>?_⟩;obtain⟨u,r,l⟩:=hl i x v e1 e2 e3;refine⟨u,r,?_⟩;rcases l with l | ⟨k,c,e,z⟩
  ·exact .inl l
  ·exact .inr ⟨k,c,e,cellK x c e _ z⟩
 ·obtain⟨v,z⟩:=I.cell x c e;exact⟨v,cellK x c e v z⟩
 ·obtain⟨m,⟨o,_,_,ho,_⟩,_⟩:=I.loc;exact free _ o (fun z=>(hch _ z).2.1 rfl) ho I.free
 ·obtain⟨v,o,ho,hd⟩:=I.cell x c e;exact free c o (fun z=>(hch c z).2.2.1 x c e rfl) ho (I.freeC x c e)
 ·obtain⟨e,n,ne,nf,d⟩:=I.pin p hp;have nch:p.1∉ch:=fun z=>(hch p.1 z).2.2.2 p hp rfl;exact⟨keep p.1 p.2 ne nf nch e n,free p.1 p.2 nch e n,ne,nf,d⟩
theorem Inv.un{t':Nat}(I:Inv X pq σ H s)(u:Un X.fs [] H H' s.heap h')(hok:HOk X.prog X.w H' h'):Inv X pq σ H' {s with heap:=h',toks:=t'}:=by
 obtain⟨m,⟨o,es,ep,ho,r⟩,_⟩:=id I.loc;obtain⟨sl,hL⟩:=u.any ho I.free (by simp)
 exact I.step (g':=s.gens) (d':=s.drawn) (ch:=[]) (fun _ z=>nomatch z) (fun b o _ hb _ e n=>u.keep b o e n hb (by simp)) (fun b o _ hb _ e n=>u.slot b o e n hb (by simp)) (fun b o _ e n=>u.free b o e n (by simp)) (fun b o _ e=>u.there b o e (by simp)) u.tups u.frzs u.tbls (fun m' hm=>by
  obtain⟨o',es',ep',ho',r'⟩:=hm;rw[ho]at ho';cases ho';exact⟨_,es',ep',hL,r'⟩) hok I.bare
theorem Inv.call{g':Array Wp}{t':Nat}{d':Drawn}{ch:List V7}(I:Inv X pq σ H s)(u:Un (frs X.stack) ch H H' s.heap h')(hok:HOk X.prog X.w H' h')(hg:AllBare g')
 (hch:∀ b∈ch,(b∈X.ex\/X.s₀.heap.objs.size<=b)/\b≠X.env.locals/\(∀ x c,X.env.cells.lookup x=some c->c≠b)/\∀ p∈X.pn++pq,p.1≠b):
 Inv X pq σ H' {s with heap:=h',gens:=g',drawn:=d',toks:=t'}:=by
 obtain⟨m,⟨o,es,ep,ho,r⟩,_⟩:=id I.loc;obtain⟨sl,hL⟩:=u.any ho I.free fun z=>(hch _ z).2.1 rfl
 exact I.step (ch:=ch) hch (fun b o hL hb hc e n=>u.keep b o e n (fun z=>(RM.mp (I.stkSub b z)).elim hL hb) hc) (fun b o _ _ hc e n=>u.any e n hc) (fun b o hc e n=>u.free b o e n hc) (fun b o hc e=>u.there b o e hc) u.tups u.frzs u.tbls (fun m' hm=>by
  obtain⟨o',es',ep',ho',r'⟩:=hm;rw[ho]at ho';cases ho';exact⟨_,es',ep',hL,r'⟩) hok hg
theorem Inv.turned{t':Nat}{it:V7}(I:Inv X pq σ H s)(k:∀ b o,b≠it->s.heap.get? b=some o->h'.get? b=some o)(hn:H it=none)(hL:it≠X.env.locals)
 (h1:it∈X.ex\/X.s₀.heap.objs.size<=it) (h2:∀ x c,X.env.cells.lookup x=some c->c≠it) (h3:∀ p∈X.pn++pq,p.1≠it):Inv X pq σ H {s with heap:=h',toks:=t'}:=by
 have nit:∀ b u,H b=some u->b≠it:=fun b u e z=>by rw[z,hn]at e;cases e
 refine I.step (g':=s.gens) (d':=s.drawn) (ch:=[it]) (fun b hb=>?_) (fun b o _ _ hc e _=>k b o (fun z=>hc (by simp[z])) e) (fun b o _ _ hc e _=>⟨o.slots,k b o (fun z=>hc (by simp[z])) e⟩) (fun _ _ _ _ n=>n)
  (fun b o hc e=>⟨o,k b o (fun z=>hc (by simp[z])) e⟩) (fun _ _ e=>e) (fun _ _ _ e=>e) (fun b ps e=>⟨#[],by rw[e];simp⟩) (fun m hm=>?_) (fun b u e=>?_) I.bare
 ·have e:b=it:=by simpa using hb
  subst e;exact⟨h1,hL,h2,h3⟩
 ·obtain⟨o,es,ep,ho,r⟩:=hm;exact⟨o,es,ep,k _ o (Ne.symm hL) ho,r⟩
 ·refine(I.hok b u e).stay (fun c v hc q=>k c v ?_ q) (fun _ q=>q) fun _ _ q=>q;rcases hc with z | z
  ·rw[z];exact nit b u e
  ·exact nit c _ z
theorem Inv.tok(I:Inv X pq σ H s)(t:Nat):Inv X pq σ H {s with toks:=t}:=I.un (h':=s.heap) (t':=t) Un.refl I.hok
theorem Inv.kept{t':Nat}(I:Inv X pq σ H s)(k:∀ b u,s.heap.get? b=some u->h'.get? b=some u):Inv X pq σ H {s with heap:=h',toks:=t'}:=I.un (Un.kept k) (I.hok.kept k)
theorem Inv.laid{a:V7}{o:HO}{t':Nat}(I:Inv X pq σ H s)(k:∀ b u,s.heap.get? b=some u->h'.get? b=some u)(hp:s.heap.objs.size<=a)(new:ObjOk X.prog X.w (upd H a o) h' a o):
 Inv X pq σ (upd H a o) {s with heap:=h',toks:=t'}:=I.un (Un.laid k hp (I.hok.fresh hp)) (I.hok.laid k hp new)
theorem Inv.write{x e:V7}{o:HO}{t':Nat}(I:Inv X pq σ H s)(mu:Mut (H x))(he:e=x\/H e=some (.own x))(k:∀ b u,b≠e->s.heap.get? b=some u->h'.get? b=some u)(heo:∃ u,h'.get? e=some u)
 (new:ObjOk X.prog X.w (upd H x o) h' x o):Inv X pq σ (upd H x o) {s with heap:=h',toks:=t'}:=I.un (Un.write mu he k heo) (I.hok.write mu he k heo new)
theorem Inv.weak{σ':List (Option V)}(I:Inv X pq σ H s)(hl:σ'.length=σ.length)(w:∀(i:Nat) v,σ'[i]?=some (some v)->σ[i]?=some (some v)):Inv X pq σ' H s:=
 ⟨I.ok,I.os,I.bare,I.base,let ⟨m,hn,hl'⟩:=I.loc;⟨m,hn,fun i x v e1 e2 e3=>hl' i x v e1 (w i v e2) e3⟩,I.cell,I.free,I.freeC,I.pin,I.hok,hl.trans I.len⟩
theorem Inv.pins_of{pq':List (V7×Obj)}(I:Inv X pq σ H s)(h:∀ p∈pq',s.heap.get? p.1=some p.2/\H p.1=none/\p.1≠X.env.locals/\p.1∉X.fs/\∀ v,p.2.data ≠ .cell v):Inv X pq' σ H s:=
 ⟨I.ok,I.os,I.bare,I.base,I.loc,I.cell,I.free,I.freeC,fun p hp=>(RO.mp hp).elim (fun z=>I.pin p (Tp _ z)) (h p),I.hok,I.len⟩
theorem E1{N:List Str}(hN:N.Nodup){i j:Nat}{x:Str}(a:N[i]?=some x)(b:N[j]?=some x):i=j:=by
 obtain⟨h1,e1⟩:=gM a;obtain⟨h2,e2⟩:=gM b;exact(List.getElem_inj hN).mp (e1.trans e2.symm)
theorem BW{M:Model}{A:VM}{E:V4->V6->Prop}{i:Nat}{x:Str}{v:V}{u:V4}{Q:Unit->V6->Prop}(I:Inv X pq σ H s)(hN:X.N.Nodup)(hi:X.N[i]?=some x)(hx:Loc X.env.scope x)(r:RelV v u)
 (h:∀ s',Inv X pq (σ.set i (some v)) H s'->(∃ a,T9 a s.heap s'.heap/\(a=X.env.locals\/X.env.cells.lookup x=some a))->Q () s') (hf:X.fn x=true\/X.env.scope.names.lookup x=some .local:=by first | exact .inl rfl | exact .inr rfl | assumption):VA M A (storeName X.env x u) Q E s:=by
 obtain⟨m,hn,hl⟩:=id I.loc;have hcls:(X.env.scope.kind == .class||(X.env.scope.kind == .module&&X.env.locals != X.env.globals))=false:=by rw[I.ok.kind];rfl
 have hiσ:i<σ.length:=by rw[I.len];exact(gM hi).1
 have cne:=I.cne
 have tracked:∀{a:V7} {h':Heap},(∃ o,s.heap.get? a=some o/\H a=none)->T9 a s.heap h'->HOk X.prog X.w H h':=fun{a h'} ha hs b ob e=>by
  obtain⟨_,_,hfree⟩:=ha;refine(I.hok b ob e).stay (fun c w' hc q=>(hs.2 c ?_).trans q) (fun _ q=>q) fun _ _ q=>q;rintro rfl;rcases hc with rfl | hc
  ·rw[hfree]at e;cases e
  ·rw[hfree]at hc;cases hc
 rcases hx with hk | hk
 ·refine wpAny_storeName_local hk hn (fun h' hn' hs=>?_) hcls;obtain⟨oL,_,_,hoL,_⟩:=id hn;refine h _ ⟨I.ok,I.os,I.bare,⟨fun b o e n hb hx=>?_,fun b o e n hb hx=>?_,I.base.free,fun b o e hx=>?_,I.base.tups,I.base.frzs,I.base.tbls⟩,⟨_,hn',fun j y v' e1 e2 e3=>?_⟩,fun y c e=>?_,I.free,I.freeC,fun p hp=>?_,tracked ⟨oL,hoL,I.free⟩ hs,by simpa using I.len⟩ ⟨_,hs,.inl rfl⟩
  ·exact(hs.2 b (Ro (Ra (RN e) I.ok.above))).trans (I.base.keep b o e n hb hx)
  ·obtain⟨sl,e1⟩:=I.base.slot b o e n hb hx;exact⟨sl,(hs.2 b (Ro (Ra (RN e) I.ok.above))).trans e1⟩
  ·obtain⟨o',e1⟩:=I.base.there b o e hx;exact⟨o',(hs.2 b (Ro (Ra (RN e) I.ok.above))).trans e1⟩
  ·by_cases hj:j=i
   ·subst hj;rw[hi]at e1;cases e1;rw[Ri hiσ]at e2;cases e2;exact⟨u,r,.inl ⟨hk,by simp⟩⟩
   ·rw[RU (Ne.symm hj)]at e2;obtain⟨u',r',q⟩:=hl j y v' e1 e2 e3;refine⟨u',r',?_⟩;rcases q with⟨k,e⟩ | ⟨k,c,e,z⟩
    ·refine .inl ⟨k,?_⟩;have:y≠x:=fun e=>hj (E1 hN e1 (e▸hi));simp[this,e]
    ·exact .inr ⟨k,c,e,z.sameBut hs (cne y c e)⟩
  ·obtain⟨w',z⟩:=I.cell y c e;exact⟨w',z.sameBut hs (cne y c e)⟩
  ·obtain⟨e,n,ne,nf,d⟩:=I.pin p hp;exact⟨(hs.2 p.1 ne).trans e,n,ne,nf,d⟩
 ·have hfn:X.fn x=true:=by
   rcases hf with z | z
   ·exact z
   ·rw[z]at hk;cases hk
  obtain⟨c,hc⟩:=I.ok.has x (.inl hk);obtain⟨w',z⟩:=I.cell x c hc;refine wpAny_storeName_cell I.ok.kind hk hc z (fun h' hc' hs=>?_);obtain⟨oc,hoc,hocd⟩:=id z;refine h {s with heap:=h'} ⟨I.ok,I.os,I.bare,⟨fun b o e n hb hx=>?_,fun b o e n hb hx=>?_,I.base.free,fun b o e hx=>?_,I.base.tups,I.base.frzs,I.base.tbls⟩,⟨m,hn.sameBut hs (Ne.symm (cne x c hc)),fun j y v' e1 e2 e3=>?_⟩,fun y c' e=>?_,I.free,I.freeC,fun p hp=>?_,tracked ⟨oc,hoc,I.freeC x c hc⟩ hs,by simpa using I.len⟩ ⟨c,hs,.inr hc⟩
  ·exact(hs.2 b (Ro (Ra (RN e) (I.ok.cab x c hfn hc)))).trans (I.base.keep b o e n hb hx)
  ·obtain⟨sl,e1⟩:=I.base.slot b o e n hb hx;exact⟨sl,(hs.2 b (Ro (Ra (RN e) (I.ok.cab x c hfn hc)))).trans e1⟩
  ·obtain⟨o',e1⟩:=I.base.there b o e hx;exact⟨o',(hs.2 b (Ro (Ra (RN e) (I.ok.cab x c hfn hc)))).trans e1⟩
  ·by_cases hj:j=i
   ·subst hj;rw[hi]at e1;cases e1;rw[Ri hiσ]at e2;cases e2;exact⟨u,r,.inr ⟨.inl hk,c,hc,hc'⟩⟩
   ·rw[RU (Ne.symm hj)]at e2;obtain⟨u',r',q⟩:=hl j y v' e1 e2 e3;refine⟨u',r',?_⟩;rcases q with q | ⟨k,c',e,z'⟩
    ·exact .inl q
    ·refine .inr ⟨k,c',e,z'.sameBut hs ?_⟩;rintro rfl;exact hj (E1 hN e1 (I.ok.inj _ _ _ e hc▸hi))
  ·by_cases hcc:c'=c
   ·subst hcc;exact⟨_,hc'⟩
   ·obtain⟨w2,z2⟩:=I.cell y c' e;exact⟨w2,z2.sameBut hs hcc⟩
  ·obtain⟨e,n,ne,nf,d⟩:=I.pin p hp;refine⟨(hs.2 p.1 ?_).trans e,n,ne,nf,d⟩;intro q;rw[q,hoc]at e;have q':oc=p.2:=oj e;exact d w' (by rw[<-q'];exact hocd)
theorem BD{M:Model}{A:VM}{E:V4->V6->Prop}{i:Nat}{x:Str}{v:V}{u:V4}{Q:Unit->V6->Prop}(I:Inv X pq σ H s)(hN:X.N.Nodup)(hi:X.N[i]?=some x)(hx:Loc X.env.scope x)(r:RelV v u)
 (h:∀ s',Inv X pq (σ.set i (some v)) H s'->Q () s') (hf:X.fn x=true\/X.env.scope.names.lookup x=some .local:=by first | exact .inl rfl | exact .inr rfl | assumption):VA M A (storeName X.env x u) Q E s:=
 BW I hN hi hx r (fun s' I' _=>h s' I') hf
theorem Inv.call'{s':V6}{ch:List V7}(I:Inv X pq σ H s)(ho:s'.os=s.os)(u:Un (frs X.stack) ch H H' s.heap s'.heap)(hok:HOk X.prog X.w H' s'.heap)(hg:AllBare s'.gens)
 (hch:∀ b∈ch,(b∈X.ex\/X.s₀.heap.objs.size<=b)/\b≠X.env.locals/\(∀ x c,X.env.cells.lookup x=some c->c≠b)/\∀ p∈X.pn++pq,p.1≠b):Inv X pq σ H' s':=by
 obtain⟨h',g',d',t',o'⟩:=s';have e:o'=s.os:=ho;subst e;exact I.call (g':=g') (t':=t') (d':=d') u hok hg hch
end
noncomputable abbrev XK:=V4->Option V7->Hp->Prop
noncomputable abbrev St:=List (Option V)
noncomputable abbrev VK:=V->Hp->Prop
noncomputable abbrev TE:=St->Hp->VK->Prop
noncomputable abbrev TT:=St->Hp->(Bool->Hp->Prop)->Prop
noncomputable abbrev TA:=St->Hp->(List V->Hp->Prop)->Prop
structure Ends where
 nx:St->Hp->Prop
 rt:VK
 bk:St->Hp->Prop:=fun _ _=>False
 ct:St->Hp->Prop:=fun _ _=>False
noncomputable abbrev TS:=Ends->St->Hp->Prop
noncomputable def EP(X:Cx)(pq:List (V7×Obj))(σ:St)(Q:VK)(u:V4)(s':V6):Prop:=∃ v H',Inv X pq σ H' s'/\RelV v u/\Q v H'
noncomputable def TP(X:Cx)(pq:List (V7×Obj))(σ:St)(Q:Bool->Hp->Prop)(b:Bool)(s':V6):Prop:=∃ H',Inv X pq σ H' s'/\Q b H'
noncomputable def AP(X:Cx)(pq:List (V7×Obj))(σ:St)(Q:List V->Hp->Prop)(us:List V4)(s':V6):Prop:=∃ vs H',Inv X pq σ H' s'/\Vals vs us/\Q vs H'
noncomputable def SP(X:Cx)(pq:List (V7×Obj))(D:Ends)(f:Flow)(s':V6):Prop:=
 match f with
 | .next=>∃ σ' H',Inv X pq σ' H' s'/\D.nx σ' H'
 | .brk=>∃ σ' H',Inv X pq σ' H' s'/\D.bk σ' H'
 | .cont=>∃ σ' H',Inv X pq σ' H' s'/\D.ct σ' H'
 | .ret u=>∃ v σ' H',Inv X pq σ' H' s'/\RelV v u/\D.rt v H'
noncomputable def PE(X:Cx)(e:Expr)(t:TE):Prop:=
 ∀(pq:List (V7×Obj)) (s:V6) (σ:St) (H:Hp) (Q:VK),Inv X pq σ H s->t σ H Q->VA (VB X.prog X.w) X.A (eval e X.env) (EP X pq σ Q) X.xe s
noncomputable def PT(X:Cx)(e:Expr)(t:TT):Prop:=
 ∀(pq:List (V7×Obj)) (s:V6) (σ:St) (H:Hp) (Q:Bool->Hp->Prop),Inv X pq σ H s->t σ H Q->VA (VB X.prog X.w) X.A (isTrue e X.env (eval e X.env)) (TP X pq σ Q) X.xe s
noncomputable def PW(X:Cx)(e:Expr)(t:TT):Prop:=
 ∀(whole:Sem V4) (pq:List (V7×Obj)) (s:V6) (σ:St) (H:Hp) (Q:Bool->Hp->Prop),Inv X pq σ H s->t σ H Q->VA (VB X.prog X.w) X.A (isTrue e X.env whole) (TP X pq σ Q) X.xe s
theorem PW.pt{X:Cx}{e:Expr}{t:TT}(h:PW X e t):PT X e t:=h _
noncomputable def PA(X:Cx)(es:List Expr)(t:TA):Prop:=
 ∀(pos:Pos) (pq:List (V7×Obj)) (s:V6) (σ:St) (H:Hp) (Q:List V->Hp->Prop),Inv X pq σ H s->t σ H Q->VA (VB X.prog X.w) X.A (spliced (backTo pos (VF es X.env))) (AP X pq σ Q) X.xe s
noncomputable def PS(X:Cx)(st:Stmt)(t:TS):Prop:=
 ∀(pq:List (V7×Obj)) (s:V6) (σ:St) (H:Hp) (D:Ends),Inv X pq σ H s->t D σ H->VA (VB X.prog X.w) X.A (exec st X.env) (SP X pq D) X.xe s
noncomputable def PSs(X:Cx)(st:List Stmt)(t:TS):Prop:=
 ∀(pq:List (V7×Obj)) (s:V6) (σ:St) (H:Hp) (D:Ends),Inv X pq σ H s->t D σ H->VA (VB X.prog X.w) X.A (execs st X.env) (SP X pq D) X.xe s
theorem thn{α:Type}{t:Sem α}{Q Q':α->V6->Prop}{M:Model}{A:VM}{E:V4->V6->Prop}{s:V6}(h:VA M A t Q E s)(hQ:∀ a s,Q a s->Q' a s):VA M A t Q' E s:=VR h hQ fun _ _ x=>x
section
variable{X:Cx}
noncomputable def Ko(i:Nat):TE:=fun σ H Q=>∃ v,σ[i]?=some (some v)/\Q v H
noncomputable def tC(v:V):TE:=fun _ H Q=>Q v H
theorem N9{i:Nat}{x:Str}{pos:Pos}(hN:X.N[i]?=some x)(hv:Vis X.env.scope x)(hd:(x == ("__debug__":Str))=false:=by decide)(hcd:(x == ("__classdict__":Str))=false:=by decide):PE X (.Name x pos) (Ko i):=by
 intro pq s σ H Q I h;obtain⟨v,e,h⟩:=h;obtain⟨m,hn,hl⟩:=I.loc;obtain⟨u,r,l⟩:=hl i x v hN e hv;have fin:EP X pq σ Q u s:=⟨v,H,I,r,h⟩
 rcases l with⟨hk,hm⟩ | ⟨hk,c,hc,hcell⟩
 ·exact Wq (wpAny_loadName_local I.ok.kind hk hn hm fin) hd
 ·rcases hk with hk | hk
  ·exact Wq (wpAny_loadName_cell I.ok.kind hk hc hcell fin) hd
  ·exact Wq (wpAny_loadName_free I.ok.kind hk hc hcell fin hcd) hd
theorem NA{i j pos}:PE X (.Constant (.int i) j pos) (tC (.int i)):=fun _ _ _ H _ I h=>wpAny_Constant_int ⟨.int i,H,I.tok _,⟨_,rfl⟩,h⟩
theorem Ow{b j pos}:PE X (.Constant (.bool b) j pos) (tC (.bl b)):=fun _ _ _ H _ I h=>Constant_bool ⟨.bl b,H,I,rfl,h⟩
theorem NB{j pos}:PE X (.Constant .none j pos) (tC .non):=fun _ _ _ H _ I h=>Constant_none ⟨.non,H,I,rfl,h⟩
theorem NC{x j pos}:PE X (.Constant (.str x) j pos) (tC (.str x)):=fun _ _ _ H _ I h=>Calls.Constant_str ⟨.str x,H,I.tok _,⟨_,rfl⟩,h⟩
noncomputable def Gl(X:Cx)(x:Str):Prop:=X.env.kindOf x=some .globalImplicit
theorem Kq{E:V4->V6->Prop}{pq:List (V7×Obj)}{s:V6}{σ:St}{H:Hp}{x:Str}{u:V4}{pos:Pos}{Q:V4->V6->Prop}(I:Inv X pq σ H s)(hg:Gl X x)(hm:X.mg x=some u)(h:Q u s)
 (hd:(x == ("__debug__":Str))=false:=by decide):VA (VB X.prog X.w) X.A (eval (.Name x pos) X.env) Q E s:=
 Calls.Name_function_global I.ok.kind hg (Calls.loadGlobal_global (by rw[I.ok.glob];exact I.mod.glob.keeps I.bk) hm h) hd
theorem AC{E:V4->V6->Prop}{pq:List (V7×Obj)}{s:V6}{σ:St}{H:Hp}{x:Str}{u:V4}{pos:Pos}{Q:V4->V6->Prop}(I:Inv X pq σ H s)(hg:Gl X x)(hm:X.mg x=none)(hv:VE x=some u)(h:Q u s)
 (hn:x≠"__name__":=by decide) (hd:(x == ("__debug__":Str))=false:=by decide):VA (VB X.prog X.w) X.A (eval (.Name x pos) X.env) Q E s:=by
 obtain⟨mb,h1,h2⟩:=I.mod.blt;exact Calls.Name_function_global I.ok.kind hg (Calls.loadGlobal_builtin (by rw[I.ok.glob];exact I.mod.glob.keeps I.bk) hm (by rw[I.ok.blt];exact h1.keeps I.bk) ((h2 x hn).trans hv) h) hd
theorem Kr{x:Str}{v:V}{u:V4}{pos:Pos}(hg:Gl X x)(hm:X.mg x=none)(hv:VE x=some u)(r:RelV v u)(hn:x≠"__name__":=by decide)(hd:(x == ("__debug__":Str))=false:=by decide):PE X (.Name x pos) (tC v):=
 fun _ _ _ H _ I h=>AC I hg hm hv ⟨v,H,I,r,h⟩ hn hd
variable{a b:Expr}{ta tb:TE}{pos:Pos}
noncomputable def PC(X:Cx)(op:CmpOp)(a b:Expr)(t:TE):Prop:=
 ∀(pq:List (V7×Obj)) (s:V6) (σ:St) (H:Hp) (Q:VK),Inv X pq σ H s->t σ H Q->
  VA (VB X.prog X.w) X.A (eval a X.env) (fun v s₁=>VA (VB X.prog X.w) X.A (eval b X.env) (fun u s₂=>VA (VB X.prog X.w) X.A (VL op v u) (EP X pq σ Q) X.xe s₂) X.xe s₁) X.xe s
noncomputable def tB(t:TE):TT:=fun σ H Q=>t σ H fun x H1=>∃ c,x = .bl c/\Q c H1
theorem IV{op:CmpOp}{t:TE}(h:PC X op a b t)(h1:Vu op b=false:=by first | exact nobehind _ (by decide) (by decide) | rfl):PE X (.Compare a [op] [b] pos) t:=fun pq s σ H Q I hw=>Wr (h pq s σ H Q I hw) h1
theorem IW{op:CmpOp}{t:TE}(h:PC X op a b t)(h1:Vu op b=false:=by first | exact nobehind _ (by decide) (by decide) | rfl):PT X (.Compare a [op] [b] pos) (tB t):=by
 intro pq s σ H Q I hw;refine WN (thn (h pq s σ H _ I hw) fun v s1 h1=>thn h1 fun u s2 h2=>thn h2 fun c s3 ⟨x,H1,I1,r1,q1⟩=>?_) h1;obtain⟨d,rfl,q⟩:=q1;cases r1;exact VN ⟨H1,I1,q⟩
variable{tA tB':TT}{rest:List Expr}
noncomputable def Ox(t u:TT):TT:=fun σ H Q=>t σ H fun c H1=>if c=true then u σ H1 Q else Q false H1
noncomputable def tOr(t u:TT):TT:=fun σ H Q=>t σ H fun c H1=>if c=true then Q true H1 else u σ H1 Q
noncomputable def Oy(t:TT):TT:=fun σ H Q=>t σ H fun c H1=>Q (!c) H1
theorem Ks(ha:PT X a tA):PW X (.BoolOp .And [a] pos) tA:=by
 intro wh pq s σ H Q I h;refine isTrue_and (thn (ha pq s σ H Q I h) fun c s1 e=>?_);cases c with
 | true=>exact isTrue_and_nil e
 | false=>exact e
theorem ND(ha:PT X a tA):PW X (.BoolOp .Or [a] pos) tA:=by
 intro wh pq s σ H Q I h;refine isTrue_or (thn (ha pq s σ H Q I h) fun c s1 e=>?_);cases c with
 | false=>exact isTrue_or_nil e
 | true=>exact e
theorem IY(ha:PT X a tA)(hb:PW X (.BoolOp .And (b::rest) pos) tB'):PW X (.BoolOp .And (a::b::rest) pos) (Ox tA tB'):=by
 intro wh pq s σ H Q I h;refine isTrue_and (thn (ha pq s σ H _ I h) fun c s1 ⟨H1,I1,q1⟩=>?_);cases c with
 | true=>exact hb wh pq s1 σ H1 Q I1 q1
 | false=>exact⟨H1,I1,q1⟩
theorem Mb(ha:PT X a tA)(hb:PW X (.BoolOp .Or (b::rest) pos) tB'):PW X (.BoolOp .Or (a::b::rest) pos) (tOr tA tB'):=by
 intro wh pq s σ H Q I h;refine isTrue_or (thn (ha pq s σ H _ I h) fun c s1 ⟨H1,I1,q1⟩=>?_);cases c with
 | true=>exact⟨H1,I1,q1⟩
 | false=>exact hb wh pq s1 σ H1 Q I1 q1
theorem NE(ha:PT X a tA):PT X (.UnaryOp .Not a pos) (Oy tA):=by
 intro pq s σ H Q I h;exact isTrue_not (ha pq s σ H (fun c H1=>Q (!c) H1) I h)
noncomputable def Mc(ta tb:TE):TE:=fun σ H Q=>ta σ H fun x H1=>∃ c,x = .bl c/\if c=true then tb σ H1 Q else Q (.bl false) H1
noncomputable def Oz(ta tb:TE):TE:=fun σ H Q=>ta σ H fun x H1=>∃ c,x = .bl c/\if c=true then Q (.bl true) H1 else tb σ H1 Q
noncomputable def Md(ta:TE):TE:=fun σ H Q=>ta σ H fun x H1=>∃ c,x = .bl c/\Q (.bl (!c)) H1
theorem IZ{op}{t:TE}(h:PE X a t):PE X (.BoolOp op [a] pos) t:=fun pq s σ H Q I hw=>BoolOp_one (h pq s σ H Q I hw)
theorem Ia(ha:PE X a ta)(hb:PE X (.BoolOp .And (b::rest) pos) tb):PE X (.BoolOp .And (a::b::rest) pos) (Mc ta tb):=by
 intro pq s σ H Q I h;refine BoolOp_and (thn (ha pq s σ H _ I h) fun v s1 ⟨x,H1,I1,r1,q1⟩=>?_);obtain⟨c,rfl,q1⟩:=q1;cases r1;refine VN ?_;cases c with
 | true=>exact hb pq s1 σ H1 Q I1 q1
 | false=>exact⟨.bl false,H1,I1,rfl,q1⟩
theorem Me(ha:PE X a ta)(hb:PE X (.BoolOp .Or (b::rest) pos) tb):PE X (.BoolOp .Or (a::b::rest) pos) (Oz ta tb):=by
 intro pq s σ H Q I h;refine BoolOp_or (thn (ha pq s σ H _ I h) fun v s1 ⟨x,H1,I1,r1,q1⟩=>?_);obtain⟨c,rfl,q1⟩:=q1;cases r1;refine VN ?_;cases c with
 | false=>exact hb pq s1 σ H1 Q I1 q1
 | true=>exact⟨.bl true,H1,I1,rfl,q1⟩
theorem NF(ha:PE X a ta):PE X (.UnaryOp .Not a pos) (Md ta):=by
 intro pq s σ H Q I h;refine UnaryOp_ (thn (ha pq s σ H _ I h) fun v s1 ⟨x,H1,I1,r1,q1⟩=>?_);obtain⟨c,rfl,q1⟩:=q1;cases r1;exact not_of (VN ⟨.bl (!c),H1,I1,rfl,q1⟩)
end
noncomputable def SqL(K:R8)(H:Hp)(a:V7)(xs:List V):Prop:=
 Rd H a (.lst xs)\/
  ∃(o:Obj) (its:Array V4) (n:Nat),K.lookup a=some o/\o.cls = .type "list"/\o.dict=none/\o.data = .seq its n/\its.size<=V9/\Vals xs its.toList
noncomputable def SqT(K:R8)(H:Hp)(a:V7)(xs:List V):Prop:=
 Rd H a (.tup xs)\/
  ∃(o:Obj) (its:Array V4) (n:Nat),K.lookup a=some o/\o.cls = .type "tuple"/\o.data = .seq its n/\its.size<=V9/\Vals xs its.toList
noncomputable def Qc:V4->Option V
 | .none=>some .non
 | .bool b=>some (.bl b)
 | .int i _=>some (.int i)
 | .str x _=>some (.str x)
 | .bytes b _=>some (.byt b)
 | .float b _=>some (.flt b)
 | .ref a=>some (.ref a)
 | .type n=>some (.ty n)
 | _=>none
theorem RelV.abs{x:V}{u:V4}(r:RelV x u):Qc u=some x:=by
 cases x with
 | non=>cases r;rfl
 | bl _=>cases r;rfl
 | int _=>obtain⟨t,rfl⟩:=r;rfl
 | str _=>obtain⟨t,rfl⟩:=r;rfl
 | byt _=>obtain⟨t,rfl⟩:=r;rfl
 | flt _=>obtain⟨t,rfl⟩:=r;rfl
 | ref _=>cases r;rfl
 | ty _=>cases r;rfl
theorem RelV.inj{x y:V}{u:V4}(r:RelV x u)(q:RelV y u):x=y:=oj (r.abs.symm.trans q.abs)
theorem Vals.inj:∀{xs ys:List V} {us:List V4},Vals xs us->Vals ys us->xs=ys
 | _,_,_,.nil,.nil=>rfl
 | _,_,_,.cons r t,.cons r' t'=>by rw[r.inj r',Vals.inj t t']
section
variable{X:Cx}{pq:List (V7×Obj)}{σ:St}{H:Hp}{s:V6}{a:V7}{xs ys:List V}
theorem SqL.of{K:R8}(h:H a=some (.lst xs)):SqL K H a xs := .inl (.inl h)
theorem SqT.of{K:R8}(h:H a=some (.tup xs)):SqT K H a xs := .inl (.inl h)
theorem Inv.list(I:Inv X pq σ H s)(h:SqL X.K H a xs):∃ its:List V4,Vals xs its/\PlainL s.heap a its.toArray/\xs.length<=V9:=by
 rcases h with h | ⟨o,its,n,hk,hc,hd,hs,hz,r⟩
 ·obtain⟨z,its,n,r,e⟩:=h.ok I.hok;exact⟨its,r,⟨_,n,e,rfl,rfl,rfl⟩,z⟩
 ·refine⟨its.toList,r,⟨o,n,I.kIn a o hk,hc,hd,by simpa using hs⟩,?_⟩;have e:=r.length;simp only[TU]at e;omega
theorem Inv.tuple(I:Inv X pq σ H s)(h:SqT X.K H a xs):∃ its:List V4,Vals xs its/\IsTup s.heap a its.toArray/\xs.length<=V9:=by
 rcases h with h | ⟨o,its,n,hk,hc,hs,hz,r⟩
 ·obtain⟨z,its,r,p⟩:=h.ok I.hok;exact⟨its,r,p,z⟩
 ·refine⟨its.toList,r,⟨o,I.kIn a o hk,hc,n,by simpa using hs⟩,?_⟩;have e:=r.length;simp only[TU]at e;omega
theorem Inv.list_inj(I:Inv X pq σ H s)(h:SqL X.K H a xs)(h':SqL X.K H a ys):xs=ys:=by
 obtain⟨its,r,⟨o,n,e,_,_,d⟩,_⟩:=I.list h;obtain⟨its',r',⟨o',n',e',_,_,d'⟩,_⟩:=I.list h';rw[e]at e';cases e';rw[d]at d';injection d' with d1 _;have:its=its':=by simpa using congrArg Ut d1
 subst this;exact r.inj r'
theorem Inv.tuple_inj(I:Inv X pq σ H s)(h:SqT X.K H a xs)(h':SqT X.K H a ys):xs=ys:=by
 obtain⟨its,r,⟨o,e,_,n,d⟩,_⟩:=I.tuple h;obtain⟨its',r',⟨o',e',_,n',d'⟩,_⟩:=I.tuple h';rw[e]at e';cases e';rw[d]at d';injection d' with d1 _;have:its=its':=by simpa using congrArg Ut d1
 subst this;exact r.inj r'
end
noncomputable abbrev Cx.wish(X:Cx)(E:V4->V6->Prop):Cx:={X with xe:=E}
noncomputable abbrev Cx.nox(X:Cx):Cx:=X.wish fun _ _=>False
theorem Cx.Ok.wish{X:Cx}(ok:X.Ok)(E:V4->V6->Prop):(X.wish E).Ok:=
 ⟨ok.mod,ok.kind,ok.glob,ok.blt,ok.above,ok.inj,ok.has,ok.cab,ok.hd,ok.frames,ok.stk,ok.exf,ok.bs,ok.bsz,ok.noex,ok.exfs,ok.funs,ok.frf⟩
theorem Cx.Ok.unwish{X:Cx}{E:V4->V6->Prop}(ok:(X.wish E).Ok):X.Ok:=
 ⟨ok.mod,ok.kind,ok.glob,ok.blt,ok.above,ok.inj,ok.has,ok.cab,ok.hd,ok.frames,ok.stk,ok.exf,ok.bs,ok.bsz,ok.noex,ok.exfs,ok.funs,ok.frf⟩
section
variable{X:Cx}{pq:List (V7×Obj)}{σ:St}{H:Hp}{s:V6}{E:V4->V6->Prop}
theorem Inv.wish(I:Inv X pq σ H s)(E:V4->V6->Prop):Inv (X.wish E) pq σ H s:=⟨I.ok.wish E,I.os,I.bare,I.base,I.loc,I.cell,I.free,I.freeC,I.pin,I.hok,I.len⟩
theorem Inv.unwish(I:Inv (X.wish E) pq σ H s):Inv X pq σ H s:=⟨I.ok.unwish,I.os,I.bare,I.base,I.loc,I.cell,I.free,I.freeC,I.pin,I.hok,I.len⟩
theorem SP.unwish{D:Ends}{f:Flow}{s':V6}(h:SP (X.wish E) pq D f s'):SP X pq D f s':=by
 cases f with
 | next=>obtain⟨σ',H',I,q⟩:=h;exact⟨σ',H',I.unwish,q⟩
 | brk=>obtain⟨σ',H',I,q⟩:=h;exact⟨σ',H',I.unwish,q⟩
 | cont=>obtain⟨σ',H',I,q⟩:=h;exact⟨σ',H',I.unwish,q⟩
 | ret u=>obtain⟨v,σ',H',I,r,q⟩:=h;exact⟨v,σ',H',I.unwish,r,q⟩
theorem PSs.nox{st:List Stmt}{t:TS}(h:PSs X.nox st t):PSs X st t:=fun pq s σ H D I hw=>
 VR (h pq s σ H D (I.wish _) hw) (fun _ _ q=>q.unwish) fun _ _ z=>False.elim z
end
section
variable{X:Cx}{st:Stmt}{rest:List Stmt}{t u:TS}{e:Expr}{te:TE}{pos:Pos}
noncomputable def P0:TS:=fun D σ H=>D.nx σ H
noncomputable def Qd(t u:TS):TS:=fun D σ H=>t {D with nx:=u D} σ H
theorem Kt:PSs X [] P0:=fun _ _ σ H _ I h=>WK ⟨σ,H,I,h⟩
theorem Ib(h1:PS X st t)(h2:PSs X rest u):PSs X (st::rest) (Qd t u):=by
 intro pq s σ H D I h;refine wpAny_execs_cons (thn (h1 pq s σ H {D with nx:=u D} I h) fun f s1 q=>?_);cases f with
 | next=>
   obtain⟨σ',H',I',q⟩:=q;exact h2 pq s1 σ' H' D I' q
 | ret v=>exact q
 | brk=>exact q
 | cont=>exact q
theorem Inv.quiet{pq:List (V7×Obj)}{σ:St}{H:Hp}{s:V6}(I:Inv X pq σ H s):interactive X.env=false:=by simp[interactive,I.ok.kind]
noncomputable def P1(te:TE):TS:=fun D σ H=>te σ H fun _ H1=>D.nx σ H1
theorem Ku(he:PE X e te)(hs:VX e none pos.line X.env=pure false:=by rfl):PS X (.Expr e pos) (P1 te):=by
 intro pq s σ H D I h;exact wpAny_Expr_any (thn (he pq s σ H _ I h) fun v s1 ⟨x,H1,I1,r1,q1⟩=>⟨σ,H1,I1,q1⟩) I.quiet hs
noncomputable def Qf(te:TE):TS:=fun D σ H=>te σ H D.rt
theorem NG(he:PE X e te):PS X (.Return (some e) pos) (Qf te):=by
 intro pq s σ H D I h;exact wpAny_Return_some (thn (he pq s σ H _ I h) fun v s1 ⟨x,H1,I1,r1,q1⟩=>⟨x,σ,H1,I1,r1,q1⟩)
noncomputable def P2(c:TT)(t u:TS):TS:=fun D σ H=>c σ H fun b H1=>if b=true then t D σ H1 else u D σ H1
theorem P4{c:Expr}{a b:List Stmt}{tc:TT}(hc:PT X c tc)(ha:PSs X a t)(hb:PSs X b u):PS X (.If c a b pos) (P2 tc t u):=by
 intro pq s σ H D I h;refine wpAny_If (thn (hc pq s σ H _ I h) fun d s1 ⟨H1,I1,q1⟩=>?_);cases d with
 | true=>exact ha pq s1 σ H1 D I1 q1
 | false=>exact hb pq s1 σ H1 D I1 q1
end
noncomputable abbrev TG:=V->St->Hp->(St->Hp->Prop)->Prop
noncomputable abbrev TGs:=List V->St->Hp->(St->Hp->Prop)->Prop
noncomputable def PG(X:Cx)(target:Expr)(t:TG):Prop:=
 ∀(pq:List (V7×Obj)) (s:V6) (σ:St) (H:Hp) (v:V) (u:V4) (Q:St->Hp->Prop),Inv X pq σ H s->RelV v u->t v σ H Q->
  VA (VB X.prog X.w) X.A (assign target X.env u) (fun _ s'=>∃ σ' H',Inv X pq σ' H' s'/\Q σ' H') X.xe s
noncomputable def PGs(X:Cx)(ts:List Expr)(t:TGs):Prop:=
 ∀(pq:List (V7×Obj)) (s:V6) (σ:St) (H:Hp) (vs:List V) (us:List V4) (Q:St->Hp->Prop),Inv X pq σ H s->Vals vs us->t vs σ H Q->
  VA (VB X.prog X.w) X.A (Wc ((VV ts X.env).map (·.2)) us) (fun _ s'=>∃ σ' H',Inv X pq σ' H' s'/\Q σ' H') X.xe s
noncomputable abbrev NH:=V->V->V->Hp->(Hp->Prop)->Prop
noncomputable def P5(X:Cx)(t:NH):Prop:=
 ∀(pq:List (V7×Obj)) (s:V6) (σ:St) (H:Hp) (o i v:V) (ov iv u:V4) (Q:Hp->Prop),Inv X pq σ H s->RelV o ov->RelV i iv->RelV v u->t o i v H Q->
  VA (VB X.prog X.w) X.A (setItem ov iv u) (fun _ s'=>∃ H',Inv X pq σ H' s'/\Q H') X.xe s
section
variable{X:Cx}{pos:Pos}
noncomputable def E2(i:Nat):TG:=fun v σ H Q=>Q (σ.set i (some v)) H
theorem Kv{i:Nat}{x:Str}(hN:X.N.Nodup)(hi:X.N[i]?=some x)(hx:Loc X.env.scope x)(hf:X.fn x=true\/X.env.scope.names.lookup x=some .local:=by first | exact .inl rfl | exact .inr rfl | assumption):PG X (.Name x pos) (E2 i):=by
 intro pq s σ H v u Q I r h;exact Vy (BD I hN hi hx r (fun s' I'=>⟨_,H,I',h⟩) hf)
noncomputable def Qg:TGs:=fun vs σ H Q=>vs=[]/\Q σ H
noncomputable def P6(t:TG)(u:TGs):TGs:=fun vs σ H Q=>∃ v r,vs=v::r/\t v σ H fun σ' H'=>u r σ' H' Q
theorem Kw:PGs X [] Qg:=by
 intro pq s σ H vs us Q I r h;obtain⟨e,h⟩:=h;subst e;cases r;exact Wf ⟨σ,H,I,h⟩
theorem Ic{e:Expr}{es:List Expr}{t:TG}{u:TGs}(h1:PG X e t)(h2:PGs X es u)
 (hs:(VV (e::es) X.env).map (·.2)=assign e X.env::(VV es X.env).map (·.2):=by rfl):PGs X (e::es) (P6 t u):=by
 intro pq s σ H vs us Q I r h;obtain⟨v,vr,e1,h⟩:=h;subst e1;cases r with
 | cons r rr=>
   rw[hs];refine Vv (thn (h1 pq s σ H _ _ _ I r h) fun _ s1 ⟨σ1,H1,I1,q1⟩=>?_);exact h2 pq s1 σ1 H1 _ _ Q I1 rr q1
noncomputable def Qh(K:R8)(n:Nat)(t:TGs):TG:=fun v σ H Q=>∃ a xs,v = .ref a/\SqT K H a xs/\xs.length=n/\t xs σ H Q
theorem NI{es:List Expr}{k:Nat}{t:TGs}{n:Nat}(hc:X.calm=true)(h:PGs X es t)
 (hn:(VV es X.env).length=n:=by rfl) (hst:(VV es X.env).findIdx? (·.1)=none:=by rfl):PG X (.Tuple es k pos) (Qh X.K n t):=by
 intro pq s σ H v u Q I r hw;obtain⟨a,xs,e1,hq,hl,hw⟩:=hw;subst e1;cases r;obtain⟨its,rv,ht,hz⟩:=I.tuple hq;refine assign_Tuple_tuple (I.ok.hd hc) ht (by simp[hn,<-hl,rv.length]) hst fun h' hx=>?_;have I1:Inv X pq σ H {s with heap:=h'}:=I.kept (t':=s.toks) fun b o e=>hx b o (Ro (RN e)) e;exact h pq _ σ H xs _ Q I1 (by simpa using rv) hw
noncomputable def P7(to ti:TE)(t:NH):TG:=fun v σ H Q=>to σ H fun o H1=>ti σ H1 fun i H2=>t o i v H2 fun H3=>Q σ H3
theorem NJ{o i:Expr}{to ti:TE}{t:NH}(ho:PE X o to)(hi:PE X i ti)(hs:P5 X t)
 (ha:∀ v,assign (.Subscript o i pos) X.env v=(do
   let ov <- holding [v] (eval o X.env)
   let iv <- holding [v,ov] (eval i X.env)
   standAt pos
   holding [v,ov,iv] (setItem ov iv v)
   release [v,ov,iv] []):=by intro _;rfl):PG X (.Subscript o i pos) (P7 to ti t):=by
 intro pq s σ H v u Q I r h;rw[ha];refine V5 (Vb (thn (ho pq s σ H _ I h) fun ov s1 ⟨x,H1,I1,r1,q1⟩=>?_));refine V5 (Vb (thn (hi pq s1 σ H1 _ I1 q1) fun iv s2 ⟨y,H2,I2,r2,q2⟩=>?_));refine V5 (VW (V5 (Vb (thn (hs pq s2 σ H2 x y v ov iv u _ I2 r1 r2 r q2) fun _ s3 ⟨H3,I3,q3⟩=>?_))));exact wpAny_release ⟨σ,H3,I3,q3⟩
noncomputable def F7(te:TE)(g:TG):TS:=fun D σ H=>te σ H fun x H1=>g x σ H1 D.nx
theorem Id{tg e:Expr}{te:TE}{g:TG}(he:PE X e te)(hg:PG X tg g)(hs:Vh [tg] e pos.line X.env=pure false:=by rfl)(hw:Vc [tg] e X.env=pure none:=by rfl)
 (h1:(VV [tg] X.env).map (·.2)=[assign tg X.env]:=by rfl):PS X (.Assign [tg] e pos) (F7 te g):=by
 intro pq s σ H D I h;refine wpAny_Assign_stores (thn (he pq s σ H _ I h) fun v s1 ⟨x,H1,I1,r1,q1⟩=>?_) hs hw;rw[h1];exact thn (hg pq s1 σ H1 x v _ I1 r1 q1) fun _ s2 q=>q
theorem NK{i:Nat}{x:Str}{e:Expr}{te:TE}{pos':Pos}(hN:X.N.Nodup)(hi:X.N[i]?=some x)(hx:Loc X.env.scope x)(he:PE X e te)(hs:VX e (some (.Name x pos')) pos.line X.env=pure false:=by rfl)(hf:X.fn x=true\/X.env.scope.names.lookup x=some .local:=by first | exact .inl rfl | exact .inr rfl | assumption):
 PS X (.Assign [.Name x pos'] e pos) (F7 te (E2 i)):=by
 intro pq s σ H D I h;refine wpAny_Assign_Name (thn (he pq s σ H _ I h) fun v s1 ⟨y,H1,I1,r1,q1⟩=>?_) hs;exact BD I1 hN hi hx r1 (fun s2 I2=>⟨_,H1,I2,q1⟩) hf
noncomputable def P8(i j:Nat)(ta:TA):TS:=fun D σ H=>ta σ H fun vs H1=>∃ v w,vs=[v,w]/\D.nx ((σ.set i (some v)).set j (some w)) H1
theorem NL{i j:Nat}{x y:Str}{a b:Expr}{ta:TA}{px py pt:Pos}{kt k2 pt2}(hc:X.calm=true)(hN:X.N.Nodup)(hi:X.N[i]?=some x)(hj:X.N[j]?=some y)(hij:i≠j)
 (hx:X.env.scope.names.lookup x=some .local) (hy:X.env.scope.names.lookup y=some .local) (ha:PA X [a,b] ta)
 (hw:Vc [.Tuple [.Name x px,.Name y py] kt pt] (.Tuple [a,b] k2 pt2) X.env=pure (some [x,y]))
 (hs:Vh [.Tuple [.Name x px,.Name y py] kt pt] (.Tuple [a,b] k2 pt2) pos.line X.env=pure false:=by rfl):
 PS X (.Assign [.Tuple [.Name x px,.Name y py] kt pt] (.Tuple [a,b] k2 pt2) pos) (P8 i j ta):=by
 intro pq s σ H D I h;rw[exec_Assign_arm];refine V5 (VW ?_);rw[hs];refine V5 (V8 ?_);rw[iG (by decide)];refine V5 (Tuple_ (thn (ha _ pq s σ H _ I h) fun us s1 ⟨vs,H1,I1,r1,q1⟩=>?_));obtain⟨v,w,e1,q1⟩:=q1;subst e1
 obtain⟨u1,u2,rfl,rv,rw'⟩:∃ u1 u2,us=[u1,u2]/\RelV v u1/\RelV w u2:=by
  cases r1 with
  | cons p q=>
    cases q with
    | cons p' q'=>
      cases q';exact⟨_,_,rfl,p,p'⟩
 refine VP ?_ (by show 2<=V9;decide);have I2:Inv X pq σ H1 {s1 with heap:=s1.heap.push {cls := .type "tuple",data := .seq [u1,u2].toArray}}:=I1.kept (t':=s1.toks) fun b o e=>RJ _ e;rw[hw];refine V5 (V8 ?_);show VA (VB X.prog X.w) X.A (do rule "assign.swapped-stores";let items <- unpackItems (.ref s1.heap.objs.size) 2 none;Wc [fun v=>Ws X.env y v,fun v=>Ws X.env x v] items.reverse;pure Flow.next) _ _ _;refine V5 (Vk (V5 (unpackItems_tuple (items:=#[u1,u2]) (I.ok.hd hc) (IsTup.new s1.heap _) fun h' hx'=>?_)));have I3:=I2.kept (h':=h') (t':=s1.toks) fun b o e=>hx' b o (Ro (RN e)) e;show VA _ _ (Wc [fun v=>Ws X.env y v,fun v=>Ws X.env x v] [u2,u1] >>= fun _=>pure Flow.next) _ _ _;refine V5 (Vv (Wt (BD I3 hN hj (.inl hy) rw' (fun s2 I4=>?_) (.inr hy))));refine Vv (Wt (BD I4 hN hi (.inl hx) rv (fun s3 I5=>Wf (V8 ?_)) (.inr hx)));rw[List.set_comm _ _ (Ne.symm hij)]at I5;exact⟨_,H1,I5,q1⟩
noncomputable def Ie(c:TT)(tb:TS):TS:=fun D σ H=>∃ W:Nat->St->Hp->Prop,(∃ m,W m σ H)/\∀ m σ H,W m σ H->
 c σ H fun b H1=>if b=true then ∃ N:St->Hp->Prop,(∀ σ' H',N σ' H'->∃ m',m'<m/\W m' σ' H')/\tb {D with nx:=N,ct:=N,bk:=D.nx} σ H1 else D.nx σ H1
theorem Ig{c:Expr}{body:List Stmt}{tc:TT}{tb:TS}(hp:Wl (VB X.prog X.w) X.A X.env X.xe)(hc:PT X c tc)(hb:PSs X body tb):PS X (.While c body [] pos) (Ie tc tb):=by
 intro pq s σ H D I h;obtain⟨W,⟨m0,w0⟩,turn⟩:=h;refine wpAny_While (codeAny_whileLoop (fun n s'=>∃ σ' H',Inv X pq σ' H' s'/\W n σ' H') ?_ m0 ⟨σ,H,I,w0⟩);rintro n s1 ⟨σ1,H1,I1,w1⟩;refine VZ hp (thn (hc pq s1 σ1 H1 _ I1 (turn n σ1 H1 w1)) fun b s2 ⟨H2,I2,q2⟩=>?_);cases b with
 | true=>
   obtain⟨N,hN,q2⟩:=q2;rw[iP rfl];refine VZ hp (thn (hb pq s2 σ1 H2 _ I2 q2) fun f s3 q3=>?_);cases f with
   | next=>
     obtain⟨σ3,H3,I3,n3⟩:=q3;obtain⟨m',hm,w3⟩:=hN σ3 H3 n3;exact⟨m',hm,σ3,H3,I3,w3⟩
   | cont=>
     obtain⟨σ3,H3,I3,n3⟩:=q3;obtain⟨m',hm,w3⟩:=hN σ3 H3 n3;exact⟨m',hm,σ3,H3,I3,w3⟩
   | brk=>exact q3
   | ret v=>exact q3
 | false=>
   rw[iG RH];exact WK ⟨σ1,H2,I2,q2⟩
end
structure It where
 go:Nat->Hp->Prop
 yld:Nat->Hp->V->Hp->Prop
 stop:Nat->Hp->Prop
noncomputable def FpOk(X:Cx)(pq:List (V7×Obj))(H:Hp)(b:V7):Prop:=
 H b=none/\b≠X.env.locals/\b∉X.fs/\(b∈X.ex\/X.s₀.heap.objs.size<=b)/\(∀ x c,X.env.cells.lookup x=some c->c≠b)/\∀ p∈X.pn++pq,p.1≠b
theorem Inv.fpOk{X:Cx}{pq:List (V7×Obj)}{σ:St}{H H':Hp}{s:V6}{b:V7}(I:Inv X pq σ H s)(hb:s.heap.objs.size<=b)(hn:H' b=none):FpOk X pq H' b:=by
 refine⟨hn,Uu (Ra I.lt hb),I.nofs hb,.inr (Rn I.sz hb),fun x c e z=>?_,fun p hp z=>?_⟩
 ·obtain⟨v,q⟩:=I.cell x c e;exact absurd (Ra q.lt (by rw[z];exact hb)) (SL _)
 ·exact absurd (Ra (RN (I.pin p hp).1) (by rw[z];exact hb)) (SL _)
structure Turn(P:VC)(w:VG)(K:R8)(tg:Expr)(J:It)(fp:List V7)(it:V7)(tn:Nat->Heap->Prop):Prop where
 mem:it∈fp
 obj:∀ i h,tn i h->∀ b∈fp,∃ o,h.get? b=some o/\∀ v,o.data ≠ .cell v
 keep:∀ i h h',tn i h->(∀ b∈fp,∀ o,h.get? b=some o->h'.get? b=some o)->tn i h'
 item:∀(X:Cx),X.prog=P->X.w=w->X.K=K->X.calm=true->∀(i:Nat) (pq:List (V7×Obj)) (s:V6) (σ:St) (H:Hp) (E:V4->V6->Prop),Inv X pq σ H s->(∀ b∈fp,FpOk X pq H b)->tn i s.heap->J.go i H->
  VA (VB P w) X.A (pyNext (.ref it)) (fun r s1=>∃ u,r=some u/\
   VA (VB P w) X.A (Vj tg (.ref it) u) (fun _ s2=>∃ x H',Inv X pq σ H' s2/\RelV x u/\J.yld i H x H'/\tn (i+1) s2.heap/\∀ b∈fp,H' b=none) E s1) E s
 done:∀(X:Cx),X.prog=P->X.w=w->X.K=K->X.calm=true->∀(i:Nat) (pq:List (V7×Obj)) (s:V6) (σ:St) (H:Hp) (E:V4->V6->Prop),Inv X pq σ H s->(∀ b∈fp,FpOk X pq H b)->tn i s.heap->J.stop i H->
   VA (VB P w) X.A (pyNext (.ref it)) (fun r s1=>r=none/\Inv X pq σ H s1) E s
 self:∀(A:VM) (i:Nat) (s:V6) (Q:V4->V6->Prop) (E:V4->V6->Prop),tn i s.heap->Q (.ref it) s->VA (VB P w) A (pyIter (.ref it)) Q E s
noncomputable abbrev TI:=St->Hp->(It->Hp->Prop)->Prop
noncomputable def PIE(X:Cx)(pq:List (V7×Obj))(σ:St)(tg:Expr)(R:It->Hp->Prop)(itv:V4)(s2:V6):Prop:=
 ∃(it:V7) (fp:List V7) (tn:Nat->Heap->Prop) (J:It) (H':Hp),itv = .ref it/\Inv X pq σ H' s2/\Turn X.prog X.w X.K tg J fp it tn/\tn 0 s2.heap/\(∀ b∈fp,FpOk X pq H' b)/\R J H'
noncomputable def PI(X:Cx)(tg iter:Expr)(wi:TI):Prop:=
 ∀(pq:List (V7×Obj)) (s:V6) (σ:St) (H:Hp) (R:It->Hp->Prop),Inv X pq σ H s->wi σ H R->
  VA (VB X.prog X.w) X.A (eval iter X.env) (fun v s1=>VA (VB X.prog X.w) X.A (pyIter v) (PIE X pq σ tg R) X.xe s1) X.xe s
theorem Fw{M:Model}{A:VM}{E:V4->V6->Prop}{s:V6}{tg:Expr}{it:V7}{u:V4}{o:Obj}{n:String}{vs:Array V4}{Q:Unit->V6->Prop}(ho:s.heap.get? it=some o)(hc:o.cls = .type n)(hd:o.data = .fields vs)
 (hn:["enumerate","zip","dict_itemiterator","dict_reverseitemiterator","odict_iterator","itertools.zip_longest","itertools.pairwise"].contains n=false) (hQ:Q () s):VA M A (Vj tg (.ref it) u) Q E s:=by
 unfold Vj
 cases tg<;>first
  | exact V8 hQ
  | (cases u<;>first
      | exact V8 hQ
      | (refine V5 (wpAny_load ho ?_)
         rw[hc,hd];show VA M A (if (["enumerate","zip","dict_itemiterator","dict_reverseitemiterator","odict_iterator","itertools.zip_longest","itertools.pairwise"].contains n&&vs[0]? == some (rawInt _))=true then _ else _) Q E s;rw[iG (by intro h;rw[hn,Bool.false_and]at h;cases h)];exact V8 hQ))
noncomputable def Itl(K:R8)(a:V7):It:=
 ⟨fun i H=>∃ xs x,SqL K H a xs/\xs[i]?=some x,fun i H x H'=>H'=H/\∀ xs,SqL K H a xs->xs[i]?=some x,fun i H=>∃ xs,SqL K H a xs/\xs.length<=i⟩
noncomputable def Itt(K:R8)(a:V7):It:=
 ⟨fun i H=>∃ xs x,SqT K H a xs/\xs[i]?=some x,fun i H x H'=>H'=H/\∀ xs,SqT K H a xs->xs[i]?=some x,fun i H=>∃ xs,SqT K H a xs/\xs.length<=i⟩
noncomputable def Itr(lo:Int)(n:Nat):It:=⟨fun i _=>i<n,fun i H x H'=>H'=H/\x = .int (lo+i),fun i _=>n<=i⟩
theorem HJ{P:VC}{w:VG}{K:R8}{tg:Expr}(a it:V7):Turn P w K tg (Itl K a) [it] it (fun i h=>h.IsListIter it a i) where
 mem:=by simp
 obj:=fun i h st b hb=>by
  have e:b=it:=by simpa using hb
  subst e;obtain⟨o,e,c,d⟩:=st;exact⟨o,e,fun v z=>by rw[d]at z;cases z⟩
 keep:=fun i h h' st k=>st.at fun o e=>k it (by simp) o e
 item:=by
  intro X hP hw hK hc i pq s σ H E I hf st hg;subst hP hw hK;obtain⟨xs,x,hq,hx⟩:=hg;obtain⟨its,rv,p,hz⟩:=I.list hq;obtain⟨u,hu,ru⟩:=rv.get hx;obtain⟨f0,f1,f2,f3,f4,f5⟩:=hf it (by simp);refine wpAny_pyNext_list_item st p.isList (x:=u) (by simpa using hu) fun h' st' sb=>?_;have I1:Inv X pq σ H {s with heap:=h'}:=I.turned (t':=s.toks) (fun b o hb e=>(sb.2 b hb).trans e) f0 f1 f3 f4 f5;obtain⟨o,e,c,d⟩:=id st';exact⟨u,rfl,Fw (s:={s with heap:=h'}) e c d (by decide) ⟨x,H,I1,ru,⟨rfl,fun ys hy=>by rw[I.list_inj hy hq];exact hx⟩,st',fun b hb=>(hf b hb).1⟩⟩
 done:=by
   intro X hP hw hK hc i pq s σ H E I hf st hg;subst hP hw hK;obtain⟨xs,hq,hx⟩:=hg;obtain⟨its,rv,p,hz⟩:=I.list hq;obtain⟨f0,f1,f2,f3,f4,f5⟩:=hf it (by simp);have hl:=rv.length;exact wpAny_pyNext_list_end (I.ok.hd hc) st p.isList (by simp;omega) fun h' eb=>⟨rfl,I.turned (t':=s.toks) (fun b o hb e=>eb b o hb e) f0 f1 f3 f4 f5⟩
 self:=fun _ _ _ _ _ st h=>wpAny_pyIter_listiter st h
theorem F8{P:VC}{w:VG}{K:R8}{tg:Expr}(a it:V7):Turn P w K tg (Itt K a) [it] it (fun i h=>h.IsTupleIter it a i) where
 mem:=by simp
 obj:=fun i h st b hb=>by
  have e:b=it:=by simpa using hb
  subst e;obtain⟨o,e,c,d⟩:=st;exact⟨o,e,fun v z=>by rw[d]at z;cases z⟩
 keep:=fun i h h' st k=>st.at fun o e=>k it (by simp) o e
 item:=by
  intro X hP hw hK hc i pq s σ H E I hf st hg;subst hP hw hK;obtain⟨xs,x,hq,hx⟩:=hg;obtain⟨its,rv,p,hz⟩:=I.tuple hq;obtain⟨u,hu,ru⟩:=rv.get hx;obtain⟨f0,f1,f2,f3,f4,f5⟩:=hf it (by simp);refine wpAny_pyNext_tuple_item st (show s.heap.IsTuple a its.toArray from p) (x:=u) (by simpa using hu) fun h' st' sb=>?_;have I1:Inv X pq σ H {s with heap:=h'}:=I.turned (t':=s.toks) (fun b o hb e=>(sb.2 b hb).trans e) f0 f1 f3 f4 f5;obtain⟨o,e,c,d⟩:=id st';exact⟨u,rfl,Fw (s:={s with heap:=h'}) e c d (by decide) ⟨x,H,I1,ru,⟨rfl,fun ys hy=>by rw[I.tuple_inj hy hq];exact hx⟩,st',fun b hb=>(hf b hb).1⟩⟩
 done:=by
   intro X hP hw hK hc i pq s σ H E I hf st hg;subst hP hw hK;obtain⟨xs,hq,hx⟩:=hg;obtain⟨its,rv,p,hz⟩:=I.tuple hq;obtain⟨f0,f1,f2,f3,f4,f5⟩:=hf it (by simp);have hl:=rv.length;exact wpAny_pyNext_tuple_end (I.ok.hd hc) st (show s.heap.IsTuple a its.toArray from p) (by simp;omega) fun h' eb=>⟨rfl,I.turned (t':=s.toks) (fun b o hb e=>eb b o hb e) f0 f1 f3 f4 f5⟩
 self:=fun _ _ _ _ _ st h=>wpAny_pyIter_tupleiter st h
theorem F9{P:VC}{w:VG}{K:R8}{tg:Expr}(it:V7)(lo:Int)(n:Nat):Turn P w K tg (Itr lo n) [it] it (fun i h=>IsRangeIter h it (lo+(i:Nat) * 1) ((n:Int) - (i:Nat)) 1) where
 mem:=by simp
 obj:=fun i h st b hb=>by
  have e:b=it:=by simpa using hb
  subst e
  exact⟨_,st,fun v z=>by
   have z':Data.fields _=Data.cell v:=z;cases z'⟩
 keep:=fun i h h' st k=>k it (by simp) _ st
 item:=by
  intro X hP hw hK hc i pq s σ H E I hf st hg;subst hP hw hK;obtain⟨f0,f1,f2,f3,f4,f5⟩:=hf it (by simp);have W:=Walks.range (prog:=X.prog) (w:=X.w) (I.ok.hd hc) it lo 1 n;refine W.item i s _ _ hg st fun v h' tk hv st' kk=>?_;obtain⟨t,rfl⟩:=hv;have I1:Inv X pq σ H {s with heap:=h',toks:=tk}:=I.turned (fun b o hb e=>kk b o (by simpa using hb) e) f0 f1 f3 f4 f5;refine⟨_,rfl,Fw (s:={s with heap:=h',toks:=tk}) (n:="range_iterator") st' rfl rfl (by decide) ⟨.int (lo+i),H,I1,⟨t,?_⟩,⟨rfl,rfl⟩,st',fun b hb=>(hf b hb).1⟩⟩;rw[Int.mul_one]
 done:=by
   intro X hP hw hK hc i pq s σ H E I hf st hg;subst hP hw hK;obtain⟨f0,f1,f2,f3,f4,f5⟩:=hf it (by simp);exact wpAny_pyNext_range_end (I.ok.hd hc) st (by have:n<=i:=hg;omega) fun h' eb=>⟨rfl,I.turned (t':=s.toks) (fun b o hb e=>eb b o hb e) f0 f1 f3 f4 f5⟩
 self:=fun _ _ _ _ _ st h=>wpAny_pyIter_rangeiter st h
section
variable{X:Cx}{tg:Expr}
theorem E3{pq:List (V7×Obj)}{σ:St}{H:Hp}{s:V6}{R:It->Hp->Prop}{E:V4->V6->Prop}{lo hi:Int}{t u v:Tok}{tk:Nat}(I:Inv X pq σ H s)(h1:-(2 ^ 62)<=lo)(h2:lo<2 ^ 62)(h3:-(2 ^ 62)<=hi)(h4:hi<2 ^ 62)
 (q:R (Itr lo (hi - lo).toNat) H):VA (VB X.prog X.w) X.A (pyIter (.ref s.heap.objs.size)) (PIE X pq σ tg R) E {s with heap:=s.heap.push {cls := .type "range",data := .fields #[.int lo t,.int hi u,.int 1 v]},toks:=tk}:=by
 refine wpAny_pyIter_range (IsRange.new ..) (small_one h1 h2 h3 h4) ?_;have I1:Inv X pq σ H {s with heap:=s.heap.push {cls := .type "range",data := .fields #[.int lo t,.int hi u,.int 1 v]},toks:=tk}:=I.kept fun b o e=>RJ _ e
 refine⟨(s.heap.push {cls := .type "range",data := .fields #[.int lo t,.int hi u,.int 1 v]}).objs.size,[(s.heap.push {cls := .type "range",data := .fields #[.int lo t,.int hi u,.int 1 v]}).objs.size],_,_,H,rfl,
  I1.kept (t':=tk) fun b o e=>RJ _ e,F9 _ lo (hi - lo).toNat,?_,fun b hb=>?_,q⟩
 ·have e1:lo+((0:Nat):Int) * 1=lo:=by simp
  have e2:(((hi - lo).toNat:Nat):Int) - ((0:Nat):Int)=Builtin.Range.rangeSize lo hi 1:=by rw[rangeSize_one];split<;>omega
  show IsRangeIter _ _ (lo+((0:Nat):Int) * 1) ((((hi - lo).toNat:Nat):Int) - ((0:Nat):Int)) 1;rw[e1,e2];exact RY _ rfl
 ·have e:b=(s.heap.push {cls := .type "range",data := .fields #[.int lo t,.int hi u,.int 1 v]}).objs.size:=by simpa using hb
  subst e;exact I1.fpOk (RE _) (I1.hok.fresh (RE _))
noncomputable def P9(ta:TA):TI:=fun σ H R=>ta σ H fun vs H1=>∃ j:Int,vs=[.int j] /\ -(2 ^ 62)<=j/\j<2 ^ 62/\R (Itr 0 j.toNat) H1
noncomputable def PB(ta:TA):TI:=fun σ H R=>ta σ H fun vs H1=>∃ i j:Int,vs=[.int i,.int j]/\(-(2 ^ 62)<=i/\i<2 ^ 62 /\ -(2 ^ 62)<=j/\j<2 ^ 62)/\R (Itr i (j - i).toNat) H1
theorem HK{a:Expr}{ta:TA}{p pos:Pos}(hg:Gl X "range")(hm:X.mg "range"=none)(ha:PA X [a] ta)(hs:VF [a] X.env=[(false,eval a X.env)]:=by rfl):PI X tg (.Call (.Name "range" p) [a] [] pos) (P9 ta):=by
 intro pq s σ H R I h;refine Call_ (AC I hg hm boot_range (PyProof.Rows.callWith_type1 (thn (ha pos pq s σ H _ I h) fun us s1 ⟨vs,H1,I1,r1,q1⟩=>?_) hs rfl));obtain⟨j,e,q1,q2,q⟩:=q1;subst e;cases r1 with
 | cons r rr=>
   cases rr;obtain⟨t,rfl⟩:=r;exact call_range_1 (E3 I1 (by omega) (by omega) q1 q2 (by simpa using q))
theorem HL{a b:Expr}{ta:TA}{p pos:Pos}(hg:Gl X "range")(hm:X.mg "range"=none)(ha:PA X [a,b] ta)(hs:VF [a,b] X.env=[(false,eval a X.env),(false,eval b X.env)]:=by rfl)(hs2:VF [b] X.env=[(false,eval b X.env)]:=by rfl):
 PI X tg (.Call (.Name "range" p) [a,b] [] pos) (PB ta):=by
 intro pq s σ H R I h;refine Call_ (AC I hg hm boot_range (PyProof.Rows.callWith_type1 (thn (ha pos pq s σ H _ I h) fun us s1 ⟨vs,H1,I1,r1,q1⟩=>?_) (by rw[hs,hs2]) (by rw[hs2];rfl)));obtain⟨i,j,e,⟨q1,q2,q3,q4⟩,q⟩:=q1;subst e;cases r1 with
 | cons r rr=>
   cases rr with
   | cons r' rr=>
     cases rr;obtain⟨t,rfl⟩:=r;obtain⟨t',rfl⟩:=r';exact call_range_2 (E3 I1 q1 q2 q3 q4 q)
noncomputable def PD(wi:TI)(g:TG)(tb:TS):TS:=fun D σ H=>wi σ H fun J H1=>∃ W:Nat->Nat->St->Hp->Prop,(∃ m,W 0 m σ H1)/\∀ i m σ H,W i m σ H->
 (J.stop i H/\D.nx σ H)\/(J.go i H/\∃ N:St->Hp->Prop,(∀ σ' H',N σ' H'->∃ m',m'<m/\W (i+1) m' σ' H')/\∀ x H',J.yld i H x H'->g x σ H' fun σ2 H2=>tb {D with nx:=N,ct:=N,bk:=D.nx} σ2 H2)
noncomputable def Ao(fp:List V7)(h:Heap):List (V7×Obj):=fp.filterMap fun b=>(h.get? b).map fun o=>(b,o)
theorem v0{fp:List V7}{h:Heap}{b:V7}{o:Obj}(hb:b∈fp)(e:h.get? b=some o):(b,o)∈Ao fp h:=UQ.mpr ⟨b,hb,by rw[e];rfl⟩
theorem HM{fp:List V7}{h:Heap}{p:V7×Obj}(hp:p∈Ao fp h):p.1∈fp/\h.get? p.1=some p.2:=by
 obtain⟨b,hb,e⟩:=UQ.mp hp;cases q:h.get? b with
 | none=>rw[q]at e;cases e
 | some o=>
   rw[q]at e;have e':(b,o)=p:=oj e;subst e';exact⟨hb,q⟩
theorem Inv.pinned{pq:List (V7×Obj)}{σ:St}{H:Hp}{s:V6}{fp:List V7}(I:Inv X pq σ H s)(hf:∀ b∈fp,FpOk X pq H b)(ho:∀ b∈fp,∃ o,s.heap.get? b=some o/\∀ v,o.data ≠ .cell v):Inv X (pq++Ao fp s.heap) σ H s:=
 I.pins_of fun p hp=>(RO.mp hp).elim (fun z=>I.pin p (Re _ z)) fun z=>by
  obtain⟨hb,e⟩:=HM z;obtain⟨f0,f1,f2,_⟩:=hf p.1 hb;obtain⟨o,e',d⟩:=ho p.1 hb;rw[e]at e';cases e';exact⟨e,f0,f1,f2,d⟩
theorem Inv.unpinned{pq pl:List (V7×Obj)}{σ:St}{H:Hp}{s:V6}(I:Inv X (pq++pl) σ H s):Inv X pq σ H s:=I.pins_of fun p hp=>I.pin p (Re _ (Tp _ hp))
theorem NM{iter:Expr}{body:List Stmt}{wi:TI}{g:TG}{tb:TS}{pos:Pos}(hp:Wl (VB X.prog X.w) X.A X.env X.xe)(hc:X.calm=true)(hi:PI X tg iter wi)(hg:PG X tg g)(hb:PSs X body tb)
 (hs:∀ x,VO iter X.env x=pure x:=by intro _;rfl):PS X (.For tg iter body [] pos) (PD wi g tb):=by
 intro pq s σ H D I h;refine wpAny_For (thn (hi pq s σ H _ I h) fun v s1 h1=>thn h1 fun itv s2 h2=>?_) hs;obtain⟨it,fp,tn,J,H2,e,I2,T,st2,f2,W,⟨m0,w0⟩,turn⟩:=h2;subst e;have stat:∀{H':Hp},(∀ b∈fp,H' b=none)->∀ b∈fp,FpOk X pq H' b:=fun hn b hb=>⟨hn b hb,(f2 b hb).2⟩
 refine codeAny_forLoop_any (fun n s'=>∃ i σ' H',Inv X pq σ' H' s'/\tn i s'.heap/\(∀ b∈fp,H' b=none)/\W i n σ' H') ?_ m0 ⟨0,σ,H2,I2,st2,fun b hb=>(f2 b hb).1,w0⟩;rintro n s3 ⟨i,σ3,H3,I3,st3,fr3,w3⟩;rcases turn i n σ3 H3 w3 with⟨stop,qn⟩ | ⟨go,N,hN,step⟩
 ·refine VZ hp (thn (T.done X rfl rfl rfl hc i pq s3 σ3 H3 X.xe I3 (stat fr3) st3 stop) fun r s4 ⟨hr,I4⟩=>?_);subst hr;exact WK ⟨σ3,H3,I4,qn⟩
 ·refine VZ hp (thn (T.item X rfl rfl rfl hc i pq s3 σ3 H3 X.xe I3 (stat fr3) st3 go) fun r s4 ⟨u,hr,h4⟩=>?_);subst hr;refine VZ hp (thn h4 fun _ s5 ⟨x,H5,I5,r5,y5,st5,fr5⟩=>?_);have I5':=I5.pinned (stat fr5) (T.obj _ _ st5);refine VZ hp (thn (hg _ s5 σ3 H5 x u _ I5' r5 (step x H5 y5)) fun _ s6 ⟨σ6,H6,I6,q6⟩=>?_);refine VZ hp (thn (hb _ s6 σ6 H6 _ I6 q6) fun f s7 q7=>?_)
  have again:∀{σ7:St} {H7:Hp},Inv X (pq++Ao fp s5.heap) σ7 H7 s7->N σ7 H7->∃ m,m<n/\∃ i σ' H',Inv X pq σ' H' s7/\tn i s7.heap/\(∀ b∈fp,H' b=none)/\W i m σ' H':=fun{σ7 H7} I7 n7=>by
   obtain⟨m',hm,w7⟩:=hN σ7 H7 n7;refine⟨m',hm,i+1,σ7,H7,I7.unpinned,T.keep _ _ _ st5 fun b hb o e=>(I7.pin (b,o) (Re _ (Re _ (v0 hb e)))).1,fun b hb=>?_,w7⟩;obtain⟨o,e,d⟩:=T.obj _ _ st5 b hb;exact(I7.pin (b,o) (Re _ (Re _ (v0 hb e)))).2.1
  cases f with
  | next=>obtain⟨σ7,H7,I7,n7⟩:=q7;exact again I7 n7
  | cont=>obtain⟨σ7,H7,I7,n7⟩:=q7;exact again I7 n7
  | brk=>obtain⟨σ7,H7,I7,q7⟩:=q7;exact⟨σ7,H7,I7.unpinned,q7⟩
  | ret v=>obtain⟨x7,σ7,H7,I7,r7,q7⟩:=q7;exact⟨x7,σ7,H7,I7.unpinned,r7,q7⟩
end
noncomputable abbrev R2:=V->V->Hp->VK->Prop
noncomputable def OpR(X:Cx)(f:V4->V4->Sem V4)(r:R2):Prop:=
 ∀(pq:List (V7×Obj)) (s:V6) (σ:St) (H:Hp) (x y:V) (v u:V4) (Q:VK),Inv X pq σ H s->RelV x v->RelV y u->r x y H Q->
  VA (VB X.prog X.w) X.A (f v u) (EP X pq σ Q) X.xe s
noncomputable def UnR(X:Cx)(f:V4->Sem V4)(r:V->Hp->VK->Prop):Prop:=
 ∀(pq:List (V7×Obj)) (s:V6) (σ:St) (H:Hp) (x:V) (v:V4) (Q:VK),Inv X pq σ H s->RelV x v->r x H Q->
  VA (VB X.prog X.w) X.A (f v) (EP X pq σ Q) X.xe s
noncomputable def CallR(X:Cx)(f:V4)(r:List V->Hp->VK->Prop):Prop:=
 ∀(pq:List (V7×Obj)) (s:V6) (σ:St) (H:Hp) (xs:List V) (us:List V4) (Q:VK),Inv X pq σ H s->Vals xs us->r xs H Q->
  VA (VB X.prog X.w) X.A (call f us) (EP X pq σ Q) X.xe s
noncomputable def Qi(X:Cx)(r:V->Hp->(Bool->Hp->Prop)->Prop):Prop:=
 ∀(pq:List (V7×Obj)) (s:V6) (σ:St) (H:Hp) (x:V) (v:V4) (Q:Bool->Hp->Prop),Inv X pq σ H s->RelV x v->r x H Q->
  VA (VB X.prog X.w) X.A (truthy v) (TP X pq σ Q) X.xe s
noncomputable def tOp(r:R2)(ta tb:TE):TE:=fun σ H Q=>ta σ H fun x H1=>tb σ H1 fun y H2=>r x y H2 Q
noncomputable def tUn(r:V->Hp->VK->Prop)(ta:TE):TE:=fun σ H Q=>ta σ H fun x H1=>r x H1 Q
noncomputable def rI(C:Int->Int->Prop)(g:Int->Int->V):R2:=fun x y H Q=>∃ i j,x = .int i/\y = .int j/\C i j/\Q (g i j) H
noncomputable def rI0(g:Int->Int->V):R2:=fun x y H Q=>∃ i j,x = .int i/\y = .int j/\Q (g i j) H
noncomputable def rU(g:Int->V):V->Hp->VK->Prop:=fun x H Q=>∃ i,x = .int i/\Q (g i) H
section
variable{X:Cx}{a b c:Expr}{ta tb tc:TE}{pos:Pos}
theorem NN(ha:PE X a ta)(hb:PE X b tb){pq:List (V7×Obj)}{s:V6}{σ:St}{H:Hp}{R:V->V->Hp->Prop}(I:Inv X pq σ H s)
 (h:ta σ H fun x H1=>tb σ H1 fun y H2=>R x y H2) {Q:V4->V6->Prop} {f:V4->V4->Sem V4}
 (hf:∀ v u s2 x y H2,Inv X pq σ H2 s2->RelV x v->RelV y u->R x y H2->VA (VB X.prog X.w) X.A (f v u) Q X.xe s2):
 VA (VB X.prog X.w) X.A (eval a X.env) (fun v s₁=>VA (VB X.prog X.w) X.A (eval b X.env) (fun u s₂=>VA (VB X.prog X.w) X.A (f v u) Q X.xe s₂) X.xe s₁) X.xe s:=by
 refine thn (ha pq s σ H _ I h) fun v s1 ⟨x,H1,I1,r1,q1⟩=>?_;refine thn (hb pq s1 σ H1 _ I1 q1) fun u s2 ⟨y,H2,I2,r2,q2⟩=>?_;exact hf v u s2 x y H2 I2 r1 r2 q2
theorem PF{op:W8}{r:R2}(ho:OpR X (Vi op) r)(ha:PE X a ta)(hb:PE X b tb):PE X (.BinOp a op b pos) (tOp r ta tb):=by
 intro pq s σ H Q I h;exact wpAny_BinOp (NN ha hb I h fun v u s2 x y H2 I2 rx ry q=>ho pq s2 σ H2 x y v u Q I2 rx ry q)
theorem PH{op:UnaryOp}{r:V->Hp->VK->Prop}(ho:UnR X (unaryOp op) r)(ha:PE X a ta):PE X (.UnaryOp op a pos) (tUn r ta):=by
 intro pq s σ H Q I h;exact UnaryOp_ (thn (ha pq s σ H _ I h) fun v s1 ⟨x,H1,I1,r1,q1⟩=>ho pq s1 σ H1 x v Q I1 r1 q1)
theorem opI{f:V4->V4->Sem V4}{C:Int->Int->Prop}{g:Int->Int->Int}
 (rule:∀(i j:Int) (t u:Tok) (s:V6) (Q:V4->V6->Prop) (E:V4->V6->Prop),C i j->Q (.int (g i j) s.toks) {s with toks:=s.toks+1}->VA (VB X.prog X.w) X.A (f (.int i t) (.int j u)) Q E s):
 OpR X f (rI C fun i j => .int (g i j)):=by
 intro pq s σ H x y v u Q I rx ry h;obtain⟨i,j,rfl,rfl,hc,q⟩:=h;obtain⟨t,rfl⟩:=rx;obtain⟨t',rfl⟩:=ry;exact rule i j t t' s _ _ hc ⟨.int (g i j),H,I.tok _,⟨_,rfl⟩,q⟩
theorem PJ{f:V4->V4->Sem V4}{g:Int->Int->Int}
 (rule:∀(i j:Int) (t u:Tok) (s:V6) (Q:V4->V6->Prop) (E:V4->V6->Prop),Q (.int (g i j) s.toks) {s with toks:=s.toks+1}->VA (VB X.prog X.w) X.A (f (.int i t) (.int j u)) Q E s):
 OpR X f (rI0 fun i j => .int (g i j)):=by
 intro pq s σ H x y v u Q I rx ry h;obtain⟨i,j,rfl,rfl,q⟩:=h;obtain⟨t,rfl⟩:=rx;obtain⟨t',rfl⟩:=ry;exact rule i j t t' s _ _ ⟨.int (g i j),H,I.tok _,⟨_,rfl⟩,q⟩
theorem Kx{f:V4->V4->Sem V4}{g:Int->Int->Bool}
 (rule:∀(i j:Int) (t u:Tok) (s:V6) (Q:V4->V6->Prop) (E:V4->V6->Prop),Q (.bool (g i j)) s->VA (VB X.prog X.w) X.A (f (.int i t) (.int j u)) Q E s):
 OpR X f (rI0 fun i j => .bl (g i j)):=by
 intro pq s σ H x y v u Q I rx ry h;obtain⟨i,j,rfl,rfl,q⟩:=h;obtain⟨t,rfl⟩:=rx;obtain⟨t',rfl⟩:=ry;exact rule i j t t' s _ _ ⟨.bl (g i j),H,I,rfl,q⟩
noncomputable def PL(i j:Int):Prop:=0<j/\j<1073741824
noncomputable def PM(i j:Int):Prop:=0<=j/\j<=1000000/\i.natAbs<2 ^ 64
noncomputable def CMul(i j:Int):Prop:=(-(2 ^ 64)<i/\i<2 ^ 64)\/(-(2 ^ 64)<j/\j<2 ^ 64)
theorem CMul.ok{i j:Int}(h:CMul i j):IntMulOk i j:=by
 rcases h with⟨h1,h2⟩ | ⟨h1,h2⟩
 ·exact .of_left (intBits_le_64 h1 h2)
 ·exact .of_right (intBits_le_64 h1 h2)
theorem op_add:OpR X (Vi .Add) (rI0 fun i j => .int (i+j)):=PJ fun _ _ _ _ _ _ _ q=>add_int q
theorem NO:OpR X (Vi .Sub) (rI0 fun i j => .int (i - j)):=PJ fun _ _ _ _ _ _ _ q=>sub_int q
theorem op_mul:OpR X (Vi .Mult) (rI CMul fun i j => .int (i * j)):=opI fun _ _ _ _ _ _ _ hc q=>mul_int q hc.ok
theorem Ky:OpR X (Vi .FloorDiv) (rI PL fun i j => .int (i / j)):=opI fun i j _ _ _ _ _ hc q=>by
 have h1:(0:Int)<j:=hc.1;have h2:j<1073741824:=hc.2;exact floordiv_int (by omega) (by rw[Int.fdiv_eq_ediv_of_nonneg i (by omega)];exact q) (.inl (PyProof.noPylong_small (by omega)))
theorem NP:OpR X (Vi .Mod) (rI (fun _ j=>0<j) fun i j => .int (i % j)):=opI fun i j _ _ _ _ _ hc q=>by
 have h1:(0:Int)<j:=hc;exact mod_int' (by omega) (by rw[Int.fmod_eq_emod_of_nonneg i (by omega)];exact q)
theorem NQ:OpR X (Vi .Pow) (rI PM fun i j => .int (i ^ j.toNat)):=opI fun _ _ _ _ _ _ _ hc q=>pow_int_small hc.1 hc.2.1 hc.2.2 q
theorem unI{f:V4->Sem V4}{g:Int->Int}
 (rule:∀(i:Int) (t:Tok) (s:V6) (Q:V4->V6->Prop) (E:V4->V6->Prop),Q (.int (g i) s.toks) {s with toks:=s.toks+1}->VA (VB X.prog X.w) X.A (f (.int i t)) Q E s):
 UnR X f (rU fun i => .int (g i)):=by
 intro pq s σ H x v Q I rx h;obtain⟨i,rfl,q⟩:=h;obtain⟨t,rfl⟩:=rx;exact rule i t s _ _ ⟨.int (g i),H,I.tok _,⟨_,rfl⟩,q⟩
theorem NR:UnR X (unaryOp .USub) (rU fun i => .int (-i)):=unI fun _ _ _ _ _ q=>neg_int q
end
noncomputable def NS:V->V->Bool
 | .non,.non=>true | .non,.int _=>true | .int _,.non=>true | .non,.bl _=>true | .bl _,.non=>true | .non,.str _=>true | .str _,.non=>true
 | .int _,.int _=>true | .bl _,.bl _=>true | .str _,.str _=>true | .byt _,.byt _=>true
 | .int _,.str _=>true | .str _,.int _=>true | .bl _,.str _=>true | .str _,.bl _=>true
 | _,_=>false
noncomputable def rEq:R2:=fun x y H Q=>NS x y=true/\Q (.bl (decide (x=y))) H
noncomputable def rNe:R2:=fun x y H Q=>NS x y=true/\Q (.bl (!decide (x=y))) H
theorem Fx{i j:Int}:decide (V.int i=V.int j)=(i == j):=by
 rw[Rx];simp
theorem Ih{i j:Bool}:decide (V.bl i=V.bl j)=(i == j):=by
 rw[Rx];simp
theorem Fy{i j:Str}:decide (V.str i=V.str j)=(i == j):=by
 rw[Rx];simp
theorem Fz{i j:Array UInt8}:decide (V.byt i=V.byt j)=(i.toList == j.toList):=by
 rw[Rx];cases i;cases j;simp
section
variable{X:Cx}{a b c:Expr}{ta tb tc:TE}{pos:Pos}
theorem c8{pq:List (V7×Obj)}{σ:St}{H:Hp}{s:V6}{Q:VK}{k k':Bool}(I:Inv X pq σ H s)(q:Q (.bl k) H)(e:k=k'):EP X pq σ Q (.bool k') s:=by
 subst e;exact⟨.bl k,H,I,rfl,q⟩
theorem op_eq:OpR X (VL .Eq) rEq:=by
 intro pq s σ H x y v u Q I rx ry h;obtain⟨hs,q⟩:=h;cases x with
 | non=>
   cases rx;cases y with
   | non=>cases ry;exact PySem.EqNone.eq_none_none (c8 I q (by simp))
   | bl j=>cases ry;exact PySem.EqNone.eq_none_bool (c8 I q (by simp))
   | int j=>obtain⟨t',rfl⟩:=ry;exact PySem.EqNone.eq_none_int (c8 I q (by simp))
   | str j=>obtain⟨t',rfl⟩:=ry;exact PySem.EqNone.eq_none_str (c8 I q (by simp))
   | _=>exact absurd (show false=true from hs) RH
 | bl i=>
   cases rx;cases y with
   | non=>cases ry;exact PySem.EqNone.eq_bool_none (c8 I q (by simp))
   | bl j=>cases ry;exact eq_bool (c8 I q Ih)
   | str j=>obtain⟨t',rfl⟩:=ry;exact PySem.EqMixed.eq_bool_str (c8 I q (by simp))
   | _=>exact absurd (show false=true from hs) RH
 | int i=>
   obtain⟨t,rfl⟩:=rx;cases y with
   | non=>cases ry;exact PySem.EqNone.eq_int_none (c8 I q (by simp))
   | int j=>obtain⟨t',rfl⟩:=ry;exact eq_int (c8 I q Fx)
   | str j=>obtain⟨t',rfl⟩:=ry;exact PySem.EqMixed.eq_int_str (c8 I q (by simp))
   | _=>exact absurd (show false=true from hs) RH
 | str i=>
   obtain⟨t,rfl⟩:=rx;cases y with
   | non=>cases ry;exact PySem.EqNone.eq_str_none (c8 I q (by simp))
   | bl j=>cases ry;exact PySem.EqMixed.eq_str_bool (c8 I q (by simp))
   | int j=>obtain⟨t',rfl⟩:=ry;exact PySem.EqMixed.eq_str_int (c8 I q (by simp))
   | str j=>obtain⟨t',rfl⟩:=ry;exact eq_str (c8 I q Fy)
   | _=>exact absurd (show false=true from hs) RH
 | byt i=>
   obtain⟨t,rfl⟩:=rx;cases y with
   | byt j=>obtain⟨t',rfl⟩:=ry;exact PySem.W.eq_bytes (c8 I q Fz)
   | _=>exact absurd (show false=true from hs) RH
 | _=>cases y<;>exact absurd (show false=true from hs) RH
theorem op_ne:OpR X (VL .NotEq) rNe:=by
 intro pq s σ H x y v u Q I rx ry h;obtain⟨hs,q⟩:=h;cases x with
 | non=>
   cases rx;cases y with
   | non=>cases ry;exact PySem.EqNone.ne_none_none (c8 I q (by simp))
   | bl j=>cases ry;exact PySem.EqNone.ne_none_bool (c8 I q (by simp))
   | int j=>obtain⟨t',rfl⟩:=ry;exact PySem.EqNone.ne_none_int (c8 I q (by simp))
   | str j=>obtain⟨t',rfl⟩:=ry;exact PySem.EqNone.ne_none_str (c8 I q (by simp))
   | _=>exact absurd (show false=true from hs) RH
 | bl i=>
   cases rx;cases y with
   | non=>cases ry;exact PySem.EqNone.ne_bool_none (c8 I q (by simp))
   | bl j=>cases ry;exact ne_bool (c8 I q (congrArg not Ih))
   | str j=>obtain⟨t',rfl⟩:=ry;exact PySem.EqMixed.ne_bool_str (c8 I q (by simp))
   | _=>exact absurd (show false=true from hs) RH
 | int i=>
   obtain⟨t,rfl⟩:=rx;cases y with
   | non=>cases ry;exact PySem.EqNone.ne_int_none (c8 I q (by simp))
   | int j=>obtain⟨t',rfl⟩:=ry;exact ne_int (c8 I q (congrArg not Fx))
   | str j=>obtain⟨t',rfl⟩:=ry;exact PySem.EqMixed.ne_int_str (c8 I q (by simp))
   | _=>exact absurd (show false=true from hs) RH
 | str i=>
   obtain⟨t,rfl⟩:=rx;cases y with
   | non=>cases ry;exact PySem.EqNone.ne_str_none (c8 I q (by simp))
   | bl j=>cases ry;exact PySem.EqMixed.ne_str_bool (c8 I q (by simp))
   | int j=>obtain⟨t',rfl⟩:=ry;exact PySem.EqMixed.ne_str_int (c8 I q (by simp))
   | str j=>obtain⟨t',rfl⟩:=ry;exact ne_str (c8 I q (congrArg not Fy))
   | _=>exact absurd (show false=true from hs) RH
 | byt i=>
   obtain⟨t,rfl⟩:=rx;cases y with
   | byt j=>obtain⟨t',rfl⟩:=ry;exact PySem.W.ne_bytes (c8 I q (congrArg not Fz))
   | _=>exact absurd (show false=true from hs) RH
 | _=>cases y<;>exact absurd (show false=true from hs) RH
theorem PN:OpR X (VL .Lt) (rI0 fun i j => .bl (decide (i<j))):=Kx fun _ _ _ _ _ _ _ q=>lt_int q
theorem PP:OpR X (VL .LtE) (rI0 fun i j => .bl (decide (i<=j))):=Kx fun _ _ _ _ _ _ _ q=>le_int q
theorem PR:OpR X (VL .Gt) (rI0 fun i j => .bl (decide (j<i))):=Kx fun _ _ _ _ _ _ _ q=>gt_int q
theorem PU:OpR X (VL .GtE) (rI0 fun i j => .bl (decide (j<=i))):=Kx fun _ _ _ _ _ _ _ q=>ge_int q
theorem NT:OpR X (VL .Is) (fun x y H Q=>y = .non/\Q (.bl (decide (x = .non))) H):=by
 intro pq s σ H x y v u Q I rx ry h;obtain⟨rfl,q⟩:=h;cases ry;refine is_none_gen (c8 I q ?_)
 cases x<;>first
  | (cases rx;rfl)
  | (obtain⟨t,rfl⟩:=rx;rfl)
theorem op_notN:OpR X (VL .IsNot) (fun x y H Q=>y = .non/\Q (.bl (!decide (x = .non))) H):=by
 intro pq s σ H x y v u Q I rx ry h;obtain⟨rfl,q⟩:=h;cases ry;refine isnot_none_gen (c8 I q ?_)
 cases x<;>first
  | (cases rx;rfl)
  | (obtain⟨t,rfl⟩:=rx;rfl)
theorem OpR.or{f:V4->V4->Sem V4}{r r':R2}(h:OpR X f r)(h':OpR X f r'):OpR X f (fun x y H Q=>r x y H Q\/r' x y H Q):=by
 intro pq s σ H x y v u Q I rx ry q;rcases q with q | q
 ·exact h pq s σ H x y v u Q I rx ry q
 ·exact h' pq s σ H x y v u Q I rx ry q
theorem Kz{op:CmpOp}{r:R2}(ho:OpR X (VL op) r)(ha:PE X a ta)(hb:PE X b tb)(hm:Vu op b=false):PE X (.Compare a [op] [b] pos) (tOp r ta tb):=by
 intro pq s σ H Q I h;exact Wr (NN ha hb I h fun v u s2 x y H2 I2 rx ry q=>ho pq s2 σ H2 x y v u Q I2 rx ry q) hm
noncomputable def Mf(t:TE):TT:=fun σ H Q=>t σ H fun x H'=>∃ k,x = .bl k/\Q k H'
theorem L0{op:CmpOp}{r:R2}(ho:OpR X (VL op) r)(ha:PE X a ta)(hb:PE X b tb)(hm:Vu op b=false):PT X (.Compare a [op] [b] pos) (Mf (tOp r ta tb)):=by
 intro pq s σ H Q I h
 refine WN (thn (ha pq s σ H _ I h) fun v s1 ⟨x,H1,I1,r1,q1⟩=>thn (hb pq s1 σ H1 _ I1 q1) fun u s2 ⟨y,H2,I2,r2,q2⟩=>
  thn (ho pq s2 σ H2 x y v u _ I2 r1 r2 q2) fun c s3 ⟨z,H3,I3,r3,k,e,q3⟩=>?_) hm
 subst e;cases r3;exact VN ⟨H3,I3,q3⟩
noncomputable def FA(r r':R2)(ta tb tc:TE):TE:=fun σ H Q=>ta σ H fun x H1=>tb σ H1 fun y H2=>r x y H2 fun z H3=>∃ k,z = .bl k/\
 (if k=true then tc σ H3 fun w' H4=>r' y w' H4 Q else Q (.bl false) H3)
theorem Ii{op op':CmpOp}{r r':R2}(ho:OpR X (VL op) r)(ho':OpR X (VL op') r')(ha:PE X a ta)(hb:PE X b tb)(hc:PE X c tc)
 (hm:X5 [op,op'] [b,c]=false:=by with_unfolding_all rfl):PE X (.Compare a [op,op'] [b,c] pos) (FA r r' ta tb tc):=by
 intro pq s σ H Q I h
 refine Compare_chain (thn (ha pq s σ H _ I h) fun v s1 ⟨x,H1,I1,r1,q1⟩=>chain_link (thn (hb pq s1 σ H1 _ I1 q1) fun u s2 ⟨y,H2,I2,r2,q2⟩=>
  thn (ho pq s2 σ H2 x y v u _ I2 r1 r2 q2) fun d s3 ⟨z,H3,I3,r3,k,e,q3⟩=>?_)) hm
 subst e;cases r3;refine VN ?_;cases k with
 | false=>exact ite_ff ⟨.bl false,H3,I3,rfl,q3⟩
 | true=>exact ite_tt (chain_last (thn (hc pq s3 σ H3 _ I3 q3) fun w' s4 ⟨z',H4,I4,r4,q4⟩=>ho' pq s4 σ H4 y z' u w' Q I4 r2 r4 q4))
theorem Ij{op op':CmpOp}{r r':R2}(ho:OpR X (VL op) r)(ho':OpR X (VL op') r')(ha:PE X a ta)(hb:PE X b tb)(hc:PE X c tc)
 (hm:X5 [op,op'] [b,c]=false:=by with_unfolding_all rfl):PT X (.Compare a [op,op'] [b,c] pos) (Mf (FA r r' ta tb tc)):=by
 intro pq s σ H Q I h
 refine isTrue_chain (thn (ha pq s σ H _ I h) fun v s1 ⟨x,H1,I1,r1,q1⟩=>test_link (thn (hb pq s1 σ H1 _ I1 q1) fun u s2 ⟨y,H2,I2,r2,q2⟩=>
  thn (ho pq s2 σ H2 x y v u _ I2 r1 r2 q2) fun d s3 ⟨z,H3,I3,r3,k,e,q3⟩=>?_)) hm
 subst e;cases r3;refine VN ?_;cases k with
 | false=>
   obtain⟨k',e',q'⟩:=q3;cases e';exact ite_ff ⟨H3,I3,q'⟩
 | true=>
   refine ite_tt (test_last (thn (hc pq s3 σ H3 _ I3 q3) fun w' s4 ⟨z',H4,I4,r4,q4⟩=>thn (ho' pq s4 σ H4 y z' u w' _ I4 r2 r4 q4) fun d' s5 ⟨z2,H5,I5,r5,k2,e2,q5⟩=>?_));subst e2;cases r5;exact VN ⟨H5,I5,q5⟩
noncomputable def L1(K:R8)(x:V)(H:Hp)(k:Bool):Prop:=
 match x with
 | .non=>k=false
 | .bl b=>k=b
 | .int i=>k=(i != 0)
 | .str y=>y.length<=V9/\k=((y.length:Int) != 0)
 | .byt y=>y.size<=V9/\k=((y.size:Int) != 0)
 | .ref p=>(∃ xs,SqL K H p xs/\k=!xs.isEmpty)\/(∃ xs,SqT K H p xs/\k=!xs.isEmpty)\/∃ kvs,H p=some (.dK kvs)/\k=!kvs.isEmpty
 | _=>False
theorem FB{κ:Type}{kvs:List (κ×V)}{vs:List (κ×V4)}(r:KV kvs vs):(!vs.isEmpty)=!kvs.isEmpty:=by
 cases r<;>rfl
theorem CA{xs:List V}{its:List V4}(r:Vals xs its):(!its.toArray.isEmpty)=!xs.isEmpty:=by
 cases r<;>simp
theorem BX:(V9:Nat)<2 ^ 63:=by rw[Vz];decide
theorem NU:Qi X (fun x H Q=>∃ k,L1 X.K x H k/\Q k H):=by
 intro pq s σ H x v Q I rx h;obtain⟨k,e,q⟩:=h;have hl:=BX;have hs:V9=16777216:=Vz;cases x with
 | non=>
   cases rx;have e':k=false:=e;subst e';exact truthy_none ⟨H,I,q⟩
 | bl b=>
   cases rx;have e':k=b:=e;subst e';exact VN ⟨H,I,q⟩
 | int i=>
   obtain⟨t,rfl⟩:=rx;have e':k=(i != 0):=e;subst e';exact PySem.P.truthy_int ⟨H,I,q⟩
 | str y=>
   obtain⟨t,rfl⟩:=rx;obtain⟨hy,e'⟩:y.length<=V9/\k=((y.length:Int) != 0):=e;subst e';exact PySem.P.truthy_str (by omega) ⟨H,I.tok _,q⟩
 | byt y=>
   obtain⟨t,rfl⟩:=rx;obtain⟨hy,e'⟩:y.size<=V9/\k=((y.size:Int) != 0):=e;subst e';exact PySem.W.truthy_bytes (by omega) ⟨H,I.tok _,q⟩
 | ref p=>
   cases rx;have e':(∃ xs,SqL X.K H p xs/\k=!xs.isEmpty)\/(∃ xs,SqT X.K H p xs/\k=!xs.isEmpty)\/∃ kvs,H p=some (.dK kvs)/\k=!kvs.isEmpty:=e;rcases e' with⟨xs,hx,e'⟩ | ⟨xs,hx,e'⟩ | ⟨kvs,hx,e'⟩
   ·subst e';obtain⟨its,r,pl,hz⟩:=I.list hx;have hlen:=r.length;exact wpAny_truthy_list pl.isList (by simp only[RF];omega) ⟨H,I.tok _,by rw[CA r];exact q⟩
   ·subst e';obtain⟨its,r,pl,hz⟩:=I.tuple hx;have hlen:=r.length;exact truthy_tuple pl (by simp only[RF];omega) ⟨H,I.tok _,by rw[CA r];exact q⟩
   ·subst e';obtain⟨hz,hS,vs,r,m⟩:kvs.length<=V9/\(p == Vf)=false/\∃ vs,KV kvs vs/\s.heap.DictOf (j5 X.prog X.w) p vs:=I.hok p _ hx;have hlen:kvs.length=vs.length:=Paired.length r;exact wpAny_truthy_dict hS m (by omega) ⟨H,I.tok _,by rw[FB r];exact q⟩
 | _=>exact(show False from e).elim
theorem Ik(ha:PE X a ta)(he:∀ whole,isTrue a X.env whole=(do let v <- whole;standAt a.pos;holding [v] (truthy v))):
 PT X a (fun σ H Q=>ta σ H fun x H'=>∃ k,L1 X.K x H' k/\Q k H'):=by
 intro pq s σ H Q I h;exact isTrue_plain (thn (ha pq s σ H _ I h) fun v s1 ⟨x,H1,I1,r1,q1⟩=>NU pq s1 σ H1 x v Q I1 r1 q1) (he _)
theorem w6{x:V}{us:List V4}(r:Vals [x] us):∃ u,us=[u]/\RelV x u:=by
 cases r with
 | cons r1 r2=>cases r2;exact⟨_,rfl,r1⟩
theorem Mg{x y:V}{us:List V4}(r:Vals [x,y] us):∃ u w',us=[u,w']/\RelV x u/\RelV y w':=by
 cases r with
 | cons r1 r2=>
   cases r2 with
   | cons r3 r4=>cases r4;exact⟨_,_,rfl,r1,r3⟩
theorem Il:CallR X (.builtin "abs") (fun xs H Q=>∃ i,xs=[.int i]/\Q (.int (if i<0 then -i else i)) H):=by
 intro pq s σ H xs us Q I r h;obtain⟨i,rfl,q⟩:=h;obtain⟨u,rfl,t,rfl⟩:=w6 r;exact call_abs_int fun u tk=>⟨.int (if i<0 then -i else i),H,I.tok _,⟨_,rfl⟩,q⟩
theorem HN(hc:X.calm=true):CallR X (.builtin "max") (fun xs H Q=>∃ i j,xs=[.int i,.int j]/\Q (.int (if j>i then j else i)) H):=by
 intro pq s σ H xs us Q I r h;obtain⟨i,j,rfl,q⟩:=h;obtain⟨u,w',rfl,⟨t,rfl⟩,⟨t',rfl⟩⟩:=Mg r;refine max_two_ints (I.ok.hd hc) fun h' tk k=>⟨_,H,I.kept k,?_,q⟩
 by_cases hj:j>i
 ·rw[iP hj,iP hj];exact⟨_,rfl⟩
 ·rw[iG hj,iG hj];exact⟨_,rfl⟩
theorem HP(hc:X.calm=true):CallR X (.builtin "min") (fun xs H Q=>∃ i j,xs=[.int i,.int j]/\Q (.int (if j<i then j else i)) H):=by
 intro pq s σ H xs us Q I r h;obtain⟨i,j,rfl,q⟩:=h;obtain⟨u,w',rfl,⟨t,rfl⟩,⟨t',rfl⟩⟩:=Mg r;refine min_two_ints (I.ok.hd hc) fun h' tk k=>⟨_,H,I.kept k,?_,q⟩
 by_cases hj:j<i
 ·rw[iP hj,iP hj];exact⟨_,rfl⟩
 ·rw[iG hj,iG hj];exact⟨_,rfl⟩
theorem HQ:CallR X (.type "int") (fun xs H Q=>(∃ i,xs=[.int i]/\Q (.int i) H)\/∃ k,xs=[.bl k]/\Q (.int (if k then 1 else 0)) H):=by
 intro pq s σ H xs us Q I r h;rcases h with⟨i,rfl,q⟩ | ⟨k,rfl,q⟩
 ·obtain⟨u,rfl,t,rfl⟩:=w6 r;exact call_int_int ⟨.int i,H,I,⟨_,rfl⟩,q⟩
 ·obtain⟨u,rfl,r1⟩:=w6 r;cases r1;exact call_int_bool ⟨.int (if k then 1 else 0),H,I.tok _,⟨_,rfl⟩,q⟩
end
structure ObjM(h:Heap)(x dx C:V7)(mA:Str->Option V4):Prop where
 obj:h.get? x=some (PySem.W.instObj C dx)
 ns:h.Ns1 dx mA
 ne:dx≠x
theorem HR{h:Heap}{dx:V7}{mA:Str->Option V4}(n:h.Ns1 dx mA):∃ od,h.get? dx=some od/\∀ name,PySem.W.lookIn name od=some (mA name):=by
 obtain⟨o,es,ep,ho,hd,hk,_,hm⟩:=n;refine⟨o,ho,fun name=>?_⟩;have e:=hm name;unfold nsFind findBy at e;rw[<-Array.find?_toList]at e;unfold PySem.W.lookIn;rw[hd];dsimp only;split
 ·rename_i y q;rw[q]at e;exact congrArg some e
 ·rename_i q;rw[q]at e
  have a:es.toList.any (·.refKey)=false:=by
   rw[List.any_eq_false];intro y hy;obtain⟨z,t,hkey⟩:=hk y (Array.mem_toList_iff.mp hy);simp[DictEntry.refKey,hkey]
  have a':¬ es.toList.any (·.refKey)=true:=by rw[a];exact RH
  rw[iG a'];exact congrArg some e
theorem ObjM.look{h:Heap}{x dx C:V7}{mA:Str->Option V4}(I:ObjM h x dx C mA):∃ od,PySem.W.InstAt h x (PySem.W.instObj C dx) C (some od)/\∀ name,PySem.W.lookIn name od=some (mA name):=
 let ⟨od,ho,hl⟩:=HR I.ns
 ⟨od,⟨I.obj,rfl,rfl,ho⟩,hl⟩
section
variable{P:VC}{w:VG}{H H':Hp}{h h':Heap}{a C dx:V7}{fs fs':List (Str×V)}
theorem G7(hok:HOk P w H h)(e:H a=some (.ins C dx fs)):∃ mA,ObjM h a dx C mA/\(∀ f,RelO (fs.lookup f) (mA f))/\PySem.Within mA (fs.map (·.1))/\fs.length<=1000/\H dx=some (.own a):=by
 obtain⟨d,z,ne,ob,mA,n,r,q⟩:=(show ObjOk P w H h a (.ins C dx fs) from hok a _ e)
 exact⟨mA,⟨ob,n,ne⟩,r,q,z,d⟩
end
structure Cls(K:R8)(C:V7):Prop where
 pg:PySem.W.plainGet K C Str.empty=true
 hd:PySem.W.hasDictIn K C=true
 po:PySem.W.plainOver K C=true
 sa:PySem.W.findIn K (.ref C) "__setattr__"=some (some (.builtin "object.__setattr__"))
theorem Cls.get{K:R8}{C:V7}(c:Cls K C)(f:Str):PySem.W.plainGet K C f=true:=c.pg
section
variable{X:Cx}{pq:List (V7×Obj)}{σ:St}{H:Hp}{s:V6}{A:VM}{E:V4->V6->Prop}{Q:V4->V6->Prop}{c:V4}{b:Bool}
inductive TyOf(K:R8)(H:Hp):V->V4->Prop where
 | non:TyOf K H .non (.type "NoneType")
 | bl (x:Bool):TyOf K H (.bl x) (.type "bool")
 | int (i:Int):TyOf K H (.int i) (.type "int")
 | str (x:Str):TyOf K H (.str x) (.type "str")
 | flt (x:UInt64):TyOf K H (.flt x) (.type "float")
 | lst {a:V7} {xs:List V} (e:H a=some (.lst xs)):TyOf K H (.ref a) (.type "list")
 | frz {a:V7} {o:Obj} {xs:List V} (e:H a=some (.frz o (.lst xs))):TyOf K H (.ref a) (.type "list")
 | tup {a:V7} {xs:List V} (e:H a=some (.tup xs)):TyOf K H (.ref a) (.type "tuple")
 | dK {a:V7} {kvs:List (Key×V)} (e:H a=some (.dK kvs)):TyOf K H (.ref a) (.type "dict")
 | dT {a:V7} {kvs:List (List Key×V)} (e:H a=some (.dT kvs)):TyOf K H (.ref a) (.type "dict")
 | ins {a C dx:V7} {fs:List (Str×V)} (e:H a=some (.ins C dx fs)) (cl:Cls K C) (ha:PySem.W.findIn K (.ref C) "__class__"=some (some (.builtin "object.__class__")))
    (hn:PySem.W.specialIn K (.builtin "object.__class__") "__get__"=some (some (.builtin "getset_descriptor.__get__"))) (htk:PySem.W.takesIn K (.builtin "object.__class__")=some true)
    (hm:PySem.W.mroIn K C (.type "object")=some true):TyOf K H (.ref a) (.ref C)
theorem HS{x:V}{u t:V4}(I:Inv X pq σ H s)(rx:RelV x u)(ty:TyOf X.K H x t)(e:PySem.W.kitOne X.K t c=some b)(h:∀ tk,Q (.bool b) {s with toks:=tk}):
 VA (VB X.prog X.w) A (call (.builtin "isinstance") [u,c]) Q E s:=by
 cases ty with
 | non=>cases(show u=Value.none from rx);exact PySem.W.kia_one PySem.W.kitx_none I.kIn True.intro e (fun z=>nomatch z) h
 | bl y=>cases(show u=Value.bool y from rx);exact PySem.W.kia_one PySem.W.kitx_bool I.kIn True.intro e (fun z=>nomatch z) h
 | int i=>obtain⟨t,q⟩:=(show ∃ t,u=Value.int i t from rx);cases q;exact PySem.W.kia_one PySem.W.kitx_int I.kIn True.intro e (fun z=>nomatch z) h
 | str y=>obtain⟨t,q⟩:=(show ∃ t,u=Value.str y t from rx);cases q;exact PySem.W.kia_one PySem.W.kitx_str I.kIn True.intro e (fun z=>nomatch z) h
 | flt y=>obtain⟨t,q⟩:=(show ∃ t,u=Value.float y t from rx);cases q;exact PySem.W.kia_one PySem.W.kitx_float I.kIn True.intro e (fun z=>nomatch z) h
 | @lst a xs ea=>
   cases(show u=Value.ref a from rx);obtain⟨_,_,n,_,h1⟩:=(show ObjOk X.prog X.w H s.heap a (.lst xs) from I.hok a _ ea)
   exact PySem.W.kia_one PySem.W.kitx_list I.kIn ⟨_,h1,rfl⟩ e (fun z=>nomatch z) h
 | @frz a ob xs ea=>
   cases(show u=Value.ref a from rx);obtain⟨_,_,_,n,_,h1⟩:=(show ObjOk X.prog X.w H s.heap a (.frz ob (.lst xs)) from I.hok a _ ea)
   exact PySem.W.kia_one PySem.W.kitx_list I.kIn ⟨_,h1,rfl⟩ e (fun z=>nomatch z) h
 | @tup a xs ea=>
   cases(show u=Value.ref a from rx);obtain⟨_,_,_,p⟩:=(show ObjOk X.prog X.w H s.heap a (.tup xs) from I.hok a _ ea)
   obtain⟨o,h1,h2,_⟩:=p;exact PySem.W.kia_one PySem.W.kitx_tuple I.kIn ⟨o,h1,h2⟩ e (fun z=>nomatch z) h
 | @dK a kvs ea=>
   cases(show u=Value.ref a from rx);obtain⟨_,_,vs,_,p⟩:=(show ObjOk X.prog X.w H s.heap a (.dK kvs) from I.hok a _ ea)
   obtain⟨o,es,ep,h1,h2,_⟩:=p;exact PySem.W.kia_one PySem.W.kitx_dict I.kIn ⟨o,h1,h2.1⟩ e (fun z=>nomatch z) h
 | @dT a kvs ea=>
   cases(show u=Value.ref a from rx);obtain⟨_,_,xs,_,o,es,ep,h1,h2,_⟩:=(show ObjOk X.prog X.w H s.heap a (.dT kvs) from I.hok a _ ea)
   exact PySem.W.kia_one PySem.W.kitx_dict I.kIn ⟨o,h1,h2.1⟩ e (fun z=>nomatch z) h
 | @ins a C dx fs ea cl ha hn htk hm=>
   cases(show u=Value.ref a from rx);obtain⟨mA,O,_⟩:=G7 I.hok ea;obtain⟨od,J,_⟩:=O.look;exact PySem.W.kia_one (PySem.W.kitx_own (cl.get _) cl.hd ha hn htk hm) I.kIn J e (fun z=>nomatch z) h
end
structure Room(k:Nat)(A:VM):Prop where
 hd:A.handled=none
 dp:A.depth+3 * k+5<Wu
 un:A.units+16 * k+200<cLine
 gd:A.guards=some []
theorem Room.mono{j k:Nat}{A:VM}(r:Room k A)(h:j<=k):Room j A:=⟨r.hd,by have:=r.dp;omega,by have:=r.un;omega,r.gd⟩
theorem Room.deeper{k:Nat}{A:VM}(r:Room (k+1) A)(env:Env):Room k (A.deeper env):=
 ⟨r.hd,by have:=r.dp;show A.depth+1+3 * k+5<_;omega,by have:=r.un;show A.units+3+16 * k+200<_;omega,r.gd⟩
theorem Room.depth{k:Nat}{A:VM}(r:Room k A):A.depth<Wu:=by have:=r.dp;omega
noncomputable def NV:TA:=fun _ H Q=>Q [] H
noncomputable def E4(ta:TE)(tr:TA):TA:=fun σ H Q=>ta σ H fun x H1=>tr σ H1 fun xs H2=>Q (x::xs) H2
section
variable{X:Cx}{e:Expr}{es:List Expr}{te:TE}{t:TA}{pos:Pos}
theorem AD:PA X [] NV:=fun _ _ _ _ H Q I h=>Calls.spliced_nil ⟨[],H,I,.nil,h⟩
theorem m9(ha:PE X e te)(hr:PA X es t)(hs:VF (e::es) X.env=(false,eval e X.env)::VF es X.env:=by rfl):PA X (e::es) (E4 te t):=by
 intro pos pq s σ H Q I h;rw[hs];show VA _ _ (spliced ((false,eval e X.env)::backTo pos (VF es X.env))) _ _ s;refine Calls.spliced_cons (thn (ha pq s σ H _ I h) fun u s1 ⟨x,H1,I1,r1,q1⟩=>?_);exact thn (hr pos pq s1 σ H1 _ I1 q1) fun us s2 ⟨xs,H2,I2,r2,q2⟩=>⟨x::xs,H2,I2,.cons r1 r2,q2⟩
noncomputable def PV(t:TA):TE:=fun σ H Q=>t σ H fun xs H1=>xs.length<=V9/\∀ p,H1 p=none->Q (.ref p) (upd H1 p (.tup xs))
noncomputable def PX(t:TA):TE:=fun σ H Q=>t σ H fun xs H1=>xs.length<=V9/\∀ p,H1 p=none->Q (.ref p) (upd H1 p (.lst xs))
theorem NW{x1}(h:PA X es t):PE X (.Tuple es x1 pos) (PV t):=by
 intro pq s σ H Q I hq;refine wpAny_Tuple_spliced (thn (h pos pq s σ H _ I hq) fun us s1 ⟨xs,H1,I1,r,z,q⟩=>⟨by rw[<-r.length];exact z,?_⟩);have hf:H1 s1.heap.objs.size=none:=I1.hok.fresh (RE _);refine⟨.ref s1.heap.objs.size,upd H1 s1.heap.objs.size (.tup xs),I1.laid (t':=s1.toks) (fun b u e=>RJ _ e) (RE _) ?_,rfl,q _ hf⟩;exact⟨z,us,r,⟨_,RY _ rfl,rfl,_,rfl⟩⟩
theorem NX(h:PA X es t):PE X (.List es pos) (PX t):=by
 intro pq s σ H Q I hq;refine wpAny_List_spliced (thn (h pos pq s σ H _ I hq) fun us s1 ⟨xs,H1,I1,r,z,q⟩=>⟨by rw[<-r.length];exact z,?_⟩);have hf:H1 s1.heap.objs.size=none:=I1.hok.fresh (RE _);refine⟨.ref s1.heap.objs.size,upd H1 s1.heap.objs.size (.lst xs),I1.laid (t':=s1.toks) (fun b u e=>RJ _ e) (RE _) ?_,rfl,q _ hf⟩;exact⟨z,us,0,r,RY _ rfl⟩
end
noncomputable abbrev Sp:=List V->Hp->VK->XK->Prop
noncomputable abbrev CXT:=List Env->Hp->V6->XK->V4->V6->Prop
structure Env0(P:VC)(w:VG)(K:R8)(mg:Str->Option V4)(base:Heap)(A:VM)(outer:List Env)(s:V6)(H:Hp):Prop where
 frames:A.frames=some outer
 mod:Mod K mg base
 bs:∀ b o,base.get? b=some o->s.heap.get? b=some o/\H b=none
 bsz:base.objs.size<=s.heap.objs.size
 funs:s.heap.FunFrames base outer
 frf:∀ b∈frs outer,H b=none
 hok:HOk P w H s.heap
 bare:AllBare s.gens
noncomputable def CE(outer:List Env)(P:VC)(w:VG)(H:Hp)(s:V6)(Q:VK)(u:V4)(s':V6):Prop:=
 ∃ v H',s'.os=s.os/\AllBare s'.gens/\Un (frs outer) [] H H' s.heap s'.heap/\HOk P w H' s'.heap/\RelV v u/\Q v H'
noncomputable def CR(CX:CXT)(outer:List Env)(P:VC)(w:VG)(H:Hp)(s:V6)(Q:VK)(E:XK)(r:Result)(s':V6):Prop:=
 match r with
 | .ok (.ret u)=>CE outer P w H s Q u s'
 | .ok _=>False
 | .error e=>CX outer H s E e s'
structure FnOk(P:VC)(w:VG)(K:R8)(mg:Str->Option V4)(base:Heap)(CX:CXT)(k:Nat)(f:V7)(fd:Va)(ps:List Str)(sp:Sp):Prop where
 len:∀ vs H Q E,sp vs H Q E->vs.length=ps.length
 run:∀(A:VM) (outer:List Env) (s:V6) (H:Hp) (args:Args) (us:List V4) (vs:List V) (Q:VK) (E:XK),Room k A->Env0 P w K mg base A outer s H->BindsTo s fd args (ps.zip us)->Vals vs us->sp vs H Q E->
  codeAny (VB P w) A (.call (.ref f) args) (CR CX outer P w H s Q E) s
theorem FnOk.mono{P:VC}{w:VG}{K:R8}{mg:Str->Option V4}{base:Heap}{CX:CXT}{j k:Nat}{f:V7}{fd:Va}{ps:List Str}{sp:Sp}(F:FnOk P w K mg base CX j f fd ps sp)(h:j<=k):
 FnOk P w K mg base CX k f fd ps sp:=⟨F.len,fun A outer s H args us vs Q E hr=>F.run A outer s H args us vs Q E (hr.mono h)⟩
theorem FnOk.imp{P:VC}{w:VG}{K:R8}{mg:Str->Option V4}{base:Heap}{CX:CXT}{k:Nat}{f:V7}{fd:Va}{ps:List Str}{sp sp':Sp}(F:FnOk P w K mg base CX k f fd ps sp)
 (h:∀ vs H Q E,sp' vs H Q E->sp vs H Q E):FnOk P w K mg base CX k f fd ps sp':=
 ⟨fun vs H Q E q=>F.len vs H Q E (h _ _ _ _ q),fun A outer s H args us vs Q E hr he hb hv hs=>F.run A outer s H args us vs Q E hr he hb hv (h _ _ _ _ hs)⟩
section
variable{X:Cx}{pq:List (V7×Obj)}{σ:St}{H:Hp}{s s':V6}
theorem Inv.env0(I:Inv X pq σ H s):Env0 X.prog X.w X.K X.mg X.base X.A X.stack s H:=
 ⟨I.ok.frames,I.ok.mod,I.bs,Rn I.ok.bsz I.sz,I.stack,I.stkFree,I.hok,I.bare⟩
theorem Inv.after{Q:VK}{u:V4}(I:Inv X pq σ H s)(h:CE X.stack X.prog X.w H s Q u s'):EP X pq σ Q u s':=by
 obtain⟨v,H',os,bare,un,hok,r,q⟩:=h;obtain⟨hh,g,d,t,os'⟩:=s';obtain rfl:os'=s.os:=os;exact⟨v,H',I.call (h':=hh) (g':=g) (d':=d) (t':=t) (ch:=[]) un hok bare (fun b z=>absurd z (by simp)),r,q⟩
end
noncomputable def Mh(sp:Sp)(dvs:List V)(E:XK)(t:TA):TE:=fun σ H Q=>t σ H fun vs H1=>sp (vs++dvs) H1 Q E
noncomputable def Binds(K:R8)(fd:Va)(ps:List Str)(ds:List V4):Prop:=
 ∀(s:V6) (us:List V4),K.In s.heap->(us++ds).length=ps.length->BindsTo s fd ⟨us,[]⟩ (ps.zip (us++ds))
theorem Binds.all{K:R8}{fd:Va}{ps:List Str}(h:∀ us:List V4,us.length=ps.length->bindArgs fd ⟨us,[]⟩=pure (ps.zip us)):Binds K fd ps []:=fun s us _ hl=>by
 rw[TX]at hl ⊢;exact .of_eq (h us hl)
noncomputable def FC(CX:CXT)(X:Cx)(E:XK):Prop:=∀(pq:List (V7×Obj)) (σ:St) (H:Hp) (s:V6) (e:V4) (s':V6),Inv X pq σ H s->CX X.stack H s E e s'->X.xe e s'
section
variable{X:Cx}{CX:CXT}{k:Nat}{f C:V7}{fd:Va}{ps:List Str}{sp:Sp}{dvs:List V}{ds:List V4}{E:XK}{x m:Str}{p pos apos:Pos}{e o:Expr}{es:List Expr}{ta:TE}{t:TA}
theorem NY{pq:List (V7×Obj)}{σ:St}{H:Hp}{s:V6}{Q:VK}{us:List V4}{vs:List V}(F:FnOk X.prog X.w X.K X.mg X.base CX k f fd ps sp)(hr:Room k X.A)(hb:Binds X.K fd ps ds)(hd:Vals dvs ds)(hx:FC CX X E)
 (I:Inv X pq σ H s) (r:Vals vs us) (h:sp (vs++dvs) H Q E):VA (VB X.prog X.w) X.A (call (.ref f) us) (EP X pq σ Q) X.xe s:=by
 have r2:Vals (vs++dvs) (us++ds):=r.append hd;have hl:(us++ds).length=ps.length:=by rw[<-r2.length];exact F.len _ _ _ _ h
 refine wpAny_call (Wg (F.run X.A X.stack s H ⟨us,[]⟩ (us++ds) (vs++dvs) Q E hr I.env0 (hb s us I.kIn hl) r2 h) fun r s' hq=>?_);cases r with
 | error e=>exact hx pq σ H s e s' I hq
 | ok fl=>
   cases fl with
   | ret u=>exact I.after hq
   | next=>exact False.elim hq
   | brk=>exact False.elim hq
   | cont=>exact False.elim hq
theorem L5(F:FnOk X.prog X.w X.K X.mg X.base CX k f fd ps sp)(hr:Room k X.A)(hg:Gl X x)(hm:X.mg x=some (.ref f))(hk:PySem.W.keepIn X.K (.ref f)=true)(hb:Binds X.K fd ps ds)(hd:Vals dvs ds)(hx:FC CX X E)
 (ha:PA X (e::es) t) (hdb:(x == ("__debug__":Str))=false:=by decide) (he:VF (e::es) X.env=(false,eval e X.env)::VF es X.env:=by rfl) (hpl:(backTo pos (VF es X.env)).any (·.1)=false:=by rfl):
 PE X (.Call (.Name x p) (e::es) [] pos) (Mh sp dvs E t):=by
 intro pq s σ H Q I h;refine VY (Kq I hg hm ?_ hdb);refine PySem.W.callWith_K (h₀:=X.base) I.ok.mod.kin hk (thn (ha pos pq s σ H _ I h) fun us s1 ⟨vs,H1,I1,r,q⟩=>⟨I1.kIn,?_⟩) he hpl;exact NY F hr hb hd hx I1 r q
end
noncomputable def PK(X:Cx)(kws:List Keyword)(t:TA):Prop:=
 ∀(pos:Pos) (pq:List (V7×Obj)) (s:V6) (σ:St) (H:Hp) (Q:List V->Hp->Prop),Inv X pq σ H s->t σ H Q->VA (VB X.prog X.w) X.A (evalAll ((W9 pos (Vn kws X.env)).map (·.2))) (AP X pq σ Q) X.xe s
section
variable{X:Cx}{CX:CXT}{k:Nat}{f C:V7}{fd:Va}{ps ks:List Str}{sp:Sp}{E:XK}{x m:Str}{p pos apos kpos:Pos}{e o:Expr}{es:List Expr}{kws:List Keyword}{te ta:TE}{t tk:TA}{nm:Option Str}
theorem NZ:PK X [] NV:=fun _ _ _ _ H Q I h=>wpAny_evalAll_nil ⟨[],H,I,.nil,h⟩
theorem L6(ha:PE X e te)(hr:PK X kws t):PK X (⟨nm,e,kpos⟩::kws) (E4 te t):=by
 intro pos pq s σ H Q I h;show VA _ _ (evalAll ((do let v <- eval e X.env;standAt pos;pure v)::(W9 pos (Vn kws X.env)).map (·.2))) _ _ s;refine wpAny_evalAll_cons (V5 (thn (ha pq s σ H _ I h) fun u s1 ⟨x,H1,I1,r1,q1⟩=>V5 (VW (V8 ?_))));exact thn (hr pos pq s1 σ H1 _ I1 q1) fun us s2 ⟨xs,H2,I2,r2,q2⟩=>⟨x::xs,H2,I2,.cons r1 r2,q2⟩
variable{g:List V4->List V4->List V4}{gV:List V->List V->List V}
end
structure FnScope(N P:List Str)(sc:VI):Prop where
 kind:sc.kind = .function
 co:sc.isCoroutine=false
 gen:sc.isGenerator=false
 nd:N.Nodup
 pre:N.take P.length=P
 par:∀ x∈P,sc.names.lookup x=some .local\/sc.names.lookup x=some .cell
 nofree:∀ y∈sc.names,y.2 ≠ .free
theorem D1{kindOf:Str->Option VT}{x:Str}:∀{binds:List (Str×V4)} {m:Str->Option V4},(∀ v,(x,v)∉binds)->bindL kindOf binds m x=m x
 | [],_,_=>rfl
 | (n,v)::r,m,h=>by
   unfold bindL;rw[D1 fun w hw=>h w (RK _ hw)];split
   ·have:x≠n:=by rintro rfl;exact h v RS
    simp[this]
   ·rfl
theorem D2{kindOf:Str->Option VT}{x:Str}:∀{binds:List (Str×V4)} {m:Str->Option V4},(∀ v,(x,v)∉binds)->bindC kindOf binds m x=m x
 | [],_,_=>rfl
 | (n,v)::r,m,h=>by
   unfold bindC;rw[D2 fun w hw=>h w (RK _ hw)];split
   ·rfl
   ·have:x≠n:=by rintro rfl;exact h v RS
    simp[this]
theorem D3{kindOf:Str->Option VT}{x:Str}{v:V4}:∀{P:List Str} {vs:List V4} {i:Nat} {m:Str->Option V4},P.Nodup->P[i]?=some x->vs[i]?=some v->kindOf x=some .local->
 bindL kindOf (P.zip vs) m x=some v
 | [],_,_,_,_,h,_,_=>by simp at h
 | _::_,[],_,_,_,_,h,_=>by simp at h
 | p::P,w::vs,0,m,nd,h1,h2,hk=>by
   simp at h1 h2;subst h1;subst h2;show bindL kindOf ((p,w)::P.zip vs) m p=_;unfold bindL;rw[D1 fun v hv=>(SR.mp nd).1 (Se hv).1,iP hk];simp
 | p::P,w::vs,i+1,m,nd,h1,h2,hk=>by
   show bindL kindOf ((p,w)::P.zip vs) m x=_;unfold bindL;exact D3 (i:=i) (SR.mp nd).2 (by simpa using h1) (by simpa using h2) hk
theorem D4{kindOf:Str->Option VT}{x:Str}{v:V4}:∀{P:List Str} {vs:List V4} {i:Nat} {m:Str->Option V4},P.Nodup->P[i]?=some x->vs[i]?=some v->kindOf x≠some .local->
 bindC kindOf (P.zip vs) m x=some v
 | [],_,_,_,_,h,_,_=>by simp at h
 | _::_,[],_,_,_,_,h,_=>by simp at h
 | p::P,w::vs,0,m,nd,h1,h2,hk=>by
   simp at h1 h2;subst h1;subst h2;show bindC kindOf ((p,w)::P.zip vs) m p=_;unfold bindC;rw[D2 fun v hv=>(SR.mp nd).1 (Se hv).1,iG hk];simp
 | p::P,w::vs,i+1,m,nd,h1,h2,hk=>by
   show bindC kindOf ((p,w)::P.zip vs) m x=_;unfold bindC;exact D4 (i:=i) (SR.mp nd).2 (by simpa using h1) (by simpa using h2) hk
noncomputable def start(N:List Str)(vs:List V):St:=vs.map some++Rc (N.length - vs.length) none
noncomputable def FD(CX:CXT)(P:VC)(w:VG)(K:R8)(mg:Str->Option V4)(base:Heap)(N:List Str)(qual:Str)(scope:VI)(f:V7)(cd:V4)(A:VM)(outer:List Env)(s:V6)(H:Hp)(E:XK):Cx where
 prog:=P
 w:=w
 K:=K
 mg:=mg
 base:=base
 A:=A.deeper (envOfC qual scope s.heap.objs.size f cd)
 N:=N
 s₀:=s
 H₀:=H
 env:=envOfC qual scope s.heap.objs.size f cd
 outer:=outer
 stack:=envOfC qual scope s.heap.objs.size f cd::outer
 ex:=[]
 calm:=true
 fn:=fun _=>true
 pn:=[]
 xe:=fun e s'=>VA (VB P w) (A.deeper (envOfC qual scope s.heap.objs.size f cd)) (leaving (envOfC qual scope s.heap.objs.size f cd) e) (fun _ s''=>CX outer H s E e s'') (fun e' s''=>CX outer H s E e' s'') s'
theorem E5{sc:VI}{n:Nat}{x:Str}(h:sc.names.lookup x=some .cell):∃ c,(VU n sc.names []).lookup x=some c:=by
 have q:=PySem.W.cellsFrom_some sc.names n [] (.inl h);exact SW.mp q
theorem HU{CX:CXT}{P:VC}{w:VG}{K:R8}{mg:Str->Option V4}{base:Heap}{N ps:List Str}{qual:Str}{scope:VI}{f:V7}{cd:V4}{A:VM}{outer:List Env}{s s1:V6}{H:Hp}{E:XK}{us:List V4}{vs:List V}
 (S:FnScope N ps scope) (hd:A.handled=none) (e0:Env0 P w K mg base A outer s H) (hl:vs.length=ps.length) (r:Vals vs us)
 (x:InCallC s s.heap.objs.size (bindL (envOfC qual scope s.heap.objs.size f cd).kindOf (ps.zip us) fun _=>none) (VU (s.heap.objs.size+1) scope.names []) (bindC (envOfC qual scope s.heap.objs.size f cd).kindOf (ps.zip us) fun _=>none) s1):
 Inv (FD CX P w K mg base N qual scope f cd A outer s H E) [] (start N vs) H s1:=by
 have hpl:ps.length<=N.length:=by have:=congrArg Tq S.pre;rw[Rg]at this;omega
 obtain⟨h1,tk,rfl,hk⟩:=x.done;have noA:∀ b:V7,b∉(FD CX P w K mg base N qual scope f cd A outer s H E).ex:=fun b z=>absurd (show b∈([]:List V7) from z) (by simp)
 refine⟨⟨e0.mod,S.kind,rfl,rfl,RE _,fun y z c h1 h2=>?_,fun y hy=>?_,fun y c _ h=>?_,fun _=>hd,Around.frames_deeper e0.frames,.inr ⟨rfl,rfl⟩,fun b z=>absurd z (noA b),e0.bs,e0.bsz,fun b _ _=>noA b,fun b z=>absurd z (noA b),e0.funs,e0.frf⟩,
  rfl,e0.bare,Un.kept hk,⟨_,x.toInCall.ns,fun i y v h1 h2 h3=>?_⟩,fun y c h=>⟨_,x.cell y c h⟩,e0.hok.fresh (RE _),fun y c h=>?_,fun p hp=>absurd (show p∈([]:List (V7×Obj)) from hp) (by simp),e0.hok.kept hk,?_⟩
 ·exact name_of_addr x.apart (PySem.mem_of_lookup h1) (PySem.mem_of_lookup h2)
 ·have hy:scope.names.lookup y=some .cell\/scope.names.lookup y=some .free:=hy;rcases hy with hy | hy
  ·exact E5 hy
  ·exact absurd rfl (S.nofree _ (PySem.mem_of_lookup hy))
 ·exact Tb (x.above y c (PySem.mem_of_lookup h))
 ·have hi:i<vs.length:=by
   unfold start at h2;by_cases hi:i<vs.length
   ·exact hi
   ·rw[Rb (by simpa using hi)]at h2;rw[SY]at h2;split at h2<;>cases h2
  have ha:vs[i]?=some v:=by
   unfold start at h2;rw[RQ (by simpa using hi),RI]at h2;cases e:vs[i]? with
   | none=>rw[e]at h2;cases h2
   | some a=>rw[e]at h2;cases h2;rfl
  obtain⟨u,hu,rv⟩:=r.get ha
  have hp:ps[i]?=some y:=by
   rw[<-S.pre,Tz (by omega)];exact h1
  have ndP:ps.Nodup:=by rw[<-S.pre];exact S.nd.sublist (List.take_sublist _ _)
  refine⟨u,rv,?_⟩;rcases S.par y (RD hp) with k | k
  ·exact .inl ⟨k,D3 ndP hp hu k⟩
  ·obtain⟨c,e⟩:=E5 (n:=s.heap.objs.size+1) k;refine .inr ⟨.inl k,c,e,?_⟩;have q:=x.cell y c e;rw[D4 ndP hp hu (by show scope.names.lookup y≠_;rw[k];decide)]at q;exact q
 ·exact e0.hok.fresh (Tb (x.above y c (PySem.mem_of_lookup h)))
 ·unfold start;show _=N.length;rw[R9,RC,Th];omega
theorem PY{CX:CXT}{P:VC}{w:VG}{K:R8}{mg:Str->Option V4}{base:Heap}{k:Nat}{f:V7}{name qual:Str}{params:Arguments}{body:List Stmt}{scope:VI}{dV kV doc pm cdv ct oc:V4}{an od:Option V7}
 {osl:Array (Option V4)} {N ps:List Str} {sp:Sp} (lk:K.lookup f=some ⟨oc,od,.func (PySem.W.fnOf name qual params body scope dV kV doc pm an cdv ct),osl⟩) (hcd:PySem.W.codeIn K cdv qual=true) (S:FnScope N ps scope)
 (len:∀ vs H Q E,sp vs H Q E->vs.length=ps.length)
 (hbody:∀(A:VM) (outer:List Env) (s:V6) (H:Hp) (vs:List V) (Q:VK) (E:XK),Room k (A.deeper (envOfC qual scope s.heap.objs.size f cdv))->sp vs H Q E->
   ∃ t,PSs (FD CX P w K mg base N qual scope f cdv A outer s H E) body t/\t {nx:=fun _ H'=>Q .non H',rt:=Q} (start N vs) H):
 FnOk P w K mg base CX (k+1) f (PySem.W.fnOf name qual params body scope dV kV doc pm an cdv ct) ps sp:=by
 refine⟨len,fun A outer s H args us vs Q E hr e0 hb r hsp=>?_⟩;have hl:=len _ _ _ _ hsp;have KX:K.In s.heap:=e0.mod.kin.keeps fun b o e=>(e0.bs b o e).1;have lim:s.heap.NoLimit:=e0.mod.nolimit.keeps fun b o e=>(e0.bs b o e).1
 have hkind:∀ y∈ps.zip us,scope.names.lookup y.1=some .local\/(scope.names.lookup y.1=some .cell/\((VU (s.heap.objs.size+1) scope.names []).lookup y.1).isSome=true):=fun⟨n,v⟩ hy=>by
  rcases S.par n (Se hy).1 with q | q
  ·exact .inl q
  ·exact .inr ⟨q,PySem.W.cellsFrom_some _ _ _ (.inl q)⟩
 refine codeAny_call_function hr.depth (KX _ _ lk) rfl S.co S.gen rfl (PySem.W.codeRec_of KX hcd) (hb _ _ _ _ ?_);refine wpAny_newFunctionEnv_cells S.kind hkind fun env he s1 x=>?_;subst he;refine⟨lim.keeps x.toInCall.keep,codeAny_func ?_⟩;obtain⟨t,ht,hq⟩:=hbody A outer s H vs Q E (hr.deeper _) hsp;have I:Inv (FD CX P w K mg base N qual scope f cdv A outer s H E) [] (start N vs) H s1:=HU S hr.hd e0 hl r x;refine VR (ht [] s1 (start N vs) H _ I hq) (fun fl s' hs=>?_) fun e s' hs=>hs
 have fin:∀{σ':St} {H':Hp} {v:V} {u:V4},Inv (FD CX P w K mg base N qual scope f cdv A outer s H E) [] σ' H' s'->RelV v u->Q v H'->CE outer P w H s Q u s':=
  fun{σ' H' v u} J rv q=>⟨v,H',J.os,J.bare,J.base,J.hok,rv,q⟩
 cases fl with
 | ret u=>
   obtain⟨v,σ',H',J,rv,q⟩:=hs;exact fin J rv q
 | next=>
   obtain⟨σ',H',J,q⟩:=hs;exact fin (v:=V.non) (u:=Value.none) J rfl q
 | brk=>
   obtain⟨_,_,_,q⟩:=hs;exact False.elim q
 | cont=>
   obtain⟨_,_,_,q⟩:=hs;exact False.elim q
section
variable{X:Cx}{x:Str}{p pos:Pos}{e:Expr}{es:List Expr}{t:TA}{id T:String}{r:List V->Hp->VK->Prop}
noncomputable def tCB(r:List V->Hp->VK->Prop)(t:TA):TE:=fun σ H Q=>t σ H fun vs H1=>r vs H1 Q
theorem r6(hc:CallR X (.builtin id) r)(hg:Gl X x)(hm:X.mg x=none)(hv:VE x=some (.builtin id))(ha:PA X (e::es) t)(hn:x≠"__name__":=by decide)(hdb:(x == ("__debug__":Str))=false:=by decide)
 (he:VF (e::es) X.env=(false,eval e X.env)::VF es X.env:=by rfl) (hpl:(backTo pos (VF es X.env)).any (·.1)=false:=by rfl):PE X (.Call (.Name x p) (e::es) [] pos) (tCB r t):=by
 intro pq s σ H Q I h;refine VY (AC I hg hm hv ?_ hn hdb);exact PyProof.Rows.callWith_builtin1 (thn (ha pos pq s σ H _ I h) fun us s1 ⟨vs,H1,I1,r1,q1⟩=>hc pq s1 σ H1 vs us Q I1 r1 q1) he hpl
theorem w9(hc:CallR X (.type T) r)(hg:Gl X x)(hm:X.mg x=none)(hv:VE x=some (.type T))(ha:PA X (e::es) t)(hn:x≠"__name__":=by decide)(hdb:(x == ("__debug__":Str))=false:=by decide)
 (he:VF (e::es) X.env=(false,eval e X.env)::VF es X.env:=by rfl) (hpl:(backTo pos (VF es X.env)).any (·.1)=false:=by rfl):PE X (.Call (.Name x p) (e::es) [] pos) (tCB r t):=by
 intro pq s σ H Q I h;refine VY (AC I hg hm hv ?_ hn hdb);exact PyProof.Rows.callWith_type1 (thn (ha pos pq s σ H _ I h) fun us s1 ⟨vs,H1,I1,r1,q1⟩=>hc pq s1 σ H1 vs us Q I1 r1 q1) he hpl
end
end L2
namespace HT
open PySem PyProof.Rows
section
variable{prog:VC}{w:VG}{A:VM}{E:V4->V6->Prop}{s:V6}
noncomputable def sIx(n d:Nat):Option Int->Nat
 | none=>d
 | some v=>if v<0 then (v+(n:Int)).toNat else min v.toNat n
theorem sIx_none(n d:Nat):sIx n d none=d:=rfl
theorem sIx_nat(n d k:Nat):sIx n d (some (k:Int))=min k n:=by
 show(if (k:Int)<0 then ((k:Int)+(n:Int)).toNat else min (k:Int).toNat n)=min k n;rw[iG (by omega),Sq]
theorem Na(n d:Nat)(hd:d<=n)(o:Option Int):sIx n d o<=n:=by
 cases o with
 | none=>exact hd
 | some v=>
   show(if v<0 then (v+(n:Int)).toNat else min v.toNat n)<=n;by_cases hv:v<0
   ·rw[iP hv];omega
   ·rw[iG hv];exact Nat.min_le_right _ _
theorem G8(v:Int)(n d:Nat):(if v<0 then max (v+(n:Int)) 0 else min v (n:Int))=((sIx n d (some v):Nat):Int):=by
 show(if v<0 then max (v+(n:Int)) 0 else min v (n:Int))=(((if v<0 then (v+(n:Int)).toNat else min v.toNat n):Nat):Int)
 by_cases hv:v<0
 ·simp only[iP hv];omega
 ·simp only[iG hv];omega
theorem FE(lo hi:Option Int)(n:Nat):Builtin.Slice.sliceAdjust lo hi 1 (n:Int)=(((sIx n 0 lo:Nat):Int),((sIx n n hi:Nat):Int)):=by
 have h1:¬ ((1:Int)<0):=by omega
 unfold Builtin.Slice.sliceAdjust;simp only[h1,if_false];refine Prod.ext ?_ ?_
 ·cases lo with
  | none=>rfl
  | some v=>exact G8 v n 0
 ·cases hi with
  | none=>rfl
  | some v=>exact G8 v n n
theorem FF(i j:Nat):Builtin.Slice.slicePlaces (i:Int) (j:Int) 1=j - i:=by
 unfold Builtin.Slice.slicePlaces;have h1:(1:Int)>0:=by omega
 simp only[h1,if_true,Int.ediv_one];split<;>omega
theorem CB{v:V4}{o:Option Int}{Q:Option Int->V6->Prop}(p:IsPart v o)(h:Q o s):VA (VB prog w) A (Builtin.Slice.slicePartIndex v) Q E s:=by
 cases p with
 | none=>exact Wv h
 | int i t=>exact slicePart_int h
theorem AL{sl:V7}{vl vu:V4}{lo hi:Option Int}{n:Nat}{Q:Int×Int×Nat->V6->Prop}(hs:s.heap.IsSliceOf sl vl vu .none)(pl:IsPart vl lo)(pu:IsPart vu hi)
 (h:Q (((sIx n 0 lo:Nat):Int),1,sIx n n hi - sIx n 0 lo) s):VA (VB prog w) A (Builtin.Slice.sliceApplied (.ref sl) (pure (n:Int))) Q E s:=by
 obtain⟨os,hos,hcs,hds⟩:=id hs;unfold Builtin.Slice.sliceApplied Builtin.Slice.sliceFields;refine V5 (V5 (Vo hos hds (x:=vl) rfl (V5 (Vo hos hds (x:=vu) rfl (V5 (Vo hos hds (x := .none) rfl (V8 ?_)))))));refine V5 (Wv ?_);show VA _ _ (if ((1:Int) == 0)=true then _ else _) _ _ s;rw[iG (by decide)];refine V5 (CB pl (V5 (CB pu (V5 (V8 ?_)))));show VA _ _ (match Builtin.Slice.sliceAdjust lo hi 1 (n:Int) with | (lo,hi)=>pure (lo,(1:Int),Builtin.Slice.slicePlaces lo hi 1)) _ _ s;rw[FE lo hi n];show VA _ _ (pure (((sIx n 0 lo:Nat):Int),(1:Int),Builtin.Slice.slicePlaces ((sIx n 0 lo:Nat):Int) ((sIx n n hi:Nat):Int) 1)) _ _ s;rw[FF];exact V8 h
theorem Im(xs:Array V4)(i k:Nat):((RL k).filterMap fun(m:Nat)=>xs[((i:Int)+(m:Int) * 1).toNat]?).toArray=((xs.toList.drop i).take k).toArray:=by
 have e:(fun(m:Nat)=>xs[((i:Int)+(m:Int) * 1).toNat]?)=fun m=>xs[i+m]?:=by
  funext m
  have:((i:Int)+(m:Int) * 1).toNat=i+m:=by omega
  rw[this]
 rw[e];have:=pick_run xs i k;rw[List.filterMap_map]at this;have e2:((fun x=>xs[x]?)∘fun x=>i+x)=fun m=>xs[i+m]?:=rfl;rw[e2]at this;rw[this]
theorem getItem_tuple_cut{t sl:V7}{items:Array V4}{vl vu:V4}{lo hi:Option Int}{Q:V4->V6->Prop}(ht:IsTup s.heap t items)(hs:s.heap.IsSliceOf sl vl vu .none)(pl:IsPart vl lo)(pu:IsPart vu hi)
 (hw:¬ (sIx items.size 0 lo=0/\sIx items.size items.size hi=items.size))
 (h:Q (.ref s.heap.objs.size) {s with heap:=s.heap.push {cls := .type "tuple",data := .seq ((items.toList.drop (sIx items.size 0 lo)).take (sIx items.size items.size hi - sIx items.size 0 lo)).toArray}})
 (hsz:items.size<=V9):VA (VB prog w) A (getItem (.ref t) (.ref sl)) Q E s:=by
 have htake:sizeOk (.seq ((items.toList.drop (sIx items.size 0 lo)).take (sIx items.size items.size hi - sIx items.size 0 lo)).toArray):=by
  show((items.toList.drop (sIx items.size 0 lo)).take (sIx items.size items.size hi - sIx items.size 0 lo)).toArray.size<=V9;rw[RF,Rg,Rr,TU];omega
 have hj:sIx items.size items.size hi<=items.size:=Na _ _ (RE _) hi;obtain⟨os,hos,hcs,hds⟩:=id hs;have hTs:s.TypeIs (.ref sl) "slice":=⟨os,hos,hcs⟩
 unfold getItem
 try with_reducible refine Vb ?_
 first | refine V5 (V8 ?_) | skip
 refine V5 (Wh ht.typeIs (by decide) ?_)
 refine V5 (Ve (name:=Str.ofString "__getitem__") ht.typeIs PyProof.Rows.slot_tuple_getitem
  (Vt PyProof.Rows.slot_tuple_getitem ht.typeIs Wa ?_ (We _ _)))
 show VA _ _ (Builtin.Tuple.tupleItemsOf (.ref t) >>= _) _ _ s;refine V5 (tupleItemsOf_ ht ?_);refine V5 (Wi hTs ?_);rw[iP (by decide)];refine V5 (AL hs pl pu ?_)
 have hno:¬ ((((sIx items.size 0 lo:Nat):Int) == 0&&(1:Int) == 1&&(sIx items.size items.size hi - sIx items.size 0 lo) == items.size)=true):=by
  intro q;rw[RA,RA]at q;have q1:((sIx items.size 0 lo:Nat):Int)=0:=eq_of_beq q.1.1;have q2:sIx items.size items.size hi - sIx items.size 0 lo=items.size:=eq_of_beq q.2;exact hw ⟨by omega,by omega⟩
 show VA _ _ (if (((sIx items.size 0 lo:Nat):Int) == 0&&(1:Int) == 1&&(sIx items.size items.size hi - sIx items.size 0 lo) == items.size)=true then _ else _) _ _ s;rw[iG hno,Im]
 first
  | exact V5 (m:=Builtin.Tuple.tupleExact _) (VP (V8 ⟨_,rfl,V8 h⟩) htake)
  | exact V5 (m:=Builtin.Tuple.tupleExact _) (VP (V5 (V8 (V8 ⟨_,rfl,V8 h⟩))) htake)
  | exact V5 (V5 (m:=Builtin.Tuple.tupleExact _) (VP (V8 (V8 ⟨_,rfl,V8 h⟩)) htake))
  | exact V5 (V5 (m:=Builtin.Tuple.tupleExact _) (VP (V8 ⟨_,rfl,V8 h⟩) htake))
end
end HT
namespace L2
open PySem PySem.Spec PyProof.Rows
noncomputable abbrev TO:=St->Hp->(Option Int->Hp->Prop)->Prop
noncomputable def PO(X:Cx)(e:Option Expr)(t:TO):Prop:=
 ∀(pq:List (V7×Obj)) (s:V6) (σ:St) (H:Hp) (Q:Option Int->Hp->Prop),Inv X pq σ H s->t σ H Q->
  VA (VB X.prog X.w) X.A (evalPart e X.env) (fun u s'=>∃ o H',Inv X pq σ H' s'/\IsPart u o/\Q o H') X.xe s
noncomputable def L7:TO:=fun _ H Q=>Q none H
noncomputable def PZ(t:TE):TO:=fun σ H Q=>t σ H fun x H1=>∃ i,x = .int i/\Q (some i) H1
section
variable{X:Cx}{e:Expr}{te:TE}{lo hi:Option Expr}{tl th:TO}{pos p2:Pos}
theorem L8:PO X none L7:=by
 intro pq s σ H Q I h;rw[evalPart_none];exact V8 ⟨none,H,I,.none,h⟩
theorem L9(h:PE X e te):PO X (some e) (PZ te):=by
 intro pq s σ H Q I hw;rw[evalPart_some];refine thn (h pq s σ H _ I hw) fun u s1 ⟨x,H1,I1,r1,q1⟩=>?_;obtain⟨i,rfl,q⟩:=q1;obtain⟨t,rfl⟩:=r1;exact⟨some i,H1,I1,.int i t,q⟩
noncomputable def SlR(X:Cx)(r:V->Option Int->Option Int->Hp->VK->Prop):Prop:=
 ∀(pq:List (V7×Obj)) (s:V6) (σ:St) (H:Hp) (x:V) (v vl vu:V4) (lo hi:Option Int) (sl:V7) (Q:VK),Inv X pq σ H s->RelV x v->s.heap.IsSliceOf sl vl vu .none->IsPart vl lo->IsPart vu hi->r x lo hi H Q->
  ∃ T id,typeLookup (.type T) "__getitem__"=pure (some (.builtin id))/\s.TypeIs v T/\VA (VB X.prog X.w) X.A (getItem v (.ref sl)) (EP X pq σ Q) X.xe s
theorem SlR.or{r r':V->Option Int->Option Int->Hp->VK->Prop}(h:SlR X r)(h':SlR X r'):SlR X (fun x lo hi H Q=>r x lo hi H Q\/r' x lo hi H Q):=by
 intro pq s σ H x v vl vu lo hi sl Q I rx hs pl pu q;rcases q with q | q
 ·exact h pq s σ H x v vl vu lo hi sl Q I rx hs pl pu q
 ·exact h' pq s σ H x v vl vu lo hi sl Q I rx hs pl pu q
noncomputable def tSl(r:V->Option Int->Option Int->Hp->VK->Prop)(te:TE)(tl th:TO):TE:=fun σ H Q=>te σ H fun x H1=>tl σ H1 fun l H2=>th σ H2 fun u H3=>r x l u H3 Q
theorem Io{r:V->Option Int->Option Int->Hp->VK->Prop}(hr:SlR X r)(he:PE X e te)(hl:PO X lo tl)(hu:PO X hi th):PE X (.Subscript e (.Slice lo hi none p2) pos) (tSl r te tl th):=by
 intro pq s σ H Q I h;refine Subscript_ (thn (he pq s σ H _ I h) fun v s1 ⟨x,H1,I1,r1,q1⟩=>?_);refine wpAny_Slice (thn (hl pq s1 σ H1 _ I1 q1) fun vl s2 ⟨l,H2,I2,pl,q2⟩=>thn (hu pq s2 σ H2 _ I2 q2) fun vu s3 ⟨u,H3,I3,pu,q3⟩=>?_);rw[evalPart_none];refine V8 ?_;have I4:Inv X pq σ H3 {s3 with heap:=s3.heap.push {cls := .type "slice",data := .fields #[vl,vu,.none]}}:=I3.kept (t':=s3.toks) fun b ob q=>RJ _ q;obtain⟨T,id,hT,ht,hg⟩:=hr pq {s3 with heap:=s3.heap.push {cls := .type "slice",data := .fields #[vl,vu,.none]}} σ H3 x v vl vu l u s3.heap.objs.size Q I4 r1 (Heap.IsSliceOf.new ..) pl pu q3;show VA (VB X.prog X.w) X.A (subscriptTail e (.Slice lo hi none p2) v (.ref s3.heap.objs.size)) (EP X pq σ Q) X.xe {s3 with heap:=s3.heap.push {cls := .type "slice",data := .fields #[vl,vu,.none]}};exact tail_any (ops:=[.ref s3.heap.objs.size,v]) ht hT hg (by with_unfolding_all rfl)
noncomputable def E6(xs:List V)(lo hi:Option Int):List V:=(xs.drop (HT.sIx xs.length 0 lo)).take (HT.sIx xs.length xs.length hi - HT.sIx xs.length 0 lo)
theorem Bn(xs:List V)(lo hi:Option Int):(E6 xs lo hi).length<=xs.length:=by
 unfold E6;rw[Rg,Rr];omega
noncomputable def Pa(K:R8):V->Option Int->Option Int->Hp->VK->Prop:=fun x lo hi H Q=>∃ a xs,x = .ref a/\SqT K H a xs/\
 ¬ (HT.sIx xs.length 0 lo=0/\HT.sIx xs.length xs.length hi=xs.length)/\∀ p,H p=none->Q (.ref p) (upd H p (.tup (E6 xs lo hi)))
theorem sl_tup:SlR X (Pa X.K):=by
 intro pq s σ H x v vl vu lo hi sl Q I rx hs pl pu h;obtain⟨a,xs,rfl,hx,hw,q⟩:=h;cases rx;obtain⟨its,r,ht,hz⟩:=I.tuple hx;have hlen:its.toArray.size=xs.length:=by rw[RF];exact r.length.symm
 refine⟨"tuple",_,PyProof.Rows.slot_tuple_getitem.lookup,ht.typeIs,?_⟩;refine HT.getItem_tuple_cut ht hs pl pu (by rw[hlen];exact hw) ?_ (by rw[hlen];exact hz);rw[hlen];refine⟨.ref s.heap.objs.size,_,I.laid (t':=s.toks) (o := .tup (E6 xs lo hi)) (fun b ob q=>RJ _ q) (RE _) ?_,rfl,q _ (I.hok.fresh (RE _))⟩;exact⟨Rn (Bn xs lo hi) hz,_,(r.drop (HT.sIx xs.length 0 lo)).take (HT.sIx xs.length xs.length hi - HT.sIx xs.length 0 lo),IsTup.new _ _⟩
end
noncomputable def ixN(n:Nat)(i:Int):Option Nat:=if 0<=i then (if i<n then some i.toNat else none) else if -(n:Int)<=i then some (i+n).toNat else none
noncomputable def atI{α:Type}(xs:List α)(i:Int):Option α:=(ixN xs.length i).bind fun j=>xs[j]?
theorem G9{n:Nat}{i:Int}{j:Nat}(h:ixN n i=some j):X6 i n=some j/\j<n /\ -(n:Int)<=i/\i<n:=by
 unfold ixN at h;by_cases h0:0<=i
 ·rw[iP h0]at h;by_cases h1:i<n
  ·rw[iP h1]at h;have e:i.toNat=j:=oj h;exact⟨by rw[Wo h0 h1,e],by omega,by omega,h1⟩
  ·rw[iG h1]at h;cases h
 ·rw[iG h0]at h;by_cases h1:-(n:Int)<=i
  ·rw[iP h1]at h;have e:(i+n).toNat=j:=oj h;exact⟨by rw[Wj (by omega) h1,e],by omega,h1,by omega⟩
  ·rw[iG h1]at h;cases h
theorem GA{α:Type}{xs:List α}{i:Int}{v:α}(h:atI xs i=some v):∃ j,X6 i xs.length=some j/\xs[j]?=some v/\j<xs.length /\ -(xs.length:Int)<=i/\i<xs.length:=by
 unfold atI at h;cases e:ixN xs.length i with
 | none=>rw[e]at h;cases h
 | some j=>
   rw[e]at h;obtain⟨h1,h2,h3,h4⟩:=G9 e;exact⟨j,h1,h,h2,h3,h4⟩
theorem f7{α:Type}{xs:List α}{j:Nat}{v:α}(h:xs[j]?=some v):atI xs (j:Int)=some v:=by
 have hj:j<xs.length:=(gM h).1
 have e:ixN xs.length (j:Int)=some j:=by
  unfold ixN;rw[iP (by omega),iP (by omega)];simp
 unfold atI;rw[e];exact h
noncomputable def GB(b:Expr):Prop:=∀ o i,subscripted b false o i=operate [o,i] (getItem o i)
noncomputable def IxR(X:Cx)(r:R2):Prop:=
 ∀(value slice:Expr) (pq:List (V7×Obj)) (s:V6) (σ:St) (H:Hp) (x y:V) (v u:V4) (Q:VK),Inv X pq σ H s->RelV x v->RelV y u->r x y H Q->
  subscripted slice false v u=operate [v,u] (getItem v u)->VA (VB X.prog X.w) X.A (subscriptTail value slice v u) (EP X pq σ Q) X.xe s
noncomputable def MtR(X:Cx)(id:String)(r:V->List V->Hp->VK->Prop):Prop:=
 ∀(pq:List (V7×Obj)) (s:V6) (σ:St) (H:Hp) (x:V) (xs:List V) (v:V4) (us:List V4) (Q:VK),Inv X pq σ H s->RelV x v->Vals xs us->r x xs H Q->
  VA (VB X.prog X.w) X.A (call (.builtin id) (v::us)) (EP X pq σ Q) X.xe s
section
variable{X:Cx}{a b:Expr}{ta tb:TE}{pos:Pos}
theorem IxR.or{r r':R2}(h:IxR X r)(h':IxR X r'):IxR X (fun x y H Q=>r x y H Q\/r' x y H Q):=by
 intro value slice pq s σ H x y v u Q I rx ry q hs;rcases q with q | q
 ·exact h value slice pq s σ H x y v u Q I rx ry q hs
 ·exact h' value slice pq s σ H x y v u Q I rx ry q hs
theorem Pb{r:R2}(hr:IxR X r)(ha:PE X a ta)(hb:PE X b tb)(hs:GB b):PE X (.Subscript a b pos) (tOp r ta tb):=by
 intro pq s σ H Q I h;exact Subscript_ (NN ha hb I h fun v u s2 x y H2 I2 rx ry q=>hr a b pq s2 σ H2 x y v u Q I2 rx ry q (hs _ _))
noncomputable def Pc(K:R8):R2:=fun x y H Q=>∃ p xs i v,x = .ref p/\y = .int i/\SqL K H p xs/\atI xs i=some v/\Q v H
noncomputable def Pd(K:R8):R2:=fun x y H Q=>∃ p xs i v,x = .ref p/\y = .int i/\SqT K H p xs/\atI xs i=some v/\Q v H
theorem ix_list:IxR X (Pc X.K):=by
 intro value slice pq s σ H x y v u Q I rx ry h hs;obtain⟨p,xs,i,z,rfl,rfl,hq,he,q⟩:=h;cases rx;obtain⟨t,rfl⟩:=ry;obtain⟨its,r,pl,hz⟩:=I.list hq;obtain⟨j,h1,h2,h3,h4,h5⟩:=GA he;obtain⟨w,ew,rw'⟩:=r.get h2;have hl:=r.length;have hn:=BX;have fin:EP X pq σ Q w s:=⟨z,H,I,rw',q⟩
 by_cases h0:0<=i
 ·have hj:i.toNat=j:=by
   rw[Wo h0 h5]at h1;exact oj h1
  exact item_listR pl.isList h0 (by omega) (by rw[hj];simpa using ew) fin hs
 ·have hj:(i+(its.toArray.size:Int)).toNat=j:=by
   rw[Wj (by omega) h4]at h1;rw[RF,<-hl];exact oj h1
  exact WG (x:=w) pl.isList.typeIs slot_list_getitem.lookup
   (wpAny_getItem_list_neg (Q:=fun r s'=>r=w/\EP X pq σ Q r s') pl.isList (by omega) (by rw[RF]<;>omega) (by omega) (by rw[hj];simpa using ew) ⟨rfl,fin⟩) hs
theorem Nb:IxR X (Pd X.K):=by
 intro value slice pq s σ H x y v u Q I rx ry h hs;obtain⟨p,xs,i,z,rfl,rfl,hq,he,q⟩:=h;cases rx;obtain⟨t,rfl⟩:=ry;obtain⟨its,r,pl,hz⟩:=I.tuple hq;obtain⟨j,h1,h2,h3,h4,h5⟩:=GA he;obtain⟨w,ew,rw'⟩:=r.get h2;have hl:=r.length;have hn:=BX;have fin:EP X pq σ Q w s:=⟨z,H,I,rw',q⟩
 exact WG (x:=w) pl.typeIs slot_tuple_getitem.lookup
  (getItem_tuple (j:=j) (Q:=fun r s'=>r=w/\EP X pq σ Q r s') pl (by omega) (by omega) (by rw[RF,<-hl];exact h1) (by simpa using ew) ⟨rfl,fin⟩) hs
theorem FG(its:List V4)(n j:Nat)(u:V4):Obj.mapSeq (·.setIfInBounds j u) {cls := .type "list",data := .seq its.toArray n}={cls := .type "list",data := .seq (its.set j u).toArray n}:=by
 simp[Obj.mapSeq]
theorem Inv.lst{pq:List (V7×Obj)}{σ:St}{H:Hp}{s:V6}{p:V7}{xs:List V}(I:Inv X pq σ H s)(h:H p=some (.lst xs)):
 ∃(its:List V4) (n:Nat),Vals xs its/\s.heap.get? p=some {cls := .type "list",data := .seq its.toArray n}/\xs.length<=V9:=by
 obtain⟨z,its,n,r,e⟩:=I.hok p _ h;exact⟨its,n,r,e,z⟩
theorem Inv.lstUpd{pq:List (V7×Obj)}{σ:St}{H:Hp}{s:V6}{p:V7}{xs ys:List V}{its its':List V4}{n n':Nat}{f:Obj->Obj}(I:Inv X pq σ H s)(h:H p=some (.lst xs))
 (ho:s.heap.get? p=some {cls := .type "list",data := .seq its.toArray n}) (hf:f {cls := .type "list",data := .seq its.toArray n}={cls := .type "list",data := .seq its'.toArray n'}) (r:Vals ys its') (hz:ys.length<=V9) (t:Nat):
 Inv X pq σ (upd H p (.lst ys)) {s with heap:=s.heap.update p f,toks:=t}:=by
 have e:(s.heap.update p f).get? p=some {cls := .type "list",data := .seq its'.toArray n'}:=by
  rw[UH f ho (by rw[hf]<;>rfl),hf]
 refine I.write (x:=p) (e:=p) (by rw[h];trivial) (.inl rfl) (fun b u hb q=>(UA _ _ (Ne.symm hb)).trans q) ⟨_,e⟩ ?_;exact⟨hz,its',n',r,e⟩
noncomputable def Ip:V->V->V->Hp->(Hp->Prop)->Prop:=fun o i v H Q=>∃ p xs k j,o = .ref p/\i = .int k/\H p=some (.lst xs)/\ixN xs.length k=some j/\Q (upd H p (.lst (xs.set j v)))
theorem Iq:P5 X Ip:=by
 intro pq s σ H o i v ov iv u Q I ro ri rv h;obtain⟨p,xs,k,j,rfl,rfl,hp,hj,q⟩:=h;cases ro;obtain⟨t,rfl⟩:=ri;obtain⟨its,n,r,ho,hz⟩:=I.lst hp;obtain⟨h1,h2,h3,h4⟩:=G9 hj;have hl:=r.length;have hn:=BX
 have I':Inv X pq σ (upd H p (.lst (xs.set j v))) {s with heap:=s.heap.update p (Obj.mapSeq (·.setIfInBounds j u))}:=
  I.lstUpd hp ho (FG its n j u) (r.set rv j) (by rw[RP];exact hz) s.toks
 by_cases h0:0<=k
 ·have hk:k.toNat=j:=by
   rw[Wo h0 h4]at h1;exact oj h1
  exact PySem.W.ki_setAt ho h0 (by omega) (by rw[RF,<-hl];exact h4) (by rw[hk];exact⟨_,I',q⟩)
 ·have hk:(k+(its.toArray.size:Int)).toNat=j:=by
   rw[Wj (by omega) h3]at h1;rw[RF,<-hl];exact oj h1
  exact PySem.W.ki_setBack ho (by omega) (by rw[RF,<-hl];exact h3) (by omega) (by rw[hk];exact⟨_,I',q⟩)
theorem DS(lo hi:Option Int)(n:Nat):(Vp lo hi none n).1=((HT.sIx n 0 lo:Nat):Int)/\(Vp lo hi none n).2.1=((HT.sIx n n hi:Nat):Int)/\(Vp lo hi none n).2.2=1:=by
 refine⟨?_,?_,rfl⟩
 ·cases lo with
  | none=>simp[Vp,HT.sIx]
  | some i=>
    simp only[Vp,HT.sIx,Ub,show(1:Int)>0 by decide,if_true];by_cases h:i<0
    ·simp only[h,if_true]<;>omega
    ·simp only[h,if_false]<;>omega
 ·cases hi with
  | none=>simp[Vp,HT.sIx]
  | some i=>
    simp only[Vp,HT.sIx,Ub,show(1:Int)>0 by decide,if_true];by_cases h:i<0
    ·simp only[h,if_true]<;>omega
    ·simp only[h,if_false]<;>omega
theorem Co(its:List V4)(lo hi:Option Int):slicePick its.toArray lo hi none=((its.drop (HT.sIx its.length 0 lo)).take (HT.sIx its.length its.length hi - HT.sIx its.length 0 lo)).toArray:=by
 obtain⟨h1,h2,h3⟩:=DS lo hi its.toArray.size;unfold slicePick;rw[h1,h2,h3];simp only[sliceRange_one,pick_run,RF]<;>rfl
noncomputable def Pe(K:R8):V->Option Int->Option Int->Hp->VK->Prop:=fun x lo hi H Q=>∃ a xs,x = .ref a/\SqL K H a xs/\∀ p,H p=none->Q (.ref p) (upd H p (.lst (E6 xs lo hi)))
theorem sl_list:SlR X (Pe X.K):=by
 intro pq s σ H x v vl vu lo hi sl Q I rx hs pl pu h;obtain⟨a,xs,rfl,hx,q⟩:=h;cases rx;obtain⟨its,r,ht,hz⟩:=I.list hx;have hlen:=r.length;refine⟨"list",_,slot_list_getitem.lookup,ht.isList.typeIs,?_⟩;refine wpAny_getItem_list_slice ht.isList hs pl pu .none (by simp) ?_ (by rw[RF]<;>omega);rw[Co,<-hlen];refine⟨.ref s.heap.objs.size,_,I.laid (t':=s.toks) (o := .lst (E6 xs lo hi)) (fun b ob q=>RJ _ q) (RE _) ?_,rfl,q _ (I.hok.fresh (RE _))⟩;exact⟨Rn (Bn xs lo hi) hz,_,0,(r.drop (HT.sIx xs.length 0 lo)).take (HT.sIx xs.length xs.length hi - HT.sIx xs.length 0 lo),RY _ rfl⟩
noncomputable def u8:V->Bool
 | .non=>true
 | .bl _=>true
 | .int _=>true
 | .str _=>true
 | _=>false
noncomputable def eqV:V->V->Bool
 | .non,.non=>true
 | .bl a,.bl b=>a == b
 | .bl a,.int b=>(if a then 1 else 0) == b
 | .int a,.bl b=>a == (if b then 1 else 0)
 | .int a,.int b=>a == b
 | .str a,.str b=>a == b
 | _,_=>false
theorem Ir{A:VM}{s:V6}{y x:V}{u v:V4}(ry:RelV y u)(rx:RelV x v)(fy:u8 y=true)(fx:u8 x=true):SeqAt.EqAt A s u v (eqV y x):=by
 cases y with
 | non=>
   cases ry;cases x with
   | non=>cases rx;exact SeqAt.EqAt.same _
   | bl b=>cases rx;exact SeqAt.EqAt.none_bool b
   | int b=>obtain⟨t,rfl⟩:=rx;exact SeqAt.EqAt.none_int b t
   | str b=>obtain⟨t,rfl⟩:=rx;exact SeqAt.EqAt.none_str b t
   | _=>exact absurd (show false=true from fx) RH
 | bl a=>
   cases ry;cases x with
   | non=>cases rx;exact SeqAt.EqAt.bool_none a
   | bl b=>cases rx;exact SeqAt.EqAt.bool_bool a b
   | int b=>obtain⟨t,rfl⟩:=rx;exact SeqAt.EqAt.bool_int a b t
   | str b=>obtain⟨t,rfl⟩:=rx;exact SeqAt.EqAt.bool_str a b t
   | _=>exact absurd (show false=true from fx) RH
 | int a=>
   obtain⟨t',rfl⟩:=ry;cases x with
   | non=>cases rx;exact SeqAt.EqAt.int_none a t'
   | bl b=>cases rx;exact SeqAt.EqAt.int_bool a t' b
   | int b=>obtain⟨t,rfl⟩:=rx;exact SeqAt.EqAt.int_int a t' b t
   | str b=>obtain⟨t,rfl⟩:=rx;exact SeqAt.EqAt.int_str a t' b t
   | _=>exact absurd (show false=true from fx) RH
 | str a=>
   obtain⟨t',rfl⟩:=ry;cases x with
   | non=>cases rx;exact SeqAt.EqAt.str_none a t'
   | bl b=>cases rx;exact SeqAt.EqAt.str_bool a t' b
   | int b=>obtain⟨t,rfl⟩:=rx;exact SeqAt.EqAt.str_int a t' b t
   | str b=>obtain⟨t,rfl⟩:=rx;exact SeqAt.EqAt.str_str a t' b t
   | _=>exact absurd (show false=true from fx) RH
 | _=>exact absurd (show false=true from fy) RH
noncomputable def eqU(x:V)(u:V4):Bool:=match u with
 | .none=>eqV .non x
 | .bool b=>eqV (.bl b) x
 | .int i _=>eqV (.int i) x
 | .str z _=>eqV (.str z) x
 | _=>false
theorem Iu{x y:V}{u:V4}(r:RelV y u)(f:u8 y=true):eqU x u=eqV y x:=by
 cases y with
 | non=>cases r;rfl
 | bl b=>cases r;rfl
 | int i=>obtain⟨t,rfl⟩:=r;rfl
 | str z=>obtain⟨t,rfl⟩:=r;rfl
 | _=>exact absurd (show false=true from f) RH
theorem BE{x:V}:∀{xs:List V} {us:List V4},Vals xs us->xs.all u8=true->us.any (eqU x)=xs.any fun y=>eqV y x
 | _,_,.nil,_=>rfl
 | y::xs,u::us,.cons r t,f=>by
   rw[SF,RA]at f;rw[SX,SX,Iu r f.1,BE t f.2]
theorem Ap{A:VM}{s:V6}{x:V}{v:V4}(rx:RelV x v)(fx:u8 x=true):∀{xs:List V} {us:List V4},Vals xs us->xs.all u8=true->∀ u∈us,SeqAt.EqAt A s u v (eqU x u)
 | _,_,.nil,_=>fun u hu=>by cases hu
 | y::xs,u::us,.cons r t,f=>fun u' hu=>by
   rw[SF,RA]at f;rcases RM.mp hu with rfl | hu
   ·rw[Iu r f.1];exact Ir r rx f.1 fx
   ·exact Ap rx fx t f.2 u' hu
noncomputable def inV(x:V)(xs:List V):Bool:=xs.any fun y=>eqV y x
noncomputable def rIn(K:R8)(neg:Bool):R2:=fun x y H Q=>∃ p xs,y = .ref p/\(SqL K H p xs\/SqT K H p xs)/\u8 x=true/\xs.all u8=true/\Q (.bl (if neg then !inV x xs else inV x xs)) H
theorem HV:OpR X (VL .In) (rIn X.K false):=by
 intro pq s σ H x y v u Q I rx ry h;obtain⟨p,xs,rfl,hq,fx,fs,q⟩:=h;cases ry;rcases hq with hq | hq
 ·obtain⟨its,r,pl,hz⟩:=I.list hq;refine SeqAt.in_listAt (eqU x) pl.isList (fun w hw=>Ap rx fx r fs w (by simpa using hw)) ⟨.bl _,H,I,rfl,?_⟩;rw[show its.toArray.any (eqU x)=its.any (eqU x) by simp,BE r fs];exact q
 ·obtain⟨its,r,pl,hz⟩:=I.tuple hq;refine SeqAt.in_tupleAt (eqU x) pl (fun w hw=>Ap rx fx r fs w (by simpa using hw)) ⟨.bl _,H,I,rfl,?_⟩;rw[show its.toArray.any (eqU x)=its.any (eqU x) by simp,BE r fs];exact q
theorem DT:OpR X (VL .NotIn) (rIn X.K true):=by
 intro pq s σ H x y v u Q I rx ry h;obtain⟨p,xs,rfl,hq,fx,fs,q⟩:=h;cases ry;rcases hq with hq | hq
 ·obtain⟨its,r,pl,hz⟩:=I.list hq;refine SeqAt.notIn_listAt (eqU x) pl.isList (fun w hw=>Ap rx fx r fs w (by simpa using hw)) ⟨.bl _,H,I,rfl,?_⟩;rw[show its.toArray.any (eqU x)=its.any (eqU x) by simp,BE r fs];exact q
 ·obtain⟨its,r,pl,hz⟩:=I.tuple hq;refine SeqAt.notIn_tupleAt (eqU x) pl (fun w hw=>Ap rx fx r fs w (by simpa using hw)) ⟨.bl _,H,I,rfl,?_⟩;rw[show its.toArray.any (eqU x)=its.any (eqU x) by simp,BE r fs];exact q
theorem DU:CallR X (.builtin "len") (fun xs H Q=>∃ p ys,xs=[.ref p]/\(SqL X.K H p ys\/SqT X.K H p ys)/\Q (.int ys.length) H):=by
 intro pq s σ H xs us Q I r h;obtain⟨p,ys,rfl,hq,q⟩:=h;obtain⟨u,rfl,rx⟩:=w6 r;cases rx;have hn:=BX;rcases hq with hq | hq
 ·obtain⟨its,r',pl,hz⟩:=I.list hq;have hlen:=r'.length;exact Calls.call_len_list pl.isList (by simp only[RF]<;>omega) ⟨.int ys.length,H,I.tok _,⟨s.toks+1,by rw[RF,hlen]⟩,q⟩
 ·obtain⟨its,r',pl,hz⟩:=I.tuple hq;have hlen:=r'.length;exact len_tuple pl (by simp only[RF]<;>omega) ⟨.int ys.length,H,I.tok _,⟨s.toks+1,by rw[RF,hlen]⟩,q⟩
theorem CallR.or{f:V4}{r r':List V->Hp->VK->Prop}(h:CallR X f r)(h':CallR X f r'):CallR X f (fun xs H Q=>r xs H Q\/r' xs H Q):=by
 intro pq s σ H xs us Q I rs q;rcases q with q | q
 ·exact h pq s σ H xs us Q I rs q
 ·exact h' pq s σ H xs us Q I rs q
theorem DV:CallR X (.type "list") (fun xs H Q=>∃ p ys,xs=[.ref p]/\(SqL X.K H p ys\/SqT X.K H p ys)/\∀ l,H l=none->Q (.ref l) (upd H l (.lst ys))):=by
 intro pq s σ H xs us Q I r h;obtain⟨p,ys,rfl,hq,q⟩:=h;obtain⟨u,rfl,rx⟩:=w6 r;cases rx
 have fin:∀(its:List V4),Vals ys its->ys.length<=V9->∀(h':Heap) (c':Nat),(∀ b o',s.heap.get? b=some o'->h'.get? b=some o')->
  h'.get? s.heap.objs.size=some {cls := .type "list",dict:=none,data := .seq its.toArray c',slots:=#[]}->EP X pq σ Q (.ref s.heap.objs.size) {s with heap:=h'}:=fun its r' hz h' c' kp e=>
  ⟨.ref s.heap.objs.size,_,I.laid (t':=s.toks) kp (RE _) (show ObjOk X.prog X.w _ h' _ (.lst ys) from ⟨hz,its,c',r',e⟩),rfl,q _ (I.hok.fresh (RE _))⟩
 rcases hq with hq | hq
 ·obtain⟨its,r',pl,hz⟩:=I.list hq;have hlen:=r'.length;obtain⟨o,ho,hc,n,hd⟩:=pl.isList;exact call_list_seq p (.inl rfl) ho hc hd (fun h' c' kp e=>fin its r' hz h' c' kp e) (by simp only[RF]<;>omega)
 ·obtain⟨its,r',pl,hz⟩:=I.tuple hq;have hlen:=r'.length;obtain⟨o,ho,hc,n,hd⟩:=pl;exact call_list_seq p (.inr rfl) ho hc hd (fun h' c' kp e=>fin its r' hz h' c' kp e) (by simp only[RF]<;>omega)
theorem Cp:CallR X (.type "tuple") (fun xs H Q=>∃ p ys,xs=[.ref p]/\((SqL X.K H p ys/\∀ l,H l=none->Q (.ref l) (upd H l (.tup ys)))\/(SqT X.K H p ys/\Q (.ref p) H))):=by
 intro pq s σ H xs us Q I r h;obtain⟨p,ys,rfl,h⟩:=h;obtain⟨u,rfl,rx⟩:=w6 r;cases rx;rcases h with⟨hq,q⟩ | ⟨hq,q⟩
 ·obtain⟨its,r',pl,hz⟩:=I.list hq;have hlen:=r'.length;refine call_tuple_list pl.isList (fun h' kp=>?_) (by simp only[RF]<;>omega);have I1:Inv X pq σ H {s with heap:=h'}:=I.kept (t':=s.toks) kp
  have I2:Inv X pq σ (upd H h'.objs.size (.tup ys)) {s with heap:=h'.push {cls := .type "tuple",data := .seq its.toArray}}:=
   I1.laid (t':=s.toks) (fun b o e=>RJ _ e) (RE _) (show ObjOk X.prog X.w _ _ _ (.tup ys) from ⟨hz,its,r',IsTup.new _ _⟩)
  exact⟨.ref h'.objs.size,_,I2,rfl,q _ (I1.hok.fresh (RE _))⟩
 ·obtain⟨its,r',pl,hz⟩:=I.tuple hq;exact call_tuple_same pl ⟨.ref p,H,I,rfl,q⟩
noncomputable def tyV(K:R8)(T:String)(x:V)(H:Hp):Prop:=match x with
 | .str _=>T="str"
 | .int _=>T="int"
 | .ref p=>(T="list"/\∃ xs,SqL K H p xs)\/(T="tuple"/\∃ o,K.lookup p=some o/\o.cls = .type "tuple"/\o.dict=none)\/
    (T="dict"/\((∃ kvs,H p=some (.dK kvs))\/∃ kvs,H p=some (.dT kvs)))\/(T="set"/\∃ S n,H p=some (.set S n))
 | _=>False
theorem Iv{pq:List (V7×Obj)}{σ:St}{H:Hp}{s:V6}{T:String}{x:V}{v:V4}(I:Inv X pq σ H s)(r:RelV x v)(ty:tyV X.K T x H):
 s.TypeIs v T/\∀ a,v = .ref a->∃ ob,s.heap.get? a=some ob/\ob.dict=none:=by
 cases x with
 | str z=>
   obtain⟨t,rfl⟩:=r;cases(show T="str" from ty);exact⟨typeIs_str s z t,fun _ e=>nomatch e⟩
 | int i=>
   obtain⟨t,rfl⟩:=r;cases(show T="int" from ty);exact⟨Ww s i t,fun _ e=>nomatch e⟩
 | ref p=>
   cases r;rcases ty with⟨rfl,xs,hq⟩ | ⟨rfl,o,hk,hc,hd⟩ | ⟨rfl,hk⟩ | ⟨rfl,S,n,hk⟩
   ·obtain⟨its,_,pl,_⟩:=I.list hq;refine⟨pl.isList.typeIs,fun a e=>?_⟩;cases e;obtain⟨o,n,e,c,hd,_⟩:=pl;exact⟨o,e,hd⟩
   ·refine⟨⟨o,I.kIn p o hk,hc⟩,fun a e=>?_⟩;cases e;exact⟨o,I.kIn _ o hk,hd⟩
   ·have z:∃ o,s.heap.get? p=some o/\o.ExactDict:=by
     rcases hk with⟨kvs,hk⟩ | ⟨kvs,hk⟩
     ·obtain⟨_,_,_,_,o,_,_,e,ex,_⟩:=I.hok p _ hk;exact⟨o,e,ex⟩
     ·obtain⟨_,_,_,_,o,_,_,e,ex,_⟩:=I.hok p _ hk;exact⟨o,e,ex⟩
    obtain⟨o,e,ex⟩:=z;refine⟨⟨o,e,ex.1⟩,fun a e2=>?_⟩;cases e2;exact⟨o,e,ex.2.1⟩
   ·obtain⟨o,_,_,_,e,ex,_⟩:=I.hok p _ hk;refine⟨⟨o,e,ex.1⟩,fun a e2=>?_⟩;cases e2;exact⟨o,e,ex.2.1⟩
 | _=>exact False.elim ty
noncomputable def Nc(K:R8)(T:String)(r:V->List V->Hp->VK->Prop)(to:TE):TE:=fun σ H Q=>to σ H fun x H1=>tyV K T x H1/\r x [] H1 Q
noncomputable def tBM(K:R8)(T:String)(r:V->List V->Hp->VK->Prop)(to:TE)(t:TA):TE:=fun σ H Q=>to σ H fun x H1=>tyV K T x H1/\t σ H1 fun xs H2=>r x xs H2 Q
variable{o e:Expr}{es:List Expr}{to:TE}{t:TA}{name:Str}{apos cpos:Pos}{T id:String}{r:V->List V->Hp->VK->Prop}
theorem CC(pa:PlainAttrs T)(slot:Slot T name id)(hty:typeOf (.builtin id)=pure (.type "method_descriptor"))(hm:MtR X id r)(ho:PE X o to)
 (hbase:W4 o name X.env (eval o X.env)=eval o X.env:=by rfl) (hline:(apos.endLine == cpos.line)=true:=by rfl):PE X (.Call (.Attribute o name apos) [] [] cpos) (Nc X.K T r to):=by
 intro pq s σ H Q I h;refine wpAny_Call_method0_late hbase hline (thn (ho pq s σ H _ I h) fun v s1 ⟨x,H1,I1,r1,ty,q1⟩=>?_);obtain⟨h1,h2⟩:=Iv I1 r1 ty;exact⟨T,id,pa,slot,hty,h1,h2,Calls.callWith_builtin rfl (PySem.evalArgs_none (hm pq s1 σ H1 x [] v [] Q I1 r1 .nil q1))⟩
theorem E7(pa:PlainAttrs T)(slot:Slot T name id)(hty:typeOf (.builtin id)=pure (.type "method_descriptor"))(hm:MtR X id r)(ho:PE X o to)(ha:PA X (e::es) t)
 (hbase:W4 o name X.env (eval o X.env)=eval o X.env:=by rfl)
 (hfew:((backTo cpos (VF (e::es) X.env)).all (fun x=>!x.1)&&(W9 cpos (Vn [] X.env)).all (fun x=>x.1.isSome)
   && decide ((e::es).length+([]:List Keyword).length+(if ([]:List Keyword).isEmpty then 0 else 1)<30))=true:=by rfl)
 (hline:(apos.endLine == cpos.line)=true:=by rfl) (hs:VF (e::es) X.env=(false,eval e X.env)::VF es X.env:=by rfl) (hplain:(backTo cpos (VF es X.env)).any (·.1)=false:=by rfl):
 PE X (.Call (.Attribute o name apos) (e::es) [] cpos) (tBM X.K T r to t):=by
 intro pq s σ H Q I h;refine wpAny_Call_method_late hbase hfew hline rfl (thn (ho pq s σ H _ I h) fun v s1 ⟨x,H1,I1,r1,ty,q1⟩=>?_);obtain⟨h1,h2⟩:=Iv I1 r1 ty;refine⟨T,id,pa,slot,hty,h1,h2,?_⟩;have hA:=ha cpos pq s1 σ H1 _ I1 q1;rw[hs]at hA ⊢;refine Calls.callWith_builtin (by show(false||(backTo cpos (VF es X.env)).any (·.1))=false;rw[hplain]<;>rfl) (Calls.evalArgs_plain ?_);exact thn hA fun us s2 ⟨vs,H2,I2,r2,q2⟩=>hm pq s2 σ H2 x vs v us Q I2 r1 r2 q2
end
noncomputable def MtM(X:Cx)(id:String)(r:V->List V->Hp->VK->Prop):Prop:=
 ∀(pq:List (V7×Obj)) (s:V6) (σ:St) (H:Hp) (x:V) (xs:List V) (v:V4) (us:List V4) (Q:VK),Inv X pq σ H s->RelV x v->Vals xs us->r x xs H Q->
  VA (VB X.prog X.w) X.A (call (.builtin id) (v::us)) (EP X pq σ Q) X.xe s
theorem Vals.one{x:V}{us:List V4}(h:Vals [x] us):∃ u,us=[u]/\RelV x u:=by
 cases h with
 | cons r q=>cases q;exact⟨_,rfl,r⟩
theorem Vals.two{x y:V}{us:List V4}(h:Vals [x,y] us):∃ u v,us=[u,v]/\RelV x u/\RelV y v:=by
 cases h with
 | cons r q=>
   obtain⟨v,rfl,s⟩:=Vals.one q;exact⟨_,v,rfl,r,s⟩
theorem Vals.zero:∀{us:List V4},Vals [] us->us=[]
 | _,.nil=>rfl
theorem Vals.dropLast{xs:List V}{us:List V4}(h:Vals xs us):Vals xs.dropLast us.dropLast:=by
 induction h with
 | nil=>exact .nil
 | cons r t ih=>
   cases t with
   | nil=>exact .nil
   | cons q t'=>exact .cons r ih
theorem Vals.eraseIdx:∀{xs:List V} {us:List V4} (i:Nat),Vals xs us->Vals (xs.eraseIdx i) (us.eraseIdx i)
 | _,_,_,.nil => .nil
 | _,_,0,.cons _ t=>t
 | _,_,i+1,.cons r t => .cons r (Vals.eraseIdx i t)
theorem Vals.reverse{xs:List V}{us:List V4}(h:Vals xs us):Vals xs.reverse us.reverse:=by
 induction h with
 | nil=>exact .nil
 | cons r t ih=>rw[Sr,Sr];exact Vals.append ih (.cons r .nil)
theorem Vals.rep{xs:List V}{us:List V4}(h:Vals xs us):∀ k:Nat,Vals (Rc k xs).flatten (Rc k us).flatten
 | 0 => .nil
 | k+1=>by
   rw[SD,SD,Rj,Rj];exact Vals.append h (Vals.rep h k)
theorem FH{α:Type}(l:List α):l.eraseIdx (l.length - 1)=l.dropLast:=by
 induction l with
 | nil=>rfl
 | cons a r ih=>
   cases r with
   | nil=>rfl
   | cons b r=>
     have e:(a::b::r).length - 1=((b::r).length - 1)+1:=by
      have h1:(a::b::r).length=r.length+2:=rfl;have h2:(b::r).length=r.length+1:=rfl;omega
     rw[e,Sx,ih]
     all_goals rfl
theorem D5{α:Type}:∀(l:List α) (i:Nat),(l.eraseIdx i).length<=l.length
 | [],_=>RE _
 | _::_,0=>Ss _
 | _::r,i+1=>Nat.succ_le_succ (D5 r i)
theorem D6(its:List V4):∀(k:Nat) (acc:List V4),
 Uk (fun x1 x2=>x1++x2) acc.toArray (Rc k its.toArray)=(acc++(Rc k its).flatten).toArray
 | 0,acc=>by simp
 | k+1,acc=>by
   have e:acc.toArray++its.toArray=(acc++its).toArray:=by simp
   have e2:(acc++its)++(Rc k its).flatten=acc++(Rc (k+1) its).flatten:=by
    rw[SD,Rj,Tc]
   rw[<-e2,<-D6 its k (acc++its),<-e,SD,List.foldl_cons]
section
variable{X:Cx}{pq:List (V7×Obj)}{σ:St}{H:Hp}{s:V6}{l b:V7}{xs ys zs:List V}
theorem Inv.lset{its its':List V4}{n:Nat}{f:Array V4->Array V4}{t':Nat}(I:Inv X pq σ H s)(hH:H l=some (.lst xs))
 (e:s.heap.get? l=some {cls := .type "list",data := .seq its.toArray n}) (hf:f its.toArray=its'.toArray) (hv:Vals ys its') (hz:ys.length<=V9):
 Inv X pq σ (upd H l (.lst ys)) {s with heap:=s.heap.update l (Obj.mapSeq f),toks:=t'}:=by
 have q:=PySem.IsL.update e f;rw[hf]at q;refine I.write (x:=l) (e:=l) (by rw[hH];exact trivial) (.inl rfl) (fun b' u hb hu=>(UA s.heap (Obj.mapSeq f) (Ne.symm hb)).trans hu) ⟨_,q⟩ ?_;exact⟨hz,its',_,hv,q⟩
theorem Inv.lnew{its:List V4}{t':Nat}(I:Inv X pq σ H s)(hv:Vals ys its)(hz:ys.length<=V9):
 Inv X pq σ (upd H s.heap.objs.size (.lst ys)) {s with heap:=s.heap.push {cls := .type "list",data := .seq its.toArray},toks:=t'}:=
 I.laid (fun _ _ q=>RJ _ q) (RE _) ⟨hz,its,0,hv,RY _ rfl⟩
theorem Inv.fresh(I:Inv X pq σ H s):H s.heap.objs.size=none:=I.hok.fresh (RE _)
theorem Inv.lstM(I:Inv X pq σ H s)(hH:H l=some (.lst xs)):xs.length<=V9/\∃(its:List V4) (n:Nat),Vals xs its/\xs.length=its.length/\s.heap.get? l=some {cls := .type "list",data := .seq its.toArray n}:=by
 obtain⟨z,its,n,r,e⟩:=I.hok l _ hH;exact⟨z,its,n,r,r.length,e⟩
theorem E8{n:Nat}(h:n<=V9):Builtin.List.listTooLong n=false:=by
 unfold Builtin.List.listTooLong;exact decide_eq_false (by omega)
end
section
variable{X:Cx}
noncomputable def GC:V->List V->Hp->VK->Prop:=fun x vs H Q=>∃ l xs y,x = .ref l/\vs=[y]/\H l=some (.lst xs)/\xs.length<V9/\Q .non (upd H l (.lst (xs++[y])))
theorem B1:MtM X "list.append" GC:=by
 intro pq s σ H x vs v us Q I rx rv h;obtain⟨l,xs,y,rfl,rfl,hH,hz,q⟩:=h;cases rx;obtain⟨u,rfl,ru⟩:=rv.one;obtain⟨z,its,n,r,hl,e⟩:=I.lstM hH;refine Vl F.slot_list_append ⟨_,e,rfl⟩ F.entry_list_append (F.args_list_append_2 _ _) (PySem.list_append l its.toArray n u (by rw[RF];omega)) ⟨e,?_⟩;refine⟨.non,_,I.lset (its':=its++[u]) hH e (by simp) (r.append (.cons ru .nil)) ?_,rfl,q⟩;rw[R9,Rk];omega
noncomputable def GD:V->List V->Hp->VK->Prop:=fun x vs H Q=>∃ l b xs zs,x = .ref l/\vs=[.ref b]/\H l=some (.lst xs)/\H b=some (.lst zs)/\xs.length+zs.length<=V9/\Q .non (upd H l (.lst (xs++zs)))
theorem D7:MtM X "list.extend" GD:=by
 intro pq s σ H x vs v us Q I rx rv h;obtain⟨l,b,xs,zs,rfl,rfl,hH,hB,hz,q⟩:=h;cases rx;obtain⟨u,rfl,ru⟩:=rv.one;cases ru;obtain⟨z,its,n,r,hl,e⟩:=I.lstM hH;obtain⟨z2,its2,n2,r2,hl2,e2⟩:=I.lstM hB;have hsz:its.toArray.size+its2.toArray.size<=V9:=by rw[RF,RF];omega
 have hlong:¬ (!its.toArray.isEmpty&&Builtin.List.listTooLong (its.toArray.size+its2.toArray.size))=true:=by
  rw[E8 hsz,Bool.and_false];exact RH
 refine Vl F.slot_list_extend ⟨_,e,rfl⟩ F.entry_list_extend (F.args_list_extend_2 _ _)
  (AutoSeq1.list_extend_list_list_0 l its.toArray n b its2.toArray n2 hlong (by rw[RF];omega) (by omega)) ⟨e,e2,?_⟩
 refine⟨.non,_,I.lset (its':=its++its2) hH e (by simp) (r.append r2) ?_,rfl,q⟩;rw[R9];omega
noncomputable def Pf:V->List V->Hp->VK->Prop:=fun x vs H Q=>∃ l xs y,x = .ref l/\vs=[]/\H l=some (.lst xs)/\xs[xs.length - 1]?=some y/\Q y (upd H l (.lst xs.dropLast))
theorem Iw:MtM X "list.pop" Pf:=by
 intro pq s σ H x vs v us Q I rx rv h;obtain⟨l,xs,y,rfl,rfl,hH,hy,q⟩:=h;cases rx;have hus:=rv.zero;subst hus;obtain⟨z,its,n,r,hl,e⟩:=I.lstM hH;obtain⟨u,hu,ru⟩:=r.get hy
 have hy':its.toArray[its.toArray.size - 1]?=some u:=by
  show its.toArray[its.length - 1]?=some u;rw[<-UI,<-hl];exact hu
 refine Vl F.slot_list_pop ⟨_,e,rfl⟩ F.entry_list_pop (F.args_list_pop_1 _) (MeetsSeq.list_pop_last l its.toArray n u hy' (by rw[RF];omega)) ⟨e,?_⟩;refine⟨y,_,I.lset (its':=its.dropLast) hH e ?_ r.dropLast ?_,ru,q⟩
 ·show its.toArray.eraseIdxIfInBounds (its.toArray.size - 1)=its.dropLast.toArray;rw[RF,Te,FH]
 ·rw[List.length_dropLast];omega
noncomputable def Ix:V->List V->Hp->VK->Prop:=fun x vs H Q=>∃ l xs i k y,x = .ref l/\vs=[.int i]/\H l=some (.lst xs) /\ -(2 ^ 63)<=i/\i<2 ^ 63/\X6 i xs.length=some k/\xs[k]?=some y/\Q y (upd H l (.lst (xs.eraseIdx k)))
theorem E9:MtM X "list.pop" Ix:=by
 intro pq s σ H x vs v us Q I rx rv h;obtain⟨l,xs,i,k,y,rfl,rfl,hH,h1,h2,hk,hy,q⟩:=h;cases rx;obtain⟨u,rfl,ru⟩:=rv.one;obtain⟨t,rfl⟩:=ru;obtain⟨z,its,n,r,hl,e⟩:=I.lstM hH;obtain⟨w,hw,rw'⟩:=r.get hy
 refine Vl F.slot_list_pop ⟨_,e,rfl⟩ F.entry_list_pop (F.args_list_pop_2 _ _)
  (MeetsSeq.list_pop_at l its.toArray n i t k w (WR h1 h2) (by rw[RF,<-hl];exact hk) (by rw[<-UI];exact hw) (by rw[RF];omega)) ⟨e,?_⟩
 refine⟨y,_,I.lset (its':=its.eraseIdx k) hH e ?_ (r.eraseIdx k) ?_,rw',q⟩
 ·show its.toArray.eraseIdxIfInBounds k=(its.eraseIdx k).toArray;rw[Te]
 ·have:=D5 xs k;omega
noncomputable def EA:V->List V->Hp->VK->Prop:=fun x vs H Q=>∃ l xs,x = .ref l/\vs=[]/\H l=some (.lst xs)/\Q .non (upd H l (.lst xs.reverse))
theorem CD:MtM X "list.reverse" EA:=by
 intro pq s σ H x vs v us Q I rx rv h;obtain⟨l,xs,rfl,rfl,hH,q⟩:=h;cases rx;have hus:=rv.zero;subst hus;obtain⟨z,its,n,r,hl,e⟩:=I.lstM hH;refine Vl F.slot_list_reverse ⟨_,e,rfl⟩ F.entry_list_reverse (F.args_list_reverse_1 _) (AutoSeq1.list_reverse_list_0 l its.toArray n (by rw[RF];omega)) ⟨e,?_⟩;refine⟨.non,_,I.lset (its':=its.reverse) hH e (by simp) r.reverse ?_,rfl,q⟩;rw[SN];omega
noncomputable def Pg:R2:=fun x y H Q=>∃ l b xs zs,x = .ref l/\y = .ref b/\H l=some (.lst xs)/\H b=some (.lst zs)/\xs.length+zs.length<=V9/\∀ p,H p=none->Q (.ref p) (upd H p (.lst (xs++zs)))
theorem Nd:OpR X (Vi .Add) Pg:=by
 intro pq s σ H x y v u Q I rx ry h;obtain⟨l,b,xs,zs,rfl,rfl,hH,hB,hz,q⟩:=h;cases rx;cases ry;obtain⟨z,its,n,r,hl,e⟩:=I.lstM hH;obtain⟨z2,its2,n2,r2,hl2,e2⟩:=I.lstM hB;refine PySem.P.add_list e e2 ?_ (by rw[RF,RF];omega);have ea:its.toArray++its2.toArray=(its++its2).toArray:=by simp
 rw[ea];exact⟨.ref _,_,I.lnew (t':=s.toks) (r.append r2) (by rw[R9];omega),rfl,q _ I.fresh⟩
noncomputable def Ph:R2:=fun x y H Q=>∃ l k xs,x = .ref l/\y = .int k/\H l=some (.lst xs) /\ -(2 ^ 63)<=k/\k<2 ^ 63/\xs.length * k.toNat<=V9/\
 ∀ p,H p=none->Q (.ref p) (upd H p (.lst (Rc k.toNat xs).flatten))
theorem LA{α:Type}(xs:List α)(k:Nat):(Rc k xs).flatten.length=k * xs.length:=by
 induction k with
 | zero=>simp
 | succ k ih=>rw[SD,Rj,R9,ih,UU,Nat.add_comm]
theorem Nf:OpR X (Vi .Mult) Ph:=by
 intro pq s σ H x y v u Q I rx ry h;obtain⟨l,k,xs,rfl,rfl,hH,h1,h2,hz,q⟩:=h;cases rx;obtain⟨t,rfl⟩:=ry;obtain⟨z,its,n,r,hl,e⟩:=I.lstM hH;have hlen:its.toArray.size * k.toNat<=V9:=by rw[RF,<-hl];exact hz
 have hcap:¬ its.toArray.size * k.toNat>(2 ^ 63 - 1) / 8:=by
  have:(V9:Nat)<=(2 ^ 63 - 1) / 8:=by decide
  omega
 have hfit:¬ (!Builtin.List.listFitsIndex k)=true:=by
  rw[WR h1 h2];exact RH
 have hlong:¬ Builtin.List.listTooLong (its.toArray.size * k.toNat)=true:=by
  rw[E8 hlen];exact RH
 have hnew:Uk (fun x1 x2=>x1++x2) #[] (Rc (if its.toArray.isEmpty=true then 0 else k.toNat) its.toArray)=(Rc k.toNat its).flatten.toArray:=by
  have f0:∀ m:Nat,Uk (fun x1 x2=>x1++x2) #[] (Rc m its.toArray)=(Rc m its).flatten.toArray:=fun m=>by
   have:=D6 its m [];rw[List.nil_append]at this;exact this
  rw[f0];cases its with
  | nil=>simp
  | cons a r'=>rw[iG (by simp)]
 refine wpAny_binaryOp_repeat_ref (T:="list") (U:="int") (by decide) ⟨_,e,rfl⟩ (fun s'=>Ww s' k t) noFill_list_mul F.fills_int_mul F.slot_int_rmul repeat_list F.slot_int_index.lookup
  (Vl F.slot_int_rmul (Ww s k t) F.entry_int_rmul (F.args_int_rmul_2 _ _) (int___rmul___int_list k t l its.toArray n)
    ⟨e,rfl,⟨_,e,rfl⟩,Vl F.slot_list_mul ⟨_,e,rfl⟩ F.entry_list_mul (F.args_list_mul_2 _ _) (AutoListH.list___mul___list_int_3 l its.toArray n k t hfit hcap hlong) ⟨e,?_⟩⟩)
 rw[hnew];exact⟨.ref _,_,I.lnew (t':=s.toks) (r.rep k.toNat) (by rw[LA,Nat.mul_comm];exact hz),rfl,q _ I.fresh⟩
end
end L2
namespace Att
open PySem PySem.W PySem.Calls PyProof.Rows
theorem Bu{P:Params}{h:Heap}:∀(ns:List Int) (vs:List V4),WellAll P h vs (ns.map WData.int)->IntsAre vs ns:=by
 intro ns
 induction ns with
 | nil=>
   intro vs w;rw[Uv]at w;cases w;exact .nil
 | cons n ns ih=>
   intro vs w;rw[RV]at w;cases w with
   | cons a b=>
     cases a;exact .cons _ _ (ih _ b)
theorem HW{l:OpenLaw}{n:Nat}(hn:l.most=some n){P:Params}{h:Heap}{args:List WData}{vals:List V4}
 (hpre:l.row.toRowW.claim.pre args=true) (hwl:WellAll P h vals args):
 ∃ a vs ns,vals=[Value.ref a]/\args=[WData.list (ns.map WData.int)]/\h.get? a=some {cls := .type "list",data := .seq vs.toArray}/\IntsAre vs ns/\ns.length<=n:=by
 have hsh:WShape.hasAll [] args [.list .int]=true:=(pre_splitW hpre).1;have hc:l.pre.holds [] {args:=args}=true:=(pre_splitW hpre).2;obtain⟨d,r,rfl,h1,h2⟩:=hasAllW_cons hsh;obtain rfl:=hasAllW_nil h2;obtain⟨xs,rfl,h3⟩:=hasW_list h1;obtain⟨ns,rfl⟩:=items_int h3
 have hlen:ns.length<=n:=by
  unfold OpenLaw.pre at hc
  have h4:(WTm.not (.lt (.lit (.int (n:Int))) (.len (.arg 0)))).holds [] {args:=[.list (ns.map .int)]}=true:=by
   have h4:=(holds_andW hc).1;rw[hn]at h4;exact h4
  have h5:=condW_of h4 (w_not (w_lt w_lit (w_len_list (w_arg rfl))));rw[RC]at h5;refine Nat.le_of_not_lt fun q=>?_;have q':(n:Int)<((ns.length:Nat):Int):=by omega
  first
   | (rw[decide_eq_true q']at h5;exact absurd h5 (by decide))
   | (simp at h5;omega)
 cases hwl with
 | cons w1 w2=>
   cases w2;cases w1 with
   | list ho hall=>exact⟨_,_,ns,rfl,rfl,ho,Bu ns _ hall,hlen⟩
theorem HX(l:OpenLaw)(args:List WData):l.row.toRowW.claim.post args (.bool true) args=true:=
 postW_of (r:=l.row.toRowW) (X:=(true == true))
  (show WShape.has [] (.bool true) .bool=true by first | rfl | decide | simp[WShape.has,WShape.arms,WShape.armsAll])
  (show(WTm.eq .res (.lit (.bool true))).value [] {args:=args,res:=some (.bool true),after:=args}=some (.bool (true == true)) from w_eq_bool (w_res rfl) w_lit) rfl
theorem attach_call{l:OpenLaw}{n:Nat}{q:VC}{loose:List Str}{XP:(Str->Option V4)->Heap->Prop}{YP:VG->Heap->Prop}{d:DefRec}
 (hn:l.most=some n) (hdf:d.params.defaults=[])
 (call:∀(w:VG) (s₀ s₁:V6) (mg mb:Str->Option V4) (fa:V7) (o:Obj) (pm cd doc:V4) (a:V7) (vs:List V4) (ns:List Int),
   Ground q loose [] XP w s₀ mg mb s₁.heap->YP w s₁.heap->
   s₁.heap.get? fa=some o->o.data = .func (docDef d.name d.params d.body d.scope pm cd doc)->s₁.heap.CodeRec cd d.name->mg d.name=some (.ref fa)->
   s₁.heap.get? a=some {cls := .type "list",data := .seq vs.toArray}->IntsAre vs ns->ns.length<=n->s₁.gens=#[]->
   codeAny (VB l.prog w) callerA (.call (.ref fa) ⟨[.ref a],[]⟩) (fun r s'=>r = .ok (.ret (.bool true))/\OldK s₁.heap s'.heap/\s'.os=s₁.os/\AllBare s'.gens) s₁):
 WalkO q loose XP YP l.row.toRowW d [] (fun f vs=>PySem.call f vs):=by
 intro w s₀ s₁ mg mb G Y fa o pm cd doc dV kV ho hd hcd hD hmg hg args vals as hpre hlay hrd hwl hlo;obtain rfl:dV = .none:=Dflts.none hD hdf;obtain rfl:kV = .none:=Dflts.noKw hD;obtain⟨a,vs,ns,rfl,rfl,hobj,hints,hlen⟩:=HW hn hpre hwl;refine enter_call (Wg (call w s₀ s₁ mg mb fa o pm cd doc a vs ns G Y ho (fd_plain hd) hcd hmg hobj hints hlen hg) fun r s' hq=>?_);obtain⟨rfl,h2,h3,h4⟩:=hq;exact⟨.inl ⟨.bool true,.bool true,[],rfl,fun _=>rfl,.bool true,HX l _,fun _=>⟨List.Pairwise.nil,fun _ hm=>(nomatch hm)⟩⟩,h2,h3,h4⟩
end Att
namespace L2
open PySem PySem.Spec PyProof.Rows
theorem D8:∀{vs:List V4} {ns:List Int},IntsAre vs ns->Vals (ns.map V.int) vs
 | _,_,.nil => .nil
 | _,_,.cons n t h => .cons ⟨t,rfl⟩ (D8 h)
noncomputable def LB(H:Hp):Prop:=∀ b,H b=none\/∃ o xs,H b=some (.frz o (.lst xs))
theorem Iy{P:VC}{w:VG}{K:R8}{mg mb:Str->Option V4}{CX:CXT}{k:Nat}{fa a:V7}{fd:Va}{x:Str}{sp:Sp}{s₁:V6}{vs:List V4}{ns:List Int}
 (KX:K.In s₁.heap) (hns:s₁.heap.Ns VD mg) (hb:s₁.heap.Ns Wd mb) (hbb:∀ x:Str,x≠"__name__"->mb x=VE x) (hlim:s₁.heap.NoLimit) (hg:s₁.gens=#[])
 (ha:s₁.heap.get? a=some {cls := .type "list",data := .seq vs.toArray}) (hi:IntsAre vs ns) (hl:ns.length<=V9) (hr:Room k callerA)
 (F:∀ base:Heap,K.In base->base.Ns VD mg->FnOk P w K mg base CX k fa fd [x] sp) (hbind:∀(s:V6) (u:V4),BindsTo s fd ⟨[u],[]⟩ [(x,u)])
 (hsp:∀ H:Hp,LB H->SqL K H a (ns.map V.int)->sp [.ref a] H (fun v _=>v = .bl true) fun _ _ _=>False)
 (hCX:∀ H e s',CX [] H s₁ (fun _ _ _=>False) e s'->False):
 codeAny (VB P w) callerA (.call (.ref fa) ⟨[.ref a],[]⟩) (fun r s'=>r = .ok (.ret (.bool true))/\OldK s₁.heap s'.heap/\s'.os=s₁.os/\AllBare s'.gens) s₁:=by
 have rv:=D8 hi;have lenV:=hi.length
 have core:∀ H:Hp,LB H->SqL K H a (ns.map V.int)->HOk P w H s₁.heap->(∀ b,H b≠none->b=a)->(H a≠none->K.lookup a=none)->
  codeAny (VB P w) callerA (.call (.ref fa) ⟨[.ref a],[]⟩) (fun r s'=>r = .ok (.ret (.bool true))/\OldK s₁.heap s'.heap/\s'.os=s₁.os/\AllBare s'.gens) s₁:=by
  intro H hO hS hok hA hK;have m6:∀{b:V7} {o:Obj},s₁.heap.get? b=some o->H b=none->(DR s₁.heap H).get? b=some o:=fun e n=>IU e n
  have noA:∀{b:V7} {o:Obj} {es:Array DictEntry} {ep:Nat},s₁.heap.get? b=some o->o.data = .dict es ep->H b=none:=fun{b o es ep} e d=>by
   cases q:H b with
   | none=>rfl
   | some u=>
     have e':b=a:=hA b (by rw[q];simp);subst e';rw[ha]at e;cases e;have d':Data.seq vs.toArray _=Data.dict es ep:=d;cases d'
  have nsK:∀{b:V7} {m:Str->Option V4},s₁.heap.Ns b m->(DR s₁.heap H).Ns b m:=fun{b m} ⟨o,es,ep,e,d,r⟩=>⟨o,es,ep,m6 e (noA e d),d,r⟩
  have hKb:K.In (DR s₁.heap H):=fun b o e=>m6 (KX b o e) (by
   cases q:H b with
   | none=>rfl
   | some u=>
     have e':b=a:=hA b (by rw[q];simp);subst e';rw[hK (by rw[q];simp)]at e;cases e)
  have hM:Mod K mg (DR s₁.heap H):=⟨hKb,nsK hns,⟨mb,nsK hb,hbb⟩,let ⟨mc,h1,h2⟩:=hlim;⟨mc,nsK h1,h2⟩⟩
  have e0:Env0 P w K mg (DR s₁.heap H) callerA [] s₁ H:=⟨rfl,hM,fun b o e=>Kn e,Uw (HI _ _),trivial,fun b hb=>absurd (show b∈([]:List V7) from hb) (by simp),hok,.of_eq hg⟩
  refine Wg ((F _ hKb (nsK hns)).run callerA [] s₁ H ⟨[.ref a],[]⟩ [.ref a] [.ref a] _ _ hr e0 (hbind s₁ (.ref a)) (.cons rfl .nil) (hsp H hO hS)) fun r s' h=>?_;cases r with
  | error e=>exact(hCX H e s' h).elim
  | ok fl=>
    cases fl with
    | next=>exact False.elim h
    | brk=>exact False.elim h
    | cont=>exact False.elim h
    | ret u=>
      obtain⟨v,H',os,bare,un,hok',r',q⟩:=h;have q':v = .bl true:=q;subst q';obtain rfl:u=Value.bool true:=r';refine⟨rfl,OldK.of_keep fun b o e=>?_,os,bare⟩;cases q:H b with
      | none=>exact un.keep b o e q (by intro z;exact absurd (show b∈([]:List V7) from z) (by simp)) (by simp)
      | some u=>
        rcases hO b with z | ⟨ob,xs,z⟩
        ·rw[q]at z;cases z
        ·have z2:=un.frzs b ob _ z;obtain⟨e1,_⟩:=hok b _ z;obtain⟨e2,_⟩:=hok' b _ z2;rw[e]at e1;cases e1;exact e2
 cases hk:K.lookup a with
 | some o=>
   have e:=KX a o hk;rw[ha]at e;cases e;refine core (fun _=>none) (fun _ => .inl rfl) (.inr ⟨_,vs.toArray,_,hk,rfl,rfl,rfl,by rw[RF,lenV];exact hl,by simpa using rv⟩) (fun b u z=>by have z':(none:Option HO)=some u:=z;cases z') (fun b z=>absurd rfl z) fun z=>absurd rfl z
 | none=>
   refine core (fun b=>if b=a then some (.frz {cls := .type "list",data := .seq vs.toArray} (.lst (ns.map V.int))) else none) (fun b=>?_) (.inl (.inr ⟨{cls := .type "list",data := .seq vs.toArray},iP rfl⟩)) (fun b u z=>?_) (fun b z=>?_) fun _=>hk
   ·by_cases hb:b=a
    ·exact .inr ⟨_,_,iP hb⟩
    ·exact .inl (iG hb)
   ·by_cases hb:b=a
    ·have z':=(iP hb).symm.trans z;cases z';subst hb;exact⟨ha,by rw[RC];exact hl,vs,_,rv,ha⟩
    ·have z':=(iG hb).symm.trans z;cases z'
   ·by_cases hb:b=a
    ·exact hb
    ·exact absurd (iG hb) z
theorem walk_of{l:PySem.W.OpenLaw}{n k:Nat}{q:VC}{loose:List Str}{XP:(Str->Option V4)->Heap->Prop}{YP:VG->Heap->Prop}{d:DefRec}{K:Params->R8}{CX:VG->CXT}{sp:VG->Sp}{x:Str}
 (hn:l.most=some n) (hn2:n<=V9) (hdf:d.params.defaults=[]) (hr:Room k callerA)
 (hY:∀(w:VG) (h:Heap),YP w h->(K w.params).In h)
 (F:∀(w:VG) (mg:Str->Option V4) (fa:V7) (h:Heap),(K w.params).In h->h.Ns VD mg->mg d.name=some (.ref fa)->
   ∃ fd:Va,(∀(s:V6) (u:V4),BindsTo s fd ⟨[u],[]⟩ [(x,u)])/\
    ∀ base:Heap,(K w.params).In base->base.Ns VD mg->FnOk l.prog w (K w.params) mg base (CX w) k fa fd [x] (sp w))
 (hsp:∀(w:VG) (H:Hp) (a:V7) (ns:List Int),ns.length<=n->LB H->SqL (K w.params) H a (ns.map V.int)->sp w [.ref a] H (fun v _=>v = .bl true) fun _ _ _=>False)
 (hCX:∀(w:VG) (H:Hp) (s:V6) (e:V4) (s':V6),CX w [] H s (fun _ _ _=>False) e s'->False):
 PySem.W.WalkO q loose XP YP l.row.toRowW d [] (fun f vs=>PySem.call f vs):=by
 refine Att.attach_call hn hdf fun w s₀ s₁ mg mb fa o pm cd doc a vs ns G Y ho hd hcd hmg hobj hints hlen hg=>?_;have KX:=hY w _ Y;obtain⟨fd,hb,hF⟩:=F w mg fa _ KX G.T.g hmg;exact Iy KX G.T.g G.T.b G.T.builtins G.T.nolimit hg hobj hints (Rn hlen hn2) hr hF hb (fun H hO hS=>hsp w H a ns hlen hO hS) fun H e s'=>hCX w H s₁ e s'
noncomputable def defArgs(s:Stmt):Arguments:=match s with
 | .FunctionDef _ a _ _ _ _ _ _ _ _=>a
 | _=>{posonlyargs:=[],args:=[],vararg:=none,kwonlyargs:=[],kw_defaults:=[],kwarg:=none,defaults:=[]}
noncomputable def defBody(s:Stmt):List Stmt:=match s with
 | .FunctionDef _ _ b _ _ _ _ _ _ _=>b
 | _=>[]
noncomputable def defScope(s:Stmt):VI:=match s with
 | .FunctionDef _ _ _ _ _ _ sc _ _ _=>sc
 | _=>{kind := .function,names:=[],isGenerator:=false,isCoroutine:=false}
noncomputable abbrev CX0:CXT:=fun _ _ _ _ _ _=>False
noncomputable abbrev E0:XK:=fun _ _ _=>False
theorem Pi{X:Cx}:FC CX0 X E0:=fun _ _ _ _ _ _ _ h=>h.elim
structure Fun(K:R8)(x qual:Str)(st:Stmt)(f:V7)(fd:Va):Prop where
 ex:∃(oc:V4) (od:Option V7) (kV doc pm:V4) (an:Option V7) (cdv ct:V4) (osl:Array (Option V4)),
  fd=PySem.W.fnOf x qual (defArgs st) (defBody st) (defScope st) .none kV doc pm an cdv ct/\K.lookup f=some ⟨oc,od,.func fd,osl⟩/\PySem.W.codeIn K cdv qual=true
 kp:PySem.W.keepIn K (.ref f)=true
section
variable{P:VC}{w:VG}{K:R8}{mg:Str->Option V4}{base:Heap}
theorem Fun.ok{x qual:Str}{st:Stmt}{f:V7}{fd:Va}{N ps:List Str}{k:Nat}{sp:Sp}(F:Fun K x qual st f fd)(S:FnScope N ps (defScope st))(len:∀ vs H Q E,sp vs H Q E->vs.length=ps.length)
 (hbody:∀(cdv:V4) (A:VM) (outer:List Env) (s:V6) (H:Hp) (vs:List V) (Q:VK) (E:XK),Room k (A.deeper (envOfC qual (defScope st) s.heap.objs.size f cdv))->sp vs H Q E->
   ∃ t,PSs (FD CX0 P w K mg base N qual (defScope st) f cdv A outer s H E).nox (defBody st) t/\t {nx:=fun _ H'=>Q .non H',rt:=Q} (start N vs) H):FnOk P w K mg base CX0 (k+1) f fd ps sp:=by
 obtain⟨oc,od,kV,doc,pm,an,cdv,ct,osl,rfl,lk,hcd⟩:=F.ex;refine PY lk hcd S len fun A outer s H vs Q E hr hsp=>?_;obtain⟨t,h,q⟩:=hbody cdv A outer s H vs Q E hr hsp;exact⟨t,h.nox,q⟩
theorem Fun.binds{x qual:Str}{st:Stmt}{f:V7}{fd:Va}{ps:List Str}(F:Fun K x qual st f fd)
 (h:∀(kV doc pm:V4) (an:Option V7) (cdv ct:V4) (us:List V4),us.length=ps.length->bindArgs (PySem.W.fnOf x qual (defArgs st) (defBody st) (defScope st) .none kV doc pm an cdv ct) ⟨us,[]⟩=pure (ps.zip us)):Binds K fd ps []:=by
 obtain⟨oc,od,kV,doc,pm,an,cdv,ct,osl,rfl,lk,hcd⟩:=F.ex;exact .all (h kV doc pm an cdv ct)
theorem FI{x qual:Str}{st:Stmt}{f:V7}{oc:V4}{od an:Option V7}{osl:Array (Option V4)}{kV doc pm cdv ct:V4}(l:K.lookup f=some ⟨oc,od,.func (PySem.W.fnOf x qual (defArgs st) (defBody st) (defScope st) .none kV doc pm an cdv ct),osl⟩)
 (c:PySem.W.codeIn K cdv qual=true) (k:PySem.W.keepIn K (.ref f)=true):Fun K x qual st f (PySem.W.fnOf x qual (defArgs st) (defBody st) (defScope st) .none kV doc pm an cdv ct):=⟨⟨oc,od,kV,doc,pm,an,cdv,ct,osl,rfl,l,c⟩,k⟩
end
noncomputable def Same(H H':Hp):Prop:=∀ b o,H b=some o->H' b=some o
theorem Same.refl(H:Hp):Same H H:=fun _ _ h=>h
theorem Same.trans{H H1 H2:Hp}(a:Same H H1)(b:Same H1 H2):Same H H2:=fun c o h=>b c o (a c o h)
theorem Same.free{H H':Hp}(e:Same H H'){l:V7}(h:H' l=V2):H l=V2:=by
 cases q:H l with
 | none=>rfl
 | some o=>
   rw[e l o q]at h;cases h
theorem Same.seq{K:R8}{H H':Hp}{a:V7}{xs:List V}(e:Same H H')(h:SqL K H a xs):SqL K H' a xs:=by
 rcases h with(h | ⟨o,h⟩) | h
 ·exact .inl (.inl (e _ _ h))
 ·exact .inl (.inr ⟨o,e _ _ h⟩)
 ·exact .inr h
end L2
set_option maxHeartbeats 4000000
namespace L2
open PySem PySem.Spec PyProof.Rows
noncomputable def p8(env:Env):List (Str×VT)->List (Str×V7)->List (Str×V7)
 | [],acc=>acc
 | (n,k)::r,acc=>if k == .free then p8 env r ((n,(env.cells.lookup n).getD 0)::acc) else p8 env r acc
theorem m5{env:Env}{scope:VI}(h:∀ x∈scope.names,x.2 = .free->∃ c,env.cells.lookup x.1=some c):closureFor scope env=pure (p8 env scope.names []):=by
 unfold closureFor
 have go:∀(names:List (Str×VT)) (acc:List (Str×V7)),(∀ x∈names,x.2 = .free->∃ c,env.cells.lookup x.1=some c)->
  (forIn names acc fun x r=>match x with
    | (name,kind)=>if (kind == NameKind.free)=true then do let __do_lift <- cellOf env name;pure (ForInStep.yield ((name,__do_lift)::r)) else pure (ForInStep.yield r):Sem (List (Str×V7)))=pure (p8 env names acc):=by
  intro names
  induction names with
  | nil=>intro acc _;rfl
  | cons x r ih=>
    intro acc hx;obtain⟨n,k⟩:=x;rw[List.forIn_cons];have hr:=fun y hy=>hx y (RK _ hy);by_cases hk:k = .free
    ·subst hk;obtain⟨c,hc⟩:=hx (n,.free) RS rfl;have hc':env.cells.lookup n=some c:=hc;unfold p8;simp only[beq_self_eq_true,if_true,cellOf,hc',U0,pure_bind];exact ih _ hr
    ·have hb:(k == NameKind.free)=false:=by simpa using hk
     unfold p8;simp only[hb,SU,if_false,pure_bind];exact ih _ hr
 have:=go scope.names [] h;simp only[this]
 first | rfl | simp
theorem BY{env:Env}:∀(names:List (Str×VT)) (acc:List (Str×V7)),(∀ x∈names,x.2 = .free->∃ c,env.cells.lookup x.1=some c)->(∀ p∈acc,env.cells.lookup p.1=some p.2)->
 ∀ p∈p8 env names acc,env.cells.lookup p.1=some p.2
 | [],_,_,ha,p,hp=>ha p hp
 | (n,k)::r,acc,h,ha,p,hp=>by
   unfold p8 at hp;have hr:=fun y hy=>h y (RK _ hy);split at hp
   ·rename_i hk;have hk:k = .free:=by simpa using hk
    obtain⟨c,hc⟩:=h (n,k) RS hk;have hc':env.cells.lookup n=some c:=hc;refine BY r _ hr (fun q hq=>?_) p hp;rcases RM.mp hq with rfl | hq
    ·show env.cells.lookup n=some ((env.cells.lookup n).getD 0);rw[hc'];rfl
    ·exact ha q hq
   ·exact BY r acc hr ha p hp
theorem BZ{env:Env}:∀(names:List (Str×VT)) (acc:List (Str×V7)),∀ p∈acc,p∈p8 env names acc
 | [],_,_,hp=>hp
 | (n,k)::r,acc,p,hp=>by
   unfold p8;split
   ·exact BZ r _ p (RK _ hp)
   ·exact BZ r acc p hp
theorem Ba{env:Env}:∀(names:List (Str×VT)) (acc:List (Str×V7)) (n:Str),(n,NameKind.free)∈names->∃ c,(n,c)∈p8 env names acc
 | (m,k)::r,acc,n,hn=>by
   unfold p8;rcases RM.mp hn with e | hn
   ·cases e;simp only[beq_self_eq_true,if_true];exact⟨_,BZ r _ _ RS⟩
   ·split
    ·exact Ba r _ n hn
    ·exact Ba r _ n hn
theorem Aq{env:Env}:∀(names:List (Str×VT)) (acc:List (Str×V7)),∀ p∈p8 env names acc,p∈acc\/(p.1,NameKind.free)∈names
 | [],_,_,hp => .inl hp
 | (n,k)::r,acc,p,hp=>by
   unfold p8 at hp;split at hp
   ·rename_i hk;have hk:k = .free:=by simpa using hk
    subst hk;rcases Aq r _ p hp with z | z
    ·rcases RM.mp z with rfl | z
     ·exact .inr RS
     ·exact .inl z
    ·exact .inr (RK _ z)
   ·rcases Aq r _ p hp with z | z
    ·exact .inl z
    ·exact .inr (RK _ z)
theorem v4:∀(names:List (Str×VT)) (n:Nat) (acc:List (Str×V7)),∀ p∈VU n names acc,p∈acc\/(n<=p.2/\(p.1,NameKind.cell)∈names)
 | [],_,_,_,hp => .inl hp
 | (x,k)::r,n,acc,p,hp=>by
   unfold VU at hp;split at hp
   ·rename_i hk;have hk:k = .cell:=by simpa using hk
    subst hk;rcases v4 r (n+1) _ p hp with z | ⟨z,w⟩
    ·rcases RM.mp z with rfl | z
     ·exact .inr ⟨RE _,RS⟩
     ·exact .inl z
    ·exact .inr ⟨Nat.le_of_succ_le z,RK _ w⟩
   ·rcases v4 r n acc p hp with z | ⟨z,w⟩
    ·exact .inl z
    ·exact .inr ⟨z,RK _ w⟩
theorem v5:∀(names:List (Str×VT)) (n:Nat) (acc:List (Str×V7)),∀ p∈acc,p∈VU n names acc
 | [],_,_,_,hp=>hp
 | (x,k)::r,n,acc,p,hp=>by
   unfold VU;split
   ·exact v5 r _ _ p (RK _ hp)
   ·exact v5 r _ _ p hp
theorem AE:∀(names:List (Str×VT)) (n:Nat) (acc:List (Str×V7)) (x:Str),(x,NameKind.cell)∈names->∃ c,(x,c)∈VU n names acc
 | (y,k)::r,n,acc,x,hx=>by
   unfold VU;rcases RM.mp hx with e | hx
   ·cases e;simp only[beq_self_eq_true,if_true];exact⟨_,v5 r _ _ _ RS⟩
   ·split
    ·exact AE r _ _ x hx
    ·exact AE r _ _ x hx
theorem AF:∀(names:List (Str×VT)) (h:Heap) (acc:List (Str×V7)),∀ p∈VU h.objs.size names acc,p∈acc\/(Wn h names).IsCell p.2 none
 | [],_,_,_,hp => .inl hp
 | (x,k)::r,h,acc,p,hp=>by
   unfold VU at hp;unfold Wn;split at hp
   ·rename_i hk;rw[iP hk];have:=AF r (h.push {cls := .type "cell",data := .cell none}) ((x,h.objs.size)::acc) p (by rw[TJ];exact hp);rcases this with z | z
    ·rcases RM.mp z with rfl | z
     ·exact .inr ⟨_,WL _ _ _ _ (RY _ rfl),rfl⟩
     ·exact .inl z
    ·exact .inr z
   ·rename_i hk;rw[iG hk];exact AF r h acc p hp
theorem w4:∀(names:List (Str×VT)) (n:Nat) (acc:List (Str×V7)),(acc.Pairwise fun x y=>x.2≠y.2)->(∀ p∈acc,p.2<n)->(VU n names acc).Pairwise fun x y=>x.2≠y.2
 | [],_,_,h,_=>h
 | (x,k)::r,n,acc,h,hl=>by
   unfold VU;split
   ·refine w4 r (n+1) _ (TZ.mpr ⟨fun y hy e=>?_,h⟩) fun p hp=>?_
    ·have h1:=hl y hy;have e':n=y.2:=e;exact absurd h1 (by rw[<-e'];exact SL _)
    ·rcases RM.mp hp with rfl | hp
     ·exact U1 _
     ·exact UV (hl p hp)
   ·exact w4 r n acc h hl
theorem Ar{env:Env}(inj:∀ x y c,env.cells.lookup x=some c->env.cells.lookup y=some c->x=y):∀(names:List (Str×VT)) (acc:List (Str×V7)),(names.map (·.1)).Nodup->
 (∀ x∈names,x.2 = .free->∃ c,env.cells.lookup x.1=some c)->(acc.Pairwise fun x y=>x.2≠y.2)->(∀ p∈acc,env.cells.lookup p.1=some p.2/\p.1∉names.map (·.1))->(p8 env names acc).Pairwise fun x y=>x.2≠y.2
 | [],_,_,_,h,_=>h
 | (n,k)::r,acc,nd,hf,h,ha=>by
   unfold p8;have nd':=SR.mp nd;have hr:=fun y hy=>hf y (RK _ hy);split
   ·rename_i hk;have hk:k = .free:=by simpa using hk
    obtain⟨c,hc⟩:=hf (n,k) RS hk;have hc':env.cells.lookup n=some c:=hc;refine Ar inj r _ nd'.2 hr (TZ.mpr ⟨fun y hy e=>?_,h⟩) fun p hp=>?_
    ·have e':(env.cells.lookup n).getD 0=y.2:=e;rw[hc']at e';have e2:c=y.2:=e';have q:=(ha y hy).1;have:=inj n y.1 c hc' (by rw[e2];exact q);exact(ha y hy).2 (by rw[<-this];exact RS)
    ·rcases RM.mp hp with rfl | hp
     ·refine⟨?_,nd'.1⟩;show env.cells.lookup n=some ((env.cells.lookup n).getD 0);rw[hc'];rfl
     ·exact⟨(ha p hp).1,fun z=>(ha p hp).2 (RK _ z)⟩
   ·exact Ar inj r acc nd'.2 hr h fun p hp=>⟨(ha p hp).1,fun z=>(ha p hp).2 (RK _ z)⟩
theorem t3{env:Env}:∀(names:List (Str×VT)) (x:Str),
 (names.map fun(n,k)=>if (k == NameKind.free&&env.scope.kind == .function&&env.kindOf n == some .cell) then (n,NameKind.cell) else (n,k)).lookup x=
   (names.lookup x).map fun k=>if (k == NameKind.free&&env.scope.kind == .function&&env.kindOf x == some .cell) then NameKind.cell else k
 | [],x=>rfl
 | (n,k)::r,x=>by
   have ih:=t3 (env:=env) r x;rw[RV];show UM x ((if (k == NameKind.free&&env.scope.kind == .function&&env.kindOf n == some .cell)=true then (n,NameKind.cell) else (n,k))::_)=_;split
   ·rename_i hc;rw[SJ,SJ];cases hx:x == n with
    | false=>exact ih
    | true=>
      have e:x=n:=by simpa using hx
      subst e;simp only[Sf];rw[iP hc]
   ·rename_i hc;rw[SJ,SJ];cases hx:x == n with
    | false=>exact ih
    | true=>
      have e:x=n:=by simpa using hx
      subst e;simp only[Sf];rw[iG hc]
theorem e8{α:Type}:∀{l:List (Str×α)} {n:Str} {c:α},(l.map (·.1)).Nodup->(n,c)∈l->l.lookup n=some c
 | (k,v)::r,n,c,nd,h=>by
   have nd':=SR.mp nd;rw[SJ];rcases RM.mp h with e | h2
   ·cases e;simp
   ·cases hb:n == k with
    | true=>
      have e:n=k:=by simpa using hb
      exact absurd (SC.mpr ⟨(n,c),h2,e⟩:k∈r.map (·.1)) nd'.1
    | false=>exact e8 nd'.2 h2
theorem B7{α:Type}:∀{l:List (Str×α)} {n:Str} {c:α},(n,c)∈l->∃ d,l.lookup n=some d
 | (k,v)::r,n,c,h=>by
   rw[SJ];cases hb:n == k with
   | true=>exact⟨v,rfl⟩
   | false=>
     rcases RM.mp h with e | h
     ·cases e;simp at hb
     ·exact B7 h
noncomputable abbrev c1(X:Cx)(scope:VI)(N':List Str)(s2:V6)(H2:Hp)(cs:List (Str×V7))(C:V7)(fp:List V7):Cx where
 prog:=X.prog
 w:=X.w
 K:=X.K
 mg:=X.mg
 base:=X.base
 A:=X.A
 N:=N'
 s₀:=s2
 H₀:=H2
 env:=WB scope cs C X.env
 outer:=X.stack
 stack:=X.stack
 ex:=fp
 fn:=fun x=>scope.names.lookup x == some .cell
 calm:=X.calm
 pn:=X.pn
 xe:=fun _ _=>False
noncomputable def i6(sc0 sc:VI)(own cn N:List Str)(js:List Nat):Bool:=
 (decide (sc.kind = .function))&&(sc.names.all fun x=>!decide (x.2 = .free)||decide (sc0.names.lookup x.1=some .cell)||decide (sc0.names.lookup x.1=some .free))
 && decide ((sc.names.map (·.1)).Nodup)&&(own.all fun x=>decide (sc.names.lookup x=some .local)||decide (sc.names.lookup x=some .cell))&&(cn.all fun x=>decide (sc.names.lookup x=some .free))
 && decide ((own++cn).Nodup)&&decide (js.map (fun j=>N[j]?)=cn.map some)
noncomputable def AG(k:Nat)(js:List Nat)(σ:St):St:=Rc k none++js.map fun j=>(σ[j]?).join
noncomputable def Aa(X:Cx)(ifs:List Expr)(t:TT):Prop:=
 ∀(pq:List (V7×Obj)) (s:V6) (σ:St) (H:Hp) (Q:Bool->Hp->Prop),Inv X pq σ H s->t σ H Q->
  VA (VB X.prog X.w) X.A (forIn ifs true fun c r=>if r=true then do let ok <- isTrue c X.env (eval c X.env);pure (ForInStep.yield ok) else pure (ForInStep.yield r)) (TP X pq σ Q) X.xe s
theorem Iz{X:Cx}:Aa X [] (fun _ H Q=>Q true H):=fun _ _ _ H _ I h=>wpAny_tests_nil ⟨H,I,h⟩
theorem J0{X:Cx}{c:Expr}{t:TT}(h:PT X c t):Aa X [c] t:=fun pq s σ H Q I hw=>wpAny_tests_one (h pq s σ H Q I hw)
theorem J1{M:Model}{A:VM}{E:V4->V6->Prop}{s:V6}{scope:VI}{env:Env}{cl:List (Str×V7)}{Q:Env->V6->Prop}
 (h:Q (newEnv scope s.heap.objs.size env.globals (VU (s.heap.objs.size+1) scope.names cl) env.qual none .none (some env) Wd) {s with heap:=Wn (s.heap.push {cls := .type "dict",data := .dict #[]}) scope.names}):
 VA M A (Vq scope env.globals cl [] env.qual none .none (some env)) Q E s:=by
 simp only[Vq,UR,if_true];refine V5 (wpAny_alloc ?_);refine V5 (wpAny_layCells _ (fun name kind cells=>by cases hkc:kind == NameKind.cell<;>simp[hkc]) _ _ _ _ ?_);rw[show({s with heap:=s.heap.push {cls := .type "dict",data := .dict #[]}}:V6).heap.objs.size=s.heap.objs.size+1 from TJ ..];refine V5 ?_;rw[List.forIn_nil];exact V8 (V8 h)
structure CForm(prog:VC)(w:VG)(A:VM)(E tg iter:Expr)(ifs:List Expr)(emit:V4->Env->Sem Unit)(dp:Nat:=0):Prop where
 turn:∀(it:V4) (D:V7) (env:Env),compTurn E dp it (.ref D) env=(do
  standAt iter.pos
  match <- pyNext it with
  | none=>pure (.done .next)
  | some v=>
    Vj tg it v
    assign tg env v
    let mut ok:=true
    for c in ifs do
     if ok then ok <- isTrue c env (eval c env)
    if ok then emit (.ref D) env
    again (.compLoop E dp it (.ref D) env))
 und:∀(it acc:V4) (env:Env),A.under (.compLoop E dp it acc env)=A
 den:∀(it acc:V4) (env:Env),(VB prog w).den (.compLoop E dp it acc env)=(compTurn E dp it acc env).onRaise (fun x=>do noteFrame x env;theTreesLotGoes x)
 start:∀{R:Result->V6->Prop} {s:V6} {it acc:V4} {env:Env},codeAny (VB prog w) A (.compLoop E dp it acc env) R s->VA (VB prog w) A (pyIter it) (fun it' s'=>codeAny (VB prog w) A (.compLoop E dp it' acc env) R s') (notedBy (VB prog w) A env fun x s'=>R (.error x) s') s->
  codeAny (VB prog w) A (.compStart E dp it acc env) R s
theorem CForm.loop{prog:VC}{w:VG}{A:VM}{E tg iter:Expr}{ifs:List Expr}{emit:V4->Env->Sem Unit}{dp:Nat}(F:CForm prog w A E tg iter ifs emit dp){R:Result->V6->Prop}{s:V6}{it:V4}{D:V7}{env:Env}(I:Nat->V6->Prop)
 (turn:∀ n s,I n s->VA (VB prog w) A (pyNext it) (fun r s₁=>match r with
   | none=>R (.ok .next) s₁
   | some v=>VA (VB prog w) A (Vj tg it v) (fun _ s₁'=>VA (VB prog w) A (assign tg env v) (fun _ s₂=>
      VA (VB prog w) A (forIn ifs true fun c r=>if r=true then do let ok <- isTrue c env (eval c env);pure (ForInStep.yield ok) else pure (ForInStep.yield r)) (fun ok s₃=>
       if ok=true then VA (VB prog w) A (emit (.ref D) env) (fun _ s₅=>∃ m,m<n/\I m s₅) (fun _ _=>False) s₃
       else ∃ m,m<n/\I m s₃) (fun _ _=>False) s₂) (fun _ _=>False) s₁') (fun _ _=>False) s₁) (fun _ _=>False) s)
 (n:Nat) (h:I n s):
 codeAny (VB prog w) A (.compLoop E dp it (.ref D) env) R s:=by
 refine codeAny_loop rfl I (fun n s hI=>?_) n h;rw[F.und,F.den];refine wpAny_noted ?_;rw[F.turn];refine V5 (VW (V5 (VR (turn n s hI) (fun r s₁ h₁=>?_) fun _ _ h'=>False.elim h')));cases r with
 | none=>exact V8 h₁
 | some v=>
   refine V5 (VR h₁ (fun _ s₁' h₁'=>?_) fun _ _ h'=>False.elim h');refine V5 (VR h₁' (fun _ s₂ h₂=>V5 (VR h₂ (fun ok s₃ h₃=>?_) fun _ _ h'=>False.elim h')) fun _ _ h'=>False.elim h');cases ok with
   | false=>exact V8 ⟨rfl,h₃⟩
   | true=>exact V5 (VR h₃ (fun _ s₅ h₅=>V8 ⟨rfl,h₅⟩) fun _ _ h'=>False.elim h')
noncomputable def FJ{α:Type}(J:It)(g:TG)(tt:TT)(tem:α->St->Hp->(α->Hp->Prop)->Prop)(σ':St)(Q:Hp->Prop)(W:Nat->Nat->α->Hp->Prop):Prop:=
 ∀ i m a H,W i m a H->(J.stop i H/\Q H)\/(J.go i H/\∃ N:α->Hp->Prop,(∀ a' H',N a' H'->∃ m',m'<m/\W (i+1) m' a' H')/\∀ x H',J.yld i H x H'->g x σ' H' fun σ2 H2=>tt σ2 H2 fun b H3=>if b=true then tem a σ2 H3 N else N a H3)
noncomputable def Mi(elt:Expr)(acc:V4)(env:Env):Sem Unit:=do
 let x <- eval elt env
 let _ <- call (.builtin "list.append") [acc,x]
theorem FK{prog:VC}{w:VG}{A:VM}{elt tg iter:Expr}{ifs:List Expr}{scope:VI}{pos:Pos}:CForm prog w A (.ListComp elt [⟨tg,iter,ifs,0⟩] scope pos) tg iter ifs (Mi elt) where
 turn:=fun _ _ _=>compTurn_list ..
 und:=fun _ _ _=>rfl
 den:=fun _ _ _=>rfl
 start:=fun h0 h=>WH h0 h
noncomputable def Qj(te:TE)(D:V7)(ys:List V)(σ:St)(H:Hp)(N:List V->Hp->Prop):Prop:=te σ H fun v H4=>H4 D=some (.lst ys)/\ys.length<V9/\N (ys++[v]) (upd H4 D (.lst (ys++[v])))
noncomputable def Mj(J:It)(g:TG)(tt:TT)(te:TE)(D:V7)(σ':St)(Q:List V->Hp->Prop)(W:Nat->Nat->List V->Hp->Prop):Prop:=
 ∀ i m ys H,W i m ys H->(J.stop i H/\Q ys H)\/(J.go i H/\∃ N:List V->Hp->Prop,(∀ ys' H',N ys' H'->∃ m',m'<m/\W (i+1) m' ys' H')/\∀ x H',J.yld i H x H'->g x σ' H' fun σ2 H2=>tt σ2 H2 fun b H3=>
  if b=true then te σ2 H3 fun v H4=>H4 D=some (.lst ys)/\ys.length<V9/\N (ys++[v]) (upd H4 D (.lst (ys++[v]))) else N ys H3)
noncomputable def J3(wi:TI)(g:TG)(tt:TT)(te:TE)(k:Nat)(js:List Nat):TE:=fun σ H Q=>wi σ H fun J H1=>∀ D,H1 D=none->
 ∃ W:Nat->Nat->List V->Hp->Prop,(∃ m,W 0 m [] (upd H1 D (.lst [])))/\Mj J g tt te D (AG k js σ) (fun _ H=>Q (.ref D) H) W
section
variable{X:Cx}{pq:List (V7×Obj)}{σ:St}{H2:Hp}{s2:V6}{tg elt iter:Expr}{ifs:List Expr}{scope:VI}{pos:Pos}{own cn:List Str}{js:List Nat}{g:TG}{tt:TT}{te:TE}
theorem Bo{α:Type}{E:Expr}{emit:V4->Env->Sem Unit}{mk:Sem V4}{o0:Obj}{u0:HO}{a0:α}{tem:V7->α->St->Hp->(α->Hp->Prop)->Prop}(F:CForm X.prog X.w X.A E tg iter ifs emit)(hmk:∀{Q:V4->V6->Prop},Q (.ref s2.heap.objs.size) {s2 with heap:=s2.heap.push o0}->VA (VB X.prog X.w) X.A mk Q X.xe s2)(nf0:o0.isFreed=false)(new0:∀(H:Hp) (h:Heap),h.get? s2.heap.objs.size=some o0->ObjOk X.prog X.w H h s2.heap.objs.size u0)(hok:i6 X.env.scope scope own cn X.N js=true)(hc:X.calm=true)
 (hg:∀ s2 H2 cs C fp,PG (c1 X scope (own++cn) s2 H2 cs C fp) tg g) (ht:∀ s2 H2 cs C fp,Aa (c1 X scope (own++cn) s2 H2 cs C fp) ifs tt) (hem:∀ D s2 H2 cs C fp pq s σ H (a:α) (N:α->Hp->Prop),Inv (c1 X scope (own++cn) s2 H2 cs C fp) pq σ H s->tem D a σ H N->VA (VB X.prog X.w) X.A (emit (.ref D) (WB scope cs C X.env)) (fun _ s1=>∃ σ1 a1 H1,Inv (c1 X scope (own++cn) s2 H2 cs C fp) pq σ1 H1 s1/\N a1 H1) (fun _ _=>False) s)
 (I2:Inv X pq σ H2 s2) {it:V7} {fp:List V7} {tn:Nat->Heap->Prop} {J:It} (T:Turn X.prog X.w X.K tg J fp it tn) (st2:tn 0 s2.heap) (f2:∀ b∈fp,FpOk X pq H2 b)
 {Qe:Hp->Prop} (hW:∃ W:Nat->Nat->α->Hp->Prop,(∃ m,W 0 m a0 (upd H2 s2.heap.objs.size u0))/\FJ J g tt (tem s2.heap.objs.size) (AG own.length js σ) Qe W)
 {RR:V4->V7->Result->V6->Prop}
 (hRR:∀ C H' s',Inv X pq σ H' s'->FpOk X pq H' C->(∃ m,s'.heap.Ns C m)->Qe H'->RR (.ref s2.heap.objs.size) C (.ok .next) s'):
 VA (VB X.prog X.w) X.A mk (fun acc s₃=>VA (VB X.prog X.w) X.A (Vq scope X.env.globals (p8 X.env scope.names []) [] X.env.qual none .none (some X.env)) (fun cenv s₄=>
  codeAny (VB X.prog X.w) X.A (.compStart E 0 (.ref it) acc {cenv with scope:=relabel scope X.env}) (RR acc cenv.locals) s₄) X.xe s₃) X.xe s2:=by
 unfold i6 at hok;simp only[RA,dQ,RX,Ru,RZ,decide_eq_false_iff_not]at hok;obtain⟨⟨⟨⟨⟨⟨k1,k2⟩,k3⟩,k4⟩,k5⟩,k6⟩,k7⟩:=hok
 have hfreeK:∀ x∈scope.names,x.2 = .free->X.env.kindOf x.1=some .cell\/X.env.kindOf x.1=some .free:=fun x hx hf=>by
  rcases k2 x hx with(z | z) | z
  ·exact absurd hf z
  ·exact .inl z
  ·exact .inr z
 have hfree:∀ x∈scope.names,x.2 = .free->∃ c,X.env.cells.lookup x.1=some c:=fun x hx hf=>I2.ok.has x.1 (hfreeK x hx hf);refine hmk (J1 ?_);have hsz3:(s2.heap.push o0).objs.size=s2.heap.objs.size+1:=TJ ..;dsimp only;generalize hh3:s2.heap.push o0=h3 at hsz3 ⊢;have old3:∀ b o,s2.heap.get? b=some o->h3.get? b=some o:=fun b o e=>hh3▸RJ _ e;have hD3:h3.get? s2.heap.objs.size=some o0:=hh3▸RY _ nf0;generalize hcs:VU (h3.objs.size+1) scope.names (p8 X.env scope.names [])=cs;generalize hh4:Wn (h3.push {cls := .type "dict",data := .dict #[]}) scope.names=h4;have old4:∀ b o,h3.get? b=some o->h4.get? b=some o:=fun b o e=>hh4▸WL _ _ b o (RJ _ e);have old:∀ b o,s2.heap.get? b=some o->h4.get? b=some o:=fun b o e=>old4 b o (old3 b o e);have hD4:h4.get? s2.heap.objs.size=some o0:=old4 _ _ hD3;have hNs:h4.Ns h3.objs.size (fun _=>none):=hh4▸(Heap.Ns.new h3 (.type "dict")).keeps (WL _ _);generalize hC:h3.objs.size=C at hNs hcs ⊢;have hCD:@Eq Nat C (s2.heap.objs.size+1):=by rw[<-hC];exact hsz3
 have clM:=BY (env:=X.env) scope.names [] hfree (fun p hp=>absurd hp (by simp));have cellLt:∀ x c,X.env.cells.lookup x=some c->@LT.lt Nat _ c s2.heap.objs.size:=fun x c e=>by obtain⟨v,z⟩:=I2.cell x c e;exact z.lt
 have apart:cs.Pairwise fun x y=>x.2≠y.2:=by
  rw[<-hcs];refine w4 _ _ _ (Ar I2.ok.inj scope.names [] k3 hfree List.Pairwise.nil fun p hp=>absurd hp (by simp)) fun p hp=>?_;have:=cellLt _ _ (clM p hp);show @LT.lt Nat _ p.2 (C+1);omega
 have csM:∀ p∈cs,X.env.cells.lookup p.1=some p.2\/(C+1<=p.2/\(p.1,NameKind.cell)∈scope.names/\h4.IsCell p.2 none):=fun p hp=>by
  have hp0:=hp;rw[<-hcs]at hp;rcases v4 _ _ _ p hp with z | ⟨z,y⟩
  ·exact .inl (clM p z)
  ·have e:h3.objs.size+1=(h3.push {cls := .type "dict",data := .dict #[]}).objs.size:=by rw[TJ]
   have hp':=hp;rw[<-hC,e]at hp';rcases AF _ _ _ p hp' with q | q
   ·exact .inl (clM p q)
   ·exact .inr ⟨z,y,hh4▸q⟩
 have hX:(c1 X scope (own++cn) s2 H2 cs C fp).Ok:=by
  refine⟨I2.ok.mod,k1,I2.ok.glob,I2.ok.blt,by show @LE.le Nat _ s2.heap.objs.size C;omega,fun x y c h1 h2=>name_of_addr apart (PySem.mem_of_lookup h1) (PySem.mem_of_lookup h2),fun x hx=>?_,fun x c hf hx=>?_,I2.ok.hd,I2.ok.frames,.inl rfl,fun b hb=>?_,I2.bs,Rn I2.ok.bsz I2.sz,fun b o e hb=>?_,fun b hb hf=>?_,I2.stack,I2.stkFree⟩
  ·have hx':(relabel scope X.env).names.lookup x=some .cell\/(relabel scope X.env).names.lookup x=some .free:=hx
   have hl:scope.names.lookup x=some .cell\/scope.names.lookup x=some .free:=by
    unfold relabel at hx';dsimp only at hx';rw[t3]at hx';cases e:scope.names.lookup x with
    | none=>rw[e]at hx';simp at hx'
    | some k=>
      rw[e]at hx';cases k<;>simp_all
   have:∃ c,(x,c)∈cs:=by
    rw[<-hcs];rcases hl with hl | hl
    ·exact AE _ _ _ x (PySem.mem_of_lookup hl)
    ·obtain⟨c,hc'⟩:=Ba (env:=X.env) scope.names [] x (PySem.mem_of_lookup hl);exact⟨c,v5 _ _ _ _ hc'⟩
   obtain⟨c,hm⟩:=this;exact B7 hm
  ·have hf':scope.names.lookup x=some .cell:=by simpa using hf
   have hm:=PySem.mem_of_lookup (show cs.lookup x=some c from hx);rcases csM _ hm with z | ⟨z,_⟩
   ·
    rw[<-hcs]at hm;rcases v4 _ _ _ _ hm with q | ⟨q,_⟩
    ·rcases Aq (env:=X.env) scope.names [] _ q with q' | q'
     ·exact absurd q' (by simp)
     ·have:=e8 k3 q';have h2:scope.names.lookup x=some .free:=this;rw[hf']at h2;cases h2
    ·show @LE.le Nat _ s2.heap.objs.size c;have q2:@LE.le Nat _ (C+1) c:=q;omega
   ·show @LE.le Nat _ s2.heap.objs.size c;have z2:@LE.le Nat _ (C+1) c:=z;omega
  ·obtain⟨f0,f1,f2',f3,f4,f5⟩:=f2 b hb;obtain⟨o,ho,_⟩:=T.obj 0 _ st2 b hb;have hb2:@LT.lt Nat _ b s2.heap.objs.size:=RN ho;refine⟨?_,fun x c e=>?_⟩
   ·show @Ne Nat b C;omega
   ·rcases csM _ (PySem.mem_of_lookup (show cs.lookup x=some c from e)) with z | ⟨z,_⟩
    ·exact f4 x c z
    ·have z2:@LE.le Nat _ (C+1) c:=z;show @Ne Nat c b;omega
  ·obtain⟨f0,f1,f2',f3,f4,f5⟩:=f2 b hb;rcases f3 with z | z
   ·exact I2.ok.noex b o e z
   ·exact absurd (Ra (RN e) (Rn I2.ok.bsz z)) (SL _)
  ·obtain⟨f0,f1,f2',_⟩:=f2 b hb;rcases RM.mp (I2.stkSub b hf) with z | z
   ·exact f1 z
   ·exact f2' z
 have hDn:H2 s2.heap.objs.size=none:=I2.fresh;have hCn:H2 C=none:=I2.hok.fresh (show @LE.le Nat _ s2.heap.objs.size C by omega)
 have stkNe:∀ b,b≠X.env.locals->b∉X.fs->b∉frs X.stack:=fun b h1 h2 hb=>by
  rcases RM.mp (I2.stkSub b hb) with z | z
  ·exact h1 z
  ·exact h2 z
 have I4:Inv (c1 X scope (own++cn) s2 H2 cs C fp) pq (AG own.length js σ) (upd H2 s2.heap.objs.size u0) {s2 with heap:=h4}:=by
  refine⟨hX,rfl,I2.bare,Un.laid old (RE _) hDn,⟨fun _=>none,hNs,fun i x v e1 e2 e3=>?_⟩,fun x c e=>?_,?_,fun x c e=>?_,fun p hp=>?_,I2.hok.laid old (RE _) (new0 _ _ hD4),?_⟩
  ·
   have hi:own.length<=i:=by
    rcases TB i own.length with z | z
    ·exfalso;unfold AG at e2;rw[RQ (by simpa using z),SY,iP z]at e2;cases e2
    ·exact z
   have e1':cn[i - own.length]?=some x:=by
    have:(own++cn)[i]?=some x:=e1;rw[Rb hi]at this;exact this
   have e2':(js.map fun j=>(σ[j]?).join)[i - own.length]?=some (some v):=by
    unfold AG at e2;rw[Rb (by simpa using hi)]at e2;simpa using e2
   rw[RI]at e2';cases hj:js[i - own.length]? with
   | none=>rw[hj]at e2';cases e2'
   | some j=>
     rw[hj]at e2';have e2'':(σ[j]?).join=some v:=by simpa using e2'
     have hσ:σ[j]?=some (some v):=by
      cases q:σ[j]? with
      | none=>rw[q]at e2'';cases e2''
      | some z=>rw[q]at e2'';simp at e2'';rw[e2'']
     have hNx:X.N[j]?=some x:=by
      have:=congrArg (fun l=>l[i - own.length]?) k7;simp only[RI,hj,e1',Sf]at this;exact oj this
     have hfx:scope.names.lookup x=some .free:=k5 x (RD e1');have hK:=hfreeK (x,.free) (PySem.mem_of_lookup hfx) rfl;have hK':X.env.kindOf x=some .cell\/X.env.kindOf x=some .free:=hK;obtain⟨m,hn,hl⟩:=I2.loc
     have hvis:Vis X.env.scope x:=by
      rcases hK' with z | z
      ·exact .inr (.inl z)
      ·exact .inr (.inr z)
     obtain⟨u,r,l⟩:=hl j x v hNx hσ hvis;refine⟨u,r,.inr ?_⟩;rcases l with⟨l1,_⟩ | ⟨l1,c,l2,l3⟩
     ·rcases hK' with z | z
      ·rw[z]at l1;cases l1
      ·rw[z]at l1;cases l1
     ·have hrl:(WB scope cs C X.env).kindOf x=some .cell\/(WB scope cs C X.env).kindOf x=some .free:=by
       show(relabel scope X.env).names.lookup x=_\/(relabel scope X.env).names.lookup x=_;unfold relabel;dsimp only;rw[t3,hfx];simp only[Sf];split
       ·exact .inl rfl
       ·exact .inr rfl
      refine⟨hrl,c,?_,l3.keeps fun b o e=>old b o e⟩;show cs.lookup x=some c;obtain⟨c',hc'⟩:=hX.has x hrl;have hc2:cs.lookup x=some c':=hc';rw[hc2];have hm:=PySem.mem_of_lookup hc2
      have:X.env.cells.lookup x=some c':=by
       rcases csM _ hm with z | ⟨_,z,_⟩
       ·exact z
       ·have:=e8 k3 z;have h2:scope.names.lookup x=some .cell:=this;rw[hfx]at h2;cases h2
      rw[l2]at this;exact this.symm
  ·rcases csM _ (PySem.mem_of_lookup (show cs.lookup x=some c from e)) with z | ⟨_,_,z⟩
   ·obtain⟨v,q⟩:=I2.cell _ _ z;exact⟨v,q.keeps fun b o e=>old b o e⟩
   ·exact⟨none,z⟩
  ·show upd H2 s2.heap.objs.size u0 C=none;rw[c3 (show @Ne Nat C s2.heap.objs.size by omega)];exact hCn
  ·have hne:c≠s2.heap.objs.size/\H2 c=none:=by
    rcases csM _ (PySem.mem_of_lookup (show cs.lookup x=some c from e)) with z | ⟨z,_,_⟩
    ·exact⟨Ro (cellLt _ _ z),I2.freeC _ _ z⟩
    ·have z2:@LE.le Nat _ (C+1) c:=z;exact⟨show @Ne Nat c s2.heap.objs.size by omega,I2.hok.fresh (show @LE.le Nat _ s2.heap.objs.size c by omega)⟩
   rw[c3 hne.1];exact hne.2
  ·obtain⟨e,n,ne,nf,d⟩:=I2.pin p hp;have hlt:@LT.lt Nat _ p.1 s2.heap.objs.size:=RN e;refine⟨old _ _ e,?_,?_,stkNe _ ne nf,d⟩
   ·rw[c3 (Ro hlt)];exact n
   ·show @Ne Nat p.1 C;omega
  ·show(AG own.length js σ).length=(own++cn).length;unfold AG;have hl:=congrArg Tq k7;simp only[RC]at hl;simp[hl]
 have stat:∀{H':Hp},(∀ b∈fp,H' b=none)->∀ b∈fp,FpOk (c1 X scope (own++cn) s2 H2 cs C fp) pq H' b:=fun hn b hb=>by
  obtain⟨f0,f1,f2',f3,f4,f5⟩:=f2 b hb;exact⟨hn b hb,(hX.exf b hb).1,stkNe b f1 f2',.inl hb,fun x c e=>(hX.exf b hb).2 x c e,f5⟩
 have back:∀{σ':St} {H':Hp} {s':V6},Inv (c1 X scope (own++cn) s2 H2 cs C fp) pq σ' H' s'->Inv X pq σ H' s':=fun{σ' H' s'} J'=>
  I2.call' (ch:=fp) J'.os J'.base J'.hok J'.bare fun b hb=>by
   obtain⟨f0,f1,f2',f3,f4,f5⟩:=f2 b hb;exact⟨f3,f1,f4,f5⟩
 obtain⟨W,⟨m0,w0⟩,turn⟩:=hW
 have loop:codeAny (VB X.prog X.w) X.A (.compLoop E 0 (.ref it) (.ref s2.heap.objs.size) (WB scope cs C X.env)) (RR (.ref s2.heap.objs.size) C) {s2 with heap:=h4}:=by
  refine F.loop (fun n s'=>∃ i ys H',Inv (c1 X scope (own++cn) s2 H2 cs C fp) pq (AG own.length js σ) H' s'/\tn i s'.heap/\(∀ b∈fp,H' b=none)/\W i n ys H') ?_ m0
   ⟨0,a0,_,I4,T.keep _ _ _ st2 fun b hb o e=>old b o e,fun b hb=>?_,w0⟩
  ·rintro n s3 ⟨i,ys,H3,I3,st3,fr3,w3⟩;rcases turn i n ys H3 w3 with⟨stop,q⟩ | ⟨go,N,hN,step⟩
   ·refine thn (T.done (c1 X scope (own++cn) s2 H2 cs C fp) rfl rfl rfl hc i pq s3 _ H3 _ I3 (stat fr3) st3 stop) fun r s4 ⟨hr,I5⟩=>?_;subst hr;obtain⟨m,hn,_⟩:=I5.loc;exact hRR C H3 s4 (back I5) (I2.fpOk (show @LE.le Nat _ s2.heap.objs.size C by omega) I5.free) ⟨m,hn⟩ q
   ·refine thn (T.item (c1 X scope (own++cn) s2 H2 cs C fp) rfl rfl rfl hc i pq s3 _ H3 _ I3 (stat fr3) st3 go) fun r s4 ⟨u,hr,h4'⟩=>?_;subst hr;refine thn h4' fun _ s5 ⟨x,H5,I5,r5,y5,st5,fr5⟩=>?_;have I5':=I5.pinned (stat fr5) (T.obj _ _ st5);refine thn (hg s2 H2 cs C fp _ s5 _ H5 x u _ I5' r5 (step x H5 y5)) fun _ s6 ⟨σ6,H6,I6,q6⟩=>?_;refine thn (ht s2 H2 cs C fp _ s6 σ6 H6 _ I6 q6) fun b s7 ⟨H7,I7,q7⟩=>?_
    have again:∀{σ8:St} {H8:Hp} {s8:V6} {ys8:α},Inv (c1 X scope (own++cn) s2 H2 cs C fp) (pq++Ao fp s5.heap) σ8 H8 s8->(∀(j:Nat) v,(AG own.length js σ)[j]?=some (some v)->σ8[j]?=some (some v))->(∃ m',m'<n/\W (i+1) m' ys8 H8)->
     ∃ m,m<n/\∃ i ys H',Inv (c1 X scope (own++cn) s2 H2 cs C fp) pq (AG own.length js σ) H' s8/\tn i s8.heap/\(∀ b∈fp,H' b=none)/\W i m ys H':=fun{σ8 H8 s8 ys8} I8 hw8 ⟨m',hm,w8⟩=>by
     refine⟨m',hm,i+1,ys8,H8,I8.unpinned.weak (by rw[I8.len,I4.len]) hw8,T.keep _ _ _ st5 fun b hb o e=>(I8.pin (b,o) (Re _ (Re _ (v0 hb e)))).1,fun b hb=>?_,w8⟩;obtain⟨o,e,d⟩:=T.obj _ _ st5 b hb;exact(I8.pin (b,o) (Re _ (Re _ (v0 hb e)))).2.1
    have capK:∀{σ8:St} {H8:Hp} {s8:V6},Inv (c1 X scope (own++cn) s2 H2 cs C fp) (pq++Ao fp s5.heap) σ8 H8 s8->Inv (c1 X scope (own++cn) s2 H2 cs C fp) (pq++Ao fp s5.heap) (AG own.length js σ) H8 s8:=fun{σ8 H8 s8} I8=>by
     have IX:=back I8.unpinned;refine⟨I8.ok,I8.os,I8.bare,I8.base,?_,I8.cell,I8.free,I8.freeC,I8.pin,I8.hok,I4.len⟩;obtain⟨m,hn,_⟩:=I8.loc;refine⟨m,hn,fun i x v e1 e2 e3=>?_⟩;obtain⟨mx,hnx,hlx⟩:=IX.loc
     have hi:own.length<=i:=by
      rcases TB i own.length with z | z
      ·exfalso;unfold AG at e2;rw[RQ (by simpa using z),SY,iP z]at e2;cases e2
      ·exact z
     have e1':cn[i - own.length]?=some x:=by
      have:(own++cn)[i]?=some x:=e1;rw[Rb hi]at this;exact this
     have e2':(js.map fun j=>(σ[j]?).join)[i - own.length]?=some (some v):=by
      unfold AG at e2;rw[Rb (by simpa using hi)]at e2;simpa using e2
     rw[RI]at e2';cases hj:js[i - own.length]? with
     | none=>rw[hj]at e2';cases e2'
     | some j=>
       rw[hj]at e2';have e2'':(σ[j]?).join=some v:=by simpa using e2'
       have hσ:σ[j]?=some (some v):=by
        cases q:σ[j]? with
        | none=>rw[q]at e2'';cases e2''
        | some z=>rw[q]at e2'';simp at e2'';rw[e2'']
       have hNx:X.N[j]?=some x:=by
        have:=congrArg (fun l=>l[i - own.length]?) k7;simp only[RI,hj,e1',Sf]at this;exact oj this
       have hfx:scope.names.lookup x=some .free:=k5 x (RD e1');have hK':X.env.kindOf x=some .cell\/X.env.kindOf x=some .free:=hfreeK (x,.free) (PySem.mem_of_lookup hfx) rfl
       have hvis:Vis X.env.scope x:=by
        rcases hK' with z | z
        ·exact .inr (.inl z)
        ·exact .inr (.inr z)
       obtain⟨u,r,l⟩:=hlx j x v hNx hσ hvis;refine⟨u,r,.inr ?_⟩;rcases l with⟨l1,_⟩ | ⟨l1,c,l2,l3⟩
       ·rcases hK' with z | z
        ·rw[z]at l1;cases l1
        ·rw[z]at l1;cases l1
       ·have hrl:(WB scope cs C X.env).kindOf x=some .cell\/(WB scope cs C X.env).kindOf x=some .free:=by
         show(relabel scope X.env).names.lookup x=_\/(relabel scope X.env).names.lookup x=_;unfold relabel;dsimp only;rw[t3,hfx];simp only[Sf];split
         ·exact .inl rfl
         ·exact .inr rfl
        refine⟨hrl,c,?_,l3⟩;show cs.lookup x=some c;obtain⟨c',hc'⟩:=hX.has x hrl;have hc2:cs.lookup x=some c':=hc';rw[hc2];have hm:=PySem.mem_of_lookup hc2
        have:X.env.cells.lookup x=some c':=by
         rcases csM _ hm with z | ⟨_,z,_⟩
         ·exact z
         ·have:=e8 k3 z;have h2:scope.names.lookup x=some .cell:=this;rw[hfx]at h2;cases h2
        rw[l2]at this;exact this.symm
    cases b with
    | false=>
      rw[iG RH];rw[iG RH]at q7;exact again (capK I7) (fun _ _ e=>e) (hN _ _ q7)
    | true=>
      rw[iP rfl];rw[iP rfl]at q7;exact thn (hem _ s2 H2 cs C fp _ s7 σ6 H7 _ _ I7 q7) fun _ s9 ⟨σ9,a9,H9,I9,q9⟩=>again (capK I9) (fun _ _ e=>e) (hN _ _ q9)
  ·obtain⟨f0,_⟩:=f2 b hb;obtain⟨o,ho,_⟩:=T.obj 0 _ st2 b hb;rw[c3 (Ro (RN ho))];exact f0
 exact F.start loop (T.self _ 0 _ _ _ (T.keep _ _ _ st2 fun b hb o e=>old b o e) loop)
theorem CF(hok:i6 X.env.scope scope own cn X.N js=true)(hc:X.calm=true)
 (hg:∀ s2 H2 cs C fp,PG (c1 X scope (own++cn) s2 H2 cs C fp) tg g) (ht:∀ s2 H2 cs C fp,Aa (c1 X scope (own++cn) s2 H2 cs C fp) ifs tt) (he:∀ s2 H2 cs C fp,PE (c1 X scope (own++cn) s2 H2 cs C fp) elt te)
 (I2:Inv X pq σ H2 s2) {it:V7} {fp:List V7} {tn:Nat->Heap->Prop} {J:It} (T:Turn X.prog X.w X.K tg J fp it tn) (st2:tn 0 s2.heap) (f2:∀ b∈fp,FpOk X pq H2 b)
 {Qe:Hp->Prop} (hW:∃ W:Nat->Nat->List V->Hp->Prop,(∃ m,W 0 m [] (upd H2 s2.heap.objs.size (.lst [])))/\Mj J g tt te s2.heap.objs.size (AG own.length js σ) (fun _ H=>Qe H) W)
 {RR:V4->V7->Result->V6->Prop}
 (hRR:∀ C H' s',Inv X pq σ H' s'->FpOk X pq H' C->(∃ m,s'.heap.Ns C m)->Qe H'->RR (.ref s2.heap.objs.size) C (.ok .next) s'):
 VA (VB X.prog X.w) X.A (newList []) (fun acc s₃=>VA (VB X.prog X.w) X.A (Vq scope X.env.globals (p8 X.env scope.names []) [] X.env.qual none .none (some X.env)) (fun cenv s₄=>
  codeAny (VB X.prog X.w) X.A (.compStart (.ListComp elt [⟨tg,iter,ifs,0⟩] scope pos) 0 (.ref it) acc {cenv with scope:=relabel scope X.env}) (RR acc cenv.locals) s₄) X.xe s₃) X.xe s2:=by
 obtain⟨W,w0,hw⟩:=hW;refine Bo (RR:=RR) (a0:=[]) (o0:={cls := .type "list",dict:=none,data := .seq ([]:List V4).toArray}) (u0 := .lst []) (tem:=Qj te) FK (fun hq=>VP hq) rfl (fun _ _ hD=>⟨Rz _,[],0,.nil,hD⟩) hok hc hg ht (fun D s2 H2 cs C fp pq s σ H ys N I h=>?_) I2 T st2 f2 ⟨W,w0,hw⟩ hRR;refine V5 (thn (he s2 H2 cs C fp _ s σ H _ I h) fun y s8 ⟨v,H8,I8,r8,hD8,hz8,q8⟩=>?_);refine V5 (thn (B1 (X:=c1 X scope (own++cn) s2 H2 cs C fp) _ s8 σ H8 (.ref D) [v] (.ref D) [y] (fun _ H9=>H9=upd H8 D (.lst (ys++[v]))) I8 rfl (.cons r8 .nil) ⟨_,ys,v,rfl,rfl,hD8,hz8,rfl⟩) fun _ s9 ⟨z,H9,I9,r9,e9⟩=>?_);subst e9;exact V8 ⟨_,_,_,I9,q8⟩
theorem LC{wi:TI}(own cn:List Str)(js:List Nat)(hi:PI X tg iter wi)(hg:∀ s2 H2 cs C fp,PG (c1 X scope (own++cn) s2 H2 cs C fp) tg g)(ht:∀ s2 H2 cs C fp,Aa (c1 X scope (own++cn) s2 H2 cs C fp) ifs tt)
 (he:∀ s2 H2 cs C fp,PE (c1 X scope (own++cn) s2 H2 cs C fp) elt te) (hc:X.calm=true:=by rfl) (hok:i6 X.env.scope scope own cn X.N js=true:=by kernel_rfl)
 (hs:∀ x,VO iter X.env x=pure x:=by intro _;rfl):PE X (.ListComp elt [⟨tg,iter,ifs,0⟩] scope pos) (J3 wi g tt te own.length js):=by
 intro pq s σ H Q I h;have hok':=hok;unfold i6 at hok';simp only[RA,dQ,RX,Ru,RZ,decide_eq_false_iff_not]at hok';obtain⟨⟨⟨⟨⟨⟨k1,k2⟩,k3⟩,k4⟩,k5⟩,k6⟩,k7⟩:=hok'
 have hfree:∀ x∈scope.names,x.2 = .free->∃ c,X.env.cells.lookup x.1=some c:=fun x hx hf=>I.ok.has x.1 (by
  rcases k2 x hx with(z | z) | z
  ·exact absurd hf z
  ·exact .inl z
  ·exact .inr z)
 rw[eval_ListComp];refine Vd (use:=none) rfl hs (m5 hfree) k1 (fun x hx hl=>?_) (thn (hi pq s σ H _ I h) fun v s1 h1=>thn h1 fun itv s2 h2=>?_)
 ·have:=e8 k3 (show(x.1,x.2)∈scope.names from hx);rw[this,hl]
 ·obtain⟨it,fp,tn,J,H2,e,I2,T,st2,f2,q⟩:=h2;subst e;refine CF (RR:=fun acc C=>Wx (VB X.prog X.w) X.A X.xe none (EP X pq σ Q) acc C) hok hc hg ht he I2 T st2 f2 (q _ I2.fresh) ?_;intro C H' s' I' fC ⟨m,hn⟩ q';obtain⟨f0,f1,f2',f3,f4,f5⟩:=fC;refine⟨m,hn,fun h' hs'=>⟨.ref s2.heap.objs.size,H',?_,rfl,q'⟩⟩;exact I'.turned (t':=s'.toks) (fun b o hb e=>(hs'.2 b hb).trans e) f0 f1 f3 f4 f5
theorem FL{wi:TI}{i:Nat}{x:Str}{px spos:Pos}(own cn:List Str)(js:List Nat)(hN:X.N.Nodup)(hix:X.N[i]?=some x)(hx:X.env.scope.names.lookup x=some .local)(hi:PI X tg iter wi)
 (hg:∀ s2 H2 cs C fp,PG (c1 X scope (own++cn) s2 H2 cs C fp) tg g) (ht:∀ s2 H2 cs C fp,Aa (c1 X scope (own++cn) s2 H2 cs C fp) ifs tt)
 (he:∀ s2 H2 cs C fp,PE (c1 X scope (own++cn) s2 H2 cs C fp) elt te) (hc:X.calm=true:=by rfl) (hok:i6 X.env.scope scope own cn X.N js=true:=by kernel_rfl)
 (hsw:VX (.ListComp elt [⟨tg,iter,ifs,0⟩] scope pos) (some (.Name x px)) spos.line X.env=pure true:=by rfl)
 (hs:∀ x,VO iter X.env x=pure x:=by intro _;rfl):PS X (.Assign [.Name x px] (.ListComp elt [⟨tg,iter,ifs,0⟩] scope pos) spos) (F7 (J3 wi g tt te own.length js) (E2 i)):=by
 intro pq s σ H D I h;have hok':=hok;unfold i6 at hok';simp only[RA,dQ,RX,Ru,RZ,decide_eq_false_iff_not]at hok';obtain⟨⟨⟨⟨⟨⟨k1,k2⟩,k3⟩,k4⟩,k5⟩,k6⟩,k7⟩:=hok'
 have hfree:∀ x∈scope.names,x.2 = .free->∃ c,X.env.cells.lookup x.1=some c:=fun x hx hf=>I.ok.has x.1 (by
  rcases k2 x hx with(z | z) | z
  ·exact absurd hf z
  ·exact .inl z
  ·exact .inr z)
 rw[WQ _ _ _ _ hsw];refine V5 (VW (V5 ?_));show VA _ X.A (do let _ <- comprehension (.ListComp elt [⟨tg,iter,ifs,0⟩] scope pos) scope X.env _ (newList []) false (eval iter X.env) (some (assign (.Name x px) X.env))) _ _ s
 refine V5 (VR (Vd (use:=some (assign (.Name x px) X.env)) (Q:=fun _ s'=>SP X pq D .next s') rfl hs (m5 hfree) k1 (fun x hx hl=>?_)
  (thn (hi pq s σ H _ I h) fun v s1 h1=>thn h1 fun itv s2 h2=>?_)) (fun _ s' hq=>V8 (V8 hq)) fun _ _ e=>e)
 ·have:=e8 k3 (show(x.1,x.2)∈scope.names from hx);rw[this,hl]
 ·obtain⟨it,fp,tn,J,H2,e,I2,T,st2,f2,q⟩:=h2;subst e;refine CF (RR:=fun acc C=>Wx (VB X.prog X.w) X.A X.xe (some (assign (.Name x px) X.env)) (fun _ s'=>SP X pq D .next s') acc C) hok hc hg ht he I2 T st2 f2 (q _ I2.fresh) ?_;intro C H' s' I' fC ⟨m,hn⟩ q';obtain⟨f0,f1,f2',f3,f4,f5⟩:=fC;show VA _ X.A (assign (.Name x px) X.env (.ref s2.heap.objs.size)) _ _ _;refine Vy (BW I' hN hix (.inl hx) (v := .ref s2.heap.objs.size) rfl (fun s3 I3 hch=>?_) (.inr hx));obtain⟨a,hsb,ha⟩:=hch
  have hCa:C≠a:=by
   rcases ha with z | z
   ·rw[z];exact f1
   ·exact fun e=>f4 x a z e.symm
  refine⟨m,hn.sameBut hsb hCa,fun h' hs'=>?_⟩;exact⟨_,H',I3.turned (t':=s3.toks) (fun b o hb e=>(hs'.2 b hb).trans e) f0 f1 f3 f4 f5,q'⟩
end
end L2
namespace PySem
open AutoSeq1 (wpAny_loadPart')
section
variable{prog:VC}{w:VG}{A:VM}{E:V4->V6->Prop}{s:V6}
theorem Al{it l:V7}{i:Nat}{items}{x:V4}{Q:V4->V6->Prop}(hit:s.heap.IsTupleIter it l i)
 (hl:s.heap.IsTuple l items) (hx:items[i]?=some x)
 (hQ:∀ h',h'.IsTupleIter it l (i+1)->T9 it s.heap h'->Q x {s with heap:=h'}):
 VA (VB prog w) A (Builtin.SmallTypes.nextOf (.ref it)) Q E s:=by
 obtain⟨o,ho,hc,hd⟩:=id hit;obtain⟨ol,hol,_,nl,hdl⟩:=hl;unfold Builtin.SmallTypes.nextOf
 refine V5 (Ve (name:=Str.ofString "__next__") hit.typeIs F.slot_tuple_iterator_next
  (Vt F.slot_tuple_iterator_next hit.typeIs F.entry_tuple_iterator_next ?_ (F.args_tuple_iterator_next_1 _)))
 show VA _ _ (field (.ref it) 0 >>= _) _ _ s;refine V5 (Vo ho hd (x := .ref l) rfl ?_);show VA _ _ (if (Value.ref l == Value.none)=true then _ else _) _ _ s;rw[iG (show ¬ ((Value.ref l == Value.none)=true) from RH)];show VA _ _ (field (.ref it) 1 >>= _) _ _ s;refine V5 (Vo ho hd (x := .int i 0) rfl ?_);show VA _ _ (seqItems? (.ref l) >>= _) _ _ s;refine V5 (Wy hol hdl ?_);simp only[Sq,hx];refine V5 (Wz ho hd (by simp) (V8 ⟨x,rfl,V8 (hQ _ ?_ (T9.update ..))⟩))
 exact⟨_,UH _ ho (Obj.isFreed_of_fields (Obj.data_mapFields hd _)),(Obj.cls_mapFields ..).trans hc,by
  rw[Obj.data_mapFields hd];simp[rawInt]⟩
theorem As{it l:V7}{i:Nat}{items}{Q:V4->V6->Prop}(hh:A.handled=none)
 (hit:s.heap.IsTupleIter it l i) (hl:s.heap.IsTuple l items) (hx:items[i]?=none)
 (hE:∀ h' e,Heap.ExtBut it s.heap h'->(∃ o,h'.get? e=some o/\o.cls = .type "StopIteration")->E (.ref e) {s with heap:=h'}):
 VA (VB prog w) A (Builtin.SmallTypes.nextOf (.ref it)) Q E s:=by
 obtain⟨o,ho,hc,hd⟩:=id hit;obtain⟨ol,hol,_,nl,hdl⟩:=hl;unfold Builtin.SmallTypes.nextOf
 refine V5 (Ve (name:=Str.ofString "__next__") hit.typeIs F.slot_tuple_iterator_next
  (Vt F.slot_tuple_iterator_next hit.typeIs F.entry_tuple_iterator_next ?_ (F.args_tuple_iterator_next_1 _)))
 show VA _ _ (field (.ref it) 0 >>= _) _ _ s;refine V5 (Vo ho hd (x := .ref l) rfl ?_);show VA _ _ (if (Value.ref l == Value.none)=true then _ else _) _ _ s;rw[iG (show ¬ ((Value.ref l == Value.none)=true) from RH)];show VA _ _ (field (.ref it) 1 >>= _) _ _ s;refine V5 (Vo ho hd (x := .int i 0) rfl ?_);show VA _ _ (seqItems? (.ref l) >>= _) _ _ s;refine V5 (Wy hol hdl ?_);simp only[Sq,hx];refine V5 (Vk (V5 (Wz ho hd (by simp) ?_)))
 first
  | refine V5 (wpAny_letGo ?_)
  | skip
 show VA _ _ (newExc (.type "StopIteration") [] >>= _) _ _ _;refine V5 ?_;simp only[newExc,newTuple];refine V5 (VP ?_ (by size_fits));refine V5 (m:=X0 _ _) (wpAny_of_eq (a:=Value.none) (by first | rfl | (simp only[X0];rfl)) ?_);refine VP ?_ (by size_fits);simp only[raiseNew];refine V5 (wpAny_handled ?_)
 first | rw[show A.in1.handled=none from hh] | rw[hh]
 refine V5 (V8 (wpAny_throw ?_));exact hE _ _ (((T9.update ..).extBut.push _).push _) ⟨_,RY _ rfl,rfl⟩
end
theorem Aj{prog:VC}{w:VG}{A:VM}(hh:A.handled=none)(it l:V7)(hne:l≠it)(items:Array V4):
 Draws prog w A it [it,l] items.size (fun i v=>items[i]?=some v) (fun i h=>h.IsTupleIter it l i/\h.IsTuple l items) where
 live:=fun _ _ st=>let ⟨o,ho,_⟩:=st.1;⟨o,ho⟩
 frame:=fun _ _ _ st hk=>⟨st.1.at fun o e=>hk it (by simp) o e,let ⟨o,ho,r⟩:=st.2;⟨o,hk l (by simp) o ho,r⟩⟩
 item:=fun i s Q E hi st hQ=>by
  refine Al st.1 st.2 (x:=items[i]) (by simp[hi]) fun h' hit' hs'=>?_;exact hQ _ h' s.toks (by simp[hi]) ⟨hit',st.2.extBut hs'.extBut hne⟩ hs'
 done:=fun s Q E st hE=>As hh st.1 st.2 (by simp) hE
theorem B9(l:V7)(items:Array V4)(n:Nat)(dct:Option V7)(sl:Array (Option V4)):
 Meets (Builtin.«enumerate.__new__» ⟨[.type "enumerate",.ref l],[]⟩) (fun _ R s=>s.heap.get? l=some {cls := .type "tuple",dict:=dct,data := .seq items n,slots:=sl}/\
  R (.ok (.ret (.ref (s.heap.push {cls := .type "tuple_iterator",data := .fields #[.ref l,.int 0 0]}).objs.size)))
   {s with heap:=(s.heap.push {cls := .type "tuple_iterator",data := .fields #[.ref l,.int 0 0]}).push {cls := .type "enumerate",data := .fields #[.none,.bool false,.ref s.heap.objs.size,rawInt 0,.none,.none]}}):=
 .of_wp fun prog w A R s h=>by
  obtain⟨hp,g,d,tk,os⟩:=s;obtain⟨hl,h⟩:=h;have hsub:=sub_enumerate;have hL:Heap.IsTuple (Shared.heap ⟨hp,g,d,tk,os⟩) l items:=⟨_,hl,rfl,n,rfl⟩
  wp_walk using wpAny_loadPart' hl
  refine wpAny_stack_any fun st=>V8 ?_;split
  ·rename_i c _ _ _ _ _;cases(c == Value.type "enumerate")
   ·wp_walk using wpAny_loadPart' hl,Vm hL
    exact⟨_,rfl,h⟩
   ·wp_walk using wpAny_loadPart' hl,Vm hL
    exact⟨_,rfl,h⟩
  ·wp_walk using wpAny_loadPart' hl,Vm hL
   exact⟨_,rfl,h⟩
section
variable{prog:VC}{w:VG}{A:VM}{E:V4->V6->Prop}{s:V6}
theorem AH{l:V7}{items:Array V4}{Q:V4->V6->Prop}(hL:s.heap.IsTuple l items)
 (h:∀ h',IsEnum h' (s.heap.objs.size+1) s.heap.objs.size 0 .none->h'.IsTupleIter s.heap.objs.size l 0->h'.objs.size=s.heap.objs.size+2->
   (∀ b o,s.heap.get? b=some o->h'.get? b=some o)->Q (.ref (s.heap.objs.size+1)) {s with heap:=h'}):
 VA (VB prog w) A (call (.type "enumerate") [.ref l]) Q E s:=by
 obtain⟨⟨c,dct,dt,sl⟩,hl,hc,n,hd⟩:=hL;replace hc:c = .type "tuple":=hc;replace hd:dt = .seq items n:=hd;subst hc hd
 refine callType_new F.called_enumerate (by decide) (F.typeCall_enumerate_1 _) (F.newCall_enumerate_1 _) (fun obj=>F.args_object_init_2 obj _) F.entry_enumerate_new
  (B9 l items n dct sl) ⟨hl,?_⟩
 have hz:(s.heap.push {cls := .type "tuple_iterator",data := .fields #[.ref l,.int 0 0]}).objs.size=s.heap.objs.size+1:=TJ ..;show _/\_;rw[hz]
 have he:IsEnum ((s.heap.push {cls := .type "tuple_iterator",data := .fields #[.ref l,.int 0 0]}).push
  {cls := .type "enumerate",data := .fields #[.none,.bool false,.ref s.heap.objs.size,rawInt 0,.none,.none]}) (s.heap.objs.size+1) s.heap.objs.size 0 .none:=by
  have:=RY (s.heap.push {cls := .type "tuple_iterator",data := .fields #[.ref l,.int 0 0]})
   (o:={cls := .type "enumerate",data := .fields #[.none,.bool false,.ref s.heap.objs.size,rawInt 0,.none,.none]}) rfl
  rw[hz]at this;exact this
 refine⟨⟨_,he,rfl⟩,h _ he ⟨_,RJ _ (RY _ rfl),rfl,rfl⟩ (by rw[TJ,hz]) fun b o x=>RJ _ (RJ _ x)⟩
end
end PySem
namespace L2
open PySem PySem.Spec PyProof.Rows
section
variable{X:Cx}{pq:List (V7×Obj)}{σ:St}{H:Hp}{s:V6}{h':Heap}
theorem Inv.turnedL{t':Nat}{ch:List V7}(I:Inv X pq σ H s)(k:∀ b o,b∉ch->s.heap.get? b=some o->h'.get? b=some o)(hf:∀ b∈ch,FpOk X pq H b):Inv X pq σ H {s with heap:=h',toks:=t'}:=by
 have nit:∀ b u,H b=some u->b∉ch:=fun b u e z=>by rw[(hf b z).1]at e;cases e
 refine I.step (g':=s.gens) (d':=s.drawn) (ch:=ch) (fun b hb=>?_) (fun b o _ _ hc e _=>k b o hc e) (fun b o _ _ hc e _=>⟨o.slots,k b o hc e⟩) (fun _ _ _ _ n=>n)
  (fun b o hc e=>⟨o,k b o hc e⟩) (fun _ _ e=>e) (fun _ _ _ e=>e) (fun b ps e=>⟨#[],by rw[e];simp⟩) (fun m hm=>?_) (fun b u e=>?_) I.bare
 ·obtain⟨f0,f1,f2,f3,f4,f5⟩:=hf b hb;exact⟨f3,f1,f4,f5⟩
 ·obtain⟨o,es,ep,ho,r⟩:=hm;exact⟨o,es,ep,k _ o (fun z=>(hf _ z).2.1 rfl) ho,r⟩
 ·refine(I.hok b u e).stay (fun c v hc q=>k c v ?_ q) (fun _ q=>q) fun _ _ q=>q;rcases hc with z | z
  ·rw[z];exact nit b u e
  ·exact nit c _ z
theorem Inv.turnLay{t':Nat}{ch:List V7}{o:HO}(I:Inv X pq σ H s)(k:∀ b u,b∉ch->s.heap.get? b=some u->h'.get? b=some u)(hf:∀ b∈ch,FpOk X pq H b)
 (new:ObjOk X.prog X.w (upd H s.heap.objs.size o) h' s.heap.objs.size o):Inv X pq σ (upd H s.heap.objs.size o) {s with heap:=h',toks:=t'}:=by
 have hT:H s.heap.objs.size=none:=I.fresh;have nit:∀ b u,H b=some u->b∉ch:=fun b u e z=>by rw[(hf b z).1]at e;cases e
 have lt:∀ b u,s.heap.get? b=some u->b≠s.heap.objs.size:=fun b u e=>Ro (RN e)
 refine I.step (g':=s.gens) (d':=s.drawn) (ch:=ch) (fun b hb=>?_) (fun b o _ _ hc e _=>k b o hc e) (fun b o _ _ hc e _=>⟨o.slots,k b o hc e⟩) (fun b u _ e n=>by rw[c3 (lt b u e)];exact n)
  (fun b o hc e=>⟨o,k b o hc e⟩) (fun b xs e=>by rw[c3 (c4 e hT)];exact e) (fun b u xs e=>by rw[c3 (c4 e hT)];exact e) (fun b ps e=>⟨#[],by rw[c3 (c4 e hT),e];simp⟩) (fun m hm=>?_) (fun b u e=>?_) I.bare
 ·obtain⟨f0,f1,f2,f3,f4,f5⟩:=hf b hb;exact⟨f3,f1,f4,f5⟩
 ·obtain⟨o,es,ep,ho,r⟩:=hm;exact⟨o,es,ep,k _ o (fun z=>(hf _ z).2.1 rfl) ho,r⟩
 ·by_cases hb:b=s.heap.objs.size
  ·subst hb;rw[e6]at e;cases e;exact new
  ·rw[c3 hb]at e;refine(I.hok b u e).stay (fun c v hc q=>k c v ?_ q) (fun c q=>by rw[c3 (c4 q hT)];exact q) fun c xs q=>by rw[c3 (c4 q hT)];exact q
   rcases hc with z | z
   ·rw[z];exact nit b u e
   ·exact nit c _ z
end
noncomputable def Ng(K:R8)(a:V7):It:=
 ⟨fun i H=>∃ xs x,SqL K H a xs/\xs[i]?=some x,fun i H x H'=>∃ p v,H p=none/\x = .ref p/\(∀ xs,SqL K H a xs->xs[i]?=some v)/\H'=upd H p (.tup [.int i,v]),fun i H=>∃ xs,SqL K H a xs/\xs.length=i⟩
noncomputable def Nh(K:R8)(a:V7):It:=
 ⟨fun i H=>∃ xs x,SqT K H a xs/\xs[i]?=some x,fun i H x H'=>∃ p v,H p=none/\x = .ref p/\(∀ xs,SqT K H a xs->xs[i]?=some v)/\H'=upd H p (.tup [.int i,v]),fun i H=>∃ xs,SqT K H a xs/\xs.length=i⟩
theorem J4:2<=V9:=by decide
theorem FM{P:VC}{w:VG}{K:R8}{elts:List Expr}{kx:Nat}{tp:Pos}(a e it:V7)(hei:e≠it)(hae:a≠e)(hai:a≠it):Turn P w K (.Tuple elts kx tp) (Ng K a) [e,it] e (fun i h=>(∃ old,IsEnum h e it i old)/\h.IsListIter it a i) where
 mem:=by simp
 obj:=fun i h st b hb=>by
  rcases RM.mp hb with rfl | hb
  ·obtain⟨⟨old,z⟩,_⟩:=st;exact⟨_,z,fun v q=>by cases q⟩
  ·have e':b=it:=by simpa using hb
   subst e';obtain⟨o,q,c,d⟩:=st.2;exact⟨o,q,fun v z=>by rw[d]at z;cases z⟩
 keep:=fun i h h' st k=>⟨let ⟨old,z⟩:=st.1;⟨old,k e (by simp) _ z⟩,st.2.at fun o q=>k it (by simp) o q⟩
 item:=by
  intro X hP hw hK hc i pq s σ H E I hf st hg;subst hP hw hK;obtain⟨xs,x,hq,hx⟩:=hg;obtain⟨its,rv,p,hz⟩:=I.list hq;obtain⟨u,hu,ru⟩:=rv.get hx;obtain⟨⟨old,he⟩,hli⟩:=st
  have hil:i<its.toArray.size:=by
   have:=(gM hu).1;simpa using this
  refine WC (Draws.list (prog:=X.prog) (w:=X.w) (A:=X.A.in1) (show X.A.in1.handled=none from I.ok.hd hc) it a hai its.toArray) he ⟨hli,p.isList⟩ hil hei (by simp[hei,Ne.symm hae]) fun y h' tk hy ho hs' hT hsz hk=>?_
  have hyu:y=u:=by
   have:its.toArray[i]?=some u:=by simpa using hu
   rw[this]at hy;exact(oj hy).symm
  subst hyu;refine⟨_,rfl,?_⟩
  have I1:Inv X pq σ (upd H s.heap.objs.size (.tup [.int i,x])) {s with heap:=h',toks:=tk+1}:=
   I.turnLay (ch:=[e,it]) (fun b o hb q=>hk b o (fun z=>hb (by simp[z])) (fun z=>hb (by simp[z])) q) hf ⟨J4,[.int i tk,y],.cons ⟨tk,rfl⟩ (.cons ru .nil),⟨_,hT,rfl,_,rfl⟩⟩
  refine Vw ho fun h2 he2 hs2=>?_
  have hfp1:∀ b∈[e,it],FpOk X pq (upd H s.heap.objs.size (.tup [.int i,x])) b:=fun b hb=>by
   obtain⟨f0,f1⟩:=hf b hb
   have hbl:b≠s.heap.objs.size:=by
    rcases RM.mp hb with rfl | hb
    ·exact Ro (RN he)
    ·have e':b=it:=by simpa using hb
     subst e';obtain⟨o,q,_⟩:=hli;exact Ro (RN q)
   exact⟨by rw[c3 hbl];exact f0,f1⟩
  have I2:Inv X pq σ (upd H s.heap.objs.size (.tup [.int i,x])) {s with heap:=h2,toks:=tk+1}:=
   Inv.turnedL (s:={s with heap:=h',toks:=tk+1}) (t':=tk+1) (ch:=[e,it]) I1 (fun b o hb q=>(hs2.2 b (fun z=>hb (by simp[z]))).trans q) hfp1
  refine⟨.ref s.heap.objs.size,_,I2,rfl,⟨_,x,I.fresh,rfl,fun ys hy=>by rw[I.list_inj hy hq];exact hx,rfl⟩,⟨⟨y,by simpa using he2⟩,hs'.1.extBut hs2.extBut (Ne.symm hei)⟩,fun b hb=>(hfp1 b hb).1⟩
 done:=by
   intro X hP hw hK hc i pq s σ H E I hf st hg;subst hP hw hK;obtain⟨xs,hq,hx⟩:=hg;obtain⟨its,rv,p,hz⟩:=I.list hq;obtain⟨⟨old,he⟩,hli⟩:=st;have hl:=rv.length;have hn:its.toArray.size=i:=by simp;omega
   refine WJ (Draws.list (prog:=X.prog) (w:=X.w) (A:=X.A.in1) (show X.A.in1.handled=none from I.ok.hd hc) it a hai its.toArray) he (by rw[hn];exact⟨hli,p.isList⟩) fun h' eb=>⟨rfl,I.turnedL (t':=s.toks) (ch:=[e,it]) (fun b o hb q=>eb b o (fun z=>hb (by simp[z])) q) hf⟩
 self:=fun _ _ _ _ _ st h=>let ⟨old,z⟩:=st.1;Vr z h
theorem FN{P:VC}{w:VG}{K:R8}{elts:List Expr}{kx:Nat}{tp:Pos}(a e it:V7)(hei:e≠it)(hae:a≠e)(hai:a≠it):Turn P w K (.Tuple elts kx tp) (Nh K a) [e,it] e (fun i h=>(∃ old,IsEnum h e it i old)/\h.IsTupleIter it a i) where
 mem:=by simp
 obj:=fun i h st b hb=>by
  rcases RM.mp hb with rfl | hb
  ·obtain⟨⟨old,z⟩,_⟩:=st;exact⟨_,z,fun v q=>by cases q⟩
  ·have e':b=it:=by simpa using hb
   subst e';obtain⟨o,q,c,d⟩:=st.2;exact⟨o,q,fun v z=>by rw[d]at z;cases z⟩
 keep:=fun i h h' st k=>⟨let ⟨old,z⟩:=st.1;⟨old,k e (by simp) _ z⟩,st.2.at fun o q=>k it (by simp) o q⟩
 item:=by
  intro X hP hw hK hc i pq s σ H E I hf st hg;subst hP hw hK;obtain⟨xs,x,hq,hx⟩:=hg;obtain⟨its,rv,p,hz⟩:=I.tuple hq;obtain⟨u,hu,ru⟩:=rv.get hx;obtain⟨⟨old,he⟩,hli⟩:=st
  have hil:i<its.toArray.size:=by
   have:=(gM hu).1;simpa using this
  refine WC (Aj (prog:=X.prog) (w:=X.w) (A:=X.A.in1) (show X.A.in1.handled=none from I.ok.hd hc) it a hai its.toArray) he ⟨hli,p⟩ hil hei (by simp[hei,Ne.symm hae]) fun y h' tk hy ho hs' hT hsz hk=>?_
  have hyu:y=u:=by
   have:its.toArray[i]?=some u:=by simpa using hu
   rw[this]at hy;exact(oj hy).symm
  subst hyu;refine⟨_,rfl,?_⟩
  have I1:Inv X pq σ (upd H s.heap.objs.size (.tup [.int i,x])) {s with heap:=h',toks:=tk+1}:=
   I.turnLay (ch:=[e,it]) (fun b o hb q=>hk b o (fun z=>hb (by simp[z])) (fun z=>hb (by simp[z])) q) hf ⟨J4,[.int i tk,y],.cons ⟨tk,rfl⟩ (.cons ru .nil),⟨_,hT,rfl,_,rfl⟩⟩
  refine Vw ho fun h2 he2 hs2=>?_
  have hfp1:∀ b∈[e,it],FpOk X pq (upd H s.heap.objs.size (.tup [.int i,x])) b:=fun b hb=>by
   obtain⟨f0,f1⟩:=hf b hb
   have hbl:b≠s.heap.objs.size:=by
    rcases RM.mp hb with rfl | hb
    ·exact Ro (RN he)
    ·have e':b=it:=by simpa using hb
     subst e';obtain⟨o,q,_⟩:=hli;exact Ro (RN q)
   exact⟨by rw[c3 hbl];exact f0,f1⟩
  have I2:Inv X pq σ (upd H s.heap.objs.size (.tup [.int i,x])) {s with heap:=h2,toks:=tk+1}:=
   Inv.turnedL (s:={s with heap:=h',toks:=tk+1}) (t':=tk+1) (ch:=[e,it]) I1 (fun b o hb q=>(hs2.2 b (fun z=>hb (by simp[z]))).trans q) hfp1
  refine⟨.ref s.heap.objs.size,_,I2,rfl,⟨_,x,I.fresh,rfl,fun ys hy=>by rw[I.tuple_inj hy hq];exact hx,rfl⟩,⟨⟨y,by simpa using he2⟩,hs'.1.extBut hs2.extBut (Ne.symm hei)⟩,fun b hb=>(hfp1 b hb).1⟩
 done:=by
   intro X hP hw hK hc i pq s σ H E I hf st hg;subst hP hw hK;obtain⟨xs,hq,hx⟩:=hg;obtain⟨its,rv,p,hz⟩:=I.tuple hq;obtain⟨⟨old,he⟩,hli⟩:=st;have hl:=rv.length;have hn:its.toArray.size=i:=by simp;omega
   refine WJ (Aj (prog:=X.prog) (w:=X.w) (A:=X.A.in1) (show X.A.in1.handled=none from I.ok.hd hc) it a hai its.toArray) he (by rw[hn];exact⟨hli,p⟩) fun h' eb=>⟨rfl,I.turnedL (t':=s.toks) (ch:=[e,it]) (fun b o hb q=>eb b o (fun z=>hb (by simp[z])) q) hf⟩
 self:=fun _ _ _ _ _ st h=>let ⟨old,z⟩:=st.1;Vr z h
section
variable{X:Cx}
noncomputable def Pj(K:R8)(ta:TA):TI:=fun σ H R=>ta σ H fun vs H1=>∃ a,vs=[.ref a]/\(((∃ xs,SqL K H1 a xs)/\R (Ng K a) H1)\/((∃ xs,SqT K H1 a xs)/\R (Nh K a) H1))
theorem CG:VE "enumerate"=some (.type "enumerate"):=by decide +kernel
theorem LD{a:Expr}{ta:TA}{p pos:Pos}{elts:List Expr}{kx:Nat}{tp:Pos}(hg:Gl X "enumerate")(hm:X.mg "enumerate"=none)(ha:PA X [a] ta)(hs:VF [a] X.env=[(false,eval a X.env)]:=by rfl):
 PI X (.Tuple elts kx tp) (.Call (.Name "enumerate" p) [a] [] pos) (Pj X.K ta):=by
 intro pq s σ H R I h;refine Call_ (AC I hg hm CG (PyProof.Rows.callWith_type1 (thn (ha pos pq s σ H _ I h) fun us s1 ⟨vs,H1,I1,r1,q1⟩=>?_) hs rfl));obtain⟨l,e,q1⟩:=q1;subst e;cases r1 with
 | cons r rr=>
   cases rr;cases r;rcases q1 with⟨⟨xs,hq⟩,q⟩ | ⟨⟨xs,hq⟩,q⟩
   ·obtain⟨its,rv,pl,hz⟩:=I1.list hq;have hlt:@LT.lt Nat _ l s1.heap.objs.size:=by obtain⟨o,n,e,_⟩:=pl;exact RN e
    refine call_enumerate_list pl.isList fun h' he hli hsz hk=>?_;refine Vr he ?_;have I2:Inv X pq σ H1 {s1 with heap:=h'}:=I1.kept (t':=s1.toks) hk;refine⟨s1.heap.objs.size+1,[s1.heap.objs.size+1,s1.heap.objs.size],_,_,H1,rfl,I2,FM l _ s1.heap.objs.size (show @Ne Nat _ _ by omega) (show @Ne Nat _ _ by omega) (show @Ne Nat _ _ by omega),⟨⟨_,he⟩,hli⟩,fun b hb=>?_,q⟩
    have hb2:@LE.le Nat _ s1.heap.objs.size b:=by
     rcases RM.mp hb with rfl | hb
     ·exact Ss _
     ·have e:b=s1.heap.objs.size:=by simpa using hb
      rw[e];exact RE _
    exact I1.fpOk hb2 (I1.hok.fresh hb2)
   ·obtain⟨its,rv,pl,hz⟩:=I1.tuple hq;have hlt:@LT.lt Nat _ l s1.heap.objs.size:=by obtain⟨o,e,_⟩:=pl;exact RN e
    refine AH (show s1.heap.IsTuple l its.toArray from pl) fun h' he hli hsz hk=>?_;refine Vr he ?_;have I2:Inv X pq σ H1 {s1 with heap:=h'}:=I1.kept (t':=s1.toks) hk;refine⟨s1.heap.objs.size+1,[s1.heap.objs.size+1,s1.heap.objs.size],_,_,H1,rfl,I2,FN l _ s1.heap.objs.size (show @Ne Nat _ _ by omega) (show @Ne Nat _ _ by omega) (show @Ne Nat _ _ by omega),⟨⟨_,he⟩,hli⟩,fun b hb=>?_,q⟩
    have hb2:@LE.le Nat _ s1.heap.objs.size b:=by
     rcases RM.mp hb with rfl | hb
     ·exact Ss _
     ·have e:b=s1.heap.objs.size:=by simpa using hb
      rw[e];exact RE _
    exact I1.fpOk hb2 (I1.hok.fresh hb2)
end
theorem HY(its:List V4)(k:Nat)(y:V4):(its.toArray.extract 0 k).push y++its.toArray.extract k=(its.take k++y::its.drop k).toArray:=by
 apply Array.toList_inj.mp;simp
 first
  | done
  | exact UB (by simp)
section
variable{X:Cx}
noncomputable def GF:V->List V->Hp->VK->Prop:=fun x vs H Q=>∃ l xs i y,x = .ref l/\vs=[.int i,y]/\H l=some (.lst xs)/\0<=i/\i<=xs.length/\xs.length<V9/\Q .non (upd H l (.lst (xs.take i.toNat++y::xs.drop i.toNat)))
theorem D9:MtM X "list.insert" GF:=by
 intro pq s σ H x vs v us Q I rx rv h;obtain⟨l,xs,i,y,rfl,rfl,hH,h0,h1,hz,q⟩:=h;cases rx;obtain⟨u1,u2,rfl,⟨t,rfl⟩,ru⟩:=Vals.two rv;obtain⟨z,its,n,r,hl,e⟩:=I.lstM hH;have hn:=BX;refine Vl F.slot_list_insert ⟨_,e,rfl⟩ F.entry_list_insert (F.args_list_insert_3 _ _ _) (AutoSeq1.list_insert_list_int_val_1 l its.toArray n i t u2 (by rw[WR (by omega) (by omega)];exact RH) (by rw[RF];omega)) ⟨e,?_⟩;refine⟨.non,_,I.lset (its':=its.take i.toNat++u2::its.drop i.toNat) hH e ?_ (Vals.append (r.take _) (.cons ru (r.drop _))) ?_,rfl,q⟩
 ·have hk:(if i<0 then (i+(its.toArray.size:Int)).toNat else min i.toNat its.toArray.size)=i.toNat:=by
   rw[iG (by omega),RF];omega
  show(let k:=if i<0 then (i+(its.toArray.size:Int)).toNat else min i.toNat its.toArray.size;(its.toArray.extract 0 k).push u2++its.toArray.extract k)=_;rw[hk];exact HY its i.toNat u2
 ·rw[R9,Rg,Rt,Rr];omega
noncomputable def AI(xs ys:List V):Bool:=xs.length == ys.length&&(xs.zip ys).all fun p=>eqV p.1 p.2
noncomputable def LF(K:R8)(neg:Bool):R2:=fun x y H Q=>∃ a b xs ys,x = .ref a/\y = .ref b/\SqL K H a xs/\SqL K H b ys/\((xs.all u8=true/\ys.all u8=true)\/xs=[]\/ys=[])/\Q (.bl (if neg then !AI xs ys else AI xs ys)) H
theorem CH{xs ys:List V}(hl:xs.length=ys.length):(RL xs.length).all (fun j=>eqV (xs.getD j .non) (ys.getD j .non))=AI xs ys:=by
 have e1:AI xs ys=(xs.zip ys).all fun p=>eqV p.1 p.2:=by unfold AI;simp[hl]
 rw[e1,Rx,RX,RX];constructor
 ·intro h p hp;obtain⟨j,hj,e⟩:=TK.mp hp;have hj1:j<xs.length:=by simp at hj;omega
  have hj2:j<ys.length:=by omega
  have:=h j (Rq.mpr hj1);rw[<-e];simpa[TN,hj1,hj2] using this
 ·intro h j hj;have hj1:j<xs.length:=Rq.mp hj;have hj2:j<ys.length:=by omega
  have:=h (xs[j],ys[j]) (TK.mpr ⟨j,by simp;omega,by simp⟩);simpa[TN,hj1,hj2] using this
theorem CI{xs ys:List V}{us ws:List V4}{A:VM}{s:V6}(r1:Vals xs us)(r2:Vals ys ws)(f:(xs.all u8=true/\ys.all u8=true)\/xs=[]\/ys=[]):
 ∀ j (h1:j<us.toArray.size) (h2:j<ws.toArray.size),SeqAt.EqAt A s us.toArray[j] ws.toArray[j] (eqV (xs.getD j .non) (ys.getD j .non)):=by
 intro j h1 h2;have l1:=r1.length;have l2:=r2.length;simp only[RF]at h1 h2;have hj1:j<xs.length:=by omega
 have hj2:j<ys.length:=by omega
 obtain⟨f1,f2⟩:xs.all u8=true/\ys.all u8=true:=by
  rcases f with f | f | f
  ·exact f
  ·subst f;simp at hj1
  ·subst f;simp at hj2
 obtain⟨u,eu,ru⟩:=r1.get (i:=j) (x:=xs[j]) (by simp[hj1]);obtain⟨w',ew,rw'⟩:=r2.get (i:=j) (x:=ys[j]) (by simp[hj2])
 have e1:us.toArray[j]=u:=by
  have:=gM eu;obtain⟨_,q⟩:=this;simpa using q
 have e2:ws.toArray[j]=w':=by
  obtain⟨_,q⟩:=gM ew;simpa using q
 rw[e1,e2];have g1:xs.getD j .non=xs[j]:=by simp[TN,hj1]
 have g2:ys.getD j .non=ys[j]:=by simp[TN,hj2]
 rw[g1,g2];exact Ir ru rw' (RX.mp f1 _ (Rv hj1)) (RX.mp f2 _ (Rv hj2))
theorem Ni(hu:X.A.units<cLine):OpR X (VL .Eq) (LF X.K false):=by
 intro pq s σ H x y v u Q I rx ry h;obtain⟨a,b,xs,ys,rfl,rfl,h1,h2,f,q⟩:=h;cases rx;cases ry;obtain⟨its1,r1,p1,_⟩:=I.list h1;obtain⟨its2,r2,p2,_⟩:=I.list h2;have l1:=r1.length;have l2:=r2.length;by_cases hl:xs.length=ys.length
 ·refine SeqAt.eq_listAt p1.isList p2.isList (by simp;omega) hu (CI r1 r2 f) ⟨.bl _,H,I,rfl,?_⟩;rw[RF,<-l1,CH hl];exact q
 ·refine SeqAt.eq_list_lengthsAt p1.isList p2.isList (by simp;omega) hu ⟨.bl false,H,I,rfl,?_⟩;have e:AI xs ys=false:=by unfold AI;simp[hl]
  rw[show(if false=true then !AI xs ys else AI xs ys)=AI xs ys from rfl,e]at q;exact q
theorem Nj(hu:X.A.units<cLine):OpR X (VL .NotEq) (LF X.K true):=by
 intro pq s σ H x y v u Q I rx ry h;obtain⟨a,b,xs,ys,rfl,rfl,h1,h2,f,q⟩:=h;cases rx;cases ry;obtain⟨its1,r1,p1,_⟩:=I.list h1;obtain⟨its2,r2,p2,_⟩:=I.list h2;have l1:=r1.length;have l2:=r2.length;by_cases hl:xs.length=ys.length
 ·refine(SeqAt.RcNeAt.lists p1.isList p2.isList (by simp;omega) hu (CI r1 r2 f)) _ _ _ _ ?_;refine⟨.bl _,H,I,rfl,?_⟩;rw[RF,<-l1,CH hl];exact q
 ·refine(SeqAt.RcNeAt.lists_lengths p1.isList p2.isList (by simp;omega) hu) _ _ _ _ ?_;refine⟨.bl true,H,I,rfl,?_⟩;have e:AI xs ys=false:=by unfold AI;simp[hl]
  rw[show(if true=true then !AI xs ys else AI xs ys)=!AI xs ys from rfl,e]at q;exact q
theorem call_isi1:CallR X (.builtin "isinstance") (fun xs H Q=>∃ x T t b,xs=[x,.ty T]/\TyOf X.K H x t/\PySem.W.kitOne X.K t (.type T)=some b/\Q (.bl b) H):=by
 intro pq s σ H xs us Q I r h;obtain⟨x,T,t,b,rfl,ty,e,q⟩:=h;obtain⟨u1,u2,rfl,r1,r2⟩:=Vals.two r;cases r2;exact HS I r1 ty e fun tk=>⟨.bl b,H,I.tok tk,rfl,q⟩
theorem FO{pq:List (V7×Obj)}{σ:St}{H:Hp}{s:V6}{A:VM}{E:V4->V6->Prop}{Q:V4->V6->Prop}{b:Bool}{x:V}{u t:V4}{tp:V7}{dd:Option V7}{its:List V4}{n:Nat}{sl:Array (Option V4)}(I:Inv X pq σ H s)(rx:RelV x u)(ty:TyOf X.K H x t)
 (htp:s.heap.get? tp=some ⟨.type "tuple",dd,.seq its.toArray n,sl⟩) (e:PySem.W.kitAny X.K t its=some b) (h:∀ tk,Q (.bool b) {s with toks:=tk}):
 VA (VB X.prog X.w) A (call (.builtin "isinstance") [u,.ref tp]) Q E s:=by
 cases ty with
 | non=>cases(show u=Value.none from rx);exact PySem.W.kia_tup PySem.W.kitx_none I.kIn True.intro htp e (fun z=>nomatch z) h
 | bl y=>cases(show u=Value.bool y from rx);exact PySem.W.kia_tup PySem.W.kitx_bool I.kIn True.intro htp e (fun z=>nomatch z) h
 | int i=>obtain⟨t,q⟩:=(show ∃ t,u=Value.int i t from rx);cases q;exact PySem.W.kia_tup PySem.W.kitx_int I.kIn True.intro htp e (fun z=>nomatch z) h
 | str y=>obtain⟨t,q⟩:=(show ∃ t,u=Value.str y t from rx);cases q;exact PySem.W.kia_tup PySem.W.kitx_str I.kIn True.intro htp e (fun z=>nomatch z) h
 | flt y=>obtain⟨t,q⟩:=(show ∃ t,u=Value.float y t from rx);cases q;exact PySem.W.kia_tup PySem.W.kitx_float I.kIn True.intro htp e (fun z=>nomatch z) h
 | @lst a xs ea=>
   cases(show u=Value.ref a from rx);obtain⟨_,_,n,_,h1⟩:=(show ObjOk X.prog X.w H s.heap a (.lst xs) from I.hok a _ ea)
   exact PySem.W.kia_tup PySem.W.kitx_list I.kIn ⟨_,h1,rfl⟩ htp e (fun z=>nomatch z) h
 | @frz a ob xs ea=>
   cases(show u=Value.ref a from rx);obtain⟨_,_,_,n,_,h1⟩:=(show ObjOk X.prog X.w H s.heap a (.frz ob (.lst xs)) from I.hok a _ ea)
   exact PySem.W.kia_tup PySem.W.kitx_list I.kIn ⟨_,h1,rfl⟩ htp e (fun z=>nomatch z) h
 | @tup a xs ea=>
   cases(show u=Value.ref a from rx);obtain⟨_,_,_,p⟩:=(show ObjOk X.prog X.w H s.heap a (.tup xs) from I.hok a _ ea)
   obtain⟨o,h1,h2,_⟩:=p;exact PySem.W.kia_tup PySem.W.kitx_tuple I.kIn ⟨o,h1,h2⟩ htp e (fun z=>nomatch z) h
 | @dK a kvs ea=>
   cases(show u=Value.ref a from rx);obtain⟨_,_,vs,_,p⟩:=(show ObjOk X.prog X.w H s.heap a (.dK kvs) from I.hok a _ ea)
   obtain⟨o,es,ep,h1,h2,_⟩:=p;exact PySem.W.kia_tup PySem.W.kitx_dict I.kIn ⟨o,h1,h2.1⟩ htp e (fun z=>nomatch z) h
 | @dT a kvs ea=>
   cases(show u=Value.ref a from rx);obtain⟨_,_,xs,_,o,es,ep,h1,h2,_⟩:=(show ObjOk X.prog X.w H s.heap a (.dT kvs) from I.hok a _ ea)
   exact PySem.W.kia_tup PySem.W.kitx_dict I.kIn ⟨o,h1,h2.1⟩ htp e (fun z=>nomatch z) h
 | @ins a C dx fs ea cl ha hn htk hm=>
   cases(show u=Value.ref a from rx);obtain⟨mA,O,_⟩:=G7 I.hok ea;obtain⟨od,J,_⟩:=O.look;exact PySem.W.kia_tup (PySem.W.kitx_own (cl.get _) cl.hd ha hn htk hm) I.kIn J htp e (fun z=>nomatch z) h
theorem GG:∀(Ts:List String) {us:List V4},Vals (Ts.map V.ty) us->us=Ts.map Value.type
 | [],_,.nil=>rfl
 | T::r,_,.cons h t=>by cases h;rw[GG r t];rfl
theorem HZ:CallR X (.builtin "isinstance") (fun xs H Q=>∃(x:V) (p:V7) (Ts:List String) (t:V4) (b:Bool),xs=[x,.ref p]/\H p=some (.tup (Ts.map V.ty))/\TyOf X.K H x t/\PySem.W.kitAny X.K t (Ts.map Value.type)=some b/\Q (.bl b) H):=by
 intro pq s σ H xs us Q I r h;obtain⟨x,p,Ts,t,b,rfl,hp,ty,e,q⟩:=h;obtain⟨u1,u2,rfl,r1,r2⟩:=Vals.two r;cases r2;obtain⟨_,its,rv,⟨⟨c,dd,dt,sl⟩,h1,h2,n,h3⟩⟩:=(show ObjOk X.prog X.w H s.heap p (.tup (Ts.map V.ty)) from I.hok p _ hp)
 have ei:=GG Ts rv;subst ei;replace h2:c = .type "tuple":=h2;replace h3:dt = .seq (Ts.map Value.type).toArray n:=h3;subst h2 h3;exact FO I r1 ty h1 e fun tk=>⟨.bl b,H,I.tok tk,rfl,q⟩
theorem Hb(hc:X.calm=true):CallR X (.builtin "all") (fun xs H Q=>∃(a:V7) (bs:List Bool),xs=[.ref a]/\SqL X.K H a (bs.map V.bl)/\Q (.bl (bs.all id)) H):=by
 intro pq s σ H xs us Q I r h;obtain⟨a,bs,rfl,hq,q⟩:=h;obtain⟨u,rfl,ru⟩:=w6 r;cases ru;obtain⟨its,rv,pl,hz⟩:=I.list hq;have hl:=rv.length;rw[RC]at hl;refine call_all_walk (W0 pl.isList ?_);have hlt:a<s.heap.objs.size:=by obtain⟨o,n,e,_⟩:=pl;exact RN e
 refine⟨s.heap.objs.size,_,_,_,_,_,fun i=>bs.getD i false,rfl,Walks.list (by exact I.ok.hd hc) s.heap.objs.size a (Ro hlt) its.toArray,⟨⟨_,RY _ rfl,rfl,rfl⟩,pl.isList.push _⟩,?_,fun h' tk hk=>?_⟩
 ·intro i v s' Q' E' hv hQ';have hv':its[i]?=some v:=by simpa using hv
  have hi:i<its.length:=(gM hv').1;have hb:(bs.map V.bl)[i]?=some (.bl (bs[i]'(by omega))):=by simp
  obtain⟨u',eu,ru'⟩:=rv.get hb;rw[hv']at eu;cases eu;cases ru';have hg:bs.getD i false=bs[i]'(by omega):=by simp[TN,show i<bs.length by omega]
  have hQ2:Q' (bs.getD i false) s':=hQ';rw[hg]at hQ2;exact VN hQ2
 ·have I1:Inv X pq σ H {s with heap:=h',toks:=tk}:=I.kept fun b o e=>hk b o (by simp;exact Ro (RN e)) (RJ _ e);refine⟨.bl _,H,I1,rfl,?_⟩
  have e:(RL its.toArray.size).all (fun i=>bs.getD i false)=bs.all id:=by
   rw[RF,<-hl,Rx,RX,RX];constructor
   ·intro h b hb;obtain⟨j,hj,e⟩:=TK.mp hb;have:=h j (Rq.mpr hj);simpa[TN,hj,e] using this
   ·intro h j hj;have hj1:j<bs.length:=Rq.mp hj;have:=h bs[j] (Rv hj1);simpa[TN,hj1] using this
  rw[e];exact q
theorem Hc:CallR X (.type "range") (fun xs H Q=>∃ b,xs=[.int b]/\∀ p,H p=none->Q (.ref p) (upd H p (.rng 0 b))):=by
 intro pq s σ H xs us Q I r h;obtain⟨b,rfl,q⟩:=h;obtain⟨u1,rfl,⟨t,rfl⟩⟩:=w6 r;refine call_range_1 ⟨.ref s.heap.objs.size,_,I.laid (o := .rng 0 b) (fun b o e=>RJ _ e) (RE _) ⟨_,_,_,RY _ rfl⟩,rfl,q _ I.fresh⟩
noncomputable def He(lo:Int)(n:Nat):List V:=(RL n).map fun(i:Nat)=>V.int (lo+(i:Int))
theorem EB(lo:Int)(n:Nat):(He lo n).length=n:=by unfold He;simp
theorem DW(hc:X.calm=true):CallR X (.type "list") (fun xs H Q=>∃ p a b,xs=[.ref p]/\H p=some (.rng a b) /\ -(2 ^ 62)<=a/\a<2 ^ 62 /\ -(2 ^ 62)<=b/\b<2 ^ 62/\(b - a).toNat<=100000/\∀ l,H l=none->Q (.ref l) (upd H l (.lst (He a (b - a).toNat)))):=by
 intro pq s σ H xs us Q I r h;obtain⟨p,a,b,rfl,hp,h1,h2,h3,h4,h5,q⟩:=h;obtain⟨u,rfl,ru⟩:=w6 r;cases ru;obtain⟨t,u',v,ho⟩:=(show ObjOk X.prog X.w H s.heap p (.rng a b) from I.hok p _ hp)
 have hn:Builtin.Range.rangeSize a b 1=(((b - a).toNat:Nat):Int):=by rw[rangeSize_one];split<;>omega
 refine call_list_range (I.ok.hd hc) (show IsRange s.heap p a b 1 t u' v from ho) (small_one h1 h2 h3 h4) hn (by omega) fun h' tk acc c' kp e hi=>?_;have hz:(b - a).toNat<=V9:=Rn h5 (by decide);refine⟨.ref s.heap.objs.size,_,I.laid kp (RE _) (show ObjOk X.prog X.w _ h' _ (.lst (He a (b - a).toNat)) from ⟨by rw[EB];exact hz,acc.toList,c',?_,by simpa using e⟩),rfl,q _ I.fresh⟩;obtain⟨hs,hv⟩:=hi
 have key:∀(n:Nat) (l:List V4) (lo:Int),l.length=n->(∀(j:Nat) (v:V4),l[j]?=some v->∃ t,v=Value.int (lo+(j:Int)) t)->Vals ((RL n).map fun(i:Nat)=>V.int (lo+(i:Int))) l:=by
  intro n
  induction n with
  | zero=>intro l lo hl _;cases l with | nil=>exact .nil | cons _ _=>simp at hl
  | succ n ih=>
    intro l lo hl hv;cases l with
    | nil=>simp at hl
    | cons x r=>
      rw[List.range_succ_eq_map,RV,UC];refine .cons ?_ ?_
      ·obtain⟨t,e⟩:=hv 0 x (by simp);exact⟨t,e⟩
      ·have:=ih r (lo+1) (by simpa using hl) fun j v hj=>by
        obtain⟨t,e⟩:=hv (j+1) v (by simpa using hj);refine⟨t,?_⟩;rw[e]
        congr 1
        omega
       have e2:((fun(i:Nat)=>V.int (lo+(i:Int)))∘Nat.succ)=fun(i:Nat)=>V.int (lo+1+(i:Int)):=by
        funext i
        show V.int (lo+((i+1:Nat):Int))=V.int (lo+1+(i:Int))
        congr 1
        omega
       rw[e2];exact this
 refine key _ _ a (by simpa using hs) fun j v hj=>?_;obtain⟨t,e⟩:=hv j v (by simpa using hj);exact⟨t,by rw[e];congr 1;omega⟩
end
noncomputable def srt(ns:List Int):List Int:=ns.mergeSort (fun a b=>decide (a<=b))
theorem EC(ns:List Int):(srt ns).Perm ns:=List.mergeSort_perm _ _
theorem Nk(ns:List Int):(srt ns).Pairwise (·<=·):=by
 have h:=List.pairwise_mergeSort (le:=fun(a b:Int)=>decide (a<=b)) (fun a b c h1 h2=>by simp only[dQ]at *;omega) (fun a b=>by simp only[Ru,dQ];omega) ns;exact h.imp fun h=>of_decide_eq_true h
theorem J5{ns ns':List Int}(hp:ns'.Perm ns)(hs:ns'.Pairwise (·<=·)):ns'=srt ns:=
 List.Perm.eq_of_pairwise (fun _ _ _ _ a b=>Int.le_antisymm a b) hs (Nk ns) (hp.trans (EC ns).symm)
theorem Ab:∀{ns:List Int} {us:List V4},Vals (ns.map V.int) us->IntsAre us ns
 | [],_,.nil => .nil
 | _::_,_,.cons ⟨_,e⟩ t=>by subst e;exact .cons _ _ (Ab t)
theorem DA:∀{ns:List Int} {us:List V4},IntsAre us ns->Vals (ns.map V.int) us
 | _,_,.nil => .nil
 | _,_,.cons _ _ t => .cons ⟨_,rfl⟩ (DA t)
theorem J6:VE "sorted"=some (.builtin "sorted"):=by decide +kernel
section
variable{X:Cx}
theorem ED:CallR X (.builtin "sorted") (fun xs H Q=>∃ p ns,xs=[.ref p]/\SqL X.K H p (ns.map V.int)/\ns.length<64/\∀ l,H l=none->Q (.ref l) (upd H l (.lst ((srt ns).map V.int)))):=by
 intro pq s σ H xs us Q I r h;obtain⟨p,ns,rfl,hq,h64,q⟩:=h;obtain⟨u,rfl,rx⟩:=w6 r;cases rx;obtain⟨its,r',pl,hz⟩:=I.list hq;have hlen:=r'.length;rw[RC]at hlen;refine sorted_ints pl.isList (Ab r') (by omega) fun out ns' a1 a2 a3=>?_;obtain⟨e,he⟩:=sortedAll_at s.heap its out;have en:=J5 a2 a3;subst en;refine⟨.ref (s.heap.objs.size+1),_,I.laid (t':=s.toks) (fun b o h=>sortedAll_old h) (Ss _) (show ObjOk X.prog X.w _ _ _ (.lst ((srt ns).map V.int)) from ⟨?_,out.toList,e,DA a1,by simpa using he⟩),rfl,q _ (I.hok.fresh (Ss _))⟩;rw[RC,a2.length_eq];exact Rn (Tb h64) (by decide)
end
end L2
set_option maxHeartbeats 1000000
namespace Rf
open PySem L2
inductive TyN where
 | int | bool | str | list | tuple | none
 deriving DecidableEq
noncomputable def TyN.nm:TyN->String
 | .int=>"int" | .bool=>"bool" | .str=>"str" | .list=>"list" | .tuple=>"tuple" | .none=>"NoneType"
inductive SV where
 | non | bl (b:Bool) | int (i:Int) | str (x:Str) | tup (xs:List SV) | loc (k:Nat) | ro (xs:List SV) | ty (t:TyN)
inductive SO where
 | lst (xs:List SV)
 | iset (ms:List Int)
 | dct (kvs:List (Int×SV)) | dcf (o:Obj) (ks:List (Key×V)) (kvs:List (Int×SV))
noncomputable abbrev Sto:=List SO
noncomputable abbrev EnvS:=List (Option SV)
noncomputable def FzL(K:R8)(H:Hp)(a:V7)(vs:List V):Prop:=(∃ o,H a=some (.frz o (.lst vs)))\/
 ∃(o:Obj) (its:Array V4) (n:Nat),K.lookup a=some o/\o.cls = .type "list"/\o.dict=none/\o.data = .seq its n/\its.size<=V9/\Vals vs its.toList
theorem FzL.sq{K:R8}{H:Hp}{a:V7}{vs:List V}(h:FzL K H a vs):SqL K H a vs:=h.imp (fun⟨o,e⟩ => .inr ⟨o,e⟩) id
mutual
noncomputable def Rl(K:R8)(as:List V7)(H:Hp):V->SV->Prop
 | v,.non=>v = .non
 | v,.bl b=>v = .bl b
 | v,.int i=>v = .int i
 | v,.str x=>v = .str x
 | v,.tup xs=>∃ p vs,v = .ref p/\H p=some (.tup vs)/\RlAll K as H vs xs
 | v,.loc k=>∃ a,as[k]?=some a/\v = .ref a
 | v,.ro xs=>∃ a vs,v = .ref a/\FzL K H a vs/\RlAll K as H vs xs
 | v,.ty t=>v = .ty t.nm
noncomputable def RlAll(K:R8)(as:List V7)(H:Hp):List V->List SV->Prop
 | vs,[]=>vs=[]
 | vs,x::xs=>∃ v r,vs=v::r/\Rl K as H v x/\RlAll K as H r xs
end
noncomputable def imm:HO->Bool
 | .tup _=>true
 | .frz _ (.lst _)=>true
 | _=>false
noncomputable def KeepU(H H':Hp):Prop:=∀ b o,H b=some o->imm o=true->H' b=some o
theorem KeepU.refl(H:Hp):KeepU H H:=fun _ _ h _=>h
theorem KeepU.trans{H H' H'':Hp}(a:KeepU H H')(b:KeepU H' H''):KeepU H H'':=fun x o h i=>b x o (a x o h i) i
theorem AM{H:Hp}{p:V7}{o:HO}(hp:H p=none):KeepU H (upd H p o):=fun b u h _=>by
 rw[c3 (c4 h hp)];exact h
theorem B2{H:Hp}{a:V7}{u o:HO}(h:H a=some u)(i:imm u=false):KeepU H (upd H a o):=fun b v hb iv=>by
 rw[c3 (Ma hb h (by intro z;rw[z,i]at iv;cases iv))];exact hb
theorem FzL.mono{K:R8}{H H':Hp}{a:V7}{vs:List V}(k:KeepU H H')(h:FzL K H a vs):FzL K H' a vs:=h.imp (fun⟨o,e⟩=>⟨o,k _ _ e rfl⟩) id
theorem LG{α:Type}{as as':List α}(h:as <+: as'){k:Nat}{a:α}(e:as[k]?=some a):as'[k]?=some a:=by
 obtain⟨t,rfl⟩:=h;rw[RQ ((gM e).1)];exact e
mutual
theorem Rl.mono{K:R8}{as as':List V7}{H H':Hp}(ha:as <+: as')(hH:KeepU H H'):∀(x:SV) (v:V),Rl K as H v x->Rl K as' H' v x
 | .non,v,h=>by unfold Rl at h ⊢;exact h
 | .bl _,v,h=>by unfold Rl at h ⊢;exact h
 | .int _,v,h=>by unfold Rl at h ⊢;exact h
 | .str _,v,h=>by unfold Rl at h ⊢;exact h
 | .tup xs,v,h=>by
   unfold Rl at h ⊢;obtain⟨p,vs,e,hp,h⟩:=h;exact⟨p,vs,e,hH p _ hp rfl,RlAll.mono ha hH xs vs h⟩
 | .ro xs,v,h=>by
   unfold Rl at h ⊢;obtain⟨p,vs,e,hp,h⟩:=h;exact⟨p,vs,e,hp.mono hH,RlAll.mono ha hH xs vs h⟩
 | .ty _,v,h=>by unfold Rl at h ⊢;exact h
 | .loc k,v,h=>by
   unfold Rl at h ⊢;obtain⟨a,e,z⟩:=h;exact⟨a,LG ha e,z⟩
theorem RlAll.mono{K:R8}{as as':List V7}{H H':Hp}(ha:as <+: as')(hH:KeepU H H'):∀(xs:List SV) (vs:List V),RlAll K as H vs xs->RlAll K as' H' vs xs
 | [],vs,h=>by unfold RlAll at h ⊢;exact h
 | x::xs,vs,h=>by
   unfold RlAll at h ⊢;obtain⟨v,r,e,h1,h2⟩:=h;exact⟨v,r,e,Rl.mono ha hH x v h1,RlAll.mono ha hH xs r h2⟩
end
section
variable{K:R8}{as:List V7}{H:Hp}
theorem rl_non{v:V}:Rl K as H v .non↔v = .non:=by unfold Rl;exact Iff.rfl
theorem rl_bl{v:V}{b:Bool}:Rl K as H v (.bl b)↔v = .bl b:=by unfold Rl;exact Iff.rfl
theorem rl_int{v:V}{i:Int}:Rl K as H v (.int i)↔v = .int i:=by unfold Rl;exact Iff.rfl
theorem rl_str{v:V}{x:Str}:Rl K as H v (.str x)↔v = .str x:=by unfold Rl;exact Iff.rfl
theorem rl_tup{v:V}{xs:List SV}:Rl K as H v (.tup xs)↔∃ p vs,v = .ref p/\H p=some (.tup vs)/\RlAll K as H vs xs:=by rw[Rl]
theorem rl_loc{v:V}{k:Nat}:Rl K as H v (.loc k)↔∃ a,as[k]?=some a/\v = .ref a:=by unfold Rl;exact Iff.rfl
theorem rl_ro{v:V}{xs:List SV}:Rl K as H v (.ro xs)↔∃ a vs,v = .ref a/\FzL K H a vs/\RlAll K as H vs xs:=by rw[Rl]
theorem rl_ty{v:V}{n:TyN}:Rl K as H v (.ty n)↔v = .ty n.nm:=by unfold Rl;exact Iff.rfl
theorem rla_nil{vs:List V}:RlAll K as H vs []↔vs=[]:=by unfold RlAll;exact Iff.rfl
theorem rla_cons{vs:List V}{x:SV}{xs:List SV}:RlAll K as H vs (x::xs)↔∃ v r,vs=v::r/\Rl K as H v x/\RlAll K as H r xs:=by rw[RlAll]
theorem RlAll.nil:RlAll K as H [] []:=rla_nil.mpr rfl
theorem RlAll.cons{v:V}{x:SV}{vs:List V}{xs:List SV}(h:Rl K as H v x)(t:RlAll K as H vs xs):RlAll K as H (v::vs) (x::xs):=rla_cons.mpr ⟨v,vs,rfl,h,t⟩
theorem RlAll.length:∀{xs:List SV} {vs:List V},RlAll K as H vs xs->vs.length=xs.length
 | [],_,h=>by rw[rla_nil.mp h];rfl
 | x::xs,_,h=>by
   obtain⟨v,r,rfl,_,t⟩:=rla_cons.mp h;simp[t.length]
theorem RlAll.get:∀{xs:List SV} {vs:List V} {i:Nat} {x:SV},RlAll K as H vs xs->xs[i]?=some x->∃ v,vs[i]?=some v/\Rl K as H v x
 | [],_,i,_,_,e=>by simp at e
 | y::xs,_,0,_,h,e=>by
   obtain⟨v,r,rfl,a,_⟩:=rla_cons.mp h;simp at e;subst e;exact⟨v,rfl,a⟩
 | y::xs,_,i+1,_,h,e=>by
   obtain⟨v,r,rfl,_,t⟩:=rla_cons.mp h;simpa using t.get (by simpa using e)
theorem RlAll.append:∀{xs ys:List SV} {vs us:List V},RlAll K as H vs xs->RlAll K as H us ys->RlAll K as H (vs++us) (xs++ys)
 | [],_,_,_,h,h'=>by rw[rla_nil.mp h];exact h'
 | x::xs,_,_,_,h,h'=>by
   obtain⟨v,r,rfl,a,t⟩:=rla_cons.mp h;exact .cons a (t.append h')
theorem RlAll.take:∀{xs:List SV} {vs:List V} (n:Nat),RlAll K as H vs xs->RlAll K as H (vs.take n) (xs.take n)
 | _,_,0,_=>by simpa using RlAll.nil
 | [],_,n+1,h=>by rw[rla_nil.mp h];exact .nil
 | x::xs,_,n+1,h=>by
   obtain⟨v,r,rfl,a,t⟩:=rla_cons.mp h;exact .cons a (t.take n)
theorem RlAll.drop:∀{xs:List SV} {vs:List V} (n:Nat),RlAll K as H vs xs->RlAll K as H (vs.drop n) (xs.drop n)
 | _,_,0,h=>h
 | [],_,n+1,h=>by rw[rla_nil.mp h];exact .nil
 | x::xs,_,n+1,h=>by
   obtain⟨v,r,rfl,a,t⟩:=rla_cons.mp h;exact t.drop n
theorem RlAll.set{x:SV}{v:V}(hx:Rl K as H v x):∀{xs:List SV} {vs:List V} (n:Nat),RlAll K as H vs xs->RlAll K as H (vs.set n v) (xs.set n x)
 | [],_,n,h=>by rw[rla_nil.mp h];exact .nil
 | y::xs,_,0,h=>by
   obtain⟨_,r,rfl,_,t⟩:=rla_cons.mp h;exact .cons hx t
 | y::xs,_,n+1,h=>by
   obtain⟨_,r,rfl,a,t⟩:=rla_cons.mp h;exact .cons a (t.set hx n)
theorem RlAll.rev:∀{xs:List SV} {vs:List V},RlAll K as H vs xs->RlAll K as H vs.reverse xs.reverse
 | [],_,h=>by rw[rla_nil.mp h];exact .nil
 | x::xs,_,h=>by
   obtain⟨v,r,rfl,a,t⟩:=rla_cons.mp h;rw[Sr,Sr];exact t.rev.append (.cons a .nil)
theorem RlAll.ins{x:SV}{v:V}(hx:Rl K as H v x){xs:List SV}{vs:List V}(h:RlAll K as H vs xs)(n:Nat):RlAll K as H (vs.take n++v::vs.drop n) (xs.take n++x::xs.drop n):=(h.take n).append (.cons hx (h.drop n))
theorem RlAll.ints{is:List Int}:RlAll K as H (is.map V.int) (is.map SV.int):=by
 induction is with
 | nil=>exact .nil
 | cons i is ih=>exact .cons (rl_int.mpr rfl) ih
end
noncomputable def RlD(K:R8)(as:List V7)(H:Hp):List (Key×V)->List (Int×SV)->Prop
 | ks,[]=>ks=[]
 | ks,p::r=>∃ v t,ks=(.inl p.1,v)::t/\Rl K as H v p.2/\RlD K as H t r
theorem RlD.mono{K:R8}{as as':List V7}{H H':Hp}(ha:as <+: as')(hH:KeepU H H'):∀(kvs:List (Int×SV)) (ks:List (Key×V)),RlD K as H ks kvs->RlD K as' H' ks kvs
 | [],_,h=>h
 | p::r,_,⟨v,t,e,h1,h2⟩=>⟨v,t,e,Rl.mono ha hH p.2 v h1,RlD.mono ha hH r t h2⟩
noncomputable def RlO(K:R8)(as:List V7)(H:Hp)(a:V7):SO->Prop
 | .lst xs=>∃ vs,H a=some (.lst vs)/\RlAll K as H vs xs
 | .iset ms=>∃ F,H a=some (.set F ms.length)/\∀ k,F k=decide (k∈ms)
 | .dct kvs=>∃ ks,H a=some (.dK ks)/\RlD K as H ks kvs
 | .dcf o ks kvs=>H a=some (.frz o (.dK ks))/\RlD K as H ks kvs
structure Ok(K:R8)(as:List V7)(H:Hp)(S:Sto):Prop where
 len:as.length=S.length
 nd:as.Nodup
 obj:∀(k:Nat) (o:SO) (a:V7),S[k]?=some o->as[k]?=some a->RlO K as H a o
noncomputable def EnvOk(K:R8)(as:List V7)(H:Hp)(σ:St)(ρ:EnvS):Prop:=σ.length=ρ.length/\∀(i:Nat) (x:SV),ρ[i]?=some (some x)->∃ v,σ[i]?=some (some v)/\Rl K as H v x
theorem EnvOk.mono{K:R8}{as as':List V7}{H H':Hp}{σ:St}{ρ:EnvS}(h:EnvOk K as H σ ρ)(ha:as <+: as')(hH:KeepU H H'):EnvOk K as' H' σ ρ:=⟨h.1,fun i x e=>let ⟨v,a,b⟩:=h.2 i x e;⟨v,a,Rl.mono ha hH x v b⟩⟩
theorem EnvOk.set{K:R8}{as:List V7}{H:Hp}{σ:St}{ρ:EnvS}(h:EnvOk K as H σ ρ){i:Nat}{v:V}{x:SV}(hx:Rl K as H v x):EnvOk K as H (σ.set i (some v)) (ρ.set i (some x)):=⟨by rw[RP,RP];exact h.1,fun j y e=>by
 by_cases hij:i=j
 ·subst hij;have hi:i<ρ.length:=by have:=(gM e).1;rwa [RP]at this
  rw[Ri hi]at e;rw[Ri (by rw[h.1];exact hi)];cases e;exact⟨v,rfl,hx⟩
 ·rw[RU hij]at e ⊢;exact h.2 j y e⟩
section
variable{K:R8}{as:List V7}{H:Hp}{S:Sto}
theorem RlO.mono{as':List V7}{H':Hp}{a:V7}(ha:as <+: as')(hH:KeepU H H')(e:∀ u,H a=some u->H' a=some u):∀{o:SO},RlO K as H a o->RlO K as' H' a o
 | .lst xs,⟨vs,h1,h2⟩=>⟨vs,e _ h1,RlAll.mono ha hH xs vs h2⟩
 | .iset ms,⟨F,h1,h2⟩=>⟨F,e _ h1,h2⟩
 | .dct kvs,⟨ks,h1,h2⟩=>⟨ks,e _ h1,RlD.mono ha hH kvs ks h2⟩
 | .dcf _ ks kvs,⟨h1,h2⟩=>⟨e _ h1,RlD.mono ha hH kvs ks h2⟩
theorem RlO.some{a:V7}:∀{o:SO},RlO K as H a o->∃ u,H a=some u/\imm u=false
 | .lst _,⟨_,h,_⟩=>⟨_,h,rfl⟩
 | .iset _,⟨_,h,_⟩=>⟨_,h,rfl⟩
 | .dct _,⟨_,h,_⟩=>⟨_,h,rfl⟩
 | .dcf _ _ _,⟨h,_⟩=>⟨_,h,rfl⟩
theorem Ok.at(h:Ok K as H S){k:Nat}{o:SO}(e:S[k]?=some o):∃ a,as[k]?=some a/\RlO K as H a o:=by
 have hk:k<as.length:=by rw[h.len];exact(gM e).1
 exact⟨as[k],RB hk,h.obj k o _ e (RB hk)⟩
theorem Ok.of(h:Ok K as H S){k:Nat}{a:V7}(e:as[k]?=some a):∃ o,S[k]?=some o/\RlO K as H a o:=by
 have hk:k<S.length:=by rw[<-h.len];exact(gM e).1
 exact⟨S[k],RB hk,h.obj k _ a (RB hk) e⟩
theorem Ok.new(h:Ok K as H S){p:V7}{o:HO}(hp:H p=none):Ok K as (upd H p o) S:=⟨h.len,h.nd,fun k u a e ea=>by
 have r:=h.obj k u a e ea;obtain⟨z,hz,_⟩:=r.some;exact r.mono (Rh as) (AM hp) fun vs hv=>by rw[c3 (c4 hz hp)];exact hv⟩
theorem Ok.free(h:Ok K as H S){p:V7}(hp:H p=none):p∉as:=fun hm=>by
 obtain⟨k,hk⟩:=SK hm;obtain⟨o,_,r⟩:=h.of hk;obtain⟨z,hz,_⟩:=r.some;rw[hp]at hz;cases hz
theorem Ok.pushO(h:Ok K as H S){p:V7}(hp:H p=none){u:HO}{x:SO}(r:RlO K (as++[p]) (upd H p u) p x):Ok K (as++[p]) (upd H p u) (S++[x]):=by
 have pre:as <+: as++[p]:=Sj _ _;refine⟨by rw[R9,R9,h.len];rfl,?_,fun k o a e ea=>?_⟩
 ·rw[SZ];refine⟨h.nd,by simp,fun a ha b hb=>?_⟩;rw[RG.mp hb];intro z;subst z;exact h.free hp ha
 ·by_cases hk:k<S.length
  ·rw[RQ hk]at e;rw[RQ (by rw[h.len];exact hk)]at ea;exact((h.new (o:=u) hp).obj k o a e ea).mono pre (KeepU.refl _) fun _ z=>z
  ·have hk':k=S.length:=by
    have:=(gM e).1;rw[R9,Rk]at this;omega
   subst hk';rw[Rp]at e;rw[<-h.len,Rp]at ea;cases e;cases ea;exact r
theorem Ok.push(h:Ok K as H S){p:V7}(hp:H p=none){vs:List V}{xs:List SV}(r:RlAll K as H vs xs):Ok K (as++[p]) (upd H p (.lst vs)) (S++[.lst xs]):=h.pushO hp ⟨vs,e6,RlAll.mono (Sj _ _) (AM hp) xs vs r⟩
theorem Ok.writeO(h:Ok K as H S){k:Nat}{a:V7}{y x:SO}{u:HO}(e:S[k]?=some y)(ea:as[k]?=some a)(r:KeepU H (upd H a u)->RlO K as (upd H a u) a x):Ok K as (upd H a u) (S.set k x)/\KeepU H (upd H a u):=by
 obtain⟨z,h1,iz⟩:=(h.obj k _ a e ea).some;have ku:KeepU H (upd H a u):=B2 h1 iz;refine⟨⟨by rw[RP];exact h.len,h.nd,fun j o b eo eb=>?_⟩,ku⟩;by_cases hj:k=j
 ·subst hj;rw[Ri ((gM e).1)]at eo;rw[ea]at eb;cases eo;cases eb;exact r ku
 ·rw[RU hj]at eo
  have hab:b≠a:=fun z=>by
   subst z;exact hj ((List.getElem?_inj ((gM ea).1) h.nd).mp (ea.trans eb.symm))
  exact(h.obj j o b eo eb).mono (Rh as) ku fun ws hw=>by rw[c3 hab];exact hw
theorem Ok.write(h:Ok K as H S){k:Nat}{a:V7}{ys xs:List SV}{vs:List V}(e:S[k]?=some (.lst ys))(ea:as[k]?=some a)(r:RlAll K as H vs xs):Ok K as (upd H a (.lst vs)) (S.set k (.lst xs))/\KeepU H (upd H a (.lst vs)):=h.writeO e ea fun ku=>⟨vs,e6,RlAll.mono (Rh as) ku xs vs r⟩
end
structure Go(as:List V7)(H:Hp)(as':List V7)(H':Hp):Prop where
 pre:as <+: as'
 keep:∀ b o,H b=some o->b∉as->H' b=some o/\b∉as'
theorem Go.refl(as:List V7)(H:Hp):Go as H as H:=⟨Rh _,fun _ _ h n=>⟨h,n⟩⟩
theorem Go.trans{as as1 as2:List V7}{H H1 H2:Hp}(a:Go as H as1 H1)(b:Go as1 H1 as2 H2):Go as H as2 H2:=⟨a.pre.trans b.pre,fun x o h n=>let ⟨h1,n1⟩:=a.keep x o h n;b.keep x o h1 n1⟩
theorem Go.new{as:List V7}{H:Hp}{p:V7}{o:HO}(hp:H p=none):Go as H as (upd H p o):=⟨Rh _,fun b u h n=>⟨by rw[c3 (c4 h hp)];exact h,n⟩⟩
theorem Go.push{as:List V7}{H:Hp}{p:V7}{o:HO}(hp:H p=none):Go as H (as++[p]) (upd H p o):=⟨Sj _ _,fun b u h n=>⟨by rw[c3 (c4 h hp)];exact h,by
 rw[RO,RG];rintro(z | z)
 ·exact n z
 ·exact c4 h hp z⟩⟩
theorem Go.write{as:List V7}{H:Hp}{a:V7}{o:HO}(ha:a∈as):Go as H as (upd H a o):=⟨Rh _,fun b u h n=>⟨by rw[c3 (fun z=>n (by rw[z];exact ha))];exact h,n⟩⟩
section
variable{K:R8}{as as':List V7}{H H':Hp}{S:Sto}
theorem Ok.away(h:Ok K as H S){b:V7}{o:HO}(e:H b=some o)(i:imm o=true):b∉as:=fun hm=>by
 obtain⟨k,hk⟩:=SK hm;obtain⟨_,_,r⟩:=h.of hk;obtain⟨z,hz,iz⟩:=r.some;rw[e]at hz;cases hz;rw[i]at iz;cases iz
theorem Go.ku(g:Go as H as' H')(ok:Ok K as H S):KeepU H H':=fun b o h i=>(g.keep b o h (ok.away h i)).1
theorem Ok.other(h:Ok K as H S){b:V7}{vs us:List V}(hb:H b=some (.lst vs))(n:b∉as):Ok K as (upd H b (.lst us)) S:=⟨h.len,h.nd,fun k o a e ea=>(h.obj k o a e ea).mono (Rh as) (B2 hb rfl) fun ws hw=>by
 rw[c3 (fun z=>n (by rw[<-z];exact RD ea))];exact hw⟩
end
end Rf
namespace L2
open PySem PySem.Spec PyProof.Rows
section
variable{κ:Type}[DecidableEq κ]
noncomputable def Ac(kvs:List (κ×V))(k:κ):Option V:=(kvs.find? fun kv=>decide (kv.1=k)).map (·.2)
noncomputable def Ad(kvs:List (κ×V))(k:κ)(v:V):List (κ×V):=
 if (kvs.any fun kv=>decide (kv.1=k))=true then kvs.map (fun kv=>if kv.1=k then (kv.1,v) else kv) else kvs++[(k,v)]
theorem CJ{p:κ×V}{r:List (κ×V)}{k:κ}(e:p.1=k):Ac (p::r) k=some p.2:=by simp[Ac,So,e]
theorem CK{p:κ×V}{r:List (κ×V)}{k:κ}(e:¬ p.1=k):Ac (p::r) k=Ac r k:=by simp[Ac,So,e]
theorem EF(k:κ):∀ kvs:List (κ×V),(kvs.any fun kv=>decide (kv.1=k))=(Ac kvs k).isSome
 | []=>rfl
 | p::r=>by
   rw[SX];by_cases e:p.1=k
   ·simp only[CJ e,decide_eq_true e,Bool.true_or,UR]
   ·rw[CK e,decide_eq_false e,Uo];exact EF k r
theorem Bp(kvs:List (κ×V))(k:κ)(v:V):(Ad kvs k v).length<=kvs.length+1:=by
 unfold Ad;split
 ·rw[RC];omega
 ·rw[R9,Rt,SH];omega
theorem RelO.isSome_eq{o:Option V}{u:Option V4}(r:RelO o u):o.isSome=u.isSome:=by
 cases o with
 | none=>cases u with
   | none=>rfl
   | some _=>exact(show False from r).elim
 | some _=>cases u with
   | none=>exact(show False from r).elim
   | some _=>rfl
theorem RelO.getD{o:Option V}{u:Option V4}{d:V}{d':V4}(r:RelO o u)(rd:RelV d d'):RelV (o.getD d) (u.getD d'):=by
 cases o with
 | none=>cases u with
   | none=>exact rd
   | some _=>exact(show False from r).elim
 | some _=>cases u with
   | none=>exact(show False from r).elim
   | some _=>exact r
theorem KV.val{kvs:List (κ×V)}{vs:List (κ×V4)}(r:KV kvs vs)(k:κ):RelO (Ac kvs k) (valueAt vs k):=by
 unfold KV at r
 induction r with
 | nil=>exact True.intro
 | @cons p q ps qs h t ih=>
   obtain⟨h1,h2⟩:=h;by_cases e:p.1=k
   ·have e':q.1=k:=h1.symm.trans e;have b:valueAt (q::qs) k=some q.2:=by simp[valueAt,So,e']
    rw[CJ e,b];exact h2
   ·have e':¬ q.1=k:=fun z=>e (h1.trans z);have b:valueAt (q::qs) k=valueAt qs k:=by simp[valueAt,So,e']
    rw[CK e,b];exact ih
theorem KV.any{kvs:List (κ×V)}{vs:List (κ×V4)}(r:KV kvs vs)(k:κ):(kvs.any fun kv=>decide (kv.1=k))=vs.any fun kv=>decide (kv.1=k):=by
 unfold KV at r
 induction r with
 | nil=>rfl
 | cons h t ih=>rw[SX,SX,ih,h.1]
theorem KV.repl{kvs:List (κ×V)}{vs:List (κ×V4)}(r:KV kvs vs)(k:κ){y:V}{u:V4}(ry:RelV y u):
 KV (kvs.map fun kv=>if kv.1=k then (kv.1,y) else kv) (vs.map fun kv=>if kv.1=k then (kv.1,u) else kv):=by
 unfold KV at r ⊢
 induction r with
 | nil=>exact .nil
 | @cons p q ps qs h t ih=>
   rw[RV,RV];refine .cons ?_ ih;obtain⟨h1,h2⟩:=h;by_cases e:p.1=k
   ·rw[iP e,iP (h1.symm.trans e)];exact⟨h1,ry⟩
   ·rw[iG e,iG (fun z=>e (h1.trans z))];exact⟨h1,h2⟩
theorem KV.put{kvs:List (κ×V)}{vs:List (κ×V4)}(r:KV kvs vs)(k:κ){y:V}{u:V4}(ry:RelV y u):KV (Ad kvs k y) (stored vs k u):=by
 unfold Ad stored;rw[r.any k];by_cases e:(vs.any fun kv=>decide (kv.1=k))=true
 ·rw[iP e,iP e];exact r.repl k ry
 ·rw[iG e,iG e];exact Paired.snoc r ⟨rfl,ry⟩
theorem KV.keys{kvs:List (κ×V)}{vs:List (κ×V4)}(r:KV kvs vs):kvs.map (·.1)=vs.map (·.1):=by
 unfold KV at r
 induction r with
 | nil=>rfl
 | cons h t ih=>rw[RV,RV,ih,h.1]
theorem KV.length{kvs:List (κ×V)}{vs:List (κ×V4)}(r:KV kvs vs):kvs.length=vs.length:=Paired.length r
end
theorem GH{P:VC}{w:VG}{k:Key}{u:V4}(r:RelV (kV k) u):(j5 P w).is k u=true:=by
 cases k with
 | inl i=>obtain⟨t,e⟩:=(show ∃ t,u=Value.int i t from r);subst e;exact Dy P w i t
 | inr x=>obtain⟨t,e⟩:=(show ∃ t,u=Value.str x t from r);subst e;exact Dz P w x t
theorem DB{P:VC}{w:VG}:∀{ks:List Key} {us:List V4},Vals (ks.map kV) us->ItemsAre (j5 P w) ks us
 | [],_,r=>by rw[Uv]at r;cases r;exact .nil
 | k::ks,_,r=>by
   rw[RV]at r;cases r with
   | cons h t=>exact .cons (GH h) (DB t)
noncomputable abbrev KT(H:Hp):List (List Key×V)->List (List Key×V7×V4)->Prop:=Paired fun p q=>p.1=q.1/\H q.2.1=some (.tup (p.1.map kV))/\RelV p.2 q.2.2
theorem KT.val{H:Hp}{kvs:List (List Key×V)}{xs:List (List Key×V7×V4)}(r:KT H kvs xs)(k:List Key):RelO (Ac kvs k) ((atKey xs k).map (·.2)):=by
 induction r with
 | nil=>exact True.intro
 | @cons p q ps qs h t ih=>
   obtain⟨h1,_,h2⟩:=h;by_cases e:p.1=k
   ·have e':q.1=k:=h1.symm.trans e;have b:atKey (q::qs) k=some q.2:=by simp[atKey,So,e']
    rw[CJ e,b];exact h2
   ·have e':¬ q.1=k:=fun z=>e (h1.trans z);have b:atKey (q::qs) k=atKey qs k:=by simp[atKey,So,e']
    rw[CK e,b];exact ih
theorem KT.repl{H:Hp}{kvs:List (List Key×V)}{xs:List (List Key×V7×V4)}(r:KT H kvs xs)(k:List Key){y:V}{u:V4}(ry:RelV y u):
 KT H (kvs.map fun kv=>if kv.1=k then (kv.1,y) else kv) (xs.map (putAt k u)):=by
 induction r with
 | nil=>exact .nil
 | @cons p q ps qs h t ih=>
   rw[RV,RV];refine .cons ?_ ih;obtain⟨h1,h2,h3⟩:=h;unfold putAt;by_cases e:p.1=k
   ·rw[iP e,iP (h1.symm.trans e)];exact⟨h1,h2,ry⟩
   ·rw[iG e,iG (fun z=>e (h1.trans z))];exact⟨h1,h2,h3⟩
theorem KT.put{H:Hp}{kvs:List (List Key×V)}{xs:List (List Key×V7×V4)}(r:KT H kvs xs)(k:List Key){b:V7}{y:V}{u:V4}(hb:H b=some (.tup (k.map kV)))(ry:RelV y u):
 KT H (Ad kvs k y) (storedH xs k b u):=by
 have e:(kvs.any fun kv=>decide (kv.1=k))=(atKey xs k).isSome:=by
  rw[EF,(r.val k).isSome_eq,Tx]
 unfold Ad storedH;rw[e];by_cases q:(atKey xs k).isSome=true
 ·rw[iP q,iP q];exact r.repl k ry
 ·rw[iG q,iG q];exact Paired.snoc r ⟨rfl,hb,ry⟩
theorem KT.keeps{H H':Hp}{kvs:List (List Key×V)}{xs:List (List Key×V7×V4)}(r:KT H kvs xs)(ht:∀ b ys,H b=some (.tup ys)->H' b=some (.tup ys)):KT H' kvs xs:=
 Paired.mapP r fun _ _ z=>⟨z.1,ht _ _ z.2.1,z.2.2⟩
section
variable{P:VC}{w:VG}{H:Hp}{h:Heap}{a:V7}
theorem Mk{u:HO}(ok:HOk P w H h)(e:Rd H a u):ObjOk P w H h a u:=e.ok ok
theorem GI{kvs:List (Key×V)}(ok:HOk P w H h)(e:Rd H a (.dK kvs)):kvs.length<=V9/\(a == Vf)=false/\∃ vs,KV kvs vs/\h.DictOf (j5 P w) a vs:=
 show ObjOk P w H h a (.dK kvs) from Mk ok e
theorem Pk{kvs:List (Key×V)}(ok:HOk P w H h)(e:H a=some (.dK kvs)):kvs.length<=V9/\(a == Vf)=false/\∃ vs,KV kvs vs/\h.DictOf (j5 P w) a vs:=GI ok (.inl e)
theorem DX{ks:List Key}(ok:HOk P w H h)(e:H a=some (.tup (ks.map kV))):(WX (j5 P w)).is h ks a:=by
 obtain⟨_,its,r,o,h1,h2,n,h3⟩:=(show ObjOk P w H h a (.tup (ks.map kV)) from ok a _ e)
 exact⟨o,its.toArray,n,h1,h2,h3,by simpa using DB r⟩
theorem J7{kvs:List (List Key×V)}(ok:HOk P w H h)(e:Rd H a (.dT kvs)):kvs.length<=V9/\(a == Vf)=false/\
 ∃ xs,KT H kvs xs/\h.DictOfH (WX (j5 P w)) a xs:=by
 obtain⟨z,y,xs,r,o,es,ep,h1,h2,h3,h4,h5⟩:=(show ObjOk P w H h a (.dT kvs) from Mk ok e)
 refine⟨z,y,xs,r,o,es,ep,h1,h2,h3,h4,fun x hx=>?_,h5⟩
 have all:∀{l:List (List Key×V)} {m:List (List Key×V7×V4)},KT H l m->∀ x∈m,(WX (j5 P w)).is h x.1 x.2.1:=by
  intro l m q
  induction q with
  | nil=>intro x hx;exact nomatch hx
  | @cons p q ps qs hq t ih=>
    intro x hx;rcases RM.mp hx with e | hx
    ·subst e;exact DX ok (by rw[<-hq.1];exact hq.2.1)
    ·exact ih x hx
 exact all r x hx
theorem Pl{kvs:List (List Key×V)}(ok:HOk P w H h)(e:H a=some (.dT kvs)):kvs.length<=V9/\(a == Vf)=false/\
 ∃ xs,KT H kvs xs/\h.DictOfH (WX (j5 P w)) a xs:=J7 ok (.inl e)
end
noncomputable def DGet(H:Hp)(a:V7)(y:V)(r:Option V):Prop:=
 (∃ kvs k,Rd H a (.dK kvs)/\y=kV k/\r=Ac kvs k)\/∃ kvs k b,Rd H a (.dT kvs)/\y = .ref b/\H b=some (.tup (k.map kV))/\r=Ac kvs k
noncomputable def DPut(H:Hp)(a:V7)(y v:V)(H':Hp):Prop:=
 (∃ kvs k,H a=some (.dK kvs)/\y=kV k/\kvs.length<V9/\H'=upd H a (.dK (Ad kvs k v)))\/
 ∃ kvs k b,H a=some (.dT kvs)/\y = .ref b/\H b=some (.tup (k.map kV))/\kvs.length<V9/\H'=upd H a (.dT (Ad kvs k v))
theorem DGet.k{H:Hp}{a:V7}{kvs:List (Key×V)}{k:Key}(e:H a=some (.dK kvs)):DGet H a (kV k) (Ac kvs k) := .inl ⟨kvs,k,.inl e,rfl,rfl⟩
theorem DGet.t{H:Hp}{a b:V7}{kvs:List (List Key×V)}{k:List Key}(e:H a=some (.dT kvs))(eb:H b=some (.tup (k.map kV))):DGet H a (.ref b) (Ac kvs k) := .inr ⟨kvs,k,b,.inl e,rfl,eb,rfl⟩
theorem DPut.k{H:Hp}{a:V7}{kvs:List (Key×V)}{k:Key}{v:V}(e:H a=some (.dK kvs))(hl:kvs.length<V9):DPut H a (kV k) v (upd H a (.dK (Ad kvs k v))) := .inl ⟨kvs,k,e,rfl,hl,rfl⟩
theorem DPut.t{H:Hp}{a b:V7}{kvs:List (List Key×V)}{k:List Key}{v:V}(e:H a=some (.dT kvs))(eb:H b=some (.tup (k.map kV)))(hl:kvs.length<V9):
 DPut H a (.ref b) v (upd H a (.dT (Ad kvs k v))) := .inr ⟨kvs,k,b,e,rfl,eb,hl,rfl⟩
section
variable{X:Cx}{pq:List (V7×Obj)}{σ:St}{H:Hp}{s:V6}{a:V7}{y v:V}{u r:V4}{o:Option V}{A:VM}{E:V4->V6->Prop}
theorem Inv.big(I:Inv X pq σ H s):Vf<s.heap.objs.size:=by
 have h:VD<s.heap.objs.size:=(I.mod.glob.keeps I.bk).lt;exact Ux (by decide) h
theorem Qk{Q:V4->V6->Prop}(hu:A.units+1<cLine)(I:Inv X pq σ H s)(g:DGet H a y o)(ry:RelV y u)(h:∀ s',Inv X pq σ H s'->Q (.bool o.isSome) s'):
 VA (VB X.prog X.w) A (VL .In u (.ref a)) Q E s:=by
 rcases g with⟨kvs,k,e,ey,l⟩ | ⟨kvs,k,b,e,ey,eb,l⟩
 ·subst ey;obtain⟨z,hd,vs,rel,dd⟩:=GI I.hok e;refine wpAny_in_of (GH ry) hd dd.mapOf ?_;rw[<-(rel.val k).isSome_eq,<-l];exact h _ (I.tok _)
 ·subst ey;cases(show u=Value.ref b from ry);obtain⟨z,hd,xs,rel,dd⟩:=J7 I.hok e;refine wpAny_in_heap (Vx hu) (DX I.hok eb) hd dd ?_;have q:=(rel.val k).isSome_eq;rw[Tx]at q;rw[<-q,<-l];exact h _ (I.tok _)
theorem LH{Q:V4->V6->Prop}(hu:A.units+1<cLine)(I:Inv X pq σ H s)(g:DGet H a y o)(ry:RelV y u)(h:∀ s',Inv X pq σ H s'->Q (.bool (!o.isSome)) s'):
 VA (VB X.prog X.w) A (VL .NotIn u (.ref a)) Q E s:=by
 rcases g with⟨kvs,k,e,ey,l⟩ | ⟨kvs,k,b,e,ey,eb,l⟩
 ·subst ey;obtain⟨z,hd,vs,rel,dd⟩:=GI I.hok e;refine wpAny_notIn_of (GH ry) hd dd.mapOf ?_;rw[<-(rel.val k).isSome_eq,<-l];exact h _ (I.tok _)
 ·subst ey;cases(show u=Value.ref b from ry);obtain⟨z,hd,xs,rel,dd⟩:=J7 I.hok e;refine wpAny_notIn_heap (Vx hu) (DX I.hok eb) hd dd ?_;have q:=(rel.val k).isSome_eq;rw[Tx]at q;rw[<-q,<-l];exact h _ (I.tok _)
theorem GJ{h':Heap}{t':Nat}{ob:HO}(I:Inv X pq σ H s)(mu:Mut (H a))(hs:T9 a s.heap h')(he:∃ q,h'.get? a=some q)(new:ObjOk X.prog X.w (upd H a ob) h' a ob):
 Inv X pq σ (upd H a ob) {s with heap:=h',toks:=t'}:=
 I.write (x:=a) (e:=a) mu (.inl rfl) (fun b q hb z=>(hs.2 b hb).trans z) he new
theorem Nl{P:VC}{w:VG}{H':Hp}{h':Heap}{kvs:List (Key×V)}{vs:List (Key×V4)}(z:kvs.length<=V9)(hd:(a == Vf)=false)(rel:KV kvs vs)(dd:h'.DictOf (j5 P w) a vs):
 ObjOk P w H' h' a (.dK kvs):=⟨z,hd,vs,rel,dd⟩
theorem Hf{H':Hp}{Q:Unit->V6->Prop}(hu:A.units+1<cLine)(I:Inv X pq σ H s)(g:DPut H a y v H')(ry:RelV y u)(rv:RelV v r)(h:∀ s',Inv X pq σ H' s'->Q () s'):
 VA (VB X.prog X.w) A (setItem (.ref a) u r) Q E s:=by
 rcases g with⟨kvs,k,e,ey,l,eH⟩ | ⟨kvs,k,b,e,ey,eb,l,eH⟩
 ·subst ey eH;obtain⟨z,hd,vs,rel,dd⟩:=Pk I.hok e;have hz:vs.length<=V9:=by rw[<-rel.length];exact z
  have hl:(Ad kvs k v).length<=V9:=by have:=Bp kvs k v;omega
  refine wpAny_setItem_pairs (hsz:=hz) (GH ry) dd fun h' dd' hs=>h _ ?_;have he:∃ q,h'.get? a=some q:=let ⟨q,_,_,hq,_⟩:=dd';⟨q,hq⟩
  exact GJ I (by rw[e];exact True.intro) hs he (Nl hl hd (rel.put k rv) dd')
 ·subst ey eH;cases(show u=Value.ref b from ry);obtain⟨z,hd,xs,rel,dd⟩:=Pl I.hok e;have hz:xs.length<=V9:=by rw[<-Paired.length rel];exact z
  have hl:(Ad kvs k v).length<=V9:=by have:=Bp kvs k v;omega
  refine wpAny_setItem_heap (hsz:=hz) (Vx hu) (DX I.hok eb) dd fun h' dd' hs=>h _ ?_;obtain⟨q,es,ep,hq,h2,h3,h4,_,h5⟩:=dd';refine GJ I (by rw[e];exact True.intro) hs ⟨q,hq⟩ ⟨hl,hd,_,(rel.put k eb rv).keeps fun c ys ec=>?_,q,es,ep,hq,h2,h3,h4,h5⟩;rw[c3 (Ma ec e (fun z=>nomatch z))];exact ec
end
section
variable{X:Cx}{pq:List (V7×Obj)}{σ:St}{H:Hp}{s:V6}{a:V7}{kvs:List (Key×V)}{k:Key}{u:V4}{A:VM}{E:V4->V6->Prop}
theorem Pm{Q:V4->V6->Prop}(I:Inv X pq σ H s)(e:Rd H a (.dK kvs))(h:∀ t s',Inv X pq σ H s'->Q (.int kvs.length t) s'):VA (VB X.prog X.w) A (call (.builtin "len") [.ref a]) Q E s:=by
 obtain⟨z,hd,vs,rel,dd⟩:=GI I.hok e;refine call_len_dict hd dd (by rw[<-rel.length];rw[Vz]at z;omega) ?_;rw[<-rel.length];exact h _ _ (I.tok _)
end
noncomputable def Ql(ty td:TE):TE:=fun σ H Q=>ty σ H fun y H1=>td σ H1 fun x H2=>∃ a o,x = .ref a/\DGet H2 a y o/\Q (.bl o.isSome) H2
noncomputable def LI(ty td:TE):TE:=fun σ H Q=>ty σ H fun y H1=>td σ H1 fun x H2=>∃ a o,x = .ref a/\DGet H2 a y o/\Q (.bl (!o.isSome)) H2
section
variable{X:Cx}{o i e value:Expr}{pos pos' tpos:Pos}{td ty tv:TE}
theorem J8(hu:X.A.units+1<cLine)(hi:PE X i ty)(ho:PE X o td):PC X .In i o (Ql ty td):=by
 intro pq s σ H Q I h;refine thn (hi pq s σ H _ I h) fun iv s1 ⟨y,H1,I1,ry,q1⟩=>thn (ho pq s1 σ H1 _ I1 q1) fun u s2 ⟨x,H2,I2,rx,a,ov,ex,g,q2⟩=>?_;subst ex;obtain rfl:u=Value.ref a:=rx;exact Qk hu I2 g ry fun s3 I3=>⟨.bl ov.isSome,H2,I3,rfl,q2⟩
theorem DC(hu:X.A.units+1<cLine)(hi:PE X i ty)(ho:PE X o td):PC X .NotIn i o (LI ty td):=by
 intro pq s σ H Q I h;refine thn (hi pq s σ H _ I h) fun iv s1 ⟨y,H1,I1,ry,q1⟩=>thn (ho pq s1 σ H1 _ I1 q1) fun u s2 ⟨x,H2,I2,rx,a,ov,ex,g,q2⟩=>?_;subst ex;obtain rfl:u=Value.ref a:=rx;exact LH hu I2 g ry fun s3 I3=>⟨.bl (!ov.isSome),H2,I3,rfl,q2⟩
end
theorem J9{P:VC}{w:VG}{H:Hp}(h:Heap)(hb:Vf<h.objs.size):ObjOk P w H (h.push {cls := .type "dict",data := .dict #[]}) h.objs.size (.dK []):=
 ⟨Rz _,beq_eq_false_iff_ne.mpr (Ne.symm (Ro hb)),[],.nil,Heap.DictOf.new h⟩
noncomputable def Nm:TE:=fun _ H Q=>∀ p,H p=none->Q (.ref p) (upd H p (.dK []))
section
variable{X:Cx}{pos:Pos}
theorem JA:PE X (.Dict [] [] pos) Nm:=fun pq s σ H Q I h=>
 wpAny_Dict_empty ⟨.ref s.heap.objs.size,_,I.laid (a:=s.heap.objs.size) (o := .dK []) (t':=s.toks) (fun _ _ q=>RJ _ q) (RE _) (J9 s.heap I.big),rfl,h _ (I.hok.fresh (RE _))⟩
end
section
variable{X:Cx}
theorem Hg:CallR X (.builtin "len") (fun xs H Q=>∃ a kvs,xs=[V.ref a]/\H a=some (.dK kvs)/\Q (.int kvs.length) H):=by
 intro pq s σ H xs us Q I r h;obtain⟨a,kvs,rfl,ha,q⟩:=h;obtain⟨u,rfl,ru⟩:=w6 r;cases ru;exact Pm I (.inl ha) fun t s' I'=>⟨.int kvs.length,H,I',⟨t,rfl⟩,q⟩
end
mutual
noncomputable def Dat(H:Hp):V->PyData->Prop
 | x,.none=>x = .non
 | x,.bool b=>x = .bl b
 | x,.int i=>x = .int i
 | x,.str s=>x = .str s
 | x,.list ds=>∃ a xs,x = .ref a/\H a=some (.lst xs)/\DatAll H xs ds
 | x,.tuple ds=>∃ a xs,x = .ref a/\H a=some (.tup xs)/\DatAll H xs ds
 | _,.dict _=>False
noncomputable def DatAll(H:Hp):List V->List PyData->Prop
 | [],[]=>True
 | x::xs,d::ds=>Dat H x d/\DatAll H xs ds
 | [],_::_=>False
 | _::_,[]=>False
end
mutual
theorem Dat.mono{H H':Hp}(k:∀ b o,H b=some o->H' b=some o):∀(x:V) (d:PyData),Dat H x d->Dat H' x d
 | _,.none,h=>by unfold Dat at h ⊢;exact h
 | _,.bool _,h=>by unfold Dat at h ⊢;exact h
 | _,.int _,h=>by unfold Dat at h ⊢;exact h
 | _,.str _,h=>by unfold Dat at h ⊢;exact h
 | x,.list ds,h=>by
   unfold Dat at h ⊢;obtain⟨a,xs,e,h1,h2⟩:=h;exact⟨a,xs,e,k _ _ h1,DatAll.mono k xs ds h2⟩
 | x,.tuple ds,h=>by
   unfold Dat at h ⊢;obtain⟨a,xs,e,h1,h2⟩:=h;exact⟨a,xs,e,k _ _ h1,DatAll.mono k xs ds h2⟩
 | _,.dict _,h=>by unfold Dat at h;exact h.elim
theorem DatAll.mono{H H':Hp}(k:∀ b o,H b=some o->H' b=some o):∀(xs:List V) (ds:List PyData),DatAll H xs ds->DatAll H' xs ds
 | [],[],_=>by unfold DatAll;trivial
 | x::xs,d::ds,h=>by
   unfold DatAll at h ⊢;exact⟨Dat.mono k x d h.1,DatAll.mono k xs ds h.2⟩
 | [],_::_,h=>by unfold DatAll at h;exact h.elim
 | _::_,[],h=>by unfold DatAll at h;exact h.elim
end
theorem DatAll.length{H:Hp}:∀{xs:List V} {ds:List PyData},DatAll H xs ds->xs.length=ds.length
 | [],[],_=>rfl
 | x::xs,d::ds,h=>by unfold DatAll at h;simp[DatAll.length h.2]
 | [],_::_,h=>by unfold DatAll at h;exact h.elim
 | _::_,[],h=>by unfold DatAll at h;exact h.elim
section
variable{X:Cx}{pq:List (V7×Obj)}{σ:St}{H:Hp}{s:V6}
mutual
theorem Inv.reads(I:Inv X pq σ H s):∀(x:V) (d:PyData) (v:V4),Dat H x d->RelV x v->∃ as,Reads s.heap v d as
 | _,.none,_,h,r=>by unfold Dat at h;subst h;cases r;exact⟨_,.none⟩
 | _,.bool _,_,h,r=>by unfold Dat at h;subst h;cases r;exact⟨_,.bool _⟩
 | _,.int _,_,h,r=>by unfold Dat at h;subst h;obtain⟨t,rfl⟩:=r;exact⟨_,.int _ _⟩
 | _,.str _,_,h,r=>by unfold Dat at h;subst h;obtain⟨t,rfl⟩:=r;exact⟨_,.str _ _⟩
 | x,.list ds,v,h,r=>by
   unfold Dat at h;obtain⟨a,xs,rfl,h1,h2⟩:=h;cases r;obtain⟨its,rv,pl,_⟩:=I.list (SqL.of h1);obtain⟨o,n,ho,hc,_,hd⟩:=pl;obtain⟨as,ra⟩:=Inv.readsAll I xs ds its h2 rv;exact⟨_,.list ho hc hd (by simpa using ra)⟩
 | x,.tuple ds,v,h,r=>by
   unfold Dat at h;obtain⟨a,xs,rfl,h1,h2⟩:=h;cases r;obtain⟨its,rv,pl,_⟩:=I.tuple (SqT.of h1);obtain⟨o,ho,hc,n,hd⟩:=pl;obtain⟨as,ra⟩:=Inv.readsAll I xs ds its h2 rv;exact⟨_,.tuple ho hc hd (by simpa using ra)⟩
 | _,.dict _,_,h,_=>by unfold Dat at h;exact h.elim
theorem Inv.readsAll(I:Inv X pq σ H s):∀(xs:List V) (ds:List PyData) (vs:List V4),DatAll H xs ds->Vals xs vs->∃ as,ReadsAll s.heap vs ds as
 | [],[],_,_,r=>by cases r;exact⟨_,.nil⟩
 | x::xs,d::ds,_,h,r=>by
   unfold DatAll at h;cases r with
   | cons r1 r2=>
     obtain⟨as,ra⟩:=Inv.reads I x d _ h.1 r1;obtain⟨bs,rb⟩:=Inv.readsAll I xs ds _ h.2 r2;exact⟨_,.cons ra rb⟩
 | [],_::_,_,h,_=>by unfold DatAll at h;exact h.elim
 | _::_,[],_,h,_=>by unfold DatAll at h;exact h.elim
end
end
mutual
theorem Dat.noDict{H:Hp}:∀(x:V) (d:PyData),Dat H x d->d.hasDict=false
 | _,.none,_=>by simp only[PyData.hasDict]
 | _,.bool _,_=>by simp only[PyData.hasDict]
 | _,.int _,_=>by simp only[PyData.hasDict]
 | _,.str _,_=>by simp only[PyData.hasDict]
 | x,.list ds,h=>by
   unfold Dat at h;obtain⟨a,xs,e,h1,h2⟩:=h;simp only[PyData.hasDict];exact DatAll.noDict xs ds h2
 | x,.tuple ds,h=>by
   unfold Dat at h;obtain⟨a,xs,e,h1,h2⟩:=h;simp only[PyData.hasDict];exact DatAll.noDict xs ds h2
 | _,.dict _,h=>by unfold Dat at h;exact h.elim
theorem DatAll.noDict{H:Hp}:∀(xs:List V) (ds:List PyData),DatAll H xs ds->PyData.hasDictAll ds=false
 | [],[],_=>by simp only[PyData.hasDictAll]
 | x::xs,d::ds,h=>by
   unfold DatAll at h;simp only[PyData.hasDictAll,UN];exact⟨Dat.noDict x d h.1,DatAll.noDict xs ds h.2⟩
 | [],_::_,h=>by unfold DatAll at h;exact h.elim
 | _::_,[],h=>by unfold DatAll at h;exact h.elim
end
noncomputable def JB:PyData->Str
 | .str x=>x
 | d=>d.shown
section
variable{X:Cx}
structure Fit(d:PyData):Prop where
 sh:d.showable=true
 sz:d.shown.length<=V9
 dp:d.depth<=40
theorem Hh(hg:X.A.guards=some [])(hu:X.A.units+100<cLine):CallR X (.type "str") (fun xs H Q=>∃ x d,xs=[x]/\Dat H x d/\Fit d/\Q (.str (JB d)) H):=by
 intro pq s σ H xs us Q I r h;obtain⟨x,d,rfl,hd,f,q⟩:=h;obtain⟨u,rfl,ru⟩:=w6 r
 have refs:∀ a,u = .ref a->(∀ z,d ≠ .str z)->VA (VB X.prog X.w) X.A (call (.type "str") [u]) (EP X pq σ Q) X.xe s:=fun a e hn=>by
  subst e;obtain⟨as,rd⟩:=I.reads x d _ hd ru;refine str_of_reads rd f.sh (PyData.noDict_hsm (Dat.noDict x d hd)) hg (by have:=f.dp;omega) (fun _ _ e=>e) (fun h' u tk hk=>?_) f.sz;refine⟨.str d.shown,H,I.kept (t':=tk) hk,⟨_,rfl⟩,?_⟩
  have e:JB d=d.shown:=by
   cases d with
   | str z=>exact absurd rfl (hn z)
   | _=>rfl
  rw[<-e];exact q
 cases d with
 | none=>unfold Dat at hd;subst hd;cases ru;exact P.str_of_none ⟨.str "None",H,I.tok _,⟨_,rfl⟩,q⟩
 | bool b=>unfold Dat at hd;subst hd;cases ru;exact P.str_of_bool ⟨.str (if b then "True" else "False"),H,I.tok _,⟨_,rfl⟩,by cases b<;>exact q⟩
 | int i=>unfold Dat at hd;subst hd;obtain⟨t,rfl⟩:=ru;exact P.str_of_int (by have:=f.sh;simpa[PyData.showable] using this) ⟨.str (toString i),H,I.tok _,⟨_,rfl⟩,q⟩
 | str z=>unfold Dat at hd;subst hd;obtain⟨t,rfl⟩:=ru;exact P.str_of_str ⟨.str z,H,I,⟨_,rfl⟩,q⟩
 | list ds=>
   have hd':=hd;unfold Dat at hd';obtain⟨a,xs,rfl,_⟩:=hd';exact refs a ru (fun z e=>nomatch e)
 | tuple ds=>
   have hd':=hd;unfold Dat at hd';obtain⟨a,xs,rfl,_⟩:=hd';exact refs a ru (fun z e=>nomatch e)
 | dict _=>unfold Dat at hd;exact hd.elim
end
section
variable{X:Cx}{a b:Expr}{ta:TE}{pos:Pos}
theorem Hi:OpR X (VL .IsNot) (fun x y H Q=>∃ c d,x = .bl c/\y = .bl d/\Q (.bl (c != d)) H):=by
 intro pq s σ H x y v u Q I rx ry h;obtain⟨c,d,rfl,rfl,q⟩:=h;cases rx;cases ry;exact isnot_bool ⟨.bl (c != d),H,I,rfl,q⟩
end
section
variable{prog:VC}{w:VG}{A:VM}{E:V4->V6->Prop}{s:V6}
open HT in
theorem Cq{t sl:V7}{items:Array V4}{vl vu:V4}{lo hi:Option Int}{Q:V4->V6->Prop}(ht:IsTup s.heap t items)(hs:s.heap.IsSliceOf sl vl vu .none)(pl:IsPart vl lo)(pu:IsPart vu hi)
 (hw:sIx items.size 0 lo=0/\sIx items.size items.size hi=items.size) (h:Q (.ref t) s):VA (VB prog w) A (getItem (.ref t) (.ref sl)) Q E s:=by
 obtain⟨os,hos,hcs,hds⟩:=id hs;have hTs:s.TypeIs (.ref sl) "slice":=⟨os,hos,hcs⟩
 unfold getItem
 try with_reducible refine Vb ?_
 first | refine V5 (V8 ?_) | skip
 refine V5 (Wh ht.typeIs (by decide) ?_)
 refine V5 (Ve (name:=Str.ofString "__getitem__") ht.typeIs PyProof.Rows.slot_tuple_getitem
  (Vt PyProof.Rows.slot_tuple_getitem ht.typeIs Wa ?_ (We _ _)))
 show VA _ _ (Builtin.Tuple.tupleItemsOf (.ref t) >>= _) _ _ s;refine V5 (tupleItemsOf_ ht ?_);refine V5 (Wi hTs ?_);rw[iP (by decide)];refine V5 (AL hs pl pu ?_)
 have hyes:(((sIx items.size 0 lo:Nat):Int) == 0&&(1:Int) == 1&&(sIx items.size items.size hi - sIx items.size 0 lo) == items.size)=true:=by
  rw[hw.1,hw.2];simp
 show VA _ _ (if (((sIx items.size 0 lo:Nat):Int) == 0&&(1:Int) == 1&&(sIx items.size items.size hi - sIx items.size 0 lo) == items.size)=true then _ else _) _ _ s;rw[iP hyes];unfold Builtin.Tuple.tupleIsExact;refine V5 (V5 (Wi ht.typeIs (V8 ?_)));rw[iP (by decide)];exact V5 (Vk (V8 ⟨_,rfl,V8 h⟩))
end
section
variable{X:Cx}
noncomputable def Pn(K:R8):V->Option Int->Option Int->Hp->VK->Prop:=fun x lo hi H Q=>∃ a xs,x = .ref a/\SqT K H a xs/\(HT.sIx xs.length 0 lo=0/\HT.sIx xs.length xs.length hi=xs.length)/\Q (.ref a) H
theorem LJ:SlR X (Pn X.K):=by
 intro pq s σ H x v vl vu lo hi sl Q I rx hs pl pu h;obtain⟨a,xs,rfl,hx,hw,q⟩:=h;cases rx;obtain⟨its,r,ht,hz⟩:=I.tuple hx;have hlen:its.toArray.size=xs.length:=by rw[RF];exact r.length.symm
 exact⟨"tuple",_,PyProof.Rows.slot_tuple_getitem.lookup,ht.typeIs,Cq ht hs pl pu (by rw[hlen];exact hw) ⟨.ref a,H,I,rfl,q⟩⟩
end
theorem b_set:VE "set"=some (.type "set"):=by decide +kernel
theorem Nn:VE "len"=some (.builtin "len"):=by decide +kernel
section
variable{X:Cx}
noncomputable def LK(K:R8)(te:TE):TE:=fun σ H Q=>te σ H fun x H1=>∃(p:V7) (ns:List Int),x = .ref p/\SqL K H1 p (ns.map V.int)/\ns.length+1<WY/\Q (.int (firstMet (fun i=>ns.getD i 0) ns.length).length) H1
theorem Hj{e:Expr}{te:TE}{p1 p2 pos1 pos2:Pos}(hc:X.calm=true)(hl:Gl X "len")(hml:X.mg "len"=none)(hs:Gl X "set")(hms:X.mg "set"=none)(he:PE X e te)
 (h1:VF [e] X.env=(false,eval e X.env)::VF [] X.env:=by rfl)
 (h2:VF [.Call (.Name "set" p2) [e] [] pos2] X.env=(false,eval (.Call (.Name "set" p2) [e] [] pos2) X.env)::VF [] X.env:=by rfl)
 (h3:(backTo pos1 (VF [] X.env)).any (·.1)=false:=by rfl) (h4:(backTo pos2 (VF [] X.env)).any (·.1)=false:=by rfl):
 PE X (.Call (.Name "len" p1) [.Call (.Name "set" p2) [e] [] pos2] [] pos1) (LK X.K te):=by
 intro pq s σ H Q I h;refine VY (AC I hl hml Nn ?_ (by decide) (by decide));refine PyProof.Rows.callWith_builtin1 ?_ h2 h3;rw[h2];show VA _ _ (spliced ((false,eval (.Call (.Name "set" p2) [e] [] pos2) X.env)::backTo pos1 (VF [] X.env))) _ _ s;refine Calls.spliced_cons ?_;refine VY (AC I hs hms b_set ?_ (by decide) (by decide));refine PyProof.Rows.callWith_type1 ?_ h1 h4;rw[h1];show VA _ _ (spliced ((false,eval e X.env)::backTo pos2 (VF [] X.env))) _ _ s;refine Calls.spliced_cons (thn (he pq s σ H _ I h) fun u s1 ⟨x,H1,I1,rx,p,ns,ex,hq,hb,q1⟩=>Calls.spliced_nil ?_);subst ex;cases rx;obtain⟨its,r',pl,hz⟩:=I1.list hq;have hlen:=r'.length;rw[RC]at hlen;refine call_set_list (items:=its.toArray) (ns:=ns) (I1.ok.hd hc) pl.isList (by simpa using Ab r') (by simp only[RF];omega) fun h' tk hS hk=>?_;refine Calls.spliced_nil ?_;have I2:Inv X pq σ H1 {s1 with heap:=h',toks:=tk}:=I1.kept fun b o e=>hk b o (RN e) e;obtain⟨o,es,ep,t,ho,hex,hd,_,_,hbb,hf,hn⟩:=hS;refine call_len_set (s:={s1 with heap:=h',toks:=tk}) ho hex hd hf (by unfold WY at hbb;omega) ?_;refine⟨.int _,H1,I2.tok _,⟨_,rfl⟩,?_⟩;rw[hn];simp only[RF];rw[<-hlen];exact q1
end
section
variable{prog:VC}{w:VG}{A:VM}{E:V4->V6->Prop}{s:V6}
noncomputable def IsPr(h:Heap)(v:V4)(a b:Int):Prop:=∃ p o n t u,v = .ref p/\h.get? p=some o/\o.cls = .type "tuple"/\o.data = .seq #[.int a t,.int b u] n
theorem IsPr.at{h h':Heap}{v:V4}{a b:Int}(x:IsPr h v a b)(k:∀ p o,h.get? p=some o->o.cls = .type "tuple"->h'.get? p=some o):IsPr h' v a b:=by
 obtain⟨p,o,n,t1,t2,e,ho,hc,hd⟩:=x;exact⟨p,o,n,t1,t2,e,k p o ho hc,hc,hd⟩
end
noncomputable def Up(xs:Array Nat):Prop:=∀ i j (hi:i<xs.size) (hj:j<xs.size),i<j->xs[i]<xs[j]
structure Tab(w:VG)(t:WD):Prop where
 up:Up t.place
 no:t.dummies=#[]
 led:t.led=!w.params.followText "set-order"
noncomputable def SetX(prog:VC)(w:VG)(h:Heap)(a:V7)(L:List Int):Prop:=
 ∃ o es ep t,h.get? a=some o/\o.ExactSet/\o.data = .set es ep t/\ElemsOf (intKind prog w) es.toList/\es.size<WY/\t.fits es.size=true/\Tab w t/\(es.toList.map fun e=>numOf e.2).Perm L
section
variable{prog:VC}{w:VG}{A:VM}{E:V4->V6->Prop}{s:V6}
theorem SetX.keep{h h':Heap}{a:V7}{L:List Int}(x:SetX prog w h a L)(k:∀ o,h.get? a=some o->h'.get? a=some o):SetX prog w h' a L:=by
 obtain⟨o,es,ep,t,ho,r⟩:=x;exact⟨o,es,ep,t,k o ho,r⟩
theorem GK{k:Int}{v:V4}(h:(intKind prog w).is k v=true):numOf v=k:=by
 obtain⟨t,rfl⟩:=Value.isInt_shape (k:=k) (v:=v) h;rfl
end
end L2
set_option maxHeartbeats 400000
namespace L2
open PySem PySem.Spec PyProof.Rows
noncomputable def SetAt(w:VG)(h:Heap)(a:V7)(es:Array (Int×V4))(ep:Nat)(t:WD):Prop:=∃ o,h.get? a=some o/\o.cls = .type "set"/\o.data = .set es ep t/\t.fits es.size=true/\Tab w t
theorem SetAt.keep{w:VG}{h h':Heap}{a:V7}{es:Array (Int×V4)}{ep:Nat}{t:WD}(x:SetAt w h a es ep t)(k:∀ o,h.get? a=some o->h'.get? a=some o):SetAt w h' a es ep t:=let ⟨o,e,r⟩:=x;⟨o,k o e,r⟩
noncomputable def slotAt(t:WD)(i:Nat):Nat:=if i=0 then 0 else t.place.getD (i - 1) 0+1
inductive Way(w:VG)(h:Heap)(T0 S:V7)(es:Array (Int×V4))(ep:Nat)(t:WD)(fs:List (Int×V4))(i:Nat):V4->Prop where
 | text (hw:w.params.followText "set-order"=true) (hf:fs=(pickOrder (w.params.setOrder S ep) es).toList):Way w h T0 S es ep t fs i (.int 0 0)
 | table (hw:w.params.followText "set-order"=false) (hd:(!t.plain&&decide (es.size>1))=false) (hf:fs=es.toList):Way w h T0 S es ep t fs i (.int (slotAt t i:Nat) 0)
 | drawn (hw:w.params.followText "set-order"=false) (pl:List Nat) (o:Obj) (n:Nat) (ho:h.get? T0=some o) (hd:o.data = .seq (pl.map fun k=>Value.int (k:Nat) 0).toArray n) (hl:pl.length=fs.length)
    (hf:∀(k:Nat) p,pl[k]?=some p->es[p]?=fs[k]?):Way w h T0 S es ep t fs i (.ref T0)
noncomputable def Sit(w:VG)(h:Heap)(T0 I S:V7)(es:Array (Int×V4))(ep:Nat)(t:WD)(fs:List (Int×V4))(i:Nat):Prop:=
 ∃ o first,h.get? I=some o/\o.cls = .type "set_iterator"/\o.data = .fields #[first,.int (i:Nat) 0,.ref S,.int (es.size:Nat) 0,.int (ep:Nat) 0]/\Way w h T0 S es ep t fs i first
section
variable{prog:VC}{w:VG}{A:VM}{E:V4->V6->Prop}{s:V6}{T0 I S:V7}{es:Array (Int×V4)}{ep:Nat}{t:WD}{fs:List (Int×V4)}{i:Nat}
theorem Sit.typeIs(x:Sit w s.heap T0 I S es ep t fs i):s.TypeIs (.ref I) "set_iterator":=let ⟨o,_,e,c,_⟩:=x;⟨o,e,c⟩
theorem Sit.keep{h h':Heap}(x:Sit w h T0 I S es ep t fs i)(k:∀ b,b=I\/b=T0->∀ o,h.get? b=some o->h'.get? b=some o):Sit w h' T0 I S es ep t fs i:=by
 obtain⟨o,first,ho,hc,hd,W⟩:=x;refine⟨o,first,k I (.inl rfl) _ ho,hc,hd,?_⟩;cases W with
 | text hw hf=>exact .text hw hf
 | table hw hp hf=>exact .table hw hp hf
 | drawn hw pl oT n hoT hdT hl hf=>exact .drawn hw pl oT n (k T0 (.inr rfl) _ hoT) hdT hl hf
end
end L2
set_option maxHeartbeats 800000
namespace L2
open PySem PySem.Spec PyProof.Rows
section
variable{X:Cx}
theorem Hk:VE "sorted"=some (.builtin "sorted"):=by decide +kernel
noncomputable def Bv(ns:List Int):List Int:=firstMet (fun i=>ns.getD i 0) ns.length
end
end L2
set_option maxHeartbeats 2000000
namespace L2
open PySem PySem.Spec PyProof.Rows
open PySem.AutoSeq1 (wpAny_loadPart')
open PySem.MeetsSeq PySem.MeetsSeq2 PySem.MeetsSeq3
section
variable{prog:VC}{w:VG}{A:VM}{E:V4->V6->Prop}{s:V6}{a₀:Array Keyed}
noncomputable def Bq(prog:VC)(w:VG)(A:VM)(E:V4->V6->Prop)(s:V6)(a₀:Array Keyed):Prop:=∀(st:SortSt) (i j:Nat) (Q:Option Bool->SortSt->Prop),SBase a₀ st->i<a₀.size->j<a₀.size->(∀ b,Q (some b) st)->wpS (VB prog w) A E s (ltAt' i j) Q st
theorem JC(hO:∀ p∈a₀.toList,∀ q∈a₀.toList,∀(E':V4->V6->Prop) (Q:Bool->V6->Prop),(∀ c,Q c s)->VA (VB prog w) A (oneLt' true p.1 q.1) Q E' s):Bq prog w A E s a₀:=by
 intro st i j Q hB hi hj h;have hi':i<(arrOf st).size:=by rw[hB.size];exact hi
 have hj':j<(arrOf st).size:=by rw[hB.size];exact hj
 have mi:(arrOf st)[i]∈a₀.toList:=(TL.mp hB.perm).mem_iff.mp (by simp);have mj:(arrOf st)[j]∈a₀.toList:=(TL.mp hB.perm).mem_iff.mp (by simp);rw[ltAt'_eq];refine VJ (wpS_get ?_);show wpS _ _ _ _ (do let x <- elem' (arrOf st) i;let y <- elem' (arrOf st) j;lt' x y) Q st;rw[elem'_eq,elem'_eq,getElem?_pos _ i hi',getElem?_pos _ j hj'];refine VJ (VQ (VJ (VQ ?_)));rw[lt'_eq];refine VJ (wpS_get ?_);rw[hB.kind,keyLt'_oneType];refine VJ (wpS_lift (wpAny_attempt (hO _ mi _ mj _ _ fun c=>⟨rfl,?_⟩)));exact VQ (h c)
theorem Bw{st:SortSt}{n ok:Nat}{Q:Bool->SortSt->Prop}(hO:Bq prog w A E s a₀)(hn:n<=a₀.size)(hB:SBase a₀ st)
 (h:∀ st',SBase a₀ st'->Q true st'):wpS (VB prog w) A E s (binarySort' 0 n ok) Q st:=by
 rw[binarySort'_eq];simp only[UW]
 refine VJ (X1 (Vs (I:=fun k c st'=>c=(none,())/\SBase a₀ st')
  (Q:=fun c st'=>c=(none,())/\SBase a₀ st') ?step ?fin ⟨rfl,hB⟩) ?post)
 case post=>
  rintro c st' ⟨rfl,hB'⟩;exact VQ (h st' hB')
 case fin=>
  rintro c st' ⟨hc,hB'⟩;exact⟨hc,hB'⟩
 case step=>
  rintro k c st' hak hkn ⟨rfl,hB'⟩;have hk:k<a₀.size:=by omega
  refine VJ (X1 (Vs (I:=fun x c st''=>st''=st'/\∃ l r,c=(none,l,r)/\r<=k)
   (Q:=fun c st''=>st''=st'/\∃ l r,c=(none,l,r)) ?istep ?ifin ⟨rfl,0,k,rfl,RE _⟩) ?ipost)
  case ifin=>
   rintro c st'' ⟨rfl,l,r,rfl,hrk⟩;exact⟨rfl,l,r,rfl⟩
  case istep=>
   rintro x c st'' _ hxk ⟨rfl,l,r,rfl,hrk⟩;dsimp only;by_cases hge:l≥r
   ·rw[iP hge];exact VQ ⟨rfl,l,r,rfl⟩
   ·rw[iG hge];refine VJ (hO _ _ _ _ hB' hk (by omega) fun less=>?_);cases less
    case true=>
     simp only[if_true];exact VQ ⟨rfl,l,(l+r) / 2,rfl,by omega⟩
    case false=>
     simp only[SU,if_false];exact VQ ⟨rfl,(l+r) / 2+1,r,rfl,hrk⟩
  case ipost=>
   rintro c st'' ⟨rfl,l,r,rfl⟩;show wpS _ _ _ _ (do moveDown' k l;pure (ForInStep.yield (none,()))) _ _;rw[moveDown'_eq];exact VJ (X2 (VQ ⟨rfl,hB'.setArr (bubble_perm _ _ _)⟩))
theorem BF{st:SortSt}{a nrem:Nat}{Q:AscSt->SortSt->Prop}(hO:Bq prog w A E s a₀)(hn:nrem<=a₀.size)(ha:1<=a)(han:a<=nrem)(hB:SBase a₀ st)
 (h:∀ n,a<=n->n<=nrem->Q (none,n) st):wpS (VB prog w) A E s (ascLoop a nrem) Q st:=by
 unfold ascLoop;refine Vs (I:=fun x c st'=>st'=st/\c=(none,x)) ?step ?fin ⟨rfl,rfl⟩
 case fin=>
  rintro c st' ⟨rfl,rfl⟩;rw[show max a nrem=nrem by omega];exact h nrem han (RE _)
 case step=>
  rintro x c st' hax hxn ⟨rfl,rfl⟩;dsimp only;refine VJ (hO _ _ _ _ hB (by omega) (by omega) fun less=>?_);cases less
  case true=>
   simp only[if_true];exact VQ (h x hax (by omega))
  case false=>
   simp only[SU,if_false];exact VQ ⟨rfl,rfl⟩
theorem CL{st:SortSt}{n nrem:Nat}{Q:Option Nat->SortSt->Prop}(hO:Bq prog w A E s a₀)(hn:nrem<=a₀.size)(h1:1<=n)(hnn:n<=nrem)(hB:SBase a₀ st)
 (h:∀ m st',SBase a₀ st'->1<=m->m<=nrem->Q (some m) st'):wpS (VB prog w) A E s (tail3 n nrem) Q st:=by
 unfold tail3;refine VJ (WU ?_);have hB':SBase a₀ (setArr st (mirror (arrOf st) 0 n ((n - 0) / 2))):=hB.setArr (WV _ _ _ _);exact VJ (BF hO hn h1 hnn hB' fun m hm1 hm2=>VQ (h m _ hB' (by omega) hm2))
theorem Cr{st:SortSt}{n nrem:Nat}{Q:DescSt->SortSt->Prop}(hO:Bq prog w A E s a₀)(hn:nrem<=a₀.size)(h1:1<=n)(hnn:n<=nrem)(hB:SBase a₀ st)
 (h:∀ m neq st',SBase a₀ st'->n<=m->m<=nrem->Q (none,m,neq) st'):wpS (VB prog w) A E s (descLoop n nrem) Q st:=by
 unfold descLoop;refine Vs (I:=fun x c st'=>∃ neq,c=(none,x,neq)/\SBase a₀ st') ?step ?fin ⟨0,rfl,hB⟩
 case fin=>
  rintro c st' ⟨neq,rfl,hB'⟩;rw[show max n nrem=nrem by omega];exact h nrem neq st' hB' hnn (RE _)
 case step=>
  rintro x c st' hax hxn ⟨neq,rfl,hB'⟩;dsimp only;refine VJ (hO _ _ _ _ hB' (by omega) (by omega) fun less=>?_);cases less
  case true=>
   simp only[if_true];by_cases hneq:neq>0
   ·rw[iP hneq];exact VJ (WU (VQ ⟨0,rfl,hB'.setArr (WV _ _ _ _)⟩))
   ·rw[iG hneq];exact VQ ⟨0,rfl,hB'⟩
  case false=>
   simp only[SU,if_false];refine VJ (hO _ _ _ _ hB' (by omega) (by omega) fun larger=>?_);cases larger
   case true=>
    simp only[if_true];exact VQ (h x neq st' hB' hax (by omega))
   case false=>
    simp only[SU,if_false];exact VQ ⟨neq+1,rfl,hB'⟩
theorem B8{st:SortSt}{n nrem:Nat}{Q:Option Nat->SortSt->Prop}(hO:Bq prog w A E s a₀)(hn:nrem<=a₀.size)(hnn:n+1<=nrem)(hB:SBase a₀ st)
 (h:∀ m st',SBase a₀ st'->1<=m->m<=nrem->Q (some m) st'):wpS (VB prog w) A E s (descPart n nrem) Q st:=by
 unfold descPart;refine VJ (wpS_lift (Vk ⟨rfl,?_⟩));refine VJ (Cr hO hn (by omega) hnn hB fun m neq st' hB' hm1 hm2=>?_);dsimp only;by_cases hneq:neq>0
 ·rw[iP hneq];exact VJ (WU (CL hO hn (by omega) hm2 (hB'.setArr (WV _ _ _ _)) h))
 ·rw[iG hneq];exact CL hO hn (by omega) hm2 hB' h
theorem Cs{st:SortSt}{nrem:Nat}{Q:Option Nat->SortSt->Prop}(hO:Bq prog w A E s a₀)(hn:nrem<=a₀.size)(h1:1<=nrem)(hB:SBase a₀ st)
 (h:∀ m st',SBase a₀ st'->1<=m->m<=nrem->Q (some m) st'):wpS (VB prog w) A E s (countRun' 0 nrem) Q st:=by
 rw[countRun0_eq];refine VJ (BF hO hn (RE 1) h1 hB fun n hn1 hn2=>?_);dsimp only;by_cases hnn:n=nrem
 ·rw[iP (by simpa using hnn)];exact VQ (h n st hB hn1 hn2)
 ·rw[iG (by simpa using hnn)];by_cases hgt:n>1
  ·rw[iP hgt];refine VJ (hO _ _ _ _ hB (by omega) (by omega) fun rose=>?_);cases rose
   case true=>
    simp only[if_true];exact VQ (h n st hB hn1 hn2)
   case false=>
    simp only[SU,if_false];exact VJ (WU (B8 hO hn (by omega) (hB.setArr (WV _ _ _ _)) h))
  ·rw[iG hgt];exact B8 hO hn (by omega) hB h
noncomputable def FP(a₀:Array Keyed)(st:SortSt):Prop:=(arrOf st).Perm a₀/\Wk st=none/\WZ st=#[(0,a₀.size,0)]
theorem Ml{st:SortSt}(hB:SBase a₀ st):FP a₀ (setPending st ((WZ st).push (0,a₀.size,0))):=
 ⟨hB.perm,hB.failed,by show(WZ st).push _=_;rw[hB.pend];rfl⟩
theorem Ct{st:SortSt}{Q:Unit->SortSt->Prop}(hO:Bq prog w A E s a₀)(hB:SBase a₀ st)(h2:2<=a₀.size)(h64:a₀.size<64)
 (h:∀ st',(arrOf st').Perm a₀->Wk st'=none->Q () st'):wpS (VB prog w) A E s sortRuns' Q st:=by
 rw[sortRuns'_eq];refine VJ (wpS_get ?_);dsimp only
 have hmr:minRun' a₀.size a₀.size 0=a₀.size:=by
  obtain⟨f,hf⟩:∃ f,a₀.size=f+1:=⟨a₀.size - 1,by omega⟩
  have:minRun' (f+1) a₀.size 0=a₀.size:=by rw[minRun'_succ,iP h64];rfl
  rwa [<-hf]at this
 simp only[hB.size,hmr]
 refine VJ (X1 (Vs
  (I:=fun x c st'=>(x=0/\c=(none,0)/\SBase a₀ st')\/(1<=x/\c=(none,a₀.size)/\FP a₀ st'))
  (Q:=fun c st'=>c=(none,a₀.size)/\FP a₀ st') ?step ?fin (.inl ⟨rfl,rfl,hB⟩)) ?post)
 case fin=>
  rintro c st' (⟨hx,_,_⟩ | ⟨_,hc,hD⟩)
  ·omega
  ·exact⟨hc,hD⟩
 case step=>
  rintro x c st' _ hx (⟨rfl,rfl,hB'⟩ | ⟨hx1,rfl,hD⟩)
  ·dsimp only;rw[iG (by omega)];simp only[Nat.sub_zero,Nat.min_self,UW];refine VJ (Cs hO (RE _) (by omega) hB' fun m st2 hB2 hm1 hm2=>?_);dsimp only;by_cases hlt:m<a₀.size
   ·rw[iP hlt];refine VJ (wpS_lift (Vk ⟨rfl,?_⟩));refine VJ (Bw hO (RE _) hB2 fun st3 hB3=>?_);simp only[Uq,SU,if_false];refine VJ (wpS_get ?_);have hb:(WZ st3).back?=none:=by rw[hB3.pend];rfl
    rw[hb];dsimp only;exact VJ (X2 (VQ (.inr ⟨by omega,rfl,Ml hB3⟩)))
   ·rw[iG hlt];have hm:m=a₀.size:=by omega
    subst hm;refine VJ (wpS_get ?_);have hb:(WZ st2).back?=none:=by rw[hB2.pend];rfl
    rw[hb];dsimp only;exact VJ (X2 (VQ (.inr ⟨by omega,rfl,Ml hB2⟩)))
  ·dsimp only;rw[iP (RE _)];exact VQ ⟨rfl,hD⟩
 case post=>
  rintro c st' ⟨rfl,hD⟩;dsimp only;refine VJ (X1 (Vs (I:=fun _ c st''=>st''=st'/\c=(none,())) (Q:=fun c st''=>st''=st'/\c=(none,())) ?_ (fun _ _ hh=>hh) ⟨rfl,rfl⟩) ?_)
  ·rintro x c st'' _ _ ⟨rfl,rfl⟩;refine VJ (wpS_get ?_);rw[iP (by rw[hD.2.2];exact RE 1)];exact VQ ⟨rfl,rfl⟩
  ·rintro c st'' ⟨rfl,rfl⟩;exact VQ (h _ hD.1 hD.2.1)
end
section
variable{X:Cx}
theorem Po:VE "any"=some (.builtin "any"):=by decide +kernel
theorem Hl(hc:X.calm=true):CallR X (.builtin "any") (fun xs H Q=>∃(a:V7) (bs:List Bool),xs=[.ref a]/\SqL X.K H a (bs.map V.bl)/\Q (.bl (bs.any id)) H):=by
 intro pq s σ H xs us Q I r h;obtain⟨a,bs,rfl,hq,q⟩:=h;obtain⟨u,rfl,ru⟩:=w6 r;cases ru;obtain⟨its,rv,pl,hz⟩:=I.list hq;have hl:=rv.length;rw[RC]at hl;refine call_any_walk (W0 pl.isList ?_);have hlt:a<s.heap.objs.size:=by obtain⟨o,n,e,_⟩:=pl;exact RN e
 refine⟨s.heap.objs.size,_,_,_,_,_,fun i=>bs.getD i false,rfl,Walks.list (by exact I.ok.hd hc) s.heap.objs.size a (Ro hlt) its.toArray,⟨⟨_,RY _ rfl,rfl,rfl⟩,pl.isList.push _⟩,?_,fun h' tk hk=>?_⟩
 ·intro i v s' Q' E' hv hQ';have hv':its[i]?=some v:=by simpa using hv
  have hi:i<its.length:=(gM hv').1;have hb:(bs.map V.bl)[i]?=some (.bl (bs[i]'(by omega))):=by simp
  obtain⟨u',eu,ru'⟩:=rv.get hb;rw[hv']at eu;cases eu;cases ru';have hg:bs.getD i false=bs[i]'(by omega):=by simp[TN,show i<bs.length by omega]
  have hQ2:Q' (bs.getD i false) s':=hQ';rw[hg]at hQ2;exact VN hQ2
 ·have I1:Inv X pq σ H {s with heap:=h',toks:=tk}:=I.kept fun b o e=>hk b o (by simp;exact Ro (RN e)) (RJ _ e);refine⟨.bl _,H,I1,rfl,?_⟩
  have e:(RL its.toArray.size).any (fun i=>bs.getD i false)=bs.any id:=by
   rw[RF,<-hl,Rx,Sh,Sh];constructor
   ·rintro⟨j,hj,e⟩;have hj1:j<bs.length:=Rq.mp hj;exact⟨bs[j],Rv hj1,by simpa[TN,hj1] using e⟩
   ·rintro⟨b,hb,e⟩;obtain⟨j,hj,e2⟩:=TK.mp hb;exact⟨j,Rq.mpr hj,by simpa[TN,hj,e2] using e⟩
  rw[e];exact q
end
end L2
namespace Rf
open PySem L2
noncomputable abbrev QE:=SV->Sto->Prop
noncomputable abbrev WE:=EnvS->Sto->QE->Prop
noncomputable abbrev WA:=EnvS->Sto->(List SV->Sto->Prop)->Prop
noncomputable abbrev WT:=EnvS->Sto->(Bool->Sto->Prop)->Prop
noncomputable def Post(K:R8)(as:List V7)(H:Hp)(Q:VK):QE:=fun x S'=>∀ as' H' v,Go as H as' H'->Ok K as' H' S'->Rl K as' H' v x->Q v H'
noncomputable def Pp(K:R8)(as:List V7)(H:Hp)(Q:List V->Hp->Prop):List SV->Sto->Prop:=fun xs S'=>∀ as' H' vs,Go as H as' H'->Ok K as' H' S'->RlAll K as' H' vs xs->Q vs H'
noncomputable def PostT(K:R8)(as:List V7)(H:Hp)(Q:Bool->Hp->Prop):Bool->Sto->Prop:=fun b S'=>∀ as' H',Go as H as' H'->Ok K as' H' S'->Q b H'
noncomputable def lift(K:R8)(w:WE):TE:=fun σ H Q=>∃ as ρ S,Ok K as H S/\EnvOk K as H σ ρ/\w ρ S (Post K as H Q)
noncomputable def liftA(K:R8)(w:WA):TA:=fun σ H Q=>∃ as ρ S,Ok K as H S/\EnvOk K as H σ ρ/\w ρ S (Pp K as H Q)
noncomputable def liftT(K:R8)(w:WT):TT:=fun σ H Q=>∃ as ρ S,Ok K as H S/\EnvOk K as H σ ρ/\w ρ S (PostT K as H Q)
noncomputable def Mono(w:WE):Prop:=∀ ρ S (P P':QE),(∀ x S',P x S'->P' x S')->w ρ S P->w ρ S P'
noncomputable def MonoA(w:WA):Prop:=∀ ρ S (P P':List SV->Sto->Prop),(∀ x S',P x S'->P' x S')->w ρ S P->w ρ S P'
noncomputable def MonoT(w:WT):Prop:=∀ ρ S (P P':Bool->Sto->Prop),(∀ x S',P x S'->P' x S')->w ρ S P->w ρ S P'
theorem c9{X:Cx}{e:Expr}{t:TE}(t':TE)(h:PE X e t)(imp:∀ σ H Q,t' σ H Q->t σ H Q):PE X e t':=fun pq s σ H Q I hw=>h pq s σ H Q I (imp σ H Q hw)
theorem Bb{X:Cx}{e:Expr}{t:TT}(t':TT)(h:PT X e t)(imp:∀ σ H Q,t' σ H Q->t σ H Q):PT X e t':=fun pq s σ H Q I hw=>h pq s σ H Q I (imp σ H Q hw)
theorem JD{X:Cx}{e:List Expr}{t:TA}(t':TA)(h:PA X e t)(imp:∀ σ H Q,t' σ H Q->t σ H Q):PA X e t':=fun p pq s σ H Q I hw=>h p pq s σ H Q I (imp σ H Q hw)
section
variable{K:R8}{as as1 as2:List V7}{H H1 H2:Hp}
theorem Post.mono{Q:VK}{x:SV}{S:Sto}(h:Post K as H Q x S)(g:Go as H as1 H1):Post K as1 H1 Q x S:=fun as' H' v g'=>h as' H' v (g.trans g')
end
noncomputable abbrev S2:=SV->SV->Sto->QE->Prop
noncomputable abbrev S1:=SV->Sto->QE->Prop
noncomputable abbrev Sn:=List SV->Sto->QE->Prop
noncomputable def w2(s:S2)(a b:WE):WE:=fun ρ S Q=>a ρ S fun x S1=>b ρ S1 fun y S2=>s x y S2 Q
noncomputable def w1(s:S1)(a:WE):WE:=fun ρ S Q=>a ρ S fun x S1=>s x S1 Q
noncomputable def wn(s:Sn)(a:WA):WE:=fun ρ S Q=>a ρ S fun xs S1=>s xs S1 Q
noncomputable def Mono2(s:S2):Prop:=∀ x y S (P P':QE),(∀ x S',P x S'->P' x S')->s x y S P->s x y S P'
noncomputable def EG(s:S1):Prop:=∀ x S (P P':QE),(∀ x S',P x S'->P' x S')->s x S P->s x S P'
noncomputable def MonoN(s:Sn):Prop:=∀ x S (P P':QE),(∀ x S',P x S'->P' x S')->s x S P->s x S P'
theorem Mono.two{s:S2}{a b:WE}(hs:Mono2 s)(ha:Mono a)(hb:Mono b):Mono (w2 s a b):=fun ρ S P P' i h=>ha _ _ _ _ (fun _ _ h=>hb _ _ _ _ (fun _ _ h=>hs _ _ _ _ _ i h) h) h
theorem Mono.one{s:S1}{a:WE}(hs:EG s)(ha:Mono a):Mono (w1 s a):=fun ρ S P P' i h=>ha _ _ _ _ (fun _ _ h=>hs _ _ _ _ i h) h
theorem Mono.n{s:Sn}{a:WA}(hs:MonoN s)(ha:MonoA a):Mono (wn s a):=fun ρ S P P' i h=>ha _ _ _ _ (fun _ _ h=>hs _ _ _ _ i h) h
noncomputable def B6(K:R8)(s:S2)(r:R2):Prop:=∀ as H S x y v u Q,Ok K as H S->Rl K as H v x->Rl K as H u y->s x y S (Post K as H Q)->r v u H Q
noncomputable def Qm(K:R8)(s:S1)(r:V->Hp->VK->Prop):Prop:=∀ as H S x v Q,Ok K as H S->Rl K as H v x->s x S (Post K as H Q)->r v H Q
noncomputable def Pq(K:R8)(s:Sn)(r:List V->Hp->VK->Prop):Prop:=∀ as H S xs vs Q,Ok K as H S->RlAll K as H vs xs->s xs S (Post K as H Q)->r vs H Q
theorem A9{K:R8}{s:S2}{r:R2}{wa wb:WE}(sim:B6 K s r)(ms:Mono2 s)(ma:Mono wa)(mb:Mono wb):∀ σ H Q,lift K (w2 s wa wb) σ H Q->tOp r (lift K wa) (lift K wb) σ H Q:=by
 rintro σ H Q ⟨as,ρ,S,ok,en,h⟩;refine⟨as,ρ,S,ok,en,ma _ _ _ _ (fun x S1 hb as1 H1 v g1 ok1 rv=>?_) h⟩;refine⟨as1,ρ,S1,ok1,en.mono g1.pre (g1.ku ok),mb _ _ _ _ (fun y S2 hs as2 H2 u g2 ok2 ru=>?_) hb⟩;exact sim as2 H2 S2 x y v u Q ok2 (Rl.mono g2.pre (g2.ku ok1) x v rv) ru (ms _ _ _ _ _ (fun z S3 hz=>hz.mono (g1.trans g2)) hs)
theorem No{K:R8}{s:S1}{r:V->Hp->VK->Prop}{wa:WE}(sim:Qm K s r)(ms:EG s)(ma:Mono wa):∀ σ H Q,lift K (w1 s wa) σ H Q->tUn r (lift K wa) σ H Q:=by
 rintro σ H Q ⟨as,ρ,S,ok,en,h⟩;refine⟨as,ρ,S,ok,en,ma _ _ _ _ (fun x S1 hs as1 H1 v g1 ok1 rv=>?_) h⟩;exact sim as1 H1 S1 x v Q ok1 rv (ms _ _ _ _ (fun z S3 hz=>hz.mono g1) hs)
theorem Pr{K:R8}{s:Sn}{r:List V->Hp->VK->Prop}{wa:WA}(sim:Pq K s r)(ms:MonoN s)(ma:MonoA wa):∀ σ H Q,lift K (wn s wa) σ H Q->tCB r (liftA K wa) σ H Q:=by
 rintro σ H Q ⟨as,ρ,S,ok,en,h⟩;refine⟨as,ρ,S,ok,en,ma _ _ _ _ (fun x S1 hs as1 H1 v g1 ok1 rv=>?_) h⟩;exact sim as1 H1 S1 x v Q ok1 rv (ms _ _ _ _ (fun z S3 hz=>hz.mono g1) hs)
noncomputable def DD:WA:=fun _ S Q=>Q [] S
noncomputable def CM(a:WE)(b:WA):WA:=fun ρ S Q=>a ρ S fun x S1=>b ρ S1 fun xs S2=>Q (x::xs) S2
theorem MonoA.nil:MonoA DD:=fun _ _ _ _ i h=>i _ _ h
theorem MonoA.cons{a:WE}{b:WA}(ha:Mono a)(hb:MonoA b):MonoA (CM a b):=fun _ _ _ _ i h=>ha _ _ _ _ (fun _ _ h=>hb _ _ _ _ (fun _ _ h=>i _ _ h) h) h
theorem LL{X:Cx}{K:R8}:PA X [] (liftA K DD):=JD _ AD fun σ H Q ⟨as,ρ,S,ok,en,h⟩=>h as H [] (Go.refl _ _) ok .nil
theorem JE{K:R8}{a:WE}{b:WA}(ma:Mono a)(mb:MonoA b):∀ σ H Q,liftA K (CM a b) σ H Q->E4 (lift K a) (liftA K b) σ H Q:=by
 rintro σ H Q ⟨as,ρ,S,ok,en,h⟩;refine⟨as,ρ,S,ok,en,ma _ _ _ _ (fun x S1 hs as1 H1 v g1 ok1 rv=>?_) h⟩;refine⟨as1,ρ,S1,ok1,en.mono g1.pre (g1.ku ok),mb _ _ _ _ (fun xs S2 hq as2 H2 vs g2 ok2 rs=>?_) hs⟩;exact hq as2 H2 _ (g1.trans g2) ok2 (.cons (Rl.mono g2.pre (g2.ku ok1) x v rv) rs)
theorem JF{X:Cx}{K:R8}{e:Expr}{es:List Expr}{a:WE}{b:WA}(ma:Mono a)(mb:MonoA b)(h1:PE X e (lift K a))(h2:PA X es (liftA K b))(hs:VF (e::es) X.env=(false,eval e X.env)::VF es X.env):PA X (e::es) (liftA K (CM a b)):=JD _ (m9 h1 h2 hs) (JE ma mb)
noncomputable def Np(i:Nat):WE:=fun ρ S Q=>∃ x,ρ[i]?=some (some x)/\Q x S
noncomputable def wC(x:SV):WE:=fun _ S Q=>Q x S
theorem Mono.var{i:Nat}:Mono (Np i):=fun _ _ _ _ i ⟨x,a,b⟩=>⟨x,a,i _ _ b⟩
theorem Mono.c{x:SV}:Mono (wC x):=fun _ _ _ _ i h=>i _ _ h
theorem LM{K:R8}{i:Nat}:∀ σ H Q,lift K (Np i) σ H Q->Ko i σ H Q:=fun σ H Q ⟨as,ρ,S,ok,en,x,e,h⟩=>let ⟨v,ev,rv⟩:=en.2 i x e;⟨v,ev,h as H v (Go.refl _ _) ok rv⟩
theorem EH{K:R8}{x:SV}{v:V}(hx:∀ as H,Rl K as H v x):∀ σ H Q,lift K (wC x) σ H Q->tC v σ H Q:=fun σ H Q ⟨as,ρ,S,ok,en,h⟩=>h as H v (Go.refl _ _) ok (hx as H)
noncomputable def big:Nat:=100000
theorem At{n:Nat}(h:n<=big):n<=V9:=Rn h (by decide)
theorem Bc{n:Nat}(h:n<big):n<V9:=Ra h (by decide)
noncomputable def LN:Sn:=fun xs S Q=>xs.length<=big/\Q (.tup xs) S
noncomputable def LO:Sn:=fun xs S Q=>xs.length<=big/\Q (.loc S.length) (S++[.lst xs])
theorem MonoN.tup:MonoN LN:=fun _ _ _ _ i h=>⟨h.1,i _ _ h.2⟩
theorem MonoN.lst:MonoN LO:=fun _ _ _ _ i h=>⟨h.1,i _ _ h.2⟩
theorem Nq{K:R8}{as:List V7}{H:Hp}{S:Sto}{p:V7}(ok:Ok K as H S):Rl K (as++[p]) (upd H p (.lst vs)) (.ref p) (.loc S.length):=rl_loc.mpr ⟨p,by rw[<-ok.len,Rp],rfl⟩
theorem v8{K:R8}{as:List V7}{H:Hp}{S:Sto}{Q:VK}{xs:List SV}{vs:List V}(ok:Ok K as H S)(r:RlAll K as H vs xs)(h:Post K as H Q (.loc S.length) (S++[.lst xs])):∀ p,H p=none->Q (.ref p) (upd H p (.lst vs)):=fun p hp=>
 h (as++[p]) _ (.ref p) (Go.push hp) (ok.push hp r) (Nq ok)
theorem BG{K:R8}{as:List V7}{H:Hp}{S:Sto}{Q:VK}{xs:List SV}{vs:List V}(ok:Ok K as H S)(r:RlAll K as H vs xs)(h:Post K as H Q (.tup xs) S):∀ p,H p=none->Q (.ref p) (upd H p (.tup vs)):=fun p hp=>
 h as _ (.ref p) (Go.new hp) (ok.new hp) (rl_tup.mpr ⟨p,vs,rfl,e6,RlAll.mono (Rh _) (AM hp) xs vs r⟩)
theorem LP{K:R8}{wa:WA}(ma:MonoA wa):∀ σ H Q,lift K (wn LN wa) σ H Q->PV (liftA K wa) σ H Q:=by
 rintro σ H Q ⟨as,ρ,S,ok,en,h⟩;refine⟨as,ρ,S,ok,en,ma _ _ _ _ (fun xs S1 hs as1 H1 vs g1 ok1 rv=>?_) h⟩;exact⟨by rw[rv.length];exact At hs.1,BG ok1 rv (hs.2.mono g1)⟩
theorem LQ{K:R8}{wa:WA}(ma:MonoA wa):∀ σ H Q,lift K (wn LO wa) σ H Q->PX (liftA K wa) σ H Q:=by
 rintro σ H Q ⟨as,ρ,S,ok,en,h⟩;refine⟨as,ρ,S,ok,en,ma _ _ _ _ (fun xs S1 hs as1 H1 vs g1 ok1 rv=>?_) h⟩;exact⟨by rw[rv.length];exact At hs.1,v8 ok1 rv (hs.2.mono g1)⟩
end Rf
namespace L2
open PySem PySem.Spec PyProof.Rows
section
variable{prog:VC}{w:VG}{A:VM}{E:V4->V6->Prop}{s:V6}
theorem SetX.kind{h:Heap}{a:V7}{L:List Int}(x:SetX prog w h a L):h.SetOf (intKind prog w) a (fun k=>decide (k∈L)) L.length:=by
 obtain⟨o,es,ep,t,ho,hx,hd,hel,hb,hf,hT,hp⟩:=x;refine⟨o,es,ep,t,ho,hx,hd,hel,fun k=>?_,hb,hf,by rw[<-hp.length_eq];simp⟩;rw[dQ,<-hp.mem_iff,SC];constructor
 ·rintro⟨e,he,rfl⟩;obtain⟨⟨k,hk,_⟩,_⟩:=hel e he;exact⟨e,he,by rw[GK hk];exact hk⟩
 ·rintro⟨e,he,hk⟩;exact⟨e,he,GK hk⟩
end
section
variable{X:Cx}
noncomputable def GL(ns:List Int):List Int:=firstMet (fun i=>ns.getD i 0) ns.length
theorem JG(ns:List Int)(k:Int):k∈GL ns↔k∈ns:=by
 have e:=firstMet_any (fun i=>ns.getD i 0) ns.length k
 have e2:(RL ns.length).map (fun i=>ns.getD i 0)=ns:=by
  apply Tn
  ·simp
  ·intro i h1 h2;simp[RB h2]
 rw[e2]at e;have h1:(GL ns).any (· == k)=true↔k∈GL ns:=by simp
 have h2:ns.any (· == k)=true↔k∈ns:=by simp
 rw[<-h1,<-h2];unfold GL;rw[e]
theorem JH:OpR X (VL .In) (fun x y H Q=>∃(k:Int) (p:V7) (S:Int->Bool) (n:Nat),x = .int k/\y = .ref p/\H p=some (.set S n)/\Q (.bl (S k)) H):=by
 intro pq s σ H x y v u Q I rx ry h;obtain⟨k,p,S,n,rfl,rfl,hp,q⟩:=h;obtain⟨t,rfl⟩:=rx;cases ry;have hS:s.heap.SetOf (intKind X.prog X.w) p S n:=I.hok p _ hp;exact wpAny_inSet_of (k:=k) (intKind_is _ _ _ _) rfl hS ⟨.bl _,H,I.tok _,rfl,q⟩
end
theorem Vals.rev:∀{xs:List V} {us:List V4},Vals xs us->Vals xs.reverse us.reverse
 | _,_,.nil => .nil
 | _,_,.cons r rr=>by
   rw[Sr,Sr];exact(Vals.rev rr).append (.cons r .nil)
end L2
namespace Rf
open PySem L2
noncomputable def y1:SV->Bool
 | .non=>true | .bl _=>true | .int _=>true | .str _=>true | _=>false
noncomputable def toV:SV->V
 | .non => .non | .bl b => .bl b | .int i => .int i | .str x => .str x | _ => .non
noncomputable def eqF:SV->SV->Bool
 | .non,.non=>true
 | .bl a,.bl b=>a == b
 | .bl a,.int b=>(if a then 1 else 0) == b
 | .int a,.bl b=>a == (if b then 1 else 0)
 | .int a,.int b=>a == b
 | .str a,.str b=>a == b
 | _,_=>false
noncomputable def Cu(xs ys:List SV):Bool:=xs.length == ys.length&&(xs.zip ys).all fun p=>eqF p.1 p.2
noncomputable def inS(x:SV)(xs:List SV):Bool:=xs.any fun y=>eqF y x
section
variable{K:R8}{as:List V7}{H:Hp}
theorem GM{x:SV}{v:V}(f:y1 x=true)(r:Rl K as H v x):v=toV x:=by
 cases x with
 | non=>exact rl_non.mp r
 | bl _=>exact rl_bl.mp r
 | int _=>exact rl_int.mp r
 | str _=>exact rl_str.mp r
 | _=>cases f
theorem AN:∀{xs:List SV} {vs:List V},xs.all y1=true->RlAll K as H vs xs->vs=xs.map toV
 | [],_,_,r=>rla_nil.mp r
 | x::xs,_,f,r=>by
   rw[SF,RA]at f;obtain⟨v,vs,rfl,r1,r2⟩:=rla_cons.mp r;rw[GM f.1 r1,AN f.2 r2];rfl
theorem EI{x:SV}(f:y1 x=true):u8 (toV x)=true:=by cases x<;>first | rfl | cases f
theorem Bd{xs:List SV}(f:xs.all y1=true):(xs.map toV).all u8=true:=by
 rw[RX]at f ⊢;intro v hv;obtain⟨x,hx,rfl⟩:=SC.mp hv;exact EI (f x hx)
theorem DY{x y:SV}(fx:y1 x=true)(fy:y1 y=true):eqV (toV x) (toV y)=eqF x y:=by
 cases x<;>first | cases fx;done | (cases y<;>first | rfl | cases fy)
theorem Nr{x:SV}{xs:List SV}(fx:y1 x=true)(f:xs.all y1=true):inV (toV x) (xs.map toV)=inS x xs:=by
 unfold inV inS;rw[List.any_map];rw[RX]at f;rw[Rx,Sh,Sh];constructor
 ·rintro⟨y,hy,e⟩;exact⟨y,hy,by rw[<-DY (f y hy) fx];exact e⟩
 ·rintro⟨y,hy,e⟩;exact⟨y,hy,by show eqV (toV y) (toV x)=true;rw[DY (f y hy) fx];exact e⟩
theorem LR:∀{xs ys:List SV},xs.all y1=true->ys.all y1=true->AI (xs.map toV) (ys.map toV)=Cu xs ys:=by
 intro xs ys fx fy;unfold AI Cu;rw[RC,RC,List.zip_map,Uy]
 congr 1
 rw[Rx,RX,RX];rw[RX]at fx fy;constructor
 ·rintro h ⟨a,b⟩ hm;have:=h (a,b) hm;rw[<-DY (fx a (Se hm).1) (fy b (Se hm).2)];exact this
 ·rintro h ⟨a,b⟩ hm;have:=h (a,b) hm;show eqV (toV a) (toV b)=true;rw[DY (fx a (Se hm).1) (fy b (Se hm).2)];exact this
noncomputable def seqS:SV->Sto->Option (List SV)
 | .tup xs,_=>some xs
 | .ro xs,_=>some xs
 | .loc k,S=>match S[k]? with | some (.lst xs)=>some xs | _=>none
 | _,_=>none
theorem DZ{x:SV}{v:V}{S:Sto}{xs:List SV}(ok:Ok K as H S)(r:Rl K as H v x)(h:seqS x S=some xs):∃ a vs,v = .ref a/\(SqL K H a vs\/SqT K H a vs)/\RlAll K as H vs xs:=by
 cases x with
 | tup ys=>
   cases h;obtain⟨p,vs,rfl,hp,rr⟩:=rl_tup.mp r;exact⟨p,vs,rfl,.inr (SqT.of hp),rr⟩
 | ro ys=>
   cases h;obtain⟨p,vs,rfl,hp,rr⟩:=rl_ro.mp r;exact⟨p,vs,rfl,.inl hp.sq,rr⟩
 | loc k=>
   obtain⟨a,ea,rfl⟩:=rl_loc.mp r;unfold seqS at h;cases hs:S[k]? with
   | none=>simp only[hs]at h;cases h
   | some o=>
     cases o with
     | lst ys=>
       simp only[hs]at h;cases h;obtain⟨vs,h1,rr⟩:=ok.obj k _ a hs ea;exact⟨a,vs,rfl,.inl (SqL.of h1),rr⟩
     | iset _=>simp only[hs]at h;cases h
     | dct _=>simp only[hs]at h;cases h
     | dcf _ _ _=>simp only[hs]at h;cases h
 | _=>cases h
theorem j3{k:Nat}{v:V}{S:Sto}{xs:List SV}(ok:Ok K as H S)(r:Rl K as H v (.loc k))(h:S[k]?=some (.lst xs)):∃ a vs,v = .ref a/\as[k]?=some a/\H a=some (.lst vs)/\RlAll K as H vs xs:=by
 obtain⟨a,ea,rfl⟩:=rl_loc.mp r;obtain⟨vs,h1,rr⟩:=ok.obj k _ a h ea;exact⟨a,vs,rfl,ea,h1,rr⟩
end
noncomputable def JI:S2
 | .int i,.int j,S,Q=>Q (.int (i+j)) S
 | .loc k,.loc l,S,Q=>∃ xs ys,S[k]?=some (.lst xs)/\S[l]?=some (.lst ys)/\xs.length+ys.length<=big/\Q (.loc S.length) (S++[.lst (xs++ys)])
 | _,_,_,_=>False
noncomputable def FQ(C:Int->Int->Prop)(g:Int->Int->SV):S2
 | .int i,.int j,S,Q=>C i j/\Q (g i j) S
 | _,_,_,_=>False
noncomputable def BH(g:Int->Int->SV):S2
 | .int i,.int j,S,Q=>Q (g i j) S
 | _,_,_,_=>False
noncomputable def JJ:S2
 | .int i,.int j,S,Q=>CMul i j/\Q (.int (i * j)) S
 | .loc k,.int j,S,Q=>∃ xs,S[k]?=some (.lst xs)/\(-1000000<j/\j<1000000)/\xs.length * j.toNat<=big/\Q (.loc S.length) (S++[.lst (Rc j.toNat xs).flatten])
 | _,_,_,_=>False
theorem Mono2.add:Mono2 JI:=fun x y S P P' i h=>by
 unfold JI at h ⊢
 split at h<;>first
  | exact i _ _ h
  | exact⟨h.1,i _ _ h.2⟩
  | (obtain⟨xs,ys,a,b,c,d⟩:=h;exact⟨xs,ys,a,b,c,i _ _ d⟩)
  | exact h.elim
theorem Mono2.int{C:Int->Int->Prop}{g:Int->Int->SV}:Mono2 (FQ C g):=fun x y S P P' i h=>by
 unfold FQ at h ⊢;split at h
 ·exact⟨h.1,i _ _ h.2⟩
 ·exact h.elim
theorem Mono2.int0{g:Int->Int->SV}:Mono2 (BH g):=fun x y S P P' i h=>by
 unfold BH at h ⊢;split at h
 ·exact i _ _ h
 ·exact h.elim
theorem Mono2.mul:Mono2 JJ:=fun x y S P P' i h=>by
 unfold JJ at h ⊢;split at h
 ·exact⟨h.1,i _ _ h.2⟩
 ·obtain⟨xs,a,b,c,d⟩:=h;exact⟨xs,a,b,c,i _ _ d⟩
 ·exact h.elim
section
variable{K:R8}
theorem Post.here{as:List V7}{H:Hp}{Q:VK}{x:SV}{S:Sto}{v:V}(h:Post K as H Q x S)(ok:Ok K as H S)(r:Rl K as H v x):Q v H:=h as H v (Go.refl _ _) ok r
theorem Da{C:Int->Int->Prop}{g:Int->Int->SV}{g':Int->Int->V}(hg:∀ as H i j,Rl K as H (g' i j) (g i j)):B6 K (FQ C g) (rI C g'):=fun as H S x y v u Q ok rx ry h=>by
 unfold FQ at h;split at h
 ·rw[rl_int]at rx ry;exact⟨_,_,rx,ry,h.1,h.2.here ok (hg _ _ _ _)⟩
 ·exact h.elim
theorem Au{g:Int->Int->SV}{g':Int->Int->V}(hg:∀ as H i j,Rl K as H (g' i j) (g i j)):B6 K (BH g) (rI0 g'):=fun as H S x y v u Q ok rx ry h=>by
 unfold BH at h;split at h
 ·rw[rl_int]at rx ry;exact⟨_,_,rx,ry,h.here ok (hg _ _ _ _)⟩
 ·exact h.elim
noncomputable def Ps(K:R8):R2:=fun x y H Q=>(rI0 fun i j => .int (i+j)) x y H Q\/Pg x y H Q
theorem LS{X:Cx}:OpR X (Vi .Add) (Ps X.K):=op_add.or Nd
theorem LU:B6 K JI (Ps K):=fun as H S x y v u Q ok rx ry h=>by
 unfold JI at h;split at h
 ·rw[rl_int]at rx ry;exact .inl ⟨_,_,rx,ry,h.here ok (rl_int.mpr rfl)⟩
 ·obtain⟨xs,ys,h1,h2,h3,h4⟩:=h;obtain⟨a,vs,rfl,_,ha,ra⟩:=j3 ok rx h1;obtain⟨b,us,rfl,_,hb,rb⟩:=j3 ok ry h2;exact(.inr (⟨a,b,vs,us,rfl,rfl,ha,hb,by rw[ra.length,rb.length];exact At h3,v8 ok (ra.append rb) h4⟩))
 ·exact h.elim
theorem RlAll.rep{as:List V7}{H:Hp}{vs:List V}{xs:List SV}(h:RlAll K as H vs xs):∀ n,RlAll K as H (Rc n vs).flatten (Rc n xs).flatten
 | 0=>by simpa using RlAll.nil
 | n+1=>by
   rw[SD,SD,Rj,Rj];exact h.append (RlAll.rep h n)
theorem LV:B6 K JJ (fun x y H Q=>(rI CMul fun i j => .int (i * j)) x y H Q\/Ph x y H Q):=fun as H S x y v u Q ok rx ry h=>by
 unfold JJ at h;split at h
 ·rw[rl_int]at rx ry;exact .inl ⟨_,_,rx,ry,h.1,h.2.here ok (rl_int.mpr rfl)⟩
 ·rename_i k j;obtain⟨xs,h1,h2,h3,h4⟩:=h;obtain⟨a,vs,rfl,_,ha,ra⟩:=j3 ok rx h1;rw[rl_int]at ry;subst ry;exact .inr (⟨a,j,vs,rfl,rfl,ha,by omega,by omega,by rw[ra.length];exact At h3,v8 ok (ra.rep _) h4⟩)
 ·exact h.elim
end
noncomputable def scS:SV->SV->Option Bool
 | .int i,.int j=>some (decide (i=j))
 | .bl i,.bl j=>some (decide (i=j))
 | .str i,.str j=>some (decide (i=j))
 | .non,.non=>some true
 | .non,.int _=>some false | .int _,.non=>some false | .non,.bl _=>some false | .bl _,.non=>some false | .non,.str _=>some false | .str _,.non=>some false
 | .int _,.str _=>some false | .str _,.int _=>some false | .bl _,.str _=>some false | .str _,.bl _=>some false
 | _,_=>none
noncomputable def FR:SV->SV->Sto->(Bool->Prop)->Prop
 | .loc k,.loc l,S,Q=>∃ xs ys,S[k]?=some (.lst xs)/\S[l]?=some (.lst ys)/\((xs.all y1=true/\ys.all y1=true)\/xs=[]\/ys=[])/\Q (Cu xs ys)
 | _,_,_,_=>False
noncomputable def sEq:S2:=fun x y S Q=>match scS x y with | some b=>Q (.bl b) S | none=>FR x y S fun b=>Q (.bl b) S
noncomputable def sNe:S2:=fun x y S Q=>match scS x y with | some b=>Q (.bl (!b)) S | none=>FR x y S fun b=>Q (.bl (!b)) S
noncomputable def JK:SV->Sto->Option (List Int)
 | .loc k,S=>match S[k]? with | some (.iset ms)=>some ms | _=>none
 | _,_=>none
noncomputable def sIn(neg:Bool):S2:=fun x y S Q=>match JK y S with
 | some ms=>∃ i,x = .int i/\neg=false/\Q (.bl (decide (i∈ms))) S
 | none=>y1 x=true/\∃ ys,seqS y S=some ys/\ys.all y1=true/\Q (.bl (if neg then !inS x ys else inS x ys)) S
noncomputable def JL:SV->Bool
 | .non=>true
 | _=>false
noncomputable def JM(neg:Bool):S2:=fun x y S Q=>(y = .non/\Q (.bl (if neg then !JL x else JL x)) S)\/∃ c d,neg=true/\x = .bl c/\y = .bl d/\Q (.bl (c != d)) S
theorem DE{x y:SV}{S:Sto}{P P':Bool->Prop}(i:∀ b,P b->P' b)(h:FR x y S P):FR x y S P':=by
 unfold FR at h ⊢;split at h
 ·obtain⟨xs,ys,a,b,c,d⟩:=h;exact⟨xs,ys,a,b,c,i _ d⟩
 ·exact h.elim
theorem Mono2.eq:Mono2 sEq:=fun x y S P P' i h=>by
 unfold sEq at h ⊢;split at h
 ·exact i _ _ h
 ·exact DE (fun _=>i _ _) h
theorem Mono2.ne:Mono2 sNe:=fun x y S P P' i h=>by
 unfold sNe at h ⊢;split at h
 ·exact i _ _ h
 ·exact DE (fun _=>i _ _) h
theorem Mono2.in'{n:Bool}:Mono2 (sIn n):=fun x y S P P' i h=>by
 unfold sIn at h ⊢;split at h
 ·obtain⟨j,e,z,h⟩:=h;exact⟨j,e,z,i _ _ h⟩
 ·obtain⟨f,ys,a,b,h⟩:=h;exact⟨f,ys,a,b,i _ _ h⟩
theorem Mono2.isN{n:Bool}:Mono2 (JM n):=fun x y S P P' i h=>h.imp (fun h=>⟨h.1,i _ _ h.2⟩) fun⟨c,d,z,a,b,h⟩=>⟨c,d,z,a,b,i _ _ h⟩
section
variable{K:R8}
theorem JN{as:List V7}{H:Hp}{x y:SV}{v u:V}{b:Bool}(e:scS x y=some b)(rx:Rl K as H v x)(ry:Rl K as H u y):NS v u=true/\decide (v=u)=b:=by
 cases x<;>first | (unfold scS at e;cases e;done) | (cases y<;>first | (unfold scS at e;cases e;done) | (simp only[rl_non,rl_bl,rl_int,rl_str]at rx ry;subst rx ry;unfold scS at e;injection e with e;subst e;exact⟨rfl,by simp⟩))
theorem GN{as:List V7}{H:Hp}{S:Sto}{x y:SV}{v u:V}{Q:Bool->Prop}(ok:Ok K as H S)(rx:Rl K as H v x)(ry:Rl K as H u y)(h:FR x y S Q):∃ a b xs ys,v = .ref a/\u = .ref b/\SqL K H a xs/\SqL K H b ys/\((xs.all u8=true/\ys.all u8=true)\/xs=[]\/ys=[])/\Q (AI xs ys):=by
 unfold FR at h;split at h
 ·obtain⟨xs,ys,h1,h2,h3,h4⟩:=h;obtain⟨a,vs,rfl,_,ha,ra⟩:=j3 ok rx h1;obtain⟨b,us,rfl,_,hb,rb⟩:=j3 ok ry h2;refine⟨a,b,vs,us,rfl,rfl,SqL.of ha,SqL.of hb,?_,?_⟩
  ·rcases h3 with⟨f1,f2⟩ | h3 | h3
   ·rw[AN f1 ra,AN f2 rb];exact .inl ⟨Bd f1,Bd f2⟩
   ·subst h3;exact .inr (.inl (rla_nil.mp ra))
   ·subst h3;exact .inr (.inr (rla_nil.mp rb))
  ·have e:AI vs us=Cu xs ys:=by
    rcases h3 with⟨f1,f2⟩ | h3 | h3
    ·rw[AN f1 ra,AN f2 rb,LR f1 f2]
    ·subst h3;have:=rla_nil.mp ra;subst this;have l:=rb.length;unfold AI Cu;simp[l]
    ·subst h3;have:=rla_nil.mp rb;subst this;have l:=ra.length;unfold AI Cu;simp[l]
   rw[e];exact h4
 ·exact h.elim
theorem Nt:B6 K sEq (fun x y H Q=>rEq x y H Q\/LF K false x y H Q):=fun as H S x y v u Q ok rx ry h=>by
 unfold sEq at h;split at h
 ·rename_i b e;obtain⟨h1,h2⟩:=JN e rx ry;exact .inl ⟨h1,by rw[h2];exact h.here ok (rl_bl.mpr rfl)⟩
 ·obtain⟨a,b,xs,ys,e1,e2,h1,h2,h3,h4⟩:=GN ok rx ry h;exact .inr ⟨a,b,xs,ys,e1,e2,h1,h2,h3,h4.here ok (rl_bl.mpr rfl)⟩
theorem Nu:B6 K sNe (fun x y H Q=>rNe x y H Q\/LF K true x y H Q):=fun as H S x y v u Q ok rx ry h=>by
 unfold sNe at h;split at h
 ·rename_i b e;obtain⟨h1,h2⟩:=JN e rx ry;exact .inl ⟨h1,by rw[h2];exact h.here ok (rl_bl.mpr rfl)⟩
 ·obtain⟨a,b,xs,ys,e1,e2,h1,h2,h3,h4⟩:=GN ok rx ry h;exact .inr ⟨a,b,xs,ys,e1,e2,h1,h2,h3,h4.here ok (rl_bl.mpr rfl)⟩
theorem LW{as:List V7}{H:Hp}{S:Sto}{y:SV}{u:V}{ms:List Int}(ok:Ok K as H S)(r:Rl K as H u y)(h:JK y S=some ms):∃ a k F,y = .loc k/\u = .ref a/\as[k]?=some a/\S[k]?=some (.iset ms)/\H a=some (.set F ms.length)/\∀ k,F k=decide (k∈ms):=by
 cases y with
 | loc k=>
   obtain⟨a,ea,rfl⟩:=rl_loc.mp r;unfold JK at h;cases hs:S[k]? with
   | none=>simp only[hs]at h;cases h
   | some o=>
     cases o with
     | lst ys=>simp only[hs]at h;cases h
     | iset ns=>
       simp only[hs]at h;cases h;obtain⟨F,h1,h2⟩:=ok.obj k _ a hs ea;exact⟨a,k,F,rfl,rfl,ea,hs,h1,h2⟩
     | dct _=>simp only[hs]at h;cases h
     | dcf _ _ _=>simp only[hs]at h;cases h
 | _=>cases h
noncomputable def Nv(K:R8)(neg:Bool):R2:=fun x y H Q=>rIn K neg x y H Q\/(neg=false/\∃(k:Int) (p:V7) (S:Int->Bool) (n:Nat),x = .int k/\y = .ref p/\H p=some (.set S n)/\Q (.bl (S k)) H)
theorem Nx{X:Cx}:OpR X (VL .In) (Nv X.K false):=fun pq s σ H x y v u Q I rx ry h=>h.elim (HV pq s σ H x y v u Q I rx ry) fun h=>JH pq s σ H x y v u Q I rx ry h.2
theorem Hm{X:Cx}:OpR X (VL .NotIn) (Nv X.K true):=fun pq s σ H x y v u Q I rx ry h=>h.elim (DT pq s σ H x y v u Q I rx ry) fun h=>by cases h.1
theorem JO{n:Bool}:B6 K (sIn n) (Nv K n):=fun as H S x y v u Q ok rx ry h=>by
 unfold sIn at h;split at h
 ·rename_i ms hi;obtain⟨i,rfl,rfl,h⟩:=h;obtain⟨a,k,F,rfl,rfl,ea,es,hF,hk⟩:=LW ok ry hi;rw[rl_int]at rx;exact .inr ⟨rfl,i,a,F,_,rx,rfl,hF,by rw[hk];exact h.here ok (rl_bl.mpr rfl)⟩
 ·obtain⟨f,ys,hs,fs,h⟩:=h;obtain⟨a,vs,rfl,hq,rr⟩:=DZ ok ry hs;have ev:=GM f rx;have es:=AN fs rr;subst ev es;exact .inl ⟨a,_,rfl,hq,EI f,Bd fs,by rw[Nr f fs];exact h.here ok (rl_bl.mpr rfl)⟩
theorem EJ{as:List V7}{H:Hp}{x:SV}{v:V}(r:Rl K as H v x):decide (v=V.non)=JL x:=by
 cases x with
 | non=>rw[rl_non.mp r];rfl
 | bl _=>rw[rl_bl.mp r];rfl
 | int _=>rw[rl_int.mp r];rfl
 | str _=>rw[rl_str.mp r];rfl
 | tup _=>obtain⟨p,vs,rfl,_⟩:=rl_tup.mp r;rfl
 | loc _=>obtain⟨p,_,rfl⟩:=rl_loc.mp r;rfl
 | ro _=>obtain⟨p,vs,rfl,_⟩:=rl_ro.mp r;rfl
 | ty _=>rw[rl_ty.mp r];rfl
theorem LX:B6 K (JM false) (fun x y H Q=>y = .non/\Q (.bl (decide (x = .non))) H):=fun as H S x y v u Q ok rx ry h=>by
 rcases h with⟨e,h⟩ | ⟨c,d,z,_⟩
 ·subst e;exact⟨rl_non.mp ry,by rw[EJ rx];exact h.here ok (rl_bl.mpr rfl)⟩
 ·cases z
theorem JP:B6 K (JM true) (fun x y H Q=>(y = .non/\Q (.bl (!decide (x = .non))) H)\/∃ c d,x = .bl c/\y = .bl d/\Q (.bl (c != d)) H):=fun as H S x y v u Q ok rx ry h=>by
 rcases h with⟨e,h⟩ | ⟨c,d,_,rfl,rfl,h⟩
 ·subst e;exact .inl ⟨rl_non.mp ry,by rw[EJ rx];exact h.here ok (rl_bl.mpr rfl)⟩
 ·exact .inr ⟨c,d,rl_bl.mp rx,rl_bl.mp ry,h.here ok (rl_bl.mpr rfl)⟩
end
noncomputable def sIx:S2
 | x,.int i,S,Q=>∃ xs y,seqS x S=some xs/\atI xs i=some y/\Q y S
 | _,_,_,_=>False
theorem Mono2.ix:Mono2 sIx:=fun x y S P P' i h=>by
 unfold sIx at h ⊢;split at h
 ·obtain⟨xs,z,a,b,c⟩:=h;exact⟨xs,z,a,b,i _ _ c⟩
 ·exact h.elim
section
variable{K:R8}
theorem RlAll.atI{as:List V7}{H:Hp}{xs:List SV}{vs:List V}{i:Int}{y:SV}(h:RlAll K as H vs xs)(e:L2.atI xs i=some y):∃ v,L2.atI vs i=some v/\Rl K as H v y:=by
 unfold L2.atI at e ⊢;rw[h.length];cases hj:ixN xs.length i with
 | none=>rw[hj]at e;cases e
 | some j=>
   rw[hj]at e;exact h.get e
theorem Ny:B6 K sIx (fun x y H Q=>Pc K x y H Q\/Pd K x y H Q):=fun as H S x y v u Q ok rx ry h=>by
 unfold sIx at h;split at h
 ·obtain⟨xs,z,h1,h2,h3⟩:=h;obtain⟨a,vs,rfl,hq,rr⟩:=DZ ok rx h1;obtain⟨w,hw,rw'⟩:=rr.atI h2;rw[rl_int]at ry;rcases hq with hq | hq
  ·exact .inl ⟨a,vs,_,w,rfl,ry,hq,hw,h3.here ok rw'⟩
  ·exact .inr ⟨a,vs,_,w,rfl,ry,hq,hw,h3.here ok rw'⟩
 ·exact h.elim
end
inductive BI where
 | len | abs | min | max | int | list | tuple | all | any | sorted | isi | str
 deriving DecidableEq
noncomputable def BI.name:BI->Str
 | .len=>"len" | .abs=>"abs" | .min=>"min" | .max=>"max" | .int=>"int" | .list=>"list" | .tuple=>"tuple" | .all=>"all" | .any=>"any" | .sorted=>"sorted" | .isi=>"isinstance" | .str=>"str"
noncomputable def blS:List SV->Option (List Bool)
 | []=>some []
 | .bl b::xs=>(blS xs).map (b::·)
 | _::_=>none
noncomputable def Db:List SV->Option (List Int)
 | []=>some []
 | .int i::xs=>(Db xs).map (i::·)
 | _::_=>none
noncomputable def tyS:SV->Sto->Option TyN
 | .non,_=>some .none
 | .bl _,_=>some .bool
 | .int _,_=>some .int
 | .str _,_=>some .str
 | .tup _,_=>some .tuple
 | .loc k,S=>match S[k]? with | some (.lst _)=>some .list | _=>none
 | _,_=>none
noncomputable def FS:TyN->TyN->Bool
 | .bool,.int=>true
 | a,b=>decide (a=b)
noncomputable def Hn:List SV->Option (List TyN)
 | []=>some []
 | .ty t::xs=>(Hn xs).map (t::·)
 | _::_=>none
noncomputable def u7:Nat->Sto->SV->Option PyData
 | _,_,.non=>some .none
 | _,_,.bl b=>some (.bool b)
 | _,_,.int i=>some (.int i)
 | _,_,.str x=>some (.str x)
 | n+1,S,.tup xs=>(xs.mapM (u7 n S)).map PyData.tuple
 | n+1,S,.loc k=>match S[k]? with | some (.lst xs)=>(xs.mapM (u7 n S)).map PyData.list | _=>none
 | _,_,_=>none
noncomputable def a0(f:Sto->QE->Prop):Sn:=fun xs S Q=>match xs with | []=>f S Q | _=>False
noncomputable def a1(f:S1):Sn:=fun xs S Q=>match xs with | [x]=>f x S Q | _=>False
noncomputable def a2(f:S2):Sn:=fun xs S Q=>match xs with | [x,y]=>f x y S Q | _=>False
noncomputable def oI(f:Int->Sto->QE->Prop):S1:=fun x S Q=>match x with | .int i=>f i S Q | _=>False
theorem Pt{f:Sto->QE->Prop}{xs:List SV}{S:Sto}{Q:QE}(h:a0 f xs S Q):xs=[]/\f S Q:=match xs,h with | [],h=>⟨rfl,h⟩
theorem Bx{f:S1}{xs:List SV}{S:Sto}{Q:QE}(h:a1 f xs S Q):∃ x,xs=[x]/\f x S Q:=match xs,h with | [x],h=>⟨x,rfl,h⟩
theorem JQ{f:S2}{xs:List SV}{S:Sto}{Q:QE}(h:a2 f xs S Q):∃ x y,xs=[x,y]/\f x y S Q:=match xs,h with | [x,y],h=>⟨x,y,rfl,h⟩
theorem Be{f:Int->Sto->QE->Prop}{x:SV}{S:Sto}{Q:QE}(h:oI f x S Q):∃ i,x = .int i/\f i S Q:=match x,h with | .int i,h=>⟨i,rfl,h⟩
theorem t5{f:S1}(m:EG f):MonoN (a1 f):=fun xs S P P' i h=>by
 replace h:=Bx h;obtain⟨x,rfl,h⟩:=h;exact m x S P P' i h
theorem C1{f:S2}(m:Mono2 f):MonoN (a2 f):=fun xs S P P' i h=>by
 replace h:=JQ h;obtain⟨x,y,rfl,h⟩:=h;exact m x y S P P' i h
theorem LY{f:Int->Sto->QE->Prop}(m:∀ k S P P',(∀ x S',P x S'->P' x S')->f k S P->f k S P'):EG (oI f):=fun x S P P' i h=>by
 replace h:=Be h;obtain⟨k,rfl,h⟩:=h;exact m k S P P' i h
noncomputable def Pu:S1
 | .int i,S,Q=>Q (.int i) S
 | .bl b,S,Q=>Q (.int (if b then 1 else 0)) S
 | _,_,_=>False
theorem Mm{x:SV}{S:Sto}{Q:QE}(h:Pu x S Q):(∃ i,x = .int i/\Q (.int i) S)\/∃ b,x = .bl b/\Q (.int (if b then 1 else 0)) S:=match x,h with
 | .int i,h => .inl ⟨i,rfl,h⟩
 | .bl b,h => .inr ⟨b,rfl,h⟩
noncomputable def Pv:S2:=fun x y S Q=>match y with
 | .ty t=>∃ a,t ≠ .none/\tyS x S=some a/\Q (.bl (FS a t)) S
 | .tup ts=>∃ a bs,TyN.none∉bs/\tyS x S=some a/\Hn ts=some bs/\Q (.bl (bs.any (FS a))) S
 | _=>False
theorem Mn{x y:SV}{S:Sto}{Q:QE}(h:Pv x y S Q):(∃ t a,y = .ty t/\t ≠ .none/\tyS x S=some a/\Q (.bl (FS a t)) S)\/∃ ts a bs,y = .tup ts/\TyN.none∉bs/\tyS x S=some a/\Hn ts=some bs/\Q (.bl (bs.any (FS a))) S:=match y,h with
 | .ty t,⟨a,h⟩ => .inl ⟨t,a,rfl,h⟩
 | .tup ts,⟨a,bs,h⟩ => .inr ⟨ts,a,bs,rfl,h⟩
noncomputable def Qn:S1:=fun x S Q=>∃ xs,seqS x S=some xs/\Q (.int xs.length) S
noncomputable def Qo:S1:=oI fun i S Q=>Q (.int (if i<0 then -i else i)) S
noncomputable def Qp:S2:=fun x y S Q=>oI (fun i S Q=>oI (fun j S Q=>Q (.int (if j<i then j else i)) S) y S Q) x S Q
noncomputable def Qq:S2:=fun x y S Q=>oI (fun i S Q=>oI (fun j S Q=>Q (.int (if j>i then j else i)) S) y S Q) x S Q
noncomputable def Pw:S1:=fun x S Q=>∃ xs,seqS x S=some xs/\Q (.loc S.length) (S++[.lst xs])
noncomputable def Nz:S1:=fun x S Q=>∃ xs,seqS x S=some xs/\Q (.tup xs) S
noncomputable def Qr:S1:=fun x S Q=>∃ xs bs,x ≠ .tup xs/\seqS x S=some xs/\blS xs=some bs/\Q (.bl (bs.all id)) S
noncomputable def Qs:S1:=fun x S Q=>∃ xs bs,x ≠ .tup xs/\seqS x S=some xs/\blS xs=some bs/\Q (.bl (bs.any id)) S
noncomputable def LZ:S1:=fun x S Q=>∃ xs ns,x ≠ .tup xs/\seqS x S=some xs/\Db xs=some ns/\ns.length<64/\Q (.loc S.length) (S++[.lst ((srt ns).map SV.int)])
noncomputable def Qt:S1:=fun x S Q=>∃ d,u7 20 S x=some d/\Fit d/\Q (.str (JB d)) S
noncomputable def sBi:BI->Sn
 | .len=>a1 Qn
 | .abs=>a1 Qo
 | .min=>a2 Qp
 | .max=>a2 Qq
 | .int=>a1 Pu
 | .list=>a1 Pw
 | .tuple=>a1 Nz
 | .all=>a1 Qr
 | .any=>a1 Qs
 | .sorted=>a1 LZ
 | .isi=>a2 Pv
 | .str=>a1 Qt
theorem MonoN.bi:∀{b:BI},MonoN (sBi b)
 | .len=>t5 fun _ _ _ _ i ⟨a,c,d⟩=>⟨a,c,i _ _ d⟩
 | .abs=>t5 (LY fun _ _ _ _ i h=>i _ _ h)
 | .min=>C1 fun x y S P P' i h=>by
   replace h:=Be h;obtain⟨k,rfl,h1⟩:=h;obtain⟨l,rfl,h2⟩:=Be h1;exact i _ _ h2
 | .max=>C1 fun x y S P P' i h=>by
   replace h:=Be h;obtain⟨k,rfl,h1⟩:=h;obtain⟨l,rfl,h2⟩:=Be h1;exact i _ _ h2
 | .int=>t5 fun x S P P' i h=>by
   replace h:=Mm h;rcases h with⟨k,rfl,h⟩ | ⟨b,rfl,h⟩
   ·exact i _ _ h
   ·exact i _ _ h
 | .list=>t5 fun _ _ _ _ i ⟨a,c,d⟩=>⟨a,c,i _ _ d⟩
 | .tuple=>t5 fun _ _ _ _ i ⟨a,c,d⟩=>⟨a,c,i _ _ d⟩
 | .all=>t5 fun _ _ _ _ i ⟨a,b,c,d,e,f⟩=>⟨a,b,c,d,e,i _ _ f⟩
 | .any=>t5 fun _ _ _ _ i ⟨a,b,c,d,e,f⟩=>⟨a,b,c,d,e,i _ _ f⟩
 | .sorted=>t5 fun _ _ _ _ i ⟨a,b,c,d,e,f,g⟩=>⟨a,b,c,d,e,f,i _ _ g⟩
 | .isi=>C1 fun x y S P P' i h=>by
   replace h:=Mn h;rcases h with⟨t,a,rfl,h1,h2,h⟩ | ⟨ts,a,bs,rfl,h1,h2,h3,h⟩
   ·exact⟨a,h1,h2,i _ _ h⟩
   ·exact⟨a,bs,h1,h2,h3,i _ _ h⟩
 | .str=>t5 fun _ _ _ _ i ⟨a,b,c,d⟩=>⟨a,b,c,i _ _ d⟩
section
variable{K:R8}{as:List V7}{H:Hp}{S:Sto}
theorem FT:∀{xs:List SV} {bs:List Bool} {vs:List V},blS xs=some bs->RlAll K as H vs xs->vs=bs.map V.bl
 | [],_,_,e,r=>by cases e;exact rla_nil.mp r
 | .bl b::xs,_,_,e,r=>by
   obtain⟨v,vs,rfl,r1,r2⟩:=rla_cons.mp r;unfold blS at e;cases h:blS xs with
   | none=>rw[h]at e;cases e
   | some cs=>
     rw[h]at e;cases e;rw[rl_bl.mp r1,FT h r2];rfl
 | .non::_,_,_,e,_=>by cases e
 | .int _::_,_,_,e,_=>by cases e
 | .str _::_,_,_,e,_=>by cases e
 | .tup _::_,_,_,e,_=>by cases e
 | .loc _::_,_,_,e,_=>by cases e
 | .ro _::_,_,_,e,_=>by cases e
 | .ty _::_,_,_,e,_=>by cases e
theorem Dc:∀{xs:List SV} {bs:List Int} {vs:List V},Db xs=some bs->RlAll K as H vs xs->vs=bs.map V.int
 | [],_,_,e,r=>by cases e;exact rla_nil.mp r
 | .int b::xs,_,_,e,r=>by
   obtain⟨v,vs,rfl,r1,r2⟩:=rla_cons.mp r;unfold Db at e;cases h:Db xs with
   | none=>rw[h]at e;cases e
   | some cs=>
     rw[h]at e;cases e;rw[rl_int.mp r1,Dc h r2];rfl
 | .non::_,_,_,e,_=>by cases e
 | .bl _::_,_,_,e,_=>by cases e
 | .str _::_,_,_,e,_=>by cases e
 | .tup _::_,_,_,e,_=>by cases e
 | .loc _::_,_,_,e,_=>by cases e
 | .ro _::_,_,_,e,_=>by cases e
 | .ty _::_,_,_,e,_=>by cases e
theorem v6{x:SV}{v:V}{xs:List SV}(ok:Ok K as H S)(r:Rl K as H v x)(n:x ≠ .tup xs)(h:seqS x S=some xs):∃ a vs,v = .ref a/\SqL K H a vs/\RlAll K as H vs xs:=by
 cases x with
 | tup ys=>cases h;exact absurd rfl n
 | ro ys=>
   cases h;obtain⟨p,vs,rfl,hp,rr⟩:=rl_ro.mp r;exact⟨p,vs,rfl,hp.sq,rr⟩
 | loc k=>
   obtain⟨a,ea,rfl⟩:=rl_loc.mp r;unfold seqS at h;cases hs:S[k]? with
   | none=>simp only[hs]at h;cases h
   | some o=>
     cases o with
     | lst ys=>
       simp only[hs]at h;cases h;obtain⟨vs,h1,rr⟩:=ok.obj k _ a hs ea;exact⟨a,vs,rfl,SqL.of h1,rr⟩
     | iset _=>simp only[hs]at h;cases h
     | dct _=>simp only[hs]at h;cases h
     | dcf _ _ _=>simp only[hs]at h;cases h
 | _=>cases h
theorem Bf{vs:List V}{x:SV}(r:RlAll K as H vs [x]):∃ v,vs=[v]/\Rl K as H v x:=by
 obtain⟨v,t,rfl,r1,r2⟩:=rla_cons.mp r;rw[rla_nil.mp r2];exact⟨v,rfl,r1⟩
theorem La{vs:List V}{x y:SV}(r:RlAll K as H vs [x,y]):∃ v u,vs=[v,u]/\Rl K as H v x/\Rl K as H u y:=by
 obtain⟨v,t,rfl,r1,r2⟩:=rla_cons.mp r;obtain⟨u,rfl,r3⟩:=Bf r2;exact⟨v,u,rfl,r1,r3⟩
end
theorem JR{K:R8}{as:List V7}{H:Hp}{S:Sto}{Q:VK}{x:SV}{v:V}{ys:List SV}(ok:Ok K as H S)(r1:Rl K as H v x)(h1:seqS x S=some ys)(h2:Post K as H Q (.tup ys) S):∃ p us,v = .ref p/\((SqL K H p us/\∀ l,H l=none->Q (.ref l) (upd H l (.tup us)))\/(SqT K H p us/\Q (.ref p) H)):=by
 cases x with
 | tup zs=>
   cases h1;obtain⟨p,us,rfl,hp,rr⟩:=rl_tup.mp r1;exact⟨p,us,rfl,.inr ⟨SqT.of hp,h2.here ok r1⟩⟩
 | loc k=>
   obtain⟨a,us,rfl,hq,rr⟩:=v6 ok r1 (by intro z;cases z) h1;exact⟨a,us,rfl,.inl ⟨hq,BG ok rr h2⟩⟩
 | ro k=>
   obtain⟨a,us,rfl,hq,rr⟩:=v6 ok r1 (by intro z;cases z) h1;exact⟨a,us,rfl,.inl ⟨hq,BG ok rr h2⟩⟩
 | _=>cases h1
section
variable{K:R8}{as:List V7}{H:Hp}{S:Sto}
theorem Mo{x:SV}{v:V}{a:TyN}(ok:Ok K as H S)(r:Rl K as H v x)(h:tyS x S=some a):TyOf K H v (.type a.nm):=by
 cases x with
 | non=>cases h;rw[rl_non.mp r];exact .non
 | bl b=>cases h;rw[rl_bl.mp r];exact .bl b
 | int b=>cases h;rw[rl_int.mp r];exact .int b
 | str b=>cases h;rw[rl_str.mp r];exact .str b
 | tup xs=>cases h;obtain⟨p,vs,rfl,hp,_⟩:=rl_tup.mp r;exact .tup hp
 | loc k=>
   obtain⟨b,eb,rfl⟩:=rl_loc.mp r;unfold tyS at h;cases hs:S[k]? with
   | none=>simp only[hs]at h;cases h
   | some o=>
     cases o with
     | lst ys=>
       simp only[hs]at h;cases h;obtain⟨vs,h1,_⟩:=ok.obj k _ b hs eb;exact .lst h1
     | iset _=>simp only[hs]at h;cases h
     | dct _=>simp only[hs]at h;cases h
     | dcf _ _ _=>simp only[hs]at h;cases h
 | _=>cases h
noncomputable def ktn(t c:String):Option Bool:=if (Value.type t == Value.type c)=true then some true else if PySem.W.kitMeta c=true then (fastBuiltinMro t).map (·.contains (.type c)) else none
theorem GO{K:R8}(a:TyN)(t:TyN)(ht:t ≠ .none):PySem.W.kitOne K (.type a.nm) (.type t.nm)=some (FS a t):=by
 have e:PySem.W.kitOne K (.type a.nm) (.type t.nm)=ktn a.nm t.nm:=rfl;rw[e];cases a<;>cases t<;>first | exact absurd rfl ht | decide +kernel
theorem GP{K:R8}(a:TyN):∀(bs:List TyN),TyN.none∉bs->PySem.W.kitAny K (.type a.nm) ((bs.map TyN.nm).map Value.type)=some (bs.any (FS a))
 | [],_=>rfl
 | b::bs,h=>by
   rw[RV,RV,PySem.W.kitAny,GO a b (fun z=>h (by rw[z];simp)),SX];cases FS a b with
   | true=>rfl
   | false=>exact GP a bs (fun z=>h (RK _ z))
theorem JS:∀{xs:List SV} {bs:List TyN} {vs:List V},Hn xs=some bs->RlAll K as H vs xs->vs=(bs.map TyN.nm).map V.ty
 | [],_,_,e,r=>by cases e;exact rla_nil.mp r
 | .ty b::xs,_,_,e,r=>by
   obtain⟨v,vs,rfl,r1,r2⟩:=rla_cons.mp r;unfold Hn at e;cases h:Hn xs with
   | none=>rw[h]at e;cases e
   | some cs=>
     rw[h]at e;cases e;rw[rl_ty.mp r1,JS h r2];rfl
 | .non::_,_,_,e,_=>by cases e
 | .bl _::_,_,_,e,_=>by cases e
 | .str _::_,_,_,e,_=>by cases e
 | .tup _::_,_,_,e,_=>by cases e
 | .loc _::_,_,_,e,_=>by cases e
 | .ro _::_,_,_,e,_=>by cases e
 | .int _::_,_,_,e,_=>by cases e
theorem Dd{n:Nat}(ih:∀{x:SV} {d:PyData} {v:V},u7 n S x=some d->Rl K as H v x->Dat H v d):∀{xs:List SV} {ds:List PyData} {vs:List V},xs.mapM (u7 n S)=some ds->RlAll K as H vs xs->DatAll H vs ds
 | [],_,_,e,r=>by
   rw[List.mapM_nil]at e;cases e;rw[rla_nil.mp r];unfold DatAll;trivial
 | x::xs,_,_,e,r=>by
   obtain⟨v,vs,rfl,r1,r2⟩:=rla_cons.mp r;rw[Tu]at e;cases h1:u7 n S x with
   | none=>rw[h1]at e;cases e
   | some d=>
     rw[h1]at e;cases h2:xs.mapM (u7 n S) with
     | none=>rw[h2]at e;cases e
     | some ds=>
       rw[h2]at e;cases e;unfold DatAll;exact⟨ih h1 r1,Dd ih h2 r2⟩
theorem JT(ok:Ok K as H S):∀(n:Nat) {x:SV} {d:PyData} {v:V},u7 n S x=some d->Rl K as H v x->Dat H v d:=by
 intro n
 induction n with
 | zero=>
   intro x d v e r;cases x with
   | non=>cases e;rw[rl_non.mp r];unfold Dat;rfl
   | bl b=>cases e;rw[rl_bl.mp r];unfold Dat;rfl
   | int b=>cases e;rw[rl_int.mp r];unfold Dat;rfl
   | str b=>cases e;rw[rl_str.mp r];unfold Dat;rfl
   | _=>unfold u7 at e;cases e
 | succ n ih=>
   intro x d v e r;cases x with
   | non=>cases e;rw[rl_non.mp r];unfold Dat;rfl
   | bl b=>cases e;rw[rl_bl.mp r];unfold Dat;rfl
   | int b=>cases e;rw[rl_int.mp r];unfold Dat;rfl
   | str b=>cases e;rw[rl_str.mp r];unfold Dat;rfl
   | tup xs=>
     unfold u7 at e;cases h:xs.mapM (u7 n S) with
     | none=>rw[h]at e;cases e
     | some ds=>
       rw[h]at e;cases e;obtain⟨p,vs,rfl,hp,rr⟩:=rl_tup.mp r;unfold Dat;exact⟨p,vs,rfl,hp,Dd ih h rr⟩
   | loc k=>
     unfold u7 at e;cases hs:S[k]? with
     | none=>simp only[hs]at e;cases e
     | some o=>
       cases o with
       | lst ys=>
         simp only[hs]at e;cases h:ys.mapM (u7 n S) with
         | none=>rw[h]at e;cases e
         | some ds=>
           rw[h]at e;cases e;obtain⟨a,vs,rfl,_,ha,rr⟩:=j3 ok r hs;unfold Dat;exact⟨a,vs,rfl,ha,Dd ih h rr⟩
       | iset _=>simp only[hs]at e;cases e
       | dct _=>simp only[hs]at e;cases e
       | dcf _ _ _=>simp only[hs]at e;cases e
   | _=>unfold u7 at e;cases e
end
noncomputable def rBi(K:R8):BI->List V->Hp->VK->Prop
 | .len=>fun xs H Q=>∃ p ys,xs=[.ref p]/\(SqL K H p ys\/SqT K H p ys)/\Q (.int ys.length) H
 | .abs=>fun xs H Q=>∃ i,xs=[.int i]/\Q (.int (if i<0 then -i else i)) H
 | .min=>fun xs H Q=>∃ i j,xs=[.int i,.int j]/\Q (.int (if j<i then j else i)) H
 | .max=>fun xs H Q=>∃ i j,xs=[.int i,.int j]/\Q (.int (if j>i then j else i)) H
 | .int=>fun xs H Q=>(∃ i,xs=[.int i]/\Q (.int i) H)\/∃ k,xs=[.bl k]/\Q (.int (if k then 1 else 0)) H
 | .list=>fun xs H Q=>∃ p ys,xs=[.ref p]/\(SqL K H p ys\/SqT K H p ys)/\∀ l,H l=none->Q (.ref l) (upd H l (.lst ys))
 | .tuple=>fun xs H Q=>∃ p ys,xs=[.ref p]/\((SqL K H p ys/\∀ l,H l=none->Q (.ref l) (upd H l (.tup ys)))\/(SqT K H p ys/\Q (.ref p) H))
 | .all=>fun xs H Q=>∃(a:V7) (bs:List Bool),xs=[.ref a]/\SqL K H a (bs.map V.bl)/\Q (.bl (bs.all id)) H
 | .any=>fun xs H Q=>∃(a:V7) (bs:List Bool),xs=[.ref a]/\SqL K H a (bs.map V.bl)/\Q (.bl (bs.any id)) H
 | .sorted=>fun xs H Q=>∃ p ns,xs=[.ref p]/\SqL K H p (ns.map V.int)/\ns.length<64/\∀ l,H l=none->Q (.ref l) (upd H l (.lst ((srt ns).map V.int)))
 | .isi=>fun xs H Q=>(∃ x T t b,xs=[x,.ty T]/\TyOf K H x t/\PySem.W.kitOne K t (.type T)=some b/\Q (.bl b) H)\/(∃(x:V) (p:V7) (Ts:List String) (t:V4) (b:Bool),xs=[x,.ref p]/\H p=some (.tup (Ts.map V.ty))/\TyOf K H x t/\PySem.W.kitAny K t (Ts.map Value.type)=some b/\Q (.bl b) H)
 | .str=>fun xs H Q=>∃ x d,xs=[x]/\Dat H x d/\Fit d/\Q (.str (JB d)) H
theorem O0{K:R8}:∀{b:BI},Pq K (sBi b) (rBi K b)
 | .len=>fun as H S xs vs Q ok r h=>by
   replace h:=Bx h;obtain⟨x,rfl,ys,h1,h2⟩:=h;obtain⟨v,rfl,r1⟩:=Bf r;obtain⟨a,us,rfl,hq,rr⟩:=DZ ok r1 h1;exact⟨a,us,rfl,hq,by rw[rr.length];exact h2.here ok (rl_int.mpr rfl)⟩
 | .abs=>fun as H S xs vs Q ok r h=>by
   replace h:=Bx h;obtain⟨x,rfl,h⟩:=h;replace h:=Be h;obtain⟨i,rfl,h⟩:=h;obtain⟨v,rfl,r1⟩:=Bf r;exact⟨_,by rw[rl_int.mp r1],Post.here h ok (rl_int.mpr rfl)⟩
 | .min=>fun as H S xs vs Q ok r h=>by
   replace h:=JQ h;obtain⟨x,y,rfl,h⟩:=h;replace h:=Be h;obtain⟨i,rfl,h⟩:=h;replace h:=Be h;obtain⟨j,rfl,h⟩:=h;obtain⟨v,u,rfl,r1,r2⟩:=La r;exact⟨_,_,by rw[rl_int.mp r1,rl_int.mp r2],Post.here h ok (rl_int.mpr rfl)⟩
 | .max=>fun as H S xs vs Q ok r h=>by
   replace h:=JQ h;obtain⟨x,y,rfl,h⟩:=h;replace h:=Be h;obtain⟨i,rfl,h⟩:=h;replace h:=Be h;obtain⟨j,rfl,h⟩:=h;obtain⟨v,u,rfl,r1,r2⟩:=La r;exact⟨_,_,by rw[rl_int.mp r1,rl_int.mp r2],Post.here h ok (rl_int.mpr rfl)⟩
 | .int=>fun as H S xs vs Q ok r h=>by
   replace h:=Bx h;obtain⟨x,rfl,h⟩:=h;obtain⟨v,rfl,r1⟩:=Bf r;replace h:=Mm h;rcases h with⟨k,rfl,h⟩ | ⟨b,rfl,h⟩
   ·exact .inl ⟨_,by rw[rl_int.mp r1],Post.here h ok (rl_int.mpr rfl)⟩
   ·exact .inr ⟨_,by rw[rl_bl.mp r1],Post.here h ok (rl_int.mpr rfl)⟩
 | .list=>fun as H S xs vs Q ok r h=>by
   replace h:=Bx h;obtain⟨x,rfl,ys,h1,h2⟩:=h;obtain⟨v,rfl,r1⟩:=Bf r;obtain⟨a,us,rfl,hq,rr⟩:=DZ ok r1 h1;exact⟨a,us,rfl,hq,v8 ok rr h2⟩
 | .tuple=>fun as H S xs vs Q ok r h=>by
   replace h:=Bx h;obtain⟨x,rfl,ys,h1,h2⟩:=h;obtain⟨v,rfl,r1⟩:=Bf r;obtain⟨p,us,rfl,z⟩:=JR ok r1 h1 h2;exact⟨p,us,rfl,z⟩
 | .all=>fun as H S xs vs Q ok r h=>by
   replace h:=Bx h;obtain⟨x,rfl,ys,bs,h0,h1,h2,h3⟩:=h;obtain⟨v,rfl,r1⟩:=Bf r;obtain⟨a,us,rfl,hq,rr⟩:=v6 ok r1 h0 h1;rw[FT h2 rr]at hq;exact⟨a,bs,rfl,hq,h3.here ok (rl_bl.mpr rfl)⟩
 | .any=>fun as H S xs vs Q ok r h=>by
   replace h:=Bx h;obtain⟨x,rfl,ys,bs,h0,h1,h2,h3⟩:=h;obtain⟨v,rfl,r1⟩:=Bf r;obtain⟨a,us,rfl,hq,rr⟩:=v6 ok r1 h0 h1;rw[FT h2 rr]at hq;exact⟨a,bs,rfl,hq,h3.here ok (rl_bl.mpr rfl)⟩
 | .sorted=>fun as H S xs vs Q ok r h=>by
   replace h:=Bx h;obtain⟨x,rfl,ys,ns,h0,h1,h2,h3,h4⟩:=h;obtain⟨v,rfl,r1⟩:=Bf r;obtain⟨a,us,rfl,hq,rr⟩:=v6 ok r1 h0 h1;rw[Dc h2 rr]at hq;exact⟨a,ns,rfl,hq,h3,v8 ok RlAll.ints h4⟩
 | .isi=>fun as H S xs vs Q ok r h=>by
   replace h:=JQ h;obtain⟨x,y,rfl,h⟩:=h;obtain⟨v,u,rfl,r1,r2⟩:=La r;replace h:=Mn h;rcases h with⟨t,a,rfl,h0,h1,h2⟩ | ⟨ts,a,bs,rfl,h0,h1,h2,h3⟩
   ·rw[rl_ty.mp r2];exact .inl ⟨v,_,_,_,rfl,Mo ok r1 h1,GO _ _ h0,h2.here ok (rl_bl.mpr rfl)⟩
   ·obtain⟨p,vs,rfl,hp,rr⟩:=rl_tup.mp r2;rw[JS h2 rr]at hp;exact .inr ⟨v,p,_,_,_,rfl,hp,Mo ok r1 h1,GP _ _ h0,h3.here ok (rl_bl.mpr rfl)⟩
 | .str=>fun as H S xs vs Q ok r h=>by
   replace h:=Bx h;obtain⟨x,rfl,d,h1,h2,h3⟩:=h;obtain⟨v,rfl,r1⟩:=Bf r;exact⟨v,d,rfl,JT ok 20 h1 r1,h2,h3.here ok (rl_str.mpr rfl)⟩
inductive MT where
 | append | extend | pop | insert | reverse
 deriving DecidableEq
noncomputable def MT.name:MT->Str
 | .append=>"append" | .extend=>"extend" | .pop=>"pop" | .insert=>"insert" | .reverse=>"reverse"
noncomputable def oL(f:Nat->Sto->QE->Prop):S1:=fun x S Q=>match x with | .loc k=>f k S Q | _=>False
theorem By{f:Nat->Sto->QE->Prop}{x:SV}{S:Sto}{Q:QE}(h:oL f x S Q):∃ k,x = .loc k/\f k S Q:=match x,h with | .loc k,h=>⟨k,rfl,h⟩
noncomputable def Mp:Nat->Sto->QE->Prop:=fun k S Q=>∃ xs y,S[k]?=some (.lst xs)/\xs[xs.length - 1]?=some y/\Q y (S.set k (.lst xs.dropLast))
noncomputable def Mq(k:Nat):Int->Sto->QE->Prop:=fun i S Q=>∃ xs y,S[k]?=some (.lst xs)/\(0<=i/\i<xs.length)/\xs.length<=big/\xs[i.toNat]?=some y/\Q y (S.set k (.lst (xs.eraseIdx i.toNat)))
noncomputable def Mr(y:SV):Nat->Sto->QE->Prop:=fun k S Q=>oI (Mq k) y S Q
noncomputable def Px(x:SV):Sn:=fun xs S Q=>match xs with
 | []=>oL Mp x S Q
 | [y]=>oL (Mr y) x S Q
 | _=>False
noncomputable def Lb(x:SV):S1:=fun y S Q=>oL (fun k S Q=>∃ xs,S[k]?=some (.lst xs)/\xs.length<big/\Q .non (S.set k (.lst (xs++[y])))) x S Q
noncomputable def Lc(x:SV):S1:=fun y S Q=>oL (fun k S Q=>oL (fun l S Q=>∃ xs ys,S[k]?=some (.lst xs)/\S[l]?=some (.lst ys)/\xs.length+ys.length<=big/\Q .non (S.set k (.lst (xs++ys)))) y S Q) x S Q
noncomputable def Ld(x:SV):S2:=fun z y S Q=>oL (fun k S Q=>oI (fun i S Q=>∃ xs,S[k]?=some (.lst xs)/\(0<=i/\i<=xs.length)/\xs.length<big/\Q .non (S.set k (.lst (xs.take i.toNat++y::xs.drop i.toNat)))) z S Q) x S Q
noncomputable def JU(x:SV):Sto->QE->Prop:=fun S Q=>oL (fun k S Q=>∃ xs,S[k]?=some (.lst xs)/\Q .non (S.set k (.lst xs.reverse))) x S Q
noncomputable def sMt:MT->SV->Sn
 | .append,x=>a1 (Lb x)
 | .extend,x=>a1 (Lc x)
 | .pop,x=>Px x
 | .insert,x=>a2 (Ld x)
 | .reverse,x=>a0 (JU x)
theorem Ms{x:SV}{xs:List SV}{S:Sto}{Q:QE}(h:Px x xs S Q):∃ k,x = .loc k/\((xs=[]/\∃ xs y,S[k]?=some (.lst xs)/\xs[xs.length - 1]?=some y/\Q y (S.set k (.lst xs.dropLast)))\/
 ∃ i,xs=[.int i]/\∃ xs y,S[k]?=some (.lst xs)/\(0<=i/\i<xs.length)/\xs.length<=big/\xs[i.toNat]?=some y/\Q y (S.set k (.lst (xs.eraseIdx i.toNat)))):=match xs,h with
 | [],h=>by
   have h:oL Mp x S Q:=h;obtain⟨k,e,h⟩:=By h;exact⟨k,e,.inl ⟨rfl,h⟩⟩
 | [y],h=>by
   have h:oL (Mr y) x S Q:=h;obtain⟨k,e,h⟩:=By h;have h:oI (Mq k) y S Q:=h;obtain⟨i,e2,h⟩:=Be h;exact⟨k,e,.inr ⟨i,by rw[e2],h⟩⟩
theorem De:∀{m:MT} {x:SV},MonoN (sMt m x)
 | .append,x=>t5 fun y S P P' i h=>by
   replace h:=By h;obtain⟨k,rfl,a,c,d,e⟩:=h;exact⟨a,c,d,i _ _ e⟩
 | .extend,x=>t5 fun y S P P' i h=>by
   replace h:=By h;obtain⟨k,rfl,h⟩:=h;replace h:=By h;obtain⟨l,rfl,a,c,d,e,f,g⟩:=h;exact⟨a,c,d,e,f,i _ _ g⟩
 | .pop,x=>fun xs S P P' i h=>by
   replace h:=Ms h;obtain⟨k,rfl,h⟩:=h;rcases h with⟨rfl,a,c,d,e,f⟩ | ⟨j,rfl,a,c,d,e,f,g,h⟩
   ·exact⟨a,c,d,e,i _ _ f⟩
   ·exact⟨a,c,d,e,f,g,i _ _ h⟩
 | .insert,x=>C1 fun z y S P P' i h=>by
   replace h:=By h;obtain⟨k,rfl,h⟩:=h;replace h:=Be h;obtain⟨j,rfl,a,c,d,e,f⟩:=h;exact⟨a,c,d,e,i _ _ f⟩
 | .reverse,x=>fun xs S P P' i h=>by
   replace h:=Pt h;obtain⟨rfl,h⟩:=h;replace h:=By h;obtain⟨k,rfl,a,c,d⟩:=h;exact⟨a,c,i _ _ d⟩
noncomputable def rMt:MT->V->List V->Hp->VK->Prop
 | .append=>GC
 | .extend=>GD
 | .pop=>fun x vs H Q=>Pf x vs H Q\/Ix x vs H Q
 | .insert=>GF
 | .reverse=>EA
section
variable{K:R8}{as:List V7}{H:Hp}{S:Sto}
theorem RlAll.erase:∀{xs:List SV} {vs:List V} (n:Nat),RlAll K as H vs xs->RlAll K as H (vs.eraseIdx n) (xs.eraseIdx n)
 | [],_,n,h=>by rw[rla_nil.mp h];exact .nil
 | x::xs,_,0,h=>by
   obtain⟨v,r,rfl,a,t⟩:=rla_cons.mp h;exact t
 | x::xs,_,n+1,h=>by
   obtain⟨v,r,rfl,a,t⟩:=rla_cons.mp h;exact .cons a (t.erase n)
theorem RlAll.dropLast{xs:List SV}{vs:List V}(h:RlAll K as H vs xs):RlAll K as H vs.dropLast xs.dropLast:=by
 rw[UJ,UJ,h.length];exact h.take _
theorem v1{Q:VK}{k:Nat}{a:V7}{xs ys:List SV}{us:List V}{x:SV}{v:V}(ok:Ok K as H S)(e:S[k]?=some (.lst xs))(ea:as[k]?=some a)(r:RlAll K as H us ys)(h:Post K as H Q x (S.set k (.lst ys)))(rx:Rl K as H v x):Q v (upd H a (.lst us)):=by
 obtain⟨ok',ku⟩:=ok.write e ea r;exact h as _ v (Go.write (RD ea)) ok' (Rl.mono (Rh _) ku x v rx)
theorem JV:∀{m:MT} {Q:VK} {x:SV} {v:V} {xs:List SV} {vs:List V} (ok:Ok K as H S) (rx:Rl K as H v x) (r:RlAll K as H vs xs) (h:sMt m x xs S (Post K as H Q)),rMt m v vs H Q
 | .append,Q,x,v,xs,vs,ok,rx,r,h=>by
   replace h:=Bx h;obtain⟨y,rfl,h⟩:=h;replace h:=By h;obtain⟨k,rfl,ys,h1,h2,h3⟩:=h;obtain⟨a,us,rfl,ea,ha,ra⟩:=j3 ok rx h1;obtain⟨u,rfl,ru⟩:=Bf r;exact⟨a,us,u,rfl,rfl,ha,by rw[ra.length];exact Bc h2,v1 ok h1 ea (ra.append (.cons ru .nil)) h3 (rl_non.mpr rfl)⟩
 | .extend,Q,x,v,xs,vs,ok,rx,r,h=>by
   replace h:=Bx h;obtain⟨y,rfl,h⟩:=h;replace h:=By h;obtain⟨k,rfl,h⟩:=h;replace h:=By h;obtain⟨l,rfl,ys,zs,h1,h2,h3,h4⟩:=h;obtain⟨a,us,rfl,ea,ha,ra⟩:=j3 ok rx h1;obtain⟨u,rfl,ru⟩:=Bf r;obtain⟨b,ws,rfl,eb,hb,rb⟩:=j3 ok ru h2;exact⟨a,b,us,ws,rfl,rfl,ha,hb,by rw[ra.length,rb.length];exact At h3,v1 ok h1 ea (ra.append rb) h4 (rl_non.mpr rfl)⟩
 | .pop,Q,x,v,xs,vs,ok,rx,r,h=>by
   replace h:=Ms h;obtain⟨k,rfl,h⟩:=h;rcases h with⟨rfl,ys,y,h1,h2,h3⟩ | ⟨i,rfl,ys,y,h1,h2,h3,h4,h5⟩
   ·obtain⟨a,us,rfl,ea,ha,ra⟩:=j3 ok rx h1;obtain⟨z,hz,rz⟩:=ra.get h2;rw[rla_nil.mp r];exact .inl ⟨a,us,z,rfl,rfl,ha,by rw[ra.length];exact hz,v1 ok h1 ea ra.dropLast h3 rz⟩
   ·obtain⟨a,us,rfl,ea,ha,ra⟩:=j3 ok rx h1;obtain⟨u,rfl,ru⟩:=Bf r;obtain⟨z,hz,rz⟩:=ra.get h4;rw[rl_int.mp ru];have hb:big=100000:=rfl;refine .inr ⟨a,us,i,i.toNat,z,rfl,rfl,ha,by omega,by omega,?_,hz,v1 ok h1 ea (ra.erase _) h5 rz⟩;rw[ra.length];exact PySem.seqIndex_of h2.1 h2.2
 | .insert,Q,x,v,xs,vs,ok,rx,r,h=>by
   replace h:=JQ h;obtain⟨z,y,rfl,h⟩:=h;replace h:=By h;obtain⟨k,rfl,h⟩:=h;replace h:=Be h;obtain⟨i,rfl,ys,h1,h2,h3,h4⟩:=h;obtain⟨a,us,rfl,ea,ha,ra⟩:=j3 ok rx h1;obtain⟨u,w,rfl,ru,rw'⟩:=La r;rw[rl_int.mp ru];exact⟨a,us,i,w,rfl,rfl,ha,h2.1,by rw[ra.length];exact h2.2,by rw[ra.length];exact Bc h3,v1 ok h1 ea (ra.ins rw' _) h4 (rl_non.mpr rfl)⟩
 | .reverse,Q,x,v,xs,vs,ok,rx,r,h=>by
   replace h:=Pt h;obtain⟨rfl,h⟩:=h;replace h:=By h;obtain⟨k,rfl,ys,h1,h2⟩:=h;obtain⟨a,us,rfl,ea,ha,ra⟩:=j3 ok rx h1;rw[rla_nil.mp r];exact⟨a,us,rfl,rfl,ha,v1 ok h1 ea ra.rev h2 (rl_non.mpr rfl)⟩
end
end Rf
namespace L2
open PySem PySem.Spec PyProof.Rows
section
variable{X:Cx}{pq:List (V7×Obj)}{σ:St}{H:Hp}{s:V6}{a:V7}{u u':HO}
theorem Inv.retag(I:Inv X pq σ H s)(hu:H a=some u)(h1:∀ xs,u ≠ .tup xs)(h2:∀ y,u ≠ .own y)(h3:∀ ps,u ≠ .tbl ps)(h4:∀ o xs,u ≠ .frz o (.lst xs))(new:ObjOk X.prog X.w (upd H a u') s.heap a u'):Inv X pq σ (upd H a u') s:=by
 have ne:∀ b,H b=none->b≠a:=fun b n z=>by rw[z,hu]at n;cases n
 refine⟨I.ok,I.os,I.bare,⟨I.base.keep,I.base.slot,fun b o e n hx=>?_,I.base.there,fun b xs e=>?_,fun b o w e=>?_,fun b ps e=>?_⟩,I.loc,I.cell,?_,fun x c e=>?_,fun p hp=>?_,fun b o e=>?_,I.len⟩
 ·have q:=I.base.free b o e n hx;rw[c3 (ne b q)];exact q
 ·have q:=I.base.tups b xs e;by_cases hb:b=a
  ·rw[hb,hu]at q;exact absurd (oj q) (h1 xs)
  ·rw[c3 hb];exact q
 ·have q:=I.base.frzs b o w e;by_cases hb:b=a
  ·rw[hb,hu]at q;exact absurd (oj q) (h4 o w)
  ·rw[c3 hb];exact q
 ·obtain⟨m,q⟩:=I.base.tbls b ps e;by_cases hb:b=a
  ·rw[hb,hu]at q;exact absurd (oj q) (h3 _)
  ·exact⟨m,by rw[c3 hb];exact q⟩
 ·rw[c3 (ne _ I.free)];exact I.free
 ·rw[c3 (ne _ (I.freeC x c e))];exact I.freeC x c e
 ·obtain⟨p1,p2,p3⟩:=I.pin p hp;exact⟨p1,by rw[c3 (ne _ p2)];exact p2,p3⟩
 ·by_cases hb:b=a
  ·subst hb;rw[e6]at e;cases e;exact new
  ·rw[c3 hb]at e;refine(I.hok b o e).stay (fun _ _ _ q=>q) (fun c q=>?_) (fun c xs q=>?_)
   ·by_cases hc:c=a
    ·rw[hc,hu]at q;exact absurd (oj q) (h2 _)
    ·rw[c3 hc];exact q
   ·by_cases hc:c=a
    ·rw[hc,hu]at q;exact absurd (oj q) (h1 _)
    ·rw[c3 hc];exact q
theorem Inv.melt{ks:List (Key×V)}{o:Obj}(I:Inv X pq σ H s)(hu:H a=some (.frz o (.dK ks))):Inv X pq σ (upd H a (.dK ks)) s:=
 I.retag hu nofun nofun nofun (fun o' xs z=>by injection z with z1 z2;cases z2) (show ObjOk X.prog X.w H s.heap a (.frz o (.dK ks)) from I.hok a _ hu).2
end
section
variable{X:Cx}{tg:Expr}
noncomputable def Qu(H H':Hp):Prop:=∃ a o ks,H a=some (.frz o (.dK ks))/\H'=upd H a (.dK ks)
noncomputable def JW(td ty tv:TE):TS:=fun D σ H=>tv σ H fun v H1=>td σ H1 fun x H2=>ty σ H2 fun y H3=>∃ a H3' H4,x = .ref a/\(H3'=H3\/Qu H3 H3')/\DPut H3' a y v H4/\D.nx σ H4
theorem JX{o i value:Expr}{pos pos':Pos}{td ty tv:TE}(hu:X.A.units+1<cLine)(ho:PE X o td)(hi:PE X i ty)(hv:PE X value tv)(hs:VX value (some (.Subscript o i pos')) pos.line X.env=pure false):
 PS X (.Assign [.Subscript o i pos'] value pos) (JW td ty tv):=by
 intro pq s σ H D I h;refine wpAny_Assign_Subscript (thn (hv pq s σ H _ I h) fun r s1 ⟨v,H1,I1,rv,q1⟩=>thn (ho pq s1 σ H1 _ I1 q1) fun u s2 ⟨x,H2,I2,rx,q2⟩=>thn (hi pq s2 σ H2 _ I2 q2) fun iv s3 ⟨y,H3,I3,ry,a,H3',H4,ex,m,g,q3⟩=>?_) hs;subst ex;obtain rfl:u=Value.ref a:=rx
 have I3':Inv X pq σ H3' s3:=by
  rcases m with rfl | ⟨b,o',ks,e1,rfl⟩
  ·exact I3
  ·exact I3.melt e1
 exact Hf hu I3' g ry rv fun s4 I4=>⟨σ,H4,I4,q3⟩
end
section
variable{X:Cx}
noncomputable def JY(X:Cx)(f:V4)(ks:List Str)(r:List V->List V->Hp->VK->Prop):Prop:=
 ∀(pq:List (V7×Obj)) (s:V6) (σ:St) (H:Hp) (vs zs:List V) (us ws:List V4) (Q:VK),Inv X pq σ H s->Vals vs us->Vals zs ws->r vs zs H Q->VA (VB X.prog X.w) X.A (call f us (ks.zip ws)) (EP X pq σ Q) X.xe s
noncomputable def Qv(r:List V->List V->Hp->VK->Prop)(t tk:TA):TE:=fun σ H Q=>t σ H fun vs H1=>tk σ H1 fun zs H2=>r vs zs H2 Q
theorem Ho{id:String}{ks:List Str}{r:List V->List V->Hp->VK->Prop}{x:Str}{p pos:Pos}{e:Expr}{es:List Expr}{kws:List Keyword}{t tk:TA}(hc:JY X (.builtin id) ks r)(hg:Gl X x)(hm:X.mg x=none)(hv:VE x=some (.builtin id))(ha:PA X (e::es) t)(hkw:PK X kws tk)
 (hks:(W9 pos (Vn kws X.env)).filterMap (·.1)=ks:=by rfl) (hn:x≠"__name__":=by decide) (hdb:(x == ("__debug__":Str))=false:=by decide)
 (he:backTo pos (VF (e::es) X.env)=(false,eval e X.env)::backTo pos (VF es X.env):=by rfl) (hpl:(backTo pos (VF (e::es) X.env)).any (·.1)=false:=by rfl)
 (hall:(W9 pos (Vn kws X.env)).all (·.1.isSome)=true:=by rfl) (hno:(W9 pos (Vn kws X.env)).any (·.1.isNone)=false:=by rfl):PE X (.Call (.Name x p) (e::es) kws pos) (Qv r t tk):=by
 intro pq s σ H Q I h;refine VY (AC I hg hm hv ?_ hn hdb);refine callWith_kw (thn (ha pos pq s σ H _ I h) fun us s1 ⟨vs,H1,I1,r1,q1⟩=>thn (hkw pos pq s1 σ H1 _ I1 q1) fun ws s2 ⟨zs,H2,I2,r2,q2⟩=>?_) he hpl hall hno;rw[hks];exact hc pq s2 σ H2 vs zs us ws Q I2 r1 r2 q2
end
end L2
namespace Rf
open PySem L2
mutual
inductive Tg where
 | nm (i:Nat) | tup (ts:Tgs)
inductive Tgs where
 | nil | cons (t:Tg) (ts:Tgs)
end
mutual
inductive Ex where
 | var (i:Nat) | c (x:SV) | op (o:W8) (a b:Ex) | neg (a:Ex) | cmp (o:CmpOp) (a b:Ex) | chn (o p:CmpOp) (a b c:Ex)
 | and (a b:Ex) | or (a b:Ex) | not (a:Ex) | tup (es:Exs) | lst (es:Exs) | ix (a b:Ex) | slc (a:Ex) (lo hi:Eo)
 | call (f:Nat) (es:Exs) | bi (b:BI) (es:Exs) | mt (m:MT) (a:Ex) (es:Exs) | comp (own cn:List Str) (js:List Nat) (g:Tg) (it:Itb) (t:Eo) (e:Ex) | comp2 (own cn:List Str) (js:List Nat) (g:Tg) (it:Itb) (t:Eo) (g2:Tg) (it2:Itb) (t2:Eo) (e:Ex) | tyc (t:TyN) | lrng1 (a:Ex) | srtks (a d:Ex) | lend (a:Ex) | lenset (a:Ex) | dnew | din (n:Bool) (a b:Ex) | no
inductive Exs where
 | nil | cons (e:Ex) (es:Exs)
inductive Eo where
 | no | yes (e:Ex)
inductive Itb where
 | seq (e:Ex) | rng1 (a:Ex) | rng2 (a b:Ex) | enum (e:Ex) | rv (e:Ex)
end
inductive Stm where
 | asg (t:Tg) (e:Ex) | par (i j:Nat) (a b:Ex) | put (o i e:Ex) | dput (o i e:Ex) | expr (e:Ex) | iff (t:Ex) (a b:List Stm) | loop (g:Tg) (it:Itb) (b:List Stm) | whl (t:Ex) (b:List Stm)
 | ret (e:Ex) | no
noncomputable def sOp:W8->S2
 | .Add=>JI
 | .Sub=>BH fun i j => .int (i - j)
 | .Mult=>JJ
 | .FloorDiv=>FQ PL fun i j => .int (i / j)
 | .Mod=>FQ (fun _ j=>0<j) fun i j => .int (i % j)
 | .Pow=>FQ PM fun i j => .int (i ^ j.toNat)
 | _=>fun _ _ _ _=>False
noncomputable def Ae:CmpOp->S2
 | .Eq=>sEq
 | .NotEq=>sNe
 | .Lt=>BH fun i j => .bl (decide (i<j))
 | .LtE=>BH fun i j => .bl (decide (i<=j))
 | .Gt=>BH fun i j => .bl (decide (j<i))
 | .GtE=>BH fun i j => .bl (decide (j<=i))
 | .In=>sIn false
 | .NotIn=>sIn true
 | .Is=>JM false
 | .IsNot=>JM true
noncomputable def JZ:S1
 | .int i,S,Q=>Q (.int (-i)) S
 | _,_,_=>False
noncomputable def O9:SV->Sto->Option Bool
 | .bl b,_=>some b
 | .loc k,S=>match S[k]? with | some (.lst xs)=>some (!xs.isEmpty) | _=>none
 | _,_=>none
noncomputable def OA(w:WE):WT:=fun ρ S Q=>w ρ S fun x S'=>∃ b,O9 x S'=some b/\Q b S'
noncomputable def Ja(a b:WE):WE:=fun ρ S Q=>a ρ S fun x S1=>∃ c,x = .bl c/\if c=true then b ρ S1 Q else Q (.bl false) S1
noncomputable def wOr(a b:WE):WE:=fun ρ S Q=>a ρ S fun x S1=>∃ c,x = .bl c/\if c=true then Q (.bl true) S1 else b ρ S1 Q
noncomputable def Lf(a:WE):WE:=fun ρ S Q=>a ρ S fun x S1=>∃ c,x = .bl c/\Q (.bl (!c)) S1
noncomputable def CN(a b:WT):WT:=fun ρ S Q=>a ρ S fun c S1=>if c=true then b ρ S1 Q else Q false S1
noncomputable def FU(a b:WT):WT:=fun ρ S Q=>a ρ S fun c S1=>if c=true then Q true S1 else b ρ S1 Q
noncomputable def GQ(a:WT):WT:=fun ρ S Q=>a ρ S fun c S1=>Q (!c) S1
noncomputable def Jb(s s':S2)(a b c:WE):WE:=fun ρ S Q=>a ρ S fun x S1=>b ρ S1 fun y S2=>s x y S2 fun z S3=>∃ k,z = .bl k/\if k=true then c ρ S3 fun u S4=>s' y u S4 Q else Q (.bl false) S3
noncomputable abbrev WO:=EnvS->Sto->(Option Int->Sto->Prop)->Prop
noncomputable def OB:WO:=fun _ S Q=>Q none S
noncomputable def Jc(w:WE):WO:=fun ρ S Q=>w ρ S fun x S1=>∃ i,x = .int i/\Q (some i) S1
noncomputable def Bz(xs:List SV)(lo hi:Option Int):List SV:=(xs.drop (HT.sIx xs.length 0 lo)).take (HT.sIx xs.length xs.length hi - HT.sIx xs.length 0 lo)
noncomputable def Hq:SV->Option Int->Option Int->Sto->QE->Prop
 | .loc k,lo,hi,S,Q=>∃ xs,S[k]?=some (.lst xs)/\Q (.loc S.length) (S++[.lst (Bz xs lo hi)])
 | .tup xs,lo,hi,S,Q=>Q (.tup (Bz xs lo hi)) S
 | _,_,_,_,_=>False
noncomputable def OC(a:WE)(lo hi:WO):WE:=fun ρ S Q=>a ρ S fun x S1=>lo ρ S1 fun l S2=>hi ρ S2 fun h S3=>Hq x l h S3 Q
noncomputable abbrev WI:=EnvS->Sto->((Sto->Prop)->List SV->Sto->Prop)->Prop
noncomputable def keepS:SV->Sto->Sto->Prop
 | .loc k,S,S'=>S'[k]?=S[k]?
 | _,_,_=>True
noncomputable def Mt(w:WE):WI:=fun ρ S R=>w ρ S fun x S1=>∃ xs,seqS x S1=some xs/\R (keepS x S1) xs S1
noncomputable def Am(lo hi:Int):List SV:=(RL (hi - lo).toNat).map fun(i:Nat) => .int (lo+i)
noncomputable def Jd(w:WE):WI:=fun ρ S R=>w ρ S fun x S1=>∃ j,x = .int j/\(-(2 ^ 62)<=j/\j<2 ^ 62)/\R (fun _=>True) (Am 0 j) S1
noncomputable def Je(w u:WE):WI:=fun ρ S R=>w ρ S fun x S1=>u ρ S1 fun y S2=>∃ i j,x = .int i/\y = .int j/\(-(2 ^ 62)<=i/\i<2 ^ 62 /\ -(2 ^ 62)<=j/\j<2 ^ 62)/\R (fun _=>True) (Am i j) S2
noncomputable def AO(xs:List SV):List SV:=(RL xs.length).zipWith (fun(i:Nat) x => .tup [.int i,x]) xs
noncomputable def Jf(w:WE):WI:=fun ρ S R=>w ρ S fun x S1=>∃ xs,seqS x S1=some xs/\R (keepS x S1) (AO xs) S1
noncomputable def Py(w:WE):WI:=fun ρ S R=>w ρ S fun x S1=>∃ k xs,x = .loc k/\S1[k]?=some (.lst xs)/\R (keepS x S1) xs.reverse S1
noncomputable def FV(a:WE):WE:=fun ρ S Q=>a ρ S fun x S1=>∃ j,x = .int j/\(-(2 ^ 62)<=j/\j<=100000)/\Q (.loc S1.length) (S1++[.lst (Am 0 j)])
noncomputable def FW(a d:WE):WE:=fun ρ S Q=>a ρ S fun x S1=>d ρ S1 fun y S2=>∃ k xs,x = .loc k/\y = .ty .str/\S2[k]?=some (.lst xs)/\xs.length<64/\(∀ v∈xs,∃ d,u7 20 S2 v=some d/\Fit d)/\∀ ys,ys.Perm xs->Q (.loc S2.length) (S2++[.lst ys])
noncomputable def Dg(a:WE):WE:=fun ρ S Q=>a ρ S fun x S1=>∃ xs ns,x ≠ .tup xs/\seqS x S1=some xs/\Db xs=some ns/\ns.length<=900/\Q (.int (Bv ns).length) S1
noncomputable def C0(kvs:List (Int×SV))(i:Int):Option SV:=(kvs.find? fun p=>decide (p.1=i)).map (·.2)
noncomputable def CO(kvs:List (Int×SV))(i:Int)(x:SV):List (Int×SV):=if (kvs.any fun p=>decide (p.1=i))=true then kvs.map (fun p=>if p.1=i then (p.1,x) else p) else kvs++[(i,x)]
noncomputable def OD:SV->Sto->Option (List (Int×SV))
 | .loc k,S=>match S[k]? with | some (.dct kvs)=>some kvs | some (.dcf _ _ kvs)=>some kvs | _=>none
 | _,_=>none
noncomputable def Hr(neg:Bool):S2:=fun y x S Q=>∃ kvs i,OD x S=some kvs/\y = .int i/\Q (.bl (if neg then !(C0 kvs i).isSome else (C0 kvs i).isSome)) S
noncomputable def Jg(a:WE):WE:=fun ρ S Q=>a ρ S fun x S1=>∃ k kvs,x = .loc k/\S1[k]?=some (.dct kvs)/\Q (.int kvs.length) S1
noncomputable def Jh:WE:=fun _ S Q=>Q (.loc S.length) (S++[.dct []])
noncomputable def GR:SV->SV->SV->Sto->(Sto->Prop)->Prop:=fun x y v S Q=>∃ k i kvs,x = .loc k/\y = .int i/\(S[k]?=some (.dct kvs)\/∃ o ks,S[k]?=some (.dcf o ks kvs))/\kvs.length<big/\Q (S.set k (.dct (CO kvs i v)))
noncomputable def wMt(m:MT)(a:WE)(b:WA):WE:=fun ρ S Q=>a ρ S fun x S1=>(∃ k xs,x = .loc k/\S1[k]?=some (.lst xs))/\b ρ S1 fun xs S2=>sMt m x xs S2 Q
mutual
noncomputable def wTg:Tg->SV->EnvS->(EnvS->Prop)->Prop
 | .nm i,x,ρ,Q=>Q (ρ.set i (some x))
 | .tup ts,.tup xs,ρ,Q=>A8 ts xs ρ Q
 | .tup _,_,_,_=>False
noncomputable def A8:Tgs->List SV->EnvS->(EnvS->Prop)->Prop
 | .nil,[],ρ,Q=>Q ρ
 | .cons t ts,x::xs,ρ,Q=>wTg t x ρ fun ρ'=>A8 ts xs ρ' Q
 | _,_,_,_=>False
end
noncomputable def BA(k:Nat)(js:List Nat)(ρ:EnvS):EnvS:=Rc k none++js.map fun j=>(ρ[j]?).join
noncomputable def l9(keep:Sto->Prop)(g:Tg)(t:WT)(e:WE)(ρ:EnvS)(Q:List SV->Sto->Prop):List SV->List SV->Sto->Prop
 | [],ys,S=>keep S/\Q ys S
 | x::xs,ys,S=>keep S/\wTg g x ρ fun ρ2=>t ρ2 S fun b S1=>if b=true then e ρ2 S1 fun y S2=>ys.length<big/\l9 keep g t e ρ Q xs (ys++[y]) S2 else l9 keep g t e ρ Q xs ys S1
noncomputable def GS(k:Nat)(js:List Nat)(g:Tg)(i:WI)(t:WT)(e:WE):WE:=fun ρ S Q=>i ρ S fun keep xs S1=>l9 keep g t e (BA k js ρ) (fun ys S2=>Q (.loc S2.length) (S2++[.lst ys])) xs [] S1
noncomputable def i9(keep:Sto->Prop)(g:Tg)(t:WT)(e:WE)(Q:List SV->Sto->Prop):List SV->EnvS->List SV->Sto->Prop
 | [],_,ys,S=>keep S/\Q ys S
 | x::xs,ρ,ys,S=>keep S/\wTg g x ρ fun ρ2=>t ρ2 S fun b S1=>if b=true then e ρ2 S1 fun y S2=>ys.length<big/\i9 keep g t e Q xs ρ2 (ys++[y]) S2 else i9 keep g t e Q xs ρ2 ys S1
noncomputable def i4(keep:Sto->Prop)(g:Tg)(t:WT)(g2:Tg)(i2:WI)(t2:WT)(e:WE)(ρ:EnvS)(Q:List SV->Sto->Prop):List SV->List SV->Sto->Prop
 | [],ys,S=>keep S/\Q ys S
 | x::xs,ys,S=>keep S/\wTg g x ρ fun ρ2=>t ρ2 S fun b S1=>if b=true then i2 ρ2 S1 fun keep2 xs2 S2=>i9 keep2 g2 t2 e (fun ys' S3=>i4 keep g t g2 i2 t2 e ρ Q xs ys' S3) xs2 ρ2 ys S2 else i4 keep g t g2 i2 t2 e ρ Q xs ys S1
noncomputable def Dh(k:Nat)(js:List Nat)(g:Tg)(i:WI)(t:WT)(g2:Tg)(i2:WI)(t2:WT)(e:WE):WE:=fun ρ S Q=>i ρ S fun keep xs S1=>i4 keep g t g2 i2 t2 e (BA k js ρ) (fun ys S2=>Q (.loc S2.length) (S2++[.lst ys])) xs [] S1
noncomputable def tt1(w:WE):WE×WT:=(w,OA w)
noncomputable def wBl(w:WE):WT:=fun ρ S Q=>w ρ S fun x S'=>∃ b,x = .bl b/\Q b S'
noncomputable def tt2(w:WE):WE×WT:=(w,wBl w)
noncomputable def Pz:WT:=fun _ S Q=>Q true S
mutual
noncomputable def wEx(Δ:Nat->Sn):Ex->WE×WT
 | .var i=>tt1 (Np i)
 | .c x=>tt1 (wC x)
 | .op o a b=>tt1 (w2 (sOp o) (wEx Δ a).1 (wEx Δ b).1)
 | .neg a=>tt1 (w1 JZ (wEx Δ a).1)
 | .cmp o a b=>tt2 (w2 (Ae o) (wEx Δ a).1 (wEx Δ b).1)
 | .chn o p a b c=>tt2 (Jb (Ae o) (Ae p) (wEx Δ a).1 (wEx Δ b).1 (wEx Δ c).1)
 | .and a b=>(Ja (wEx Δ a).1 (wEx Δ b).1,CN (wEx Δ a).2 (wEx Δ b).2)
 | .or a b=>(wOr (wEx Δ a).1 (wEx Δ b).1,FU (wEx Δ a).2 (wEx Δ b).2)
 | .not a=>(Lf (wEx Δ a).1,GQ (wEx Δ a).2)
 | .tup es=>tt1 (wn LN (Di Δ es))
 | .lst es=>tt1 (wn LO (Di Δ es))
 | .ix a b=>tt1 (w2 sIx (wEx Δ a).1 (wEx Δ b).1)
 | .slc a lo hi=>tt1 (OC (wEx Δ a).1 (wEo Δ lo).1 (wEo Δ hi).1)
 | .call f es=>tt1 (wn (Δ f) (Di Δ es))
 | .bi b es=>tt1 (wn (sBi b) (Di Δ es))
 | .mt m a es=>tt1 (wMt m (wEx Δ a).1 (Di Δ es))
 | .comp own _ js g it t e=>tt1 (GS own.length js g (FX Δ it) (wEo Δ t).2 (wEx Δ e).1)
 | .comp2 own _ js g it t g2 it2 t2 e=>tt1 (Dh own.length js g (FX Δ it) (wEo Δ t).2 g2 (FX Δ it2) (wEo Δ t2).2 (wEx Δ e).1)
 | .tyc t=>tt1 (wC (.ty t))
 | .lrng1 a=>tt1 (FV (wEx Δ a).1)
 | .srtks a d=>tt1 (FW (wEx Δ a).1 (wEx Δ d).1)
 | .lend a=>tt1 (Jg (wEx Δ a).1)
 | .lenset a=>tt1 (Dg (wEx Δ a).1)
 | .dnew=>tt1 Jh
 | .din n a b=>tt2 (w2 (Hr n) (wEx Δ a).1 (wEx Δ b).1)
 | .no=>(fun _ _ _=>False,fun _ _ _=>False)
noncomputable def Di(Δ:Nat->Sn):Exs->WA
 | .nil=>DD
 | .cons e es=>CM (wEx Δ e).1 (Di Δ es)
noncomputable def wEo(Δ:Nat->Sn):Eo->WO×WT
 | .no=>(OB,Pz)
 | .yes e=>(Jc (wEx Δ e).1,(wEx Δ e).2)
noncomputable def FX(Δ:Nat->Sn):Itb->WI
 | .seq e=>Mt (wEx Δ e).1
 | .rng1 a=>Jd (wEx Δ a).1
 | .rng2 a b=>Je (wEx Δ a).1 (wEx Δ b).1
 | .enum e=>Jf (wEx Δ e).1
 | .rv e=>Py (wEx Δ e).1
end
structure EndsS where
 nx:EnvS->Sto->Prop
 rt:SV->Sto->Prop
 bk:EnvS->Sto->Prop:=fun _ _=>False
 ct:EnvS->Sto->Prop:=fun _ _=>False
noncomputable abbrev WS:=EndsS->EnvS->Sto->Prop
noncomputable def Hs:SV->SV->SV->Sto->(Sto->Prop)->Prop
 | .loc k,.int i,v,S,Q=>∃ xs j,S[k]?=some (.lst xs)/\ixN xs.length i=some j/\Q (S.set k (.lst (xs.set j v)))
 | _,_,_,_,_=>False
noncomputable def t6(keep:Sto->Prop)(g:Tg)(b:WS)(D:EndsS):List SV->EnvS->Sto->Prop
 | [],ρ,S=>keep S/\D.nx ρ S
 | x::xs,ρ,S=>keep S/\wTg g x ρ fun ρ2=>b {D with nx:=t6 keep g b D xs,ct:=t6 keep g b D xs,bk:=D.nx} ρ2 S
noncomputable def OE(t:WT)(b:WS):WS:=fun D ρ S=>∃ W:Nat->EnvS->Sto->Prop,(∃ m,W m ρ S)/\∀ m ρ S,W m ρ S->t ρ S fun c S1=>if c=true then
 b {D with nx:=fun ρ' S'=>∃ m',m'<m/\W m' ρ' S',ct:=fun ρ' S'=>∃ m',m'<m/\W m' ρ' S',bk:=D.nx} ρ S1 else D.nx ρ S1
mutual
noncomputable def wSt(Δ:Nat->Sn):Stm->WS
 | .asg t e=>fun D ρ S=>(wEx Δ e).1 ρ S fun x S1=>wTg t x ρ fun ρ'=>D.nx ρ' S1
 | .par i j a b=>fun D ρ S=>(wEx Δ a).1 ρ S fun x S1=>(wEx Δ b).1 ρ S1 fun y S2=>D.nx ((ρ.set i (some x)).set j (some y)) S2
 | .put o i e=>fun D ρ S=>(wEx Δ e).1 ρ S fun v S1=>(wEx Δ o).1 ρ S1 fun x S2=>(wEx Δ i).1 ρ S2 fun y S3=>Hs x y v S3 fun S4=>D.nx ρ S4
 | .dput o i e=>fun D ρ S=>(wEx Δ e).1 ρ S fun v S1=>(wEx Δ o).1 ρ S1 fun x S2=>(wEx Δ i).1 ρ S2 fun y S3=>GR x y v S3 fun S4=>D.nx ρ S4
 | .expr e=>fun D ρ S=>(wEx Δ e).1 ρ S fun _ S1=>D.nx ρ S1
 | .iff t a b=>fun D ρ S=>(wEx Δ t).2 ρ S fun c S1=>if c=true then wSs Δ a D ρ S1 else wSs Δ b D ρ S1
 | .loop g it b=>fun D ρ S=>FX Δ it ρ S fun keep xs S1=>t6 keep g (wSs Δ b) D xs ρ S1
 | .whl t b=>OE (wEx Δ t).2 (wSs Δ b)
 | .ret e=>fun D ρ S=>(wEx Δ e).1 ρ S D.rt
 | .no=>fun _ _ _=>False
noncomputable def wSs(Δ:Nat->Sn):List Stm->WS
 | []=>fun D ρ S=>D.nx ρ S
 | s::ss=>fun D ρ S=>wSt Δ s {D with nx:=wSs Δ ss D} ρ S
end
theorem m8{α:Type}{P:Prop}{x:α}(h:(none:Option α)=some x):P:=nomatch h
noncomputable def AQ(scope sc:VI):VI:={scope with names:=scope.names.map fun(n,k)=>if (k == .free&&sc.kind == .function&&sc.names.lookup n == some .cell) then (n,.cell) else (n,k)}
noncomputable def c2:Expr->Bool
 | .Starred ..=>false
 | _=>true
theorem c6{e:Expr}{es:List Expr}{env:Env}(h:c2 e=true):VF (e::es) env=(false,eval e env)::VF es env:=by
 cases e<;>first | rfl | cases h
theorem BJ{env:Env}{pos:Pos}:∀{es:List Expr},es.all c2=true->(backTo pos (VF es env)).any (·.1)=false
 | [],_=>rfl
 | e::es,h=>by
   rw[SF,RA]at h;rw[c6 h.1];exact BJ (es:=es) h.2
theorem DF{env:Env}{pos:Pos}:∀{es:List Expr},es.all c2=true->(backTo pos (VF es env)).all (fun x=>!x.1)=true
 | [],_=>rfl
 | e::es,h=>by
   rw[SF,RA]at h;rw[c6 h.1];exact DF (es:=es) h.2
noncomputable def glo(sc:VI)(x:Str):Bool:=sc.names.lookup x == some .globalImplicit&&!(x == ("__name__":Str))&&!(x == ("__debug__":Str))
noncomputable def vis(sc:VI)(x:Str):Bool:=sc.names.lookup x == some .local||sc.names.lookup x == some .cell||sc.names.lookup x == some .free
noncomputable def loc(sc:VI)(x:Str):Bool:=sc.names.lookup x == some .local||sc.names.lookup x == some .cell
noncomputable def OF:SV->Const->Bool
 | .non,.none=>true
 | .bl a,.bool b=>a == b
 | .int i,.int j=>decide (i=j)
 | .str x,.str y=>decide (x=y)
 | _,_=>false
noncomputable def AR:Expr->Bool
 | .Slice ..=>false
 | _=>true
noncomputable def j9:Expr->Bool
 | .Set ..=>false
 | _=>true
noncomputable def Ji:Expr->Bool
 | .UnaryOp .Not _ _=>false
 | .BoolOp ..=>false
 | .IfExp ..=>false
 | .Compare ..=>false
 | _=>true
noncomputable def C2:Expr->Bool
 | .Call (.Name _ _) [] [] _=>false
 | _=>true
noncomputable def BK:Expr->Option Str
 | .Name x _=>some x
 | _=>none
noncomputable def Jj:Expr->Option Const
 | .Constant k _ _=>some k
 | _=>none
noncomputable def Q0:Expr->Option (Expr×W8×Expr)
 | .BinOp a o b _=>some (a,o,b)
 | _=>none
noncomputable def vUn:Expr->Option (UnaryOp×Expr)
 | .UnaryOp o a _=>some (o,a)
 | _=>none
noncomputable def Lg:Expr->Option (Expr×List CmpOp×List Expr)
 | .Compare a os bs _=>some (a,os,bs)
 | _=>none
noncomputable def Jk:Expr->Option (BoolOp×List Expr×Pos)
 | .BoolOp o vs p=>some (o,vs,p)
 | _=>none
noncomputable def EK:Expr->Option (List Expr)
 | .Tuple es _ _=>some es
 | _=>none
noncomputable def Q1:Expr->Option (List Expr)
 | .List es _=>some es
 | _=>none
noncomputable def Jl:Expr->Option (Expr×Expr)
 | .Subscript a b _=>some (a,b)
 | _=>none
noncomputable def Q2:Expr->Option (Option Expr×Option Expr×Option Expr)
 | .Slice l h s _=>some (l,h,s)
 | _=>none
noncomputable def CP:Expr->Option (Expr×List Expr×List Keyword)
 | .Call f as ks _=>some (f,as,ks)
 | _=>none
noncomputable def FY:Expr->Nat
 | .Call _ _ _ p=>p.line
 | _=>0
noncomputable def Jm:Expr->Option (Expr×Str×Nat)
 | .Attribute o n p=>some (o,n,p.endLine)
 | _=>none
noncomputable def EL:Expr->Option (Expr×List Comprehension×VI)
 | .ListComp e gs s _=>some (e,gs,s)
 | _=>none
noncomputable def Mu:Expr->Option (List (Option Expr)×List Expr)
 | .Dict ks vs _=>some (ks,vs)
 | _=>none
theorem Jn{r:Expr}{x:List (Option Expr)×List Expr}(h:Mu r=some x):∃ p,r = .Dict x.1 x.2 p:=by cases r<;>first | (cases h;exact⟨_,rfl⟩) | exact m8 h
theorem Av{r:Expr}{x:Str}(h:BK r=some x):∃ p,r = .Name x p:=by cases r<;>first | (cases h;exact⟨_,rfl⟩) | exact m8 h
theorem Ht{r:Expr}{x:Const}(h:Jj r=some x):∃ j p,r = .Constant x j p:=by cases r<;>first | (cases h;exact⟨_,_,rfl⟩) | exact m8 h
theorem Lh{r:Expr}{x:Expr×W8×Expr}(h:Q0 r=some x):∃ p,r = .BinOp x.1 x.2.1 x.2.2 p:=by cases r<;>first | (cases h;exact⟨_,rfl⟩) | exact m8 h
theorem Jo{r:Expr}{x:UnaryOp×Expr}(h:vUn r=some x):∃ p,r = .UnaryOp x.1 x.2 p:=by cases r<;>first | (cases h;exact⟨_,rfl⟩) | exact m8 h
theorem Dj{r:Expr}{x:Expr×List CmpOp×List Expr}(h:Lg r=some x):∃ p,r = .Compare x.1 x.2.1 x.2.2 p:=by cases r<;>first | (cases h;exact⟨_,rfl⟩) | exact m8 h
theorem EM{r:Expr}{x:BoolOp×List Expr×Pos}(h:Jk r=some x):r = .BoolOp x.1 x.2.1 x.2.2:=by cases r<;>first | (cases h;exact rfl) | exact m8 h
theorem B3{r:Expr}{x:List Expr}(h:EK r=some x):∃ j p,r = .Tuple x j p:=by cases r<;>first | (cases h;exact⟨_,_,rfl⟩) | exact m8 h
theorem Li{r:Expr}{x:List Expr}(h:Q1 r=some x):∃ p,r = .List x p:=by cases r<;>first | (cases h;exact⟨_,rfl⟩) | exact m8 h
theorem C3{r:Expr}{x:Expr×Expr}(h:Jl r=some x):∃ p,r = .Subscript x.1 x.2 p:=by cases r<;>first | (cases h;exact⟨_,rfl⟩) | exact m8 h
theorem Lj{r:Expr}{x:Option Expr×Option Expr×Option Expr}(h:Q2 r=some x):∃ p,r = .Slice x.1 x.2.1 x.2.2 p:=by cases r<;>first | (cases h;exact⟨_,rfl⟩) | exact m8 h
theorem CQ{r:Expr}{x:Expr×List Expr×List Keyword}(h:CP r=some x):∃ p,r = .Call x.1 x.2.1 x.2.2 p/\FY r=p.line:=by cases r<;>first | (cases h;exact⟨_,rfl,rfl⟩) | exact m8 h
theorem Jp{r:Expr}{x:Expr×Str×Nat}(h:Jm r=some x):∃ p,r = .Attribute x.1 x.2.1 p/\x.2.2=p.endLine:=by cases r<;>first | (cases h;exact⟨_,rfl,rfl⟩) | exact m8 h
theorem BL{r:Expr}{x:Expr×List Comprehension×VI}(h:EL r=some x):∃ p,r = .ListComp x.1 x.2.1 x.2.2 p:=by cases r<;>first | (cases h;exact⟨_,rfl⟩) | exact m8 h
theorem a4{α:Type}{o:Option α}{p:α->Bool}(h:o.any p=true):∃ x,o=some x/\p x=true:=by
 cases o with
 | none=>cases h
 | some x=>exact⟨x,rfl,h⟩
theorem AA{α:Type}{l:List α}{x:α}(h:l.head?=some x):l=x::l.tail:=by
 cases l with
 | nil=>cases h
 | cons y r=>cases h;rfl
noncomputable def l1{α:Type}:List α->Option α
 | [x]=>some x
 | _=>none
noncomputable def l2{α:Type}:List α->Option (α×α)
 | [x,y]=>some (x,y)
 | _=>none
theorem p9{α:Type}{l:List α}{x:α}(h:l1 l=some x):l=[x]:=by
 match l,h with
 | [y],h=>cases h;rfl
theorem DG{α:Type}{l:List α}{x:α×α}(h:l2 l=some x):l=[x.1,x.2]:=by
 match l,h with
 | [y,z],h=>cases h;rfl
noncomputable def l3{α:Type}:List α->Option (α×α×α)
 | [x,y,z]=>some (x,y,z)
 | _=>none
noncomputable def OG(r:Expr):Option (Str×List Expr×Keyword):=(CP r).bind fun c=>match c.2.2 with
 | [kw]=>(BK c.1).map fun x=>(x,c.2.1,kw)
 | _=>none
theorem Lk{r:Expr}{x:Str×List Expr×Keyword}(h:OG r=some x):∃ p q,r = .Call (.Name x.1 p) x.2.1 [x.2.2] q:=by
 unfold OG at h;cases hc:CP r with
 | none=>rw[hc]at h;cases h
 | some c=>
   rw[hc]at h;obtain⟨q,e,_⟩:=CQ hc;obtain⟨f,as,ks⟩:=c
   match ks,h with
   | [kw],h=>
     replace h:(BK f).map (fun x=>(x,as,kw))=some x:=h;cases hn:BK f with
     | none=>rw[hn]at h;cases h
     | some nm=>
       rw[hn]at h;cases h;obtain⟨p,e2⟩:=Av hn;exact⟨p,q,by rw[e,e2]⟩
   | [],h=>cases h
   | _::_::_,h=>cases h
noncomputable def vFn(r:Expr):Option (Str×List Expr):=(CP r).bind fun c=>if c.2.2.isEmpty then (BK c.1).map fun x=>(x,c.2.1) else none
theorem y2{r:Expr}{x:Str×List Expr}(h:vFn r=some x):∃ p q,r = .Call (.Name x.1 p) x.2 [] q:=by
 unfold vFn at h;cases hc:CP r with
 | none=>rw[hc]at h;cases h
 | some c=>
   rw[hc]at h;obtain⟨q,e,_⟩:=CQ hc;simp only[U2]at h;by_cases hk:c.2.2.isEmpty=true
   ·rw[iP hk]at h;cases hn:BK c.1 with
    | none=>rw[hn]at h;cases h
    | some y=>
      rw[hn]at h;cases h;obtain⟨p,ep⟩:=Av hn;rw[e,ep,SA.mp hk];exact⟨p,q,rfl⟩
   ·rw[iG hk]at h;cases h
noncomputable def vMt(r:Expr):Option (Expr×Str×List Expr):=(CP r).bind fun c=>if c.2.2.isEmpty then (Jm c.1).bind fun a=>if a.2.2 == FY r then some (a.1,a.2.1,c.2.1) else none else none
theorem OH{r:Expr}{x:Expr×Str×List Expr}(h:vMt r=some x):∃ ap cp,r = .Call (.Attribute x.1 x.2.1 ap) x.2.2 [] cp/\(ap.endLine == cp.line)=true:=by
 unfold vMt at h;cases hc:CP r with
 | none=>rw[hc]at h;cases h
 | some c=>
   rw[hc]at h;obtain⟨q,e,el⟩:=CQ hc;simp only[U2]at h;by_cases hk:c.2.2.isEmpty=true
   ·rw[iP hk]at h;cases hn:Jm c.1 with
    | none=>rw[hn]at h;cases h
    | some y=>
      rw[hn]at h;simp only[U2]at h;obtain⟨p,ep,el2⟩:=Jp hn;by_cases hl:(y.2.2 == FY r)=true
      ·rw[iP hl]at h;cases h;refine⟨p,q,?_,?_⟩
       ·rw[e,ep,SA.mp hk]
       ·rw[<-el2,<-el];exact hl
      ·rw[iG hl]at h;cases h
   ·rw[iG hk]at h;cases h
mutual
noncomputable def y4(k:Nat)(N:List Str)(sc:VI):Tg->Expr->Bool
 | .nm i,r=>(BK r).any fun x=>decide (i<k)&&decide (N[i]?=some x)&&loc sc x
 | .tup ts,r=>(EK r).any fun es=>y6 k N sc ts es
noncomputable def y6(k:Nat)(N:List Str)(sc:VI):Tgs->List Expr->Bool
 | .nil,r=>r.isEmpty
 | .cons t ts,r=>(r.head?).any fun e=>y4 k N sc t e&&c2 e&&y6 k N sc ts r.tail
end
noncomputable def nmB(N:List Str)(sc:VI)(i:Nat)(x:Str):Bool:=decide (N[i]?=some x)&&vis sc x&&!(x == ("__debug__":Str))&&!(x == ("__classdict__":Str))
mutual
noncomputable def f6(T:List Str)(N:List Str)(sc:VI):Ex->Expr->Bool
 | .var i,r=>(BK r).any fun x=>nmB N sc i x
 | .c x,r=>(Jj r).any fun k=>OF x k
 | .op o a b,r=>(Q0 r).any fun v=>decide (o=v.2.1)&&f6 T N sc a v.1&&f6 T N sc b v.2.2
 | .neg a,r=>(vUn r).any fun v=>decide (v.1 = .USub)&&f6 T N sc a v.2
 | .cmp o a b,r=>(Lg r).any fun v=>(l1 v.2.2).any fun rb=>decide (v.2.1=[o])&&f6 T N sc a v.1&&f6 T N sc b rb&&j9 rb
 | .chn o p a b c,r=>(Lg r).any fun v=>(l2 v.2.2).any fun rs=>decide (v.2.1=[o,p])&&f6 T N sc a v.1&&f6 T N sc b rs.1&&f6 T N sc c rs.2&&j9 rs.2
 | .and a b,r=>(Jk r).any fun v=>decide (v.1 = .And)&&(v.2.1.head?).any fun x=>f6 T N sc a x&&(match l1 v.2.1.tail with | some y=>f6 T N sc b y | none=>decide (2<=v.2.1.tail.length)&&f6 T N sc b (.BoolOp .And v.2.1.tail v.2.2))
 | .or a b,r=>(Jk r).any fun v=>decide (v.1 = .Or)&&(v.2.1.head?).any fun x=>f6 T N sc a x&&(match l1 v.2.1.tail with | some y=>f6 T N sc b y | none=>decide (2<=v.2.1.tail.length)&&f6 T N sc b (.BoolOp .Or v.2.1.tail v.2.2))
 | .not a,r=>(vUn r).any fun v=>decide (v.1 = .Not)&&f6 T N sc a v.2
 | .tup es,r=>(EK r).any fun rs=>AS T N sc es rs
 | .lst es,r=>(Q1 r).any fun rs=>AS T N sc es rs
 | .ix a b,r=>(Jl r).any fun v=>f6 T N sc a v.1&&f6 T N sc b v.2&&AR v.2
 | .slc a lo hi,r=>(Jl r).any fun v=>(Q2 v.2).any fun s=>f6 T N sc a v.1&&Jq T N sc lo s.1&&Jq T N sc hi s.2.1&&s.2.2.isNone
 | .call f es,r=>(vFn r).any fun v=>decide (T[f]?=some v.1)&&glo sc v.1&&AS T N sc es v.2&&!v.2.isEmpty
 | .bi b es,r=>(vFn r).any fun v=>decide (b.name=v.1)&&glo sc v.1&&AS T N sc es v.2&&!v.2.isEmpty
 | .mt m a es,r=>(vMt r).any fun v=>decide (v.2.1=m.name)&&C2 v.1&&decide (v.2.2.length<29)&&f6 T N sc a v.1&&AS T N sc es v.2.2
 | .comp own cn js g it t e,r=>(EL r).any fun v=>(l1 v.2.1).any fun c=>decide (c.is_async=0)&&i6 sc v.2.2 own cn N js&&y4 own.length (own++cn) (AQ v.2.2 sc) g c.target&&EN T N sc it c.target c.iter&&j9 c.iter&&BM T (own++cn) (AQ v.2.2 sc) t c.ifs&&f6 T (own++cn) (AQ v.2.2 sc) e v.1
 | .comp2 own cn js g it t g2 it2 t2 e,r=>(EL r).any fun v=>(l2 v.2.1).any fun c=>decide (c.1.is_async=0)&&decide (c.2.is_async=0)&&i6 sc v.2.2 own cn N js&&y4 own.length (own++cn) (AQ v.2.2 sc) g c.1.target&&EN T N sc it c.1.target c.1.iter&&j9 c.1.iter&&BM T (own++cn) (AQ v.2.2 sc) t c.1.ifs&&y4 own.length (own++cn) (AQ v.2.2 sc) g2 c.2.target&&EN T (own++cn) (AQ v.2.2 sc) it2 c.2.target c.2.iter&&j9 c.2.iter&&BM T (own++cn) (AQ v.2.2 sc) t2 c.2.ifs&&f6 T (own++cn) (AQ v.2.2 sc) e v.1
 | .tyc t,r=>(BK r).any fun x=>decide (x=Str.ofString t.nm)&&glo sc x&&decide (t ≠ .none)
 | .lrng1 a,r=>(vFn r).any fun v=>(l1 v.2).any fun z=>(vFn z).any fun u=>(l1 u.2).any fun ra=>decide (v.1=("list":Str))&&decide (u.1=("range":Str))&&glo sc v.1&&glo sc u.1&&f6 T N sc a ra&&c2 ra
 | .srtks a d,r=>(OG r).any fun v=>(l1 v.2.1).any fun ra=>decide (v.1=("sorted":Str))&&glo sc v.1&&f6 T N sc a ra&&f6 T N sc d v.2.2.value&&c2 ra&&decide (v.2.2.arg=some ("key":Str))
 | .lend a,r=>(vFn r).any fun v=>(l1 v.2).any fun ra=>decide (v.1=("len":Str))&&glo sc v.1&&f6 T N sc a ra&&c2 ra
 | .lenset a,r=>(vFn r).any fun v=>(l1 v.2).any fun z=>(vFn z).any fun u=>(l1 u.2).any fun ra=>decide (v.1=("len":Str))&&decide (u.1=("set":Str))&&glo sc v.1&&glo sc u.1&&f6 T N sc a ra&&c2 ra
 | .dnew,r=>(Mu r).any fun v=>v.1.isEmpty&&v.2.isEmpty
 | .din n a b,r=>(Lg r).any fun v=>(l1 v.2.2).any fun rb=>decide (v.2.1=[if n then .NotIn else .In])&&f6 T N sc a v.1&&f6 T N sc b rb&&j9 rb
 | .no,_=>true
noncomputable def AS(T:List Str)(N:List Str)(sc:VI):Exs->List Expr->Bool
 | .nil,r=>r.isEmpty
 | .cons e es,r=>(r.head?).any fun x=>f6 T N sc e x&&c2 x&&AS T N sc es r.tail
noncomputable def Jq(T:List Str)(N:List Str)(sc:VI):Eo->Option Expr->Bool
 | .no,r=>r.isNone
 | .yes e,r=>r.any fun x=>f6 T N sc e x
noncomputable def BM(T:List Str)(N:List Str)(sc:VI):Eo->List Expr->Bool
 | .no,r=>r.isEmpty
 | .yes e,r=>(l1 r).any fun x=>f6 T N sc e x
noncomputable def EN(T:List Str)(N:List Str)(sc:VI):Itb->Expr->Expr->Bool
 | .seq e,_,r=>f6 T N sc e r
 | .rng1 a,_,r=>(vFn r).any fun v=>(l1 v.2).any fun ra=>decide (v.1=("range":Str))&&glo sc v.1&&f6 T N sc a ra&&c2 ra
 | .rng2 a b,_,r=>(vFn r).any fun v=>(l2 v.2).any fun ra=>decide (v.1=("range":Str))&&glo sc v.1&&f6 T N sc a ra.1&&c2 ra.1&&f6 T N sc b ra.2&&c2 ra.2
 | .enum e,tg,r=>(EK tg).isSome&&(vFn r).any fun v=>(l1 v.2).any fun a=>decide (v.1=("enumerate":Str))&&glo sc v.1&&f6 T N sc e a&&c2 a
 | .rv e,_,r=>(vFn r).any fun v=>(l1 v.2).any fun ra=>decide (v.1=("reversed":Str))&&glo sc v.1&&f6 T N sc e ra&&c2 ra
end
noncomputable def spS(K:R8)(w:Sn):Sp:=fun vs H Q _=>∃ as S xs,Ok K as H S/\RlAll K as H vs xs/\w xs S (Post K as H Q)
structure Cal(P:VC)(w:VG)(K:R8)(mg:Str->Option V4)(base:Heap)(k:Nat)(x:Str)(ps:List Str)(sp:Sp):Prop where
 ex:∃ f fd,FnOk P w K mg base CX0 k f fd ps sp/\mg x=some (.ref f)/\PySem.W.keepIn K (.ref f)=true/\Binds K fd ps []
structure Cok(T:List Str)(Δ:Nat->Sn)(X:Cx)(k:Nat)(N:List Str)(sc:VI):Prop where
 hN:X.N=N
 hs:X.env.scope=sc
 nd:N.Nodup
 calm:X.calm=true
 fn:∀ i x,i<k->N[i]?=some x->sc.names.lookup x=some .cell->X.fn x=true
 un:X.A.units+102<cLine
 bl:∀ b:BI,X.mg b.name=none
 rng:X.mg "range"=none
 enm:X.mg "enumerate"=none
 rvs:X.mg "reversed"=none
 zip:X.mg "zip"=none
 st0:X.mg "set"=none
 dc0:X.mg "dict"=none
 ty:∀ t:TyN,t ≠ .none->X.mg (Str.ofString t.nm)=none
 gd:X.A.guards=some []
 call:∀ f x,T[f]?=some x->∃ k ps,Cal X.prog X.w X.K X.mg X.base k x ps (spS X.K (Δ f))/\Room k X.A
 mono:∀ f,MonoN (Δ f)
structure Good(X:Cx)(r:Expr)(w:WE×WT):Prop where
 pe:PE X r (lift X.K w.1)
 pt:PT X r (liftT X.K w.2)
 m:Mono w.1
 mt:MonoT w.2
 pw:∀ op vs p,r = .BoolOp op vs p->PW X r (liftT X.K w.2)
section
variable{X:Cx}{r:Expr}{w:WE}
theorem MonoT.tru(m:Mono w):MonoT (OA w):=fun ρ S P P' i h=>m _ _ _ _ (fun x S' ⟨b,e,q⟩=>⟨b,e,i _ _ q⟩) h
theorem MonoT.bl(m:Mono w):MonoT (wBl w):=fun ρ S P P' i h=>m _ _ _ _ (fun x S' ⟨b,e,q⟩=>⟨b,e,i _ _ q⟩) h
theorem OI{K:R8}{as:List V7}{H:Hp}{S:Sto}{x:SV}{v:V}{b:Bool}(ok:Ok K as H S)(r:Rl K as H v x)(e:O9 x S=some b):L1 K v H b:=by
 cases x with
 | bl c=>cases e;rw[rl_bl.mp r];exact rfl
 | loc k=>
   unfold O9 at e;cases hs:S[k]? with
   | none=>simp only[hs]at e;cases e
   | some o=>
     cases o with
     | lst xs=>
       simp only[hs]at e;cases e;obtain⟨a,vs,rfl,_,ha,rr⟩:=j3 ok r hs;refine .inl ⟨vs,SqL.of ha,?_⟩;have:=rr.length;cases vs<;>cases xs<;>first | rfl | (simp at this)
     | iset _=>simp only[hs]at e;cases e
     | dct _=>simp only[hs]at e;cases e
     | dcf _ _ _=>simp only[hs]at e;cases e
 | _=>cases e
theorem Cv{env:Env}(h:Ji r=true):∀ whole,isTrue r env whole=(do let v <- whole;standAt r.pos;holding [v] (truthy v)):=by
 intro whole;cases r<;>first | rfl | (cases h;done) | (rename_i o _ _;cases o<;>first | rfl | cases h)
theorem Ll{K:R8}(m:Mono w):∀ σ H Q,liftT K (OA w) σ H Q->lift K w σ H fun x H'=>∃ k,L1 K x H' k/\Q k H':=by
 rintro σ H Q ⟨as,ρ,S,ok,en,h⟩;exact⟨as,ρ,S,ok,en,m _ _ _ _ (fun x S' ⟨b,e,q⟩ as' H' v g ok' r=>⟨b,OI ok' r e,q as' H' g ok'⟩) h⟩
theorem Dk{K:R8}(m:Mono w):∀ σ H Q,liftT K (wBl w) σ H Q->lift K w σ H fun x H'=>∃ k,x = .bl k/\Q k H':=by
 rintro σ H Q ⟨as,ρ,S,ok,en,h⟩;exact⟨as,ρ,S,ok,en,m _ _ _ _ (fun x S' ⟨b,e,q⟩ as' H' v g ok' r=>⟨b,by subst e;exact rl_bl.mp r,q as' H' g ok'⟩) h⟩
theorem Good.one(hp:PE X r (lift X.K w))(m:Mono w)(h:Ji r=true):Good X r (tt1 w) where
 pe:=hp
 pt:=Bb _ (Ik hp (Cv h)) (Ll m)
 m:=m
 mt := .tru m
 pw:=fun op vs p e=>by rw[e]at h;cases h
theorem Jr{X:Cx}{r:Expr}:PE X r (lift X.K fun _ _ _=>False):=fun _ _ _ _ _ _ h=>let ⟨_,_,_,_,_,z⟩:=h;z.elim
theorem Js{X:Cx}{r:Expr}:PT X r (liftT X.K fun _ _ _=>False):=fun _ _ _ _ _ _ h=>let ⟨_,_,_,_,_,z⟩:=h;z.elim
theorem Jt{X:Cx}{r:Expr}:PW X r (liftT X.K fun _ _ _=>False):=fun _ _ _ _ _ _ _ h=>let ⟨_,_,_,_,_,z⟩:=h;z.elim
theorem Good.never:Good X r (fun _ _ _=>False,fun _ _ _=>False):=⟨Jr,Js,fun _ _ _ _ _ h=>h,fun _ _ _ _ _ h=>h,fun _ _ _ _=>Jt⟩
end
theorem GT{o:W8}:Mono2 (sOp o):=by
 unfold sOp;split<;>first | exact .add | exact .int0 | exact .mul | exact .int | exact fun _ _ _ _ _ _ h=>h
theorem v9{o:CmpOp}:Mono2 (Ae o):=by
 unfold Ae;split<;>first | exact .eq | exact .ne | exact .int0 | exact .in' | exact .isN
section
variable{X:Cx}
theorem Ju{o:W8}{ra rb:Expr}{p:Pos}{wa wb:WE}(ha:PE X ra (lift X.K wa))(hb:PE X rb (lift X.K wb))(ma:Mono wa)(mb:Mono wb):PE X (.BinOp ra o rb p) (lift X.K (w2 (sOp o) wa wb)):=by
 have go:∀{s:S2} {rr:R2},Mono2 s->OpR X (Vi o) rr->B6 X.K s rr->PE X (.BinOp ra o rb p) (lift X.K (w2 s wa wb)):=fun ms ho sim=>c9 _ (PF ho ha hb) (A9 sim ms ma mb);have no:PE X (.BinOp ra o rb p) (lift X.K (w2 (fun _ _ _ _=>False) wa wb)):=go (fun _ _ _ _ _ _ h=>h) (rr:=fun _ _ _ _=>False) (fun _ _ _ _ _ _ _ _ _ _ _ _ h=>h.elim) (fun _ _ _ _ _ _ _ _ _ _ _ h=>h);cases o with
 | Add=>exact go .add LS LU
 | Sub=>exact go .int0 NO (Au fun _ _ _ _=>rl_int.mpr rfl)
 | Mult=>exact go .mul (op_mul.or Nf) LV
 | FloorDiv=>exact go .int Ky (Da fun _ _ _ _=>rl_int.mpr rfl)
 | Mod=>exact go .int NP (Da fun _ _ _ _=>rl_int.mpr rfl)
 | Pow=>exact go .int NQ (Da fun _ _ _ _=>rl_int.mpr rfl)
 | _=>exact no
theorem CS(o:CmpOp)(hu:X.A.units<cLine):∃ rr:R2,OpR X (VL o) rr/\B6 X.K (Ae o) rr:=by
 cases o with
 | Eq=>exact⟨_,op_eq.or (Ni hu),Nt⟩
 | NotEq=>exact⟨_,op_ne.or (Nj hu),Nu⟩
 | Lt=>exact⟨_,PN,Au fun _ _ _ _=>rl_bl.mpr rfl⟩
 | LtE=>exact⟨_,PP,Au fun _ _ _ _=>rl_bl.mpr rfl⟩
 | Gt=>exact⟨_,PR,Au fun _ _ _ _=>rl_bl.mpr rfl⟩
 | GtE=>exact⟨_,PU,Au fun _ _ _ _=>rl_bl.mpr rfl⟩
 | Is=>exact⟨_,NT,LX⟩
 | IsNot=>exact⟨_,op_notN.or Hi,JP⟩
 | In=>exact⟨_,Nx,JO⟩
 | NotIn=>exact⟨_,Hm,JO⟩
theorem y8{o:CmpOp}{r:Expr}(h:j9 r=true):Vu o r=false:=by
 cases r<;>first | rfl | cases h
theorem Hu{o:CmpOp}{ra rb:Expr}{p:Pos}{wa wb:WE}(hu:X.A.units<cLine)(ha:PE X ra (lift X.K wa))(hb:PE X rb (lift X.K wb))(ma:Mono wa)(mb:Mono wb)(hn:j9 rb=true):Good X (.Compare ra [o] [rb] p) (tt2 (w2 (Ae o) wa wb)):=by
 obtain⟨rr,ho,sim⟩:=CS (X:=X) o hu;have m:Mono (w2 (Ae o) wa wb) := .two v9 ma mb
 exact{pe:=c9 _ (Kz ho ha hb (y8 hn)) (A9 sim v9 ma mb)
       pt:=Bb _ (L0 ho ha hb (y8 hn)) fun σ H Q h=>A9 sim v9 ma mb σ H _ (Dk m σ H Q h)
       m:=m
       mt := .bl m
       pw:=fun _ _ _ e=>by cases e}
theorem EO{o p:CmpOp}{a b c:WE}(ma:Mono a)(mb:Mono b)(mc:Mono c):Mono (Jb (Ae o) (Ae p) a b c):=fun ρ S P P' i h=>ma _ _ _ _ (fun x S1 h=>mb _ _ _ _ (fun y S2 h=>v9 _ _ _ _ _ (fun z S3 ⟨k,e,q⟩=>⟨k,e,by
 cases k with
 | true=>rw[iP rfl]at q ⊢;exact mc _ _ _ _ (fun u S4 h=>v9 _ _ _ _ _ i h) q
 | false=>rw[iG RH]at q ⊢;exact i _ _ q⟩) h) h) h
theorem GU{K:R8}{o p:CmpOp}{r r':R2}{a b c:WE}(s1:B6 K (Ae o) r)(s2:B6 K (Ae p) r')(ma:Mono a)(mb:Mono b)(mc:Mono c):∀ σ H Q,lift K (Jb (Ae o) (Ae p) a b c) σ H Q->FA r r' (lift K a) (lift K b) (lift K c) σ H Q:=by
 rintro σ H Q ⟨as,ρ,S,ok,en,h⟩;refine⟨as,ρ,S,ok,en,ma _ _ _ _ (fun x S1 h as1 H1 v g1 ok1 rv=>?_) h⟩;refine⟨as1,ρ,S1,ok1,en.mono g1.pre (g1.ku ok),mb _ _ _ _ (fun y S2 h as2 H2 u g2 ok2 ru=>?_) h⟩;refine s1 as2 H2 S2 x y v u _ ok2 (Rl.mono g2.pre (g2.ku ok1) x v rv) ru (v9 _ _ _ _ _ (fun z S3 ⟨k,e,q⟩ as3 H3 t g3 ok3 rt=>?_) h);subst e;refine⟨k,rl_bl.mp rt,?_⟩;cases k with
 | true=>
   rw[iP rfl]at q ⊢;refine⟨as3,ρ,S3,ok3,(en.mono g1.pre (g1.ku ok)).mono (g2.trans g3).pre ((g2.trans g3).ku ok1),mc _ _ _ _ (fun n S4 h as4 H4 m g4 ok4 rm=>?_) q⟩;exact s2 as4 H4 S4 y n u m Q ok4 (Rl.mono (g3.trans g4).pre ((g3.trans g4).ku ok2) y u ru) rm (v9 _ _ _ _ _ (fun f S5 hf=>hf.mono (((g1.trans g2).trans g3).trans g4)) h)
 | false=>
   rw[iG RH]at q ⊢;exact q as3 H3 _ ((g1.trans g2).trans g3) ok3 (rl_bl.mpr rfl)
theorem Hv{o q:CmpOp}{ra rb rc:Expr}{p:Pos}{wa wb wc:WE}(hu:X.A.units<cLine)(ha:PE X ra (lift X.K wa))(hb:PE X rb (lift X.K wb))(hc:PE X rc (lift X.K wc))(ma:Mono wa)(mb:Mono wb)(mc:Mono wc)(hn:j9 rc=true):Good X (.Compare ra [o,q] [rb,rc] p) (tt2 (Jb (Ae o) (Ae q) wa wb wc)):=by
 obtain⟨r1,ho,sim⟩:=CS (X:=X) o hu;obtain⟨r2,hq,sim2⟩:=CS (X:=X) q hu;have m:Mono (Jb (Ae o) (Ae q) wa wb wc):=EO ma mb mc;have hm:X5 [o,q] [rb,rc]=false:=y8 hn
 exact{pe:=c9 _ (Ii ho hq ha hb hc hm) (GU sim sim2 ma mb mc)
       pt:=Bb _ (Ij ho hq ha hb hc hm) fun σ H Q h=>GU sim sim2 ma mb mc σ H _ (Dk m σ H Q h)
       m:=m
       mt := .bl m
       pw:=fun _ _ _ e=>by cases e}
end
section
variable{K:R8}
theorem f8{c:Bool}{A B A' B':Prop}(ha:A->A')(hb:B->B')(h:if c=true then A else B):if c=true then A' else B':=by
 cases c with
 | true=>rw[iP rfl]at h ⊢;exact ha h
 | false=>rw[iG RH]at h ⊢;exact hb h
theorem Mono.and{a b:WE}(ma:Mono a)(mb:Mono b):Mono (Ja a b):=fun ρ S P P' i h=>ma _ _ _ _ (fun x S1 ⟨c,e,q⟩=>⟨c,e,f8 (mb _ _ _ _ i) (i _ _) q⟩) h
theorem Mono.or{a b:WE}(ma:Mono a)(mb:Mono b):Mono (wOr a b):=fun ρ S P P' i h=>ma _ _ _ _ (fun x S1 ⟨c,e,q⟩=>⟨c,e,f8 (i _ _) (mb _ _ _ _ i) q⟩) h
theorem Mono.not{a:WE}(ma:Mono a):Mono (Lf a):=fun ρ S P P' i h=>ma _ _ _ _ (fun x S1 ⟨c,e,q⟩=>⟨c,e,i _ _ q⟩) h
theorem MonoT.and{a b:WT}(ma:MonoT a)(mb:MonoT b):MonoT (CN a b):=fun ρ S P P' i h=>ma _ _ _ _ (fun x S1 q=>f8 (mb _ _ _ _ i) (i _ _) q) h
theorem MonoT.or{a b:WT}(ma:MonoT a)(mb:MonoT b):MonoT (FU a b):=fun ρ S P P' i h=>ma _ _ _ _ (fun x S1 q=>f8 (i _ _) (mb _ _ _ _ i) q) h
theorem MonoT.not{a:WT}(ma:MonoT a):MonoT (GQ a):=fun ρ S P P' i h=>ma _ _ _ _ (fun x S1 q=>i _ _ q) h
theorem Post.at{as as1:List V7}{H H1:Hp}{Q:VK}{x:SV}{S:Sto}{v:V}(h:Post K as H Q x S)(g:Go as H as1 H1)(ok:Ok K as1 H1 S)(r:Rl K as1 H1 v x):Q v H1:=h as1 H1 v g ok r
theorem GV{a b:WE}(ma:Mono a)(mb:Mono b):∀ σ H Q,lift K (Ja a b) σ H Q->Mc (lift K a) (lift K b) σ H Q:=by
 rintro σ H Q ⟨as,ρ,S,ok,en,h⟩;refine⟨as,ρ,S,ok,en,ma _ _ _ _ (fun x S1 ⟨c,e,q⟩ as1 H1 v g1 ok1 rv=>?_) h⟩;subst e;refine⟨c,rl_bl.mp rv,f8 (fun q=>?_) (fun q=>q.at g1 ok1 (rl_bl.mpr rfl)) q⟩;exact⟨as1,ρ,S1,ok1,en.mono g1.pre (g1.ku ok),mb _ _ _ _ (fun y S2 h=>h.mono g1) q⟩
theorem Jv{a b:WE}(ma:Mono a)(mb:Mono b):∀ σ H Q,lift K (wOr a b) σ H Q->Oz (lift K a) (lift K b) σ H Q:=by
 rintro σ H Q ⟨as,ρ,S,ok,en,h⟩;refine⟨as,ρ,S,ok,en,ma _ _ _ _ (fun x S1 ⟨c,e,q⟩ as1 H1 v g1 ok1 rv=>?_) h⟩;subst e;refine⟨c,rl_bl.mp rv,f8 (fun q=>q.at g1 ok1 (rl_bl.mpr rfl)) (fun q=>?_) q⟩;exact⟨as1,ρ,S1,ok1,en.mono g1.pre (g1.ku ok),mb _ _ _ _ (fun y S2 h=>h.mono g1) q⟩
theorem Lm{a:WE}(ma:Mono a):∀ σ H Q,lift K (Lf a) σ H Q->Md (lift K a) σ H Q:=by
 rintro σ H Q ⟨as,ρ,S,ok,en,h⟩;refine⟨as,ρ,S,ok,en,ma _ _ _ _ (fun x S1 ⟨c,e,q⟩ as1 H1 v g1 ok1 rv=>?_) h⟩;subst e;exact⟨c,rl_bl.mp rv,q.at g1 ok1 (rl_bl.mpr rfl)⟩
theorem PostT.mono{as as1:List V7}{H H1:Hp}{Q:Bool->Hp->Prop}{x:Bool}{S:Sto}(h:PostT K as H Q x S)(g:Go as H as1 H1):PostT K as1 H1 Q x S:=fun as' H' g'=>h as' H' (g.trans g')
theorem EQ{a b:WT}(ma:MonoT a)(mb:MonoT b):∀ σ H Q,liftT K (CN a b) σ H Q->Ox (liftT K a) (liftT K b) σ H Q:=by
 rintro σ H Q ⟨as,ρ,S,ok,en,h⟩;refine⟨as,ρ,S,ok,en,ma _ _ _ _ (fun c S1 q as1 H1 g1 ok1=>?_) h⟩;refine f8 (fun q=>?_) (fun q=>q as1 H1 g1 ok1) q;exact⟨as1,ρ,S1,ok1,en.mono g1.pre (g1.ku ok),mb _ _ _ _ (fun y S2 h=>h.mono g1) q⟩
theorem GW{a b:WT}(ma:MonoT a)(mb:MonoT b):∀ σ H Q,liftT K (FU a b) σ H Q->tOr (liftT K a) (liftT K b) σ H Q:=by
 rintro σ H Q ⟨as,ρ,S,ok,en,h⟩;refine⟨as,ρ,S,ok,en,ma _ _ _ _ (fun c S1 q as1 H1 g1 ok1=>?_) h⟩;refine f8 (fun q=>q as1 H1 g1 ok1) (fun q=>?_) q;exact⟨as1,ρ,S1,ok1,en.mono g1.pre (g1.ku ok),mb _ _ _ _ (fun y S2 h=>h.mono g1) q⟩
theorem Jw{a:WT}(ma:MonoT a):∀ σ H Q,liftT K (GQ a) σ H Q->Oy (liftT K a) σ H Q:=by
 rintro σ H Q ⟨as,ρ,S,ok,en,h⟩;exact⟨as,ρ,S,ok,en,ma _ _ _ _ (fun c S1 q as1 H1 g1 ok1=>q as1 H1 g1 ok1) h⟩
end
section
variable{X:Cx}
theorem Dl{e:Expr}{t:TT}(t':TT)(h:PW X e t)(imp:∀ σ H Q,t' σ H Q->t σ H Q):PW X e t':=fun wh pq s σ H Q I hw=>h wh pq s σ H Q I (imp σ H Q hw)
theorem FZ{x y:Expr}{p:Pos}{a b:WE×WT}(ha:Good X x a)(hb:Good X y b):Good X (.BoolOp .And [x,y] p) (Ja a.1 b.1,CN a.2 b.2):=
 have pw:PW X (.BoolOp .And [x,y] p) (liftT X.K (CN a.2 b.2)):=Dl _ (IY ha.pt (Ks hb.pt)) (EQ ha.mt hb.mt)
 {pe:=c9 _ (Ia ha.pe (IZ hb.pe)) (GV ha.m hb.m),pt:=pw.pt,m := .and ha.m hb.m,mt := .and ha.mt hb.mt,pw:=fun _ _ _ _=>pw}
theorem Fa{x y z:Expr}{zs:List Expr}{p:Pos}{a b:WE×WT}(ha:Good X x a)(hb:Good X (.BoolOp .And (y::z::zs) p) b):Good X (.BoolOp .And (x::y::z::zs) p) (Ja a.1 b.1,CN a.2 b.2):=
 have pw:PW X (.BoolOp .And (x::y::z::zs) p) (liftT X.K (CN a.2 b.2)):=Dl _ (IY ha.pt (hb.pw _ _ _ rfl)) (EQ ha.mt hb.mt)
 {pe:=c9 _ (Ia ha.pe hb.pe) (GV ha.m hb.m),pt:=pw.pt,m := .and ha.m hb.m,mt := .and ha.mt hb.mt,pw:=fun _ _ _ _=>pw}
theorem Hw{x y:Expr}{p:Pos}{a b:WE×WT}(ha:Good X x a)(hb:Good X y b):Good X (.BoolOp .Or [x,y] p) (wOr a.1 b.1,FU a.2 b.2):=
 have pw:PW X (.BoolOp .Or [x,y] p) (liftT X.K (FU a.2 b.2)):=Dl _ (Mb ha.pt (ND hb.pt)) (GW ha.mt hb.mt)
 {pe:=c9 _ (Me ha.pe (IZ hb.pe)) (Jv ha.m hb.m),pt:=pw.pt,m := .or ha.m hb.m,mt := .or ha.mt hb.mt,pw:=fun _ _ _ _=>pw}
theorem Hx{x y z:Expr}{zs:List Expr}{p:Pos}{a b:WE×WT}(ha:Good X x a)(hb:Good X (.BoolOp .Or (y::z::zs) p) b):Good X (.BoolOp .Or (x::y::z::zs) p) (wOr a.1 b.1,FU a.2 b.2):=
 have pw:PW X (.BoolOp .Or (x::y::z::zs) p) (liftT X.K (FU a.2 b.2)):=Dl _ (Mb ha.pt (hb.pw _ _ _ rfl)) (GW ha.mt hb.mt)
 {pe:=c9 _ (Me ha.pe hb.pe) (Jv ha.m hb.m),pt:=pw.pt,m := .or ha.m hb.m,mt := .or ha.mt hb.mt,pw:=fun _ _ _ _=>pw}
theorem Hy{x:Expr}{p:Pos}{a:WE×WT}(ha:Good X x a):Good X (.UnaryOp .Not x p) (Lf a.1,GQ a.2) where
 pe:=c9 _ (NF ha.pe) (Lm ha.m)
 pt:=Bb _ (NE ha.pt) (Jw ha.mt)
 m := .not ha.m
 mt := .not ha.mt
 pw:=fun _ _ _ e=>by cases e
theorem OJ{i:Nat}{x:Str}{p:Pos}{N:List Str}{sc:VI}{T:List Str}{Δ:Nat->Sn}{k:Nat}(C:Cok T Δ X k N sc)(hi:N[i]?=some x)(hv:vis sc x=true)(h1:(x == ("__debug__":Str))=false)(h2:(x == ("__classdict__":Str))=false):PE X (.Name x p) (Ko i):=by
 have hv':Vis X.env.scope x:=by
  rw[C.hs];unfold vis at hv;simp only[Ru,bQ]at hv;rcases hv with(hv | hv) | hv
  ·exact .inl hv
  ·exact .inr (.inl hv)
  ·exact .inr (.inr hv)
 exact N9 (i:=i) (by rw[C.hN];exact hi) hv' h1 h2
theorem Ln{x:SV}{k:Const}{j:Nat}{p:Pos}(h:OF x k=true):Good X (.Constant k j p) (tt1 (wC x)):=by
 refine .one ?_ .c rfl;unfold OF at h;split at h
 ·exact c9 _ NB (EH fun _ _=>rl_non.mpr rfl)
 ·rw[bQ]at h;subst h;exact c9 _ Ow (EH fun _ _=>rl_bl.mpr rfl)
 ·have h:=of_decide_eq_true h;subst h;exact c9 _ NA (EH fun _ _=>rl_int.mpr rfl)
 ·have h:=of_decide_eq_true h;subst h;exact c9 _ NC (EH fun _ _=>rl_str.mpr rfl)
 ·cases h
theorem CT:EG JZ:=fun x S P P' i h=>by
 unfold JZ at h ⊢;split at h
 ·exact i _ _ h
 ·exact h.elim
theorem Hz{x:Expr}{p:Pos}{a:WE×WT}(ha:Good X x a):Good X (.UnaryOp .USub x p) (tt1 (w1 JZ a.1)):=by
 refine .one (c9 _ (PH NR ha.pe) (No (fun as H S x v Q ok r h=>?_) CT ha.m)) (.one CT ha.m) rfl;unfold JZ at h;split at h
 ·exact⟨_,rl_int.mp r,h.here ok (rl_int.mpr rfl)⟩
 ·exact h.elim
theorem Fb{b:Expr}(h:AR b=true):GB b:=fun o i=>by cases b<;>first | rfl | cases h
theorem Jx{x y:Expr}{p:Pos}{a b:WE×WT}(ha:Good X x a)(hb:Good X y b)(h:AR y=true):Good X (.Subscript x y p) (tt1 (w2 sIx a.1 b.1)):=
 .one (c9 _ (Pb (ix_list.or Nb) ha.pe hb.pe (Fb h)) (A9 Ny .ix ha.m hb.m)) (.two .ix ha.m hb.m) rfl
noncomputable def Q3(K:R8)(as:List V7)(H:Hp)(Q:Option Int->Hp->Prop):Option Int->Sto->Prop:=fun b S'=>∀ as' H',Go as H as' H'->Ok K as' H' S'->Q b H'
noncomputable def ER(K:R8)(w:WO):St->Hp->(Option Int->Hp->Prop)->Prop:=fun σ H Q=>∃ as ρ S,Ok K as H S/\EnvOk K as H σ ρ/\w ρ S (Q3 K as H Q)
noncomputable def MonoO(w:WO):Prop:=∀ ρ S (P P':Option Int->Sto->Prop),(∀ x S',P x S'->P' x S')->w ρ S P->w ρ S P'
theorem MonoO.no:MonoO OB:=fun _ _ _ _ i h=>i _ _ h
theorem MonoO.yes{w:WE}(m:Mono w):MonoO (Jc w):=fun _ _ _ _ i h=>m _ _ _ _ (fun x S1 ⟨k,e,q⟩=>⟨k,e,i _ _ q⟩) h
theorem Q4:PO X none (ER X.K OB):=fun pq s σ H Q I ⟨as,ρ,S,ok,en,h⟩=>L8 pq s σ H Q I (h as H (Go.refl _ _) ok)
theorem OK{x:Expr}{a:WE×WT}(ha:Good X x a):PO X (some x) (ER X.K (Jc a.1)):=fun pq s σ H Q I ⟨as,ρ,S,ok,en,h⟩=>
 L9 ha.pe pq s σ H Q I ⟨as,ρ,S,ok,en,ha.m _ _ _ _ (fun y S1 ⟨k,e,q⟩ as1 H1 v g1 ok1 rv=>⟨k,by subst e;exact rl_int.mp rv,q as1 H1 g1 ok1⟩) h⟩
theorem RlAll.cut{K:R8}{as:List V7}{H:Hp}{xs:List SV}{vs:List V}(h:RlAll K as H vs xs)(lo hi:Option Int):RlAll K as H (E6 vs lo hi) (Bz xs lo hi):=by
 unfold E6 Bz;rw[h.length];exact(h.drop _).take _
theorem CU{x:SV}{lo hi:Option Int}{S:Sto}{P P':QE}(i:∀ x S',P x S'->P' x S')(h:Hq x lo hi S P):Hq x lo hi S P':=by
 unfold Hq at h ⊢;split at h
 ·obtain⟨xs,a,b⟩:=h;exact⟨xs,a,i _ _ b⟩
 ·exact i _ _ h
 ·exact h.elim
theorem Lo{K:R8}{as:List V7}{H:Hp}{S:Sto}{Q:VK}{x:SV}{v:V}{l k:Option Int}(ok:Ok K as H S)(r:Rl K as H v x)(h:Hq x l k S (Post K as H Q)):Pe K v l k H Q\/Pa K v l k H Q\/Pn K v l k H Q:=by
 cases x with
 | loc j=>
   obtain⟨xs,h1,h2⟩:=h;obtain⟨b,vs,rfl,_,hb,rr⟩:=j3 ok r h1;exact .inl ⟨b,vs,rfl,SqL.of hb,v8 ok (rr.cut l k) h2⟩
 | tup xs=>
   obtain⟨b,vs,rfl,hb,rr⟩:=rl_tup.mp r;by_cases hw:HT.sIx vs.length 0 l=0/\HT.sIx vs.length vs.length k=vs.length
   ·refine .inr (.inr ⟨b,vs,rfl,SqT.of hb,hw,?_⟩)
    have e:Bz xs l k=xs:=by
     unfold Bz;rw[<-rr.length,hw.1,hw.2,rr.length];simp
    have h':Post K as H Q (.tup (Bz xs l k)) S:=h;rw[e]at h';exact h'.here ok r
   ·exact .inr (.inl ⟨b,vs,rfl,SqT.of hb,hw,BG ok (rr.cut l k) h⟩)
 | _=>exact False.elim h
theorem I0{x:Expr}{rl rh:Option Expr}{p p2:Pos}{a:WE×WT}{lo hi:WO}(ha:Good X x a)(hl:PO X rl (ER X.K lo))(hh:PO X rh (ER X.K hi))(ml:MonoO lo)(mh:MonoO hi):Good X (.Subscript x (.Slice rl rh none p2) p) (tt1 (OC a.1 lo hi)):=by
 refine .one (c9 _ (Io (sl_list.or (sl_tup.or LJ)) ha.pe hl hh) ?_) (fun ρ S P P' i h=>ha.m _ _ _ _ (fun x S1 h=>ml _ _ _ _ (fun l S2 h=>mh _ _ _ _ (fun k S3 h=>CU i h) h) h) h) rfl;rintro σ H Q ⟨as,ρ,S,ok,en,h⟩;refine⟨as,ρ,S,ok,en,ha.m _ _ _ _ (fun x S1 h as1 H1 v g1 ok1 rv=>?_) h⟩;refine⟨as1,ρ,S1,ok1,en.mono g1.pre (g1.ku ok),ml _ _ _ _ (fun l S2 h as2 H2 g2 ok2=>?_) h⟩;refine⟨as2,ρ,S2,ok2,(en.mono g1.pre (g1.ku ok)).mono g2.pre (g2.ku ok1),mh _ _ _ _ (fun k S3 h as3 H3 g3 ok3=>?_) h⟩;have rv3:=Rl.mono (g2.trans g3).pre ((g2.trans g3).ku ok1) x v rv;have g:=(g1.trans g2).trans g3;exact Lo ok3 rv3 (CU (fun _ _ h=>h.mono g) h)
end
end Rf
namespace L2
open PySem PySem.Spec PyProof.Rows
section
variable{prog:VC}{w:VG}{A:VM}{R:Result->V6->Prop}{I:V7}{fp wr:List V7}{G:Array Wp->Array Wp->Prop}{n:Nat}{P:Nat->V4->Prop}{St:Nat->V6->Prop}
noncomputable def TupsAt(prog:VC)(w:VG)(h:Heap)(n:Nat)(ta:Nat->V7)(kv:Nat->Key×V4):Prop:=∀ i,i<n->∃ key,(j5 prog w).is (kv i).1 key=true/\h.IsTuple (ta i) #[key,(kv i).2]
theorem TupsAt.keep{h h':Heap}{ta:Nat->V7}{kv:Nat->Key×V4}(t:TupsAt prog w h n ta kv)(k:∀ i o,i<n->h.get? (ta i)=some o->h'.get? (ta i)=some o):TupsAt prog w h' n ta kv:=fun i hi=>by
 obtain⟨key,hk,o,ho,r⟩:=t i hi;exact⟨key,hk,o,k i o hi ho,r⟩
end
noncomputable def Kpt(hb h:Heap):Prop:=∀ b o,hb.get? b=some o->h.get? b=some o
structure Sk(hb h:Heap)(a k:V7)(ks xs:Array V4)(e:Nat):Prop where
 a0:hb.get? a=none
 k0:hb.get? k=none
 ne:k≠a
 kp:Kpt hb h
 kk:∃ n,h.get? k=some (seqObj "list" ks n)
 aa:h.get? a=some (seqObj "list" xs e)
theorem C4{hb h:Heap}{a:V7}{g:Obj->Obj}(z:hb.get? a=none)(K:Kpt hb h):Kpt hb (h.update a g):=fun b o q=>
 ((T9.update h a g).2 b fun e=>by rw[e,z]at q;cases q).trans (K b o q)
theorem Sk.setK{hb h:Heap}{a k:V7}{ks xs:Array V4}{e:Nat}(S:Sk hb h a k ks xs e)(f:Array V4->Array V4):Sk hb (h.update k (Obj.mapSeq f)) a k (f ks) xs e:=
 ⟨S.a0,S.k0,S.ne,C4 S.k0 S.kp,S.kk.elim fun _ q=>⟨_,WM q f⟩,((T9.update h k _).2 a S.ne.symm).trans S.aa⟩
theorem Sk.grow{hb h h':Heap}{a k:V7}{ks xs:Array V4}{e:Nat}(S:Sk hb h a k ks xs e)(K:Kpt h h'):Sk hb h' a k ks xs e:=
 ⟨S.a0,S.k0,S.ne,fun b o q=>K _ _ (S.kp b o q),S.kk.elim fun n q=>⟨n,K _ _ q⟩,K _ _ S.aa⟩
theorem Aw{n:Nat}(h:n<64):n<=V9:=by rw[Vz];omega
noncomputable def IsS(v:V4):Prop:=∃ x t,v=Value.str x t
section
variable{prog:VC}{w:VG}{A:VM}{E:V4->V6->Prop}{s:V6}{hb:Heap}{a k:V7}{vs:List V4}{P:PySem.Fin->V6->Prop}{keys:Array V4}{e:Nat}
noncomputable def Aft(hb:Heap)(a:V7)(vs:List V4)(P:PySem.Fin->V6->Prop)(s:V6):Prop:=
 ∀ h' (out:Array V4) c,Kpt hb h'->h'.get? a=some (seqObj "list" out c)->out.toList.Perm vs->P (.done (.ret .none)) {s with heap:=h'}
theorem GX{st:SortSt}(S:Sk hb s.heap a k keys #[] e)(hz:keys.size=vs.length)(lt:vs.length<64)(hp:(arrOf st).Perm (keys.zip vs.toArray))(hn:Wk st=none)(h:Aft hb a vs P s):VA (VB prog w) A (ksk_tail a false e (.ref k) st) P E s:=by
 obtain⟨n,q⟩:=S.kk;have S1:=S.setK fun _=>#[]
 have z:((arrOf st).map (·.2)).size<64:=by
  have:=hp.size_eq;have zv:vs.toArray.size=vs.length:=rfl;rw[Ul]at this;rw[Array.size_map];omega
 have pm:((arrOf st).map (·.2)).toList.Perm vs:=by
  have p:=(TL.mp hp).map Prod.snd
  rwa [ksk_zip,List.map_snd_zip (Uw (hz.symm.trans TU.symm)),<-Array.toList_map]at p
 exact V5 (W7 q rfl (V5 (wpAny_letGo (V5 (seqEpoch_at S1.aa rfl (V5 (W7 S1.aa rfl
  (by rw[hn,bne_self_eq_false];exact V8 (h _ _ _ (C4 S.a0 S1.kp) (WM S1.aa _) pm)) (Rz _) (UX (Aw z)))))))) (Aw (hz▸lt)) (Rz _))
theorem Lp(hz:2<=keys.size)(hs:∀ v∈keys.toList,IsS v):keyKind' keys=pure oneType':=by
 obtain⟨l⟩:=keys
 match l,hz with
 | x::y::r,_=>exact keyKind_strs (strsAre_map (x::y::r) hs)
theorem OL(S:Sk hb s.heap a k keys #[] e)(hz:keys.size=vs.length)(lt:vs.length<64)(hs:∀ v∈keys.toList,IsS v)(h:Aft hb a vs P s):VA (VB prog w) A (ksk_end a false vs.toArray e (.ref k) keys) P E s:=by
 have zz:(keys.zip vs.toArray).size=vs.length:=by have zv:vs.toArray.size=vs.length:=rfl;rw[Ul];omega
 have key:∀ p∈(keys.zip vs.toArray).toList,IsS p.1:=fun p hp=>hs _ (Se (ksk_zip keys vs▸hp:(p.1,p.2)∈_)).1
 show VA _ _ (do let kind <- if vs.toArray.size<2 then pure general' else keyKind' keys
                    let ((),st) <- (if vs.toArray.size<2 then pure () else sortRuns').run (SortSt.mk' kind (keys.zip vs.toArray) #[] 7 none)
                    ksk_tail a false e (.ref k) st) P E s
 cases TB vs.toArray.size 2 with
 | inl l2=>
   simp only[l2,if_true];exact V5 (V8 (V5 (V8 (GX (st:=SortSt.mk' general' (keys.zip vs.toArray) #[] 7 none) S hz lt (V3.refl _) rfl h))))
 | inr g2=>
   have l2:¬ vs.toArray.size<2:=Nat.not_lt_of_le g2;rw[RF]at g2;simp only[l2,if_false,Lp (hz▸g2) hs];refine V5 (V8 (V5 (VR (Q:=fun r s'=>s'=s/\(arrOf r.2).Perm (keys.zip vs.toArray)/\Wk r.2=none) (E:=fun _ _=>False) ?_ ?_ fun _ _ f=>f.elim)))
   ·exact Ct (Q:=fun _ st'=>(arrOf st').Perm (keys.zip vs.toArray)/\Wk st'=none) (JC fun p hp q hq E' Q hQ=>by
     obtain⟨x,t,e1⟩:=key p hp;obtain⟨y,u,e2⟩:=key q hq;rw[e1,e2];exact oneLt_str (hQ _)) ⟨V3.refl _,rfl,rfl,rfl⟩ (show 2<=(keys.zip vs.toArray).size by omega) (show(keys.zip vs.toArray).size<64 by omega) fun _ p f=>⟨p,f⟩
   ·intro r s' ⟨e',p,f⟩;cases e';exact GX S hz lt p f h
noncomputable def Txt(prog:VC)(w:VG)(A:VM)(f v:V4)(hb:Heap)(s:V6):Prop:=
 ∀(h:Heap) (tk:Nat),Kpt hb h->VA (VB prog w) A (call f [v]) (fun r s'=>∃ h' tk',IsS r/\s'={s with heap:=h',toks:=tk'}/\Kpt h h') (fun _ _=>False) {s with heap:=h,toks:=tk}
theorem Lq{f:V4}(S:Sk hb s.heap a k #[] #[] e)(lt:vs.length<64)(turn:∀ v∈vs,Txt prog w A f v hb s)(h:∀ tk,Aft hb a vs P {s with toks:=tk}):VA (VB prog w) A (ksk_rest a f false vs.toArray e (.ref k)) P E s:=by
 unfold ksk_rest;refine V5 (Vk ?_);rw[List.forIn_toArray];refine V5 (ksk_fold (fun i s'=>∃ h' tk ks,s'={s with heap:=h',toks:=tk}/\Sk hb h' a k ks #[] e/\ks.size=i/\∀ v∈ks.toList,IsS v) vs 0 s ⟨_,_,_,rfl,S,rfl,fun _ m=>nomatch m⟩ ?_ ?_)
 ·intro j v s' hv I;obtain⟨g,tk,ks,rfl,G,z,hs⟩:=I;refine V5 (wpAny_attempt (VR (turn v (RD hv) g tk G.kp) (fun r s2 hr=>?_) fun _ _ no=>no.elim));obtain⟨g2,tk2,⟨y,t,rfl⟩,rfl,K2⟩:=hr;have G2:=G.grow K2;obtain⟨n,q⟩:=G2.kk;have jl:=(gM hv).1
  exact V5 (W7 q rfl (V8 ⟨rfl,_,_,_,rfl,G2.setK (·.push (.str y t)),(Ui _).trans (congrArg (·+1) z),fun u m=>by
   rw[Array.toList_push]at m;exact(RO.mp m).elim (hs u) fun m=>⟨y,t,RG.mp m⟩⟩) (Aw (by omega)) (UX (Aw (show(ks.push (.str y t)).size<64 by rw[Ui];omega))))
 ·intro s' I;obtain⟨g,tk,ks,rfl,G,z,hs⟩:=I;obtain⟨n,q⟩:=G.kk;exact V5 (listItems_at q rfl (OL (s:={s with heap:=g,toks:=tk}) G (z.trans (UW _)) lt hs (h tk)))
end
section
variable{X:Cx}{A:VM}{E:V4->V6->Prop}
theorem OM{pq:List (V7×Obj)}{σ:St}{H:Hp}{s:V6}{x:V}{d:PyData}{u:V4}(hg:A.guards=some [])(hu:A.units+100<cLine)(I:Inv X pq σ H s)(hd:Dat H x d)(f:Fit d)(ru:RelV x u):
 VA (VB X.prog X.w) A (call (.type "str") [u]) (fun r s'=>∃ h' tk',IsS r/\s'={s with heap:=h',toks:=tk'}/\Kpt s.heap h') E s:=by
 have refs:∀ a,u = .ref a->VA (VB X.prog X.w) A (call (.type "str") [u]) (fun r s'=>∃ h' tk',IsS r/\s'={s with heap:=h',toks:=tk'}/\Kpt s.heap h') E s:=fun a e=>by
  subst e;obtain⟨as,rd⟩:=I.reads x d _ hd ru;exact str_of_reads rd f.sh (PyData.noDict_hsm (Dat.noDict x d hd)) hg (by have:=f.dp;omega) (fun _ _ q=>q) (fun h' u tk hk=>⟨h',tk,⟨_,_,rfl⟩,rfl,hk⟩) f.sz
 cases d with
 | none=>unfold Dat at hd;subst hd;cases ru;exact P.str_of_none ⟨_,_,⟨_,_,rfl⟩,rfl,fun _ _ q=>q⟩
 | bool b=>unfold Dat at hd;subst hd;cases ru;exact P.str_of_bool ⟨_,_,⟨_,_,rfl⟩,rfl,fun _ _ q=>q⟩
 | int i=>unfold Dat at hd;subst hd;obtain⟨t,rfl⟩:=ru;exact P.str_of_int (by have:=f.sh;simpa[PyData.showable] using this) ⟨_,_,⟨_,_,rfl⟩,rfl,fun _ _ q=>q⟩
 | str z=>unfold Dat at hd;subst hd;obtain⟨t,rfl⟩:=ru;exact P.str_of_str ⟨_,_,⟨_,_,rfl⟩,rfl,fun _ _ q=>q⟩
 | list ds=>
   have hd':=hd;unfold Dat at hd';obtain⟨a,xs,rfl,_⟩:=hd';exact refs a ru
 | tuple ds=>
   have hd':=hd;unfold Dat at hd';obtain⟨a,xs,rfl,_⟩:=hd';exact refs a ru
 | dict _=>unfold Dat at hd;exact hd.elim
end
section
variable{prog:VC}{w:VG}{A:VM}{E:V4->V6->Prop}{s:V6}{vs:List V4}
theorem Qw(a:V7):Builtin.«list.sort» ⟨[.ref a],[(Str.ofString "key",.type "str")]⟩=ksk_tree a (.type "str") false:=rfl
theorem BN{hb h:Heap}{o:Obj}(K:Kpt hb h):Kpt hb (h.push o):=fun b _ q=>RJ _ (K b _ q)
theorem GY{h:Heap}{a:V7}{g:Obj->Obj}{o:Obj}:((h.update a g).push o).objs.size=h.objs.size+1:=by rw[X3,Uc]
theorem Lr{a:V7}{n:Nat}{f:V4}{hb:Heap}{P:PySem.Fin->V6->Prop}(ho:s.heap.get? a=some (seqObj "list" vs.toArray n))(a0:hb.get? a=none)(new:∀ b,s.heap.objs.size<=b->hb.get? b=none)(K:Kpt hb s.heap)(lt:vs.length<64)
 (turn:∀ v∈vs,Txt prog w A f v hb s) (h:∀ tk,Aft hb a vs P {s with toks:=tk}):VA (VB prog w) A (ksk_tree a f false) P E s:=by
 have hv:vs.toArray.size<64:=lt;have al:@LT.lt Nat _ a s.heap.objs.size:=RN ho;have u1:=WM ho fun _=>(#[]:Array V4)
 have S:Sk hb (((s.heap.update a (Obj.mapSeq fun _=>(#[]:Array V4))).push (seqObj "tuple" vs.toArray 0)).push (seqObj "list" #[] 0)) a (((s.heap.update a (Obj.mapSeq fun _=>(#[]:Array V4))).push (seqObj "tuple" vs.toArray 0)).objs.size) #[] #[] _:=
  ⟨a0,new _ (by rw[GY];exact Ss _),by rw[GY];exact Uu (UV al),BN (BN (C4 a0 K)),⟨0,RY _ rfl⟩,RJ _ (RJ _ u1)⟩
 exact V5 (listItems_at ho rfl (V5 (W7 ho rfl (V5 (seqEpoch_at u1 rfl (V5 (wpAny_newTuple (V5 (wpAny_newList (Vb
  (Lq (s:={s with heap:=((s.heap.update a (Obj.mapSeq fun _=>(#[]:Array V4))).push (seqObj "tuple" vs.toArray 0)).push (seqObj "list" #[] 0)}) S lt turn h)) (Rz _))) (Aw hv))))) (Aw hv) (Rz _))))
noncomputable abbrev Two(h:Heap)(vs:List V4):Heap:=((h.push (seqObj "list" #[] 0)).update h.objs.size (Obj.mapSeq fun z=>z++vs.toArray)).push (seqObj "list" vs.toArray 0)
theorem IA{l:V7}{Q:V4->V6->Prop}(hl:s.heap.IsList l vs.toArray)(lt:vs.length<64)(turn:∀ v∈vs,Txt prog w A.in1.in1 (.type "str") v s.heap s)
 (h:∀ h' tk (out:Array V4) c,Kpt s.heap h'->h'.get? (s.heap.objs.size+1)=some (seqObj "list" out c)->out.toList.Perm vs->Q (.ref (s.heap.objs.size+1)) {s with heap:=h',toks:=tk}):
 VA (VB prog w) A (call (.builtin "sorted") [.ref l] [(Str.ofString "key",.type "str")]) Q E s:=by
 have up:((s.heap.push (seqObj "list" #[] 0)).update s.heap.objs.size (Obj.mapSeq (·++vs.toArray))).objs.size=s.heap.objs.size+1:=(Uc ..).trans (X3 ..);have none':∀ b,s.heap.objs.size<=b->s.heap.get? b=none:=fun b=>UL;have K:Kpt s.heap (Two s.heap vs):=BN (C4 (none' _ (RE _)) (BN fun _ _ q=>q));have ho:(Two s.heap vs).get? (s.heap.objs.size+1)=some (seqObj "list" vs.toArray 0):=up▸RY _ rfl;refine call_function_entry_kw kind_sorted plain_sorted entry_sorted (ksk_s1 _ _) ?_;refine V5 (m:=checkCount "sorted" 1 1 _) (V8 (V5 (collect_list hl (V5 (wpAny_newList ?_ (Aw lt))) (Aw lt))));show VA _ _ _ _ _ {s with heap:=Two s.heap vs};rw[up];refine V5 (Vb (wpAny_call_entry_kw slot_list_sort ⟨_,ho,rfl⟩ entry_list_sort (Qw _▸Lr (hb:=s.heap) ho (none' _ (Ss _)) (fun b hb=>none' b ?_) K lt turn fun tk h' out c k g p=>?_) (ksk_l1 _ _)))
 ·have z:(Two s.heap vs).objs.size<=b:=hb;rw[X3,up]at z;exact Rn (Nat.le_add_right _ 2) z
 ·exact⟨_,rfl,V8 ⟨_,rfl,h h' tk out c k g p⟩⟩
end
theorem IB{out its:List V4}(p:out.Perm its):∀{ws:List V},Vals ws its->∃ ws',Vals ws' out/\ws'.Perm ws:=by
 induction p with
 | nil=>exact fun{ws} r=>⟨ws,r,.refl _⟩
 | cons x _ ih=>
   intro ws r;cases r with
   | cons r rr=>
     obtain⟨ws',r',p'⟩:=ih rr;exact⟨_::ws',.cons r r',.cons _ p'⟩
 | swap x y l=>
   intro ws r;cases r with
   | cons r rr=>
     cases rr with
     | cons r2 rr2=>exact⟨_::_::_,.cons r2 (.cons r rr2),.swap ..⟩
 | trans _ _ ih1 ih2=>
   intro ws r;obtain⟨w2,r2,p2⟩:=ih2 r;obtain⟨w1,r1,p1⟩:=ih1 r2;exact⟨w1,r1,p1.trans p2⟩
theorem Cw{X:Cx}(hg:X.A.guards=some [])(hu:X.A.units+102<cLine):JY X (.builtin "sorted") ["key"] (fun xs zs H Q=>∃(p:V7) (ws:List V),xs=[.ref p]/\zs=[.ty "str"]/\SqL X.K H p ws/\(∀ v∈ws,∃ d,Dat H v d/\Fit d)/\ws.length<64/\∀ l (ws':List V),H l=none->ws'.Perm ws->Q (.ref l) (upd H l (.lst ws'))):=by
 intro pq s σ H xs zs us vs Q I r rz h;obtain⟨p,ws,rfl,rfl,hq,hd,h64,q⟩:=h;obtain⟨u,rfl,rx⟩:=w6 r;cases rx;obtain⟨z,rfl,rz'⟩:=w6 rz;cases rz';obtain⟨its,r',pl,hz⟩:=I.list hq;have hlen:=r'.length;refine IA pl.isList (by omega) (fun v hv h tk K=>?_) fun h' tk out c K g pm=>?_
 ·obtain⟨j,hj,rfl⟩:=Sv hv;have hw:=RB (show j<ws.length by omega);obtain⟨u,hu',ru⟩:=r'.get hw;rw[RB hj]at hu';have hu':=oj hu';obtain⟨d,dd,f⟩:=hd _ (RD hw);have J:Inv X pq σ H {s with heap:=h,toks:=tk}:=I.kept (t':=tk) K;rw[hu'];exact OM (A:=X.A.in1.in1) hg (by show X.A.units+1+1+100<cLine;omega) J dd f ru
 ·obtain⟨ws',rv,pw⟩:=IB pm r';have hz2:ws'.length<=V9:=by rw[pw.length_eq];exact hz
  exact⟨.ref (s.heap.objs.size+1),_,I.laid (h':=h') (t':=tk) K (Ss _) (show ObjOk X.prog X.w _ _ _ (.lst ws') from ⟨hz2,out.toList,c,rv,by simpa using g⟩),rfl,q _ _ (I.hok.fresh (Ss _)) pw⟩
end L2
namespace Rf
open PySem L2
structure GoodA(X:Cx)(rs:List Expr)(w:WA):Prop where
 pa:PA X rs (liftA X.K w)
 m:MonoA w
section
variable{X:Cx}
theorem IC:GoodA X [] DD:=⟨LL,.nil⟩
theorem Fc{x:Expr}{xs:List Expr}{a:WE×WT}{b:WA}(ha:Good X x a)(hb:GoodA X xs b)(hs:c2 x=true):GoodA X (x::xs) (CM a.1 b):=⟨JF ha.m hb.m ha.pe hb.pa (c6 hs),.cons ha.m hb.m⟩
theorem ID{rs:List Expr}{j:Nat}{p:Pos}{w:WA}(h:GoodA X rs w):Good X (.Tuple rs j p) (tt1 (wn LN w)) := .one (c9 _ (NW h.pa) (LP h.m)) (.n .tup h.m) rfl
theorem IE{rs:List Expr}{p:Pos}{w:WA}(h:GoodA X rs w):Good X (.List rs p) (tt1 (wn LO w)) := .one (c9 _ (NX h.pa) (LQ h.m)) (.n .lst h.m) rfl
theorem Jy{K:R8}{s:Sn}{w:WA}(ms:MonoN s)(m:MonoA w):∀ σ H Q,lift K (wn s w) σ H Q->Mh (spS K s) [] E0 (liftA K w) σ H Q:=by
 rintro σ H Q ⟨as,ρ,S,ok,en,h⟩;refine⟨as,ρ,S,ok,en,m _ _ _ _ (fun xs S1 hs as1 H1 vs g1 ok1 rv=>?_) h⟩;show spS K s (vs++[]) H1 Q E0;rw[TX];exact⟨as1,S1,xs,ok1,rv,ms _ _ _ _ (fun z S3 hz=>hz.mono g1) hs⟩
theorem Fd{T:List Str}{Δ:Nat->Sn}{k f:Nat}{N:List Str}{sc:VI}{x:Str}{y:Expr}{ys:List Expr}{p q:Pos}{w:WA}(C:Cok T Δ X k N sc)(hf:T[f]?=some x)(hg:glo sc x=true)(h:GoodA X (y::ys) w)(hy:c2 y=true)(hs:ys.all c2=true):Good X (.Call (.Name x p) (y::ys) [] q) (tt1 (wn (Δ f) w)):=by
 obtain⟨d,ps,hC,hr⟩:=C.call f x hf;obtain⟨fa,fd,F,hm,hk,hb⟩:=hC.ex;unfold glo at hg;simp only[RA,bQ,RZ]at hg;have gl:Gl X x:=by show X.env.scope.names.lookup x=_;rw[C.hs];exact hg.1.1
 exact .one (c9 _ (L5 F hr gl hm hk hb .nil Pi h.pa hg.2 (c6 hy) (BJ hs)) (Jy (C.mono f) h.m)) (.n (C.mono f) h.m) rfl
theorem Q5:VE "abs"=some (.builtin "abs"):=by decide +kernel
theorem Q6:VE "min"=some (.builtin "min"):=by decide +kernel
theorem Q7:VE "max"=some (.builtin "max"):=by decide +kernel
theorem Mv:VE "len"=some (.builtin "len"):=by decide +kernel
theorem Q8:VE "all"=some (.builtin "all"):=by decide +kernel
theorem Mw:VE "int"=some (.type "int"):=by decide +kernel
theorem Fe:VE "list"=some (.type "list"):=by decide +kernel
theorem Q9:VE "isinstance"=some (.builtin "isinstance"):=by decide +kernel
theorem Mx:VE "str"=some (.type "str"):=by decide +kernel
theorem ON:VE "bool"=some (.type "bool"):=by decide +kernel
theorem Ls:VE "range"=some (.type "range"):=by decide +kernel
theorem b_set:VE "set"=some (.type "set"):=by decide +kernel
theorem GZ:VE "tuple"=some (.type "tuple"):=by decide +kernel
theorem Jz{T:List Str}{Δ:Nat->Sn}{k:Nat}{N:List Str}{sc:VI}{b:BI}{y:Expr}{ys:List Expr}{p q:Pos}{w:WA}(C:Cok T Δ X k N sc)(hg:glo sc b.name=true)(h:GoodA X (y::ys) w)(hy:c2 y=true)(hs:ys.all c2=true):Good X (.Call (.Name b.name p) (y::ys) [] q) (tt1 (wn (sBi b) w)):=by
 unfold glo at hg;simp only[RA,bQ,RZ]at hg;have gl:Gl X b.name:=by show X.env.scope.names.lookup b.name=_;rw[C.hs];exact hg.1.1
 have hm:=C.bl b;have e1:=c6 (es:=ys) (env:=X.env) hy;have e2:=BJ (env:=X.env) (pos:=q) hs;refine .one (c9 (t:=tCB (rBi X.K b) (liftA X.K w)) _ ?_ (Pr O0 .bi h.m)) (.n .bi h.m) rfl;cases b with
 | len=>exact r6 DU gl hm Mv h.pa (by decide) hg.2 e1 e2
 | abs=>exact r6 Il gl hm Q5 h.pa (by decide) hg.2 e1 e2
 | min=>exact r6 (HP C.calm) gl hm Q6 h.pa (by decide) hg.2 e1 e2
 | max=>exact r6 (HN C.calm) gl hm Q7 h.pa (by decide) hg.2 e1 e2
 | int=>exact w9 HQ gl hm Mw h.pa (by decide) hg.2 e1 e2
 | list=>exact w9 DV gl hm Fe h.pa (by decide) hg.2 e1 e2
 | tuple=>exact w9 Cp gl hm GZ h.pa (by decide) hg.2 e1 e2
 | all=>exact r6 (Hb C.calm) gl hm Q8 h.pa (by decide) hg.2 e1 e2
 | any=>exact r6 (Hl C.calm) gl hm Po h.pa (by decide) hg.2 e1 e2
 | sorted=>exact r6 ED gl hm J6 h.pa (by decide) hg.2 e1 e2
 | isi=>exact r6 (call_isi1.or HZ) gl hm Q9 h.pa (by decide) hg.2 e1 e2
 | str=>exact w9 (Hh C.gd (US (Nat.add_le_add_left (by decide) _) C.un)) gl hm Mx h.pa (by decide) hg.2 e1 e2
theorem Mono.mt{m:MT}{a:WE}{b:WA}(ma:Mono a)(mb:MonoA b):Mono (wMt m a b):=fun ρ S P P' i h=>ma _ _ _ _ (fun x S1 ⟨e,h⟩=>⟨e,mb _ _ _ _ (fun xs S2 h=>De _ _ _ _ i h) h⟩) h
theorem m6{ro:Expr}{nm:Str}{env:Env}{wh:Sem V4}(h:C2 ro=true):W4 ro nm env wh=wh:=by
 unfold W4;split
 ·cases h
 ·rfl
theorem K0{K:R8}{as:List V7}{H:Hp}{S:Sto}{k:Nat}{v:V}{xs:List SV}(ok:Ok K as H S)(r:Rl K as H v (.loc k))(hs:S[k]?=some (.lst xs)):tyV K "list" v H:=by
 obtain⟨a,vs,rfl,_,h1,_⟩:=j3 ok r hs;exact .inl ⟨rfl,_,SqL.of h1⟩
theorem OO{K:R8}{m:MT}{a:WE}{b:WA}(ma:Mono a)(mb:MonoA b):∀ σ H Q,lift K (wMt m a b) σ H Q->tBM K "list" (rMt m) (lift K a) (liftA K b) σ H Q:=by
 rintro σ H Q ⟨as,ρ,S,ok,en,h⟩;refine⟨as,ρ,S,ok,en,ma _ _ _ _ (fun x S1 ⟨⟨j,zs,e,hz⟩,h⟩ as1 H1 v g1 ok1 rv=>?_) h⟩;subst e;refine⟨K0 ok1 rv hz,as1,ρ,S1,ok1,en.mono g1.pre (g1.ku ok),mb _ _ _ _ (fun xs S2 h as2 H2 vs g2 ok2 rs=>?_) h⟩;exact JV ok2 (Rl.mono g2.pre (g2.ku ok1) _ v rv) rs (De _ _ _ _ (fun z S3 hz=>hz.mono (g1.trans g2)) h)
theorem Lu{K:R8}{m:MT}{a:WE}(ma:Mono a):∀ σ H Q,lift K (wMt m a DD) σ H Q->Nc K "list" (rMt m) (lift K a) σ H Q:=by
 rintro σ H Q ⟨as,ρ,S,ok,en,h⟩;refine⟨as,ρ,S,ok,en,ma _ _ _ _ (fun x S1 ⟨⟨j,zs,e,hz⟩,h⟩ as1 H1 v g1 ok1 rv=>?_) h⟩;subst e;exact⟨K0 ok1 rv hz,JV ok1 rv .nil (De _ _ _ _ (fun z S3 hz=>hz.mono g1) h)⟩
theorem MtR.orM{id:String}{r r':V->List V->Hp->VK->Prop}(h:MtM X id r)(h':MtM X id r'):MtR X id (fun x xs H Q=>r x xs H Q\/r' x xs H Q):=fun pq s σ H x xs v us Q I rx rs q=>q.elim (h pq s σ H x xs v us Q I rx rs) (h' pq s σ H x xs v us Q I rx rs)
theorem K1{m:MT}{ro y:Expr}{ys:List Expr}{ap cp:Pos}{a:WE×WT}{b:WA}(ha:Good X ro a)(hb:GoodA X (y::ys) b)(hn:C2 ro=true)(hl:(ap.endLine == cp.line)=true)(hk:(y::ys).length<29)(hy:c2 y=true)(hs:ys.all c2=true):Good X (.Call (.Attribute ro m.name ap) (y::ys) [] cp) (tt1 (wMt m a.1 b)):=by
 have e1:=c6 (es:=ys) (env:=X.env) hy;have e2:=BJ (env:=X.env) (pos:=cp) hs
 have e3:((backTo cp (VF (y::ys) X.env)).all (fun x=>!x.1)&&(W9 cp (Vn [] X.env)).all (fun x=>x.1.isSome)
  && decide ((y::ys).length+([]:List Keyword).length+(if ([]:List Keyword).isEmpty then 0 else 1)<30))=true:=by
  rw[DF (by rw[SF,hy,hs];rfl)];simp only[Bool.true_and,RA,dQ];exact⟨rfl,by show(y::ys).length+0+0<30;omega⟩
 refine .one (c9 (t:=tBM X.K "list" (rMt m) (lift X.K a.1) (liftA X.K b)) _ ?_ (OO ha.m hb.m)) (.mt ha.m hb.m) rfl;cases m with
 | append=>exact E7 PySem.F.plainAttrs_list PySem.F.slot_list_append PySem.F.type_list_append B1 ha.pe hb.pa (m6 hn) e3 hl e1 e2
 | extend=>exact E7 PySem.F.plainAttrs_list PySem.F.slot_list_extend PySem.F.type_list_extend D7 ha.pe hb.pa (m6 hn) e3 hl e1 e2
 | pop=>exact E7 PySem.F.plainAttrs_list PySem.F.slot_list_pop PySem.F.type_list_pop (MtR.orM Iw E9) ha.pe hb.pa (m6 hn) e3 hl e1 e2
 | insert=>exact E7 PySem.F.plainAttrs_list PySem.F.slot_list_insert PySem.F.type_list_insert D9 ha.pe hb.pa (m6 hn) e3 hl e1 e2
 | reverse=>exact E7 PySem.F.plainAttrs_list PySem.F.slot_list_reverse PySem.F.type_list_reverse CD ha.pe hb.pa (m6 hn) e3 hl e1 e2
theorem IF{m:MT}{ro:Expr}{ap cp:Pos}{a:WE×WT}(ha:Good X ro a)(hn:C2 ro=true)(hl:(ap.endLine == cp.line)=true):Good X (.Call (.Attribute ro m.name ap) [] [] cp) (tt1 (wMt m a.1 DD)):=by
 refine .one (c9 (t:=Nc X.K "list" (rMt m) (lift X.K a.1)) _ ?_ (Lu ha.m)) (.mt ha.m .nil) rfl;cases m with
 | append=>exact CC PySem.F.plainAttrs_list PySem.F.slot_list_append PySem.F.type_list_append B1 ha.pe (m6 hn) hl
 | extend=>exact CC PySem.F.plainAttrs_list PySem.F.slot_list_extend PySem.F.type_list_extend D7 ha.pe (m6 hn) hl
 | pop=>exact CC PySem.F.plainAttrs_list PySem.F.slot_list_pop PySem.F.type_list_pop (MtR.orM Iw E9) ha.pe (m6 hn) hl
 | insert=>exact CC PySem.F.plainAttrs_list PySem.F.slot_list_insert PySem.F.type_list_insert D9 ha.pe (m6 hn) hl
 | reverse=>exact CC PySem.F.plainAttrs_list PySem.F.slot_list_reverse PySem.F.type_list_reverse CD ha.pe (m6 hn) hl
theorem IG{T:List Str}{Δ:Nat->Sn}{k:Nat}{N:List Str}{sc:VI}{t:TyN}{p:Pos}(C:Cok T Δ X k N sc)(hg:glo sc (Str.ofString t.nm)=true)(ht:t ≠ .none):Good X (.Name (Str.ofString t.nm) p) (tt1 (wC (.ty t))):=by
 unfold glo at hg;simp only[RA,bQ,RZ]at hg;have gl:Gl X (Str.ofString t.nm):=by show X.env.scope.names.lookup _=_;rw[C.hs];exact hg.1.1
 have b:VE (Str.ofString t.nm)=some (.type t.nm):=by cases t<;>first | exact Mw | exact ON | exact Mx | exact Fe | exact GZ | exact absurd rfl ht
 exact .one (c9 _ (Kr (v := .ty t.nm) gl (C.ty t ht) b rfl (by cases t<;>first | decide | exact absurd rfl ht) hg.2) (EH fun _ _=>rl_ty.mpr rfl)) .c rfl
theorem OP{K:R8}{as:List V7}{H:Hp}{lo hi:Int}:RlAll K as H (He lo (hi - lo).toNat) (Am lo hi):=by
 unfold He Am
 induction RL (hi - lo).toNat with
 | nil=>exact .nil
 | cons i r ih=>exact .cons (rl_int.mpr rfl) ih
theorem CV{a:WE}(m:Mono a):Mono (FV a):=fun ρ S P P' i h=>m _ _ _ _ (fun x S1 ⟨j,e,z,q⟩=>⟨j,e,z,i _ _ q⟩) h
theorem ES{T:List Str}{Δ:Nat->Sn}{k:Nat}{N:List Str}{sc:VI}{r:Expr}{p p2 q q2:Pos}{a:WE×WT}(C:Cok T Δ X k N sc)(hg:glo sc "list"=true)(hg2:glo sc "range"=true)(ha:Good X r a)(hs:c2 r=true):Good X (.Call (.Name "list" p) [.Call (.Name "range" p2) [r] [] q2] [] q) (tt1 (FV a.1)):=by
 unfold glo at hg hg2;simp only[RA,bQ,RZ]at hg hg2;have gl:Gl X "list":=by show X.env.scope.names.lookup ("list":Str)=_;rw[C.hs];exact hg.1.1
 have gr:Gl X "range":=by show X.env.scope.names.lookup ("range":Str)=_;rw[C.hs];exact hg2.1.1
 have e1:=w9 (p:=p2) (pos:=q2) Hc gr C.rng Ls (m9 ha.pe AD (c6 hs)) (by decide) hg2.2 (c6 hs) rfl;refine .one (c9 _ (w9 (p:=p) (pos:=q) (DW C.calm) gl (C.bl .list) Fe (m9 e1 AD rfl) (by decide) hg.2 rfl rfl) ?_) (CV ha.m) rfl;rintro σ H Q ⟨as,ρ,S,ok,en,h⟩;refine⟨as,ρ,S,ok,en,ha.m _ _ _ _ (fun x S1 ⟨j,e,z,q⟩ as1 H1 v g1 ok1 rv=>?_) h⟩;subst e;refine⟨j,by rw[rl_int.mp rv],fun p hp=>⟨p,0,j,rfl,e6,by decide,by decide,z.1,by omega,by omega,?_⟩⟩;exact v8 (ok1.new hp) OP (q.mono (g1.trans (Go.new hp)))
theorem Br{a:WE}(m:Mono a):Mono (Dg a):=fun ρ S P P' i h=>m _ _ _ _ (fun x S1 ⟨xs,ns,a,b,c,d,q⟩=>⟨xs,ns,a,b,c,d,i _ _ q⟩) h
theorem RlD.length{K:R8}{as:List V7}{H:Hp}:∀{kvs:List (Int×SV)} {ks:List (Key×V)},RlD K as H ks kvs->ks.length=kvs.length
 | [],_,h=>by rw[show _=[] from h];rfl
 | p::r,_,⟨v,t,e,_,h⟩=>by rw[e,Rt,Rt,RlD.length h]
theorem CW{a d:WE}(m:Mono a)(m':Mono d):Mono (FW a d):=fun ρ S P P' i h=>m _ _ _ _ (fun x S1 h=>m' _ _ _ _ (fun y S2 ⟨k,xs,a,b,c,l,d,q⟩=>⟨k,xs,a,b,c,l,d,fun ys p=>i _ _ (q ys p)⟩) h) h
theorem DH{a:WE}(m:Mono a):Mono (Jg a):=fun ρ S P P' i h=>m _ _ _ _ (fun x S1 ⟨k,kvs,a,b,q⟩=>⟨k,kvs,a,b,i _ _ q⟩) h
theorem RlAll.perm{K:R8}{as:List V7}{H:Hp}{ws ws':List V}(p:ws'.Perm ws):∀{xs:List SV},RlAll K as H ws xs->∃ xs',RlAll K as H ws' xs'/\xs'.Perm xs:=by
 induction p with
 | nil=>exact fun{xs} r=>⟨xs,r,.refl _⟩
 | cons v _ ih=>
   intro xs r;cases xs with
   | nil=>exact absurd (show _::_=[] from r) (U3 _ _)
   | cons x xs=>
     obtain⟨_,_,e,r1,r2⟩:=r;cases e;obtain⟨xs',r',p'⟩:=ih r2;exact⟨x::xs',⟨_,_,rfl,r1,r'⟩,.cons _ p'⟩
 | swap u v l=>
   intro xs r;cases xs with
   | nil=>exact absurd (show _::_=[] from r) (U3 _ _)
   | cons x xs=>
     obtain⟨_,_,e,r1,r2⟩:=r;cases e;cases xs with
     | nil=>exact absurd (show _::_=[] from r2) (U3 _ _)
     | cons y xs=>
       obtain⟨_,_,e,r3,r4⟩:=r2;cases e;exact⟨y::x::xs,⟨_,_,rfl,r3,_,_,rfl,r1,r4⟩,.swap ..⟩
 | trans _ _ ih1 ih2=>
   intro xs r;obtain⟨x2,r2,p2⟩:=ih2 r;obtain⟨x1,r1,p1⟩:=ih1 r2;exact⟨x1,r1,p1.trans p2⟩
theorem ET{T:List Str}{Δ:Nat->Sn}{k:Nat}{N:List Str}{sc:VI}{r u:Expr}{p q kp:Pos}{a d:WE×WT}(C:Cok T Δ X k N sc)(hg:glo sc "sorted"=true)(ha:Good X r a)(hd:Good X u d)(hs:c2 r=true):Good X (.Call (.Name "sorted" p) [r] [⟨some "key",u,kp⟩] q) (tt1 (FW a.1 d.1)):=by
 unfold glo at hg;simp only[RA,bQ,RZ]at hg;have gl:Gl X "sorted":=by show X.env.scope.names.lookup ("sorted":Str)=_;rw[C.hs];exact hg.1.1
 refine .one (c9 _ (Ho (Cw C.gd C.un) gl (C.bl .sorted) Hk (m9 ha.pe AD (c6 hs)) (L6 hd.pe NZ) rfl (by decide) hg.2 (by rw[c6 hs];rfl) (by rw[c6 hs];rfl) rfl rfl) ?_) (CW ha.m hd.m) rfl;rintro σ H Q ⟨as,ρ,S,ok,en,h⟩;refine⟨as,ρ,S,ok,en,ha.m _ _ _ _ (fun x S1 h as1 H1 v g1 ok1 rv=>?_) h⟩;refine⟨as1,ρ,S1,ok1,en.mono g1.pre (g1.ku ok),hd.m _ _ _ _ (fun y S2 ⟨k,xs,e0,e1,h1,h2,h3,q⟩ as2 H2 v2 g2 ok2 rv2=>?_) h⟩;subst e0;subst e1;rw[rl_ty]at rv2;obtain⟨a,us,ev,ea,ha,rr⟩:=j3 ok2 (Rl.mono g2.pre (g2.ku ok1) _ _ rv) h1;refine⟨a,us,by rw[ev],by rw[rv2];rfl,SqL.of ha,fun w hw=>?_,by rw[rr.length];exact h2,fun l ws' hl pw=>?_⟩
 ·obtain⟨j,hj⟩:=SK hw;have jl:=(gM hj).1;have hx:=RB (show j<xs.length by rw[<-rr.length];exact jl);obtain⟨w',e,rw'⟩:=rr.get hx;rw[hj]at e;cases e;obtain⟨d,e1,e2⟩:=h3 _ (RD hx);exact⟨d,JT ok2 20 e1 rw',e2⟩
 ·obtain⟨ys,ry,py⟩:=RlAll.perm pw rr;exact v8 ok2 ry ((q ys py).mono (g1.trans g2)) l hl
theorem Ff{T:List Str}{Δ:Nat->Sn}{k:Nat}{N:List Str}{sc:VI}{r:Expr}{p q:Pos}{a:WE×WT}(C:Cok T Δ X k N sc)(hg:glo sc "len"=true)(ha:Good X r a)(hs:c2 r=true):Good X (.Call (.Name "len" p) [r] [] q) (tt1 (Jg a.1)):=by
 unfold glo at hg;simp only[RA,bQ,RZ]at hg;have gl:Gl X "len":=by show X.env.scope.names.lookup ("len":Str)=_;rw[C.hs];exact hg.1.1
 refine .one (c9 _ (r6 Hg gl (C.bl .len) Mv (m9 ha.pe AD (c6 hs)) (by decide) hg.2 (c6 hs) rfl) ?_) (DH ha.m) rfl;rintro σ H Q ⟨as,ρ,S,ok,en,h⟩;refine⟨as,ρ,S,ok,en,ha.m _ _ _ _ (fun x S1 ⟨k,kvs,e0,h1,q⟩ as1 H1 v g1 ok1 rv=>?_) h⟩;subst e0;obtain⟨a,ea,rfl⟩:=rl_loc.mp rv;obtain⟨ks,h2,h3⟩:=ok1.obj k _ a h1 ea;refine⟨a,ks,rfl,h2,?_⟩;have e:=RlD.length h3;rw[e];exact q as1 H1 _ g1 ok1 (rl_int.mpr rfl)
theorem Dm{T:List Str}{Δ:Nat->Sn}{k:Nat}{N:List Str}{sc:VI}{r:Expr}{p p2 q q2:Pos}{a:WE×WT}(C:Cok T Δ X k N sc)(hg:glo sc "len"=true)(hg2:glo sc "set"=true)(ha:Good X r a)(hs:c2 r=true):Good X (.Call (.Name "len" p) [.Call (.Name "set" p2) [r] [] q2] [] q) (tt1 (Dg a.1)):=by
 unfold glo at hg hg2;simp only[RA,bQ,RZ]at hg hg2;have gl:Gl X "len":=by show X.env.scope.names.lookup ("len":Str)=_;rw[C.hs];exact hg.1.1
 have gr:Gl X "set":=by show X.env.scope.names.lookup ("set":Str)=_;rw[C.hs];exact hg2.1.1
 refine .one (c9 _ (Hj C.calm gl (C.bl .len) gr C.st0 ha.pe (c6 hs) rfl rfl rfl) ?_) (Br ha.m) rfl;rintro σ H Q ⟨as,ρ,S,ok,en,h⟩;refine⟨as,ρ,S,ok,en,ha.m _ _ _ _ (fun x S1 ⟨xs,ns,h0,h1,h2,h3,q⟩ as1 H1 v g1 ok1 rv=>?_) h⟩;obtain⟨a,us,rfl,hq,rr⟩:=v6 ok1 rv h0 h1;rw[Dc h2 rr]at hq;exact⟨a,ns,rfl,hq,by unfold WY;omega,q as1 H1 _ g1 ok1 (rl_int.mpr rfl)⟩
end
section
variable{K:R8}{as:List V7}{H:Hp}{S:Sto}
theorem RlD.get:∀{kvs:List (Int×SV)} {ks:List (Key×V)} {i:Nat} {p:Int×SV},RlD K as H ks kvs->kvs[i]?=some p->∃ v,ks[i]?=some (.inl p.1,v)
 | q::r,_,0,p,⟨v,t,e,_,_⟩,hp=>by cases hp;subst e;exact⟨v,rfl⟩
 | q::r,_,i+1,p,⟨v,t,e,_,h⟩,hp=>by
   subst e;obtain⟨u,hu⟩:=RlD.get (i:=i) h (show r[i]?=some p from hp);exact⟨u,hu⟩
theorem RlD.val:∀{kvs:List (Int×SV)} {ks:List (Key×V)},RlD K as H ks kvs->∀ i,(∃ x v,C0 kvs i=some x/\Ac ks (.inl i)=some v/\Rl K as H v x)\/(C0 kvs i=none/\Ac ks (.inl i)=none)
 | [],_,h,i=>by rw[show _=[] from h];exact .inr ⟨rfl,rfl⟩
 | p::r,_,⟨v,t,e,h1,h2⟩,i=>by
   subst e;by_cases hp:p.1=i
   ·refine .inl ⟨p.2,v,?_,?_,h1⟩
    ·unfold C0;rw[UD (by simp[hp])];rfl
    ·unfold Ac;rw[UD (by simp[hp])];rfl
   ·have e1:C0 (p::r) i=C0 r i:=by unfold C0;rw[UE (by simp[hp])]
    have e2:Ac ((Sum.inl p.1,v)::t) (Sum.inl i)=Ac t (Sum.inl i):=by unfold Ac;rw[UE (by simp[hp])]
    rw[e1,e2];exact RlD.val h2 i
theorem RlD.any:∀{kvs:List (Int×SV)} {ks:List (Key×V)},RlD K as H ks kvs->∀ i,(ks.any fun kv=>decide (kv.1=Sum.inl i))=kvs.any fun p=>decide (p.1=i)
 | [],_,h,i=>by rw[show _=[] from h];rfl
 | p::r,_,⟨v,t,e,h1,h2⟩,i=>by
   subst e;rw[SX,SX,RlD.any h2 i]
   congr 1
   simp
theorem RlD.set{v:V}{x:SV}(rv:Rl K as H v x):∀{kvs:List (Int×SV)} {ks:List (Key×V)},RlD K as H ks kvs->∀ i,RlD K as H (ks.map fun kv=>if kv.1=Sum.inl i then (kv.1,v) else kv) (kvs.map fun p=>if p.1=i then (p.1,x) else p)
 | [],_,h,i=>by rw[show _=[] from h];rfl
 | p::r,_,⟨u,t,e,h1,h2⟩,i=>by
   subst e;rw[RV,RV];by_cases hp:p.1=i
   ·rw[iP hp,iP (by rw[hp])];exact⟨v,_,rfl,rv,RlD.set rv h2 i⟩
   ·rw[iG hp,iG (fun z=>hp (Sum.inl.inj z))];exact⟨u,_,rfl,h1,RlD.set rv h2 i⟩
theorem RlD.snoc{v:V}{x:SV}(rv:Rl K as H v x)(i:Int):∀{kvs:List (Int×SV)} {ks:List (Key×V)},RlD K as H ks kvs->RlD K as H (ks++[(Sum.inl i,v)]) (kvs++[(i,x)])
 | [],_,h=>by rw[show _=[] from h];exact⟨v,[],rfl,rv,rfl⟩
 | p::r,_,⟨u,t,e,h1,h2⟩=>by subst e;exact⟨u,_,rfl,h1,RlD.snoc rv i h2⟩
theorem RlD.put{kvs:List (Int×SV)}{ks:List (Key×V)}{v:V}{x:SV}(h:RlD K as H ks kvs)(rv:Rl K as H v x)(i:Int):RlD K as H (Ad ks (Sum.inl i) v) (CO kvs i x):=by
 unfold Ad CO;rw[h.any i];by_cases z:(kvs.any fun p=>decide (p.1=i))=true
 ·rw[iP z,iP z];exact h.set rv i
 ·rw[iG z,iG z];exact h.snoc rv i
theorem OQ{x:SV}{v:V}{kvs:List (Int×SV)}(ok:Ok K as H S)(r:Rl K as H v x)(h:OD x S=some kvs):∃ a k ks,x = .loc k/\v = .ref a/\as[k]?=some a/\Rd H a (.dK ks)/\RlD K as H ks kvs:=by
 cases x with
 | loc k=>
   obtain⟨a,ea,rfl⟩:=rl_loc.mp r;unfold OD at h;cases hs:S[k]? with
   | none=>simp only[hs]at h;cases h
   | some o=>
     have ro:=ok.obj k o a hs ea;cases o with
     | lst _=>simp only[hs]at h;cases h
     | iset _=>simp only[hs]at h;cases h
     | dct kv=>simp only[hs]at h;cases h;obtain⟨ks,h1,h2⟩:=ro;exact⟨a,k,ks,rfl,rfl,ea,.inl h1,h2⟩
     | dcf o ks kv=>simp only[hs]at h;cases h;exact⟨a,k,ks,rfl,rfl,ea,.inr ⟨o,ro.1⟩,ro.2⟩
 | _=>cases h
theorem AT{n:Bool}:Mono2 (Hr n):=fun x y S P P' i ⟨kvs,j,a,b,q⟩=>⟨kvs,j,a,b,i _ _ q⟩
theorem C5{n:Bool}:B6 K (Hr n) (fun y x H Q=>∃ a o,x = .ref a/\DGet H a y o/\Q (.bl (if n then !o.isSome else o.isSome)) H):=fun as H S y x u v Q ok ry rx h=>by
 obtain⟨kvs,i,h1,rfl,q⟩:=h;obtain⟨a,k,ks,rfl,rfl,ea,rd,rr⟩:=OQ ok rx h1;rw[rl_int]at ry;subst ry
 have e:(Ac ks (Sum.inl i)).isSome=(C0 kvs i).isSome:=by
  rcases rr.val i with⟨x',v',e1,e2,r'⟩ | ⟨e1,e2⟩<;>rw[e1,e2]<;>rfl
 refine⟨a,_,rfl,.inl ⟨ks,.inl i,rd,rfl,rfl⟩,?_⟩;rw[e];exact q.here ok (rl_bl.mpr rfl)
end
section
variable{X:Cx}
theorem Bg:Mono Jh:=fun ρ S P P' i h=>i _ _ h
theorem Fg{p:Pos}:Good X (.Dict [] [] p) (tt1 Jh):=
 .one (c9 _ JA (fun σ H Q ⟨as,ρ,S,ok,en,h⟩=>fun l hl=>h _ _ _ (Go.push hl) (ok.pushO hl ⟨[],e6,rfl⟩) (rl_loc.mpr ⟨l,by rw[<-ok.len];exact Rp,rfl⟩))) Bg rfl
theorem IH{n:Bool}{x y:Expr}{p:Pos}{a b:WE×WT}(hu:X.A.units+1<cLine)(ha:Good X x a)(hb:Good X y b)(h:j9 y=true):Good X (.Compare x [if n then .NotIn else .In] [y] p) (tt2 (w2 (Hr n) a.1 b.1)):=by
 have m:Mono (w2 (Hr n) a.1 b.1) := .two AT ha.m hb.m;cases n with
 | false=>exact{pe:=c9 _ (IV (J8 hu ha.pe hb.pe) (y8 h)) (A9 C5 AT ha.m hb.m)
                pt:=Bb _ (IW (J8 hu ha.pe hb.pe) (y8 h)) fun σ H Q h=>A9 C5 AT ha.m hb.m σ H _ (Dk m σ H Q h)
                m:=m
                mt := .bl m
                pw:=fun _ _ _ e=>by cases e}
 | true=>exact{pe:=c9 _ (IV (DC hu ha.pe hb.pe) (y8 h)) (A9 C5 AT ha.m hb.m)
               pt:=Bb _ (IW (DC hu ha.pe hb.pe) (y8 h)) fun σ H Q h=>A9 C5 AT ha.m hb.m σ H _ (Dk m σ H Q h)
               m:=m
               mt := .bl m
               pw:=fun _ _ _ e=>by cases e}
end
end Rf
namespace L2
open PySem PySem.Spec PyProof.Rows
noncomputable def ItV(K:R8)(a:V7)(n:Nat):It:=
 ⟨fun i H=>i<n/\∃ xs x,SqL K H a xs/\xs[n - 1 - i]?=some x,fun i H x H'=>H'=H/\∀ xs,SqL K H a xs->xs[n - 1 - i]?=some x,fun i H=>n<=i⟩
theorem K3{P:VC}{w:VG}{K:R8}{tg:Expr}(a it:V7)(n:Nat):Turn P w K tg (ItV K a n) [it] it (fun i h=>i<=n/\h.IsRevIter it a ((n:Int) - 1 - (i:Nat))) where
 mem:=RG.mpr rfl
 obj:=fun i h st b hb=>by
  obtain⟨o,e,c,d⟩:=st.2;exact⟨o,(RG.mp hb)▸e,fun v z=>by rw[d]at z;cases z⟩
 keep:=fun i h h' st k=>⟨st.1,st.2.at fun o e=>k it (RG.mpr rfl) o e⟩
 item:=by
  intro X hP hw hK hc i pq s σ H E I hf st hg;subst hP hw hK;obtain⟨hi,xs,x,hq,hx⟩:=hg;obtain⟨its,rv,p,hz⟩:=I.list hq;obtain⟨u,hu,ru⟩:=rv.get hx;have f:=hf it (RG.mpr rfl);have e1:(n:Int) - 1 - (i:Nat)=((n - 1 - i:Nat):Int):=by omega
  refine wpAny_pyNext_rev_item (x:=u) (e1▸st.2) p.isList (by simpa using hu) fun h' st' sb=>?_;have e2:((n - 1 - i:Nat):Int) - 1=(n:Int) - 1 - ((i+1:Nat):Int):=by omega
  have J:Inv X pq σ H {s with heap:=h'}:=I.turned (t':=s.toks) (fun b o hb e=>(sb.2 b hb).trans e) f.1 f.2.1 f.2.2.2.1 f.2.2.2.2.1 f.2.2.2.2.2;obtain⟨o,e,c,d⟩:=id st';exact⟨u,rfl,Fw (s:={s with heap:=h'}) e c d (by decide) ⟨x,H,J,ru,⟨rfl,fun ys hy=>by rw[I.list_inj hy hq];exact hx⟩,⟨hi,e2▸st'⟩,fun b hb=>(hf b hb).1⟩⟩
 done:=by
   intro X hP hw hK hc i pq s σ H E I hf st hg;subst hP hw hK;have f:=hf it (RG.mpr rfl);have e1:(n:Int) - 1 - (i:Nat) = -1:=by have:n<=i:=hg;have:=st.1;omega
   exact wpAny_pyNext_rev_end (I.ok.hd hc) (e1▸st.2) fun h' eb=>⟨rfl,I.turned (t':=s.toks) (fun b o hb e=>eb b o hb e) f.1 f.2.1 f.2.2.2.1 f.2.2.2.2.1 f.2.2.2.2.2⟩
 self:=fun _ _ _ _ _ st h=>WW st.2 h
section
variable{X:Cx}
noncomputable def Qx(K:R8)(ta:TA):TI:=fun σ H R=>ta σ H fun vs H1=>∃ a xs,vs=[.ref a]/\SqL K H1 a xs/\R (ItV K a xs.length) H1
theorem OR{tg a:Expr}{ta:TA}{p pos:Pos}(hg:Gl X "reversed")(hm:X.mg "reversed"=none)(ha:PA X [a] ta)(hs:VF [a] X.env=[(false,eval a X.env)]:=by rfl):
 PI X tg (.Call (.Name "reversed" p) [a] [] pos) (Qx X.K ta):=by
 intro pq s σ H R I h;refine Call_ (AC I hg hm PyProof.Rows.boot_reversed (PyProof.Rows.callWith_type1 (thn (ha pos pq s σ H _ I h) fun us s1 ⟨vs,H1,I1,r1,q1⟩=>?_) hs rfl));obtain⟨l,xs,e,hq,q⟩:=q1;subst e;obtain⟨u,rfl,rx⟩:=w6 r1;cases rx;obtain⟨its,rv,pl,hz⟩:=I1.list hq;refine call_reversed_list pl.isList ?_;have hv:(s1.heap.push (revObj l ((its.toArray.size:Int) - 1))).IsRevIter s1.heap.objs.size l ((its.toArray.size:Int) - 1):=⟨_,RY _ rfl,rfl,rfl⟩
 refine WW hv ?_;have hl:=rv.length;have e1:((its.toArray.size:Int) - 1)=(xs.length:Int) - 1 - ((0:Nat):Int):=by rw[RF];omega
 exact⟨s1.heap.objs.size,[s1.heap.objs.size],_,_,H1,rfl,I1.kept (t':=s1.toks) fun b o e=>RJ _ e,K3 l _ xs.length,⟨Rz _,e1▸hv⟩,fun b hb=>by
  rw[RG.mp hb];exact I1.fpOk (RE _) (I1.hok.fresh (RE _)),q⟩
end
end L2
namespace Rf
open PySem L2
noncomputable def Ak(K:R8)(g:Tg):TG:=fun v σ H Q=>∃ as ρ S x,Ok K as H S/\EnvOk K as H σ ρ/\Rl K as H v x/\wTg g x ρ fun ρ'=>∀ σ',EnvOk K as H σ' ρ'->Q σ' H
noncomputable def OS(K:R8)(g:Tgs):TGs:=fun vs σ H Q=>∃ as ρ S xs,Ok K as H S/\EnvOk K as H σ ρ/\RlAll K as H vs xs/\A8 g xs ρ fun ρ'=>∀ σ',EnvOk K as H σ' ρ'->Q σ' H
mutual
theorem i5:∀(g:Tg) {x:SV} {ρ:EnvS} {P P':EnvS->Prop},(∀ r,P r->P' r)->wTg g x ρ P->wTg g x ρ P'
 | .nm i,x,ρ,P,P',h,q=>by unfold wTg at q ⊢;exact h _ q
 | .tup ts,x,ρ,P,P',h,q=>by
   cases x with
   | tup xs=>unfold wTg at q ⊢;exact EU ts h q
   | _=>unfold wTg at q;exact q.elim
theorem EU:∀(g:Tgs) {x:List SV} {ρ:EnvS} {P P':EnvS->Prop},(∀ r,P r->P' r)->A8 g x ρ P->A8 g x ρ P'
 | .nil,x,ρ,P,P',h,q=>by
   cases x with
   | nil=>unfold A8 at q ⊢;exact h _ q
   | cons _ _=>unfold A8 at q;exact q.elim
 | .cons t ts,x,ρ,P,P',h,q=>by
   cases x with
   | nil=>unfold A8 at q;exact q.elim
   | cons y ys=>unfold A8 at q ⊢;exact i5 t (fun r q=>EU ts h q) q
end
theorem Ax{env:Env}:∀{es:List Expr},es.all c2=true->(VV es env).length=es.length/\(VV es env).findIdx? (·.1)=none/\∀ e r,es=e::r->(VV (e::r) env).map (·.2)=assign e env::(VV r env).map (·.2)
 | [],_=>⟨rfl,rfl,fun e r h=>by cases h⟩
 | e::es,h=>by
   rw[SF,RA]at h;obtain⟨h1,h2,_⟩:=Ax (env:=env) h.2;have:VV (e::es) env=(false,assign e env)::VV es env:=by cases e<;>first | rfl | (have:=h.1;cases this)
   rw[this];refine⟨by simp[h1],by rw[List.findIdx?_cons,h2];rfl,fun e' r z=>?_⟩;injection z with z1 z2;subst z1 z2;rw[this];rfl
theorem Bh{k:Nat}{N:List Str}{sc:VI}:∀{g:Tgs} {es:List Expr},y6 k N sc g es=true->es.all c2=true
 | .nil,es,h=>by unfold y6 at h;rw[SA]at h;subst h;rfl
 | .cons t ts,es,h=>by
   rw[y6]at h;replace h:=a4 h;obtain⟨e,he,h⟩:=h;simp only[RA]at h;rw[AA he,SF,h.1.2,Bh h.2];rfl
section
variable{X:Cx}{T:List Str}{Δ:Nat->Sn}{k:Nat}{N:List Str}{sc:VI}
mutual
theorem t7(C:Cok T Δ X k N sc):∀(g:Tg) (r:Expr),y4 k N sc g r=true->PG X r (Ak X.K g)
 | .nm i,r,h=>by
   rw[y4]at h;replace h:=a4 h;obtain⟨x,hx,h⟩:=h;obtain⟨p,rfl⟩:=Av hx
   ·simp only[RA,dQ]at h;obtain⟨⟨h1,h2⟩,h3⟩:=h;unfold loc at h3;simp only[Ru,bQ]at h3;have hl:Loc X.env.scope x:=by rw[C.hs];exact h3
    have hf:X.fn x=true\/X.env.scope.names.lookup x=some .local:=by
     rw[C.hs];rcases h3 with h3 | h3
     ·exact .inr h3
     ·exact .inl (C.fn i x h1 h2 h3)
    have b:=Kv (X:=X) (pos:=p) (i:=i) (by rw[C.hN];exact C.nd) (by rw[C.hN];exact h2) hl hf;intro pq s σ H v u Q I rr hq;obtain⟨as,ρ,S,y,ok,en,rv,q⟩:=hq;unfold wTg at q;exact b pq s σ H v u Q I rr (q _ (en.set rv))
 | .tup ts,r,h=>by
   rw[y4]at h;replace h:=a4 h;obtain⟨es,he,h⟩:=h;obtain⟨j,p,rfl⟩:=B3 he
   ·have st:=Ax (env:=X.env) (Bh h);have b:=NI (X:=X) (k:=j) (pos:=p) C.calm (DI C ts es h) st.1 st.2.1;intro pq s σ H v u Q I rr hq;refine b pq s σ H v u Q I rr ?_;obtain⟨as,ρ,S,y,ok,en,rv,q⟩:=hq;cases y with
    | tup xs=>
      obtain⟨a,vs,rfl,ha,ra⟩:=rl_tup.mp rv;unfold wTg at q;refine⟨a,vs,rfl,SqT.of ha,?_,as,ρ,S,xs,ok,en,ra,q⟩;rw[ra.length];exact Gb ts es xs h q
    | _=>unfold wTg at q;exact q.elim
theorem DI(C:Cok T Δ X k N sc):∀(g:Tgs) (es:List Expr),y6 k N sc g es=true->PGs X es (OS X.K g)
 | .nil,es,h=>by
   rw[y6]at h;rw[SA]at h;subst h;intro pq s σ H vs us Q I rr hq;refine Kw pq s σ H vs us Q I rr ?_;obtain⟨as,ρ,S,xs,ok,en,rv,q⟩:=hq;cases xs with
   | nil=>unfold A8 at q;exact⟨rla_nil.mp rv,q _ en⟩
   | cons _ _=>unfold A8 at q;exact q.elim
 | .cons t ts,el,h=>by
   have st:=Ax (env:=X.env) (Bh h);rw[y6]at h;replace h:=a4 h;obtain⟨e,he,h⟩:=h;simp only[RA]at h;rw[AA he]at st ⊢;generalize el.tail=es at h st;intro pq s σ H vs us Q I rr hq;refine Ic (t7 C t e h.1.1) (DI C ts es h.2) (st.2.2 _ _ rfl) pq s σ H vs us Q I rr ?_;obtain⟨as,ρ,S,xs,ok,en,rv,q⟩:=hq;cases xs with
   | nil=>unfold A8 at q;exact q.elim
   | cons y ys=>
     unfold A8 at q;obtain⟨v,r,rfl,r1,r2⟩:=rla_cons.mp rv;exact⟨v,r,rfl,as,ρ,S,y,ok,en,r1,i5 t (fun ρ' q σ' en'=>⟨as,ρ',S,ys,ok,en',r2,q⟩) q⟩
theorem Gb:∀(g:Tgs) (es:List Expr) (xs:List SV) {ρ:EnvS} {P:EnvS->Prop},y6 k N sc g es=true->A8 g xs ρ P->xs.length=es.length
 | .nil,es,xs,ρ,P,h,q=>by
   rw[y6]at h;rw[SA]at h;subst h;cases xs with
   | nil=>rfl
   | cons _ _=>unfold A8 at q;exact q.elim
 | .cons t ts,el,xs,ρ,P,h,q=>by
   rw[y6]at h;replace h:=a4 h;obtain⟨e,he,h⟩:=h;simp only[RA]at h;rw[AA he];generalize el.tail=es at h;cases xs with
   | nil=>unfold A8 at q;exact q.elim
   | cons y ys=>
     unfold A8 at q;obtain⟨ρ',q'⟩:=Gc t q;simp[Gb ts es ys h.2 q']
theorem Gc:∀(g:Tg) {x:SV} {ρ:EnvS} {P:EnvS->Prop},wTg g x ρ P->∃ ρ',P ρ'
 | .nm i,x,ρ,P,q=>by unfold wTg at q;exact⟨_,q⟩
 | .tup ts,x,ρ,P,q=>by
   cases x with
   | tup xs=>unfold wTg at q;exact EV ts q
   | _=>unfold wTg at q;exact q.elim
theorem EV:∀(g:Tgs) {xs:List SV} {ρ:EnvS} {P:EnvS->Prop},A8 g xs ρ P->∃ ρ',P ρ'
 | .nil,xs,ρ,P,q=>by
   cases xs with
   | nil=>unfold A8 at q;exact⟨_,q⟩
   | cons _ _=>unfold A8 at q;exact q.elim
 | .cons t ts,xs,ρ,P,q=>by
   cases xs with
   | nil=>unfold A8 at q;exact q.elim
   | cons y ys=>
     unfold A8 at q;obtain⟨ρ',q'⟩:=Gc t q;exact EV ts q'
end
end
structure Gu(as:List V7)(H:Hp)(as':List V7)(H':Hp):Prop where
 pre:as <+: as'
 kp:KeepU H H'
theorem Gu.ku{K:R8}{as as':List V7}{H H':Hp}{S:Sto}(g:Gu as H as' H')(_:Ok K as H S):KeepU H H':=g.kp
theorem Go.gu{K:R8}{as as':List V7}{H H':Hp}{S:Sto}(g:Go as H as' H')(ok:Ok K as H S):Gu as H as' H':=⟨g.pre,g.ku ok⟩
noncomputable def Walks(K:R8)(as0:List V7)(H0:Hp)(J:It)(keep:Sto->Prop)(xs:List SV):Prop:=∀ as H S,Gu as0 H0 as H->Ok K as H S->keep S->
 (∀(i:Nat) (x:SV),xs[i]?=some x->J.go i H/\∀ v H',J.yld i H v H'->Go as H as H'/\Ok K as H' S/\Rl K as H' v x)/\J.stop xs.length H
noncomputable def QA(K:R8)(as:List V7)(H:Hp)(R:It->Hp->Prop):(Sto->Prop)->List SV->Sto->Prop:=fun keep xs S1=>∀ as1 H1 J,Go as H as1 H1->Ok K as1 H1 S1->Walks K as1 H1 J keep xs->R J H1
noncomputable def liftI(K:R8)(w:WI):TI:=fun σ H R=>∃ as ρ S,Ok K as H S/\EnvOk K as H σ ρ/\w ρ S (QA K as H R)
noncomputable def MonoI(w:WI):Prop:=∀ ρ S (P P':(Sto->Prop)->List SV->Sto->Prop),(∀ k x S',P k x S'->P' k x S')->w ρ S P->w ρ S P'
structure GoodI(X:Cx)(tg r:Expr)(w:WI):Prop where
 pi:PI X tg r (liftI X.K w)
 m:MonoI w
section
variable{X:Cx}{K:R8}
theorem EW{as0 as:List V7}{H0 H:Hp}{S1 S:Sto}{x:SV}{v:V}{xs:List SV}(ok1:Ok K as0 H0 S1)(r:Rl K as0 H0 v x)(h:seqS x S1=some xs)(g:Gu as0 H0 as H)(ok:Ok K as H S)(kp:keepS x S1 S):Rl K as H v x/\seqS x S=some xs:=by
 refine⟨Rl.mono g.pre (g.ku ok1) x v r,?_⟩;cases x with
 | loc k=>
   have kp:S[k]?=S1[k]?:=kp;unfold seqS at h ⊢;simp only[kp];exact h
 | _=>exact h
theorem II{as0:List V7}{H0:Hp}{S1:Sto}{x:SV}{a:V7}{xs:List SV}(ok1:Ok K as0 H0 S1)(r:Rl K as0 H0 (.ref a) x)(n:x ≠ .tup xs)(h:seqS x S1=some xs):Walks K as0 H0 (Itl K a) (keepS x S1) xs:=fun as H S g ok kp=>by
 obtain⟨r',h'⟩:=EW ok1 r h g ok kp;obtain⟨b,vs,e,hq,rr⟩:=v6 ok r' n h';cases e;refine⟨fun i y hy=>?_,vs,hq,by rw[rr.length];exact RE _⟩;obtain⟨v,hv,rv⟩:=rr.get hy;refine⟨⟨vs,v,hq,hv⟩,fun u H' yl=>?_⟩;obtain⟨e,yl⟩:=yl;subst e;have:=yl vs hq;rw[hv]at this;cases this;exact⟨Go.refl _ _,ok,rv⟩
theorem K4{as0:List V7}{H0:Hp}{S1:Sto}{a:V7}{xs:List SV}(ok1:Ok K as0 H0 S1)(r:Rl K as0 H0 (.ref a) (.tup xs)):Walks K as0 H0 (Itt K a) (keepS (.tup xs) S1) xs:=fun as H S g ok kp=>by
 have r':=Rl.mono g.pre (g.ku ok1) _ _ r;obtain⟨b,vs,e,hb,rr⟩:=rl_tup.mp r';cases e;refine⟨fun i y hy=>?_,vs,SqT.of hb,by rw[rr.length];exact RE _⟩;obtain⟨v,hv,rv⟩:=rr.get hy;refine⟨⟨vs,v,SqT.of hb,hv⟩,fun u H' yl=>?_⟩;obtain⟨e,yl⟩:=yl;subst e;have:=yl vs (SqT.of hb);rw[hv]at this;cases this;exact⟨Go.refl _ _,ok,rv⟩
theorem EX{as0:List V7}{H0:Hp}{lo hi:Int}:Walks K as0 H0 (Itr lo (hi - lo).toNat) (fun _=>True) (Am lo hi):=fun as H S g ok _=>by
 have hl:(Am lo hi).length=(hi - lo).toNat:=by unfold Am;simp
 refine⟨fun i y hy=>?_,by show(hi - lo).toNat<=(Am lo hi).length;rw[hl];exact RE _⟩;have hi':i<(hi - lo).toNat:=by rw[<-hl];exact(gM hy).1
 refine⟨hi',fun u H' yl=>?_⟩;obtain⟨e,rfl⟩:=yl;subst e
 have:y = .int (lo+i):=by
  unfold Am at hy;rw[RI,Sw hi']at hy;exact(oj hy).symm
 subst this;exact⟨Go.refl _ _,ok,rl_int.mpr rfl⟩
theorem EY{xs:List SV}{i:Nat}{y:SV}(h:(AO xs)[i]?=some y):∃ x,xs[i]?=some x/\y = .tup [.int i,x]:=by
 unfold AO at h;rw[UK]at h;cases h1:(RL xs.length)[i]? with
 | none=>rw[h1]at h;cases h
 | some j=>
   cases h2:xs[i]? with
   | none=>rw[h1,h2]at h;cases h
   | some x=>
     rw[h1,h2]at h;have hi:=(gM h2).1;rw[Sw hi]at h1;cases h1;cases h;exact⟨x,rfl,rfl⟩
theorem EZ{xs:List SV}:(AO xs).length=xs.length:=by unfold AO;simp
theorem Fh{as0:List V7}{H0:Hp}{S1:Sto}{x:SV}{a:V7}{xs:List SV}(ok1:Ok K as0 H0 S1)(r:Rl K as0 H0 (.ref a) x)(n:x ≠ .tup xs)(h:seqS x S1=some xs):Walks K as0 H0 (Ng K a) (keepS x S1) (AO xs):=fun as H S g ok kp=>by
 obtain⟨r',h'⟩:=EW ok1 r h g ok kp;obtain⟨b,vs,e,hq,rr⟩:=v6 ok r' n h';cases e;refine⟨fun i y hy=>?_,vs,hq,by rw[rr.length,EZ]⟩;obtain⟨z,hz,rfl⟩:=EY hy;obtain⟨v,hv,rv⟩:=rr.get hz;refine⟨⟨vs,v,hq,hv⟩,fun u H' yl=>?_⟩;obtain⟨p,w,hp,rfl,yl,rfl⟩:=yl;have:=yl vs hq;rw[hv]at this;cases this;exact⟨Go.new hp,ok.new hp,rl_tup.mpr ⟨p,_,rfl,e6,.cons (rl_int.mpr rfl) (.cons (Rl.mono (Rh _) (AM hp) z v rv) .nil)⟩⟩
theorem Fi{as0:List V7}{H0:Hp}{S1:Sto}{a:V7}{xs:List SV}(ok1:Ok K as0 H0 S1)(r:Rl K as0 H0 (.ref a) (.tup xs)):Walks K as0 H0 (Nh K a) (keepS (.tup xs) S1) (AO xs):=fun as H S g ok kp=>by
 have r':=Rl.mono g.pre (g.ku ok1) _ _ r;obtain⟨b,vs,e,hb,rr⟩:=rl_tup.mp r';cases e;refine⟨fun i y hy=>?_,vs,SqT.of hb,by rw[rr.length,EZ]⟩;obtain⟨z,hz,rfl⟩:=EY hy;obtain⟨v,hv,rv⟩:=rr.get hz;refine⟨⟨vs,v,SqT.of hb,hv⟩,fun u H' yl=>?_⟩;obtain⟨p,w,hp,rfl,yl,rfl⟩:=yl;have:=yl vs (SqT.of hb);rw[hv]at this;cases this;exact⟨Go.new hp,ok.new hp,rl_tup.mpr ⟨p,_,rfl,e6,.cons (rl_int.mpr rfl) (.cons (Rl.mono (Rh _) (AM hp) z v rv) .nil)⟩⟩
theorem CY{tg l:Expr}{w:TI}(w':TI)(h:PI X tg l w)(imp:∀ σ H R,w' σ H R->w σ H R):PI X tg l w':=fun pq s σ H R I hw=>h pq s σ H R I (imp σ H R hw)
noncomputable def Qy(K:R8)(tl:TE):TI:=fun σ H R=>tl σ H fun x H1=>∃ a,x = .ref a/\(((∃ xs,SqL K H1 a xs)/\R (Itl K a) H1)\/((∃ xs,SqT K H1 a xs)/\R (Itt K a) H1))
theorem OT{tg l:Expr}{tl:TE}(hl:PE X l tl):PI X tg l (Qy X.K tl):=by
 intro pq s σ H R I h;refine thn (hl pq s σ H _ I h) fun v s1 ⟨x,H1,I1,r1,q1⟩=>?_;obtain⟨a,e,q⟩:=q1;subst e;cases r1;have I2:∀{ob:Obj},Inv X pq σ H1 {s1 with heap:=s1.heap.push ob}:=I1.kept (t':=s1.toks) fun b o e=>RJ _ e
 have fp:∀ b∈[s1.heap.objs.size],FpOk X pq H1 b:=fun b hb=>by
  rw[RG.mp hb];exact I1.fpOk (RE _) (I1.hok.fresh (RE _))
 rcases q with⟨⟨xs,hq⟩,q⟩ | ⟨⟨xs,hq⟩,q⟩
 ·obtain⟨its,rv,p,hz⟩:=I1.list hq;exact W0 p.isList ⟨s1.heap.objs.size,[s1.heap.objs.size],_,_,H1,rfl,I2,HJ a _,⟨_,RY _ rfl,rfl,rfl⟩,fp,q⟩
 ·obtain⟨its,rv,p,hz⟩:=I1.tuple hq;exact Vm (show s1.heap.IsTuple a its.toArray from p) ⟨s1.heap.objs.size,[s1.heap.objs.size],_,_,H1,rfl,I2,F8 a _,⟨_,RY _ rfl,rfl,rfl⟩,fp,q⟩
theorem IJ{tg r:Expr}{a:WE×WT}(ha:Good X r a):GoodI X tg r (Mt a.1) where
 m:=fun ρ S P P' i h=>ha.m _ _ _ _ (fun x S1 ⟨xs,e,q⟩=>⟨xs,e,i _ _ _ q⟩) h
 pi:=CY _ (OT ha.pe) (by
  rintro σ H R ⟨as,ρ,S,ok,en,h⟩;refine⟨as,ρ,S,ok,en,ha.m _ _ _ _ (fun x S1 ⟨xs,e,q⟩ as1 H1 v g1 ok1 rv=>?_) h⟩;by_cases ht:x = .tup xs
  ·subst ht;obtain⟨p,vs,rfl,hp,rr⟩:=rl_tup.mp rv;exact⟨p,rfl,.inr ⟨⟨vs,SqT.of hp⟩,q as1 H1 _ g1 ok1 (K4 ok1 rv)⟩⟩
  ·obtain⟨p,vs,rfl,hq,rr⟩:=v6 ok1 rv ht e;exact⟨p,rfl,.inl ⟨⟨vs,hq⟩,q as1 H1 _ g1 ok1 (II ok1 rv ht e)⟩⟩)
theorem Fj{T:List Str}{Δ:Nat->Sn}{k:Nat}{N:List Str}{sc:VI}{elts:List Expr}{kx:Nat}{tp p q:Pos}{r:Expr}{a:WE×WT}(C:Cok T Δ X k N sc)(hg:glo sc "enumerate"=true)(ha:Good X r a)(hs:c2 r=true):GoodI X (.Tuple elts kx tp) (.Call (.Name "enumerate" p) [r] [] q) (Jf a.1) where
 m:=fun ρ S P P' i h=>ha.m _ _ _ _ (fun x S1 ⟨xs,e,q⟩=>⟨xs,e,i _ _ _ q⟩) h
 pi:=by
  unfold glo at hg;simp only[RA,bQ,RZ]at hg;have gl:Gl X "enumerate":=by show X.env.scope.names.lookup ("enumerate":Str)=_;rw[C.hs];exact hg.1.1
  refine CY _ (LD gl C.enm (m9 ha.pe AD (c6 hs)) (c6 hs)) ?_;rintro σ H R ⟨as,ρ,S,ok,en,h⟩;refine⟨as,ρ,S,ok,en,ha.m _ _ _ _ (fun x S1 ⟨xs,e,q⟩ as1 H1 v g1 ok1 rv=>?_) h⟩;by_cases ht:x = .tup xs
  ·subst ht;obtain⟨p,vs,rfl,hp,rr⟩:=rl_tup.mp rv;exact⟨p,rfl,.inr ⟨⟨vs,SqT.of hp⟩,q as1 H1 _ g1 ok1 (Fi ok1 rv)⟩⟩
  ·obtain⟨p,vs,rfl,hq,rr⟩:=v6 ok1 rv ht e;exact⟨p,rfl,.inl ⟨⟨vs,hq⟩,q as1 H1 _ g1 ok1 (Fh ok1 rv ht e)⟩⟩
theorem Lv{as0:List V7}{H0:Hp}{S1:Sto}{k:Nat}{a:V7}{xs:List SV}(ok1:Ok K as0 H0 S1)(r:Rl K as0 H0 (.ref a) (.loc k))(h:S1[k]?=some (.lst xs)):Walks K as0 H0 (ItV K a xs.length) (keepS (.loc k) S1) xs.reverse:=fun as H S g ok kp=>by
 obtain⟨b,vs,e,ea,hb,rr⟩:=j3 ok (Rl.mono g.pre (g.ku ok1) _ _ r) (show S[k]?=some (.lst xs) from (show S[k]?=S1[k]? from kp).trans h);have hq:SqL K H b vs:=SqL.of hb;cases e;refine⟨fun i y hy=>?_,by show xs.length<=xs.reverse.length;rw[SN];exact RE _⟩;have hi:i<xs.length:=SN▸(gM hy).1;rw[Ti hi]at hy;obtain⟨v,hv,rv⟩:=rr.get hy;refine⟨⟨hi,vs,v,hq,hv⟩,fun u H' yl=>?_⟩;obtain⟨e,yl⟩:=yl;subst e;have:=yl vs hq;rw[hv]at this;cases this;exact⟨Go.refl _ _,ok,rv⟩
theorem K5{T:List Str}{Δ:Nat->Sn}{k:Nat}{N:List Str}{sc:VI}{tg r:Expr}{p q:Pos}{a:WE×WT}(C:Cok T Δ X k N sc)(hg:glo sc "reversed"=true)(ha:Good X r a)(hs:c2 r=true):GoodI X tg (.Call (.Name "reversed" p) [r] [] q) (Py a.1) where
 m:=fun ρ S P P' i h=>ha.m _ _ _ _ (fun x S1 ⟨k,xs,e,z,q⟩=>⟨k,xs,e,z,i _ _ _ q⟩) h
 pi:=by
  unfold glo at hg;simp only[RA,bQ,RZ]at hg;have gl:Gl X "reversed":=by show X.env.scope.names.lookup ("reversed":Str)=_;rw[C.hs];exact hg.1.1
  refine CY _ (OR gl C.rvs (m9 ha.pe AD (c6 hs)) (c6 hs)) ?_;rintro σ H R ⟨as,ρ,S,ok,en,h⟩;refine⟨as,ρ,S,ok,en,ha.m _ _ _ _ (fun x S1 ⟨k,xs,e,z,q⟩ as1 H1 v g1 ok1 rv=>?_) h⟩;subst e;obtain⟨a,us,rfl,ea,hq,rr⟩:=j3 ok1 rv z;exact⟨a,us,rfl,SqL.of hq,by rw[rr.length];exact q as1 H1 _ g1 ok1 (Lv ok1 rv z)⟩
theorem Fk{T:List Str}{Δ:Nat->Sn}{k:Nat}{N:List Str}{sc:VI}{tg r:Expr}{p q:Pos}{a:WE×WT}(C:Cok T Δ X k N sc)(hg:glo sc "range"=true)(ha:Good X r a)(hs:c2 r=true):GoodI X tg (.Call (.Name "range" p) [r] [] q) (Jd a.1) where
 m:=fun ρ S P P' i h=>ha.m _ _ _ _ (fun x S1 ⟨j,e,z,q⟩=>⟨j,e,z,i _ _ _ q⟩) h
 pi:=by
  unfold glo at hg;simp only[RA,bQ,RZ]at hg;have gl:Gl X "range":=by show X.env.scope.names.lookup ("range":Str)=_;rw[C.hs];exact hg.1.1
  refine CY _ (HK gl C.rng (m9 ha.pe AD (c6 hs)) (c6 hs)) ?_;rintro σ H R ⟨as,ρ,S,ok,en,h⟩;refine⟨as,ρ,S,ok,en,ha.m _ _ _ _ (fun x S1 ⟨j,e,z,q⟩ as1 H1 v g1 ok1 rv=>?_) h⟩;subst e;refine⟨j,by rw[rl_int.mp rv],z.1,z.2,?_⟩;have:=q as1 H1 (Itr 0 (j - 0).toNat) g1 ok1 EX
  rwa [Int.sub_zero]at this
theorem Fl{T:List Str}{Δ:Nat->Sn}{k:Nat}{N:List Str}{sc:VI}{tg r r2:Expr}{p q:Pos}{a b:WE×WT}(C:Cok T Δ X k N sc)(hg:glo sc "range"=true)(ha:Good X r a)(hb:Good X r2 b)(hs:c2 r=true)(hs2:c2 r2=true):GoodI X tg (.Call (.Name "range" p) [r,r2] [] q) (Je a.1 b.1) where
 m:=fun ρ S P P' i h=>ha.m _ _ _ _ (fun x S1 h=>hb.m _ _ _ _ (fun y S2 ⟨l,j,e,e2,z,q⟩=>⟨l,j,e,e2,z,i _ _ _ q⟩) h) h
 pi:=by
  unfold glo at hg;simp only[RA,bQ,RZ]at hg;have gl:Gl X "range":=by show X.env.scope.names.lookup ("range":Str)=_;rw[C.hs];exact hg.1.1
  refine CY _ (HL gl C.rng (m9 ha.pe (m9 hb.pe AD (c6 hs2)) (c6 hs)) (by rw[c6 hs,c6 hs2];rfl) (c6 hs2)) ?_;rintro σ H R ⟨as,ρ,S,ok,en,h⟩;refine⟨as,ρ,S,ok,en,ha.m _ _ _ _ (fun x S1 h as1 H1 v g1 ok1 rv=>?_) h⟩;refine⟨as1,ρ,S1,ok1,en.mono g1.pre (g1.ku ok),hb.m _ _ _ _ (fun y S2 ⟨l,j,e,e2,z,q⟩ as2 H2 u g2 ok2 ru=>?_) h⟩;subst e e2;exact⟨l,j,by rw[rl_int.mp rv,rl_int.mp ru],z,q as2 H2 _ (g1.trans g2) ok2 EX⟩
end
end Rf
namespace L2
open PySem PySem.Spec PyProof.Rows
noncomputable def SetXO(prog:VC)(w:VG)(o:Obj)(L:List Int):Prop:=
 ∃ es ep t,o.ExactSet/\o.data = .set es ep t/\ElemsOf (intKind prog w) es.toList/\es.size<WY/\t.fits es.size=true/\Tab w t/\(es.toList.map fun e=>numOf e.2).Perm L
theorem SetXO.at{prog:VC}{w:VG}{o:Obj}{L:List Int}{h:Heap}{a:V7}(x:SetXO prog w o L)(e:h.get? a=some o):SetX prog w h a L:=let ⟨es,ep,t,r⟩:=x;⟨o,es,ep,t,e,r⟩
theorem SetX.obj{prog:VC}{w:VG}{L:List Int}{h:Heap}{a:V7}(x:SetX prog w h a L):∃ o,h.get? a=some o/\SetXO prog w o L:=let ⟨o,es,ep,t,e,r⟩:=x;⟨o,e,es,ep,t,r⟩
noncomputable def Ge(E iter2:Expr)(acc:V4)(env:Env):Sem Unit:=do
 let x <- eval iter2 env
 standAt iter2.pos
 let x <- VO iter2 env x
 let _ <- runOwn (.compStart E 1 (<- holding [x] (pyIter x)) acc env) env
section
variable{prog:VC}{w:VG}{A:VM}{elt tg iter tg2 iter2:Expr}{ifs ifs2:List Expr}{scope:VI}{pos:Pos}
theorem BB{R:Result->V6->Prop}{s:V6}{it acc:V4}{env:Env}
 (h0:codeAny (VB prog w) A (.compLoop (.ListComp elt [⟨tg,iter,ifs,0⟩,⟨tg2,iter2,ifs2,0⟩] scope pos) 1 it acc env) R s)
 (h:VA (VB prog w) A (pyIter it) (fun it' s'=>codeAny (VB prog w) A (.compLoop (.ListComp elt [⟨tg,iter,ifs,0⟩,⟨tg2,iter2,ifs2,0⟩] scope pos) 1 it' acc env) R s')
   (notedBy (VB prog w) A env fun x s'=>R (.error x) s') s):
 codeAny (VB prog w) A (.compStart (.ListComp elt [⟨tg,iter,ifs,0⟩,⟨tg2,iter2,ifs2,0⟩] scope pos) 1 it acc env) R s:=by
 refine codeAny_of_tree ?_;show VA _ _ ((compStart (.ListComp elt [⟨tg,iter,ifs,0⟩,⟨tg2,iter2,ifs2,0⟩] scope pos) 1 it acc env).onRaise (fun x=>do noteFrame x env;standAt theWindowsPlace)) _ _ s;refine wpAny_notedAt ?_;unfold compStart;show VA _ _ (ask >>= _) _ _ s;refine V5 (wpAny_askSetting (wpAny_ite ?_));split
 ·first
   | exact V5 (V8 (V8 (And.intro rfl h0)))
   | exact V8 (And.intro rfl h0)
 ·first
   | exact V5 (Vk (V5 (VW (V5 (VR h (fun it' s' h'=>V8 (And.intro rfl h')) fun _ _ x=>x)))))
   | (refine V5 (Vk ?_);show VA _ _ (standAt iter2.pos >>= _) _ _ s;exact V5 (VW (V5 (VR h (fun it' s' h'=>V8 (And.intro rfl h')) fun _ _ x=>x))))
theorem Lw:CForm prog w A (.ListComp elt [⟨tg,iter,ifs,0⟩,⟨tg2,iter2,ifs2,0⟩] scope pos) tg iter ifs (Ge (.ListComp elt [⟨tg,iter,ifs,0⟩,⟨tg2,iter2,ifs2,0⟩] scope pos) iter2) where
 turn:=fun _ _ _=>by
  unfold Ge;simp only[bind_assoc,pure_bind];rfl
 und:=fun _ _ _=>rfl
 den:=fun _ _ _=>rfl
 start:=fun h0 h=>WH h0 h
theorem cform2b:CForm prog w A (.ListComp elt [⟨tg,iter,ifs,0⟩,⟨tg2,iter2,ifs2,0⟩] scope pos) tg2 iter2 ifs2 (Mi elt) 1 where
 turn:=fun _ _ _=>by rfl
 und:=fun _ _ _=>rfl
 den:=fun _ _ _=>rfl
 start:=fun h0 h=>BB h0 h
end
noncomputable def Lx(wi2:TI)(g2:TG)(tt2:TT)(te:TE)(D:V7)(ys:List V)(σ:St)(H:Hp)(N:List V->Hp->Prop):Prop:=
 wi2 σ H fun J H1=>∃ W:Nat->Nat->List V->St->Hp->Prop,(∃ m,W 0 m ys σ H1)/\∀ i m zs σ H,W i m zs σ H->(J.stop i H/\N zs H)\/
  (J.go i H/\∃ N2:List V->St->Hp->Prop,(∀ zs' σ' H',N2 zs' σ' H'->∃ m',m'<m/\W (i+1) m' zs' σ' H')/\∀ x H',J.yld i H x H'->g2 x σ H' fun σ2 H2=>tt2 σ2 H2 fun b H3=>
    if b=true then te σ2 H3 fun v H4=>H4 D=some (.lst zs)/\zs.length<V9/\N2 (zs++[v]) σ2 (upd H4 D (.lst (zs++[v]))) else N2 zs σ2 H3)
noncomputable def Fm(wi:TI)(g:TG)(tt:TT)(wi2:TI)(g2:TG)(tt2:TT)(te:TE)(k:Nat)(js:List Nat):TE:=fun σ H Q=>wi σ H fun J H1=>∀ D,H1 D=none->
 ∃ W:Nat->Nat->List V->Hp->Prop,(∃ m,W 0 m [] (upd H1 D (.lst [])))/\FJ J g tt (Lx wi2 g2 tt2 te D) (AG k js σ) (fun H=>Q (.ref D) H) W
section
variable{Y:Cx}{tg elt iter tg2 iter2:Expr}{ifs ifs2:List Expr}{scope:VI}{pos:Pos}{g2:TG}{tt2:TT}{te:TE}{wi2:TI}
theorem K6(hc:Y.calm=true)(hi:PI Y tg2 iter2 wi2)(hg:PG Y tg2 g2)(ht:Aa Y ifs2 tt2)(he:PE Y elt te)(hs:∀ x,VO iter2 Y.env x=pure x){D:V7}{pq:List (V7×Obj)}{s:V6}{σ:St}{H:Hp}{ys:List V}{N:List V->Hp->Prop}(I:Inv Y pq σ H s)(hx:Y.xe=fun _ _=>False)
 (h:Lx wi2 g2 tt2 te D ys σ H N):VA (VB Y.prog Y.w) Y.A (Ge (.ListComp elt [⟨tg,iter,ifs,0⟩,⟨tg2,iter2,ifs2,0⟩] scope pos) iter2 (.ref D) Y.env) (fun _ s1=>∃ σ1 a1 H1,Inv Y pq σ1 H1 s1/\N a1 H1) (fun _ _=>False) s:=by
 unfold Ge;have hi':=hi pq s σ H _ I h;rw[hx]at hi';refine V5 (thn hi' fun v s1 h1=>?_);refine V5 (VW ?_);rw[hs];refine V5 (V8 ?_);refine V5 (Vb (thn h1 fun itv s2 h2=>?_));obtain⟨it,fp,tn,J,H2,e,I2,T,st2,f2,W,⟨m0,w0⟩,turn⟩:=h2;subst e;refine V5 (wpAny_runOwn (h:=none) ?_ ?_)
 rotate_left
 ·intro e;cases e
 have stat:∀{H':Hp},(∀ b∈fp,H' b=none)->∀ b∈fp,FpOk Y pq H' b:=fun hn b hb=>⟨hn b hb,(f2 b hb).2⟩
 have loop:∀ R:Result->V6->Prop,(∀ s',(∃ σ1 a1 H1,Inv Y pq σ1 H1 s'/\N a1 H1)->R (.ok .next) s')->codeAny (VB Y.prog Y.w) Y.A (.compLoop (.ListComp elt [⟨tg,iter,ifs,0⟩,⟨tg2,iter2,ifs2,0⟩] scope pos) 1 (.ref it) (.ref D) Y.env) R s2:=fun R hR=>by
  refine cform2b.loop (fun n s'=>∃ i zs σ' H',Inv Y pq σ' H' s'/\tn i s'.heap/\(∀ b∈fp,H' b=none)/\W i n zs σ' H') ?_ m0 ⟨0,ys,σ,H2,I2,st2,fun b hb=>(f2 b hb).1,w0⟩;rintro n s3 ⟨i,zs,σ3,H3,I3,st3,fr3,w3⟩;rcases turn i n zs σ3 H3 w3 with⟨stop,qn⟩ | ⟨go,N2,hN,step⟩
  ·refine thn (T.done Y rfl rfl rfl hc i pq s3 σ3 H3 _ I3 (stat fr3) st3 stop) fun r s4 ⟨hr,I4⟩=>?_;subst hr;exact hR _ ⟨_,_,_,I4,qn⟩
  ·refine thn (T.item Y rfl rfl rfl hc i pq s3 σ3 H3 _ I3 (stat fr3) st3 go) fun r s4 ⟨u,hr,h4⟩=>?_;subst hr;refine thn h4 fun _ s5 ⟨x,H5,I5,r5,y5,st5,fr5⟩=>?_;have I5':=I5.pinned (stat fr5) (T.obj _ _ st5);have e1:=hg _ s5 σ3 H5 x u _ I5' r5 (step x H5 y5);rw[hx]at e1;refine thn e1 fun _ s6 ⟨σ6,H6,I6,q6⟩=>?_;have e2:=ht _ s6 σ6 H6 _ I6 q6;rw[hx]at e2;refine thn e2 fun b s7 ⟨H7,I7,q7⟩=>?_
   have again:∀{σ7:St} {H7:Hp} {s7:V6} {zs7:List V},Inv Y (pq++Ao fp s5.heap) σ7 H7 s7->N2 zs7 σ7 H7->∃ m,m<n/\∃ i zs σ' H',Inv Y pq σ' H' s7/\tn i s7.heap/\(∀ b∈fp,H' b=none)/\W i m zs σ' H':=fun{σ7 H7 s7 zs7} I7 n7=>by
    obtain⟨m',hm,w7⟩:=hN zs7 σ7 H7 n7;refine⟨m',hm,i+1,zs7,σ7,H7,I7.unpinned,T.keep _ _ _ st5 fun b hb o e=>(I7.pin (b,o) (Re _ (Re _ (v0 hb e)))).1,fun b hb=>?_,w7⟩;obtain⟨o,e,d⟩:=T.obj _ _ st5 b hb;exact(I7.pin (b,o) (Re _ (Re _ (v0 hb e)))).2.1
   cases b with
   | false=>
     rw[iG RH];rw[iG RH]at q7;exact again I7 q7
   | true=>
     rw[iP rfl];rw[iP rfl]at q7;have e3:=he _ s7 σ6 H7 _ I7 q7;rw[hx]at e3;refine V5 (thn e3 fun y s8 ⟨v,H8,I8,r8,hD8,hz8,q8⟩=>?_);have e4:=B1 (X:=Y) _ s8 σ6 H8 (.ref D) [v] (.ref D) [y] (fun _ H9=>H9=upd H8 D (.lst (zs++[v]))) I8 rfl (.cons r8 .nil) ⟨_,zs,v,rfl,rfl,hD8,hz8,rfl⟩;rw[hx]at e4;refine V5 (thn e4 fun _ s9 ⟨z,H9,I9,r9,e9⟩=>?_);subst e9;exact V8 (again I9 q8)
 show codeAny _ (Y.A.mark none) _ _ s2;have hm:Y.A.mark none=Y.A:=rfl;rw[hm];refine cform2b.start (loop _ fun s' h=>V8 h) (T.self _ 0 _ _ _ st2 (loop _ fun s' h=>V8 h))
end
section
variable{X:Cx}{pq:List (V7×Obj)}{σ:St}{H2:Hp}{s2:V6}{tg elt iter tg2 iter2:Expr}{ifs ifs2:List Expr}{scope:VI}{pos:Pos}{own cn:List Str}{js:List Nat}{g g2:TG}{tt tt2:TT}{te:TE}{wi2:TI}
theorem Bs(hok:i6 X.env.scope scope own cn X.N js=true)(hc:X.calm=true)
 (hg:∀ s2 H2 cs C fp,PG (c1 X scope (own++cn) s2 H2 cs C fp) tg g) (ht:∀ s2 H2 cs C fp,Aa (c1 X scope (own++cn) s2 H2 cs C fp) ifs tt) (hi2:∀ s2 H2 cs C fp,PI (c1 X scope (own++cn) s2 H2 cs C fp) tg2 iter2 wi2) (hg2:∀ s2 H2 cs C fp,PG (c1 X scope (own++cn) s2 H2 cs C fp) tg2 g2) (ht2:∀ s2 H2 cs C fp,Aa (c1 X scope (own++cn) s2 H2 cs C fp) ifs2 tt2) (he:∀ s2 H2 cs C fp,PE (c1 X scope (own++cn) s2 H2 cs C fp) elt te)
 (hs2:∀ s2 H2 cs C fp x,VO iter2 (c1 X scope (own++cn) s2 H2 cs C fp).env x=pure x)
 (I2:Inv X pq σ H2 s2) {it:V7} {fp:List V7} {tn:Nat->Heap->Prop} {J:It} (T:Turn X.prog X.w X.K tg J fp it tn) (st2:tn 0 s2.heap) (f2:∀ b∈fp,FpOk X pq H2 b)
 {Qe:Hp->Prop} (hW:∃ W:Nat->Nat->List V->Hp->Prop,(∃ m,W 0 m [] (upd H2 s2.heap.objs.size (.lst [])))/\FJ J g tt (Lx wi2 g2 tt2 te s2.heap.objs.size) (AG own.length js σ) Qe W)
 {RR:V4->V7->Result->V6->Prop}
 (hRR:∀ C H' s',Inv X pq σ H' s'->FpOk X pq H' C->(∃ m,s'.heap.Ns C m)->Qe H'->RR (.ref s2.heap.objs.size) C (.ok .next) s'):
 VA (VB X.prog X.w) X.A (newList []) (fun acc s₃=>VA (VB X.prog X.w) X.A (Vq scope X.env.globals (p8 X.env scope.names []) [] X.env.qual none .none (some X.env)) (fun cenv s₄=>
  codeAny (VB X.prog X.w) X.A (.compStart (.ListComp elt [⟨tg,iter,ifs,0⟩,⟨tg2,iter2,ifs2,0⟩] scope pos) 0 (.ref it) acc {cenv with scope:=relabel scope X.env}) (RR acc cenv.locals) s₄) X.xe s₃) X.xe s2:=
 Bo (RR:=RR) (a0:=[]) (o0:={cls := .type "list",dict:=none,data := .seq ([]:List V4).toArray}) (u0 := .lst []) (tem:=Lx wi2 g2 tt2 te) Lw (fun hq=>VP hq) rfl (fun _ _ hD=>⟨Rz _,[],0,.nil,hD⟩) hok hc hg ht (fun D s2 H2 cs C fp pq s σ H ys N I h=>K6 (Y:=c1 X scope (own++cn) s2 H2 cs C fp) hc (hi2 s2 H2 cs C fp) (hg2 s2 H2 cs C fp) (ht2 s2 H2 cs C fp) (he s2 H2 cs C fp) (hs2 s2 H2 cs C fp) I rfl h) I2 T st2 f2 hW hRR
theorem K7{wi:TI}(own cn:List Str)(js:List Nat)(hi:PI X tg iter wi)(hg:∀ s2 H2 cs C fp,PG (c1 X scope (own++cn) s2 H2 cs C fp) tg g)(ht:∀ s2 H2 cs C fp,Aa (c1 X scope (own++cn) s2 H2 cs C fp) ifs tt)
 (hi2:∀ s2 H2 cs C fp,PI (c1 X scope (own++cn) s2 H2 cs C fp) tg2 iter2 wi2) (hg2:∀ s2 H2 cs C fp,PG (c1 X scope (own++cn) s2 H2 cs C fp) tg2 g2) (ht2:∀ s2 H2 cs C fp,Aa (c1 X scope (own++cn) s2 H2 cs C fp) ifs2 tt2)
 (he:∀ s2 H2 cs C fp,PE (c1 X scope (own++cn) s2 H2 cs C fp) elt te) (hs2:∀ s2 H2 cs C fp x,VO iter2 (c1 X scope (own++cn) s2 H2 cs C fp).env x=pure x) (hc:X.calm=true:=by rfl) (hok:i6 X.env.scope scope own cn X.N js=true:=by kernel_rfl)
 (hs:∀ x,VO iter X.env x=pure x:=by intro _;rfl):PE X (.ListComp elt [⟨tg,iter,ifs,0⟩,⟨tg2,iter2,ifs2,0⟩] scope pos) (Fm wi g tt wi2 g2 tt2 te own.length js):=by
 intro pq s σ H Q I h;have hok':=hok;unfold i6 at hok';simp only[RA,dQ,RX,Ru,RZ,decide_eq_false_iff_not]at hok';obtain⟨⟨⟨⟨⟨⟨k1,k2⟩,k3⟩,k4⟩,k5⟩,k6⟩,k7⟩:=hok'
 have hfree:∀ x∈scope.names,x.2 = .free->∃ c,X.env.cells.lookup x.1=some c:=fun x hx hf=>I.ok.has x.1 (by
  rcases k2 x hx with(z | z) | z
  ·exact absurd hf z
  ·exact .inl z
  ·exact .inr z)
 rw[eval_ListComp];refine Vd (use:=none) rfl hs (m5 hfree) k1 (fun x hx hl=>?_) (thn (hi pq s σ H _ I h) fun v s1 h1=>thn h1 fun itv s2 h2=>?_)
 ·have:=e8 k3 (show(x.1,x.2)∈scope.names from hx);rw[this,hl]
 ·obtain⟨it,fp,tn,J,H2,e,I2,T,st2,f2,q⟩:=h2;subst e;refine Bs (RR:=fun acc C=>Wx (VB X.prog X.w) X.A X.xe none (EP X pq σ Q) acc C) hok hc hg ht hi2 hg2 ht2 he hs2 I2 T st2 f2 (q _ I2.fresh) ?_;intro C H' s' I' fC ⟨m,hn⟩ q';obtain⟨f0,f1,f2',f3,f4,f5⟩:=fC;refine⟨m,hn,fun h' hs'=>⟨.ref s2.heap.objs.size,H',?_,rfl,q'⟩⟩;exact I'.turned (t':=s'.toks) (fun b o hb e=>(hs'.2 b hb).trans e) f0 f1 f3 f4 f5
theorem Ea{wi:TI}{i:Nat}{x:Str}{px spos:Pos}(own cn:List Str)(js:List Nat)(hN:X.N.Nodup)(hix:X.N[i]?=some x)(hx:X.env.scope.names.lookup x=some .local)(hi:PI X tg iter wi)
 (hg:∀ s2 H2 cs C fp,PG (c1 X scope (own++cn) s2 H2 cs C fp) tg g) (ht:∀ s2 H2 cs C fp,Aa (c1 X scope (own++cn) s2 H2 cs C fp) ifs tt)
 (hi2:∀ s2 H2 cs C fp,PI (c1 X scope (own++cn) s2 H2 cs C fp) tg2 iter2 wi2) (hg2:∀ s2 H2 cs C fp,PG (c1 X scope (own++cn) s2 H2 cs C fp) tg2 g2) (ht2:∀ s2 H2 cs C fp,Aa (c1 X scope (own++cn) s2 H2 cs C fp) ifs2 tt2)
 (he:∀ s2 H2 cs C fp,PE (c1 X scope (own++cn) s2 H2 cs C fp) elt te) (hs2:∀ s2 H2 cs C fp x,VO iter2 (c1 X scope (own++cn) s2 H2 cs C fp).env x=pure x) (hc:X.calm=true:=by rfl) (hok:i6 X.env.scope scope own cn X.N js=true:=by kernel_rfl)
 (hsw:VX (.ListComp elt [⟨tg,iter,ifs,0⟩,⟨tg2,iter2,ifs2,0⟩] scope pos) (some (.Name x px)) spos.line X.env=pure true:=by rfl)
 (hs:∀ x,VO iter X.env x=pure x:=by intro _;rfl):PS X (.Assign [.Name x px] (.ListComp elt [⟨tg,iter,ifs,0⟩,⟨tg2,iter2,ifs2,0⟩] scope pos) spos) (F7 (Fm wi g tt wi2 g2 tt2 te own.length js) (E2 i)):=by
 intro pq s σ H D I h;have hok':=hok;unfold i6 at hok';simp only[RA,dQ,RX,Ru,RZ,decide_eq_false_iff_not]at hok';obtain⟨⟨⟨⟨⟨⟨k1,k2⟩,k3⟩,k4⟩,k5⟩,k6⟩,k7⟩:=hok'
 have hfree:∀ x∈scope.names,x.2 = .free->∃ c,X.env.cells.lookup x.1=some c:=fun x hx hf=>I.ok.has x.1 (by
  rcases k2 x hx with(z | z) | z
  ·exact absurd hf z
  ·exact .inl z
  ·exact .inr z)
 rw[WQ _ _ _ _ hsw];refine V5 (VW (V5 ?_));show VA _ X.A (do let _ <- comprehension (.ListComp elt [⟨tg,iter,ifs,0⟩,⟨tg2,iter2,ifs2,0⟩] scope pos) scope X.env _ (newList []) false (eval iter X.env) (some (assign (.Name x px) X.env))) _ _ s
 refine V5 (VR (Vd (use:=some (assign (.Name x px) X.env)) (Q:=fun _ s'=>SP X pq D .next s') rfl hs (m5 hfree) k1 (fun x hx hl=>?_)
  (thn (hi pq s σ H _ I h) fun v s1 h1=>thn h1 fun itv s2 h2=>?_)) (fun _ s' hq=>V8 (V8 hq)) fun _ _ e=>e)
 ·have:=e8 k3 (show(x.1,x.2)∈scope.names from hx);rw[this,hl]
 ·obtain⟨it,fp,tn,J,H2,e,I2,T,st2,f2,q⟩:=h2;subst e;refine Bs (RR:=fun acc C=>Wx (VB X.prog X.w) X.A X.xe (some (assign (.Name x px) X.env)) (fun _ s'=>SP X pq D .next s') acc C) hok hc hg ht hi2 hg2 ht2 he hs2 I2 T st2 f2 (q _ I2.fresh) ?_;intro C H' s' I' fC ⟨m,hn⟩ q';obtain⟨f0,f1,f2',f3,f4,f5⟩:=fC;show VA _ X.A (assign (.Name x px) X.env (.ref s2.heap.objs.size)) _ _ _;refine Vy (BW I' hN hix (.inl hx) (v := .ref s2.heap.objs.size) rfl (fun s3 I3 hch=>?_) (.inr hx));obtain⟨a,hsb,ha⟩:=hch
  have hCa:C≠a:=by
   rcases ha with z | z
   ·rw[z];exact f1
   ·exact fun e=>f4 x a z e.symm
  refine⟨m,hn.sameBut hsb hCa,fun h' hs'=>?_⟩;exact⟨_,H',I3.turned (t':=s3.toks) (fun b o hb e=>(hs'.2 b hb).trans e) f0 f1 f3 f4 f5,q'⟩
end
end L2
namespace Rf
open PySem L2
theorem IK{α:Type}{o:Option (Option α)}{x:α}(h:o.join=some x):o=some (some x):=by
 cases o with
 | none=>cases h
 | some o=>cases o with
   | none=>cases h
   | some y=>cases h;rfl
theorem EnvOk.cap{K:R8}{as:List V7}{H:Hp}{σ:St}{ρ:EnvS}(h:EnvOk K as H σ ρ)(k:Nat)(js:List Nat):EnvOk K as H (AG k js σ) (BA k js ρ):=by
 refine⟨by unfold AG BA;simp,fun i x e=>?_⟩;unfold BA at e;unfold AG;by_cases hi:i<k
 ·rw[RQ (by simpa using hi),SY,iP hi]at e;cases e
 ·rw[Rb (by simpa using hi),Th,RI]at e;rw[Rb (by simpa using hi),Th,RI];cases hj:js[i - k]? with
  | none=>rw[hj]at e;cases e
  | some j=>
    rw[hj]at e;have e':(ρ[j]?).join=some x:=oj e;obtain⟨v,hv,rv⟩:=h.2 j x (IK e');exact⟨v,by simp only[Sf];rw[hv];rfl,rv⟩
theorem Ok.adopt{K:R8}{as:List V7}{H:Hp}{S:Sto}{D:V7}{vs:List V}{xs:List SV}(h:Ok K as H S)(n:D∉as)(hD:H D=some (.lst vs))(r:RlAll K as H vs xs):Ok K (as++[D]) H (S++[.lst xs]):=by
 have pre:as <+: as++[D]:=Sj _ _;refine⟨by rw[R9,R9,h.len];rfl,?_,fun k o a e ea=>?_⟩
 ·rw[SZ];refine⟨h.nd,by simp,fun a ha b hb=>?_⟩;rw[RG.mp hb];intro z;subst z;exact n ha
 ·by_cases hk:k<S.length
  ·rw[RQ hk]at e;rw[RQ (by rw[h.len];exact hk)]at ea;exact(h.obj k o a e ea).mono pre (KeepU.refl _) fun _ z=>z
  ·have hk':k=S.length:=by
    have:=(gM e).1;rw[R9,Rk]at this;omega
   subst hk';rw[Rp]at e;rw[<-h.len,Rp]at ea;cases e;cases ea;exact⟨vs,hD,RlAll.mono pre (KeepU.refl _) xs vs r⟩
theorem BC{keep:Sto->Prop}{g:Tg}{t:WT}{e:WE}{ρ:EnvS}(mt:MonoT t)(me:Mono e){Q Q':List SV->Sto->Prop}(i:∀ ys S,Q ys S->Q' ys S):∀(xs ys:List SV) (S:Sto),l9 keep g t e ρ Q xs ys S->l9 keep g t e ρ Q' xs ys S
 | [],ys,S,h=>by unfold l9 at h ⊢;exact⟨h.1,i _ _ h.2⟩
 | x::xs,ys,S,h=>by
   unfold l9 at h ⊢;refine⟨h.1,i5 g (fun ρ2 q=>mt _ _ _ _ (fun b S1 q=>f8 (fun q=>me _ _ _ _ (fun y S2 q=>⟨q.1,BC mt me i xs _ _ q.2⟩) q) (fun q=>BC mt me i xs _ _ q) q) q) h.2⟩
theorem Mono.comp{k:Nat}{js:List Nat}{g:Tg}{i:WI}{t:WT}{e:WE}(mi:MonoI i)(mt:MonoT t)(me:Mono e):Mono (GS k js g i t e):=fun ρ S P P' im h=>mi _ _ _ _ (fun keep xs S1 h=>BC mt me (fun ys S2 q=>im _ _ q) xs [] S1 h) h
theorem Eb{K:R8}{k:Nat}{js:List Nat}{g:Tg}{i:WI}{t:WT}{e:WE}(mi:MonoI i)(mt:MonoT t)(me:Mono e):∀ σ H Q,lift K (GS k js g i t e) σ H Q->J3 (liftI K i) (Ak K g) (liftT K t) (lift K e) k js σ H Q:=by
 rintro σ H Q ⟨as,ρ,S,ok,en,h⟩;refine⟨as,ρ,S,ok,en,mi _ _ _ _ (fun keep xs S1 h as1 H1 J g1 ok1 W=>?_) h⟩;intro D hD;have Dn:D∉as1:=ok1.free hD
 refine⟨fun i m vs H2=>m=xs.length - i/\i<=xs.length/\∃ as2 S2 ys,Go as1 H1 as2 H2/\Ok K as2 H2 S2/\D∉as2/\H2 D=some (.lst vs)/\RlAll K as2 H2 vs ys/\
  l9 keep g t e (BA k js ρ) (fun ys S2=>Post K as H Q (.loc S2.length) (S2++[.lst ys])) (xs.drop i) ys S2,⟨xs.length,by simp,Rz _,as1,S1,[],Go.new hD,ok1.new hD,Dn,e6,.nil,h⟩,?_⟩
 rintro i m vs H2 ⟨rfl,hi,as2,S2,ys,g2,ok2,n2,d2,rs,h⟩;by_cases hlt:i<xs.length
 ·right;rw[SS hlt]at h;unfold l9 at h;obtain⟨kp,h⟩:=h;obtain⟨w1,_⟩:=W as2 H2 S2 (g2.gu ok1) ok2 kp;obtain⟨go,yl⟩:=w1 i xs[i] (RB hlt)
  refine⟨go,fun vs' H'=>∃ as2 S2 ys,Go as1 H1 as2 H'/\Ok K as2 H' S2/\D∉as2/\H' D=some (.lst vs')/\RlAll K as2 H' vs' ys/\
   l9 keep g t e (BA k js ρ) (fun ys S2=>Post K as H Q (.loc S2.length) (S2++[.lst ys])) (xs.drop (i+1)) ys S2,fun vs' H' z=>⟨xs.length - (i+1),by omega,rfl,hlt,z⟩,fun x H3 y3=>?_⟩
  obtain⟨g3,ok3,rx⟩:=yl x H3 y3;have en3:EnvOk K as2 H3 (AG k js σ) (BA k js ρ):=((en.mono g1.pre (g1.ku ok)).mono (g2.trans g3).pre ((g2.trans g3).ku ok1)).cap k js;have rs3:=RlAll.mono g3.pre (g3.ku ok2) ys vs rs;obtain⟨d3,n3⟩:=g3.keep D _ d2 n2;refine⟨as2,BA k js ρ,S2,_,ok3,en3,rx,i5 g (fun ρ2 q σ2 en2=>?_) h⟩;refine⟨as2,ρ2,S2,ok3,en2,mt _ _ _ _ (fun b S4 q as4 H4 g4 ok4=>?_) q⟩;obtain⟨d4,n4⟩:=g4.keep D _ d3 n3;have rs4:=RlAll.mono g4.pre (g4.ku ok3) ys vs rs3;refine f8 (fun q=>?_) (fun q=>?_) q
  ·refine⟨as4,ρ2,S4,ok4,en2.mono g4.pre (g4.ku ok3),me _ _ _ _ (fun y S5 q as5 H5 v g5 ok5 rv=>?_) q⟩;obtain⟨d5,n5⟩:=g5.keep D _ d4 n4;have rs5:=RlAll.mono g5.pre (g5.ku ok4) ys vs rs4;refine⟨d5,by rw[rs.length];exact Bc q.1,as5,S5,ys++[y],?_,ok5.other d5 n5,n5,e6,?_,q.2⟩
   ·refine⟨(((g2.trans g3).trans g4).trans g5).pre,fun b o hb nb=>?_⟩;obtain⟨z1,z2⟩:=(((g2.trans g3).trans g4).trans g5).keep b o hb nb;exact⟨by rw[c3 (c4 hb hD)];exact z1,z2⟩
   ·exact RlAll.mono (Rh _) (B2 d5 rfl) _ _ (rs5.append (.cons rv .nil))
  ·exact⟨as4,S4,ys,(g2.trans g3).trans g4,ok4,n4,d4,rs4,q⟩
 ·left;have hi':i=xs.length:=by omega
  subst hi';rw[TQ]at h;unfold l9 at h;obtain⟨kp,h⟩:=h;obtain⟨_,w2⟩:=W as2 H2 S2 (g2.gu ok1) ok2 kp;refine⟨w2,h (as2++[D]) H2 (.ref D) ?_ (ok2.adopt n2 d2 rs) (rl_loc.mpr ⟨D,by rw[<-ok2.len,Rp],rfl⟩)⟩;refine⟨(g1.pre.trans g2.pre).trans (Sj _ _),fun b o hb nb=>?_⟩;obtain⟨h1,n1⟩:=g1.keep b o hb nb;obtain⟨h2,n2'⟩:=g2.keep b o h1 n1;refine⟨h2,?_⟩;rw[RO,RG];rintro(z | z)
  ·exact n2' z
  ·exact c4 h1 hD z
theorem AB{keep:Sto->Prop}{g:Tg}{t:WT}{e:WE}(mt:MonoT t)(me:Mono e){Q Q':List SV->Sto->Prop}(i:∀ ys S,Q ys S->Q' ys S):∀(xs:List SV) (ρ:EnvS) (ys:List SV) (S:Sto),i9 keep g t e Q xs ρ ys S->i9 keep g t e Q' xs ρ ys S
 | [],ρ,ys,S,h=>by unfold i9 at h ⊢;exact⟨h.1,i _ _ h.2⟩
 | x::xs,ρ,ys,S,h=>by
   unfold i9 at h ⊢;refine⟨h.1,i5 g (fun ρ2 q=>mt _ _ _ _ (fun b S1 q=>f8 (fun q=>me _ _ _ _ (fun y S2 q=>⟨q.1,AB mt me i xs _ _ _ q.2⟩) q) (fun q=>AB mt me i xs _ _ _ q) q) q) h.2⟩
theorem Ay{keep:Sto->Prop}{g g2:Tg}{t t2:WT}{i2:WI}{e:WE}{ρ:EnvS}(mt:MonoT t)(mi2:MonoI i2)(mt2:MonoT t2)(me:Mono e){Q Q':List SV->Sto->Prop}(i:∀ ys S,Q ys S->Q' ys S):∀(xs ys:List SV) (S:Sto),i4 keep g t g2 i2 t2 e ρ Q xs ys S->i4 keep g t g2 i2 t2 e ρ Q' xs ys S
 | [],ys,S,h=>by unfold i4 at h ⊢;exact⟨h.1,i _ _ h.2⟩
 | x::xs,ys,S,h=>by
   unfold i4 at h ⊢;refine⟨h.1,i5 g (fun ρ2 q=>mt _ _ _ _ (fun b S1 q=>f8 (fun q=>mi2 _ _ _ _ (fun keep2 xs2 S2 q=>AB mt2 me (fun ys' S3 q=>Ay mt mi2 mt2 me i xs _ _ q) _ _ _ _ q) q) (fun q=>Ay mt mi2 mt2 me i xs _ _ q) q) q) h.2⟩
theorem Mono.comp2{k:Nat}{js:List Nat}{g g2:Tg}{i i2:WI}{t t2:WT}{e:WE}(mi:MonoI i)(mt:MonoT t)(mi2:MonoI i2)(mt2:MonoT t2)(me:Mono e):Mono (Dh k js g i t g2 i2 t2 e):=fun ρ S P P' im h=>mi _ _ _ _ (fun keep xs S1 h=>Ay mt mi2 mt2 me (fun ys S2 q=>im _ _ q) xs [] S1 h) h
theorem DJ{K:R8}{k:Nat}{js:List Nat}{g g2:Tg}{i i2:WI}{t t2:WT}{e:WE}(mi:MonoI i)(mt:MonoT t)(mi2:MonoI i2)(mt2:MonoT t2)(me:Mono e):∀ σ H Q,lift K (Dh k js g i t g2 i2 t2 e) σ H Q->Fm (liftI K i) (Ak K g) (liftT K t) (liftI K i2) (Ak K g2) (liftT K t2) (lift K e) k js σ H Q:=by
 rintro σ H Q ⟨as,ρ,S,ok,en,h⟩;refine⟨as,ρ,S,ok,en,mi _ _ _ _ (fun keep xs S1 h as1 H1 J g1 ok1 W=>?_) h⟩;intro D hD;have Dn:D∉as1:=ok1.free hD
 refine⟨fun i m vs H2=>m=xs.length - i/\i<=xs.length/\∃ as2 S2 ys,Go as1 H1 as2 H2/\Ok K as2 H2 S2/\D∉as2/\H2 D=some (.lst vs)/\RlAll K as2 H2 vs ys/\
  i4 keep g t g2 i2 t2 e (BA k js ρ) (fun ys S2=>Post K as H Q (.loc S2.length) (S2++[.lst ys])) (xs.drop i) ys S2,⟨xs.length,by simp,Rz _,as1,S1,[],Go.new hD,ok1.new hD,Dn,e6,.nil,h⟩,?_⟩
 rintro i m vs H2 ⟨rfl,hi,as2,S2,ys,g2,ok2,n2,d2,rs,h⟩;by_cases hlt:i<xs.length
 ·right;rw[SS hlt]at h;unfold i4 at h;obtain⟨kp,h⟩:=h;obtain⟨w1,_⟩:=W as2 H2 S2 (g2.gu ok1) ok2 kp;obtain⟨go,yl⟩:=w1 i xs[i] (RB hlt)
  refine⟨go,fun vs' H'=>∃ as2 S2 ys,Go as1 H1 as2 H'/\Ok K as2 H' S2/\D∉as2/\H' D=some (.lst vs')/\RlAll K as2 H' vs' ys/\
   i4 keep g t _ i2 t2 e (BA k js ρ) (fun ys S2=>Post K as H Q (.loc S2.length) (S2++[.lst ys])) (xs.drop (i+1)) ys S2,fun vs' H' z=>⟨xs.length - (i+1),by omega,rfl,hlt,z⟩,fun x H3 y3=>?_⟩
  obtain⟨g3,ok3,rx⟩:=yl x H3 y3;have en3:EnvOk K as2 H3 (AG k js σ) (BA k js ρ):=((en.mono g1.pre (g1.ku ok)).mono (g2.trans g3).pre ((g2.trans g3).ku ok1)).cap k js;have rs3:=RlAll.mono g3.pre (g3.ku ok2) ys vs rs;obtain⟨d3,n3⟩:=g3.keep D _ d2 n2;refine⟨as2,BA k js ρ,S2,_,ok3,en3,rx,i5 g (fun ρ2 q σ2 en2=>?_) h⟩;refine⟨as2,ρ2,S2,ok3,en2,mt _ _ _ _ (fun b S4 q as4 H4 g4 ok4=>?_) q⟩;obtain⟨d4,n4⟩:=g4.keep D _ d3 n3;have rs4:=RlAll.mono g4.pre (g4.ku ok3) ys vs rs3;refine f8 (fun q=>?_) (fun q=>?_) q
  ·refine⟨as4,ρ2,S4,ok4,en2.mono g4.pre (g4.ku ok3),mi2 _ _ _ _ (fun keep2 xs2 S5 q as5 H5 J2 g5 ok5 W2=>?_) q⟩;obtain⟨d5,n5⟩:=g5.keep D _ d4 n4;have rs5:=RlAll.mono g5.pre (g5.ku ok4) ys vs rs4;have en5:=(en2.mono g4.pre (g4.ku ok3)).mono g5.pre (g5.ku ok4);have G5:=((g2.trans g3).trans g4).trans g5
   refine⟨fun i' m zs σ' H'=>m=xs2.length - i'/\i'<=xs2.length/\∃ as6 S6 ws ρ6,Go as1 H1 as6 H'/\Gu as5 H5 as6 H'/\Ok K as6 H' S6/\D∉as6/\H' D=some (.lst zs)/\RlAll K as6 H' zs ws/\EnvOk K as6 H' σ' ρ6/\
    i9 keep2 _ t2 e (fun ys' S3=>i4 keep g t _ i2 t2 e (BA k js ρ) (fun ys S2=>Post K as H Q (.loc S2.length) (S2++[.lst ys])) (xs.drop (i+1)) ys' S3) (xs2.drop i') ρ6 ws S6,⟨xs2.length,by simp,Rz _,as5,S5,ys,ρ2,G5,⟨Rh _,KeepU.refl _⟩,ok5,n5,d5,rs5,en5,q⟩,?_⟩
   rintro i' m zs σ' H6 ⟨rfl,hi',as6,S6,ws,ρ6,G6,u6,ok6,n6,d6,rs6,en6,h⟩;by_cases hlt':i'<xs2.length
   ·right;rw[SS hlt']at h;unfold i9 at h;obtain⟨kp,h⟩:=h;obtain⟨w1,_⟩:=W2 as6 H6 S6 u6 ok6 kp;obtain⟨go,yl⟩:=w1 i' xs2[i'] (RB hlt')
    refine⟨go,fun zs' σ' H'=>∃ as6 S6 ws ρ6,Go as1 H1 as6 H'/\Gu as5 H5 as6 H'/\Ok K as6 H' S6/\D∉as6/\H' D=some (.lst zs')/\RlAll K as6 H' zs' ws/\EnvOk K as6 H' σ' ρ6/\
     i9 keep2 _ t2 e (fun ys' S3=>i4 keep g t _ i2 t2 e (BA k js ρ) (fun ys S2=>Post K as H Q (.loc S2.length) (S2++[.lst ys])) (xs.drop (i+1)) ys' S3) (xs2.drop (i'+1)) ρ6 ws S6,fun zs' σ' H' z=>⟨xs2.length - (i'+1),by omega,rfl,hlt',z⟩,fun x H7 y7=>?_⟩
    obtain⟨g7,ok7,rx⟩:=yl x H7 y7;have en7:=en6.mono g7.pre (g7.ku ok6);have rs7:=RlAll.mono g7.pre (g7.ku ok6) ws zs rs6;obtain⟨d7,n7⟩:=g7.keep D _ d6 n6;refine⟨as6,ρ6,S6,_,ok7,en7,rx,i5 _ (fun ρ8 q σ8 en8=>?_) h⟩;refine⟨as6,ρ8,S6,ok7,en8,mt2 _ _ _ _ (fun b S9 q as9 H9 g9 ok9=>?_) q⟩;obtain⟨d9,n9⟩:=g9.keep D _ d7 n7;have rs9:=RlAll.mono g9.pre (g9.ku ok7) ws zs rs7;have en9:=en8.mono g9.pre (g9.ku ok7);have u9:Gu as5 H5 as9 H9:=⟨(u6.pre.trans g7.pre).trans g9.pre,(u6.kp.trans (g7.ku ok6)).trans (g9.ku ok7)⟩
    refine f8 (fun q=>?_) (fun q=>?_) q
    ·refine⟨as9,ρ8,S9,ok9,en9,me _ _ _ _ (fun y Sa q asa Ha v ga oka rv=>?_) q⟩;obtain⟨da,na⟩:=ga.keep D _ d9 n9;have rsa:=RlAll.mono ga.pre (ga.ku ok9) ws zs rs9;have kd:KeepU Ha (upd Ha D (.lst (zs++[v]))):=B2 da rfl;refine⟨da,by rw[rs6.length];exact Bc q.1,asa,Sa,ws++[y],ρ8,?_,⟨u9.pre.trans ga.pre,(u9.kp.trans (ga.ku ok9)).trans kd⟩,oka.other da na,na,e6,RlAll.mono (Rh _) kd _ _ (rsa.append (.cons rv .nil)),(en9.mono ga.pre (ga.ku ok9)).mono (Rh _) kd,q.2⟩;have Ga:=((G6.trans g7).trans g9).trans ga;refine⟨Ga.pre,fun b o hb nb=>?_⟩;obtain⟨z1,z2⟩:=Ga.keep b o hb nb;exact⟨by rw[c3 (c4 hb hD)];exact z1,z2⟩
    ·exact⟨as9,S9,ws,ρ8,(G6.trans g7).trans g9,u9,ok9,n9,d9,rs9,en9,q⟩
   ·left;have hi2:i'=xs2.length:=by omega
    subst hi2;rw[TQ]at h;unfold i9 at h;obtain⟨kp,h⟩:=h;obtain⟨_,w2⟩:=W2 as6 H6 S6 u6 ok6 kp;exact⟨w2,as6,S6,ws,G6,ok6,n6,d6,rs6,h⟩
  ·exact⟨as4,S4,ys,(g2.trans g3).trans g4,ok4,n4,d4,rs4,q⟩
 ·left;have hi':i=xs.length:=by omega
  subst hi';rw[TQ]at h;unfold i4 at h;obtain⟨kp,h⟩:=h;obtain⟨_,w2⟩:=W as2 H2 S2 (g2.gu ok1) ok2 kp;refine⟨w2,h (as2++[D]) H2 (.ref D) ?_ (ok2.adopt n2 d2 rs) (rl_loc.mpr ⟨D,by rw[<-ok2.len,Rp],rfl⟩)⟩;refine⟨(g1.pre.trans g2.pre).trans (Sj _ _),fun b o hb nb=>?_⟩;obtain⟨h1,n1⟩:=g1.keep b o hb nb;obtain⟨h2,n2'⟩:=g2.keep b o h1 n1;refine⟨h2,?_⟩;rw[RO,RG];rintro(z | z)
  ·exact n2' z
  ·exact c4 h1 hD z
theorem DK(ns:List Int)(i:Int):Bv (ns++[i])=PyProof.Rows.step_dedup (Bv ns) i:=by
 unfold Bv;rw[R9,Rk,PyProof.Rows.firstMet_succ];have e1:(ns++[i]).getD ns.length 0=i:=by simp
 have e2:PyProof.Rows.firstMet (fun j=>(ns++[i]).getD j 0) ns.length=PyProof.Rows.firstMet (fun j=>ns.getD j 0) ns.length:=by
  unfold PyProof.Rows.firstMet
  congr 1
  refine List.map_congr_left fun j hj=>?_;have hj:=Rq.mp hj;simp[RQ hj]
 rw[e1,e2]
theorem Ec{scope sc:VI}{x:Str}(h:scope.names.lookup x=some .local):(AQ scope sc).names.lookup x=some .local:=by
 have go:∀ l:List (Str×VT),l.lookup x=some .local->(l.map fun(n,k)=>if (k == .free&&sc.kind == .function&&sc.names.lookup n == some .cell) then (n,.cell) else (n,k)).lookup x=some .local:=by
  intro l
  induction l with
  | nil=>intro h;cases h
  | cons a r ih=>
    obtain⟨n,k⟩:=a;intro h;rw[SJ]at h;rw[RV];cases hb:x == n with
    | true=>
      rw[hb]at h;have:k = .local:=oj h;subst this;show UM x ((n,NameKind.local)::_)=_;rw[SJ,hb]
    | false=>
      rw[hb]at h
      have e:∀ k',UM x ((n,k')::(r.map fun(n,k)=>if (k == .free&&sc.kind == .function&&sc.names.lookup n == some .cell) then (n,.cell) else (n,k)))=some .local:=fun k'=>by
       rw[SJ,hb];exact ih h
      show UM x ((if (k == .free&&sc.kind == .function&&sc.names.lookup n == some .cell)=true then (n,NameKind.cell) else (n,k))::_)=_;split<;>exact e _
 exact go _ h
theorem Cok.comp{T:List Str}{Δ:Nat->Sn}{X:Cx}{k:Nat}{N:List Str}{sc scope:VI}{own cn:List Str}{js:List Nat}(C:Cok T Δ X k N sc)(hok:i6 sc scope own cn N js=true)(s2:V6)(H2:Hp)(cs:List (Str×V7))(A:V7)(fp:List V7):Cok T Δ (c1 X scope (own++cn) s2 H2 cs A fp) own.length (own++cn) (AQ scope sc) where
 hN:=rfl
 hs:=by rw[<-C.hs];rfl
 nd:=by
  unfold i6 at hok;simp only[RA,dQ]at hok;exact hok.1.2
 calm:=C.calm
 fn:=fun i x hi hx hc=>by
  unfold i6 at hok;simp only[RA,dQ,RX,Ru]at hok
  have hm:x∈own:=by
   rw[RQ hi]at hx;exact RD hx
  show(scope.names.lookup x == some .cell)=true;rcases hok.1.1.1.2 x hm with h | h
  ·rw[Ec h]at hc;cases hc
  ·rw[h];rfl
 un:=C.un
 bl:=C.bl
 rng:=C.rng
 enm:=C.enm
 rvs:=C.rvs
 zip:=C.zip
 st0:=C.st0
 dc0:=C.dc0
 ty:=C.ty
 gd:=C.gd
 call:=C.call
 mono:=C.mono
theorem i7{r:Expr}(h:j9 r=true){env:Env}:∀ x,VO r env x=pure x:=fun x=>by cases r<;>first | rfl | cases h
theorem B4{T N:List Str}{sc:VI}:∀{es:Exs} {rs:List Expr},AS T N sc es rs=true->rs.all c2=true
 | .nil,rs,h=>by unfold AS at h;rw[SA]at h;subst h;rfl
 | .cons e es,rs,h=>by
   unfold AS at h;replace h:=a4 h;obtain⟨x,hx,h⟩:=h;simp only[RA]at h;rw[AA hx,SF,h.1.2,B4 h.2];rfl
theorem OU{X:Cx}{i:Nat}{x:Str}{p:Pos}{N:List Str}{sc:VI}{T:List Str}{Δ:Nat->Sn}{k:Nat}(C:Cok T Δ X k N sc)(h:nmB N sc i x=true):PE X (.Name x p) (Ko i):=by
 unfold nmB at h;simp only[RA,dQ,RZ]at h;exact OJ C h.1.1.1 h.1.1.2 h.1.2 h.2
theorem Gf{α:Type}{l:List α}(h:(!l.isEmpty)=true):∃ y ys,l=y::ys:=by
 cases l with
 | nil=>cases h
 | cons y ys=>exact⟨y,ys,rfl⟩
theorem OV{X:Cx}{c:Expr}{a:WE×WT}(h:Good X c a):Aa X [c] (liftT X.K a.2):=J0 h.pt
theorem K8{X:Cx}:Aa X [] (liftT X.K Pz):=fun pq s σ H Q I hw=>Iz pq s σ H Q I (let ⟨as,ρ,S,ok,en,h⟩:=hw;h as H (Go.refl _ _) ok)
theorem Fn{T:List Str}{Δ:Nat->Sn}{X:Cx}{k:Nat}{N:List Str}{sc scope:VI}{own cn:List Str}{js:List Nat}{tg ri re:Expr}{ifs:List Expr}{p:Pos}{g:Tg}{i:WI}{t:WT}{e:WE×WT}(C:Cok T Δ X k N sc)(hok:i6 sc scope own cn N js=true)(hi:GoodI X tg ri i)
 (hg:∀ s2 H2 cs A fp,PG (c1 X scope (own++cn) s2 H2 cs A fp) tg (Ak X.K g)) (ht:∀ s2 H2 cs A fp,Aa (c1 X scope (own++cn) s2 H2 cs A fp) ifs (liftT X.K t)) (mt:MonoT t) (he:∀ s2 H2 cs A fp,PE (c1 X scope (own++cn) s2 H2 cs A fp) re (lift X.K e.1)) (me:Mono e.1) (hn:j9 ri=true):
 Good X (.ListComp re [⟨tg,ri,ifs,0⟩] scope p) (tt1 (GS own.length js g i t e.1)):=
 .one (c9 _ (LC own cn js hi.pi hg ht he C.calm (by rw[C.hs,C.hN];exact hok) (i7 hn)) (Eb hi.m mt me)) (.comp hi.m mt me) rfl
theorem Ed{T:List Str}{Δ:Nat->Sn}{X:Cx}{k:Nat}{N:List Str}{sc scope:VI}{own cn:List Str}{js:List Nat}{tg ri re tg2 ri2:Expr}{ifs ifs2:List Expr}{p:Pos}{g g2:Tg}{i i2:WI}{t t2:WT}{e:WE×WT}(C:Cok T Δ X k N sc)(hok:i6 sc scope own cn N js=true)(hi:GoodI X tg ri i)
 (hg:∀ s2 H2 cs A fp,PG (c1 X scope (own++cn) s2 H2 cs A fp) tg (Ak X.K g)) (ht:∀ s2 H2 cs A fp,Aa (c1 X scope (own++cn) s2 H2 cs A fp) ifs (liftT X.K t)) (mt:MonoT t) (hi2:∀ s2 H2 cs A fp,PI (c1 X scope (own++cn) s2 H2 cs A fp) tg2 ri2 (liftI X.K i2)) (mi2:MonoI i2)
 (hg2:∀ s2 H2 cs A fp,PG (c1 X scope (own++cn) s2 H2 cs A fp) tg2 (Ak X.K g2)) (ht2:∀ s2 H2 cs A fp,Aa (c1 X scope (own++cn) s2 H2 cs A fp) ifs2 (liftT X.K t2)) (mt2:MonoT t2) (he:∀ s2 H2 cs A fp,PE (c1 X scope (own++cn) s2 H2 cs A fp) re (lift X.K e.1)) (me:Mono e.1) (hn:j9 ri=true) (hn2:j9 ri2=true):
 Good X (.ListComp re [⟨tg,ri,ifs,0⟩,⟨tg2,ri2,ifs2,0⟩] scope p) (tt1 (Dh own.length js g i t g2 i2 t2 e.1)):=
 .one (c9 _ (K7 own cn js hi.pi hg ht hi2 hg2 ht2 he (fun _ _ _ _ _=>i7 hn2) C.calm (by rw[C.hs,C.hN];exact hok) (i7 hn)) (DJ hi.m mt mi2 mt2 me)) (.comp2 hi.m mt mi2 mt2 me) rfl
mutual
theorem a7{T:List Str}{Δ:Nat->Sn}:∀(e:Ex) (r:Expr) {X:Cx} {k:Nat} {N:List Str} {sc:VI},Cok T Δ X k N sc->f6 T N sc e r=true->Good X r (wEx Δ e)
 | .var i,r,X,k,N,sc,C,h=>by
   replace h:=a4 h;obtain⟨x,hx,h⟩:=h;obtain⟨p,rfl⟩:=Av hx;exact .one (c9 _ (OU C h) LM) .var rfl
 | .c x,r,X,k,N,sc,C,h=>by
   replace h:=a4 h;obtain⟨x,hx,h⟩:=h;obtain⟨j,p,rfl⟩:=Ht hx;exact Ln h
 | .op o a b,r,X,k,N,sc,C,h=>by
   replace h:=a4 h;obtain⟨v,hv,h⟩:=h;obtain⟨p,rfl⟩:=Lh hv;simp only[RA,dQ]at h;have ga:=a7 a _ C h.1.2;have gb:=a7 b _ C h.2;rw[<-h.1.1];exact .one (Ju ga.pe gb.pe ga.m gb.m) (.two GT ga.m gb.m) rfl
 | .neg a,r,X,k,N,sc,C,h=>by
   replace h:=a4 h;obtain⟨v,hv,h⟩:=h;obtain⟨p,rfl⟩:=Jo hv;simp only[RA,dQ]at h;rw[h.1];exact Hz (a7 a _ C h.2)
 | .cmp o a b,r,X,k,N,sc,C,h=>by
   replace h:=a4 h;obtain⟨v,hv,h⟩:=h;replace h:=a4 h;obtain⟨rb,hb,h⟩:=h;obtain⟨p,rfl⟩:=Dj hv;simp only[RA,dQ]at h;obtain⟨⟨⟨h0,h1⟩,h2⟩,h3⟩:=h;rw[h0,p9 hb];have ga:=a7 a _ C h1;have gb:=a7 b _ C h2;have:=C.un;exact Hu (by omega) ga.pe gb.pe ga.m gb.m h3
 | .chn o p a b c,r,X,k,N,sc,C,h=>by
   replace h:=a4 h;obtain⟨v,hv,h⟩:=h;replace h:=a4 h;obtain⟨rs,hb,h⟩:=h;obtain⟨p,rfl⟩:=Dj hv;simp only[RA,dQ]at h;obtain⟨⟨⟨⟨h0,h1⟩,h2⟩,h3⟩,h4⟩:=h;rw[h0,DG hb];have ga:=a7 a _ C h1;have gb:=a7 b _ C h2;have gc:=a7 c _ C h3;have:=C.un;exact Hv (by omega) ga.pe gb.pe gc.pe ga.m gb.m gc.m h4
 | .and a b,r,X,k,N,sc,C,h=>by
   replace h:=a4 h;obtain⟨v,hv,h⟩:=h;have e:=EM hv;subst e;rw[RA,dQ]at h;obtain⟨h0,h⟩:=h;replace h:=a4 h;obtain⟨x,hx,h⟩:=h;rw[RA]at h;have ga:=a7 a _ C h.1;rw[h0,AA hx];have h2:=h.2;generalize v.2.1.tail=tl at h2;cases hl:l1 tl with
   | some y=>
     rw[hl]at h2;rw[p9 hl];exact FZ ga (a7 b _ C h2)
   | none=>
     rw[hl]at h2;rw[RA,dQ]at h2;have gb:=a7 b _ C h2.2
     match tl,h2,gb with
     | y::z::zs,h2,gb=>exact Fa ga gb
     | [],h2,_=>exact absurd h2.1 (by simp)
     | [_],h2,_=>exact absurd h2.1 (by simp)
 | .or a b,r,X,k,N,sc,C,h=>by
   replace h:=a4 h;obtain⟨v,hv,h⟩:=h;have e:=EM hv;subst e;rw[RA,dQ]at h;obtain⟨h0,h⟩:=h;replace h:=a4 h;obtain⟨x,hx,h⟩:=h;rw[RA]at h;have ga:=a7 a _ C h.1;rw[h0,AA hx];have h2:=h.2;generalize v.2.1.tail=tl at h2;cases hl:l1 tl with
   | some y=>
     rw[hl]at h2;rw[p9 hl];exact Hw ga (a7 b _ C h2)
   | none=>
     rw[hl]at h2;rw[RA,dQ]at h2;have gb:=a7 b _ C h2.2
     match tl,h2,gb with
     | y::z::zs,h2,gb=>exact Hx ga gb
     | [],h2,_=>exact absurd h2.1 (by simp)
     | [_],h2,_=>exact absurd h2.1 (by simp)
 | .not a,r,X,k,N,sc,C,h=>by
   replace h:=a4 h;obtain⟨v,hv,h⟩:=h;obtain⟨p,rfl⟩:=Jo hv;simp only[RA,dQ]at h;rw[h.1];exact Hy (a7 a _ C h.2)
 | .tup es,r,X,k,N,sc,C,h=>by
   replace h:=a4 h;obtain⟨v,hv,h⟩:=h;obtain⟨j,p,rfl⟩:=B3 hv;exact ID (y0 es _ C h)
 | .lst es,r,X,k,N,sc,C,h=>by
   replace h:=a4 h;obtain⟨v,hv,h⟩:=h;obtain⟨p,rfl⟩:=Li hv;exact IE (y0 es _ C h)
 | .ix a b,r,X,k,N,sc,C,h=>by
   replace h:=a4 h;obtain⟨v,hv,h⟩:=h;obtain⟨p,rfl⟩:=C3 hv;simp only[RA]at h;exact Jx (a7 a _ C h.1.1) (a7 b _ C h.1.2) h.2
 | .slc a lo hi,r,X,k,N,sc,C,h=>by
   replace h:=a4 h;obtain⟨v,hv,h⟩:=h;replace h:=a4 h;obtain⟨w,hw,h⟩:=h;obtain⟨p,rfl⟩:=C3 hv;obtain⟨p2,ew⟩:=Lj hw;simp only[RA]at h;have hl:=Ee lo _ C h.1.1.2;have hh:=Ee hi _ C h.1.2;rw[ew,Tw.mp h.2];exact I0 (a7 a _ C h.1.1.1) hl.1 hh.1 hl.2 hh.2
 | .call f es,r,X,k,N,sc,C,h=>by
   replace h:=a4 h;obtain⟨v,hv,h⟩:=h;obtain⟨p,q,rfl⟩:=y2 hv;simp only[RA,dQ]at h;obtain⟨⟨⟨h1,h2⟩,h3⟩,h4⟩:=h;obtain⟨y,ys,e⟩:=Gf h4;have st:=B4 h3;have g:=y0 es _ C h3;rw[e]at st g ⊢;rw[SF,RA]at st;exact Fd C h1 h2 g st.1 st.2
 | .bi b es,r,X,k,N,sc,C,h=>by
   replace h:=a4 h;obtain⟨v,hv,h⟩:=h;obtain⟨p,q,rfl⟩:=y2 hv;simp only[RA,dQ]at h;obtain⟨⟨⟨h1,h2⟩,h3⟩,h4⟩:=h;obtain⟨y,ys,e⟩:=Gf h4;have st:=B4 h3;have g:=y0 es _ C h3;rw[e]at st g ⊢;rw[SF,RA]at st;rw[<-h1]at h2 ⊢;exact Jz C h2 g st.1 st.2
 | .mt m a es,r,X,k,N,sc,C,h=>by
   replace h:=a4 h;obtain⟨v,hv,h⟩:=h;obtain⟨ap,cp,rfl,hl⟩:=OH hv;simp only[RA,dQ]at h;obtain⟨⟨⟨⟨h0,h1⟩,h3⟩,h4⟩,h5⟩:=h;have st:=B4 h5;have ga:=a7 a _ C h4;have gs:=y0 es _ C h5;rw[h0];generalize v.2.2=args at h3 h5 st gs ⊢;cases args with
   | nil=>
     cases es with
     | nil=>exact IF ga h1 hl
     | cons _ _=>rw[AS]at h5;cases h5
   | cons y ys=>
     rw[SF,RA]at st;exact K1 ga gs h1 hl h3 st.1 st.2
 | .comp own cn js g it t e,r,X,k,N,sc,C,h=>by
   replace h:=a4 h;obtain⟨v,hv,h⟩:=h;replace h:=a4 h;obtain⟨c,hc,h⟩:=h;obtain⟨p,rfl⟩:=BL hv;simp only[RA,dQ]at h;obtain⟨⟨⟨⟨⟨⟨h0,h1⟩,h2⟩,h3⟩,h4⟩,h5⟩,h6⟩:=h;have hI:=v3 it _ _ C h3;have hT:=fun s2 H2 cs A fp=>AU t _ (C.comp h1 s2 H2 cs A fp) h5;have hE:=fun s2 H2 cs A fp=>a7 e _ (C.comp h1 s2 H2 cs A fp) h6;rw[p9 hc];obtain⟨tg,ri,ifs,az⟩:=c;have h0:az=0:=h0;subst h0;exact Fn C h1 hI (fun s2 H2 cs A fp=>t7 (C.comp h1 s2 H2 cs A fp) g _ h2) (fun s2 H2 cs A fp=>(hT s2 H2 cs A fp).1) (hT X.s₀ X.H₀ [] 0 []).2 (fun s2 H2 cs A fp=>(hE s2 H2 cs A fp).pe) (hE X.s₀ X.H₀ [] 0 []).m h4
 | .comp2 own cn js g it t g2 it2 t2 e,r,X,k,N,sc,C,h=>by
   replace h:=a4 h;obtain⟨v,hv,h⟩:=h;replace h:=a4 h;obtain⟨c,hc,h⟩:=h;obtain⟨p,rfl⟩:=BL hv;simp only[RA,dQ]at h;obtain⟨⟨⟨⟨⟨⟨⟨⟨⟨⟨⟨h0,h0'⟩,h1⟩,h2⟩,h3⟩,h4⟩,h5⟩,h6⟩,h7⟩,h8⟩,h9⟩,ha⟩:=h;have hI:=v3 it _ _ C h3;have hT:=fun s2 H2 cs A fp=>AU t _ (C.comp h1 s2 H2 cs A fp) h5;have hI2:=fun s2 H2 cs A fp=>v3 it2 _ _ (C.comp h1 s2 H2 cs A fp) h7;have hT2:=fun s2 H2 cs A fp=>AU t2 _ (C.comp h1 s2 H2 cs A fp) h9;have hE:=fun s2 H2 cs A fp=>a7 e _ (C.comp h1 s2 H2 cs A fp) ha;rw[DG hc];obtain⟨⟨tg,ri,ifs,az⟩,⟨tg2,ri2,ifs2,az2⟩⟩:=c;have h0:az=0:=h0;have h0':az2=0:=h0';subst h0;subst h0';exact Ed C h1 hI (fun s2 H2 cs A fp=>t7 (C.comp h1 s2 H2 cs A fp) g _ h2) (fun s2 H2 cs A fp=>(hT s2 H2 cs A fp).1) (hT X.s₀ X.H₀ [] 0 []).2 (fun s2 H2 cs A fp=>(hI2 s2 H2 cs A fp).pi) (hI2 X.s₀ X.H₀ [] 0 []).m (fun s2 H2 cs A fp=>t7 (C.comp h1 s2 H2 cs A fp) g2 _ h6) (fun s2 H2 cs A fp=>(hT2 s2 H2 cs A fp).1) (hT2 X.s₀ X.H₀ [] 0 []).2 (fun s2 H2 cs A fp=>(hE s2 H2 cs A fp).pe) (hE X.s₀ X.H₀ [] 0 []).m h4 h8
 | .tyc t,r,X,k,N,sc,C,h=>by
   replace h:=a4 h;obtain⟨x,hx,h⟩:=h;obtain⟨p,rfl⟩:=Av hx;simp only[RA,dQ]at h;obtain⟨⟨rfl,h1⟩,h2⟩:=h;exact IG C h1 h2
 | .lrng1 a,r,X,k,N,sc,C,h=>by
   replace h:=a4 h;obtain⟨v,hv,h⟩:=h;replace h:=a4 h;obtain⟨z,hz,h⟩:=h;replace h:=a4 h;obtain⟨u,hu,h⟩:=h;replace h:=a4 h;obtain⟨ra,hra,h⟩:=h;obtain⟨p,q,rfl⟩:=y2 hv;obtain⟨p2,q2,rfl⟩:=y2 hu;simp only[RA,dQ]at h;obtain⟨⟨⟨⟨⟨e1,e2⟩,h1⟩,h2⟩,h3⟩,h4⟩:=h;rw[p9 hz,p9 hra,e1,e2];rw[e1]at h1;rw[e2]at h2;exact ES C h1 h2 (a7 a _ C h3) h4
 | .srtks a d,r,X,k,N,sc,C,h=>by
   replace h:=a4 h;obtain⟨⟨x,as,kw⟩,hv,h⟩:=h;replace h:=a4 h;obtain⟨ra,hra,h⟩:=h;obtain⟨p,q,rfl⟩:=Lk hv;obtain⟨ka,kv,kp⟩:=kw;simp only[RA,dQ]at h;obtain⟨⟨⟨⟨⟨e1,h1⟩,h3⟩,h5⟩,h4⟩,e2⟩:=h;subst e1;subst e2;rw[p9 hra];exact ET C h1 (a7 a _ C h3) (a7 d _ C h5) h4
 | .lend a,r,X,k,N,sc,C,h=>by
   replace h:=a4 h;obtain⟨v,hv,h⟩:=h;replace h:=a4 h;obtain⟨ra,hra,h⟩:=h;obtain⟨p,q,rfl⟩:=y2 hv;simp only[RA,dQ]at h;obtain⟨⟨⟨e1,h1⟩,h3⟩,h4⟩:=h;rw[e1]at h1;rw[p9 hra,e1];exact Ff C h1 (a7 a _ C h3) h4
 | .lenset a,r,X,k,N,sc,C,h=>by
   replace h:=a4 h;obtain⟨v,hv,h⟩:=h;replace h:=a4 h;obtain⟨z,hz,h⟩:=h;replace h:=a4 h;obtain⟨u,hu,h⟩:=h;replace h:=a4 h;obtain⟨ra,hra,h⟩:=h;obtain⟨p,q,rfl⟩:=y2 hv;obtain⟨p2,q2,rfl⟩:=y2 hu;simp only[RA,dQ]at h;obtain⟨⟨⟨⟨⟨e1,e2⟩,h1⟩,h2⟩,h3⟩,h4⟩:=h;rw[e1]at h1;rw[e2]at h2;rw[p9 hz,p9 hra,e1,e2];exact Dm C h1 h2 (a7 a _ C h3) h4
 | .dnew,r,X,k,N,sc,C,h=>by
   replace h:=a4 h;obtain⟨v,hv,h⟩:=h;obtain⟨p,rfl⟩:=Jn hv;simp only[RA,SA]at h;rw[h.1,h.2];exact Fg
 | .din n a b,r,X,k,N,sc,C,h=>by
   replace h:=a4 h;obtain⟨v,hv,h⟩:=h;replace h:=a4 h;obtain⟨rb,hb,h⟩:=h;obtain⟨p,rfl⟩:=Dj hv;simp only[RA,dQ]at h;obtain⟨⟨⟨h0,h1⟩,h2⟩,h3⟩:=h;rw[h0,p9 hb];have:=C.un;exact IH (by omega) (a7 a _ C h1) (a7 b _ C h2) h3
 | .no,r,X,k,N,sc,C,h => .never
theorem y0{T:List Str}{Δ:Nat->Sn}:∀(es:Exs) (rs:List Expr) {X:Cx} {k:Nat} {N:List Str} {sc:VI},Cok T Δ X k N sc->AS T N sc es rs=true->GoodA X rs (Di Δ es)
 | .nil,rs,X,k,N,sc,C,h=>by
   rw[AS,SA]at h;subst h;exact IC
 | .cons e es,rs,X,k,N,sc,C,h=>by
   rw[AS]at h;replace h:=a4 h;obtain⟨x,hx,h⟩:=h;simp only[RA]at h;rw[AA hx];exact Fc (a7 e _ C h.1.1) (y0 es _ C h.2) h.1.2
theorem Ee{T:List Str}{Δ:Nat->Sn}:∀(o:Eo) (r:Option Expr) {X:Cx} {k:Nat} {N:List Str} {sc:VI},Cok T Δ X k N sc->Jq T N sc o r=true->PO X r (ER X.K (wEo Δ o).1)/\MonoO (wEo Δ o).1
 | .no,r,X,k,N,sc,C,h=>by
   rw[Jq]at h;rw[Tw.mp h];exact⟨Q4,.no⟩
 | .yes e,r,X,k,N,sc,C,h=>by
   rw[Jq]at h;replace h:=a4 h;obtain⟨x,hx,h⟩:=h;subst hx;exact⟨OK (a7 e _ C h),.yes (a7 e _ C h).m⟩
theorem AU{T:List Str}{Δ:Nat->Sn}:∀(o:Eo) (rs:List Expr) {X:Cx} {k:Nat} {N:List Str} {sc:VI},Cok T Δ X k N sc->BM T N sc o rs=true->Aa X rs (liftT X.K (wEo Δ o).2)/\MonoT (wEo Δ o).2
 | .no,rs,X,k,N,sc,C,h=>by
   rw[BM,SA]at h;subst h;exact⟨K8,fun _ _ _ _ i q=>i _ _ q⟩
 | .yes e,rs,X,k,N,sc,C,h=>by
   rw[BM]at h;replace h:=a4 h;obtain⟨x,hx,h⟩:=h;rw[p9 hx];exact⟨OV (a7 e _ C h),(a7 e _ C h).mt⟩
theorem v3{T:List Str}{Δ:Nat->Sn}:∀(it:Itb) (tg r:Expr) {X:Cx} {k:Nat} {N:List Str} {sc:VI},Cok T Δ X k N sc->EN T N sc it tg r=true->GoodI X tg r (FX Δ it)
 | .seq e,tg,r,X,k,N,sc,C,h=>by
   exact IJ (a7 e _ C h)
 | .rng1 a,tg,r,X,k,N,sc,C,h=>by
   replace h:=a4 h;obtain⟨v,hv,h⟩:=h;replace h:=a4 h;obtain⟨ra,hra,h⟩:=h;obtain⟨p,q,rfl⟩:=y2 hv;simp only[RA,dQ]at h;obtain⟨⟨⟨e1,h1⟩,h2⟩,h3⟩:=h;rw[e1]at h1;rw[p9 hra,e1];exact Fk C h1 (a7 a _ C h2) h3
 | .rng2 a b,tg,r,X,k,N,sc,C,h=>by
   replace h:=a4 h;obtain⟨v,hv,h⟩:=h;replace h:=a4 h;obtain⟨ra,hra,h⟩:=h;obtain⟨p,q,rfl⟩:=y2 hv;simp only[RA,dQ]at h;obtain⟨⟨⟨⟨⟨e1,h1⟩,h2⟩,h3⟩,h4⟩,h5⟩:=h;rw[e1]at h1;rw[DG hra,e1];exact Fl C h1 (a7 a _ C h2) (a7 b _ C h4) h3 h5
 | .enum e,tg,r,X,k,N,sc,C,h=>by
   replace h:((EK tg).isSome&&(vFn r).any fun v=>(l1 v.2).any fun a=>decide (v.1=("enumerate":Str))&&glo sc v.1&&f6 T N sc e a&&c2 a)=true:=h;rw[RA]at h;obtain⟨ht,h⟩:=h;obtain⟨es,he⟩:=SW.mp ht;obtain⟨j,tp,rfl⟩:=B3 he;replace h:=a4 h;obtain⟨v,hv,h⟩:=h;replace h:=a4 h;obtain⟨ra,hra,h⟩:=h;obtain⟨p,q,rfl⟩:=y2 hv;simp only[RA,dQ]at h;obtain⟨⟨⟨e1,h1⟩,h2⟩,h3⟩:=h;rw[e1]at h1;rw[p9 hra,e1];exact Fj C h1 (a7 e _ C h2) h3
 | .rv a,tg,r,X,k,N,sc,C,h=>by
   replace h:=a4 h;obtain⟨v,hv,h⟩:=h;replace h:=a4 h;obtain⟨ra,hra,h⟩:=h;obtain⟨p,q,rfl⟩:=y2 hv;simp only[RA,dQ]at h;obtain⟨⟨⟨e1,h1⟩,h2⟩,h3⟩:=h;rw[e1]at h1;rw[p9 hra,e1];exact K5 C h1 (a7 a _ C h2) h3
end
noncomputable def Bi:Expr->Option VI
 | .ListComp _ _ s _=>some s
 | .SetComp _ _ s _=>some s
 | .DictComp _ _ _ s _=>some s
 | _=>none
noncomputable def CZ(sc:VI)(e:Expr)(x:Str)(px:Pos):Bool:=match Bi e with
 | none=>false
 | some s=>sc.names.lookup x == some .local&&px.line == e.pos.line&&!(s.names.any fun(n,k)=>n == x&&(k == .local||k == .cell))
theorem Do{env:Env}{e:Expr}{x:Str}{px:Pos}{l:Nat}(hk:env.scope.kind = .function):VX e (some (.Name x px)) l env=pure (CZ env.scope e x px):=by
 have hb:env.blockKind = .function:=by unfold Env.blockKind;rw[hk];rfl
 unfold VX CZ Bi
 cases e<;>first
  | rfl
  | (show(pure _:Sem Bool)=_;rw[hb];rfl)
noncomputable def K9:Expr->Bool
 | .Tuple ..=>false
 | _=>true
noncomputable def Ly(sc:VI)(x y:Str)(px py:Pos):Bool:=sc.names.lookup x == some .local&&sc.names.lookup y == some .local&&px.line == py.line&&!(x == y)
noncomputable def Ca:Expr->Option (Str×Pos)
 | .Name x p=>some (x,p)
 | _=>none
theorem Bj{r:Expr}{x:Str×Pos}(h:Ca r=some x):r = .Name x.1 x.2:=by cases r<;>first | (cases h;rfl) | exact m8 h
noncomputable def KA:Stmt->Option (List Expr×Expr)
 | .Assign ts e _=>some (ts,e)
 | _=>none
noncomputable def QB:Stmt->Option Expr
 | .Expr e _=>some e
 | _=>none
noncomputable def QC:Stmt->Option (Expr×List Stmt×List Stmt)
 | .If t a b _=>some (t,a,b)
 | _=>none
noncomputable def QD:Stmt->Option (Expr×Expr×List Stmt×List Stmt)
 | .For g i b o _=>some (g,i,b,o)
 | _=>none
noncomputable def QF:Stmt->Option (Expr×List Stmt×List Stmt)
 | .While t b o _=>some (t,b,o)
 | _=>none
noncomputable def QG:Stmt->Option (Option Expr)
 | .Return e _=>some e
 | _=>none
theorem C6{r:Stmt}{x:List Expr×Expr}(h:KA r=some x):∃ p,r = .Assign x.1 x.2 p:=by cases r<;>first | (cases h;exact⟨_,rfl⟩) | exact m8 h
theorem Lz{r:Stmt}{x:Expr}(h:QB r=some x):∃ p,r = .Expr x p:=by cases r<;>first | (cases h;exact⟨_,rfl⟩) | exact m8 h
theorem M0{r:Stmt}{x:Expr×List Stmt×List Stmt}(h:QC r=some x):∃ p,r = .If x.1 x.2.1 x.2.2 p:=by cases r<;>first | (cases h;exact⟨_,rfl⟩) | exact m8 h
theorem M1{r:Stmt}{x:Expr×Expr×List Stmt×List Stmt}(h:QD r=some x):∃ p,r = .For x.1 x.2.1 x.2.2.1 x.2.2.2 p:=by cases r<;>first | (cases h;exact⟨_,rfl⟩) | exact m8 h
theorem M2{r:Stmt}{x:Expr×List Stmt×List Stmt}(h:QF r=some x):∃ p,r = .While x.1 x.2.1 x.2.2 p:=by cases r<;>first | (cases h;exact⟨_,rfl⟩) | exact m8 h
theorem M3{r:Stmt}{x:Option Expr}(h:QG r=some x):∃ p,r = .Return x p:=by cases r<;>first | (cases h;exact⟨_,rfl⟩) | exact m8 h
noncomputable def OW(e:Expr):Bool:=(EL e).any fun v=>(l1 v.2.1).isSome
noncomputable def KB(e:Expr):Bool:=(EL e).any fun v=>(l2 v.2.1).isSome
noncomputable def QH(e:Expr):Bool:=false
noncomputable def OX(sc:VI)(rt re:Expr):Bool:=match Ca rt with
 | some x=>!CZ sc re x.1 x.2||OW re||QH re||KB re
 | none=>(EK rt).isSome&&K9 re
mutual
noncomputable def QI(T:List Str)(N:List Str)(sc:VI):Stm->Stmt->Bool
 | .asg t e,r=>(KA r).any fun v=>(l1 v.1).any fun rt=>y4 N.length N sc t rt&&f6 T N sc e v.2&&c2 rt&&OX sc rt v.2
 | .par i j a b,r=>(KA r).any fun v=>(l1 v.1).any fun rt=>(EK rt).any fun ts=>(l2 ts).any fun nn=>(EK v.2).any fun vs=>(l2 vs).any fun ab=>(Ca nn.1).any fun x=>(Ca nn.2).any fun y=>
    decide (N[i]?=some x.1)&&decide (N[j]?=some y.1)&&decide (i≠j)&&Ly sc x.1 y.1 x.2 y.2&&f6 T N sc a ab.1&&f6 T N sc b ab.2&&c2 ab.1&&c2 ab.2&&!([ab.1,ab.2].all (foldedForSure 8))&&!([ab.1,ab.2].all (X4 8))
 | .put o i e,r=>(KA r).any fun v=>(l1 v.1).any fun rt=>(Jl rt).any fun oi=>f6 T N sc o oi.1&&f6 T N sc i oi.2&&f6 T N sc e v.2&&AR oi.2
 | .dput o i e,r=>(KA r).any fun v=>(l1 v.1).any fun rt=>(Jl rt).any fun oi=>f6 T N sc o oi.1&&f6 T N sc i oi.2&&f6 T N sc e v.2&&AR oi.2
 | .expr e,r=>(QB r).any fun re=>f6 T N sc e re&&(Bi re).isNone
 | .iff t a b,r=>(QC r).any fun v=>f6 T N sc t v.1&&BO T N sc a v.2.1&&BO T N sc b v.2.2
 | .loop g it b,r=>(QD r).any fun v=>y4 N.length N sc g v.1&&EN T N sc it v.1 v.2.1&&j9 v.2.1&&BO T N sc b v.2.2.1&&v.2.2.2.isEmpty
 | .whl t b,r=>(QF r).any fun v=>f6 T N sc t v.1&&BO T N sc b v.2.1&&v.2.2.isEmpty
 | .ret e,r=>(QG r).any fun o=>o.any fun re=>f6 T N sc e re
 | .no,_=>true
noncomputable def BO(T:List Str)(N:List Str)(sc:VI):List Stm->List Stmt->Bool
 | [],r=>r.isEmpty
 | s::ss,r=>(r.head?).any fun x=>QI T N sc s x&&BO T N sc ss r.tail
end
noncomputable def Ef(K:R8)(as:List V7)(H:Hp)(D:Ends):EndsS where
 nx:=fun ρ' S'=>∀ as' H' σ',Go as H as' H'->Ok K as' H' S'->EnvOk K as' H' σ' ρ'->D.nx σ' H'
 rt:=Post K as H D.rt
 bk:=fun ρ' S'=>∀ as' H' σ',Go as H as' H'->Ok K as' H' S'->EnvOk K as' H' σ' ρ'->D.bk σ' H'
 ct:=fun ρ' S'=>∀ as' H' σ',Go as H as' H'->Ok K as' H' S'->EnvOk K as' H' σ' ρ'->D.ct σ' H'
noncomputable def liftS(K:R8)(w:WS):TS:=fun D σ H=>∃ as ρ S,Ok K as H S/\EnvOk K as H σ ρ/\w (Ef K as H D) ρ S
structure Le(D D':EndsS):Prop where
 nx:∀ ρ S,D.nx ρ S->D'.nx ρ S
 rt:∀ x S,D.rt x S->D'.rt x S
 bk:∀ ρ S,D.bk ρ S->D'.bk ρ S
 ct:∀ ρ S,D.ct ρ S->D'.ct ρ S
noncomputable def MonoS(w:WS):Prop:=∀ D D' ρ S,Le D D'->w D ρ S->w D' ρ S
theorem MonoS.go{w:WS}(m:MonoS w){D D':EndsS}{ρ:EnvS}{S:Sto}(h:w D ρ S)(l:Le D D'):w D' ρ S:=m D D' ρ S l h
theorem Le.go{K:R8}{as as':List V7}{H H':Hp}{D:Ends}(g:Go as H as' H'):Le (Ef K as H D) (Ef K as' H' D) where
 nx:=fun ρ S h as2 H2 σ2 g2=>h as2 H2 σ2 (g.trans g2)
 rt:=fun x S h=>Post.mono h g
 bk:=fun ρ S h as2 H2 σ2 g2=>h as2 H2 σ2 (g.trans g2)
 ct:=fun ρ S h as2 H2 σ2 g2=>h as2 H2 σ2 (g.trans g2)
structure GoodS(X:Cx)(r:Stmt)(w:WS):Prop where
 ps:PS X r (liftS X.K w)
 m:MonoS w
structure GoodSs(X:Cx)(r:List Stmt)(w:WS):Prop where
 ps:PSs X r (liftS X.K w)
 m:MonoS w
theorem n8{X:Cx}{st:Stmt}{t:TS}(t':TS)(h:PS X st t)(imp:∀ D σ H,t' D σ H->t D σ H):PS X st t':=fun pq s σ H D I hw=>h pq s σ H D I (imp D σ H hw)
theorem Eg{X:Cx}{st:List Stmt}{t:TS}(t':TS)(h:PSs X st t)(imp:∀ D σ H,t' D σ H->t D σ H):PSs X st t':=fun pq s σ H D I hw=>h pq s σ H D I (imp D σ H hw)
section
variable{X:Cx}
theorem Fo:GoodSs X [] (fun D ρ S=>D.nx ρ S):=⟨Eg _ Kt fun D σ H ⟨as,ρ,S,ok,en,h⟩=>h as H σ (Go.refl _ _) ok en,fun D D' ρ S l h=>l.nx _ _ h⟩
theorem Eh{s:Stmt}{ss:List Stmt}{w u:WS}(h1:GoodS X s w)(h2:GoodSs X ss u):GoodSs X (s::ss) (fun D ρ S=>w {D with nx:=u D} ρ S) where
 ps:=Eg _ (Ib h1.ps h2.ps) (by
  rintro D σ H ⟨as,ρ,S,ok,en,h⟩;refine⟨as,ρ,S,ok,en,h1.m.go h ⟨fun ρ' S' q as' H' σ' g ok' en'=>?_,fun _ _ h=>h,fun _ _ h=>h,fun _ _ h=>h⟩⟩;exact⟨as',ρ',S',ok',en',h2.m _ _ _ _ (Le.go g) q⟩)
 m:=fun D D' ρ S l h=>h1.m.go (D:={D with nx:=u D}) h ⟨fun ρ' S' q=>h2.m _ _ _ _ l q,l.rt,l.bk,l.ct⟩
theorem M4{K:R8}{g:Tg}{w:WE}(m:Mono w):∀ D σ H,liftS K (fun D ρ S=>w ρ S fun x S1=>wTg g x ρ fun ρ'=>D.nx ρ' S1) D σ H->F7 (lift K w) (Ak K g) D σ H:=by
 rintro D σ H ⟨as,ρ,S,ok,en,h⟩;refine⟨as,ρ,S,ok,en,m _ _ _ _ (fun x S1 q as1 H1 v g1 ok1 rv=>?_) h⟩;exact⟨as1,ρ,S1,x,ok1,en.mono g1.pre (g1.ku ok),rv,i5 g (fun ρ' q σ' en'=>q as1 H1 σ' g1 ok1 en') q⟩
theorem Cb{K:R8}{i:Nat}{w:WE}(m:Mono w):∀ D σ H,liftS K (fun D ρ S=>w ρ S fun x S1=>wTg (.nm i) x ρ fun ρ'=>D.nx ρ' S1) D σ H->F7 (lift K w) (E2 i) D σ H:=by
 rintro D σ H ⟨as,ρ,S,ok,en,h⟩;refine⟨as,ρ,S,ok,en,m _ _ _ _ (fun x S1 q as1 H1 v g1 ok1 rv=>?_) h⟩;unfold wTg at q;exact q as1 H1 _ g1 ok1 ((en.mono g1.pre (g1.ku ok)).set rv)
theorem Ei{g:Tg}{w:WE}(m:Mono w):MonoS (fun D ρ S=>w ρ S fun x S1=>wTg g x ρ fun ρ'=>D.nx ρ' S1):=fun D D' ρ S l h=>m _ _ _ _ (fun x S1 q=>i5 g (fun ρ' q=>l.nx _ _ q) q) h
theorem OY{K:R8}{t:WT}{a b:WS}(mt:MonoT t)(ma:MonoS a)(mb:MonoS b):∀ D σ H,liftS K (fun D ρ S=>t ρ S fun c S1=>if c=true then a D ρ S1 else b D ρ S1) D σ H->P2 (liftT K t) (liftS K a) (liftS K b) D σ H:=by
 rintro D σ H ⟨as,ρ,S,ok,en,h⟩;refine⟨as,ρ,S,ok,en,mt _ _ _ _ (fun c S1 q as1 H1 g1 ok1=>?_) h⟩;refine f8 (fun q=>?_) (fun q=>?_) q
 ·exact⟨as1,ρ,S1,ok1,en.mono g1.pre (g1.ku ok),ma _ _ _ _ (Le.go g1) q⟩
 ·exact⟨as1,ρ,S1,ok1,en.mono g1.pre (g1.ku ok),mb _ _ _ _ (Le.go g1) q⟩
theorem B5{keep:Sto->Prop}{g:Tg}{b:WS}(mb:MonoS b):∀(xs:List SV) {D D':EndsS},Le D D'->∀ ρ S,t6 keep g b D xs ρ S->t6 keep g b D' xs ρ S
 | [],D,D',l,ρ,S,h=>by unfold t6 at h ⊢;exact⟨h.1,l.nx _ _ h.2⟩
 | x::xs,D,D',l,ρ,S,h=>by
   unfold t6 at h ⊢;exact⟨h.1,i5 g (fun ρ2 q=>mb.go (D:={D with nx:=t6 keep g b D xs,ct:=t6 keep g b D xs,bk:=D.nx}) q ⟨B5 mb xs l,l.rt,l.nx,B5 mb xs l⟩) h.2⟩
theorem M5{K:R8}{g:Tg}{i:WI}{b:WS}(mi:MonoI i)(mb:MonoS b):∀ D σ H,liftS K (fun D ρ S=>i ρ S fun keep xs S1=>t6 keep g b D xs ρ S1) D σ H->PD (liftI K i) (Ak K g) (liftS K b) D σ H:=by
 rintro D σ H ⟨as,ρ,S,ok,en,h⟩;refine⟨as,ρ,S,ok,en,mi _ _ _ _ (fun keep xs S1 h as1 H1 J g1 ok1 W=>?_) h⟩
 refine⟨fun i m σ2 H2=>m=xs.length - i/\i<=xs.length/\∃ as2 ρ2 S2,Go as1 H1 as2 H2/\Ok K as2 H2 S2/\EnvOk K as2 H2 σ2 ρ2/\t6 keep g b (Ef K as H D) (xs.drop i) ρ2 S2,
  ⟨xs.length,by simp,Rz _,as1,ρ,S1,Go.refl _ _,ok1,en.mono g1.pre (g1.ku ok),h⟩,?_⟩
 rintro i m σ2 H2 ⟨rfl,hi,as2,ρ2,S2,g2,ok2,en2,h⟩;by_cases hlt:i<xs.length
 ·right;rw[SS hlt]at h;unfold t6 at h;obtain⟨kp,h⟩:=h;obtain⟨w1,_⟩:=W as2 H2 S2 (g2.gu ok1) ok2 kp;obtain⟨go,yl⟩:=w1 i xs[i] (RB hlt);refine⟨go,fun σ' H'=>∃ as2 ρ2 S2,Go as1 H1 as2 H'/\Ok K as2 H' S2/\EnvOk K as2 H' σ' ρ2/\t6 keep g b (Ef K as H D) (xs.drop (i+1)) ρ2 S2,fun σ' H' z=>⟨xs.length - (i+1),by omega,rfl,hlt,z⟩,fun x H3 y3=>?_⟩;obtain⟨g3,ok3,rx⟩:=yl x H3 y3;refine⟨as2,ρ2,S2,_,ok3,en2.mono g3.pre (g3.ku ok2),rx,i5 g (fun ρ3 q σ3 en3=>?_) h⟩;have g03:=(g1.trans g2).trans g3;refine⟨as2,ρ3,S2,ok3,en3,mb.go q ⟨fun ρ' S' q as' H' σ' g' ok' en'=>?_,fun x S h=>Post.mono h g03,fun ρ' S' q as' H' σ' g' ok' en'=>q as' H' σ' (g03.trans g') ok' en',fun ρ' S' q as' H' σ' g' ok' en'=>?_⟩⟩
  ·exact⟨as',ρ',S',(g2.trans g3).trans g',ok',en',q⟩
  ·exact⟨as',ρ',S',(g2.trans g3).trans g',ok',en',q⟩
 ·left;have hi':i=xs.length:=by omega
  subst hi';rw[TQ]at h;unfold t6 at h;obtain⟨kp,h⟩:=h;obtain⟨_,w2⟩:=W as2 H2 S2 (g2.gu ok1) ok2 kp;exact⟨w2,h as2 H2 σ2 (g1.trans g2) ok2 en2⟩
theorem Ej{t:WT}{b:WS}(mt:MonoT t)(mb:MonoS b):MonoS (OE t b):=fun D D' ρ S l ⟨W,w0,h⟩=>⟨W,w0,fun m ρ S w=>mt _ _ _ _ (fun c S1 q=>f8 (fun q=>mb.go (D:={D with nx:=fun ρ' S'=>∃ m',m'<m/\W m' ρ' S',ct:=fun ρ' S'=>∃ m',m'<m/\W m' ρ' S',bk:=D.nx}) q ⟨fun _ _ h=>h,l.rt,l.nx,fun _ _ h=>h⟩) (fun q=>l.nx _ _ q) q) (h m ρ S w)⟩
theorem M6{K:R8}{t:WT}{b:WS}(mt:MonoT t)(mb:MonoS b):∀ D σ H,liftS K (OE t b) D σ H->Ie (liftT K t) (liftS K b) D σ H:=by
 rintro D σ H ⟨as,ρ,S,ok,en,W,⟨m0,w0⟩,h⟩;refine⟨fun m σ1 H1=>∃ as1 ρ1 S1,Go as H as1 H1/\Ok K as1 H1 S1/\EnvOk K as1 H1 σ1 ρ1/\W m ρ1 S1,⟨m0,as,ρ,S,Go.refl _ _,ok,en,w0⟩,?_⟩;rintro m σ1 H1 ⟨as1,ρ1,S1,g1,ok1,en1,w1⟩;refine⟨as1,ρ1,S1,ok1,en1,mt _ _ _ _ (fun c S2 q as2 H2 g2 ok2=>?_) (h m ρ1 S1 w1)⟩;refine f8 (fun q=>?_) (fun q=>q as2 H2 σ1 (g1.trans g2) ok2 (en1.mono g2.pre (g2.ku ok1))) q;refine⟨fun σ' H'=>∃ m',m'<m/\∃ as1 ρ1 S1,Go as H as1 H'/\Ok K as1 H' S1/\EnvOk K as1 H' σ' ρ1/\W m' ρ1 S1,fun σ' H' z=>z,?_⟩;refine⟨as2,ρ1,S2,ok2,en1.mono g2.pre (g2.ku ok1),mb.go q ⟨fun ρ' S' ⟨m',hm,w'⟩ as' H' σ' g' ok' en'=>?_,fun x S h=>Post.mono h (g1.trans g2),fun ρ' S' q as' H' σ' g' ok' en'=>q as' H' σ' ((g1.trans g2).trans g') ok' en',fun ρ' S' ⟨m',hm,w'⟩ as' H' σ' g' ok' en'=>?_⟩⟩
 ·exact⟨m',hm,as',ρ',S',(g1.trans g2).trans g',ok',en',w'⟩
 ·exact⟨m',hm,as',ρ',S',(g1.trans g2).trans g',ok',en',w'⟩
theorem M7{K:R8}{i j:Nat}{a b:WE}(ma:Mono a)(mb:Mono b):∀ D σ H,liftS K (fun D ρ S=>a ρ S fun x S1=>b ρ S1 fun y S2=>D.nx ((ρ.set i (some x)).set j (some y)) S2) D σ H->P8 i j (E4 (lift K a) (E4 (lift K b) NV)) D σ H:=by
 rintro D σ H ⟨as,ρ,S,ok,en,h⟩;refine⟨as,ρ,S,ok,en,ma _ _ _ _ (fun x S1 q as1 H1 v g1 ok1 rv=>?_) h⟩;refine⟨as1,ρ,S1,ok1,en.mono g1.pre (g1.ku ok),mb _ _ _ _ (fun y S2 q as2 H2 u g2 ok2 ru=>?_) q⟩;refine⟨v,u,rfl,q as2 H2 _ (g1.trans g2) ok2 ?_⟩;exact(((en.mono g1.pre (g1.ku ok)).mono g2.pre (g2.ku ok1)).set (Rl.mono g2.pre (g2.ku ok1) x v rv)).set ru
theorem Cc{x y v:SV}{S:Sto}{P P':Sto->Prop}(i:∀ S,P S->P' S)(h:Hs x y v S P):Hs x y v S P':=by
 unfold Hs at h ⊢;split at h
 ·obtain⟨xs,j,a,b,c⟩:=h;exact⟨xs,j,a,b,i _ c⟩
 ·exact h.elim
theorem M8{K:R8}{as:List V7}{H:Hp}{S:Sto}{x y z:SV}{o i v:V}{Q:Hp->Prop}(ok:Ok K as H S)(ro:Rl K as H o x)(ri:Rl K as H i y)(rv:Rl K as H v z)(h:Hs x y z S fun S'=>∀ H',Go as H as H'->Ok K as H' S'->Q H'):Ip o i v H Q:=by
 cases x with
 | loc k=>
   cases y with
   | int n=>
     obtain⟨xs,j,h1,h2,h3⟩:=h;obtain⟨a,vs,rfl,ea,ha,ra⟩:=j3 ok ro h1;rw[rl_int]at ri;subst ri;refine⟨a,vs,n,j,rfl,rfl,ha,by rw[ra.length];exact h2,h3 _ (Go.write (RD ea)) (ok.write h1 ea (ra.set rv j)).1⟩
   | _=>exact False.elim h
 | _=>exact False.elim h
theorem M9{K:R8}{o i e:WE}(mo:Mono o)(mi:Mono i)(me:Mono e):∀ D σ H,liftS K (fun D ρ S=>e ρ S fun v S1=>o ρ S1 fun x S2=>i ρ S2 fun y S3=>Hs x y v S3 fun S4=>D.nx ρ S4) D σ H->F7 (lift K e) (P7 (lift K o) (lift K i) Ip) D σ H:=by
 rintro D σ H ⟨as,ρ,S,ok,en,h⟩;refine⟨as,ρ,S,ok,en,me _ _ _ _ (fun z S1 q as1 H1 v g1 ok1 rv=>?_) h⟩;have en1:=en.mono g1.pre (g1.ku ok);refine⟨as1,ρ,S1,ok1,en1,mo _ _ _ _ (fun x S2 q as2 H2 u g2 ok2 ru=>?_) q⟩;have en2:=en1.mono g2.pre (g2.ku ok1);refine⟨as2,ρ,S2,ok2,en2,mi _ _ _ _ (fun y S3 q as3 H3 t g3 ok3 rt=>?_) q⟩;have en3:=en2.mono g3.pre (g3.ku ok2);refine M8 ok3 (Rl.mono g3.pre (g3.ku ok2) x u ru) rt (Rl.mono (g2.trans g3).pre ((g2.trans g3).ku ok1) z v rv) (Cc (fun S4 q H4 g4 ok4=>?_) q);exact q as3 H4 σ (((g1.trans g2).trans g3).trans g4) ok4 (en3.mono g4.pre (g4.ku ok3))
theorem BP{n j:Nat}(h:j<n):ixN n (j:Int)=some j:=by
 unfold ixN;rw[iP (by omega),iP (by omega)];simp
theorem DL{x y v:SV}{S:Sto}{Q Q':Sto->Prop}(i:∀ S',Q S'->Q' S')(h:GR x y v S Q):GR x y v S Q':=let ⟨k,j,kvs,a,b,c,d,q⟩:=h;⟨k,j,kvs,a,b,c,d,i _ q⟩
theorem KC{K:R8}{o i e:WE}(mo:Mono o)(mi:Mono i)(me:Mono e):∀ D σ H,liftS K (fun D ρ S=>e ρ S fun v S1=>o ρ S1 fun x S2=>i ρ S2 fun y S3=>GR x y v S3 fun S4=>D.nx ρ S4) D σ H->JW (lift K o) (lift K i) (lift K e) D σ H:=by
 rintro D σ H ⟨as,ρ,S,ok,en,h⟩;refine⟨as,ρ,S,ok,en,me _ _ _ _ (fun z S1 q as1 H1 v g1 ok1 rv=>?_) h⟩;have en1:=en.mono g1.pre (g1.ku ok);refine⟨as1,ρ,S1,ok1,en1,mo _ _ _ _ (fun x S2 q as2 H2 u g2 ok2 ru=>?_) q⟩;have en2:=en1.mono g2.pre (g2.ku ok1);refine⟨as2,ρ,S2,ok2,en2,mi _ _ _ _ (fun y S3 q as3 H3 t g3 ok3 rt=>?_) q⟩;have en3:=en2.mono g3.pre (g3.ku ok2);have ru':=Rl.mono g3.pre (g3.ku ok2) x u ru;have rv':=Rl.mono (g2.trans g3).pre ((g2.trans g3).ku ok1) z v rv;obtain⟨k,j,kvs,rfl,rfl,hk,hb,q⟩:=q;obtain⟨a,ea,rfl⟩:=rl_loc.mp ru';rw[rl_int]at rt;subst rt;rcases hk with hk | ⟨o',ks,hk⟩
 ·obtain⟨ks,h1,h2⟩:=ok3.obj k _ a hk ea;obtain⟨ok4,ku⟩:=ok3.writeO (x := .dct (CO kvs j z)) (u := .dK (Ad ks (Sum.inl j) v)) hk ea (fun ku=>⟨_,e6,RlD.mono (Rh _) ku _ _ (h2.put rv' j)⟩);refine⟨a,H3,_,rfl,.inl rfl,.inl ⟨ks,.inl j,h1,rfl,by rw[h2.length];exact Bc hb,rfl⟩,?_⟩;exact q as3 _ σ (((g1.trans g2).trans g3).trans (Go.write (RD ea))) ok4 (en3.mono (Rh _) ku)
 ·obtain⟨h1,h2⟩:=(show RlO K as3 H3 a (.dcf o' ks kvs) from ok3.obj k _ a hk ea)
  obtain⟨ok4,ku⟩:=ok3.writeO (x := .dct (CO kvs j z)) (u := .dK (Ad ks (Sum.inl j) v)) hk ea (fun ku=>⟨_,e6,RlD.mono (Rh _) ku _ _ (h2.put rv' j)⟩)
  have e:upd (upd H3 a (.dK ks)) a (.dK (Ad ks (Sum.inl j) v))=upd H3 a (.dK (Ad ks (Sum.inl j) v)):=by
   funext b
   by_cases hb:b=a
   ·rw[hb,e6,e6]
   ·rw[c3 hb,c3 hb,c3 hb]
  refine⟨a,upd H3 a (.dK ks),upd H3 a (.dK (Ad ks (Sum.inl j) v)),rfl,.inr ⟨a,o',ks,h1,rfl⟩,.inl ⟨ks,.inl j,e6,rfl,by rw[h2.length];exact Bc hb,e.symm⟩,?_⟩;exact q as3 _ σ (((g1.trans g2).trans g3).trans (Go.write (RD ea))) ok4 (en3.mono (Rh _) ku)
end
theorem KD{env:Env}{es:List Expr}{k:Nat}{p:Pos}{e:Expr}{l:Nat}:Vh [.Tuple es k p] e l env=pure false:=by
 unfold Vh VX;cases e<;>rfl
theorem OZ{env:Env}{o i:Expr}{p:Pos}{e:Expr}{l:Nat}:Vh [.Subscript o i p] e l env=pure false:=by
 unfold Vh VX;cases e<;>rfl
theorem Oa{env:Env}{es:List Expr}{k:Nat}{p:Pos}{e:Expr}(h:K9 e=true):Vc [.Tuple es k p] e env=pure none:=by
 unfold Vc;cases e<;>first | rfl | cases h
theorem Ob{env:Env}{o i:Expr}{p:Pos}{e:Expr}:Vc [.Subscript o i p] e env=pure none:=by
 unfold Vc;cases e<;>rfl
theorem Oc{env:Env}{x y:Str}{px py pt pt2:Pos}{k k2:Nat}{a b:Expr}(hk:env.scope.kind = .function)(h:Ly env.scope x y px py=true)(ha:c2 a=true)(hb:c2 b=true)(h1:([a,b].all (foldedForSure 8))=false)(h2:([a,b].all (X4 8))=false):
 Vc [.Tuple [.Name x px,.Name y py] k pt] (.Tuple [a,b] k2 pt2) env=pure (some [x,y]):=by
 have hbk:env.blockKind = .function:=by unfold Env.blockKind;rw[hk];rfl
 unfold Ly at h;simp only[RA,bQ,RZ,beq_eq_false_iff_ne]at h;obtain⟨⟨⟨hx,hy⟩,hl⟩,hne⟩:=h;have kx:env.kindOf x=some .local:=hx;have ky:env.kindOf y=some .local:=hy
 have ed:([x,y]:List Str).eraseDups.length=2:=by
  have:(y == x)=false:=by rw[beq_eq_false_iff_ne];exact fun z=>hne z.symm
  rw[List.eraseDups_cons,List.filter_cons,this];rfl
 unfold Vc;simp only[Rt,SH,hbk,h1,h2,List.head?_cons,Sf,U0,Expr.pos,TR,List.filterMap_nil,kx,ky,hl];refine(iG (by decide)).trans ((iG (fun z=>?_)).trans ?_)
 ·simp only[SX,Uz,Ur,Ru]at z;rcases z with z | z
  ·cases a<;>first | (cases z;done) | cases ha
  ·cases b<;>first | (cases z;done) | cases hb
 ·rw[show(some NameKind.local == some NameKind.local&&py.line == py.line)=true by simp];simp only[if_true];refine(iG (by rw[ed];simp)).trans ?_;refine(iG (by simp)).trans ((iG (by simp)).trans rfl)
theorem Ek{t:WT}{a b:WS}(mt:MonoT t)(ma:MonoS a)(mb:MonoS b):MonoS (fun D ρ S=>t ρ S fun c S1=>if c=true then a D ρ S1 else b D ρ S1):=fun D D' ρ S l h=>mt _ _ _ _ (fun c S1 q=>f8 (fun q=>ma.go q l) (fun q=>mb.go q l) q) h
section
variable{T:List Str}{Δ:Nat->Sn}{X:Cx}{N:List Str}{sc:VI}
theorem My{env:Env}{e:Expr}(h:c2 e=true):(VV [e] env).map (·.2)=[assign e env]:=by cases e<;>first | rfl | cases h
theorem Fp{env:Env}{o i:Expr}{p:Pos}(h:AR i=true):∀ v,assign (.Subscript o i p) env v=(do
 let ov <- holding [v] (eval o env)
 let iv <- holding [v,ov] (eval i env)
 standAt p
 holding [v,ov,iv] (setItem ov iv v)
 release [v,ov,iv] []):=fun v=>by cases i<;>first | rfl | cases h
theorem IL(C:Cok T Δ X N.length N sc)(hk:sc.kind = .function){t:Tg}{e:Ex}{rt re:Expr}{pos:Pos}(h1:y4 N.length N sc t rt=true)(h2:f6 T N sc e re=true)(h3:c2 rt=true)(h4:OX sc rt re=true):PS X (.Assign [rt] re pos) (liftS X.K fun D ρ S=>(wEx Δ e).1 ρ S fun x S1=>wTg t x ρ fun ρ'=>D.nx ρ' S1):=by
 have ge:=a7 e re C h2;unfold OX at h4;cases hv:Ca rt with
 | none=>
   rw[hv]at h4;rw[RA]at h4;obtain⟨es,hes⟩:=SW.mp h4.1;obtain⟨j,p,rfl⟩:=B3 hes;exact n8 _ (Id ge.pe (t7 C t _ h1) KD (Oa h4.2) (My rfl)) (M4 ge.m)
 | some xp=>
   rw[hv]at h4;have e0:=Bj hv;obtain⟨x,px⟩:=xp;subst e0;cases t with
   | tup ts=>rw[y4]at h1;cases h1
   | nm i=>
     rw[y4]at h1;have h1:(decide (i<N.length)&&decide (N[i]?=some x)&&loc sc x)=true:=h1;simp only[RA,dQ]at h1;obtain⟨⟨hi,hx⟩,hl⟩:=h1;unfold loc at hl;simp only[Ru,bQ]at hl;have hND:X.N.Nodup:=by rw[C.hN];exact C.nd
     have hNi:X.N[i]?=some x:=by rw[C.hN];exact hx
     have hloc:Loc X.env.scope x:=by rw[C.hs];exact hl
     have hf:X.fn x=true\/X.env.scope.names.lookup x=some .local:=by
      rw[C.hs];rcases hl with hl | hl
      ·exact .inr hl
      ·exact .inl (C.fn i x hi hx hl)
     have hke:X.env.scope.kind = .function:=by rw[C.hs];exact hk
     cases hsw:CZ sc re x px with
     | false=>exact n8 _ (NK hND hNi hloc ge.pe (by rw[Do hke,C.hs,hsw]) hf) (Cb ge.m)
     | true=>
       have h4:(!CZ sc re x px||OW re||QH re||KB re)=true:=h4;rw[hsw,Uq,Uo,Ru,Ru]at h4;rcases h4 with(h4 | h4) | h4
       ·unfold OW at h4;obtain⟨v,hv',h4⟩:=a4 h4;obtain⟨gen,hgen⟩:=SW.mp h4;obtain⟨p',rfl⟩:=BL hv';rw[p9 hgen]at h2 ge hsw ⊢
        have hxl:X.env.scope.names.lookup x=some .local:=by
         rw[C.hs];unfold CZ Bi at hsw;simp only[RA,bQ]at hsw;exact hsw.1.1
        have hs1:VX (.ListComp v.1 [gen] v.2.2 p') (some (.Name x px)) pos.line X.env=pure true:=by rw[Do hke,C.hs,hsw]
        cases e with
        | comp own cn js g it t' e'=>
          obtain⟨tg,ri,ifs,az⟩:=gen;have h2:(decide (az=0)&&i6 sc v.2.2 own cn N js&&y4 own.length (own++cn) (AQ v.2.2 sc) g tg&&EN T N sc it tg ri&&j9 ri&&BM T (own++cn) (AQ v.2.2 sc) t' ifs&&f6 T (own++cn) (AQ v.2.2 sc) e' v.1)=true:=h2;simp only[RA,dQ]at h2;obtain⟨⟨⟨⟨⟨⟨k0,k1⟩,k2⟩,k3⟩,k4⟩,k5⟩,k6⟩:=h2;subst k0;have hI:=v3 it _ _ C k3;have hT:=fun s2 H2 cs A fp=>AU t' _ (C.comp k1 s2 H2 cs A fp) k5;have hE:=fun s2 H2 cs A fp=>a7 e' _ (C.comp k1 s2 H2 cs A fp) k6;have mt:=(hT X.s₀ X.H₀ [] 0 []).2;have me:=(hE X.s₀ X.H₀ [] 0 []).m;have b:=FL (i:=i) (g:=Ak X.K g) (tt:=liftT X.K (wEo Δ t').2) (te:=lift X.K (wEx Δ e').1) own cn js hND hNi hxl hI.pi (fun s2 H2 cs A fp=>t7 (C.comp k1 s2 H2 cs A fp) g _ k2) (fun s2 H2 cs A fp=>(hT s2 H2 cs A fp).1) (fun s2 H2 cs A fp=>(hE s2 H2 cs A fp).pe) C.calm (by rw[C.hs,C.hN];exact k1) hs1 (i7 k4);refine n8 _ b fun D σ H h=>?_;have:=Cb ge.m D σ H h;exact Eb hI.m mt me σ H _ this
        | no=>exact fun _ _ _ _ _ _ h=>let ⟨_,_,_,_,_,z⟩:=h;z.elim
        | _=>exact absurd h2 nofun
       ·exact Bool.noConfusion (show false=true from h4)
       ·unfold KB at h4;obtain⟨v,hv',h4⟩:=a4 h4;obtain⟨gen,hgen⟩:=SW.mp h4;obtain⟨p',rfl⟩:=BL hv';rw[DG hgen]at h2 ge hsw ⊢
        have hxl:X.env.scope.names.lookup x=some .local:=by
         rw[C.hs];unfold CZ Bi at hsw;simp only[RA,bQ]at hsw;exact hsw.1.1
        have hs1:VX (.ListComp v.1 [gen.1,gen.2] v.2.2 p') (some (.Name x px)) pos.line X.env=pure true:=by rw[Do hke,C.hs,hsw]
        cases e with
        | comp2 own cn js g it t' g2 it2 t2 e'=>
          obtain⟨⟨tg,ri,ifs,az⟩,⟨tg2,ri2,ifs2,az2⟩⟩:=gen;have h2:(decide (az=0)&&decide (az2=0)&&i6 sc v.2.2 own cn N js&&y4 own.length (own++cn) (AQ v.2.2 sc) g tg&&EN T N sc it tg ri&&j9 ri&&BM T (own++cn) (AQ v.2.2 sc) t' ifs&&y4 own.length (own++cn) (AQ v.2.2 sc) g2 tg2&&EN T (own++cn) (AQ v.2.2 sc) it2 tg2 ri2&&j9 ri2&&BM T (own++cn) (AQ v.2.2 sc) t2 ifs2&&f6 T (own++cn) (AQ v.2.2 sc) e' v.1)=true:=h2;simp only[RA,dQ]at h2;obtain⟨⟨⟨⟨⟨⟨⟨⟨⟨⟨⟨k0,k0'⟩,k1⟩,k2⟩,k3⟩,k4⟩,k5⟩,k6⟩,k7⟩,k8⟩,k9⟩,ka⟩:=h2;subst k0;subst k0';have hI:=v3 it _ _ C k3;have hT:=fun s2 H2 cs A fp=>AU t' _ (C.comp k1 s2 H2 cs A fp) k5;have hI2:=fun s2 H2 cs A fp=>v3 it2 _ _ (C.comp k1 s2 H2 cs A fp) k7;have hT2:=fun s2 H2 cs A fp=>AU t2 _ (C.comp k1 s2 H2 cs A fp) k9;have hE:=fun s2 H2 cs A fp=>a7 e' _ (C.comp k1 s2 H2 cs A fp) ka;have mt:=(hT X.s₀ X.H₀ [] 0 []).2;have mi2:=(hI2 X.s₀ X.H₀ [] 0 []).m;have mt2:=(hT2 X.s₀ X.H₀ [] 0 []).2;have me:=(hE X.s₀ X.H₀ [] 0 []).m;have b:=Ea (i:=i) (g:=Ak X.K g) (tt:=liftT X.K (wEo Δ t').2) (wi2:=liftI X.K (FX Δ it2)) (g2:=Ak X.K g2) (tt2:=liftT X.K (wEo Δ t2).2) (te:=lift X.K (wEx Δ e').1) own cn js hND hNi hxl hI.pi (fun s2 H2 cs A fp=>t7 (C.comp k1 s2 H2 cs A fp) g _ k2) (fun s2 H2 cs A fp=>(hT s2 H2 cs A fp).1) (fun s2 H2 cs A fp=>(hI2 s2 H2 cs A fp).pi) (fun s2 H2 cs A fp=>t7 (C.comp k1 s2 H2 cs A fp) g2 _ k6) (fun s2 H2 cs A fp=>(hT2 s2 H2 cs A fp).1) (fun s2 H2 cs A fp=>(hE s2 H2 cs A fp).pe) (fun _ _ _ _ _=>i7 k8) C.calm (by rw[C.hs,C.hN];exact k1) hs1 (i7 k4);refine n8 _ b fun D σ H h=>?_;have:=Cb ge.m D σ H h;exact DJ hI.m mt mi2 mt2 me σ H _ this
        | no=>exact fun _ _ _ _ _ _ h=>let ⟨_,_,_,_,_,z⟩:=h;z.elim
        | _=>exact absurd h2 nofun
mutual
theorem KF(C:Cok T Δ X N.length N sc)(hp:Wl (VB X.prog X.w) X.A X.env X.xe)(hk:sc.kind = .function):∀(s:Stm) (r:Stmt),QI T N sc s r=true->GoodS X r (wSt Δ s)
 | .asg t e,r,h=>by
   replace h:=a4 h;obtain⟨v,hv,h⟩:=h;replace h:=a4 h;obtain⟨rt,hrt,h⟩:=h;obtain⟨pos,rfl⟩:=C6 hv;simp only[RA]at h;obtain⟨⟨⟨h1,h2⟩,h3⟩,h4⟩:=h;rw[p9 hrt];exact⟨IL C hk h1 h2 h3 h4,Ei (a7 e _ C h2).m⟩
 | .par i j a b,r,h=>by
   replace h:=a4 h;obtain⟨v,hv,h⟩:=h;replace h:=a4 h;obtain⟨rt,hrt,h⟩:=h;replace h:=a4 h;obtain⟨ts,hts,h⟩:=h;replace h:=a4 h;obtain⟨nn,hnn,h⟩:=h;replace h:=a4 h;obtain⟨vs,hvs,h⟩:=h;replace h:=a4 h;obtain⟨ab,hab,h⟩:=h;replace h:=a4 h;obtain⟨x,hx',h⟩:=h;replace h:=a4 h;obtain⟨y,hy',h⟩:=h;obtain⟨pos,rfl⟩:=C6 hv;simp only[RA,dQ,RZ]at h;obtain⟨⟨⟨⟨⟨⟨⟨⟨⟨hx,hy⟩,hij⟩,hpar⟩,h1⟩,h2⟩,h3⟩,h4⟩,h5⟩,h6⟩:=h;obtain⟨j1,p1,e1⟩:=B3 hts;obtain⟨j2,p2,e2⟩:=B3 hvs;rw[p9 hrt,e1,DG hnn,e2,DG hab,Bj hx',Bj hy'];have ga:=a7 a _ C h1;have gb:=a7 b _ C h2;have hp2:=hpar;unfold Ly at hp2;simp only[RA,bQ]at hp2;have hke:X.env.scope.kind = .function:=by rw[C.hs];exact hk
   refine⟨n8 _ (NL (i:=i) (j:=j) C.calm (by rw[C.hN];exact C.nd) (by rw[C.hN];exact hx) (by rw[C.hN];exact hy) hij (by rw[C.hs];exact hp2.1.1.1) (by rw[C.hs];exact hp2.1.1.2) (m9 ga.pe (m9 gb.pe AD (c6 h4)) (c6 h3)) (Oc hke (by rw[C.hs];exact hpar) h3 h4 h5 h6) KD) (M7 ga.m gb.m),?_⟩;exact fun D D' ρ S l h=>ga.m _ _ _ _ (fun x S1 q=>gb.m _ _ _ _ (fun y S2 q=>l.nx _ _ q) q) h
 | .put o i e,r,h=>by
   replace h:=a4 h;obtain⟨v,hv,h⟩:=h;replace h:=a4 h;obtain⟨rt,hrt,h⟩:=h;replace h:=a4 h;obtain⟨oi,hoi,h⟩:=h;obtain⟨pos,rfl⟩:=C6 hv;obtain⟨p2,e2⟩:=C3 hoi;simp only[RA]at h;rw[p9 hrt,e2];have go:=a7 o _ C h.1.1.1;have gi:=a7 i _ C h.1.1.2;have ge:=a7 e _ C h.1.2;refine⟨n8 _ (Id ge.pe (NJ go.pe gi.pe Iq (Fp h.2)) OZ Ob (My rfl)) (M9 go.m gi.m ge.m),?_⟩;exact fun D D' ρ S l h=>ge.m _ _ _ _ (fun v S1 q=>go.m _ _ _ _ (fun x S2 q=>gi.m _ _ _ _ (fun y S3 q=>Cc (fun S4 q=>l.nx _ _ q) q) q) q) h
 | .dput o i e,r,h=>by
   replace h:=a4 h;obtain⟨v,hv,h⟩:=h;replace h:=a4 h;obtain⟨rt,hrt,h⟩:=h;replace h:=a4 h;obtain⟨oi,hoi,h⟩:=h;obtain⟨pos,rfl⟩:=C6 hv;obtain⟨p2,e2⟩:=C3 hoi;simp only[RA]at h;rw[p9 hrt,e2];have go:=a7 o _ C h.1.1.1;have gi:=a7 i _ C h.1.1.2;have ge:=a7 e _ C h.1.2;have:=C.un;refine⟨n8 _ (JX (by omega) go.pe gi.pe ge.pe (by unfold VX;cases v.2<;>rfl)) (KC go.m gi.m ge.m),?_⟩;exact fun D D' ρ S l h=>ge.m _ _ _ _ (fun v S1 q=>go.m _ _ _ _ (fun x S2 q=>gi.m _ _ _ _ (fun y S3 q=>DL (fun S4 q=>l.nx _ _ q) q) q) q) h
 | .expr e,r,h=>by
   replace h:=a4 h;obtain⟨re,hre,h⟩:=h;obtain⟨pos,rfl⟩:=Lz hre;simp only[RA]at h;have ge:=a7 e _ C h.1
   have hs:VX re none pos.line X.env=pure false:=by
    have:=h.2;unfold VX;cases re<;>first | rfl | (unfold Bi at this;cases this)
   refine⟨n8 _ (Ku ge.pe hs) ?_,fun D D' ρ S l h=>ge.m _ _ _ _ (fun x S1 q=>l.nx _ _ q) h⟩;rintro D σ H ⟨as,ρ,S,ok,en,h⟩;exact⟨as,ρ,S,ok,en,ge.m _ _ _ _ (fun x S1 q as1 H1 v g1 ok1 rv=>q as1 H1 σ g1 ok1 (en.mono g1.pre (g1.ku ok))) h⟩
 | .iff t a b,r,h=>by
   replace h:=a4 h;obtain⟨v,hv,h⟩:=h;obtain⟨pos,rfl⟩:=M0 hv;simp only[RA]at h;have gt:=a7 t _ C h.1.1;have ga:=AV C hp hk a _ h.1.2;have gb:=AV C hp hk b _ h.2;exact⟨n8 _ (P4 gt.pt ga.ps gb.ps) (OY gt.mt ga.m gb.m),Ek gt.mt ga.m gb.m⟩
 | .loop g it b,r,h=>by
   replace h:=a4 h;obtain⟨v,hv,h⟩:=h;obtain⟨pos,rfl⟩:=M1 hv;simp only[RA,SA]at h;obtain⟨⟨⟨⟨h1,h2⟩,h3⟩,h4⟩,h5⟩:=h;rw[h5];have gi:=v3 it _ _ C h2;have gb:=AV C hp hk b _ h4;refine⟨n8 _ (NM hp C.calm gi.pi (t7 C g _ h1) gb.ps (i7 h3)) (M5 gi.m gb.m),?_⟩;exact fun D D' ρ S l h=>gi.m _ _ _ _ (fun keep xs S1 q=>B5 gb.m xs l _ _ q) h
 | .whl t b,r,h=>by
   replace h:=a4 h;obtain⟨v,hv,h⟩:=h;obtain⟨pos,rfl⟩:=M2 hv;simp only[RA,SA]at h;rw[h.2];have gt:=a7 t _ C h.1.1;have gb:=AV C hp hk b _ h.1.2;exact⟨n8 _ (Ig hp gt.pt gb.ps) (M6 gt.mt gb.m),Ej gt.mt gb.m⟩
 | .ret e,r,h=>by
   replace h:=a4 h;obtain⟨o,ho,h⟩:=h;replace h:=a4 h;obtain⟨re,hre,h⟩:=h;obtain⟨pos,rfl⟩:=M3 ho;rw[hre];have ge:=a7 e _ C h;exact⟨n8 _ (NG ge.pe) fun D σ H ⟨as,ρ,S,ok,en,h⟩=>⟨as,ρ,S,ok,en,h⟩,fun D D' ρ S l h=>ge.m _ _ _ _ l.rt h⟩
 | .no,r,h=>⟨fun _ _ _ _ _ _ h=>let ⟨_,_,_,_,_,z⟩:=h;z.elim,fun _ _ _ _ _ h=>h⟩
theorem AV(C:Cok T Δ X N.length N sc)(hp:Wl (VB X.prog X.w) X.A X.env X.xe)(hk:sc.kind = .function):∀(s:List Stm) (r:List Stmt),BO T N sc s r=true->GoodSs X r (wSs Δ s)
 | [],r,h=>by
   rw[BO,SA]at h;subst h;exact Fo
 | s::ss,r,h=>by
   rw[BO]at h;replace h:=a4 h;obtain⟨x,hx,h⟩:=h;rw[RA]at h;rw[AA hx];have:=Eh (KF C hp hk s x h.1) (AV C hp hk ss _ h.2);rw[wSs];exact this
end
end
mutual
theorem a6{Δ:Nat->Sn}(hΔ:∀ f,MonoN (Δ f)):∀(e:Ex),Mono (wEx Δ e).1/\MonoT (wEx Δ e).2
 | .var i=>⟨.var,.tru .var⟩
 | .c x=>⟨.c,.tru .c⟩
 | .op o a b=>have m:Mono _ := .two (s:=sOp o) GT (a6 hΔ a).1 (a6 hΔ b).1;⟨m,.tru m⟩
 | .neg a=>have m:Mono _ := .one CT (a6 hΔ a).1;⟨m,.tru m⟩
 | .cmp o a b=>have m:Mono _ := .two (s:=Ae o) v9 (a6 hΔ a).1 (a6 hΔ b).1;⟨m,.bl m⟩
 | .chn o p a b c=>have m:=EO (o:=o) (p:=p) (a6 hΔ a).1 (a6 hΔ b).1 (a6 hΔ c).1;⟨m,.bl m⟩
 | .and a b=>⟨.and (a6 hΔ a).1 (a6 hΔ b).1,.and (a6 hΔ a).2 (a6 hΔ b).2⟩
 | .or a b=>⟨.or (a6 hΔ a).1 (a6 hΔ b).1,.or (a6 hΔ a).2 (a6 hΔ b).2⟩
 | .not a=>⟨.not (a6 hΔ a).1,.not (a6 hΔ a).2⟩
 | .tup es=>have m:Mono _ := .n .tup (AW hΔ es);⟨m,.tru m⟩
 | .lst es=>have m:Mono _ := .n .lst (AW hΔ es);⟨m,.tru m⟩
 | .ix a b=>have m:Mono _ := .two .ix (a6 hΔ a).1 (a6 hΔ b).1;⟨m,.tru m⟩
 | .slc a lo hi=>have m:Mono _:=(fun ρ S P P' i h=>(a6 hΔ a).1 _ _ _ _ (fun x S1 h=>(f9 hΔ lo).1 _ _ _ _ (fun l S2 h=>(f9 hΔ hi).1 _ _ _ _ (fun k S3 h=>CU i h) h) h) h:Mono (OC _ _ _));⟨m,.tru m⟩
 | .call f es=>have m:Mono _ := .n (hΔ f) (AW hΔ es);⟨m,.tru m⟩
 | .bi b es=>have m:Mono _ := .n (s:=sBi b) .bi (AW hΔ es);⟨m,.tru m⟩
 | .mt m' a es=>have m:Mono _:=Mono.mt (m:=m') (a6 hΔ a).1 (AW hΔ es);⟨m,.tru m⟩
 | .comp own cn js g it t e=>have m:Mono _:=Mono.comp (k:=own.length) (js:=js) (g:=g) (AX hΔ it) (f9 hΔ t).2 (a6 hΔ e).1;⟨m,.tru m⟩
 | .comp2 own cn js g it t g2 it2 t2 e=>have m:Mono _:=Mono.comp2 (k:=own.length) (js:=js) (g:=g) (g2:=g2) (AX hΔ it) (f9 hΔ t).2 (AX hΔ it2) (f9 hΔ t2).2 (a6 hΔ e).1;⟨m,.tru m⟩
 | .tyc t=>⟨.c,.tru .c⟩
 | .lrng1 a=>have m:=CV (a6 hΔ a).1;⟨m,.tru m⟩
 | .srtks a d=>have m:=CW (a6 hΔ a).1 (a6 hΔ d).1;⟨m,.tru m⟩
 | .lend a=>have m:=DH (a6 hΔ a).1;⟨m,.tru m⟩
 | .lenset a=>have m:=Br (a6 hΔ a).1;⟨m,.tru m⟩
 | .dnew=>⟨Bg,.tru Bg⟩
 | .din n a b=>have m:Mono _ := .two (s:=Hr n) AT (a6 hΔ a).1 (a6 hΔ b).1;⟨m,.bl m⟩
 | .no=>⟨fun _ _ _ _ _ h=>h,fun _ _ _ _ _ h=>h⟩
theorem AW{Δ:Nat->Sn}(hΔ:∀ f,MonoN (Δ f)):∀(es:Exs),MonoA (Di Δ es)
 | .nil => .nil
 | .cons e es => .cons (a6 hΔ e).1 (AW hΔ es)
theorem f9{Δ:Nat->Sn}(hΔ:∀ f,MonoN (Δ f)):∀(o:Eo),MonoO (wEo Δ o).1/\MonoT (wEo Δ o).2
 | .no=>⟨.no,fun _ _ _ _ i q=>i _ _ q⟩
 | .yes e=>⟨.yes (a6 hΔ e).1,(a6 hΔ e).2⟩
theorem AX{Δ:Nat->Sn}(hΔ:∀ f,MonoN (Δ f)):∀(it:Itb),MonoI (FX Δ it)
 | .seq e=>fun ρ S P P' i h=>(a6 hΔ e).1 _ _ _ _ (fun x S1 ⟨xs,e,q⟩=>⟨xs,e,i _ _ _ q⟩) h
 | .rng1 a=>fun ρ S P P' i h=>(a6 hΔ a).1 _ _ _ _ (fun x S1 ⟨j,e,z,q⟩=>⟨j,e,z,i _ _ _ q⟩) h
 | .rng2 a b=>fun ρ S P P' i h=>(a6 hΔ a).1 _ _ _ _ (fun x S1 h=>(a6 hΔ b).1 _ _ _ _ (fun y S2 ⟨l,j,e,e2,z,q⟩=>⟨l,j,e,e2,z,i _ _ _ q⟩) h) h
 | .rv e=>fun ρ S P P' i h=>(a6 hΔ e).1 _ _ _ _ (fun x S1 ⟨k,xs,e,z,q⟩=>⟨k,xs,e,z,i _ _ _ q⟩) h
 | .enum e=>fun ρ S P P' i h=>(a6 hΔ e).1 _ _ _ _ (fun x S1 ⟨xs,e,q⟩=>⟨xs,e,i _ _ _ q⟩) h
end
mutual
theorem MA{Δ:Nat->Sn}(hΔ:∀ f,MonoN (Δ f)):∀(s:Stm),MonoS (wSt Δ s)
 | .asg t e=>by exact Ei (a6 hΔ e).1
 | .par i j a b=>by exact fun D D' ρ S l h=>(a6 hΔ a).1 _ _ _ _ (fun x S1 q=>(a6 hΔ b).1 _ _ _ _ (fun y S2 q=>l.nx _ _ q) q) h
 | .put o i e=>by exact fun D D' ρ S l h=>(a6 hΔ e).1 _ _ _ _ (fun v S1 q=>(a6 hΔ o).1 _ _ _ _ (fun x S2 q=>(a6 hΔ i).1 _ _ _ _ (fun y S3 q=>Cc (fun S4 q=>l.nx _ _ q) q) q) q) h
 | .dput o i e=>by exact fun D D' ρ S l h=>(a6 hΔ e).1 _ _ _ _ (fun v S1 q=>(a6 hΔ o).1 _ _ _ _ (fun x S2 q=>(a6 hΔ i).1 _ _ _ _ (fun y S3 q=>DL (fun S4 q=>l.nx _ _ q) q) q) q) h
 | .expr e=>by exact fun D D' ρ S l h=>(a6 hΔ e).1 _ _ _ _ (fun x S1 q=>l.nx _ _ q) h
 | .iff t a b=>by exact Ek (a6 hΔ t).2 (g6 hΔ a) (g6 hΔ b)
 | .loop g it b=>by exact fun D D' ρ S l h=>AX hΔ it _ _ _ _ (fun keep xs S1 q=>B5 (g6 hΔ b) xs l _ _ q) h
 | .whl t b=>by exact Ej (a6 hΔ t).2 (g6 hΔ b)
 | .ret e=>by exact fun D D' ρ S l h=>(a6 hΔ e).1 _ _ _ _ l.rt h
 | .no=>by exact fun D D' ρ S l h=>h
theorem g6{Δ:Nat->Sn}(hΔ:∀ f,MonoN (Δ f)):∀(s:List Stm),MonoS (wSs Δ s)
 | []=>by exact fun D D' ρ S l h=>l.nx _ _ h
 | s::ss=>by exact fun D D' ρ S l h=>(MA hΔ s).go (D:={D with nx:=wSs Δ ss D}) h ⟨fun ρ' S' q=>(g6 hΔ ss) _ _ _ _ l q,l.rt,l.bk,l.ct⟩
end
theorem MB{P:List V4->Prop}{n:Nat}(h:∀ a us,us.length=n->P (a::us)):∀ us:List V4,us.length=n+1->P us
 | a::us,e=>h a us (Nat.succ.inj e)
theorem IM{P:List V4->Prop}(h:∀ a,P [a]):∀ us:List V4,us.length=1->P us:=MB fun a us e=>List.length_eq_zero_iff.mp e▸h a
theorem Fq{P:List V4->Prop}(h:∀ a b,P [a,b]):∀ us:List V4,us.length=2->P us:=MB fun a=>IM (P:=fun us=>P (a::us)) (h a)
theorem El{P:List V4->Prop}(h:∀ a b c,P [a,b,c]):∀ us:List V4,us.length=3->P us:=MB fun a=>Fq (P:=fun us=>P (a::us)) (h a)
theorem Qz{P:List V4->Prop}(h:∀ a b c d,P [a,b,c,d]):∀ us:List V4,us.length=4->P us:=MB fun a=>El (P:=fun us=>P (a::us)) (h a)
structure Df where
 name:Str
 st:Stmt
 ps:List Str
 N:List Str
 body:List Stm
noncomputable def AJ(Q:QE):EndsS:=⟨fun _ S'=>Q .non S',Q,fun _ _=>False,fun _ _=>False⟩
noncomputable def KG(n:Nat)(xs:List SV):EnvS:=xs.map some++Rc (n - xs.length) none
noncomputable def i8(Δ:Nat->Sn)(D:Df):Sn:=fun xs S Q=>xs.length=D.ps.length/\wSs Δ D.body (AJ Q) (KG D.N.length xs) S
noncomputable def W(prog:List Df):Nat->Nat->Sn
 | 0,_=>fun _ _ _=>False
 | d+1,f=>match prog[f]? with
   | some D=>i8 (W prog d) D
   | none=>fun _ _ _=>False
theorem KH{Δ:Nat->Sn}(hΔ:∀ f,MonoN (Δ f))(D:Df):MonoN (i8 Δ D):=fun xs S P P' i h=>⟨h.1,(g6 hΔ D.body).go h.2 ⟨fun _ _ q=>i _ _ q,i,fun _ _ q=>q,fun _ _ q=>q⟩⟩
theorem Cd{prog:List Df}:∀(d f:Nat),MonoN (W prog d f)
 | 0,f=>fun _ _ _ _ _ h=>h
 | d+1,f=>by
   unfold W;split
   ·exact KH (Cd d) _
   ·exact fun _ _ _ _ _ h=>h
noncomputable def fnB(N ps:List Str)(sc:VI):Bool:=decide (sc.kind = .function)&&!sc.isCoroutine&&!sc.isGenerator&&decide N.Nodup&&decide (N.take ps.length=ps)&&ps.all (loc sc)&&sc.names.all (fun y=>!decide (y.2 = .free))
theorem Od{N ps:List Str}{sc:VI}(h:fnB N ps sc=true):FnScope N ps sc:=by
 unfold fnB at h;simp only[RA,dQ,RZ,RX,decide_eq_false_iff_not]at h;obtain⟨⟨⟨⟨⟨⟨h1,h2⟩,h3⟩,h4⟩,h5⟩,h6⟩,h7⟩:=h;refine⟨h1,h2,h3,h4,h5,fun x hx=>?_,h7⟩;have:=h6 x hx;unfold loc at this;simpa using this
noncomputable def MC(T:List Str)(D:Df):Bool:=fnB D.N D.ps (defScope D.st)&&BO T D.N (defScope D.st) D.body (defBody D.st)
structure Bl(mg:Str->Option V4):Prop where
 bl:∀ b:BI,mg b.name=none
 rng:mg "range"=none
 enm:mg "enumerate"=none
 rvs:mg "reversed"=none
 zip:mg "zip"=none
 st0:mg "set"=none
 dc0:mg "dict"=none
 ty:∀ t:TyN,t ≠ .none->mg (Str.ofString t.nm)=none
section
variable{P:VC}{w:VG}{K:R8}{mg:Str->Option V4}{base:Heap}
theorem IN{as:List V7}{H:Hp}{N:List Str}{vs:List V}{xs:List SV}(r:RlAll K as H vs xs):EnvOk K as H (L2.start N vs) (KG N.length xs):=by
 unfold L2.start KG;rw[<-r.length];refine⟨by simp[r.length],fun i x e=>?_⟩;by_cases hi:i<vs.length
 ·rw[RQ (by rw[RC,<-r.length];exact hi),RI]at e;rw[RQ (by simpa using hi),RI];cases hx:xs[i]? with
  | none=>rw[hx]at e;cases e
  | some y=>
    rw[hx]at e;have:y=x:=by simpa using e
    subst this;obtain⟨v,hv,rv⟩:=r.get hx;exact⟨v,by rw[hv];rfl,rv⟩
 ·rw[Rb (by rw[RC,<-r.length];omega),SY]at e;split at e<;>cases e
theorem KI{T:List Str}{Δ:Nat->Sn}{D:Df}{f:V7}{fd:Va}{k:Nat}(F:Fun K D.name D.name D.st f fd)(hc:MC T D=true)(B:Bl mg)(hcall:∀ f x,T[f]?=some x->∃ ps,Cal P w K mg base k x ps (spS K (Δ f)))(hΔ:∀ f,MonoN (Δ f)):FnOk P w K mg base CX0 (k+1) f fd D.ps (spS K (i8 Δ D)):=by
 unfold MC at hc;rw[RA]at hc;have S:=Od hc.1;refine F.ok S (fun vs H Q E h=>?_) (fun cdv A outer s H vs Q E hr h=>?_)
 ·obtain⟨as,S,xs,ok,r,hl,_⟩:=h;rw[r.length];exact hl
 ·have C:Cok T Δ (FD CX0 P w K mg base D.N D.name (defScope D.st) f cdv A outer s H E).nox D.N.length D.N (defScope D.st):={
   hN:=rfl,hs:=rfl,nd:=S.nd,calm:=rfl,fn:=fun _ _ _ _ _=>rfl
   un:=by have:=hr.un;show(A.deeper _).units+102<cLine;omega
   bl:=B.bl,rng:=B.rng,enm:=B.enm,rvs:=B.rvs,zip:=B.zip,st0:=B.st0,dc0:=B.dc0,ty:=B.ty,gd:=hr.gd
   call:=fun g x hx=>let ⟨ps,c⟩:=hcall g x hx;⟨k,ps,c,hr⟩
   mono:=hΔ}
  refine⟨_,(AV C PassesOwn.never S.kind D.body _ hc.2).ps,?_⟩;obtain⟨as,S,xs,ok,r,hl,h⟩:=h;refine⟨as,_,S,ok,IN r,(g6 hΔ D.body).go h ⟨fun ρ' S' q as' H' σ' g ok' en'=>q as' H' _ g ok' (rl_non.mpr rfl),fun x S' q=>q,fun _ _ q=>q.elim,fun _ _ q=>q.elim⟩⟩
structure PIn(K:R8)(mg:Str->Option V4)(D:Df):Prop where
 ex:∃ f fd,Fun K D.name D.name D.st f fd/\mg D.name=some (.ref f)/\PySem.W.keepIn K (.ref f)=true/\Binds K fd D.ps []
theorem Gg{prog:List Df}(hc:prog.all (MC (prog.map (·.name)))=true)(B:Bl mg)(hin:∀ D∈prog,PIn K mg D):∀(d f:Nat) (D:Df),prog[f]?=some D->Cal P w K mg base d D.name D.ps (spS K (W prog d f))
 | 0,f,D,hf=>by
   obtain⟨fa,fd,F,hm,hk,hb⟩:=(hin D (RD hf)).ex;refine⟨fa,fd,⟨fun vs H Q E h=>?_,fun A outer s H args us vs Q E hr he hbn hv h=>?_⟩,hm,hk,hb⟩
   ·obtain⟨_,_,_,_,_,z⟩:=h;exact z.elim
   ·obtain⟨_,_,_,_,_,z⟩:=h;exact z.elim
 | d+1,f,D,hf=>by
   obtain⟨fa,fd,F,hm,hk,hb⟩:=(hin D (RD hf)).ex;have h1:=RX.mp hc D (RD hf)
   have:=KI (Δ:=W prog d) (P:=P) (w:=w) (base:=base) (k:=d) F h1 B (fun g x hx=>by
    rw[RI]at hx;cases hg:prog[g]? with
    | none=>rw[hg]at hx;cases hx
    | some D'=>
      rw[hg]at hx;have:D'.name=x:=by simpa using hx
      subst this;exact⟨D'.ps,Gg hc B hin d g D' hg⟩) (Cd d)
   have e:W prog (d+1) f=i8 (W prog d) D:=by rw[W,hf]
   rw[e];exact⟨fa,fd,this,hm,hk,hb⟩
theorem Oe{prog:List Df}{d f:Nat}{H:Hp}{a:V7}{ns:List Int}(main:W prog d f [.ro (ns.map SV.int)] [] fun x _=>x = .bl true)(hO:LB H)(hS:SqL K H a (ns.map V.int)):spS K (W prog d f) [.ref a] H (fun v _=>v = .bl true) fun _ _ _=>False:=by
 have hz:FzL K H a (ns.map V.int):=by
  rcases hS with(h | ⟨o,h⟩) | h
  ·rcases hO a with z | ⟨o,xs,z⟩<;>rw[h]at z<;>cases z
  ·exact .inl ⟨o,h⟩
  ·exact .inr h
 refine⟨[],[],_,⟨rfl,Td,fun k o a e=>by simp at e⟩,.cons (rl_ro.mpr ⟨a,_,rfl,hz,RlAll.ints⟩) .nil,Cd d f _ _ _ _ (fun x S' e as' H' v g ok r=>?_) main⟩;subst e;exact rl_bl.mp r
end
theorem a5{k:Nat}{S:Sto}{xs:List SV}(h:S[k]?=some (.lst xs)):seqS (.loc k) S=some xs:=by simp only[seqS,h]
theorem Bk{k:Nat}{S:Sto}{xs:List SV}(h:S[k]?=some (.lst xs)):tyS (.loc k) S=some .list:=by simp only[tyS,h]
theorem ifT{b:Bool}{A B:Prop}(h:b=true)(a:A):if b=true then A else B:=by rw[iP h];exact a
theorem ifF{b:Bool}{A B:Prop}(h:b=false)(a:B):if b=true then A else B:=by rw[iG (by rw[h];decide)];exact a
theorem ifD{c A B:Prop}[Decidable c](h1:c->A)(h2:¬ c->B):if decide c=true then A else B:=by
 by_cases h:c
 ·rw[iP (decide_eq_true h)];exact h1 h
 ·rw[iG (by simpa using h)];exact h2 h
theorem ifB{b:Bool}{A B:Prop}(h1:b=true->A)(h2:b=false->B):if b=true then A else B:=by
 cases b with
 | true=>rw[iP rfl];exact h1 rfl
 | false=>rw[iG (by decide)];exact h2 rfl
theorem Dp{S:Sto}{k:Nat}{o u:SO}(h:S[k]?=some o):(S.set k u)[k]?=some u:=Ri ((gM h).1)
theorem Em{S:Sto}{k j:Nat}{u:SO}(h:k≠j):(S.set k u)[j]?=S[j]?:=RU h
theorem a8{S:Sto}{o:SO}:(S++[o])[S.length]?=some o:=Rp
theorem c7{S:Sto}{o u:SO}{k:Nat}(h:S[k]?=some u):(S++[o])[k]?=some u:=by
 rw[RQ ((gM h).1)];exact h
theorem Bt{S:Sto}{o:SO}{k:Nat}(h:S[k]?=some o):k<S.length:=(gM h).1
structure TapeS(S:Sto)(t:Nat):Prop where
 ex:∃ a b:Int,S[t]?=some (.lst [.int a,.int b])/\0<=a/\0<=b/\b<2147483647
structure On(t:Nat)(S S':Sto):Prop where
 len:S.length<=S'.length
 keep:∀ k o,k≠t->S[k]?=some o->S'[k]?=some o
theorem On.refl(t:Nat)(S:Sto):On t S S:=⟨RE _,fun _ _ _ h=>h⟩
theorem On.trans{t:Nat}{S S' S'':Sto}(a:On t S S')(b:On t S' S''):On t S S'':=⟨Rn a.len b.len,fun k o n h=>b.keep k o n (a.keep k o n h)⟩
theorem On.push{t:Nat}{S S':Sto}{o:SO}(a:On t S S'):On t S (S'++[o]):=⟨by rw[R9];have:=a.len;omega,fun k u n h=>c7 (a.keep k u n h)⟩
theorem On.tape{t:Nat}{S S':Sto}{o:SO}(a:On t S S'):On t S (S'.set t o):=⟨by rw[RP];exact a.len,fun k u n h=>by rw[Em (Ne.symm n)];exact a.keep k u n h⟩
theorem On.new{t k:Nat}{S S':Sto}{o:SO}(a:On t S S')(h:S.length<=k):On t S (S'.set k o):=⟨by rw[RP];exact a.len,fun j u n hj=>by
 rw[Em (fun z=>by have:=Bt hj;omega)];exact a.keep j u n hj⟩
theorem TapeS.push{S:Sto}{t:Nat}{o:SO}(h:TapeS S t):TapeS (S++[o]) t:=let ⟨a,b,e,z⟩:=h.ex;⟨a,b,c7 e,z⟩
theorem TapeS.other{S:Sto}{t k:Nat}{o:SO}(h:TapeS S t)(n:k≠t):TapeS (S.set k o) t:=let ⟨a,b,e,z⟩:=h.ex;⟨a,b,by rw[Em n];exact e,z⟩
theorem TapeS.lt{S:Sto}{t:Nat}(h:TapeS S t):t<S.length:=let ⟨_,_,e,_⟩:=h.ex;Bt e
theorem y9{keep:Sto->Prop}{g:Tg}{b:WS}{D:EndsS}(mb:MonoS b)(I:Nat->EnvS->Sto->Prop){xs:List SV}{ρ:EnvS}{S:Sto}(h0:I 0 ρ S)(hk:∀ i ρ S,I i ρ S->keep S)
 (hs:∀ i x ρ S,xs[i]?=some x->I i ρ S->wTg g x ρ fun ρ2=>b {D with nx:=I (i+1),ct:=I (i+1),bk:=D.nx} ρ2 S) (hd:∀ ρ S,I xs.length ρ S->D.nx ρ S):t6 keep g b D xs ρ S:=by
 have go:∀(ys:List SV) (i:Nat) (ρ:EnvS) (S:Sto),xs.drop i=ys->i<=xs.length->I i ρ S->t6 keep g b D ys ρ S:=by
  intro ys
  induction ys with
  | nil=>
    intro i ρ S e hi h
    have:i=xs.length:=by
     have:=congrArg Tq e;rw[Rr,SH]at this;omega
    subst this;unfold t6;exact⟨hk _ _ _ h,hd _ _ h⟩
  | cons y ys ih=>
    intro i ρ S e hi h
    have hy:xs[i]?=some y:=by
     rw[<-Tt,e];rfl
    have hlt:=(gM hy).1;have e2:xs.drop (i+1)=ys:=by rw[<-Tv,e];rfl
    unfold t6;refine⟨hk _ _ _ h,i5 g (fun ρ2 q=>?_) (hs i y ρ S hy h)⟩;exact mb.go (D:={D with nx:=I (i+1),ct:=I (i+1),bk:=D.nx}) q ⟨fun ρ' S' z=>ih (i+1) ρ' S' e2 hlt z,fun _ _ z=>z,fun _ _ z=>z,fun ρ' S' z=>ih (i+1) ρ' S' e2 hlt z⟩
 exact go xs 0 ρ S rfl (Rz _) h0
theorem BQ{keep:Sto->Prop}{g:Tg}{b:WS}{D:EndsS}(mb:MonoS b)(I:Nat->EnvS->Sto->Prop){xs:List SV}{ρ:EnvS}{S:Sto}(h0:I 0 ρ S)(hk:∀ i ρ S,I i ρ S->keep S)
 (hs:∀ i x ρ S (E:EndsS),(∀ ρ S,I (i+1) ρ S->E.nx ρ S)->(∀ y S,D.rt y S->E.rt y S)->xs[i]?=some x->I i ρ S->wTg g x ρ fun ρ2=>b E ρ2 S) (hd:∀ ρ S,I xs.length ρ S->D.nx ρ S):t6 keep g b D xs ρ S:=
 y9 mb I h0 hk (fun i x ρ S hx hI=>hs i x ρ S {D with nx:=I (i+1),ct:=I (i+1),bk:=D.nx} (fun _ _ h=>h) (fun _ _ h=>h) hx hI) hd
theorem m7{keep:Sto->Prop}{g:Tg}{t:WT}{e:WE}{ρ:EnvS}{Q:List SV->Sto->Prop}(mt:MonoT t)(me:Mono e)(I:Nat->List SV->Sto->Prop){xs:List SV}{S:Sto}(h0:I 0 [] S)(hk:∀ i ys S,I i ys S->keep S)
 (hs:∀ i x ys S,xs[i]?=some x->I i ys S->wTg g x ρ fun ρ2=>t ρ2 S fun b S1=>if b=true then e ρ2 S1 fun y S2=>ys.length<big/\I (i+1) (ys++[y]) S2 else I (i+1) ys S1) (hd:∀ ys S,I xs.length ys S->Q ys S):l9 keep g t e ρ Q xs [] S:=by
 have go:∀(zs:List SV) (i:Nat) (ys:List SV) (S:Sto),xs.drop i=zs->i<=xs.length->I i ys S->l9 keep g t e ρ Q zs ys S:=by
  intro zs
  induction zs with
  | nil=>
    intro i ys S e' hi h
    have:i=xs.length:=by
     have:=congrArg Tq e';rw[Rr,SH]at this;omega
    subst this;unfold l9;exact⟨hk _ _ _ h,hd _ _ h⟩
  | cons y zs ih=>
    intro i ys S e' hi h;have hy:xs[i]?=some y:=by rw[<-Tt,e'];rfl
    have hlt:=(gM hy).1;have e2:xs.drop (i+1)=zs:=by rw[<-Tv,e'];rfl
    unfold l9;refine⟨hk _ _ _ h,i5 g (fun ρ2 q=>mt _ _ _ _ (fun b S1 q=>f8 (fun q=>me _ _ _ _ (fun v S2 q=>⟨q.1,ih (i+1) _ S2 e2 hlt q.2⟩) q) (fun q=>ih (i+1) _ S1 e2 hlt q) q) q) (hs i y ys S hy h)⟩
 exact go xs 0 [] S rfl (Rz _) h0
theorem p4{lo hi:Int}{i:Nat}{x:SV}(h:(Am lo hi)[i]?=some x):x = .int (lo+i)/\lo+i<hi:=by
 unfold Am at h
 have hi':i<(hi - lo).toNat:=by
  have:=(gM h).1;simpa using this
 rw[RI,Sw hi']at h;exact⟨(oj h).symm,by omega⟩
theorem t8{lo hi:Int}:(Am lo hi).length=(hi - lo).toNat:=by unfold Am;simp
noncomputable def pairS(e:Nat×Nat):SV := .tup [.int e.1,.int e.2]
noncomputable def Mz:List Stm:=[(.asg (.nm 2) (.c (.int 0))),(.iff (.cmp .Lt (.var 1) (.bi .len (.cons (.var 0) .nil))) [(.asg (.nm 2) (.ix (.var 0) (.var 1)))] []),(.asg (.nm 3) (.op .Mult (.bi .abs (.cons (.var 2) .nil)) (.bi .int (.cons (.cmp .GtE (.bi .abs (.cons (.var 2) .nil)) (.op .Pow (.c (.int 10)) (.c (.int 18)))) .nil)))),(.ret (.lst (.cons (.var 3) (.cons (.op .Mod (.op .Mult (.op .Mod (.op .Add (.op .Add (.var 2) (.op .Mult (.c (.int 7919)) (.var 1))) (.c (.int 1))) (.c (.int 2147483647))) (.c (.int 48271))) (.c (.int 2147483647))) .nil))))]
noncomputable def N0:List Stm:=[(.iff (.cmp .Gt (.ix (.var 0) (.c (.int 0))) (.c (.int 0))) [(.asg (.nm 2) (.op .Mod (.ix (.var 0) (.c (.int 0))) (.var 1))),(.put (.var 0) (.c (.int 0)) (.op .FloorDiv (.ix (.var 0) (.c (.int 0))) (.var 1))),(.ret (.var 2))] []),(.put (.var 0) (.c (.int 1)) (.op .Mod (.op .Add (.op .Mult (.ix (.var 0) (.c (.int 1))) (.c (.int 48271))) (.c (.int 12345))) (.c (.int 2147483647)))),(.asg (.nm 3) (.op .Mod (.op .Mult (.ix (.var 0) (.c (.int 1))) (.op .Add (.op .Mod (.ix (.var 0) (.c (.int 1))) (.c (.int 1009))) (.c (.int 3)))) (.c (.int 2147483629)))),(.ret (.op .Mod (.op .Mod (.op .Mult (.var 3) (.op .Add (.op .Mod (.var 3) (.c (.int 997))) (.c (.int 5)))) (.c (.int 998244353))) (.var 1)))]
noncomputable def l5(s:Sn):Prop:=∀{t:Nat} {m:Int} {S:Sto} {Q:QE},TapeS S t->0<m->m<1073741824->(∀(r:Int) (S':Sto),0<=r->r<m->TapeS S' t->On t S S'->S'.length=S.length->Q (.int r) S')->s [.loc t,.int m] S Q
noncomputable def KJ(s:Sn):Prop:=∀{ns:List Int} {k:Nat} {S:Sto} {Q:QE},ns.length<=63->k<=1000->(∀ a b:Int,0<=a->0<=b->b<2147483647->Q (.loc S.length) (S++[.lst [.int a,.int b]]))->s [.ro (ns.map SV.int),.int k] S Q
theorem b01(b:Bool):-(2 ^ 64)<(if b=true then (1:Int) else 0)/\(if b=true then (1:Int) else 0)<2 ^ 64:=by cases b<;>decide
theorem b00(b:Bool):0<=(if b=true then (1:Int) else 0):=by cases b<;>decide
theorem MD{Δ:Nat->Sn}{D:Df}(hb:D.body=N0)(hN:D.N.length=4)(hp:D.ps.length=2):l5 (i8 Δ D):=by
 intro t m S Q T h0 h1 q;obtain⟨a,b,hS,ha,hb0,hb1⟩:=T.ex;unfold i8;rw[hb,hN];refine⟨hp.symm,?_⟩;have go:∀ r a' b':Int,0<=r->r<m->0<=a'->0<=b'->b'<2147483647->Q (.int r) (S.set t (.lst [.int a',.int b'])):=fun r a' b' r0 r1 a0 b0 b1=>q r _ r0 r1 ⟨a',b',Dp hS,a0,b0,b1⟩ (On.refl t S).tape (by rw[RP]);refine⟨_,rfl,_,_,a5 hS,rfl,_,rfl,ifD (fun h=>?_) (fun h=>?_)⟩
 ·refine⟨_,rfl,_,_,a5 hS,rfl,_,rfl,h0,?_⟩;refine⟨_,rfl,_,_,a5 hS,rfl,_,rfl,⟨h0,h1⟩,_,rfl,_,_,hS,rfl,_,rfl,?_⟩;exact go _ _ _ (TF _ (by omega)) (Sl _ h0) (Int.ediv_nonneg ha (by omega)) hb0 hb1
 ·refine⟨_,rfl,_,_,a5 hS,rfl,.inr (by decide),show(0:Int)<2147483647 by decide,_,rfl,_,_,hS,rfl,?_⟩;have e0:0<=(b * 48271+12345) % 2147483647:=TF _ (by decide);have e1:(b * 48271+12345) % 2147483647<2147483647:=Sl _ (by decide);have hS1:(S.set t (.lst [.int a,.int ((b * 48271+12345) % 2147483647)]))[t]?=some (.lst [.int a,.int ((b * 48271+12345) % 2147483647)]):=Dp hS;refine⟨_,rfl,_,_,a5 hS1,rfl,_,rfl,_,_,a5 hS1,rfl,show(0:Int)<1009 by decide,.inl ⟨by omega,by omega⟩,show(0:Int)<2147483629 by decide,?_⟩;have f0:0<=((b * 48271+12345) % 2147483647 * ((b * 48271+12345) % 2147483647 % 1009+3)) % 2147483629:=TF _ (by decide);have f1:((b * 48271+12345) % 2147483647 * ((b * 48271+12345) % 2147483647 % 1009+3)) % 2147483629<2147483629:=Sl _ (by decide);refine⟨_,rfl,_,rfl,show(0:Int)<997 by decide,.inl ⟨by omega,by omega⟩,show(0:Int)<998244353 by decide,_,rfl,h0,?_⟩;exact go _ _ _ (TF _ (by omega)) (Sl _ h0) ha e0 e1
theorem ME{Δ:Nat->Sn}{D:Df}(hb:D.body=Mz)(hN:D.N.length=4)(hp:D.ps.length=2):KJ (i8 Δ D):=by
 intro ns k S Q hl hk q;unfold i8;rw[hb,hN];refine⟨hp.symm,?_⟩
 have fin:∀ c:Int,wSs Δ [(.asg (.nm 3) (.op .Mult (.bi .abs (.cons (.var 2) .nil)) (.bi .int (.cons (.cmp .GtE (.bi .abs (.cons (.var 2) .nil)) (.op .Pow (.c (.int 10)) (.c (.int 18)))) .nil)))),(.ret (.lst (.cons (.var 3) (.cons (.op .Mod (.op .Mult (.op .Mod (.op .Add (.op .Add (.var 2) (.op .Mult (.c (.int 7919)) (.var 1))) (.c (.int 1))) (.c (.int 2147483647))) (.c (.int 48271))) (.c (.int 2147483647))) .nil))))] (AJ Q) [some (.ro (ns.map SV.int)),some (.int k),some (.int c),none] S:=fun c=>by
  refine⟨_,rfl,_,rfl,⟨by decide,by decide,by decide⟩,.inr (b01 _),?_⟩;refine⟨_,rfl,_,rfl,_,rfl,.inl ⟨by decide,by decide⟩,show(0:Int)<2147483647 by decide,.inr ⟨by decide,by decide⟩,show(0:Int)<2147483647 by decide,by show 2<=big;decide,?_⟩;refine q _ _ (Int.mul_nonneg (by split<;>omega) (b00 _)) (TF _ (by decide)) (Sl _ (by decide))
 refine⟨_,rfl,_,rfl,_,rfl,_,rfl,ifD (fun h=>?_) (fun h=>fin 0)⟩
 have hk':k<ns.length:=by
  have:((ns.map SV.int).length:Int)=ns.length:=by rw[RC]
  omega
 refine⟨_,rfl,_,rfl,_,_,rfl,f7 (v := .int ns[k]) (by rw[RI,RB hk'];rfl),?_⟩;exact fin _
noncomputable def q1(kd:Nat):Stm:=(.asg (.nm 2) (.call kd (.cons (.var 0) (.cons (.c (.int 8)) .nil))))
noncomputable def q2(kd:Nat):Stm:=(.asg (.nm 3) (.ix (.lst (.cons (.call kd (.cons (.var 0) (.cons (.c (.int 7)) .nil))) (.cons (.op .Add (.c (.int 7)) (.call kd (.cons (.var 0) (.cons (.c (.int 6)) .nil)))) .nil))) (.bi .int (.cons (.var 1) .nil))))
noncomputable def q3(kd:Nat):Stm:=(.asg (.nm 4) (.lst .nil))
noncomputable def q4(kd:Nat):Stm:=(.iff (.and (.cmp .Lt (.var 2) (.c (.int 3))) (.cmp .Gt (.var 3) (.c (.int 1)))) [(.loop (.nm 5) (.rng1 (.call kd (.cons (.var 0) (.cons (.op .Add (.op .Mult (.c (.int 2)) (.var 3)) (.c (.int 1))) .nil)))) [(.asg (.nm 6) (.call kd (.cons (.var 0) (.cons (.var 3) .nil)))),(.expr (.mt .append (.var 4) (.cons (.tup (.cons (.var 6) (.cons (.op .Mod (.op .Add (.op .Add (.var 6) (.c (.int 1))) (.call kd (.cons (.var 0) (.cons (.op .Sub (.var 3) (.c (.int 1))) .nil)))) (.var 3)) .nil))) .nil)))])] [])
noncomputable def q5(kd:Nat):Stm:=(.iff (.and (.cmp .Eq (.var 2) (.c (.int 3))) (.cmp .Gt (.var 3) (.c (.int 2)))) [(.asg (.nm 4) (.op .Add (.comp ["_law_k"] ["_law_many"] [3] (.nm 0) (.rng1 (.var 3)) .no (.tup (.cons (.var 0) (.cons (.op .Mod (.op .Add (.var 0) (.c (.int 1))) (.var 1)) .nil)))) (.lst (.cons (.tup (.cons (.c (.int 0)) (.cons (.op .Add (.call kd (.cons (.var 0) (.cons (.op .Sub (.var 3) (.c (.int 1))) .nil))) (.c (.int 1))) .nil))) .nil))))] [])
noncomputable def q6(kd:Nat):Stm:=(.iff (.and (.cmp .Eq (.var 2) (.c (.int 4))) (.cmp .Gt (.var 3) (.c (.int 1)))) [(.asg (.nm 4) (.comp ["_law_k"] [] [] (.nm 0) (.rng2 (.c (.int 1)) (.var 3)) .no (.tup (.cons (.c (.int 0)) (.cons (.var 0) .nil)))))] [])
noncomputable def q7(kd:Nat):Stm:=(.iff (.cmp .Eq (.var 2) (.c (.int 5))) [(.asg (.nm 3) (.bi .min (.cons (.var 3) (.cons (.op .Add (.c (.int 5)) (.bi .int (.cons (.var 1) .nil))) .nil)))),(.loop (.nm 7) (.rng1 (.var 3)) [(.expr (.mt .extend (.var 4) (.cons (.comp ["_law_j"] ["_law_k"] [7] (.nm 0) (.rng1 (.var 7)) .no (.tup (.cons (.var 0) (.cons (.var 1) .nil)))) .nil)))])] [])
noncomputable def q8(kd:Nat):Stm:=(.iff (.cmp .Eq (.var 2) (.c (.int 6))) [(.asg (.nm 8) (.op .Add (.c (.int 1)) (.op .FloorDiv (.var 3) (.c (.int 2))))),(.loop (.nm 7) (.rng1 (.var 8)) [(.expr (.mt .extend (.var 4) (.cons (.comp ["_law_j"] ["_law_tape_here","_law_k"] [0,7] (.nm 0) (.rng2 (.var 8) (.var 3)) (.yes (.cmp .Gt (.call kd (.cons (.var 1) (.cons (.c (.int 3)) .nil))) (.c (.int 0)))) (.tup (.cons (.var 2) (.cons (.var 0) .nil)))) .nil)))])] [])
noncomputable def q9(kd:Nat):Stm:=(.iff (.cmp .Eq (.var 2) (.c (.int 7))) [(.asg (.nm 3) (.op .Add (.c (.int 3)) (.op .FloorDiv (.var 3) (.c (.int 3))))),(.loop (.nm 7) (.rng1 (.c (.int 3))) [(.expr (.mt .extend (.var 4) (.cons (.op .Mult (.lst (.cons (.tup (.cons (.var 7) (.cons (.op .Mod (.op .Add (.var 7) (.c (.int 1))) (.c (.int 3))) .nil))) .nil)) (.op .Add (.c (.int 1)) (.call kd (.cons (.var 0) (.cons (.c (.int 3)) .nil))))) .nil)))])] [])
noncomputable def q10(kd:Nat):Stm:=(.ret (.tup (.cons (.var 3) (.cons (.var 4) .nil))))
noncomputable def q7l(kd:Nat):Stm:=(.loop (.nm 7) (.rng1 (.var 3)) [(.expr (.mt .extend (.var 4) (.cons (.comp ["_law_j"] ["_law_k"] [7] (.nm 0) (.rng1 (.var 7)) .no (.tup (.cons (.var 0) (.cons (.var 1) .nil)))) .nil)))])
noncomputable def q8l(kd:Nat):Stm:=(.loop (.nm 7) (.rng1 (.var 8)) [(.expr (.mt .extend (.var 4) (.cons (.comp ["_law_j"] ["_law_tape_here","_law_k"] [0,7] (.nm 0) (.rng2 (.var 8) (.var 3)) (.yes (.cmp .Gt (.call kd (.cons (.var 1) (.cons (.c (.int 3)) .nil))) (.c (.int 0)))) (.tup (.cons (.var 2) (.cons (.var 0) .nil)))) .nil)))])
noncomputable def q9l(kd:Nat):Stm:=(.loop (.nm 7) (.rng1 (.c (.int 3))) [(.expr (.mt .extend (.var 4) (.cons (.op .Mult (.lst (.cons (.tup (.cons (.var 7) (.cons (.op .Mod (.op .Add (.var 7) (.c (.int 1))) (.c (.int 3))) .nil))) .nil)) (.op .Add (.c (.int 1)) (.call kd (.cons (.var 0) (.cons (.c (.int 3)) .nil))))) .nil)))])
noncomputable def KK(kd:Nat):List Stm:=[q1 kd,q2 kd,q3 kd,q4 kd,q5 kd,q6 kd,q7 kd,q8 kd,q9 kd,q10 kd]
structure Prs(n:Nat)(es:EE):Prop where
 en:∀ e∈es,e.1<n/\e.2<n/\e.1≠e.2
 len:es.length<=36
 few:n<=12
noncomputable def Dq(s:Sn):Prop:=∀{t:Nat} {g:Bool} {S:Sto} {Q:QE},TapeS S t->(∀(n:Nat) (es:EE) (l:Nat) (S':Sto),Prs n es->S'[l]?=some (.lst (es.map pairS))->S.length<=l->TapeS S' t->On t S S'->Q (.tup [.int n,.loc l]) S')->s [.loc t,.bl g] S Q
structure Ah(t:Nat)(S0 S:Sto)(l:Nat)(es:EE):Prop where
 tape:TapeS S t
 on:On t S0 S
 at':S[l]?=some (.lst (es.map pairS))
 new:S0.length<=l
 t0:t<S0.length
theorem Ah.ne{t l:Nat}{S0 S:Sto}{es:EE}(h:Ah t S0 S l es):l≠t:=by have:=h.new;have:=h.t0;omega
theorem Ah.draw{t l:Nat}{S0 S S':Sto}{es:EE}(h:Ah t S0 S l es)(T:TapeS S' t)(O:On t S S'):Ah t S0 S' l es:=⟨T,h.on.trans O,O.keep _ _ h.ne h.at',h.new,h.t0⟩
theorem Ah.push{t l:Nat}{S0 S:Sto}{es:EE}{o:SO}(h:Ah t S0 S l es):Ah t S0 (S++[o]) l es:=⟨h.tape.push,h.on.push,c7 h.at',h.new,h.t0⟩
theorem Ah.put{t l:Nat}{S0 S:Sto}{es fs:EE}(h:Ah t S0 S l es):Ah t S0 (S.set l (.lst (fs.map pairS))) l fs:=⟨h.tape.other h.ne,h.on.new h.new,Dp h.at',h.new,h.t0⟩
theorem En(es:EE)(e:Nat×Nat):es.map pairS++[.tup [.int e.1,.int e.2]]=(es++[e]).map pairS:=by rw[Rm];rfl
section
variable{Δ:Nat->Sn}{kd:Nat}
theorem R0(hΔ:∀ f,MonoN (Δ f))(hd:l5 (Δ kd)){t l n:Nat}{way:Int}{S0 S:Sto}{D:EndsS}{g:SV}{o5 o6 o7 o8:Option SV}(A:Ah t S0 S l [])(hn:n<=12)
 (q:∀(es:EE) (S':Sto) (o5 o6:Option SV),Prs n es->Ah t S0 S' l es->D.nx [some (.loc t),some g,some (.int way),some (.int n),some (.loc l),o5,o6,o7,o8] S'):
 wSt Δ (q4 kd) D [some (.loc t),some g,some (.int way),some (.int n),some (.loc l),o5,o6,o7,o8] S:=by
 have stay:=q [] S o5 o6 ⟨(fun _ h=>nomatch h),by simp,hn⟩ A;refine⟨_,rfl,_,rfl,ifD (fun h1=>?_) (fun h1=>ifF rfl stay)⟩;refine⟨_,rfl,_,rfl,ifD (fun h2=>?_) (fun h2=>stay)⟩;have h2:1<n:=by omega
 refine⟨_,rfl,_,rfl,.inl ⟨by decide,by decide⟩,hd A.tape (by omega) (by omega) fun r S1 r0 r1 T1 O1 _=>⟨r,rfl,⟨by omega,by omega⟩,?_⟩⟩;have A1:=A.draw T1 O1
 refine y9 (g6 hΔ _) (fun i ρ S2=>∃(es:EE) (o5 o6:Option SV),ρ=[some (.loc t),some g,some (.int way),some (.int n),some (.loc l),o5,o6,o7,o8]/\Ah t S0 S2 l es/\(∀ e∈es,e.1<n/\e.2<n/\e.1≠e.2)/\es.length=i)
  ⟨[],o5,o6,rfl,A1,(fun _ h=>nomatch h),rfl⟩ (fun _ _ _ _=>trivial) ?_ ?_
 ·rintro i x ρ S2 hx ⟨es,p5,p6,rfl,A2,he,hl⟩;obtain⟨rfl,hi⟩:=p4 hx;refine⟨_,rfl,_,rfl,hd A2.tape (by omega) (by omega) fun a S3 a0 a1 T3 O3 _=>?_⟩;have A3:=A2.draw T3 O3;refine⟨_,rfl,⟨l,_,rfl,A3.at'⟩,?_⟩;refine⟨_,rfl,_,rfl,_,rfl,_,rfl,hd A3.tape (by omega) (by omega) fun b S4 b0 b1 T4 O4 _=>?_⟩;have A4:=A3.draw T4 O4;refine⟨_,rfl,show(0:Int)<n by omega,by show 2<=big;decide,⟨_,A4.at',by rw[RC];show es.length<100000;omega,?_⟩⟩;have e1:((a.toNat:Nat):Int)=a:=Sg a0;have m0:0<=(a+1+b) % n:=TF _ (by omega);have m1:(a+1+b) % n<n:=Sl _ (by omega);have e2:(((a+1+b) % n).toNat:Int)=(a+1+b) % n:=Sg m0
  have hne:a≠(a+1+b) % n:=by
   by_cases hb:a+1+b<n
   ·rw[UY (by omega) hb];omega
   ·rw[<-Int.sub_emod_right,UY (by omega) (by omega)];omega
  have ea:=En es (a.toNat,((a+1+b) % n).toNat);simp only[e1,e2]at ea;refine⟨es++[(a.toNat,((a+1+b) % n).toNat)],_,_,rfl,?_,fun e h=>?_,by rw[R9,hl];rfl⟩
  ·have:=A4.put (fs:=es++[(a.toNat,((a+1+b) % n).toNat)]);rw[<-ea]at this;exact this
  ·rcases RO.mp h with h | h
   ·exact he e h
   ·rw[RG.mp h];exact⟨by show a.toNat<n;omega,by show((a+1+b) % n).toNat<n;omega,by show a.toNat≠((a+1+b) % n).toNat;omega⟩
 ·rintro ρ S2 ⟨es,p5,p6,rfl,A2,he,hl⟩;rw[t8]at hl;exact q es S2 p5 p6 ⟨he,by omega,hn⟩ A2
noncomputable abbrev PQ(t:Nat)(g:SV)(way:Int)(S0:Sto)(D:EndsS):Prop:=∀(n:Nat) (es:EE) (l:Nat) (S':Sto) (o5 o6 o7 o8:Option SV),Prs n es->Ah t S0 S' l es->D.nx [some (.loc t),some g,some (.int way),some (.int n),some (.loc l),o5,o6,o7,o8] S'
theorem Ds{n:Nat}(h:n<=12):Prs n []:=⟨(fun _ h=>nomatch h),by simp,h⟩
theorem R1(hΔ:∀ f,MonoN (Δ f))(hd:l5 (Δ kd)){t l n:Nat}{S0 S:Sto}{D:EndsS}{g:SV}{o5 o6 o7 o8:Option SV}(A:Ah t S0 S l [])(hn:n<=12)(q:PQ t g 3 S0 D):
 wSt Δ (q5 kd) D [some (.loc t),some g,some (.int 3),some (.int n),some (.loc l),o5,o6,o7,o8] S:=by
 have stay:=q n [] l S o5 o6 o7 o8 (Ds hn) A;refine⟨_,rfl,_,rfl,ifT rfl ?_⟩;refine⟨_,rfl,_,rfl,ifD (fun h2=>?_) (fun h2=>stay)⟩;have h2:2<n:=by omega
 refine⟨_,rfl,n,rfl,⟨by omega,by omega⟩,?_⟩;refine m7 (f9 hΔ _).2 (a6 hΔ _).1 (fun i ys S2=>S2=S/\ys=((RL i).map fun j=>(j,(j+1) % n)).map pairS) ⟨rfl,rfl⟩ (fun _ _ _ _=>trivial) ?_ ?_
 ·rintro i x ys S2 hx ⟨rfl,rfl⟩;obtain⟨rfl,hi⟩:=p4 hx;refine⟨_,rfl,_,rfl,_,rfl,show(0:Int)<n by omega,by show 2<=big;decide,by simp;show i<100000;omega,rfl,?_⟩;rw[TY,Rm,Rm];simp[pairS]
 ·rintro ys S2 ⟨rfl,rfl⟩;rw[t8];refine⟨_,rfl,_,rfl,hd (A.push (o := .lst (((RL ((n:Int) - 0).toNat).map fun j=>(j,(j+1) % n)).map pairS))).tape (by omega) (by omega) fun r S3 r0 r1 T3 O3 L3=>?_⟩;have A3:=(A.push (o := .lst (((RL ((n:Int) - 0).toNat).map fun j=>(j,(j+1) % n)).map pairS))).draw T3 O3;refine⟨by show 2<=big;decide,by show 1<=big;decide,?_⟩;have hS:=A.t0;have hon:=A.on.len;have at1:S3[S2.length]?=some (.lst (((RL ((n:Int) - 0).toNat).map fun j=>(j,(j+1) % n)).map pairS)):=O3.keep _ _ (by omega) a8;refine⟨_,_,c7 at1,a8,by simp;show _<=100000;omega,?_⟩;have en:((n:Int) - 0).toNat=n:=by omega
  rw[en];have e1:((r.toNat:Nat):Int)=r:=Sg r0;have ea:=En ((RL n).map fun j=>(j,(j+1) % n)) (0,r.toNat+1);have e2:((r.toNat+1:Nat):Int)=r+1:=by omega
  simp only[e2]at ea;refine q n ((RL n).map (fun j=>(j,(j+1) % n))++[(0,r.toNat+1)]) _ _ _ _ _ _ ⟨fun e h=>?_,by simp;omega,hn⟩ ⟨A3.tape.push.push,A3.on.push.push,?_,?_,A.t0⟩
  ·rcases RO.mp h with h | h
   ·obtain⟨j,hj,rfl⟩:=SC.mp h;have hj:=Rq.mp hj;refine⟨hj,Nat.mod_lt _ (by omega),?_⟩;by_cases hz:j+1<n
    ·show j≠(j+1) % n;rw[Nat.mod_eq_of_lt hz];omega
    ·have:j+1=n:=by omega
     show j≠(j+1) % n;rw[this,Nat.mod_self];omega
   ·rw[RG.mp h];exact⟨by show 0<n;omega,by show r.toNat+1<n;omega,by show 0≠r.toNat+1;omega⟩
  ·rw[<-ea];exact a8
  ·rw[R9];have:=A3.on.len;omega
theorem R3(hΔ:∀ f,MonoN (Δ f)){t l n:Nat}{S0 S:Sto}{D:EndsS}{g:SV}{o5 o6 o7 o8:Option SV}(A:Ah t S0 S l [])(hn:n<=12)(q:PQ t g 4 S0 D):
 wSt Δ (q6 kd) D [some (.loc t),some g,some (.int 4),some (.int n),some (.loc l),o5,o6,o7,o8] S:=by
 have stay:=q n [] l S o5 o6 o7 o8 (Ds hn) A;refine⟨_,rfl,_,rfl,ifT rfl ?_⟩;refine⟨_,rfl,_,rfl,ifD (fun h2=>?_) (fun h2=>stay)⟩;have h2:1<n:=by omega
 refine⟨_,rfl,1,n,rfl,rfl,⟨by decide,by decide,by omega,by omega⟩,?_⟩;refine m7 (f9 hΔ _).2 (a6 hΔ _).1 (fun i ys S2=>S2=S/\ys=((RL i).map fun j=>(0,j+1)).map pairS) ⟨rfl,rfl⟩ (fun _ _ _ _=>trivial) ?_ ?_
 ·rintro i x ys S2 hx ⟨rfl,rfl⟩;obtain⟨rfl,hi⟩:=p4 hx;refine⟨_,rfl,by show 2<=big;decide,by simp;show i<100000;omega,rfl,?_⟩;rw[TY,Rm,Rm];simp[pairS,Int.add_comm]
 ·rintro ys S2 ⟨rfl,rfl⟩;rw[t8];refine q n _ _ _ _ _ _ _ ⟨fun e h=>?_,by simp;omega,hn⟩ ⟨A.tape.push,A.on.push,a8,A.on.len,A.t0⟩;obtain⟨j,hj,rfl⟩:=SC.mp h;have hj:=Rq.mp hj;exact⟨by show 0<n;omega,by show j+1<n;omega,by show 0≠j+1;omega⟩
theorem Ah.ext{t l j:Nat}{S0 S:Sto}{es fs:EE}(h:Ah t S0 S l es)(hj:S[j]?=some (.lst (fs.map pairS))):Ah t S0 (S.set l (.lst (es.map pairS++fs.map pairS))) l (es++fs):=by
 rw[<-Rm];exact h.put
theorem R4(hΔ:∀ f,MonoN (Δ f)){t l n:Nat}{b:Bool}{S0 S:Sto}{D:EndsS}{o5 o6 o7 o8:Option SV}(A:Ah t S0 S l [])(hn:n<=12)(q:PQ t (.bl b) 5 S0 D):
 wSt Δ (q7 kd) D [some (.loc t),some (.bl b),some (.int 5),some (.int n),some (.loc l),o5,o6,o7,o8] S:=by
 refine⟨_,rfl,_,rfl,ifT rfl ?_⟩
 obtain⟨m,em,hm⟩:∃ m:Nat,(if (5+(if b=true then (1:Int) else 0))<n then (5+(if b=true then (1:Int) else 0)) else (n:Int))=m/\m<=6:=by
  cases b
  ·by_cases h:(5:Int)<n
   ·exact⟨5,by simp[h],by omega⟩
   ·exact⟨n,by simp[h],by omega⟩
  ·by_cases h:(6:Int)<n
   ·exact⟨6,by simp[h],by omega⟩
   ·exact⟨n,by simp[h],by omega⟩
 suffices key:∀ z:Int,z=m->wSs Δ [q7l kd] D [some (.loc t),some (.bl b),some (.int 5),some (.int z),some (.loc l),o5,o6,o7,o8] S from ⟨_,rfl,_,rfl,key _ em⟩
 rintro _ rfl;refine⟨_,rfl,m,rfl,⟨by omega,by omega⟩,?_⟩
 refine y9 (g6 hΔ _) (fun i ρ S2=>∃(es:EE) (o7:Option SV),ρ=[some (.loc t),some (.bl b),some (.int 5),some (.int m),some (.loc l),o5,o6,o7,o8]/\Ah t S0 S2 l es/\(∀ e∈es,e.1<e.2/\e.2<i)/\es.length<=i * 6)
  ⟨[],o7,rfl,A,(fun _ h=>nomatch h),by simp⟩ (fun _ _ _ _=>trivial) ?_ ?_
 ·rintro i x ρ S2 hx ⟨es,p7,rfl,A2,he,hl⟩;obtain⟨rfl,hi⟩:=p4 hx;refine⟨_,rfl,⟨l,_,rfl,A2.at'⟩,_,rfl,0+(i:Int),rfl,⟨by omega,by omega⟩,?_⟩;refine m7 (f9 hΔ _).2 (a6 hΔ _).1 (fun j ys S3=>S3=S2/\ys=((RL j).map fun j=>(j,i)).map pairS) ⟨rfl,rfl⟩ (fun _ _ _ _=>trivial) ?_ ?_
  ·rintro j x ys S3 hx ⟨rfl,rfl⟩;obtain⟨rfl,hj⟩:=p4 hx;refine⟨_,rfl,_,rfl,by show 2<=big;decide,by simp;show j<100000;omega,rfl,?_⟩;rw[TY,Rm,Rm];simp[pairS]
  ·rintro ys S3 ⟨rfl,rfl⟩;rw[t8];have en:(0+(i:Int) - 0).toNat=i:=by omega
   rw[en];have A3:=A2.push (o := .lst (((RL i).map fun j=>(j,i)).map pairS));refine⟨_,_,A3.at',a8,by simp;show _<=100000;omega,?_⟩;refine⟨es++(RL i).map (fun j=>(j,i)),_,rfl,A3.ext (j:=S3.length) a8,fun e h=>?_,by simp;omega⟩;rcases RO.mp h with h | h
   ·have:=he e h;omega
   ·obtain⟨j,hj,rfl⟩:=SC.mp h;have hj:=Rq.mp hj;exact⟨hj,by show i<i+1;omega⟩
 ·rintro ρ S2 ⟨es,p7,rfl,A2,he,hl⟩;rw[t8]at he hl;refine q m es l S2 _ _ _ _ ⟨fun e h=>?_,by omega,by omega⟩ A2;have:=he e h;omega
theorem R5(hΔ:∀ f,MonoN (Δ f))(hd:l5 (Δ kd)){t l n:Nat}{S0 S:Sto}{D:EndsS}{g:SV}{o5 o6 o7 o8:Option SV}(A:Ah t S0 S l [])(hn:n<=12)(q:PQ t g 6 S0 D):
 wSt Δ (q8 kd) D [some (.loc t),some g,some (.int 6),some (.int n),some (.loc l),o5,o6,o7,o8] S:=by
 refine⟨_,rfl,_,rfl,ifT rfl ?_⟩;obtain⟨s,es',hs⟩:∃ s:Nat,1+(n:Int) / 2=s/\s=1+n / 2:=⟨1+n / 2,by omega,rfl⟩
 suffices key:∀ z:Int,z=s->wSs Δ [q8l kd] D [some (.loc t),some g,some (.int 6),some (.int n),some (.loc l),o5,o6,o7,some (.int z)] S from ⟨_,rfl,⟨by decide,by decide⟩,key _ es'⟩
 rintro _ rfl;refine⟨_,rfl,s,rfl,⟨by omega,by omega⟩,?_⟩
 refine y9 (g6 hΔ _) (fun i ρ S2=>∃(es:EE) (o7:Option SV),ρ=[some (.loc t),some g,some (.int 6),some (.int n),some (.loc l),o5,o6,o7,some (.int s)]/\Ah t S0 S2 l es/\(∀ e∈es,e.1<i/\s<=e.2/\e.2<n)/\es.length<=i * (n - s))
  ⟨[],o7,rfl,A,(fun _ h=>nomatch h),by simp⟩ (fun _ _ _ _=>trivial) ?_ ?_
 ·rintro i x ρ S2 hx ⟨es,p7,rfl,A2,he,hl⟩;obtain⟨rfl,hi⟩:=p4 hx;refine⟨_,rfl,⟨l,_,rfl,A2.at'⟩,_,rfl,_,rfl,s,n,rfl,rfl,⟨by omega,by omega,by omega,by omega⟩,?_⟩;refine m7 (f9 hΔ _).2 (a6 hΔ _).1 (fun j ys S3=>Ah t S0 S3 l es/\∃ fs:EE,ys=fs.map pairS/\(∀ e∈fs,e.1=i/\s<=e.2/\e.2<n)/\fs.length<=j) ⟨A2,[],rfl,(fun _ h=>nomatch h),RE _⟩ (fun _ _ _ _=>trivial) ?_ ?_
  ·rintro j x ys S3 hx ⟨A3,fs,rfl,hf,fl⟩;obtain⟨rfl,hj⟩:=p4 hx;refine⟨_,rfl,hd A3.tape (by decide) (by decide) fun r S4 r0 r1 T4 O4 _=>⟨_,rfl,?_⟩⟩;have A4:=A3.draw T4 O4;refine ifD (fun _=>?_) (fun _=>⟨A4,fs,rfl,hf,by omega⟩);refine⟨_,rfl,_,rfl,by show 2<=big;decide,by rw[RC];show _<100000;omega,A4,fs++[(i,s+j)],?_,fun e h=>?_,by simp;omega⟩
   ·rw[Rm];simp[pairS]
   ·rcases RO.mp h with h | h
    ·exact hf e h
    ·rw[RG.mp h];exact⟨rfl,by show s<=s+j;omega,by show s+j<n;omega⟩
  ·rintro ys S3 ⟨A3,fs,rfl,hf,fl⟩;rw[t8]at fl;have A4:=A3.push (o := .lst (fs.map pairS));have hx6:i * (n - s)<=6 * 12:=Um (by omega) (by omega);refine⟨_,_,A4.at',a8,by simp;show _<=100000;omega,?_⟩;refine⟨es++fs,_,rfl,A4.ext (j:=S3.length) a8,fun e h=>?_,?_⟩
   ·rcases RO.mp h with h | h
    ·have:=he e h;exact⟨by omega,this.2⟩
    ·have:=hf e h;exact⟨by omega,this.2⟩
   ·rw[R9,UU];omega
 ·rintro ρ S2 ⟨es,p7,rfl,A2,he,hl⟩;rw[t8]at he hl;have e0:((s:Int) - 0).toNat=s:=by omega
  rw[e0]at he hl;have h35:s * (n - s)<=7 * 5:=Um (by omega) (by omega);refine q n es l S2 _ _ _ _ ⟨fun e h=>?_,by omega,hn⟩ A2;have:=he e h;omega
theorem R6(hΔ:∀ f,MonoN (Δ f))(hd:l5 (Δ kd)){t l n:Nat}{S0 S:Sto}{D:EndsS}{g:SV}{o5 o6 o7 o8:Option SV}(A:Ah t S0 S l [])(hn:n<=12)(q:PQ t g 7 S0 D):
 wSt Δ (q9 kd) D [some (.loc t),some g,some (.int 7),some (.int n),some (.loc l),o5,o6,o7,o8] S:=by
 refine⟨_,rfl,_,rfl,ifT rfl ?_⟩;obtain⟨m,em,hm⟩:∃ m:Nat,3+(n:Int) / 3=m/\m=3+n / 3:=⟨3+n / 3,by omega,rfl⟩
 suffices key:∀ z:Int,z=m->wSs Δ [q9l kd] D [some (.loc t),some g,some (.int 7),some (.int z),some (.loc l),o5,o6,o7,o8] S from ⟨_,rfl,⟨by decide,by decide⟩,key _ em⟩
 rintro _ rfl;refine⟨3,rfl,⟨by decide,by decide⟩,?_⟩
 refine y9 (g6 hΔ _) (fun i ρ S2=>∃(es:EE) (o7:Option SV),ρ=[some (.loc t),some g,some (.int 7),some (.int m),some (.loc l),o5,o6,o7,o8]/\Ah t S0 S2 l es/\(∀ e∈es,e.1<3/\e.2<3/\e.1≠e.2)/\es.length<=i * 3)
  ⟨[],o7,rfl,A,(fun _ h=>nomatch h),by simp⟩ (fun _ _ _ _=>trivial) ?_ ?_
 ·rintro i x ρ S2 hx ⟨es,p7,rfl,A2,he,hl⟩;obtain⟨rfl,hi⟩:=p4 hx;refine⟨_,rfl,⟨l,_,rfl,A2.at'⟩,_,rfl,_,rfl,show(0:Int)<3 by decide,by show 2<=big;decide,by show 1<=big;decide,?_⟩;have A3:=A2.push (o := .lst [.tup [.int (0+(i:Int)),.int ((0+(i:Int)+1) % 3)]]);refine⟨_,rfl,hd A3.tape (by decide) (by decide) fun r S4 r0 r1 T4 O4 L4=>?_⟩;have A4:=A3.draw T4 O4;have ht:=A2.t0;have hlen:=A2.on.len;have at1:S4[S2.length]?=some (.lst [.tup [.int (0+(i:Int)),.int ((0+(i:Int)+1) % 3)]]):=O4.keep _ _ (by omega) a8;refine⟨_,at1,⟨by omega,by omega⟩,by simp;show _<=100000;omega,?_⟩
  have e1:(Rc (1+r).toNat [SV.tup [.int (0+(i:Int)),.int ((0+(i:Int)+1) % 3)]]).flatten=(Rc (1+r).toNat (i,(i+1) % 3)).map pairS:=by
   induction (1+r).toNat with
   | zero=>rfl
   | succ k ih=>rw[SD,Rj,ih,SD];simp[pairS]
  rw[e1];have A5:=A4.push (o := .lst ((Rc (1+r).toNat (i,(i+1) % 3)).map pairS));refine⟨_,_,A5.at',a8,by simp;show _<=100000;omega,?_⟩;refine⟨es++Rc (1+r).toNat (i,(i+1) % 3),_,rfl,A5.ext (j:=S4.length) a8,fun e h=>?_,by simp;omega⟩;rcases RO.mp h with h | h
  ·exact he e h
  ·rw[List.eq_of_mem_replicate h];exact⟨by show i<3;omega,by show(i+1) % 3<3;omega,by show i≠(i+1) % 3;omega⟩
 ·rintro ρ S2 ⟨es,p7,rfl,A2,he,hl⟩;rw[t8]at hl;refine q m es l S2 _ _ _ _ ⟨fun e h=>?_,by omega,by omega⟩ A2;have:=he e h;omega
theorem QJ{t l:Nat}{way n:Int}{S:Sto}{D:EndsS}{g:SV}{o5 o6 o7 o8:Option SV}(h:¬ way<3)(q:D.nx [some (.loc t),some g,some (.int way),some (.int n),some (.loc l),o5,o6,o7,o8] S):wSt Δ (q4 kd) D [some (.loc t),some g,some (.int way),some (.int n),some (.loc l),o5,o6,o7,o8] S:=⟨_,rfl,_,rfl,ifD (fun z=>absurd z h) (fun _=>ifF rfl q)⟩
theorem Ep{t l:Nat}{way n:Int}{S:Sto}{D:EndsS}{g:SV}{o5 o6 o7 o8:Option SV}(h:¬ way=3)(q:D.nx [some (.loc t),some g,some (.int way),some (.int n),some (.loc l),o5,o6,o7,o8] S):wSt Δ (q5 kd) D [some (.loc t),some g,some (.int way),some (.int n),some (.loc l),o5,o6,o7,o8] S:=⟨_,rfl,_,rfl,ifD (fun z=>absurd z h) (fun _=>ifF rfl q)⟩
theorem Er{t l:Nat}{way n:Int}{S:Sto}{D:EndsS}{g:SV}{o5 o6 o7 o8:Option SV}(h:¬ way=4)(q:D.nx [some (.loc t),some g,some (.int way),some (.int n),some (.loc l),o5,o6,o7,o8] S):wSt Δ (q6 kd) D [some (.loc t),some g,some (.int way),some (.int n),some (.loc l),o5,o6,o7,o8] S:=⟨_,rfl,_,rfl,ifD (fun z=>absurd z h) (fun _=>ifF rfl q)⟩
theorem Es{t l:Nat}{way n:Int}{S:Sto}{D:EndsS}{g:SV}{o5 o6 o7 o8:Option SV}(h:¬ way=5)(q:D.nx [some (.loc t),some g,some (.int way),some (.int n),some (.loc l),o5,o6,o7,o8] S):wSt Δ (q7 kd) D [some (.loc t),some g,some (.int way),some (.int n),some (.loc l),o5,o6,o7,o8] S:=⟨_,rfl,_,rfl,ifD (fun z=>absurd z h) (fun _=>q)⟩
theorem Et{t l:Nat}{way n:Int}{S:Sto}{D:EndsS}{g:SV}{o5 o6 o7 o8:Option SV}(h:¬ way=6)(q:D.nx [some (.loc t),some g,some (.int way),some (.int n),some (.loc l),o5,o6,o7,o8] S):wSt Δ (q8 kd) D [some (.loc t),some g,some (.int way),some (.int n),some (.loc l),o5,o6,o7,o8] S:=⟨_,rfl,_,rfl,ifD (fun z=>absurd z h) (fun _=>q)⟩
theorem Eu{t l:Nat}{way n:Int}{S:Sto}{D:EndsS}{g:SV}{o5 o6 o7 o8:Option SV}(h:¬ way=7)(q:D.nx [some (.loc t),some g,some (.int way),some (.int n),some (.loc l),o5,o6,o7,o8] S):wSt Δ (q9 kd) D [some (.loc t),some g,some (.int way),some (.int n),some (.loc l),o5,o6,o7,o8] S:=⟨_,rfl,_,rfl,ifD (fun z=>absurd z h) (fun _=>q)⟩
theorem MF(hΔ:∀ f,MonoN (Δ f))(hd:l5 (Δ kd)){t l n:Nat}{b:Bool}{w:Int}{S0 S:Sto}{Q:QE}(w0:0<=w)(w1:w<8)(A:Ah t S0 S l [])(hn:n<=12)
 (q:∀(n:Nat) (es:EE) (l:Nat) (S':Sto),Prs n es->Ah t S0 S' l es->Q (.tup [.int n,.loc l]) S'):
 wSs Δ [q4 kd,q5 kd,q6 kd,q7 kd,q8 kd,q9 kd,q10 kd] (AJ Q) [some (.loc t),some (.bl b),some (.int w),some (.int n),some (.loc l),none,none,none,none] S:=by
 have fin:∀(n:Nat) (es:EE) (l:Nat) (S':Sto) (o5 o6 o7 o8:Option SV),Prs n es->Ah t S0 S' l es->wSs Δ [q10 kd] (AJ Q) [some (.loc t),some (.bl b),some (.int w),some (.int n),some (.loc l),o5,o6,o7,o8] S':=fun n es l S' o5 o6 o7 o8 P A'=>⟨_,rfl,_,rfl,by show 2<=big;decide,q n es l S' P A'⟩
 have nil:=Ds hn;by_cases h:w<3
 ·exact R0 hΔ hd A hn fun es S' o5 o6 P A'=>Ep (by omega) (Er (kd:=kd) (by omega) (Es (kd:=kd) (by omega) (Et (by omega) (Eu (by omega) (fin n es l S' _ _ _ _ P A')))))
 refine QJ h ?_;have:w=3\/w=4\/w=5\/w=6\/w=7:=by omega
 rcases this with rfl | rfl | rfl | rfl | rfl
 ·exact R1 hΔ hd A hn fun n es l S' o5 o6 o7 o8 P A'=>Er (kd:=kd) (by omega) (Es (kd:=kd) (by omega) (Et (by omega) (Eu (by omega) (fin n es l S' _ _ _ _ P A'))))
 ·exact Ep (by omega) (R3 (kd:=kd) hΔ A hn fun n es l S' o5 o6 o7 o8 P A'=>Es (kd:=kd) (by omega) (Et (by omega) (Eu (by omega) (fin n es l S' _ _ _ _ P A'))))
 ·exact Ep (by omega) (Er (kd:=kd) (by omega) (R4 (kd:=kd) hΔ A hn fun n es l S' o5 o6 o7 o8 P A'=>Et (by omega) (Eu (by omega) (fin n es l S' _ _ _ _ P A'))))
 ·exact Ep (by omega) (Er (kd:=kd) (by omega) (Es (kd:=kd) (by omega) (R5 hΔ hd A hn fun n es l S' o5 o6 o7 o8 P A'=>Eu (by omega) (fin n es l S' _ _ _ _ P A'))))
 ·exact Ep (by omega) (Er (kd:=kd) (by omega) (Es (kd:=kd) (by omega) (Et (by omega) (R6 hΔ hd A hn fun n es l S' o5 o6 o7 o8 P A'=>fin n es l S' _ _ _ _ P A'))))
theorem KL(hΔ:∀ f,MonoN (Δ f))(hd:l5 (Δ kd)){D:Df}(hb:D.body=KK kd)(hN:D.N.length=9)(hp:D.ps.length=2):Dq (i8 Δ D):=by
 intro t g S Q T q;unfold i8;rw[hb,hN];refine⟨hp.symm,?_⟩;have t0:=T.lt;refine⟨_,rfl,hd T (by decide) (by decide) fun w S1 w0 w1 T1 O1 _=>?_⟩;refine⟨_,rfl,hd T1 (by decide) (by decide) fun r1 S2 a0 a1 T2 O2 _=>⟨_,rfl,hd T2 (by decide) (by decide) fun r2 S3 b0 b1 T3 O3 _=>⟨by show 2<=big;decide,_,rfl,_,(if g=true then .int (7+r2) else .int r1),a5 a8,?_⟩⟩⟩;have O:=((O1.trans O2).trans O3).push (o := .lst [.int r1,.int (7+r2)])
 have key:∀(z:Int) (n:Nat),z=n->n<=12->wSs Δ [q3 kd,q4 kd,q5 kd,q6 kd,q7 kd,q8 kd,q9 kd,q10 kd] (AJ Q) [some (.loc t),some (.bl g),some (.int w),some (.int z),none,none,none,none,none] (S3++[SO.lst [.int r1,.int (7+r2)]]):=by
  rintro _ n rfl hn;refine⟨by show 0<=big;decide,?_⟩;have A:Ah t S ((S3++[SO.lst [.int r1,.int (7+r2)]])++[SO.lst []]) (S3++[SO.lst [.int r1,.int (7+r2)]]).length []:=⟨T3.push.push,O.push,a8,O.len,t0⟩
  have r:=MF (b:=g) hΔ hd w0 w1 A hn (Q:=Q) fun n es l S' P A=>q n es l S' P A.at' A.new A.tape A.on;exact r
 cases g with
 | false=>exact⟨rfl,key r1 r1.toNat (by omega) (by omega)⟩
 | true=>exact⟨rfl,key (7+r2) (7+r2).toNat (by omega) (by omega)⟩
end
noncomputable def u1(kd kp:Nat):Stm:=(.asg (.tup (.cons (.nm 2) (.cons (.nm 3) .nil))) (.call kp (.cons (.var 0) (.cons (.var 1) .nil))))
noncomputable def u2(kd kp:Nat):Stm:=(.iff (.cmp .Eq (.var 3) (.lst .nil)) [(.asg (.tup (.cons (.nm 2) (.cons (.nm 3) .nil))) (.call kp (.cons (.var 0) (.cons (.var 1) .nil))))] [])
noncomputable def u3(kd kp:Nat):Stm:=(.iff (.and (.cmp .NotEq (.var 3) (.lst .nil)) (.cmp .Eq (.call kd (.cons (.var 0) (.cons (.c (.int 4)) .nil))) (.c (.int 0)))) [(.asg (.nm 3) (.op .Add (.var 3) (.comp ["_law_turn"] ["_law_pairs","_law_tape_here"] [3,0] (.nm 0) (.rng1 (.op .Add (.c (.int 1)) (.call kd (.cons (.var 0) (.cons (.c (.int 3)) .nil))))) .no (.ix (.var 1) (.call kd (.cons (.var 2) (.cons (.bi .len (.cons (.var 1) .nil)) .nil)))))))] [])
noncomputable def u4(kd kp:Nat):Stm:=(.asg (.nm 4) (.lst .nil))
noncomputable def u5(kd kp:Nat):Stm:=(.loop (.tup (.cons (.nm 5) (.cons (.nm 6) .nil))) (.seq (.var 3)) [(.expr (.mt .insert (.var 4) (.cons (.call kd (.cons (.var 0) (.cons (.op .Add (.bi .len (.cons (.var 4) .nil)) (.c (.int 1))) .nil))) (.cons (.tup (.cons (.bi .min (.cons (.var 5) (.cons (.var 6) .nil))) (.cons (.bi .max (.cons (.var 5) (.cons (.var 6) .nil))) .nil))) .nil))))])
noncomputable def u6(kd kp:Nat):Stm:=(.ret (.tup (.cons (.var 2) (.cons (.bi .tuple (.cons (.var 4) .nil)) .nil))))
noncomputable def QK(kd kp:Nat):List Stm:=[u1 kd kp,u2 kd kp,u3 kd kp,u4 kd kp,u5 kd kp,u6 kd kp]
noncomputable def g0(n:Nat)(es:EE):SV := .tup [.int n,.tup (es.map pairS)]
structure Web(n:Nat)(es:EE):Prop where
 en:∀ e∈es,e.1<e.2/\e.2<n
 len:es.length<=39
 few:n<=12
noncomputable def N1(s:Sn):Prop:=∀{t:Nat} {g:Bool} {S:Sto} {Q:QE},TapeS S t->(∀(n:Nat) (es:EE) (S':Sto),Web n es->TapeS S' t->On t S S'->Q (g0 n es) S')->s [.loc t,.bl g] S Q
theorem BR{xs:List SV}:Cu xs []=xs.isEmpty:=by cases xs<;>rfl
section
variable{Δ:Nat->Sn}{kd kp:Nat}
theorem Ce(hΔ:∀ f,MonoN (Δ f))(hd:l5 (Δ kd)){t n l:Nat}{g:SV}{S0 S:Sto}{es:EE}{Q:QE}{o4 o5 o6:Option SV}(he:∀ e∈es,e.1<n/\e.2<n/\e.1≠e.2)(hl:es.length<=39)(hn:n<=12)(A:Ah t S0 S l es)
 (q:∀(es:EE) (S':Sto),Web n es->TapeS S' t->On t S0 S'->Q (g0 n es) S'):wSs Δ [u4 kd kp,u5 kd kp,u6 kd kp] (AJ Q) [some (.loc t),some g,some (.int n),some (.loc l),o4,o5,o6] S:=by
 refine⟨by show 0<=big;decide,?_⟩;have hlt:=Bt A.at';have htl:=A.tape.lt;refine⟨_,rfl,_,a5 A.push.at',?_⟩
 refine y9 (g6 hΔ _) (fun i ρ S2=>∃(fs:EE) (o5 o6:Option SV),ρ=[some (.loc t),some g,some (.int n),some (.loc l),some (.loc S.length),o5,o6]/\Ah t S0 S2 S.length fs/\S2[l]?=some (.lst (es.map pairS))/\(∀ e∈fs,e.1<e.2/\e.2<n)/\fs.length=i)
  ⟨[],o5,o6,rfl,⟨A.tape.push,A.on.push,a8,A.on.len,A.t0⟩,A.push.at',(fun _ h=>nomatch h),rfl⟩ (fun i ρ S2 h=>?_) ?_ ?_
 ·obtain⟨fs,_,_,_,_,h2,_⟩:=h;exact h2.trans A.push.at'.symm
 ·rintro i x ρ S2 hx ⟨fs,p5,p6,rfl,A2,h2,hf,fl⟩;rw[RI]at hx;cases hei:es[i]? with
  | none=>rw[hei]at hx;cases hx
  | some e=>
    rw[hei]at hx;have hx:pairS e=x:=oj hx;subst hx;have hil:=(gM hei).1;have hee:=he e (RD hei);refine⟨_,rfl,⟨_,_,rfl,A2.at'⟩,_,rfl,_,rfl,_,a5 A2.at',hd A2.tape (by omega) (by rw[RC];omega) fun r S3 r0 r1 T3 O3 _=>?_⟩;have A3:=A2.draw T3 O3;rw[RC]at r1;refine⟨_,rfl,_,rfl,_,rfl,_,rfl,by show 2<=big;decide,?_⟩;refine⟨_,A3.at',⟨r0,by rw[RC];omega⟩,by rw[RC];show _<100000;omega,?_⟩
    have key:∀(a b:Nat) (z1 z2:Int),z1=a->z2=b->a<b->b<n->∃(fs':EE) (o5 o6:Option SV),([some (.loc t),some g,some (.int n),some (.loc l),some (.loc S.length),some (.int e.1),some (.int e.2)]:EnvS)=[some (.loc t),some g,some (.int n),some (.loc l),some (.loc S.length),o5,o6]/\Ah t S0 (S3.set S.length (.lst ((fs.map pairS).take r.toNat ++ .tup [.int z1,.int z2]::(fs.map pairS).drop r.toNat))) S.length fs'/\(S3.set S.length (.lst ((fs.map pairS).take r.toNat ++ .tup [.int z1,.int z2]::(fs.map pairS).drop r.toNat)))[l]?=some (.lst (es.map pairS))/\(∀ e∈fs',e.1<e.2/\e.2<n)/\fs'.length=i+1:=by
     rintro a b _ _ rfl rfl hab hbn
     have e1:(fs.map pairS).take r.toNat++SV.tup [.int a,.int b]::(fs.map pairS).drop r.toNat=(fs.take r.toNat++(a,b)::fs.drop r.toNat).map pairS:=by
      rw[Rm,RV,UO,Us];rfl
     rw[e1];refine⟨_,_,_,rfl,A3.put,?_,fun e' h=>?_,?_⟩
     ·rw[Em (by omega)];exact O3.keep _ _ A.ne h2
     ·rcases RO.mp h with h | h
      ·exact hf e' (Su h)
      ·rcases RM.mp h with h | h
       ·rw[h];exact⟨hab,hbn⟩
       ·exact hf e' (TM h)
     ·rw[R9,Rt,Rg,Rr];omega
    by_cases hc:e.1<e.2
    ·exact key e.1 e.2 _ _ (by rw[iG (by omega)]) (by rw[iP (by omega)]) hc hee.2.1
    ·exact key e.2 e.1 _ _ (by rw[iP (by omega)]) (by rw[iG (by omega)]) (by omega) hee.1
 ·rintro ρ S2 ⟨fs,p5,p6,rfl,A2,h2,hf,fl⟩;rw[RC]at fl;exact⟨_,rfl,_,rfl,_,a5 A2.at',by show 2<=big;decide,q fs S2 ⟨hf,by omega,hn⟩ A2.tape A2.on⟩
theorem Ev(hΔ:∀ f,MonoN (Δ f))(hd:l5 (Δ kd)){t n l:Nat}{g:SV}{S0 S:Sto}{es:EE}{Q:QE}{o4 o5 o6:Option SV}(P:Prs n es)(A:Ah t S0 S l es)
 (q:∀(es:EE) (S':Sto),Web n es->TapeS S' t->On t S0 S'->Q (g0 n es) S'):wSs Δ [u3 kd kp,u4 kd kp,u5 kd kp,u6 kd kp] (AJ Q) [some (.loc t),some g,some (.int n),some (.loc l),o4,o5,o6] S:=by
 refine⟨_,rfl,by show 0<=big;decide,?_⟩;have A1:=A.push (o:=SO.lst []);refine⟨_,_,A1.at',a8,.inr (.inr rfl),_,rfl,?_⟩;rw[BR];refine ifB (fun h1=>?_) (fun h1=>ifF rfl (Ce hΔ hd P.en (by have:=P.len;omega) P.few A1 q))
 have hpos:0<es.length:=by
  cases es with
  | nil=>cases h1
  | cons _ _=>simp
 refine⟨_,rfl,hd A1.tape (by decide) (by decide) fun r S2 r0 r1 T2 O2 _=>⟨_,rfl,?_⟩⟩;have A2:=A1.draw T2 O2;refine ifD (fun _=>?_) (fun _=>Ce hΔ hd P.en (by have:=P.len;omega) P.few A2 q);refine⟨_,rfl,_,rfl,hd A2.tape (by decide) (by decide) fun r3 S3 a0 a1 T3 O3 _=>⟨_,rfl,⟨by omega,by omega⟩,?_⟩⟩;have A3:=A2.draw T3 O3;refine m7 (f9 hΔ _).2 (a6 hΔ _).1 (fun i ys S4=>Ah t S0 S4 l es/\∃ fs:EE,ys=fs.map pairS/\(∀ e∈fs,e∈es)/\fs.length=i) ⟨A3,[],rfl,(fun _ h=>nomatch h),rfl⟩ (fun _ _ _ _=>trivial) ?_ ?_
 ·rintro i x ys S4 hx ⟨A4,fs,rfl,hf,fl⟩;obtain⟨rfl,hi⟩:=p4 hx;refine⟨_,rfl,_,rfl,_,rfl,_,a5 A4.at',hd A4.tape (by rw[RC];omega) (by rw[RC];have:=P.len;omega) fun r5 S5 b0 b1 T5 O5 _=>?_⟩;have A5:=A4.draw T5 O5;rw[RC]at b1;have hr:r5.toNat<es.length:=by omega
  refine⟨_,pairS es[r5.toNat],a5 A5.at',?_,by rw[RC];show _<100000;omega,A5,fs++[es[r5.toNat]],?_,fun e h=>?_,by simp[fl]⟩
  ·have:=f7 (xs:=es.map pairS) (j:=r5.toNat) (v:=pairS es[r5.toNat]) (by rw[RI,RB hr];rfl)
   rwa [Sg b0]at this
  ·rw[Rm];rfl
  ·rcases RO.mp h with h | h
   ·exact hf e h
   ·rw[RG.mp h];exact Rv hr
 ·rintro ys S4 ⟨A4,fs,rfl,hf,fl⟩;rw[t8]at fl;have A5:=A4.push (o := .lst (fs.map pairS));have hPl:=P.len;refine⟨_,_,A5.at',a8,by simp;show _<=100000;omega,?_⟩;rw[<-Rm];refine Ce hΔ hd (es:=es++fs) (fun e h=>?_) (by rw[R9];omega) P.few ⟨A5.tape.push,A5.on.push,a8,?_,A.t0⟩ q
  ·rcases RO.mp h with h | h
   ·exact P.en e h
   ·exact P.en e (hf e h)
  ·have:=A5.on.len;exact this
theorem Of(hΔ:∀ f,MonoN (Δ f))(hd:l5 (Δ kd))(hp:Dq (Δ kp)){D:Df}(hb:D.body=QK kd kp)(hN:D.N.length=7)(hps:D.ps.length=2):N1 (i8 Δ D):=by
 intro t g S Q T q;unfold i8;rw[hb,hN];refine⟨hps.symm,?_⟩;have t0:=T.lt;refine⟨_,rfl,_,rfl,hp T fun n es l S1 P h1 hl T1 O1=>?_⟩;have A1:Ah t S S1 l es:=⟨T1,O1,h1,hl,t0⟩
 refine⟨_,rfl,by show 0<=big;decide,?_⟩;have A2:=A1.push (o:=SO.lst []);refine⟨_,_,A2.at',a8,.inr (.inr rfl),_,rfl,?_⟩;rw[BR];refine ifB (fun _=>?_) (fun _=>Ev hΔ hd P A2 fun es S' W T' O'=>q n es S' W T' O');refine⟨_,rfl,_,rfl,hp A2.tape fun n es l S3 P3 h3 hl3 T3 O3=>?_⟩;exact Ev hΔ hd P3 ⟨T3,A2.on.trans O3,h3,by have:=A2.on.len;omega,t0⟩ fun es S' W T' O'=>q n es S' W T' O'
end
noncomputable def Fr:List Stm:=[(.ret (.and (.bi .isi (.cons (.var 0) (.cons (.tyc .int) .nil))) (.not (.bi .isi (.cons (.var 0) (.cons (.tyc .bool) .nil))))))]
noncomputable def Gh(k:Nat):List Stm:=[(.ret (.and (.call k (.cons (.var 1) .nil)) (.chn .LtE .Lt (.c (.int 0)) (.var 1) (.bi .len (.cons (.ix (.var 0) (.c (.int 1))) .nil)))))]
noncomputable def Gi(s:Sn):Prop:=∀{i:Int} {S:Sto} {Q:QE},Q (.bl true) S->s [.int i] S Q
noncomputable def natS(xs:List Nat):List SV:=xs.map fun(i:Nat)=>SV.int i
noncomputable def farE(e:Nat×Nat)(p:Nat):Nat:=if p=e.1 then e.2 else e.1
section
variable{Δ:Nat->Sn}
theorem KM{D:Df}(hb:D.body=Fr)(hN:D.N.length=1)(hp:D.ps.length=1):Gi (i8 Δ D):=by
 intro i S Q q;unfold i8;rw[hb,hN];exact⟨hp.symm,_,rfl,_,nofun,rfl,_,rfl,ifT rfl ⟨_,rfl,_,nofun,rfl,_,rfl,q⟩⟩
theorem KN{xs:List SV}{i:Nat}{x:SV}(h:(AO xs)[i]?=some x):∃ y,xs[i]?=some y/\x = .tup [.int i,y]:=by
 unfold AO at h;rw[UK]at h;cases hy:xs[i]? with
 | none=>rw[hy]at h;revert h;cases(RL xs.length)[i]?<;>exact nofun
 | some y=>
   have hi:=(gM hy).1;rw[hy,Sw hi]at h;exact⟨y,rfl,(oj h).symm⟩
theorem Gj(p:Nat)(e:Nat×Nat):inS (.int p) [.int e.1,.int e.2]=(decide (e.1=p)||decide (e.2=p)):=by
 have k:∀ a:Nat,((a:Int) == (p:Int))=decide (a=p):=fun a=>by
  rw[Rx];simp[SI]
 unfold inS;simp only[SX,Uz,Ur,eqF,k]
end
theorem c5{xs:List Nat}:(natS xs).length=xs.length:=by unfold natS;rw[RC]
theorem Ew{xs:List Nat}{i x:Nat}(h:xs[i]?=some x):(natS xs)[i]?=some (.int x):=by unfold natS;rw[RI,h];rfl
theorem AY{xs ys:List Nat}:natS (xs++ys)=natS xs++natS ys:=by unfold natS;rw[Rm]
theorem KO{xs:List Nat}{i:Nat}:(natS xs).eraseIdx i=natS (xs.eraseIdx i):=by
 induction xs generalizing i with
 | nil=>rfl
 | cons x xs ih=>
   cases i with
   | zero=>rfl
   | succ i=>exact congrArg (SV.int x::·) (ih (i:=i))
theorem Gk(m:Nat):Am 0 (m:Int)=natS (RL m):=by
 unfold Am natS;simp
structure Dr(t:Nat)(S0 S:Sto)(l k:Nat)(ls ns:List Nat):Prop where
 tape:TapeS S t
 on:On t S0 S
 hl:S[l]?=some (.lst (natS ls))
 hk:S[k]?=some (.lst (natS ns))
 l0:S0.length<=l
 k0:S0.length<=k
 lk:l≠k
 t0:t<S0.length
theorem Dr.push{t l k:Nat}{S0 S:Sto}{ls ns:List Nat}{o:SO}(A:Dr t S0 S l k ls ns):Dr t S0 (S++[o]) l k ls ns:=⟨A.tape.push,A.on.push,c7 A.hl,c7 A.hk,A.l0,A.k0,A.lk,A.t0⟩
noncomputable def QL:Option Nat->SV
 | some j => .int j
 | none => .non
noncomputable def optsS(xs:List (Option Nat)):List SV:=xs.map QL
structure Gw(S S':Sto):Prop where
 len:S.length<=S'.length
 keep:∀(k:Nat) (o:SO),S[k]?=some o->S'[k]?=some o
theorem Gw.refl(S:Sto):Gw S S:=⟨RE _,fun _ _ h=>h⟩
theorem Gw.push{S S':Sto}{o:SO}(h:Gw S S'):Gw S (S'++[o]):=⟨by rw[R9];have:=h.len;omega,fun k u z=>c7 (h.keep k u z)⟩
theorem Gw.put{S S':Sto}{o:SO}{k:Nat}(h:Gw S S')(hk:S.length<=k):Gw S (S'.set k o):=⟨by rw[RP];exact h.len,fun j u z=>by
 rw[Em (fun e=>by have:=Bt z;omega)];exact h.keep j u z⟩
theorem Gw.trans{S S' S'':Sto}(a:Gw S S')(b:Gw S' S''):Gw S S'':=⟨Rn a.len b.len,fun k o h=>b.keep k o (a.keep k o h)⟩
noncomputable def upd(f:Nat->Nat)(p x:Nat):Nat->Nat:=fun q=>if q=p then x else f q
structure Gm(a b w:Nat)(S0 S:Sto)(sd bk:List (Option Nat))(wt:List Nat):Prop where
 ha:S[a]?=some (.lst (optsS sd))
 hb:S[b]?=some (.lst (optsS bk))
 hw:S[w]?=some (.lst (natS wt))
 len:S0.length<=S.length
 keep:∀(k:Nat) (o:SO),k≠a->k≠b->S0[k]?=some o->S[k]?=some o
 ab:a≠b
 a0:a<S0.length
 b0:b<S0.length
 w0:S0.length<=w
section
variable{a b w:Nat}{S0 S:Sto}{sd bk sd' bk':List (Option Nat)}{wt wt':List Nat}
theorem Gm.push{o:SO}(G:Gm a b w S0 S sd bk wt):Gm a b w S0 (S++[o]) sd bk wt:=⟨c7 G.ha,c7 G.hb,c7 G.hw,by rw[R9];have:=G.len;omega,fun k u h1 h2 h=>c7 (G.keep k u h1 h2 h),G.ab,G.a0,G.b0,G.w0⟩
end
noncomputable def SqS(x:SV)(S:Sto)(xs:List SV):Prop:=(∃ k,x = .loc k/\S[k]?=some (.lst xs))\/x = .tup xs
theorem SqS.seq{x:SV}{S:Sto}{xs:List SV}(h:SqS x S xs):seqS x S=some xs:=by
 rcases h with⟨k,rfl,h⟩ | rfl
 ·exact a5 h
 ·rfl
theorem SqS.keep{x:SV}{S S':Sto}{xs:List SV}(h:SqS x S xs)(h':SqS x S' xs):keepS x S S':=by
 rcases h with⟨k,rfl,h⟩ | rfl
 ·rcases h' with⟨k',e,h'⟩ | e
  ·cases e;show S'[k]?=S[k]?;rw[h,h']
  ·cases e
 ·trivial
theorem DM(xs:List Nat):(natS xs).all y1=true:=by
 unfold natS;rw[Uy,RX];exact fun _ _=>rfl
end Rf
namespace Hue
noncomputable abbrev Sds:=List (Option Nat)
noncomputable def sAt(s:Sds)(p:Nat):Option Nat:=s.getD p none
structure Grow(s s':Sds):Prop where
 len:s'.length=s.length
 keep:∀ p v,sAt s p=some v->sAt s' p=some v
theorem Grow.refl(s:Sds):Grow s s:=⟨rfl,fun _ _ h=>h⟩
theorem Grow.trans{a b c:Sds}(x:Grow a b)(y:Grow b c):Grow a c:=⟨y.len.trans x.len,fun p v h=>y.keep p v (x.keep p v h)⟩
noncomputable def Set'(s:Sds)(p:Nat):Prop:=∃ v,sAt s p=some v
theorem Set'.keep{s s':Sds}{p:Nat}(g:Grow s s')(h:Set' s p):Set' s' p:=let ⟨v,hv⟩:=h;⟨v,g.keep _ _ hv⟩
end Hue
namespace L2
open PySem PySem.Spec PyProof.Rows
structure Sz(k b:Nat)(d:PyData):Prop where
 dp:d.depth<=k
 bk:d.bulk<=b
 sh:d.showable=true
 lf:d.leavesShort 100=true
theorem Sz.mono{k b k' b':Nat}{d:PyData}(h:Sz k b d)(hk:k<=k')(hb:b<=b'):Sz k' b' d:=⟨Rn h.dp hk,Rn h.bk hb,h.sh,h.lf⟩
theorem Sz.fit{k b:Nat}{d:PyData}(h:Sz k b d)(hk:k<=40)(hb:b<=100000):Fit d:=⟨h.sh,by
 have:=PyData.shown_le_bulk 100 (by decide) d h.lf;have h2:=h.bk;rw[Vz];omega,Rn h.dp hk⟩
structure SzA(k b n:Nat)(ds:List PyData):Prop where
 dp:PyData.depthAll ds<=k
 bk:PyData.bulkAll ds<=n * (b+1)
 sh:PyData.showableAll ds=true
 lf:PyData.leavesShortAll 100 ds=true
theorem SzA.nil{k b:Nat}:SzA k b 0 []:=⟨by simp[PyData.depthAll],by simp[PyData.bulkAll],by simp[PyData.showableAll],by simp[PyData.leavesShortAll]⟩
theorem SzA.cons{k b n:Nat}{d:PyData}{ds:List PyData}(h:Sz k b d)(h':SzA k b n ds):SzA k b (n+1) (d::ds):=by
 refine⟨?_,?_,?_,?_⟩
 ·simp only[PyData.depthAll];have:=h.dp;have:=h'.dp;omega
 ·simp only[PyData.bulkAll];have:=h.bk;have:=h'.bk;rw[UU];omega
 ·simp only[PyData.showableAll,h.sh,h'.sh];rfl
 ·simp only[PyData.leavesShortAll,h.lf,h'.lf];rfl
theorem SzA.list{k b n:Nat}{ds:List PyData}(h:SzA k b n ds):Sz (k+1) (n * (b+1)) (.list ds):=⟨by simp only[PyData.depth];have:=h.dp;omega,by simp only[PyData.bulk];exact h.bk,by simp only[PyData.showable];exact h.sh,by simp only[PyData.leavesShort];exact h.lf⟩
theorem SzA.tuple{k b n:Nat}{ds:List PyData}(h:SzA k b n ds):Sz (k+1) (n * (b+1)) (.tuple ds):=⟨by simp only[PyData.depth];have:=h.dp;omega,by simp only[PyData.bulk];exact h.bk,by simp only[PyData.showable];exact h.sh,by simp only[PyData.leavesShort];exact h.lf⟩
noncomputable def DN(k b:Nat)(H:Hp)(x:V):Prop:=∃ d,Dat H x d/\Sz k b d
theorem DN.mono{k b k' b':Nat}{H H':Hp}{x:V}(h:DN k b H x)(s:∀ c o,H c=some o->H' c=some o)(hk:k<=k')(hb:b<=b'):DN k' b' H' x:=let ⟨d,a,z⟩:=h;⟨d,Dat.mono s x d a,z.mono hk hb⟩
theorem DN.all{k b:Nat}{H:Hp}:∀{xs:List V},(∀ x∈xs,DN k b H x)->∃ ds,DatAll H xs ds/\SzA k b xs.length ds
 | [],_=>⟨[],by unfold DatAll;trivial,.nil⟩
 | x::xs,h=>by
   obtain⟨d,hd,hz⟩:=h x (RS ..);obtain⟨ds,hs,hzs⟩:=DN.all (xs:=xs) fun y hy=>h y (RK _ hy);exact⟨d::ds,by unfold DatAll;exact⟨hd,hs⟩,.cons hz hzs⟩
theorem DN.non{k b:Nat}{H:Hp}:DN k b H .non:=⟨.none,by unfold Dat;rfl,by simp[PyData.depth],by simp[PyData.bulk],by simp[PyData.showable],by simp[PyData.leavesShort]⟩
theorem DN.int{k b:Nat}{H:Hp}{i:Int}(h:i.natAbs.log2<90):DN k b H (.int i):=⟨.int i,by unfold Dat;rfl,by simp[PyData.depth],by simp[PyData.bulk],by simp only[PyData.showable,dQ];omega,by
 have:=int_text_length_le (a:=i) (k:=90) (by decide) h;simp only[PyData.leavesShort,PyData.shown];refine decide_eq_true ?_;show(Str.ofString (toString i)).length<=100;rw[PySem.ofString_length];omega⟩
theorem DN.str{k b:Nat}{H:Hp}{x:Str}(h:x.cps.size<=b)(hc:(x.cps.toList.all fun c=>decide (c<16 ^ 8))=true):DN k b H (.str x):=⟨.str x,by unfold Dat;rfl,by simp[PyData.depth],by simp only[PyData.bulk];exact h,by simp[PyData.showable],by simp only[PyData.leavesShort];exact hc⟩
theorem DN.tup{k b n:Nat}{H:Hp}{p:V7}{xs:List V}(hp:H p=some (.tup xs))(h:∀ x∈xs,DN k b H x)(hn:xs.length<=n):DN (k+1) (n * (b+1)) H (.ref p):=by
 obtain⟨ds,hd,hz⟩:=DN.all h;exact⟨.tuple ds,by unfold Dat;exact⟨p,xs,rfl,hp,hd⟩,hz.tuple.mono (RE _) (Tr _ hn)⟩
theorem DN.lst{k b n:Nat}{H:Hp}{p:V7}{xs:List V}(hp:H p=some (.lst xs))(h:∀ x∈xs,DN k b H x)(hn:xs.length<=n):DN (k+1) (n * (b+1)) H (.ref p):=by
 obtain⟨ds,hd,hz⟩:=DN.all h;exact⟨.list ds,by unfold Dat;exact⟨p,xs,rfl,hp,hd⟩,hz.list.mono (RE _) (Tr _ hn)⟩
noncomputable def Live(o:Option V7)(H:Hp):Prop:=∀ t,o=some t->∃ u,H t=some u
theorem Live.ne{o:Option V7}{H:Hp}{p:V7}(l:Live o H)(n:H p=none):o≠some p:=fun e=>by
 obtain⟨u,h⟩:=l p e;rw[n]at h;cases h
end L2
namespace Rf
open PySem L2
noncomputable def g8(es:EE)(t:Nat):Nat×Nat:=es.getD t (0,0)
theorem C7{es:EE}{t:Nat}(h:t<es.length):es[t]?=some (g8 es t):=by
 unfold g8;rw[RW,RB h];rfl
section
variable{Δ:Nat->Sn}
theorem l7{D:EndsS}{ρ:EnvS}{S:Sto}(h:D.nx ρ S):wSs Δ [] D ρ S:=h
end
end Rf
namespace Hue
section
variable{n:Nat}{es:EE}(hn:∀ e∈es,e.1<n/\e.2<n)
include hn
end
section
variable{n x:Nat}{es:EE}
variable(hn:∀ e∈es,e.1<n/\e.2<n)
include hn
end
end Hue
namespace Rf
open PySem L2
noncomputable abbrev Cm:=List (Nat×Option Nat)
noncomputable def keys(cm:Cm):List Nat:=cm.map (·.1)
noncomputable def lk(cm:Cm)(p:Nat):Option (Option Nat):=(cm.find? fun c=>decide (c.1=p)).map (·.2)
section
variable{n:Nat}{es:EE}{sd:Nat->Nat}{P:List (Option Nat)}
structure Came(n:Nat)(es:EE)(sd:Nat->Nat)(P:List (Option Nat))(starts:List Nat)(cm:Cm):Prop where
 nd:(keys cm).Nodup
 lt:∀ p∈keys cm,p<n
 st:∀ p,(p,none)∈cm->p∈starts
 up:∀ i q t,cm[i]?=some (q,some t)->∃ e,es[t]?=some e/\(q=e.1\/q=e.2)/\farE e q∈keys (cm.take i)
 s0:∀ p v,(p,v)∈cm->sd p=0->P[p]?=some v
 pr:∀ q,q∈keys cm->sd q=1->∀ u e,P[q]?=some (some u)->es[u]?=some e->farE e q∈keys cm
 hs:∀ p∈starts,p∈keys cm
noncomputable def Shut(es:EE)(sd:Nat->Nat)(cm:Cm)(wt:List Nat)(p:Nat)(ts:List Nat):Prop:=∀ q∈keys cm,sd q=0->q∈wt\/∀ t e,es[t]?=some e->(q=e.1\/q=e.2)->(q=p/\t∈ts)\/farE e q∈keys cm
end
section
variable{n:Nat}{es:EE}{sd:Nat->Nat}{P:List (Option Nat)}{starts:List Nat}
structure WInv(n:Nat)(es:EE)(sd:Nat->Nat)(P:List (Option Nat))(starts:List Nat)(p m:Nat)(ts:List Nat)(st:Cm×List Nat):Prop where
 C:Came n es sd P starts st.1
 wk:∀ q∈st.2,q∈keys st.1/\sd q=0
 sh:Shut es sd st.1 st.2 p ts
 pk:p∈keys st.1/\sd p=0
 ms:(n - st.1.length)+st.2.length<=m
theorem KP{cm:Cm}:(keys cm).length=cm.length:=by unfold keys;rw[RC]
theorem Dt{n:Nat}:∀{l:List Nat},l.Nodup->(∀ x∈l,x<n)->l.length<=n:=by
 induction n with
 | zero=>
   intro l _ h;cases l with
   | nil=>exact RE _
   | cons x l=>exact absurd (h x (RS ..)) (UG x)
 | succ n ih=>
   intro l nd h;by_cases hm:n∈l
   ·have e:=List.length_erase_of_mem hm
    have:=ih (l:=l.erase n) (nd.erase n) fun x hx=>by
     have h1:=h x (List.mem_of_mem_erase hx);have h2:x≠n:=fun z=>by rw[z]at hx;exact(List.Nodup.not_mem_erase nd) hx
     omega
    have:0<l.length:=List.length_pos_of_mem hm;omega
   ·have:=ih nd fun x hx=>by
     have h1:=h x hx;have h2:x≠n:=fun z=>hm (z▸hx);omega
    omega
theorem Came.len{cm:Cm}(C:Came n es sd P starts cm):cm.length<=n:=by rw[<-KP];exact Dt C.nd C.lt
structure WOut(n:Nat)(es:EE)(sd:Nat->Nat)(P:List (Option Nat))(starts:List Nat)(m:Nat)(st:Cm×List Nat):Prop where
 C:Came n es sd P starts st.1
 wk:∀ q∈st.2,q∈keys st.1/\sd q=0
 sh:∀ q∈keys st.1,sd q=0->q∈st.2\/∀(t:Nat) (e:Nat×Nat),es[t]?=some e->(q=e.1\/q=e.2)->farE e q∈keys st.1
 ms:(n - st.1.length)+st.2.length<=m
theorem WInv.out{p m:Nat}{st:Cm×List Nat}(W:WInv n es sd P starts p m [] st):WOut n es sd P starts m st:=⟨W.C,W.wk,fun q hq h0=>(W.sh q hq h0).imp id fun z t e he hq'=>by
 rcases z t e he hq' with⟨_,z⟩ | z
 ·cases z
 ·exact z,W.ms⟩
end
theorem BS{xs:List Nat}{i:Nat}{x:SV}(h:(natS xs)[i]?=some x):∃ j,xs[i]?=some j/\x = .int j:=by
 unfold natS at h;rw[RI]at h;cases hx:xs[i]? with
 | none=>rw[hx]at h;cases h
 | some j=>rw[hx]at h;exact⟨j,rfl,(oj h).symm⟩
theorem Gn:∀(xs:List Nat),Db (natS xs)=some (xs.map fun(i:Nat)=>(i:Int))
 | []=>rfl
 | x::xs=>by
   show(Db (natS xs)).map (((x:Nat):Int)::·)=_;rw[Gn xs];rfl
noncomputable def Cf(es:EE)(ts:List Nat):Prop:=∀ t∈ts,∀ t'∈ts,∀ p,(p=(g8 es t).1\/p=(g8 es t).2)->(p=(g8 es t').1\/p=(g8 es t').2)->t=t'
noncomputable def iN(xs:List Nat):List Int:=xs.map fun(i:Nat)=>(i:Int)
theorem QM{l:List Nat}(h:l.Pairwise (·<·)):l.Nodup:=h.imp fun h z=>by omega
noncomputable def camS(cm:Cm):List (Int×SV):=cm.map fun c=>((c.1:Int),QL c.2)
structure Wm(lp lc lw:Nat)(S0 S:Sto)(P:List (Option Nat))(st:Cm×List Nat):Prop where
 hp:S[lp]?=some (.lst (optsS P))
 hc:S[lc]?=some (.dct (camS st.1))
 hw:S[lw]?=some (.lst (natS st.2))
 g:Gw S0 S
 p0:lp<S0.length
 c0:S0.length<=lc
 w0:S0.length<=lw
 ne:lc≠lw
section
variable{lp lc lw:Nat}{S0 S:Sto}{P:List (Option Nat)}{st:Cm×List Nat}{cm':Cm}{wt':List Nat}
theorem Wm.push{o:SO}(M:Wm lp lc lw S0 S P st):Wm lp lc lw S0 (S++[o]) P st:=⟨c7 M.hp,c7 M.hc,c7 M.hw,M.g.push,M.p0,M.c0,M.w0,M.ne⟩
end
structure Kp(l:Nat)(S S':Sto):Prop where
 len:S.length<=S'.length
 keep:∀(k:Nat) (o:SO),k≠l->S[k]?=some o->S'[k]?=some o
theorem Kp.refl(l:Nat)(S:Sto):Kp l S S:=⟨RE _,fun _ _ _ h=>h⟩
theorem Kp.trans{l:Nat}{S S' S'':Sto}(a:Kp l S S')(b:Kp l S' S''):Kp l S S'':=⟨Rn a.len b.len,fun k o n h=>b.keep k o n (a.keep k o n h)⟩
section
variable{Δ:Nat->Sn}
theorem Du(xs:List Nat):(iN xs).map SV.int=natS xs:=by unfold iN natS;rw[UC];rfl
end
noncomputable def t2(kd:Nat):Stm:=(.asg (.nm 2) (.ix (.lst (.cons (.call kd (.cons (.var 0) (.cons (.c (.int 8)) .nil))) (.cons (.op .Add (.c (.int 8)) (.call kd (.cons (.var 0) (.cons (.c (.int 23)) .nil)))) .nil))) (.bi .int (.cons (.var 1) .nil))))
noncomputable def Un(n:Nat)(c:Nat->Nat)(fs:EE):Prop:=∀ f∈fs,f.1<n/\f.2<n/\c f.1≠c f.2
theorem MG{ns:List Int}(nd:ns.Nodup):Bv ns=ns:=by
 have go:∀ k,k<=ns.length->Bv (ns.take k)=ns.take k:=by
  intro k
  induction k with
  | zero=>intro _;rfl
  | succ k ih=>
    intro hk;have hkl:k<ns.length:=by omega
    rw[Sy,RB hkl];show Bv (ns.take k++[ns[k]])=ns.take k++[ns[k]];rw[DK,ih (by omega)];unfold PyProof.Rows.step_dedup;rw[iG];rw[Sh];rintro⟨x,hx,hb⟩;have hb:x=ns[k]:=by simpa using hb
    obtain⟨j,hj⟩:=SK hx
    have hjl:j<k:=by
     have:=(gM hj).1;rw[Rg]at this;omega
    rw[Tz hjl]at hj;have:=(Sm.mp nd) j k (by omega) hkl hjl;rw[(gM hj).2]at this;exact this hb
 have:=go ns.length (RE _)
 rwa [Si]at this
theorem QN{xs:List Nat}(nd:xs.Nodup):(iN xs).Nodup:=by
 unfold iN;exact TH.mpr (nd.imp fun{a b} h z=>h (SI.mp z))
theorem Fs(xs:List Nat):Db (natS xs)=some (iN xs):=Gn xs
section
variable{Δ:Nat->Sn}
noncomputable def j4(es:EE)(ts:List Nat):List Nat:=ts.flatMap fun t=>[(g8 es t).1,(g8 es t).2]
theorem Cg(es:EE):∀ ts:List Nat,(j4 es ts).length=2 * ts.length
 | []=>rfl
 | t::ts=>by
   show([(g8 es t).1,(g8 es t).2]++j4 es ts).length=_;rw[R9,Cg es ts,Rt];simp;omega
theorem MH{es:EE}{ts:List Nat}(nd:ts.Nodup)(hl:∀ t∈ts,t<es.length)(ha:Cf es ts)(hu:∀ e∈es,e.1<e.2):(j4 es ts).Nodup:=by
 induction ts with
 | nil=>exact Td
 | cons t ts ih=>
   rw[SR]at nd;show([(g8 es t).1,(g8 es t).2]++j4 es ts).Nodup;have he:=hu _ (RD (C7 (hl t (RS ..))));rw[SZ];refine⟨by simp;omega,ih nd.2 (fun t' h=>hl t' (RK _ h)) fun a ha' b hb'=>ha a (RK _ ha') b (RK _ hb'),fun a hma b hmb z=>?_⟩;subst z;obtain⟨t',ht',hm⟩:=Ud.mp hmb;have e1:a=(g8 es t).1\/a=(g8 es t).2:=by simpa using hma
   have e2:a=(g8 es t').1\/a=(g8 es t').2:=by simpa using hm
   have:=ha t (RS ..) t' (RK _ ht') a e1 e2;exact nd.1 (this▸ht')
end
theorem Ch{keep:Sto->Prop}{g g2:Tg}{t t2:WT}{i2:WI}{e:WE}{ρ:EnvS}{Q:List SV->Sto->Prop}(mt:MonoT t)(mi2:MonoI i2)(mt2:MonoT t2)(me:Mono e)(I:Nat->List SV->Sto->Prop){xs:List SV}{S:Sto}(h0:I 0 [] S)(hk:∀ i ys S,I i ys S->keep S)
 (hs:∀ i x ys S,xs[i]?=some x->I i ys S->wTg g x ρ fun ρ2=>t ρ2 S fun b S1=>if b=true then i2 ρ2 S1 fun keep2 xs2 S2=>i9 keep2 g2 t2 e (I (i+1)) xs2 ρ2 ys S2 else I (i+1) ys S1) (hd:∀ ys S,I xs.length ys S->Q ys S):i4 keep g t g2 i2 t2 e ρ Q xs [] S:=by
 have go:∀(zs:List SV) (i:Nat) (ys:List SV) (S:Sto),xs.drop i=zs->i<=xs.length->I i ys S->i4 keep g t g2 i2 t2 e ρ Q zs ys S:=by
  intro zs
  induction zs with
  | nil=>
    intro i ys S e' hi h
    have:i=xs.length:=by
     have:=congrArg Tq e';rw[Rr,SH]at this;omega
    subst this;unfold i4;exact⟨hk _ _ _ h,hd _ _ h⟩
  | cons y zs ih=>
    intro i ys S e' hi h;have hy:xs[i]?=some y:=by rw[<-Tt,e'];rfl
    have hlt:=(gM hy).1;have e2:xs.drop (i+1)=zs:=by rw[<-Tv,e'];rfl
    unfold i4;refine⟨hk _ _ _ h,i5 g (fun ρ2 q=>mt _ _ _ _ (fun b S1 q=>f8 (fun q=>mi2 _ _ _ _ (fun k2 x2 S2 q=>AB mt2 me (fun ys' S3 q=>ih (i+1) ys' S3 e2 hlt q) _ _ _ _ q) q) (fun q=>ih (i+1) _ S1 e2 hlt q) q) q) (hs i y ys S hy h)⟩
 exact go xs 0 [] S rfl (Rz _) h0
theorem Ci{keep:Sto->Prop}{g:Tg}{t:WT}{e:WE}{Q:List SV->Sto->Prop}(mt:MonoT t)(me:Mono e)(I:Nat->EnvS->List SV->Sto->Prop){xs:List SV}{ρ:EnvS}{ys:List SV}{S:Sto}(h0:I 0 ρ ys S)(hk:∀ i ρ ys S,I i ρ ys S->keep S)
 (hs:∀ i x ρ ys S,xs[i]?=some x->I i ρ ys S->wTg g x ρ fun ρ2=>t ρ2 S fun b S1=>if b=true then e ρ2 S1 fun y S2=>ys.length<big/\I (i+1) ρ2 (ys++[y]) S2 else I (i+1) ρ2 ys S1) (hd:∀ ρ ys S,I xs.length ρ ys S->Q ys S):i9 keep g t e Q xs ρ ys S:=by
 have go:∀(zs:List SV) (i:Nat) (ρ:EnvS) (ys:List SV) (S:Sto),xs.drop i=zs->i<=xs.length->I i ρ ys S->i9 keep g t e Q zs ρ ys S:=by
  intro zs
  induction zs with
  | nil=>
    intro i ρ ys S e' hi h
    have:i=xs.length:=by
     have:=congrArg Tq e';rw[Rr,SH]at this;omega
    subst this;unfold i9;exact⟨hk _ _ _ _ h,hd _ _ _ h⟩
  | cons y zs ih=>
    intro i ρ ys S e' hi h;have hy:xs[i]?=some y:=by rw[<-Tt,e'];rfl
    have hlt:=(gM hy).1;have e2:xs.drop (i+1)=zs:=by rw[<-Tv,e'];rfl
    unfold i9;refine⟨hk _ _ _ _ h,i5 g (fun ρ2 q=>mt _ _ _ _ (fun b S1 q=>f8 (fun q=>me _ _ _ _ (fun v S2 q=>⟨q.1,ih (i+1) _ _ S2 e2 hlt q.2⟩) q) (fun q=>ih (i+1) _ _ S1 e2 hlt q) q) q) (hs i y ρ ys S hy h)⟩
 exact go xs 0 ρ ys S rfl (Rz _) h0
inductive Gd(V:Nat->List SV->Prop):Nat->Nat->SV->Prop where
 | non {k b:Nat}:Gd V k b .non
 | bl {k b:Nat} (c:Bool):Gd V k b (.bl c)
 | int {k b:Nat} {i:Int} (h:-1000000000000000000000<=i/\i<=1000000000000000000000):Gd V k b (.int i)
 | str {k b:Nat} {x:Str} (h:Sz 0 10 (.str x)) (hb:10<=b):Gd V k b (.str x)
 | tup {k b c:Nat} {xs:List SV} (h:∀ y∈xs,Gd V k b y) (hl:xs.length<=63) (hc:xs.length * (b+1)<=c):Gd V (k+1) c (.tup xs)
 | lst {k b c l:Nat} {xs:List SV} (hv:V l xs) (h:∀ y∈xs,Gd V k b y) (hl:xs.length<=63) (hc:xs.length * (b+1)<=c):Gd V (k+1) c (.loc l)
theorem Gd.see{V V':Nat->List SV->Prop}(i:∀ l xs,V l xs->V' l xs){k b:Nat}{x:SV}(h:Gd V k b x):Gd V' k b x:=by
 induction h with
 | non=>exact .non
 | bl c=>exact .bl c
 | int h=>exact .int h
 | str h hb=>exact .str h hb
 | tup _ hl hc ih=>exact .tup ih hl hc
 | lst hv _ hl hc ih=>exact .lst (i _ _ hv) ih hl hc
theorem Gd.up{V:Nat->List SV->Prop}{k b k' b':Nat}{x:SV}(h:Gd V k b x)(hk:k<=k')(hb:b<=b'):Gd V k' b' x:=by
 induction h generalizing k' b' with
 | non=>exact .non
 | bl c=>exact .bl c
 | int h=>exact .int h
 | str h h10=>exact .str h (Rn h10 hb)
 | tup _ hl hc ih=>
   obtain⟨k',rfl⟩:∃ j,k'=j+1:=⟨k' - 1,by omega⟩
   exact .tup (fun y hy=>ih y hy (by omega) (RE _)) hl (Rn hc hb)
 | lst hv _ hl hc ih=>
   obtain⟨k',rfl⟩:∃ j,k'=j+1:=⟨k' - 1,by omega⟩
   exact .lst hv (fun y hy=>ih y hy (by omega) (RE _)) hl (Rn hc hb)
noncomputable def VS(S:Sto)(l:Nat)(xs:List SV):Prop:=S[l]?=some (.lst xs)
theorem Cj{f:SV->Option PyData}{k b:Nat}:∀{xs:List SV},(∀ y∈xs,∃ d,f y=some d/\Sz k b d)->∃ ds,xs.mapM f=some ds/\SzA k b xs.length ds
 | [],_=>⟨[],rfl,.nil⟩
 | x::xs,h=>by
   obtain⟨d,hd,hz⟩:=h x (RS ..);obtain⟨ds,hs,hzs⟩:=Cj (xs:=xs) fun y hy=>h y (RK _ hy);exact⟨d::ds,by rw[Tu,hd,hs];rfl,.cons hz hzs⟩
theorem MI{i:Int}(h0:-1000000000000000000000<=i)(h1:i<=1000000000000000000000):i.natAbs.log2<90:=by
 by_cases z:i.natAbs=0
 ·rw[z];decide
 ·exact(Nat.log2_lt z).mpr (US (show i.natAbs<=1000000000000000000000 by omega) (by decide))
theorem R7{k b:Nat}{i:Int}(h:-1000000000000000000000<=i/\i<=1000000000000000000000):Sz k b (.int i):=by
 obtain⟨d,hd,z⟩:=DN.int (k:=k) (b:=b) (H:=fun _=>none) (i:=i) (MI h.1 h.2);unfold Dat at hd;cases d with
 | int j=>cases hd;exact z
 | list _=>obtain⟨_,_,h,_⟩:=hd;cases h
 | tuple _=>obtain⟨_,_,h,_⟩:=hd;cases h
 | dict _=>exact hd.elim
 | _=>cases hd
theorem Gd.dat{S:Sto}{k b:Nat}{x:SV}(h:Gd (VS S) k b x):∀ m,k<=m->∃ d,u7 m S x=some d/\Sz k b d:=by
 induction h with
 | non=>exact fun m _=>⟨.none,by cases m<;>rfl,by simp[PyData.depth],by simp[PyData.bulk],by simp[PyData.showable],by simp[PyData.leavesShort]⟩
 | bl c=>exact fun m _=>⟨.bool c,by cases m<;>rfl,by simp[PyData.depth],by simp[PyData.bulk],by simp[PyData.showable],by simp[PyData.leavesShort]⟩
 | int h=>exact fun m _=>⟨.int _,by cases m<;>rfl,R7 h⟩
 | str h hb=>exact fun m _=>⟨.str _,by cases m<;>rfl,h.mono (Rz _) hb⟩
 | tup _ _ hc ih=>
   intro m hm;obtain⟨m,rfl⟩:∃ j,m=j+1:=⟨m - 1,by omega⟩
   obtain⟨ds,hs,hz⟩:=Cj fun y hy=>ih y hy m (by omega);exact⟨.tuple ds,by show(U4 (u7 m S) _).map _=_;rw[hs];rfl,hz.tuple.mono (RE _) hc⟩
 | lst hv _ _ hc ih=>
   intro m hm;obtain⟨m,rfl⟩:∃ j,m=j+1:=⟨m - 1,by omega⟩
   obtain⟨ds,hs,hz⟩:=Cj fun y hy=>ih y hy m (by omega);have hv:S[_]?=some (SO.lst _):=hv;refine⟨.list ds,?_,hz.list.mono (RE _) hc⟩;show(match S[_]? with | some (SO.lst xs)=>(xs.mapM (u7 m S)).map PyData.list | _=>none)=_;rw[hv];show(U4 (u7 m S) _).map _=_;rw[hs];rfl
noncomputable def isI:SV->Bool
 | .int _=>true
 | _=>false
section
variable{Δ:Nat->Sn}
noncomputable def Og(s:Sn):Prop:=∀{x:SV} {S:Sto} {k b:Nat} {Q:QE},Gd (VS S) k b x->Q (.bl (isI x)) S->s [x] S Q
theorem MJ{D:Df}(hb:D.body=Fr)(hN:D.N.length=1)(hp:D.ps.length=1):Og (i8 Δ D):=by
 intro x S k b Q h q;unfold i8;rw[hb,hN];cases h with
 | non=>exact⟨hp.symm,_,rfl,_,nofun,rfl,_,rfl,ifF rfl q⟩
 | bl c=>exact⟨hp.symm,_,rfl,_,nofun,rfl,_,rfl,ifT rfl ⟨_,rfl,_,nofun,rfl,_,rfl,q⟩⟩
 | int h=>exact⟨hp.symm,_,rfl,_,nofun,rfl,_,rfl,ifT rfl ⟨_,rfl,_,nofun,rfl,_,rfl,q⟩⟩
 | str h hb'=>exact⟨hp.symm,_,rfl,_,nofun,rfl,_,rfl,ifF rfl q⟩
 | tup h hl hc=>exact⟨hp.symm,_,rfl,_,nofun,rfl,_,rfl,ifF rfl q⟩
 | lst hv h hl hc=>exact⟨hp.symm,_,rfl,_,nofun,Bk hv,_,rfl,ifF rfl q⟩
theorem Af(f:Nat->Bool):∀ n:Nat,blS ((RL n).map fun i => .bl (f i))=some ((RL n).map f):=by
 have go:∀ l:List Nat,blS (l.map fun i => .bl (f i))=some (l.map f):=fun l=>by
  induction l with
  | nil=>rfl
  | cons a l ih=>rw[RV,RV];simp[blS,ih]
 exact fun n=>go _
theorem all_mapF{f:Nat->Bool}{n:Nat}:((RL n).map f).all id=true↔∀ i,i<n->f i=true:=by
 rw[RX];constructor
 ·exact fun h i hi=>h _ (SC.mpr ⟨i,Rq.mpr hi,rfl⟩)
 ·rintro h x hx;obtain⟨i,hi,rfl⟩:=SC.mp hx;exact h i (Rq.mp hi)
theorem any_mapF{f:Nat->Bool}{n:Nat}:((RL n).map f).any id=true↔∃ i,i<n/\f i=true:=by
 rw[Sh];constructor
 ·rintro⟨x,hx,z⟩;obtain⟨i,hi,rfl⟩:=SC.mp hx;exact⟨i,Rq.mp hi,z⟩
 ·rintro⟨i,hi,z⟩;exact⟨_,SC.mpr ⟨i,Rq.mpr hi,rfl⟩,z⟩
theorem A0(hΔ:∀ f,MonoN (Δ f)){e:Ex}{keep:Sto->Prop}{g:Tg}{ρ:EnvS}{Q:List SV->Sto->Prop}(f:Nat->Bool){xs:List SV}{S:Sto}(hl:xs.length<=1000)(hk:∀ S',Gw S S'->keep S')
 (hs:∀(i:Nat) (x:SV) (S':Sto),xs[i]?=some x->Gw S S'->wTg g x ρ fun ρ2=>(wEx Δ e).1 ρ2 S' fun y S2=>y = .bl (f i)/\Gw S S2)
 (q:∀ S',Gw S S'->Q ((RL xs.length).map fun i => .bl (f i)) S'):l9 keep g (wEo Δ .no).2 (wEx Δ e).1 ρ Q xs [] S:=by
 refine m7 (f9 hΔ _).2 (a6 hΔ _).1 (fun i ys S'=>Gw S S'/\ys=(RL i).map fun i => .bl (f i)) ⟨Gw.refl S,rfl⟩ (fun _ _ _ h=>hk _ h.1) ?_ ?_
 ·rintro i x ys S' hx ⟨G,rfl⟩;have hi:=(gM hx).1;refine i5 g (fun ρ2 h=>?_) (hs i x S' hx G);refine(a6 hΔ e).1 _ _ _ _ (fun y S2 h=>⟨by rw[RC,Sb];show _<100000;omega,h.2,?_⟩) h;rw[h.1,TY,Rm];rfl
 ·rintro ys S' ⟨G,rfl⟩;exact q S' G
theorem Gd.grow{S S':Sto}{k b:Nat}{x:SV}(h:Gd (VS S) k b x)(G:Gw S S'):Gd (VS S') k b x:=h.see fun l xs e=>G.keep l _ e
noncomputable def QO:List Stm:=[(.ret (.bi .isi (.cons (.var 0) (.cons (.tup (.cons (.tyc .list) (.cons (.tyc .tuple) .nil))) .nil))))]
noncomputable def isL:SV->Bool
 | .tup _=>true
 | .loc _=>true
 | _=>false
noncomputable def MK(s:Sn):Prop:=∀{x:SV} {S:Sto} {k b:Nat} {Q:QE},Gd (VS S) k b x->Q (.bl (isL x)) S->s [x] S Q
theorem ML{D:Df}(hb:D.body=QO)(hN:D.N.length=1)(hp:D.ps.length=1):MK (i8 Δ D):=by
 intro x S k b Q h q;unfold i8;rw[hb,hN];have b2:2<=big:=by decide
 cases h with
 | non=>exact⟨hp.symm,_,rfl,b2,_,[.list,.tuple],by decide,rfl,rfl,q⟩
 | bl c=>exact⟨hp.symm,_,rfl,b2,_,[.list,.tuple],by decide,rfl,rfl,q⟩
 | int h=>exact⟨hp.symm,_,rfl,b2,_,[.list,.tuple],by decide,rfl,rfl,q⟩
 | str h hb'=>exact⟨hp.symm,_,rfl,b2,_,[.list,.tuple],by decide,rfl,rfl,q⟩
 | tup h hl hc=>exact⟨hp.symm,_,rfl,b2,_,[.list,.tuple],by decide,rfl,rfl,q⟩
 | lst hv h hl hc=>exact⟨hp.symm,_,rfl,b2,_,[.list,.tuple],by decide,Bk hv,rfl,q⟩
end
structure SeqV(S:Sto)(x:SV)(xs:List SV):Prop where
 seq:∀ S',Gw S S'->seqS x S'=some xs
 keep:∀ S1 S',Gw S S1->Gw S S'->keepS x S1 S'
 len:xs.length<=63
 gd:∃ k b,∀ y∈xs,Gd (VS S) k b y
 ls:isL x=true
theorem Gd.split{S:Sto}{k b:Nat}{x:SV}(h:Gd (VS S) k b x):(isL x=false/\∀ xs,seqS x S≠some xs)\/∃ xs,SeqV S x xs:=by
 cases h with
 | non=>exact .inl ⟨rfl,nofun⟩
 | bl c=>exact .inl ⟨rfl,nofun⟩
 | int h=>exact .inl ⟨rfl,nofun⟩
 | str h hb'=>exact .inl ⟨rfl,nofun⟩
 | tup h hl hc=>exact .inr ⟨_,fun _ _=>rfl,fun _ _ _ _=>trivial,hl,⟨_,_,h⟩,rfl⟩
 | lst hv h hl hc=>exact .inr ⟨_,fun S' G=>a5 (G.keep _ _ hv),fun S1 S' G1 G=>by
    show S'[_]?=S1[_]?;rw[G.keep _ _ hv,G1.keep _ _ hv],hl,⟨_,_,h⟩,rfl⟩
noncomputable def toI:SV->Int
 | .int i=>i
 | _=>0
theorem Gp:∀{xs:List SV},(∀ i,i<xs.length->isI (xs.getD i .non)=true)->xs=(xs.map toI).map SV.int
 | [],_=>rfl
 | x::xs,h=>by
   have h0:=h 0 (V0 _);have e:=Gp (xs:=xs) fun i hi=>h (i+1) (To hi);rw[RV,RV,<-e];cases x with
   | int i=>rfl
   | _=>cases h0
theorem KQ(is:List Int)(i:Nat)(h:i<(is.map SV.int).length):isI ((is.map SV.int).getD i .non)=true:=by
 rw[RW,RB h,U0,U5];rfl
theorem q0:∀{a b:List Int},a.map SV.int=b.map SV.int->a=b
 | [],[],_=>rfl
 | x::xs,y::ys,h=>by
   rw[RV,RV]at h;have h1:=(U6.inj h).1;cases h1;rw[q0 (U6.inj h).2]
 | [],_::_,h=>by cases h
 | _::_,[],h=>by cases h
theorem C8:∀(is:List Int),(∀ i,i+1<is.length->is.getD i 0<is.getD (i+1) 0)↔is.Pairwise (·<·)
 | []=>⟨fun _ => .nil,fun _ i h=>absurd h (UG _)⟩
 | [x]=>⟨fun _=>U7 ..,fun _ i h=>absurd h (by simp)⟩
 | x::y::l=>by
   rw[TZ,<-C8 (y::l)];constructor
   ·intro h;have t:∀ i,i+1<(y::l).length->(y::l).getD i 0<(y::l).getD (i+1) 0:=fun i hi=>h (i+1) (To hi);refine⟨fun z hz=>?_,t⟩;have h0:x<y:=h 0 (by simp);rcases RM.mp hz with rfl | hz
    ·exact h0
    ·exact Int.lt_trans h0 ((TZ.mp ((C8 (y::l)).mp t)).1 z hz)
   ·rintro⟨h1,h2⟩ i hi;cases i with
    | zero=>exact h1 y (RS ..)
    | succ i=>exact h2 i (Nat.lt_of_succ_lt_succ hi)
section
variable{Δ:Nat->Sn}
noncomputable def rg1(kl kn:Nat):Stm:=(.iff (.or (.not (.call kl (.cons (.var 0) .nil))) (.not (.bi .all (.cons (.comp ["item"] [] [] (.nm 0) (.seq (.var 0)) .no (.call kn (.cons (.var 0) .nil))) .nil)))) [(.ret (.c (.bl false)))] [])
noncomputable def rg2:Stm:=(.ret (.bi .all (.cons (.comp ["at"] ["thing"] [0] (.nm 0) (.rng1 (.op .Sub (.bi .len (.cons (.var 0) .nil)) (.c (.int 1)))) .no (.cmp .Lt (.ix (.var 1) (.var 0)) (.ix (.var 1) (.op .Add (.var 0) (.c (.int 1)))))) .nil)))
noncomputable def KR(kl kn:Nat):List Stm:=[rg1 kl kn,rg2]
noncomputable def Oh(s:Sn):Prop:=∀{x:SV} {S:Sto} {k b:Nat} {Q:QE},Gd (VS S) k b x->(∀(r:Bool) (S':Sto),Gw S S'->(r=true↔∃ is:List Int,seqS x S=some (is.map SV.int)/\is.Pairwise (·<·))->Q (.bl r) S')->s [x] S Q
theorem MM(hΔ:∀ f,MonoN (Δ f)){kl kn:Nat}(hl:MK (Δ kl))(hn:Og (Δ kn)){D:Df}(hb:D.body=KR kl kn)(hN:D.N.length=1)(hp:D.ps.length=1):Oh (i8 Δ D):=by
 intro x S k b Q h q;unfold i8;rw[hb,hN];refine⟨hp.symm,_,rfl,hl h ?_⟩;rcases h.split with⟨e,no⟩ | ⟨xs,V⟩
 ·rw[e];exact⟨_,rfl,ifT rfl (q false S (Gw.refl S) ⟨nofun,fun⟨is,z,_⟩=>absurd z (no _)⟩)⟩
 rw[V.ls];have s0:=V.seq S (Gw.refl S);have hxl:=V.len;obtain⟨k',b',hg⟩:=V.gd;refine⟨_,rfl,ifF rfl ⟨_,rfl,_,s0,?_⟩⟩;refine A0 hΔ (fun i=>isI (xs.getD i .non)) (by omega) (fun S' G=>V.keep S S' (Gw.refl S) G) ?_ ?_
 ·intro i y S' hy G;refine⟨_,rfl,hn ((hg y (RD hy)).grow G) ⟨?_,G⟩⟩;rw[RW,hy];rfl
 intro S1 G1;have G2:=G1.push (o:=SO.lst ((RL xs.length).map fun i => .bl (isI (xs.getD i .non))));refine⟨_,_,nofun,a5 a8,Af _ _,_,rfl,?_⟩;generalize S1++[SO.lst ((RL xs.length).map fun i => .bl (isI (xs.getD i .non)))]=S2 at *;by_cases hA:((RL xs.length).map fun i=>isI (xs.getD i .non)).all id=true
 ·rw[hA];refine ifF rfl (l7 ?_);have ex:=Gp (all_mapF.mp hA);generalize xs.map toI=is at *;subst ex;rw[RC]at hxl;have s2:=V.seq S2 G2;refine⟨_,rfl,_,s2,_,rfl,⟨by rw[RC];omega,by rw[RC];omega⟩,?_⟩;have hr:(Am 0 (((is.map SV.int).length:Int) - 1)).length=is.length - 1:=by rw[t8,RC];omega
  refine A0 hΔ (fun i=>decide (is.getD i 0<is.getD (i+1) 0)) (by rw[hr];omega) (fun _ _=>trivial) ?_ ?_
  ·intro i y S' hy G;have hi:i<is.length - 1:=by have:=(gM hy).1;rwa [hr]at this
   obtain⟨rfl,_⟩:=p4 hy;rw[UZ];have e1:∀ j,j<is.length->atI (is.map SV.int) (j:Int)=some (.int (is.getD j 0)):=fun j hj=>f7 (by rw[RI,RW,RB hj];rfl);have s3:=V.seq S' (G2.trans G);refine⟨_,rfl,_,rfl,_,_,s3,e1 i (by omega),_,rfl,_,rfl,_,_,s3,e1 (i+1) (by omega),rfl,G⟩
  ·intro S3 G3;refine⟨_,_,nofun,a5 a8,Af _ _,?_⟩;refine q _ _ (G2.trans G3).push ?_;rw[all_mapF,hr];constructor
   ·exact fun z=>⟨is,s0,(C8 is).mp fun i hi=>of_decide_eq_true (z i (by omega))⟩
   ·rintro⟨js,z,u⟩ i hi;rw[s0]at z;rw[q0 (oj z)];exact decide_eq_true ((C8 js).mpr u i (by rw[<-q0 (oj z)];omega))
 ·have hA:((RL xs.length).map fun i=>isI (xs.getD i .non)).all id=false:=by simpa using hA
  rw[hA];refine ifT rfl (q false S2 G2 ⟨nofun,fun⟨is,z,_⟩=>?_⟩);rw[s0]at z;have z:=oj z;subst z;rw[all_mapF.mpr (KQ is)]at hA;cases hA
noncomputable def InG(s:Sn)(m:Nat->EE->Nat):Prop:=∀{n:Nat} {es:EE} {i:Int} {S:Sto} {Q:QE},Q (.bl (decide (0<=i)&&decide (i<(m n es:Nat)))) S->s [g0 n es,.int i] S Q
theorem MN{kn:Nat}(hn:∀{i:Int} {S:Sto} {Q:QE},Q (.bl true) S->Δ kn [.int i] S Q){D:Df}(hb:D.body=Gh kn)(hN:D.N.length=2)(hp:D.ps.length=2):InG (i8 Δ D) fun _ es=>es.length:=by
 intro n es i S Q q;unfold i8;rw[hb,hN];refine⟨hp.symm,_,rfl,hn ⟨_,rfl,ifT rfl ⟨_,rfl,_,rfl,?_⟩⟩⟩;cases z:decide ((0:Int)<=i) with
 | true=>
   rw[z]at q;refine ifT rfl ⟨_,rfl,_,_,rfl,rfl,_,rfl,?_⟩;rw[RC];exact q
 | false=>
   rw[z]at q;exact ifF rfl q
end
theorem Gd.seqEq{S S':Sto}{k b:Nat}{x:SV}(h:Gd (VS S) k b x)(G:Gw S S'):seqS x S'=seqS x S:=by
 cases h with
 | lst hv h hl hc=>rw[a5 hv,a5 (G.keep _ _ hv)]
 | _=>rfl
theorem j8(A:List Nat):natS A=(iN A).map SV.int:=(Du A).symm
theorem iN_up{A:List Nat}:(iN A).Pairwise (·<·)↔A.Pairwise (·<·):=by
 unfold iN;rw[TH];exact⟨fun h=>h.imp fun{a b} h=>by have h:(a:Int)<b:=h;omega,fun h=>h.imp fun{a b} h=>by show(a:Int)<b;omega⟩
theorem Gq:∀{is:List Int} {m:Nat},(∀ i,i<is.length->(decide (0<=is.getD i 0)&&decide (is.getD i 0<(m:Nat)))=true)->∃ A:List Nat,is=iN A/\∀ t∈A,t<m
 | [],_,_=>⟨[],rfl,fun _ h=>nomatch h⟩
 | x::is,m,h=>by
   obtain⟨A,rfl,hA⟩:=Gq (is:=is) (m:=m) fun i hi=>h (i+1) (To hi);have h0:=h 0 (V0 _);have h0:(decide ((0:Int)<=x)&&decide (x<(m:Nat)))=true:=h0;rw[RA,dQ,dQ]at h0;obtain⟨t,rfl⟩:=Sd h0.1;refine⟨t::A,rfl,fun u hu=>?_⟩;rcases RM.mp hu with rfl | hu
   ·have:=h0.2;omega
   ·exact hA u hu
theorem MO{A:List Nat}{m:Nat}(h:∀ t∈A,t<m):∀ i,i<(iN A).length->(decide (0<=(iN A).getD i 0)&&decide ((iN A).getD i 0<(m:Nat)))=true:=by
 intro i hi;unfold iN at hi ⊢;rw[RC]at hi;rw[RW,RI,RB hi];have:=h _ (Rv hi);show(decide ((0:Int)<=(A[i]:Nat))&&decide (((A[i]:Nat):Int)<(m:Nat)))=true;rw[decide_eq_true (by omega),decide_eq_true (by omega)];rfl
theorem Ey{es:EE}:∀{A:List Nat},(j4 es A).Nodup->Cf es A
 | [],_=>fun _ h=>nomatch h
 | a::A,nd=>by
   have e:j4 es (a::A)=[(g8 es a).1,(g8 es a).2]++j4 es A:=by unfold j4;rw[List.flatMap_cons]
   rw[e]at nd;obtain⟨_,n2,dj⟩:=SZ.mp nd;have ih:=Ey n2;have mem:∀{t p},t∈A->(p=(g8 es t).1\/p=(g8 es t).2)->p∈j4 es A:=fun{t p} ht hp=>Ud.mpr ⟨t,ht,by rcases hp with rfl | rfl<;>simp⟩;have mem0:∀{p},(p=(g8 es a).1\/p=(g8 es a).2)->p∈[(g8 es a).1,(g8 es a).2]:=fun{p} hp=>by rcases hp with rfl | rfl<;>simp
   intro t ht t' ht' p hp hp';rcases RM.mp ht with h1 | h1<;>rcases RM.mp ht' with h2 | h2
   ·rw[h1,h2]
   ·rw[h1]at hp;exact absurd rfl (dj p (mem0 hp) p (mem h2 hp'))
   ·rw[h2]at hp';exact absurd rfl (dj p (mem0 hp') p (mem h1 hp))
   ·exact ih t h1 t' h2 p hp hp'
theorem Ez{α:Type}[DecidableEq α]:∀ ns:List α,ns.Nodup\/∃ ms:List α,ms.length<ns.length/\∀ x∈ns,x∈ms
 | [] => .inl Td
 | a::ns=>by
   by_cases z:a∈ns
   ·exact .inr ⟨ns,U1 _,fun x hx=>(RM.mp hx).elim (fun e=>e▸z) id⟩
   ·rcases Ez ns with h | ⟨ms,h1,h2⟩
    ·exact .inl (SR.mpr ⟨z,h⟩)
    ·exact .inr ⟨a::ms,To h1,fun x hx=>(RM.mp hx).elim (fun e=>e▸RS ..) fun h=>RK _ (h2 x h)⟩
theorem Ft(ns:List Int):(Bv ns).Nodup:=by
 have go:∀(l:List Int) (n:Nat),(Bv (l.take n)).Nodup:=fun l n=>by
  induction n with
  | zero=>exact Td
  | succ n ih=>
    rw[Sy];cases h:l[n]? with
    | none=>rw[Option.toList_none,TX];exact ih
    | some i=>
      rw[Ta,DK];unfold PyProof.Rows.step_dedup;split
      ·exact ih
      ·rename_i z;refine SZ.mpr ⟨ih,by simp,fun a ha b hb y=>?_⟩;rw[RG.mp hb]at y;subst y;exact z (by simpa using ha)
 have:=go ns ns.length
 rwa [Si]at this
theorem KS{ns:List Int}:(Bv ns).length=ns.length↔ns.Nodup:=by
 constructor
 ·intro h;rcases Ez ns with z | ⟨ms,h1,h2⟩
  ·exact z
  ·have:=List.Nodup.length_le_of_subset (Ft ns) (l₂:=ms) fun a ha=>h2 a ((JG ns a).mp ha);omega
 ·intro h;rw[MG h]
theorem KU{A:List Nat}:(iN A).Nodup↔A.Nodup:=by
 constructor
 ·intro h;unfold iN at h;exact(TH.mp h).imp fun{a b} h z=>h (by rw[z])
 ·exact QN
theorem Gd.short{S:Sto}{k b:Nat}{x:SV}{xs:List SV}(h:Gd (VS S) k b x)(e:seqS x S=some xs):xs.length<=63/\∀ S1 S',Gw S S1->Gw S S'->keepS x S1 S':=by
 rcases h.split with⟨_,no⟩ | ⟨ys,V⟩
 ·exact absurd e (no _)
 ·rw[V.seq S (Gw.refl S)]at e;cases e;exact⟨V.len,V.keep⟩
theorem Az{A B:List Nat}(h:natS A=natS B):A=B:=by
 rw[j8,j8]at h;have h:=q0 h;unfold iN at h
 induction A generalizing B with
 | nil=>cases B with
   | nil=>rfl
   | cons b B=>cases h
 | cons a A ih=>cases B with
   | nil=>cases h
   | cons b B=>
     rw[RV,RV]at h;obtain⟨h1,h2⟩:=U6.inj h;rw[SI.mp h1,ih (by unfold iN;rw[h2]) h2]
section
variable{Δ:Nat->Sn}
theorem KW(hΔ:∀ f,MonoN (Δ f)){kt:Nat}{m:Nat->EE->Nat}(ht:InG (Δ kt) m){n:Nat}{es:EE}{is:List Int}{S:Sto}{keep:Sto->Prop}{Q:List SV->Sto->Prop}{ρ:EnvS}(hρ:ρ=[none,some (g0 n es)])(hl:is.length<=63)(hk:∀ S',Gw S S'->keep S')
 (q:∀ S',Gw S S'->Q ((RL is.length).map fun i => .bl (decide (0<=is.getD i 0)&&decide (is.getD i 0<(m n es:Nat)))) S'):l9 keep (.nm 0) (wEo Δ .no).2 (wEx Δ (.call kt (.cons (.var 1) (.cons (.var 0) .nil)))).1 ρ Q (is.map SV.int) [] S:=by
 subst hρ;have e:(is.map SV.int).length=is.length:=RC ..;refine A0 hΔ (fun i=>decide (0<=is.getD i 0)&&decide (is.getD i 0<(m n es:Nat))) (by rw[e];omega) hk ?_ (by rw[e];exact q);intro i x S' hx G;rw[RI]at hx;cases hi:is[i]? with
 | none=>rw[hi]at hx;cases hx
 | some j=>
   rw[hi]at hx;cases hx;refine⟨_,rfl,_,rfl,ht ⟨?_,G⟩⟩;show SV.bl _=SV.bl (decide (0<=is.getD i 0)&&decide (is.getD i 0<_));rw[RW,hi];rfl
structure Rw(S:Sto)(k:Nat)(ls:List Nat)(R:List (List Nat)):Prop where
 at':S[k]?=some (SO.lst (ls.map SV.loc))
 len:ls.length=R.length
 rows:∀(i l:Nat) (r:List Nat),ls[i]?=some l->R[i]?=some r->S[l]?=some (SO.lst (natS r))
theorem Rw.mono{S S':Sto}{k:Nat}{ls:List Nat}{R:List (List Nat)}(h:Rw S k ls R)(g:Gw S S'):Rw S' k ls R:=⟨g.keep _ _ h.at',h.len,fun i l r a b=>g.keep _ _ (h.rows i l r a b)⟩
noncomputable def N3:List Stm:=[(.ret (.or (.cmp .In (.ix (.ix (.ix (.var 0) (.c (.int 1))) (.var 1)) (.c (.int 0))) (.ix (.ix (.var 0) (.c (.int 1))) (.var 2))) (.cmp .In (.ix (.ix (.ix (.var 0) (.c (.int 1))) (.var 1)) (.c (.int 1))) (.ix (.ix (.var 0) (.c (.int 1))) (.var 2)))))]
noncomputable def Shr(es:EE)(t u:Nat):Prop:=∃ p,(p=(g8 es t).1\/p=(g8 es t).2)/\(p=(g8 es u).1\/p=(g8 es u).2)
end
theorem Gr(xs:List Nat):∃ A:List Nat,srt (iN xs)=iN A/\A.Perm xs:=by
 have p:=EC (iN xs)
 have e:∀ l:List Int,(∀ x∈l,0<=x)->l=iN (l.map U8):=fun l h=>by
  induction l with
  | nil=>rfl
  | cons x l ih=>
    have h0:=h x (RS ..);show x::l=((x.toNat:Nat):Int)::iN (l.map U8);rw[Sg h0,<-ih fun y hy=>h y (RK _ hy)]
 refine⟨(srt (iN xs)).map U8,e _ fun x hx=>?_,?_⟩
 ·have:=p.mem_iff.mp hx;unfold iN at this;obtain⟨i,_,rfl⟩:=SC.mp this;exact Int.natCast_nonneg i
 ·have:=p.map U8;unfold iN at this ⊢;rw[UC]at this
  have e2:xs.map (U8∘fun(i:Nat)=>(i:Int))=xs:=by
   rw[show(U8∘fun(i:Nat)=>(i:Int))=id from funext fun i=>Sq i,List.map_id]
  rw[e2]at this;exact this
noncomputable def DO(es:EE)(room:Int)(ts:List Nat):Prop:=ts.Pairwise (·<·)/\0<ts.length/\(ts.length:Int)<=room/\(∀ t∈ts,t<es.length)/\Cf es ts
structure IsRows(S:Sto)(x:SV)(tss:List (List Nat)):Prop where
 ex:∃ ys,seqS x S=some ys/\ys.length=tss.length/\∀(i:Nat) (y:SV) (ts:List Nat),ys[i]?=some y->tss[i]?=some ts->seqS y S=some (natS ts)
noncomputable def DP(es:EE)(room:Int)(S:Sto)(x:SV):Prop:=∃ tss,IsRows S x tss/\(∀ ts∈tss,DO es room ts)/\tss.flatten.Nodup/\tss.flatten.length=es.length
noncomputable def Cy(es:EE)(room:Int)(S:Sto)(y:SV):Prop:=∃ ts,seqS y S=some (natS ts)/\DO es room ts
section
variable{Δ:Nat->Sn}
noncomputable def ir1(kr:Nat):Stm:=(.iff (.or (.not (.call kr (.cons (.var 2) .nil))) (.not (.chn .Lt .LtE (.c (.int 0)) (.bi .len (.cons (.var 2) .nil)) (.var 1)))) [(.ret (.c (.bl false)))] [])
noncomputable def ir2(kt:Nat):Stm:=(.iff (.not (.bi .all (.cons (.comp ["tie"] ["web"] [0] (.nm 0) (.seq (.var 2)) .no (.call kt (.cons (.var 1) (.cons (.var 0) .nil)))) .nil))) [(.ret (.c (.bl false)))] [])
noncomputable def ir3:Stm:=(.asg (.nm 3) (.comp2 ["tie","place"] ["web"] [0] (.nm 0) (.seq (.var 2)) .no (.nm 1) (.seq (.ix (.ix (.var 2) (.c (.int 1))) (.var 0))) .no (.var 1)))
noncomputable def ir4:Stm:=(.ret (.cmp .Eq (.lenset (.var 3)) (.bi .len (.cons (.var 3) .nil))))
noncomputable def Gs(kr kt:Nat):List Stm:=[ir1 kr,ir2 kt,ir3,ir4]
theorem IO(hΔ:∀ f,MonoN (Δ f)){n:Nat}{es:EE}{a:SV}{A:List Nat}{S S0:Sto}{D:EndsS}{o1 o3:Option SV}(hu:∀ e∈es,e.1<e.2/\e.2<n)(hA:A.length<=63)(sa:∀ S',Gw S S'->seqS a S'=some (natS A))(ka:∀ S1 S',Gw S S1->Gw S S'->keepS a S1 S')
 (tl:∀ t∈A,t<es.length) (up:A.Pairwise (·<·)) (G0:Gw S0 S) (q:∀(r:Bool) (S':Sto),Gw S0 S'->(r=true↔Cf es A)->D.rt (.bl r) S'):wSs Δ [ir3,ir4] D [some (g0 n es),o1,some a,o3] S:=by
 refine⟨_,rfl,_,sa S (Gw.refl S),?_⟩;refine Ch (f9 hΔ _).2 (AX hΔ _) (f9 hΔ _).2 (a6 hΔ _).1 (fun i ys S1=>S1=S/\ys=natS (j4 es (A.take i))) ⟨rfl,rfl⟩ (fun _ _ _ h=>by rw[h.1];exact ka S S (Gw.refl S) (Gw.refl S)) ?_ ?_
 ·rintro i x ys S1 hx ⟨rfl,rfl⟩;obtain⟨t,ht,rfl⟩:=BS hx;have hil:=(gM ht).1;have he:=C7 (tl t (RD ht));have el:(j4 es (A.take i)).length<=200:=by rw[Cg,Rg];omega
  refine⟨_,rfl,_,_,rfl,rfl,_,rfl,_,pairS (g8 es t),rfl,f7 (by rw[RI,he];rfl),_,rfl,?_⟩
  have e2:j4 es (A.take (i+1))=j4 es (A.take i)++[(g8 es t).1,(g8 es t).2]:=by
   rw[Sy,ht];unfold j4;rw[List.flatMap_append];rfl
  refine Ci (f9 hΔ _).2 (a6 hΔ _).1 (fun j ρ ys S3=>∃ o,ρ=[some (.int (t:Nat)),o,some (g0 n es)]/\S3=S1/\ys=natS (j4 es (A.take i))++[SV.int (g8 es t).1,SV.int (g8 es t).2].take j) ⟨none,rfl,rfl,by simp⟩ (fun _ _ _ _ _=>trivial) ?_ ?_
  ·rintro j y ρ ys S3 hy ⟨o,rfl,rfl,rfl⟩;have hb:∀ l:List SV,l.length<=2->(natS (j4 es (A.take i))++l).length<big:=fun l hl=>by rw[R9,c5];show _<100000;omega
   match j,hy with
   | 0,hy=>cases hy;exact⟨_,rfl,hb _ (by simp),_,rfl,rfl,by simp⟩
   | 1,hy=>cases hy;exact⟨_,rfl,hb _ (by simp),_,rfl,rfl,by simp⟩
   | j+2,hy=>cases hy
  ·rintro ρ ys S3 ⟨o,rfl,rfl,rfl⟩;exact⟨rfl,by rw[e2,AY];rfl⟩
 ·rintro ys S1 ⟨rfl,rfl⟩;rw[c5,Si];have el:(j4 es A).length<=200:=by rw[Cg];omega
  have h2:(S1++[SO.lst (natS (j4 es A))])[S1.length]?=some (.lst (natS (j4 es A))):=a8;have G2:Gw S1 (S1++[SO.lst (natS (j4 es A))]):=(Gw.refl S1).push;generalize S1.length=l at *;generalize S1++[SO.lst (natS (j4 es A))]=S2 at *;show wSs Δ [ir4] D [some (g0 n es),o1,some a,some (.loc l)] S2;refine⟨_,rfl,_,_,nofun,a5 h2,Fs _,by unfold iN;rw[RC];omega,_,rfl,_,a5 h2,q _ _ (G0.trans G2) ?_⟩
  have nd:(((Bv (iN (j4 es A))).length:Nat):Int)=((natS (j4 es A)).length:Nat)↔(j4 es A).Nodup:=by
   rw[c5,SI,<-KU,<-KS];unfold iN;rw[RC]
  show decide ((((Bv (iN (j4 es A))).length:Nat):Int)=((natS (j4 es A)).length:Nat))=true↔_;rw[dQ,nd];exact⟨Ey,fun h=>MH (QM up) tl h fun e he=>(hu e he).1⟩
noncomputable def Oi(s:Sn):Prop:=∀{n:Nat} {es:EE} {x:SV} {room:Int} {S:Sto} {k b:Nat} {Q:QE},(∀ e∈es,e.1<e.2/\e.2<n)->Gd (VS S) k b x->(∀(r:Bool) (S':Sto),Gw S S'->(r=true↔Cy es room S x)->Q (.bl r) S')->s [g0 n es,.int room,x] S Q
theorem MP(hΔ:∀ f,MonoN (Δ f)){kr kt:Nat}(hr:Oh (Δ kr))(ht:InG (Δ kt) fun _ es=>es.length){D:Df}(hb:D.body=Gs kr kt)(hN:D.N.length=4)(hp:D.ps.length=3):Oi (i8 Δ D):=by
 intro n es x room S k b Q hu h q;unfold i8;rw[hb,hN];refine⟨hp.symm,_,rfl,hr h fun r1 S1 G1 e1=>⟨_,rfl,?_⟩⟩;cases r1 with
 | false=>
   refine ifT rfl (q false S1 G1 ⟨nofun,fun⟨A,sA,uA,_⟩=>?_⟩);exact e1.mpr ⟨iN A,by rw[sA,j8],iN_up.mpr uA⟩
 | true=>
 obtain⟨is,sA,uA⟩:=e1.mp rfl;obtain⟨la,ka⟩:=h.short sA;rw[RC]at la;have lm:(is.map SV.int).length=is.length:=RC ..
 have out:∀ S2,Gw S S2->¬ (0<is.length/\(is.length:Int)<=room)->Q (.bl false) S2:=fun S2 G2 no=>q false S2 G2 ⟨nofun,fun⟨A,sA',_,a,b,_⟩=>absurd (by
  rw[sA,j8]at sA';rw[q0 (oj sA')];unfold iN;rw[RC];exact⟨a,b⟩) no⟩
 refine ifF rfl ⟨_,rfl,_,(h.seqEq G1).trans sA,_,rfl,?_⟩;show if decide ((0:Int)<((is.map SV.int).length:Nat))=true then _ else _
 rw[lm];refine ifD (fun z1=>⟨_,rfl,_,rfl,?_⟩) (fun z1=>⟨_,rfl,ifT rfl (out S1 G1 fun z=>z1 (by omega))⟩);by_cases z2:(is.length:Int)<=room
 case neg=>exact ifT (by rw[decide_eq_false z2];rfl) (out S1 G1 fun z=>z2 z.2)
 refine ifF (by rw[decide_eq_true z2];rfl) (l7 ?_);show wSs Δ [ir2 kt,ir3,ir4] _ [some (g0 n es),some (.int room),some x,none] S1;refine⟨_,rfl,_,(h.seqEq G1).trans sA,KW hΔ ht rfl la (fun S' G=>ka _ _ G1 (G1.trans G)) fun S3 G3=>?_⟩;refine⟨_,_,nofun,a5 a8,Af _ _,_,rfl,?_⟩;have G4:=(G1.trans G3).push (o:=SO.lst ((RL is.length).map fun i => .bl (decide (0<=is.getD i 0)&&decide (is.getD i 0<(es.length:Nat)))));generalize S3++[SO.lst ((RL is.length).map fun i => .bl (decide (0<=is.getD i 0)&&decide (is.getD i 0<(es.length:Nat))))]=S4 at *;cases w:((RL is.length).map fun i=>decide (0<=is.getD i 0)&&decide (is.getD i 0<(es.length:Nat))).all id with
 | false=>
   refine ifT rfl (q false S4 G4 ⟨nofun,fun⟨A,sA',_,_,_,tA,_⟩=>?_⟩);rw[sA,j8]at sA';have:=q0 (oj sA');subst this;rw[all_mapF.mpr (MO tA)]at w;cases w
 | true=>
 obtain⟨A,rfl,tA⟩:=Gq (all_mapF.mp w);rw[<-j8]at sA;have lA:(iN A).length=A.length:=by unfold iN;rw[RC]
 rw[lA]at la z1 z2;refine ifF rfl (l7 ?_);refine IO hΔ hu la (fun S' G=>(h.seqEq (G4.trans G)).trans sA) (fun S1 S' a b=>ka _ _ (G4.trans a) (G4.trans b)) tA (iN_up.mp uA) G4 fun r S' G e=>q r S' G (e.trans ?_);constructor
 ·exact fun ap=>⟨A,sA,iN_up.mp uA,by omega,z2,tA,ap⟩
 ·rintro⟨A',sA',_,_,_,_,ap⟩;rw[sA]at sA';rw[Az (oj sA')];exact ap
end
theorem F0:∀{a b:List Int},Cu (a.map SV.int) (b.map SV.int)=true↔a=b
 | [],[]=>⟨fun _=>rfl,fun _=>rfl⟩
 | [],_::_=>⟨nofun,nofun⟩
 | _::_,[]=>⟨nofun,nofun⟩
 | x::a,y::b=>by
   have ih:=F0 (a:=a) (b:=b)
   have e:Cu ((x::a).map SV.int) ((y::b).map SV.int)=((x == y)&&Cu (a.map SV.int) (b.map SV.int)):=by
    show((a.map SV.int).length+1 == (b.map SV.int).length+1&&((x == y)&&_))=((x == y)&&((a.map SV.int).length == (b.map SV.int).length&&_))
    have:((a.map SV.int).length+1 == (b.map SV.int).length+1)=((a.map SV.int).length == (b.map SV.int).length):=by
     rw[Rx,bQ,bQ];omega
    rw[this];cases(x == y)<;>cases((a.map SV.int).length == (b.map SV.int).length)<;>rfl
   rw[e,RA,ih,bQ];exact⟨fun⟨p,q⟩=>by rw[p,q],fun h=>⟨(U6.inj h).1,(U6.inj h).2⟩⟩
theorem AZ{xs:List SV}{i:Nat}(h:i<=xs.length):Bz xs none (some (i:Int))=xs.take i:=by
 unfold Bz;rw[HT.sIx_nat,Uj h];rfl
theorem MQ{F:List Nat}{n:Nat}(nd:F.Nodup)(hl:∀ t∈F,t<n)(e:F.length=n):F.Perm (RL n):=by
 refine(List.perm_ext_iff_of_nodup nd U9).mpr fun a=>⟨fun h=>Rq.mpr (hl a h),fun h=>?_⟩
 refine Decidable.byContradiction fun z=>?_;have:=List.Nodup.length_le_of_subset (SR.mpr ⟨z,nd⟩) (l₂:=RL n) fun b hb=>(RM.mp hb).elim (fun e=>e▸h) fun h=>Rq.mpr (hl b h);rw[Rt,Sb]at this;omega
theorem KY{A B:List Nat}(h:iN A=iN B):A=B:=Az (by rw[j8,j8,h])
theorem F1{F A:List Nat}{n:Nat}(hA:srt (iN F)=iN A)(p:A.Perm F)(hl:∀ t∈F,t<n):A=RL n↔F.Nodup/\F.length=n:=by
 constructor
 ·rintro rfl;exact⟨p.nodup_iff.mp U9,by rw[<-p.length_eq,Sb]⟩
 ·rintro⟨nd,e⟩;have q:=MQ nd hl e;refine KY (hA.symm.trans ?_);refine(J5 ?_ ?_).symm
  ·unfold iN;exact(q.map _).symm
  ·unfold iN;exact TH.mpr (List.pairwise_lt_range.imp fun{a b} h=>by show(a:Int)<=b;omega)
theorem Gv{es:EE}{room:Int}{S:Sto}:∀{xs:List SV},(∀ y∈xs,Cy es room S y)->∃ tss:List (List Nat),xs.length=tss.length/\(∀(i:Nat) (y:SV) (ts:List Nat),xs[i]?=some y->tss[i]?=some ts->seqS y S=some (natS ts))/\∀ ts∈tss,DO es room ts
 | [],_=>⟨[],rfl,(fun _ _ _ h=>by simp at h),fun _ h=>nomatch h⟩
 | x::xs,h=>by
   obtain⟨ts,e,r⟩:=h x (RS ..);obtain⟨tss,l,a,b⟩:=Gv (xs:=xs) fun y hy=>h y (RK _ hy);refine⟨ts::tss,by rw[Rt,Rt,l],fun i y us h1 h2=>?_,fun us hu=>?_⟩
   ·cases i with
    | zero=>cases h1;cases h2;exact e
    | succ i=>exact a i y us h1 h2
   ·rcases RM.mp hu with rfl | hu
    ·exact r
    ·exact b us hu
theorem IsRows.uniq{S:Sto}{x:SV}{a b:List (List Nat)}(ha:IsRows S x a)(hb:IsRows S x b):a=b:=by
 obtain⟨ys,e,l,h⟩:=ha.ex;obtain⟨zs,e',l',h'⟩:=hb.ex;rw[e]at e';cases e';refine Tn (l.symm.trans l') fun i h1 h2=>?_;have hy:=RB (show i<ys.length by omega);have p:=h i _ _ hy (RB h1);rw[h' i _ _ hy (RB h2)]at p;exact(Az (oj p)).symm
theorem IP{tss:List (List Nat)}{i:Nat}{ts:List Nat}(h:tss[i]?=some ts):(tss.take (i+1)).flatten=(tss.take i).flatten++ts:=by
 rw[Sy,h,Ta,SE,TC]
theorem MR(tss:List (List Nat))(i:Nat):(tss.take i).flatten.length<=tss.flatten.length:=by
 have e:tss.flatten=(tss.take i).flatten++(tss.drop i).flatten:=by rw[<-SE,Tj]
 rw[e,R9];omega
section
variable{Δ:Nat->Sn}
noncomputable def so1(kl ko:Nat):Stm:=(.iff (.or (.not (.call kl (.cons (.var 2) .nil))) (.not (.bi .all (.cons (.comp ["row"] ["web","room"] [0,1] (.nm 0) (.seq (.var 2)) .no (.call ko (.cons (.var 1) (.cons (.var 2) (.cons (.var 0) .nil))))) .nil)))) [(.ret (.c (.bl false)))] [])
noncomputable def so2:Stm:=(.ret (.cmp .Eq (.bi .sorted (.cons (.comp2 ["row","tie"] [] [] (.nm 0) (.seq (.var 2)) .no (.nm 1) (.seq (.var 0)) .no (.var 1)) .nil)) (.lrng1 (.bi .len (.cons (.ix (.var 0) (.c (.int 1))) .nil)))))
noncomputable def F2(kl ko:Nat):List Stm:=[so1 kl ko,so2]
noncomputable def Gx(s:Sn):Prop:=∀{n:Nat} {es:EE} {x:SV} {room:Int} {S:Sto} {k b:Nat} {Q:QE},(∀ e∈es,e.1<e.2/\e.2<n)->es.length<=1000->Gd (VS S) k b x->(∀ tss,IsRows S x tss->tss.flatten.length<64)->(∀(r:Bool) (S':Sto),Gw S S'->(r=true↔DP es room S x)->Q (.bl r) S')->s [g0 n es,.int room,x] S Q
theorem KZ(hΔ:∀ f,MonoN (Δ f)){kl ko:Nat}(hl:MK (Δ kl))(ho:Oi (Δ ko)){D:Df}(hb:D.body=F2 kl ko)(hN:D.N.length=3)(hp:D.ps.length=3):Gx (i8 Δ D):=by
 intro n es x room S k b Q hu hel h hT q;unfold i8;rw[hb,hN];refine⟨hp.symm,_,rfl,hl h ?_⟩;rcases h.split with⟨e,no⟩ | ⟨xs,V⟩
 ·rw[e];exact⟨_,rfl,ifT rfl (q false S (Gw.refl S) ⟨nofun,fun⟨tss,I,_⟩=>let ⟨ys,z,_⟩:=I.ex;absurd z (no _)⟩)⟩
 rw[V.ls];have s0:=V.seq S (Gw.refl S);have hxl:=V.len;obtain⟨k',b',hg⟩:=V.gd;refine⟨_,rfl,ifF rfl ⟨_,rfl,_,s0,?_⟩⟩;refine A0 hΔ (fun i=>@decide (Cy es room S (xs.getD i .non)) (Classical.propDecidable _)) (by omega) (fun S' G=>V.keep S S' (Gw.refl S) G) ?_ ?_
 ·intro i y S' hy G;have gy:=hg y (RD hy);refine⟨_,rfl,_,rfl,_,rfl,ho hu (gy.grow G) fun r S2 G2 e=>⟨?_,G.trans G2⟩⟩;have ey:xs.getD i .non=y:=by rw[RW,hy];rfl
  congr 1
  have eP:Cy es room S' y↔Cy es room S y:=by unfold Cy;rw[gy.seqEq G]
  refine Rx.mpr ?_;rw[e,eP,@dQ _ (Classical.propDecidable _),ey]
 intro S1 G1;have G2:=G1.push (o:=SO.lst ((RL xs.length).map fun i => .bl (@decide (Cy es room S (xs.getD i .non)) (Classical.propDecidable _))));refine⟨_,_,nofun,a5 a8,Af _ _,_,rfl,?_⟩;generalize S1++[SO.lst ((RL xs.length).map fun i => .bl (@decide (Cy es room S (xs.getD i .non)) (Classical.propDecidable _)))]=S2 at *;by_cases hA:((RL xs.length).map fun i=>@decide (Cy es room S (xs.getD i .non)) (Classical.propDecidable _)).all id=true
 case neg=>
  have hA':((RL xs.length).map fun i=>@decide (Cy es room S (xs.getD i .non)) (Classical.propDecidable _)).all id=false:=by simpa using hA
  rw[hA'];refine ifT rfl (q false S2 G2 ⟨nofun,fun⟨tss,I,ro,_⟩=>absurd ?_ hA⟩);obtain⟨ys,z,l,hr⟩:=I.ex;rw[s0]at z;cases z;refine all_mapF.mpr fun i hi=>@decide_eq_true _ (Classical.propDecidable _) ?_;have hy:=RB hi;have ht:=RB (show i<tss.length by omega);rw[RW,hy];exact⟨_,hr i _ _ hy ht,ro _ (Rv _)⟩
 rw[hA];refine ifF rfl (l7 ?_);have hA:=all_mapF.mp hA
 obtain⟨tss,tl,hr,ro⟩:=Gv (es:=es) (room:=room) (S:=S) (xs:=xs) fun y hy=>by
  obtain⟨i,hi,rfl⟩:=Sv hy;have:=@of_decide_eq_true _ (Classical.propDecidable _) (hA i hi)
  rwa [RW,RB hi]at this
 have I:IsRows S x tss:=⟨xs,s0,tl,hr⟩
 have T:=hT tss I;refine⟨_,rfl,_,V.seq S2 G2,?_⟩;refine Ch (f9 hΔ _).2 (AX hΔ _) (f9 hΔ _).2 (a6 hΔ _).1 (fun i ys S3=>S3=S2/\ys=natS (tss.take i).flatten) ⟨rfl,rfl⟩ (fun _ _ _ h=>by rw[h.1];exact V.keep S2 S2 G2 G2) ?_ ?_
 ·rintro i y ys S3 hy ⟨rfl,rfl⟩;have gy:=hg y (RD hy);have hil:=(gM hy).1;have ht:=RB (show i<tss.length by omega);generalize tss[i]=ts at *;have sy:=(gy.seqEq G2).trans (hr i y ts hy ht);obtain⟨ly,ky⟩:=gy.short (hr i y ts hy ht);have hf:=MR tss i;rw[c5]at ly;refine⟨_,rfl,_,sy,?_⟩;refine Ci (f9 hΔ _).2 (a6 hΔ _).1 (fun j ρ ys S4=>∃ o,ρ=[some y,o]/\S4=S3/\ys=natS ((tss.take i).flatten++ts.take j)) ⟨none,rfl,rfl,by simp⟩ (fun _ _ _ _ h=>by obtain⟨_,_,h,_⟩:=h;rw[h];exact ky _ _ G2 G2) ?_ ?_
  ·rintro j z ρ ys S4 hz ⟨o,rfl,rfl,rfl⟩;obtain⟨t,ht',rfl⟩:=BS hz;refine⟨_,rfl,by rw[c5,R9,Rg];show _<100000;omega,_,rfl,rfl,?_⟩;rw[Sy,ht',Ta,<-Tc,AY (ys:=[t])];rfl
  ·rintro ρ ys S4 ⟨o,rfl,rfl,rfl⟩;exact⟨rfl,by rw[c5,Si,IP ht]⟩
 ·rintro ys S3 ⟨rfl,rfl⟩;rw[tl,Si];refine⟨_,_,nofun,a5 a8,Fs _,by unfold iN;rw[RC];omega,?_⟩;obtain⟨A,eA,pA⟩:=Gr tss.flatten;rw[eA,Du];refine⟨_,rfl,_,_,rfl,rfl,_,rfl,_,rfl,⟨by rw[RC];omega,by rw[RC];omega⟩,?_⟩;rw[RC,Gk];refine⟨_,_,c7 a8,a8,.inl ⟨DM _,DM _⟩,?_⟩;refine q _ _ G2.push.push.push ?_;rw[j8,j8,F0]
  have hlt:∀ t∈tss.flatten,t<es.length:=fun t ht=>by
   obtain⟨ts,h1,h2⟩:=Ue.mp ht;exact(ro ts h1).2.2.2.1 t h2
  constructor
  ·intro e;obtain⟨a,b⟩:=(F1 eA pA hlt).mp (KY e);exact⟨tss,I,ro,a,b⟩
  ·rintro⟨tss',I',_,a,b⟩;rw[I'.uniq I]at a b;rw[(F1 eA pA hlt).mpr ⟨a,b⟩]
end
noncomputable def An(F:List Nat):List (Int×SV):=F.map fun(t:Nat)=>((t:Int),SV.bl true)
theorem Gy:∀(F:List Nat) (t:Nat),(C0 (An F) (t:Int)).isSome=decide (t∈F)
 | [],t=>rfl
 | a::F,t=>by
   have ih:=Gy F t;unfold C0 An at ih ⊢;rw[RV,So];by_cases z:a=t
   ·subst z;simp
   ·have z':decide ((a:Int)=(t:Int))=false:=decide_eq_false fun h=>z (SI.mp h);rw[z',ih,decide_eq_decide,RM];exact⟨.inr,fun h=>h.resolve_left fun e=>z e.symm⟩
theorem MS{F:List Nat}{t:Nat}(h:t∉F):CO (An F) (t:Int) (.bl true)=An (F++[t]):=by
 unfold CO;rw[iG]
 ·unfold An;rw[Rm];rfl
 ·intro z;rw[Sh]at z;obtain⟨p,hp,e⟩:=z;obtain⟨u,hu,rfl⟩:=SC.mp hp;have e:(u:Int)=(t:Int):=of_decide_eq_true e;exact h (SI.mp e▸hu)
section
variable{Δ:Nat->Sn}
noncomputable def DQ(s:Sn):Prop:=∀{n t u:Nat} {es:EE} {S:Sto} {Q:QE},t<es.length->u<es.length->(∀ v:Bool,(v=true↔Shr es t u)->Q (.bl v) S)->s [g0 n es,.int t,.int u] S Q
theorem Ka{D:Df}(hb:D.body=N3)(hN:D.N.length=3)(hp:D.ps.length=3):DQ (i8 Δ D):=by
 intro n t u es S Q ht hu q;unfold i8;rw[hb,hN];have h1:atI (es.map pairS) (t:Int)=some (pairS (g8 es t)):=f7 (by rw[RI,C7 ht];rfl);have h2:atI (es.map pairS) (u:Int)=some (pairS (g8 es u)):=f7 (by rw[RI,C7 hu];rfl);refine⟨hp.symm,_,rfl,_,_,rfl,rfl,_,rfl,_,_,rfl,h1,_,.int ((g8 es t).1:Nat),rfl,rfl,_,rfl,_,_,rfl,rfl,_,rfl,_,_,rfl,h2,rfl,_,rfl,rfl,_,rfl,?_⟩;show if inS (.int (g8 es t).1) [.int (g8 es u).1,.int (g8 es u).2]=true then _ else _
 rw[Gj];refine ifB (fun z=>q true ⟨fun _=>?_,fun _=>rfl⟩) (fun z=>?_)
 ·refine⟨(g8 es t).1,.inl rfl,?_⟩;simp only[Ru,dQ]at z;exact z.imp Eq.symm Eq.symm
 ·refine⟨_,rfl,_,_,rfl,rfl,_,rfl,_,_,rfl,h1,_,.int ((g8 es t).2:Nat),rfl,rfl,_,rfl,_,_,rfl,rfl,_,rfl,_,_,rfl,h2,rfl,_,rfl,rfl,?_⟩;show Q (.bl (inS (.int (g8 es t).2) [.int (g8 es u).1,.int (g8 es u).2])) S;rw[Gj];refine q _ ⟨fun z=>⟨(g8 es t).2,.inr rfl,?_⟩,?_⟩
  ·simp only[Ru,dQ]at z;exact z.imp Eq.symm Eq.symm
  ·rintro⟨p,rfl | rfl,h⟩
   ·simp only[UN,decide_eq_false_iff_not]at z;exact absurd (h.imp Eq.symm Eq.symm) (not_or.mpr z)
   ·simp only[Ru,dQ];exact h.imp Eq.symm Eq.symm
theorem MU{a:SV}{xs:List SV}{i:Nat}{S:Sto}{Q:QE}(V:SeqV S a xs){S1:Sto}(G:Gw S S1)(h:i<=xs.length)(q:∀(y:SV) (S':Sto),Gw S1 S'->seqS y S'=some (xs.take i)->(∀ S2,Gw S' S2->keepS y S' S2)->Q y S'):Hq a none (some (i:Int)) S1 Q:=by
 have hs:=V.seq S1 G;cases a with
 | tup ys=>
   cases hs;show Q (.tup (Bz xs none (some (i:Int)))) S1;rw[AZ h];exact q _ _ (Gw.refl _) rfl fun _ _=>trivial
 | loc l=>
   have hl:S1[l]?=some (.lst xs):=by
    have hs:(match S1[l]? with | some (SO.lst xs)=>some xs | _=>none)=some xs:=hs;cases e:S1[l]? with
    | none=>rw[e]at hs;cases hs
    | some o=>
      rw[e]at hs;cases o with
      | lst ys=>cases hs;rfl
      | _=>cases hs
   refine⟨xs,hl,?_⟩;rw[AZ h];exact q _ _ (Gw.refl _).push (a5 a8) fun S2 G2=>by show S2[_]?=(S1++_)[_]?;rw[a8,G2.keep _ _ a8]
 | _=>exact absurd V.ls nofun
end
noncomputable def QP:SV->Bool
 | .int _=>true
 | .bl _=>true
 | _=>false
noncomputable def isB:SV->Bool
 | .bl _=>true
 | _=>false
section
variable{Δ:Nat->Sn}
noncomputable def eLT(j:Nat):Ex := .bi .isi (.cons (.var j) (.cons (.tup (.cons (.tyc .list) (.cons (.tyc .tuple) .nil))) .nil))
noncomputable def eIn(j:Nat):Ex := .bi .isi (.cons (.var j) (.cons (.tyc .int) .nil))
noncomputable def eBo(j:Nat):Ex := .bi .isi (.cons (.var j) (.cons (.tyc .bool) .nil))
theorem Kb{j:Nat}{ρ:EnvS}{x:SV}{S:Sto}{k b:Nat}{Q:QE}(hj:ρ[j]?=some (some x))(h:Gd (VS S) k b x)(q:Q (.bl (isL x)) S):(wEx Δ (eLT j)).1 ρ S Q:=by
 have b2:2<=big:=by decide
 cases h with
 | non=>exact⟨_,hj,b2,_,[.list,.tuple],by decide,rfl,rfl,q⟩
 | bl c=>exact⟨_,hj,b2,_,[.list,.tuple],by decide,rfl,rfl,q⟩
 | int h=>exact⟨_,hj,b2,_,[.list,.tuple],by decide,rfl,rfl,q⟩
 | str h hb'=>exact⟨_,hj,b2,_,[.list,.tuple],by decide,rfl,rfl,q⟩
 | tup h hl hc=>exact⟨_,hj,b2,_,[.list,.tuple],by decide,rfl,rfl,q⟩
 | lst hv h hl hc=>exact⟨_,hj,b2,_,[.list,.tuple],by decide,Bk hv,rfl,q⟩
theorem Oj{j:Nat}{ρ:EnvS}{x:SV}{S:Sto}{k b:Nat}{Q:QE}(hj:ρ[j]?=some (some x))(h:Gd (VS S) k b x)(q:Q (.bl (QP x)) S):(wEx Δ (eIn j)).1 ρ S Q:=by
 cases h with
 | non=>exact⟨_,hj,_,nofun,rfl,q⟩
 | bl c=>exact⟨_,hj,_,nofun,rfl,q⟩
 | int h=>exact⟨_,hj,_,nofun,rfl,q⟩
 | str h hb'=>exact⟨_,hj,_,nofun,rfl,q⟩
 | tup h hl hc=>exact⟨_,hj,_,nofun,rfl,q⟩
 | lst hv h hl hc=>exact⟨_,hj,_,nofun,Bk hv,q⟩
theorem Ol{j:Nat}{ρ:EnvS}{x:SV}{S:Sto}{k b:Nat}{Q:QE}(hj:ρ[j]?=some (some x))(h:Gd (VS S) k b x)(q:Q (.bl (isB x)) S):(wEx Δ (eBo j)).1 ρ S Q:=by
 cases h with
 | non=>exact⟨_,hj,_,nofun,rfl,q⟩
 | bl c=>exact⟨_,hj,_,nofun,rfl,q⟩
 | int h=>exact⟨_,hj,_,nofun,rfl,q⟩
 | str h hb'=>exact⟨_,hj,_,nofun,rfl,q⟩
 | tup h hl hc=>exact⟨_,hj,_,nofun,rfl,q⟩
 | lst hv h hl hc=>exact⟨_,hj,_,nofun,Bk hv,q⟩
noncomputable def lp1:Stm:=(.iff (.not (eLT 2)) [(.ret (.c (.bl false)))] [])
noncomputable def lpR:Stm:=(.iff (.or (.not (eLT 4)) (.not (.chn .Lt .LtE (.c (.int 0)) (.bi .len (.cons (.var 4) .nil)) (.var 1)))) [(.ret (.c (.bl false)))] [])
noncomputable def lpI:Stm:=(.iff (.or (.not (eIn 6)) (.or (eBo 6) (.or (.not (.chn .LtE .Lt (.c (.int 0)) (.var 6) (.bi .len (.cons (.ix (.var 0) (.c (.int 1))) .nil)))) (.din false (.var 6) (.var 3))))) [(.ret (.c (.bl false)))] [])
noncomputable def lpJ(km:Nat):Stm:=(.iff (.or (.and (.cmp .Gt (.var 5) (.c (.int 0))) (.cmp .GtE (.ix (.var 4) (.op .Sub (.var 5) (.c (.int 1)))) (.var 6))) (.bi .any (.cons (.comp ["_law_other"] ["_law_web_here","_law_tie"] [0,6] (.nm 0) (.seq (.slc (.var 4) .no (.yes (.var 5)))) .no (.call km (.cons (.var 1) (.cons (.var 2) (.cons (.var 0) .nil))))) .nil))) [(.ret (.c (.bl false)))] [])
noncomputable def lpK:Stm:=(.dput (.var 3) (.var 6) (.c (.bl true)))
noncomputable def lpL(km:Nat):Stm:=(.loop (.tup (.cons (.nm 5) (.cons (.nm 6) .nil))) (.enum (.var 4)) [lpI,lpJ km,lpK])
noncomputable def lp9:Stm:=(.ret (.cmp .Eq (.lend (.var 3)) (.bi .len (.cons (.ix (.var 0) (.c (.int 1))) .nil))))
noncomputable def Kc(km:Nat):List Stm:=[(.asg (.nm 3) .dnew),lp1,(.loop (.nm 4) (.seq (.var 2)) [lpR,lpL km]),lp9]
theorem Om{n:Nat}{es:EE}{o1 o2 o4 o5:Option SV}{y:SV}{S:Sto}{k b d:Nat}{F:List Nat}{D:EndsS}(h:Gd (VS S) k b y)(hd:S[d]?=some (.dct (An F)))(yes:∀ t:Nat,y = .int t->t<es.length->t∉F->D.nx [some (g0 n es),o1,o2,some (.loc d),o4,o5,some y] S)
 (no:(∀ t:Nat,y = .int t->t<es.length->t∉F->False)->D.rt (.bl false) S):wSt Δ lpI D [some (g0 n es),o1,o2,some (.loc d),o4,o5,some y] S:=by
 refine Oj (j:=6) rfl h ⟨_,rfl,?_⟩;cases h1:QP y with
 | false=>exact ifT rfl (no fun t e=>by rw[e]at h1;cases h1)
 | true=>
   refine ifF rfl (Ol (j:=6) rfl h ⟨_,rfl,?_⟩);cases h2:isB y with
   | true=>exact ifT rfl (no fun t e=>by rw[e]at h2;cases h2)
   | false=>
     refine ifF rfl ?_;cases y with
     | int i=>
       refine⟨_,rfl,_,rfl,?_⟩;refine ifD (fun z=>⟨_,rfl,_,_,rfl,rfl,_,rfl,_,rfl,?_⟩) (fun z=>⟨_,rfl,ifT rfl (no fun t e=>by cases e;omega)⟩);obtain⟨t,rfl⟩:=Sd z;show if (!decide ((t:Int)<((es.map pairS).length:Nat)))=true then _ else _
       rw[RC];by_cases z2:(t:Int)<(es.length:Nat)
       ·refine ifF (by rw[decide_eq_true z2];rfl) ⟨_,rfl,_,rfl,An F,t,?_,rfl,_,rfl,?_⟩
        ·show(match S[d]? with | some (SO.dct kvs)=>some kvs | some (SO.dcf _ _ kvs)=>some kvs | _=>none)=_;rw[hd]
        ·show if (C0 (An F) (t:Int)).isSome=true then _ else _
         rw[Gy];refine ifD (fun m=>no fun u e _ nm=>?_) (fun m=>yes t rfl (by omega) m);have e:((t:Nat):Int)=(u:Nat):=SV.int.inj e;exact nm (SI.mp e▸m)
       ·exact ifT (by rw[decide_eq_false z2];rfl) (no fun u e hu _=>by
         have e:((t:Nat):Int)=(u:Nat):=SV.int.inj e;omega)
     | bl c=>cases h2
     | _=>cases h1
theorem Oo(hΔ:∀ f,MonoN (Δ f)){km:Nat}(hm:DQ (Δ km)){n t:Nat}{es:EE}{o1 o2 o3:Option SV}{r:SV}{zs:List SV}{us:List Nat}{S S1:Sto}{D:EndsS}(V:SeqV S r zs)(G1:Gw S S1)(hz:zs.take us.length=natS us)(hul:us.length<=zs.length)(tl:∀ u∈us,u<es.length)(ht:t<es.length)
 (yes:∀ S',Gw S1 S'->(∀ u∈us.getLast?,u<t)->(∀ u∈us,¬ Shr es t u)->D.nx [some (g0 n es),o1,o2,o3,some r,some (.int (us.length:Nat)),some (.int (t:Nat))] S')
 (no:∀ S',Gw S1 S'->((∃ u∈us.getLast?,t<=u)\/∃ u∈us,Shr es t u)->D.rt (.bl false) S'):wSt Δ (lpJ km) D [some (g0 n es),o1,o2,o3,some r,some (.int (us.length:Nat)),some (.int (t:Nat))] S1:=by
 have hl:=V.len
 have rest:(∀ u∈us.getLast?,u<t)->(wEx Δ (.bi .any (.cons (.comp ["_law_other"] ["_law_web_here","_law_tie"] [0,6] (.nm 0) (.seq (.slc (.var 4) .no (.yes (.var 5)))) .no (.call km (.cons (.var 1) (.cons (.var 2) (.cons (.var 0) .nil))))) .nil))).2 [some (g0 n es),o1,o2,o3,some r,some (.int (us.length:Nat)),some (.int (t:Nat))] S1 fun c S2=>if c=true then wSs Δ [(.ret (.c (.bl false)))] D [some (g0 n es),o1,o2,o3,some r,some (.int (us.length:Nat)),some (.int (t:Nat))] S2 else wSs Δ [] D [some (g0 n es),o1,o2,o3,some r,some (.int (us.length:Nat)),some (.int (t:Nat))] S2:=by
  intro up;refine⟨_,rfl,_,rfl,_,rfl,MU (i:=us.length) V G1 hul fun z S2 G2 sz kz=>⟨_,sz,?_⟩⟩;rw[hz];refine A0 hΔ (fun i=>@decide (Shr es t (us.getD i 0)) (Classical.propDecidable _)) (by rw[c5];omega) (fun S' G=>kz S' G) ?_ ?_
  ·intro i y S' hy G;obtain⟨u,hu,rfl⟩:=BS hy;refine⟨_,rfl,_,rfl,_,rfl,hm ht (tl u (RD hu)) fun v e=>⟨?_,G⟩⟩;have eu:us.getD i 0=u:=by rw[RW,hu];rfl
   congr 1
   refine Rx.mpr ?_;rw[e,@dQ _ (Classical.propDecidable _),eu]
  ·intro S3 G3;refine⟨_,_,nofun,a5 a8,Af _ _,_,rfl,?_⟩;have G4:=(G2.trans G3).push (o:=SO.lst ((RL (natS us).length).map fun i => .bl (@decide (Shr es t (us.getD i 0)) (Classical.propDecidable _))));refine ifB (fun z=>no _ G4 (.inr ?_)) (fun z=>yes _ G4 up fun u hu sh=>?_)
   ·obtain⟨i,hi,w⟩:=any_mapF.mp z;rw[c5]at hi;have w:=@of_decide_eq_true _ (Classical.propDecidable _) w;rw[RW,RB hi]at w;exact⟨_,Rv hi,w⟩
   ·obtain⟨i,hi,rfl⟩:=Sv hu;rw[any_mapF.mpr ⟨i,by rw[c5];exact hi,@decide_eq_true _ (Classical.propDecidable _) (by rw[RW,RB hi];exact sh)⟩]at z;cases z
 refine⟨_,rfl,_,rfl,?_⟩;refine ifD (fun z=>?_) (fun z=>rest fun u hu=>?_)
 ·have z:(0:Int)<(us.length:Nat):=z;obtain⟨vs,u,rfl⟩:∃ vs u,us=vs++[u]:=⟨us.dropLast,us.getLast (by intro e;rw[e]at z;exact absurd z (by simp)),(List.dropLast_concat_getLast _).symm⟩
  have hu:zs[vs.length]?=some (.int (u:Nat)):=by
   have e:(zs.take (vs++[u]).length)[vs.length]?=(natS (vs++[u]))[vs.length]?:=by rw[hz]
   rw[UT,iP (by simp)]at e;rw[e];exact Ew (by simp)
  have ha:atI zs (((vs++[u]).length:Nat) - 1:Int)=some (.int (u:Nat)):=by
   have e:(((vs++[u]).length:Nat):Int) - 1=(vs.length:Nat):=by simp
   rw[e];exact f7 hu
  refine⟨_,rfl,_,rfl,_,_,V.seq S1 G1,ha,_,rfl,_,rfl,?_⟩;have gl:(vs++[u]).getLast?=some u:=by simp
  refine ifD (fun w=>no S1 (Gw.refl _) (.inl ⟨u,gl,by have w:(t:Int)<=(u:Nat):=w;omega⟩)) (fun w=>rest fun v hv=>?_);rw[gl]at hv;cases hv;have w:¬ (t:Int)<=(u:Nat):=w;omega
 ·cases us with
  | nil=>cases hu
  | cons a l=>exact absurd (show(0:Int)<((a::l).length:Nat) by simp) z
theorem Kd{es:EE}{room:Int}{S:Sto}{x y:SV}{xs:List SV}{tss:List (List Nat)}(sx:seqS x S=some xs)(hr:∀(i:Nat) (y:SV) (ts:List Nat),xs[i]?=some y->tss[i]?=some ts->seqS y S=some (natS ts))(hy:xs[tss.length]?=some y)(P:DP es room S x):
 ∃ ts,seqS y S=some (natS ts)/\DO es room ts/\∀ t∈ts,t∉tss.flatten:=by
 obtain⟨uss,I,ro,nd,_⟩:=P;obtain⟨ys,e,l,h⟩:=I.ex;rw[sx]at e;cases e;have hi:=(gM hy).1;have hu:=RB (show tss.length<uss.length by omega);refine⟨_,h _ _ _ hy hu,ro _ (Rv _),fun t ht m=>?_⟩
 have eq:uss.take tss.length=tss:=by
  refine Tn (by rw[Rg];omega) fun i h1 h2=>?_;have hx:=RB (show i<xs.length by omega);have a:=h i _ _ hx (RB (show i<uss.length by omega));rw[hr i _ _ hx (RB h2)]at a;rw[Ua];exact(Az (oj a)).symm
 have e2:uss.flatten=tss.flatten++(uss.drop tss.length).flatten:=by
  have w:=Tj tss.length uss;rw[eq]at w;rw[<-SE,w]
 rw[e2]at nd;refine(SZ.mp nd).2.2 t m t ?_ rfl;rw[Ue];exact⟨_,by rw[SS (show tss.length<uss.length by omega)];exact RS ..,ht⟩
end
noncomputable def Dv(s:Sn):Prop:=∀{n:Nat} {es:EE} {x:SV} {room:Int} {S:Sto} {k b:Nat} {Q:QE},Gd (VS S) k b x->(∀(r:Bool) (S':Sto),Gw S S'->(r=true↔DP es room S x)->Q (.bl r) S')->s [g0 n es,.int room,x] S Q
section
variable{Δ:Nat->Sn}
theorem Op(hΔ:∀ f,MonoN (Δ f)){km:Nat}(hm:DQ (Δ km)){n d:Nat}{es:EE}{o1 o2 o5 o6:Option SV}{r:SV}{zs:List SV}{F:List Nat}{S S1:Sto}{D:EndsS}(V:SeqV S r zs)(G1:Gw S S1)(hd:S1[d]?=some (.dct (An F)))(hS:S.length<=d)(hF:F.length<=5000)(nd:F.Nodup)
 (yes:∀(us:List Nat) (S':Sto) (o5 o6:Option SV),Gw S S'->zs=natS us->us.Pairwise (·<·)->(∀ t∈us,t<es.length)->Cf es us->(F++us).Nodup->S'[d]?=some (.dct (An (F++us)))->D.nx [some (g0 n es),o1,o2,some (.loc d),some r,o5,o6] S')
 (no:∀ S',Gw S S'->(∀ us:List Nat,zs=natS us->us.Pairwise (·<·)->(∀ t∈us,t<es.length)->Cf es us->(∀ t∈us,t∉F)->False)->D.rt (.bl false) S'):wSt Δ (lpL km) D [some (g0 n es),o1,o2,some (.loc d),some r,o5,o6] S1:=by
 have hl:=V.len;obtain⟨k,b,hg⟩:=V.gd;refine⟨_,rfl,_,V.seq S1 G1,?_⟩
 refine BQ (g6 hΔ _) (fun j ρ S2=>∃(us:List Nat) (o5 o6:Option SV),ρ=[some (g0 n es),o1,o2,some (.loc d),some r,o5,o6]/\us.length=j/\Gw S S2/\zs.take j=natS us/\us.Pairwise (·<·)/\(∀ t∈us,t<es.length)/\Cf es us/\(F++us).Nodup/\S2[d]?=some (.dct (An (F++us))))
  ⟨[],_,_,rfl,rfl,G1,by simp[natS],.nil,(fun _ h=>nomatch h),(fun _ h=>nomatch h),by rw[TX];exact nd,by rw[TX];exact hd⟩ (fun _ _ S2 h=>by obtain⟨_,_,_,_,_,G,_⟩:=h;exact V.keep _ _ G1 G) ?_ ?_
 ·rintro j x ρ S2 E hE hrt hx ⟨us,o5,o6,rfl,rfl,G2,tk,up,tl,ap,nd2,hd2⟩;obtain⟨y,hy,rfl⟩:=KN hx;have hj:=(gM hy).1
  have ev:∀ ts,zs=natS ts->us=ts.take us.length/\∃ t,ts[us.length]?=some t/\y = .int (t:Nat):=fun ts e=>by
   refine⟨Az ?_,?_⟩
   ·rw[<-tk,e];unfold natS;rw[UO]
   ·rw[e]at hy;exact BS hy
  have Bt:∀(ts:List Nat) (t u:Nat),ts.Pairwise (·<·)->us=ts.take us.length->ts[us.length]?=some t->u∈us->u<t:=fun ts t u up' eu et hu=>by
   rw[eu]at hu;obtain⟨i,hi,rfl⟩:=Sv hu;rw[Rg]at hi;have:=(Sm.mp up') i us.length (by omega) (gM et).1 (by omega);rw[(gM et).2]at this;rw[Ua];exact this
  refine Om ((hg y (RD hy)).grow G2) hd2 (fun t e ht nm=>?_) fun bad=>?_
  ·subst e;have nF:t∉F:=fun m=>nm (Tp _ m);refine Oo hΔ hm V G2 tk (Tb hj) tl ht (fun S3 G3 hlast hsh=>?_) fun S3 G3 bad=>?_
   ·have hlt:∀ u∈us,u<t:=fun u hu=>by
     have hne:us≠[]:=fun e=>by rw[e]at hu;cases hu
     have h1:=hlast (us.getLast hne) (List.getLast?_eq_getLast hne);obtain⟨i,hi,rfl⟩:=Sv hu;rw[List.getLast_eq_getElem]at h1;rcases TB i (us.length - 1) with z | z
     ·exact Ux ((Sm.mp up) i (us.length - 1) hi (by omega) z) h1
     ·have:i=us.length - 1:=by omega
      subst this;exact h1
    refine⟨_,rfl,_,rfl,d,t,An (F++us),rfl,rfl,.inl (G3.keep _ _ hd2),?_,?_⟩
    ·unfold An;rw[RC,R9];show _<100000;omega
    rw[MS nm];have dl:d<S3.length:=by have:=(gM (G3.keep _ _ hd2)).1;exact this
    refine hE _ _ ⟨us++[t],_,_,rfl,by rw[R9];rfl,(G2.trans G3).put hS,?_,?_,?_,?_,?_,?_⟩
    ·rw[Sy,hy,tk,AY];rfl
    ·exact List.pairwise_append.mpr ⟨up,U7 ..,fun a ha c hc=>by rw[RG.mp hc];exact hlt a ha⟩
    ·exact fun u hu=>(RO.mp hu).elim (tl u) fun h=>by rw[RG.mp h];exact ht
    ·intro a ha c hc p hp hq;rcases RO.mp ha with h1 | h1<;>rcases RO.mp hc with h2 | h2
     ·exact ap a h1 c h2 p hp hq
     ·rw[RG.mp h2]at hq;exact absurd ⟨p,hq,hp⟩ (hsh a h1)
     ·rw[RG.mp h1]at hp;exact absurd ⟨p,hp,hq⟩ (hsh c h2)
     ·rw[RG.mp h1,RG.mp h2]
    ·rw[<-Tc];refine SZ.mpr ⟨nd2,by simp,fun a ha c hc e=>?_⟩;rw[RG.mp hc]at e;exact nm (e▸ha)
    ·rw[Tc,Ri dl]
   ·refine hrt _ _ (no S3 (G2.trans G3) fun ts e up' tl' ap' nf=>?_);obtain⟨eu,t',et,ey⟩:=ev ts e;have ey:((t:Nat):Int)=(t':Nat):=SV.int.inj ey;have ey:=SI.mp ey;subst ey;rcases bad with⟨u,hu,le⟩ | ⟨u,hu,p,h1,h2⟩
    ·have:=Bt ts t u up' eu et (List.mem_of_getLast? hu);omega
    ·have hlt:=Bt ts t u up' eu et hu;rw[eu]at hu;have:=ap' t (RD et) u (Su hu) p h1 h2;omega
  ·refine hrt _ _ (no S2 G2 fun ts e up' tl' ap' nf=>?_);obtain⟨eu,t',et,ey⟩:=ev ts e;refine bad t' ey (tl' t' (RD et)) fun m=>?_;rcases RO.mp m with m | m
   ·exact nf t' (RD et) m
   ·exact SL _ (Bt ts t' t' up' eu et m)
 ·rintro ρ S2 ⟨us,o5,o6,rfl,lu,G2,tk,up,tl,ap,nd2,hd2⟩;rw[show(AO zs).length=zs.length by unfold AO;simp,Si]at tk;exact yes us S2 _ _ G2 tk up tl ap nd2 hd2
theorem IQ(hΔ:∀ f,MonoN (Δ f)){km:Nat}(hm:DQ (Δ km)){D:Df}(hb:D.body=Kc km)(hN:D.N.length=7)(hp:D.ps.length=3):Dv (i8 Δ D):=by
 intro n es x room S k b Q h q;unfold i8;rw[hb,hN];refine⟨hp.symm,?_⟩;have G0:Gw S (S++[SO.dct []]):=(Gw.refl S).push;have hd0:(S++[SO.dct []])[S.length]?=some (.dct (An [])):=a8;show wSs Δ [lp1,(.loop (.nm 4) (.seq (.var 2)) [lpR,lpL km]),lp9] _ [some (g0 n es),some (.int room),some x,some (.loc S.length),none,none,none] (S++[SO.dct []]);generalize S++[SO.dct []]=S0 at *;refine Kb (j:=2) rfl (h.grow G0) ⟨_,rfl,?_⟩;rcases h.split with⟨e,no⟩ | ⟨xs,V⟩
 ·rw[e];exact ifT rfl (q false S0 G0 ⟨nofun,fun⟨tss,I,_⟩=>let ⟨ys,z,_⟩:=I.ex;absurd z (no _)⟩)
 rw[V.ls];have s0:=V.seq S (Gw.refl S);have hxl:=V.len;obtain⟨k',b',hg⟩:=V.gd;refine ifF rfl (l7 ⟨_,rfl,_,V.seq S0 G0,?_⟩)
 refine BQ (g6 hΔ _) (fun i ρ S1=>∃(tss:List (List Nat)) (o4 o5 o6:Option SV),ρ=[some (g0 n es),some (.int room),some x,some (.loc S.length),o4,o5,o6]/\Gw S S1/\tss.length=i/\S1[S.length]?=some (.dct (An tss.flatten))/\(∀(i:Nat) (y:SV) (ts:List Nat),xs[i]?=some y->tss[i]?=some ts->seqS y S=some (natS ts))/\(∀ ts∈tss,DO es room ts)/\tss.flatten.Nodup/\tss.flatten.length<=i * 63)
  ⟨[],_,_,_,rfl,G0,rfl,hd0,(fun _ _ _ _ h=>by simp at h),(fun _ h=>nomatch h),Td,Rz _⟩ (fun _ _ S1 h=>by obtain⟨_,_,_,_,_,G,_⟩:=h;exact V.keep _ _ G0 G) ?_ ?_
 ·rintro i y ρ S1 E hE hrt hy ⟨tss,o4,o5,o6,rfl,G1,rfl,hd,hr,ro,nd,fl⟩;have hi:=(gM hy).1;have gy:=hg y (RD hy);have bad:∀ S2,Gw S S2->(∀ ts,seqS y S=some (natS ts)->DO es room ts->(∀ t∈ts,t∉tss.flatten)->False)->E.rt (.bl false) S2:=fun S2 G2 f=>hrt _ _ (q false S2 G2 ⟨nofun,fun P=>let ⟨ts,a,b,c⟩:=Kd s0 hr hy P;(f ts a b c).elim⟩);show wSs Δ [lpR,lpL km] E [some (g0 n es),some (.int room),some x,some (.loc S.length),some y,o5,o6] S1;refine Kb (j:=4) rfl (gy.grow G1) ⟨_,rfl,?_⟩;rcases gy.split with⟨e,no⟩ | ⟨zs,W⟩
  ·rw[e];exact ifT rfl (bad S1 G1 fun ts z _ _=>no _ z)
  rw[W.ls];have sy:=W.seq S (Gw.refl S);have hzl:=W.len;have lenr:∀ ts,seqS y S=some (natS ts)->zs=natS ts:=fun ts z=>by rw[sy]at z;exact oj z
  refine ifF rfl ⟨_,rfl,_,W.seq S1 G1,_,rfl,?_⟩;refine ifD (fun z1=>⟨_,rfl,_,rfl,?_⟩) (fun z1=>⟨_,rfl,ifT rfl (bad S1 G1 fun ts z r _=>z1 ?_)⟩)
  case refine_2=>
   have e:=lenr ts z;have:=r.2.1;show(0:Int)<(zs.length:Nat);rw[e,c5];omega
  by_cases z2:(zs.length:Int)<=room
  case neg=>exact ifT (by rw[decide_eq_false z2];rfl) (bad S1 G1 fun ts z r _=>z2 (by rw[lenr ts z,c5];exact r.2.2.1))
  refine ifF (by rw[decide_eq_true z2];rfl) (l7 ?_)
  have fb:tss.flatten.length<=5000:=by
   have:tss.length * 63<=63 * 63:=Tr _ (by omega);omega
  refine Op hΔ hm W G1 hd (RE _) fb nd (fun us S2 p5 p6 G2 e up tl ap nd2 hd2=>?_) fun S2 G2 f=>bad S2 G2 fun ts z r nf=>f ts (lenr ts z) r.1 r.2.2.2.1 r.2.2.2.2 nf;have hlu:us.length=zs.length:=by rw[e,c5]
  refine hE _ _ ⟨tss++[us],_,_,_,rfl,G2,by rw[R9];rfl,?_,?_,?_,?_,?_⟩
  ·rw[SE,TC];exact hd2
  ·intro i w ts hw ht;rcases TB i tss.length with z | z
   ·rw[RQ z]at ht;exact hr i w ts hw ht
   ·rw[Rb z]at ht
    have ei:i=tss.length:=by
     have:=(gM ht).1;rw[Rk]at this;omega
    subst ei;rw[V1]at ht;cases ht;rw[hy]at hw;cases hw;rw[sy,e]
  ·exact fun ts ht=>(RO.mp ht).elim (ro ts) fun h=>by
    rw[RG.mp h];have z1:(0:Int)<(zs.length:Nat):=z1;exact⟨up,by omega,by rw[hlu];exact z2,tl,ap⟩
  ·rw[SE,TC];exact nd2
  ·rw[SE,TC,R9,Nat.add_mul];omega
 ·rintro ρ S1 ⟨tss,o4,o5,o6,rfl,G1,tl,hd,hr,ro,nd,fl⟩;refine⟨_,rfl,_,_,rfl,hd,_,rfl,_,_,rfl,rfl,_,rfl,q _ S1 G1 ?_⟩;have I:IsRows S x tss:=⟨xs,s0,tl.symm,hr⟩
  show decide (((An tss.flatten).length:Int)=((es.map pairS).length:Nat))=true↔_;rw[dQ,RC];have e:(An tss.flatten).length=tss.flatten.length:=by unfold An;rw[RC]
  rw[e,SI];constructor
  ·exact fun z=>⟨tss,I,ro,nd,z⟩
  ·rintro⟨uss,I',_,_,z⟩;rw[I.uniq I'];exact z
end
noncomputable def VH(H:Nat->Prop)(S:Sto)(l:Nat)(xs:List SV):Prop:=¬ H l/\S[l]?=some (.lst xs)
structure HG(H:Nat->Prop)(S S':Sto):Prop where
 len:S.length<=S'.length
 keep:∀(k:Nat) (o:SO),¬ H k->S[k]?=some o->S'[k]?=some o
theorem Gw.hg{H:Nat->Prop}{S S':Sto}(G:Gw S S'):HG H S S':=⟨G.len,fun k o _ h=>G.keep k o h⟩
theorem HG.trans{H:Nat->Prop}{S S' S'':Sto}(a:HG H S S')(b:HG H S' S''):HG H S S'':=⟨Rn a.len b.len,fun k o n h=>b.keep k o n (a.keep k o n h)⟩
theorem On.hg{H:Nat->Prop}{t:Nat}{S S':Sto}(ht:H t)(O:On t S S'):HG H S S':=⟨O.len,fun k o n h=>O.keep k o (fun e=>n (e▸ht)) h⟩
theorem Gd.hg{H:Nat->Prop}{S S':Sto}{k b:Nat}{x:SV}(h:Gd (VH H S) k b x)(G:HG H S S'):Gd (VH H S') k b x:=h.see fun l xs e=>⟨e.1,G.keep l _ e.1 e.2⟩
theorem Gd.bare{H:Nat->Prop}{S:Sto}{k b:Nat}{x:SV}(h:Gd (VH H S) k b x):Gd (VS S) k b x:=h.see fun l xs e=>e.2
noncomputable def FlatV(y:SV):Prop:=∀(V:Nat->List SV->Prop) (k b:Nat),10<=b->Gd V k b y
noncomputable def Nw(H:Nat->Prop)(S:Sto):Prop:=∀ k,H k->k<S.length
theorem Nw.on{H:Nat->Prop}{S S':Sto}(h:Nw H S)(l:S.length<=S'.length):Nw H S':=fun k hk=>Ra (h k hk) l
theorem Nw.new{H:Nat->Prop}{S:Sto}(h:Nw H S):¬ H S.length:=fun z=>SL _ (h _ z)
section
variable{Δ:Nat->Sn}{H:Nat->Prop}{B:Sto->Prop}{ρ:EnvS}
noncomputable def GE(Δ:Nat->Sn)(H:Nat->Prop)(B:Sto->Prop)(ρ:EnvS)(k b:Nat)(e:Ex):Prop:=∀(S:Sto) (Q:QE),B S->Nw H S->(∀(y:SV) (S':Sto),Gw S S'->Gd (VH H S') k b y->Q y S')->(wEx Δ e).1 ρ S Q
noncomputable def LE(Δ:Nat->Sn)(H:Nat->Prop)(B:Sto->Prop)(ρ:EnvS)(m:Nat)(e:Ex):Prop:=∀(S:Sto) (Q:QE),B S->Nw H S->(∀(k:Nat) (xs:List SV) (S':Sto),Gw S S'->¬ H k->S'[k]?=some (.lst xs)->xs.length<=m->(∀ y∈xs,FlatV y)->Q (.loc k) S')->(wEx Δ e).1 ρ S Q
noncomputable def GEs(Δ:Nat->Sn)(H:Nat->Prop)(B:Sto->Prop)(ρ:EnvS)(k b n:Nat)(es:Exs):Prop:=∀(S:Sto) (Q:List SV->Sto->Prop),B S->Nw H S->(∀(ys:List SV) (S':Sto),Gw S S'->ys.length=n->(∀ y∈ys,Gd (VH H S') k b y)->Q ys S')->Di Δ es ρ S Q
theorem GEs.nil{k b:Nat}:GEs Δ H B ρ k b 0 .nil:=fun S Q _ _ q=>q [] S (Gw.refl S) rfl fun _ h=>nomatch h
theorem GEs.cons{k b n:Nat}{e:Ex}{es:Exs}(hB:∀ S S',B S->Gw S S'->B S')(h:GE Δ H B ρ k b e)(hs:GEs Δ H B ρ k b n es):GEs Δ H B ρ k b (n+1) (.cons e es):=fun S Q b0 nw q=>
 h S _ b0 nw fun y S1 G1 g1=>hs S1 _ (hB _ _ b0 G1) (nw.on G1.len) fun ys S2 G2 hl hg=>q (y::ys) S2 (G1.trans G2) (by rw[Rt,hl]) fun z hz=>by
  rcases RM.mp hz with rfl | hz
  ·exact g1.hg G2.hg
  ·exact hg z hz
theorem GE.lst{k b n c:Nat}{es:Exs}(h:GEs Δ H B ρ k b n es)(hn:n<=63)(hc:n * (b+1)<=c):GE Δ H B ρ (k+1) c (.lst es):=fun S Q b0 nw q=>
 h S _ b0 nw fun ys S' G hl hg=>⟨by rw[hl];show n<=100000;omega,q _ _ G.push (.lst ⟨(nw.on G.len).new,a8⟩ (fun y hy=>(hg y hy).hg (Gw.refl S').push.hg) (by omega) (by rw[hl];exact hc))⟩
theorem GE.tup{k b n c:Nat}{es:Exs}(h:GEs Δ H B ρ k b n es)(hn:n<=63)(hc:n * (b+1)<=c):GE Δ H B ρ (k+1) c (.tup es):=fun S Q b0 nw q=>
 h S _ b0 nw fun ys S' G hl hg=>⟨by rw[hl];show n<=100000;omega,q _ _ G (.tup hg (by omega) (by rw[hl];exact hc))⟩
theorem GE.up{k b k' b':Nat}{e:Ex}(h:GE Δ H B ρ k b e)(hk:k<=k')(hb:b<=b'):GE Δ H B ρ k' b' e:=fun S Q b0 nw q=>h S Q b0 nw fun y S' G g=>q y S' G (g.up hk hb)
theorem LE.none:LE Δ H B ρ 0 (.lst .nil):=fun S Q _ nw q=>⟨by show 0<=100000;decide,q _ _ _ (Gw.refl S).push nw.new a8 (RE _) fun _ h=>nomatch h⟩
structure RowAt(Δ:Nat->Sn)(H:Nat->Prop)(B:Sto->Prop)(ρ:EnvS)(j l n:Nat)(xs:List SV):Prop where
 var:∀(S:Sto) (Q:QE),Q (.loc l) S->(wEx Δ (.var j)).1 ρ S Q
 at':∀ S,B S->S[l]?=some (.lst xs)
 nh:¬ H l
 len:xs.length=n
 fl:∀ y∈xs,FlatV y
theorem RowAt.tup{j l n k b:Nat}{xs:List SV}(R:RowAt Δ H B ρ j l n xs)(hn:n<=63)(hb:n * 11<=b):GE Δ H B ρ (k+1) b (.bi .tuple (.cons (.var j) .nil)):=fun S Q b0 nw q=>
 R.var S _ ⟨xs,a5 (R.at' S b0),q _ S (Gw.refl S) (.tup (k:=k) (b:=10) (fun y hy=>R.fl y hy _ _ _ (RE _)) (by rw[R.len];exact hn) (by rw[R.len];exact hb))⟩
end
section
variable{Δ:Nat->Sn}
theorem Ke{x:Str}(h:x.cps.size<=10)(hc:(x.cps.toList.all fun c=>decide (c<16 ^ 8))=true):Sz 0 10 (.str x):=by
 obtain⟨d,hd,z⟩:=DN.str (k:=0) (b:=10) (H:=fun _=>none) h hc;unfold Dat at hd;cases d with
 | str j=>cases hd;exact z
 | list _=>obtain⟨_,_,h,_⟩:=hd;cases h
 | tuple _=>obtain⟨_,_,h,_⟩:=hd;cases h
 | dict _=>exact hd.elim
 | _=>cases hd
theorem Gw.on{t:Nat}{S S':Sto}(G:Gw S S'):On t S S':=⟨G.len,fun k o _ h=>G.keep k o h⟩
theorem Gw.tape{t:Nat}{S S':Sto}(G:Gw S S')(T:TapeS S t):TapeS S' t:=let ⟨a,b,h,c⟩:=T.ex;⟨a,b,G.keep _ _ h,c⟩
end
structure Rws(t:Nat)(S:Sto)(l:Nat)(ks:List Nat)(rs:List (List SV)):Prop where
 top:S[l]?=some (.lst (ks.map SV.loc))
 len:ks.length=rs.length
 row:∀(i k:Nat) (r:List SV),ks[i]?=some k->rs[i]?=some r->S[k]?=some (.lst r)
 lt:l≠t
 kt:∀ k∈ks,k≠t
 it:∀ r∈rs,∀ y∈r,Gd (VH (·=t) S) 1 10 y
theorem m4{α:Type}:∀{rs:List (List α)} {i:Nat} {r A:List α},rs[i]?=some r->(rs.set i A).flatten.length+r.length=rs.flatten.length+A.length
 | [],i,r,A,h=>by simp at h
 | x::rs,0,r,A,h=>by
   cases h;rw[List.set_cons_zero,Rj,Rj,R9,R9];omega
 | x::rs,i+1,r,A,h=>by
   have ih:=m4 (A:=A) (show rs[i]?=some r from h);rw[List.set_cons_succ,Rj,Rj,R9,R9];omega
theorem v7{α:Type}{xs:List α}{i j:Nat}{a b:α}(h:(xs.set i a)[j]?=some b):(j=i/\b=a)\/(j≠i/\xs[j]?=some b):=by
 by_cases z:j=i
 ·subst z;rw[Ri (by have:=(gM h).1;rwa [RP]at this)]at h;exact .inl ⟨rfl,(oj h).symm⟩
 ·rw[RU (Ne.symm z)]at h;exact .inr ⟨z,h⟩
theorem Ck{α:Type}{xs:List α}{a b:α}{j:Nat}(h:(xs++[a])[j]?=some b):(j=xs.length/\b=a)\/xs[j]?=some b:=by
 rcases TB j xs.length with z | z
 ·rw[RQ z]at h;exact .inr h
 ·have e:j=xs.length:=by
   have:=(gM h).1;rw[R9,Rk]at this;omega
  subst e;rw[Rb (RE _),V1]at h;cases h;exact .inl ⟨rfl,rfl⟩
structure Own(t:Nat)(es:EE)(S S1:Sto)(ls ks:List Nat)(tss:List (List Nat)):Prop where
 tape:TapeS S1 t
 on:On t S S1
 hl:S1[S.length]?=some (.lst (natS ls))
 hk:S1[S.length+1]?=some (.lst (ks.map SV.loc))
 row:∀(i k:Nat) (ts:List Nat),ks[i]?=some k->tss[i]?=some ts->S1[k]?=some (.lst (natS ts))
 len:ks.length=tss.length
 new:∀ k∈ks,S.length+2<=k
 tl:∀ ts∈tss,∀ u∈ts,u<es.length
 ll:∀ u∈ls,u<es.length
 t0:t<S.length
section
variable{t:Nat}{es:EE}{S S1 S2:Sto}{ls ks:List Nat}{tss:List (List Nat)}
theorem Own.grow(h:Own t es S S1 ls ks tss)(T:TapeS S2 t)(O:On t S1 S2):Own t es S S2 ls ks tss:=by
 have t0:=h.t0;exact⟨T,h.on.trans O,O.keep _ _ (by omega) h.hl,O.keep _ _ (by omega) h.hk,fun i k ts a b=>O.keep _ _ (by have:=h.new k (RD a);omega) (h.row i k ts a b),h.len,h.new,h.tl,h.ll,t0⟩
theorem Own.gw(h:Own t es S S1 ls ks tss)(G:Gw S1 S2):Own t es S S2 ls ks tss:=h.grow (G.tape h.tape) G.on
theorem Own.setl(h:Own t es S S1 ls ks tss){ls':List Nat}(hs:∀ u∈ls',u<es.length):Own t es S (S1.set S.length (.lst (natS ls'))) ls' ks tss:=by
 have t0:=h.t0;have l0:S.length<S1.length:=(gM h.hl).1;refine⟨h.tape.other (by omega),h.on.new (RE _),Ri l0,?_,fun i k ts a b=>?_,h.len,h.new,h.tl,hs,t0⟩
 ·rw[RU (by omega)];exact h.hk
 ·rw[RU (by have:=h.new k (RD a);omega)];exact h.row i k ts a b
theorem Own.setk(h:Own t es S S1 ls ks tss){ks':List Nat}{tss':List (List Nat)}(hr:∀(i k:Nat) (ts:List Nat),ks'[i]?=some k->tss'[i]?=some ts->S1[k]?=some (.lst (natS ts)))(hl:ks'.length=tss'.length)(hn:∀ k∈ks',S.length+2<=k)(ht:∀ ts∈tss',∀ u∈ts,u<es.length):Own t es S (S1.set (S.length+1) (.lst (ks'.map SV.loc))) ls ks' tss':=by
 have t0:=h.t0;have l0:S.length+1<S1.length:=(gM h.hk).1;refine⟨h.tape.other (by omega),h.on.new (Ss _),?_,Ri l0,fun i k ts a b=>?_,hl,hn,ht,h.ll,t0⟩
 ·rw[RU (by omega)];exact h.hl
 ·rw[RU (by have:=hn k (RD a);omega)];exact hr i k ts a b
end
section
variable{Δ:Nat->Sn}
noncomputable def Kf(km:Nat):List Stm:=[(.ret (.and (.cmp .Lt (.bi .len (.cons (.var 2) .nil)) (.var 1)) (.not (.bi .any (.cons (.comp ["_law_other"] ["_law_web_here","_law_tie"] [0,3] (.nm 0) (.seq (.var 2)) .no (.call km (.cons (.var 1) (.cons (.var 2) (.cons (.var 0) .nil))))) .nil)))))]
noncomputable def C9(s:Sn):Prop:=∀{n k u:Nat} {es:EE} {room:Int} {ts:List Nat} {S:Sto} {Q:QE},S[k]?=some (.lst (natS ts))->ts.length<=900->(∀ v∈ts,v<es.length)->u<es.length->(∀(b:Bool) (S':Sto),Gw S S'->Q (.bl b) S')->s [g0 n es,.int room,.loc k,.int (u:Nat)] S Q
theorem Kg(hΔ:∀ f,MonoN (Δ f)){km:Nat}(hm:DQ (Δ km)){D:Df}(hb:D.body=Kf km)(hN:D.N.length=4)(hp:D.ps.length=4):C9 (i8 Δ D):=by
 intro n k u es room ts S Q hk hl tl hu q;unfold i8;rw[hb,hN];refine⟨hp.symm,_,rfl,_,a5 hk,_,rfl,_,rfl,?_⟩;refine ifB (fun _=>?_) (fun _=>q false S (Gw.refl S));refine⟨_,rfl,_,a5 hk,?_⟩;refine A0 hΔ (fun i=>@decide (Shr es u (ts.getD i 0)) (Classical.propDecidable _)) (by rw[c5];omega) (fun S' G=>by show S'[k]?=S[k]?;rw[G.keep _ _ hk,hk]) ?_ ?_
 ·intro i y S' hy G;obtain⟨v,hv,rfl⟩:=BS hy;refine⟨_,rfl,_,rfl,_,rfl,hm hu (tl v (RD hv)) fun w e=>⟨?_,G⟩⟩;have eu:ts.getD i 0=v:=by rw[RW,hv];rfl
  congr 1
  refine Rx.mpr ?_;rw[e,@dQ _ (Classical.propDecidable _),eu]
 ·exact fun S3 G3=>⟨_,_,nofun,a5 a8,Af _ _,_,rfl,q _ _ G3.push⟩
noncomputable def op1:Stm:=(.asg (.nm 3) (.lrng1 (.bi .len (.cons (.ix (.var 1) (.c (.int 1))) .nil))))
noncomputable def op2:Stm:=(.asg (.nm 4) (.lst .nil))
noncomputable def op3(kd:Nat):Stm:=(.asg (.nm 5) (.mt .pop (.var 3) (.cons (.call kd (.cons (.var 0) (.cons (.bi .len (.cons (.var 3) .nil)) .nil))) .nil)))
noncomputable def op4(kt:Nat):Stm:=(.asg (.nm 6) (.op .Add (.comp ["_law_at","_law_row"] ["_law_web_here","_law_room","_law_tie"] [1,2,5] (.tup (.cons (.nm 0) (.cons (.nm 1) .nil))) (.enum (.var 4)) (.yes (.call kt (.cons (.var 2) (.cons (.var 3) (.cons (.var 1) (.cons (.var 4) .nil)))))) (.var 0)) (.lst (.cons (.bi .len (.cons (.var 4) .nil)) .nil))))
noncomputable def op5:Stm:=(.iff (.cmp .Eq (.ix (.var 6) (.c (.int 0))) (.bi .len (.cons (.var 4) .nil))) [(.expr (.mt .append (.var 4) (.cons (.lst .nil) .nil)))] [])
noncomputable def op6:Stm:=(.put (.var 4) (.ix (.var 6) (.c (.int 0))) (.bi .sorted (.cons (.op .Add (.ix (.var 4) (.ix (.var 6) (.c (.int 0)))) (.lst (.cons (.var 5) .nil))) .nil)))
noncomputable def QQ(kd kt:Nat):List Stm:=[op1,op2,(.whl (.cmp .NotEq (.var 3) (.lst .nil)) [op3 kd,op4 kt,op5,op6]),(.ret (.var 4))]
theorem Gz{t n f u g:Nat}{es:EE}{S S1:Sto}{ls ks fs:List Nat}{tss:List (List Nat)}{room:Int}{D:EndsS}(A:Own t es S S1 ls ks tss)(hf:f<tss.length)(hg:S1[g]?=some (.lst (natS (f::fs))))(hu:u<es.length)(hb:tss.flatten.length<=60)
 (q:∀(ks':List Nat) (tss':List (List Nat)) (S2:Sto),Own t es S S2 ls ks' tss'->tss'.length=tss.length->tss'.flatten.length=tss.flatten.length+1->D.nx [some (.loc t),some (g0 n es),some (.int room),some (.loc S.length),some (.loc (S.length+1)),some (.int (u:Nat)),some (.loc g)] S2):
 wSt Δ op6 D [some (.loc t),some (g0 n es),some (.int room),some (.loc S.length),some (.loc (S.length+1)),some (.int (u:Nat)),some (.loc g)] S1:=by
 have hfk:f<ks.length:=by rw[A.len];exact hf
 have ek:=RB hfk;have et:=RB hf;have hr:=A.row f _ _ ek et;generalize ks[f]=k at *;generalize tss[f]=ts at *;have h0:atI (natS (f::fs)) 0=some (.int (f:Nat)):=f7 (j:=0) rfl;have hk':atI (ks.map SV.loc) (f:Int)=some (.loc k):=f7 (by rw[RI,ek];rfl)
 have bt:ts.length<=tss.flatten.length:=by
  have:=m4 (A:=[]) et;rw[SH]at this;omega
 refine⟨_,rfl,_,rfl,_,_,a5 hg,h0,_,_,a5 A.hk,hk',_,rfl,by show 1<=100000;decide,_,_,c7 hr,a8,by rw[c5];show _<=100000;simp;omega,?_⟩;have e1:natS ts++[SV.int (u:Nat)]=natS (ts++[u]):=by rw[AY];rfl
 rw[e1];refine⟨_,_,nofun,a5 a8,Fs _,by unfold iN;rw[RC,R9,Rk];omega,?_⟩;obtain⟨B,eB,pB⟩:=Gr (ts++[u]);rw[eB,Du];have G:Gw S1 (((S1++[SO.lst [SV.int (u:Nat)]])++[SO.lst (natS (ts++[u]))])++[SO.lst (natS B)]):=(Gw.refl S1).push.push.push;have hB:(((S1++[SO.lst [SV.int (u:Nat)]])++[SO.lst (natS (ts++[u]))])++[SO.lst (natS B)])[((S1++[SO.lst [SV.int (u:Nat)]])++[SO.lst (natS (ts++[u]))]).length]?=some (.lst (natS B)):=a8;have hnew:S1.length<=((S1++[SO.lst [SV.int (u:Nat)]])++[SO.lst (natS (ts++[u]))]).length:=by rw[R9,R9];omega
 generalize ((S1++[SO.lst [SV.int (u:Nat)]])++[SO.lst (natS (ts++[u]))]).length=m at *;generalize ((S1++[SO.lst [SV.int (u:Nat)]])++[SO.lst (natS (ts++[u]))])++[SO.lst (natS B)]=S2 at *;have A2:=A.gw G;have l1:S.length+1<S1.length:=(gM A.hk).1;refine⟨_,rfl,_,rfl,_,_,a5 (G.keep _ _ hg),h0,ks.map SV.loc,f,A2.hk,?_,?_⟩
 ·have:=BP (n:=(ks.map SV.loc).length) (j:=f) (by rw[RC];exact hfk);exact this
 rw[<-UF];refine q (ks.set f m) (tss.set f B) _ (A2.setk (fun i k' ts' a b=>?_) (by rw[RP,RP];exact A.len) (fun k' hk'=>?_) fun ts' ht' v hv=>?_) (RP ..) ?_
 ·rcases v7 a with⟨rfl,rfl⟩ | ⟨ne,a⟩
  ·rcases v7 b with⟨_,rfl⟩ | ⟨ne,_⟩
   ·exact hB
   ·exact absurd rfl ne
  ·rcases v7 b with⟨e,_⟩ | ⟨_,b⟩
   ·exact absurd e ne
   ·exact A2.row i k' ts' a b
 ·rcases Ry hk' with h | rfl
  ·exact A.new k' h
  ·omega
 ·rcases Ry ht' with h | rfl
  ·exact A.tl ts' h v hv
  ·rcases RO.mp (pB.mem_iff.mp hv) with h | h
   ·exact A.tl ts (RD et) v h
   ·rw[RG.mp h];exact hu
 ·have:=m4 (A:=B) et;have e:=pB.length_eq;rw[R9,Rk]at e;omega
theorem MV(hΔ:∀ f,MonoN (Δ f)){kt:Nat}(hk:C9 (Δ kt)){t n u:Nat}{es:EE}{S S1:Sto}{ls ks:List Nat}{tss:List (List Nat)}{room:Int}{o6:Option SV}{D:EndsS}(A:Own t es S S1 ls ks tss)(hu:u<es.length)(hb:tss.flatten.length<=60)(hb2:tss.length<=60)
 (q:∀(ks':List Nat) (tss':List (List Nat)) (S2:Sto) (o6:Option SV),Own t es S S2 ls ks' tss'->tss'.length<=tss.length+1->tss'.flatten.length=tss.flatten.length+1->D.nx [some (.loc t),some (g0 n es),some (.int room),some (.loc S.length),some (.loc (S.length+1)),some (.int (u:Nat)),o6] S2):
 wSs Δ [op4 kt,op5,op6] D [some (.loc t),some (g0 n es),some (.int room),some (.loc S.length),some (.loc (S.length+1)),some (.int (u:Nat)),o6] S1:=by
 have el:(ks.map SV.loc).length=tss.length:=by rw[RC,A.len]
 refine⟨_,rfl,_,a5 A.hk,?_⟩;refine m7 (f9 hΔ _).2 (a6 hΔ _).1 (fun i ys S2=>Gw S1 S2/\∃ fs:List Nat,ys=natS fs/\fs.length<=i/\∀ f∈fs,f<tss.length) ⟨Gw.refl S1,[],rfl,RE _,fun _ h=>nomatch h⟩ (fun _ _ S2 h=>by show S2[_]?=S1[_]?;rw[h.1.keep _ _ A.hk,A.hk]) ?_ ?_
 ·rintro i x ys S2 hx ⟨G,fs,rfl,fl,hf⟩;obtain⟨y,hy,rfl⟩:=KN hx;rw[RI]at hy;obtain⟨k,ek,rfl⟩:=SM.mp hy;have hi:=(gM ek).1;have hit:i<tss.length:=by rw[<-A.len];exact hi
  have et:=RB hit;have hr:=A.row i _ _ ek et;have mt:=Rv hit;generalize tss[i]=ts at *
  have bt:ts.length<=tss.flatten.length:=by
   have:=m4 (A:=[]) et;rw[SH]at this;omega
  refine⟨_,rfl,_,rfl,_,rfl,_,rfl,hk (G.keep _ _ hr) (by omega) (A.tl ts mt) hu fun b S3 G3=>⟨_,rfl,?_⟩⟩;refine ifB (fun _=>?_) (fun _=>⟨G.trans G3,fs,rfl,by omega,hf⟩);refine⟨_,rfl,by rw[c5];show _<100000;omega,G.trans G3,fs++[i],by rw[AY];rfl,by rw[R9,Rk];omega,fun f h=>(RO.mp h).elim (hf f) fun h=>by rw[RG.mp h];exact hit⟩
 ·rintro ys S2 ⟨G,fs,rfl,fl,hf⟩;rw[show(AO (ks.map SV.loc)).length=tss.length by unfold AO;simp[A.len]]at fl;refine⟨_,rfl,_,a5 (c7 (G.keep _ _ A.hk)),by show 1<=100000;decide,_,_,c7 a8,a8,by rw[c5];show _<=100000;simp;omega,?_⟩;have e1:natS fs++[SV.int ((ks.map SV.loc).length:Nat)]=natS (fs++[tss.length]):=by rw[AY,el];rfl
  rw[e1];have G2:Gw S1 (((S2++[SO.lst (natS fs)])++[SO.lst [SV.int ((ks.map SV.loc).length:Nat)]])++[SO.lst (natS (fs++[tss.length]))]):=G.push.push.push;have hg:(((S2++[SO.lst (natS fs)])++[SO.lst [SV.int ((ks.map SV.loc).length:Nat)]])++[SO.lst (natS (fs++[tss.length]))])[((S2++[SO.lst (natS fs)])++[SO.lst [SV.int ((ks.map SV.loc).length:Nat)]]).length]?=some (.lst (natS (fs++[tss.length]))):=a8;have hgn:S1.length<=((S2++[SO.lst (natS fs)])++[SO.lst [SV.int ((ks.map SV.loc).length:Nat)]]).length:=by have:=G.len;rw[R9,R9];omega
  show wSs Δ [op5,op6] D [some (.loc t),some (g0 n es),some (.int room),some (.loc S.length),some (.loc (S.length+1)),some (.int (u:Nat)),some (.loc ((S2++[SO.lst (natS fs)])++[SO.lst [SV.int ((ks.map SV.loc).length:Nat)]]).length)] _;generalize ((S2++[SO.lst (natS fs)])++[SO.lst [SV.int ((ks.map SV.loc).length:Nat)]]).length=g at *;generalize ((S2++[SO.lst (natS fs)])++[SO.lst [SV.int ((ks.map SV.loc).length:Nat)]])++[SO.lst (natS (fs++[tss.length]))]=S3 at *;have A3:=A.gw G2
  obtain⟨f,fs',ef,hfl⟩:∃ f fs',fs++[tss.length]=f::fs'/\f<=tss.length:=by
   cases fs with
   | nil=>exact⟨_,_,rfl,RE _⟩
   | cons a l=>exact⟨_,_,rfl,Tb (hf a (RS ..))⟩
  rw[ef]at hg;refine⟨_,rfl,_,_,a5 hg,f7 (j:=0) rfl,_,rfl,_,a5 A3.hk,_,rfl,?_⟩;show if decide (((f:Nat):Int)=((ks.map SV.loc).length:Nat))=true then _ else _
  rw[el];refine ifD (fun z=>?_) (fun z=>l7 ?_)
  ·have z:=SI.mp z;have A4:=A3.gw (Gw.refl S3).push (S2:=S3++[SO.lst []]);refine⟨_,rfl,⟨_,_,rfl,A3.hk⟩,by show 0<=100000;decide,_,A4.hk,by rw[el];show _<100000;omega,?_⟩;have e2:ks.map SV.loc++[SV.loc S3.length]=(ks++[S3.length]).map SV.loc:=by rw[Rm];rfl
   rw[e2];have l1:S.length+1<S3.length:=(gM A3.hk).1
   have A5:=A4.setk (ks':=ks++[S3.length]) (tss':=tss++[[]]) (fun i k ts a b=>by
    rcases Ck a with⟨rfl,rfl⟩ | a
    ·rcases Ck b with⟨_,rfl⟩ | b
     ·exact a8
     ·exact absurd (gM b).1 (by rw[A.len];exact SL _)
    ·rcases Ck b with⟨e,_⟩ | b
     ·exact absurd (gM a).1 (by rw[e,A.len];exact SL _)
     ·exact A4.row i k ts a b) (by rw[R9,R9,A.len];rfl) (fun k hk=>(RO.mp hk).elim (A.new k) fun h=>by rw[RG.mp h];omega) fun ts ht v hv=>(RO.mp ht).elim (fun h=>A.tl ts h v hv) fun h=>by rw[RG.mp h]at hv;cases hv
   have fe:(tss++[[]]).flatten.length=tss.flatten.length:=by rw[SE];simp
   refine Gz A5 (f:=f) (fs:=fs') (by rw[R9,Rk];omega) ?_ hu (by omega) fun ks' tss' S5 A6 h1 h2=>q ks' tss' S5 _ A6 (by rw[h1,R9];exact RE _) (by rw[h2,fe]);have l0:S.length+1<S1.length:=(gM A.hk).1;rw[RU (by omega)];exact c7 hg
  ·exact Gz A3 (f:=f) (fs:=fs') (by have:¬ f=tss.length:=fun e=>z (by rw[e]);omega) hg hu hb fun ks' tss' S5 A6 h1 h2=>q ks' tss' S5 _ A6 (by omega) h2
noncomputable def Dw(s:Sn):Prop:=∀{t n:Nat} {es:EE} {room:Int} {S:Sto} {Q:QE},TapeS S t->es.length<=39->(∀(l:Nat) (ks:List Nat) (rs:List (List SV)) (S':Sto),TapeS S' t->On t S S'->Rws t S' l ks rs->rs.length<=39->rs.flatten.length<=39->Q (.loc l) S')->s [.loc t,g0 n es,.int room] S Q
theorem Kh(hΔ:∀ f,MonoN (Δ f)){kd kt:Nat}(hd:l5 (Δ kd))(hk:C9 (Δ kt)){D:Df}(hb:D.body=QQ kd kt)(hN:D.N.length=7)(hp:D.ps.length=3):Dw (i8 Δ D):=by
 intro t n es room S Q T hel q;unfold i8;rw[hb,hN];have t0:=T.lt;have ee:(es.map pairS).length=es.length:=RC ..;refine⟨hp.symm,_,rfl,_,_,rfl,rfl,_,rfl,_,rfl,⟨by rw[ee];omega,by rw[ee];omega⟩,by show 0<=100000;decide,?_⟩;rw[ee,Gk];refine⟨fun m ρ S1=>∃(ls ks:List Nat) (tss:List (List Nat)) (o5 o6:Option SV),ρ=[some (.loc t),some (g0 n es),some (.int room),some (.loc S.length),some (.loc (S.length+1)),o5,o6]/\Own t es S S1 ls ks tss/\ls.length=m/\tss.flatten.length+ls.length=es.length/\tss.length<=tss.flatten.length,⟨es.length,RL es.length,[],[],none,none,?_,?_,Sb,by simp,RE _⟩,?_⟩
 ·show[_,_,_,_,some (SV.loc (S++[_]).length),_,_]=_;rw[R9];rfl
 ·refine⟨T.push.push,(On.refl t S).push.push,c7 a8,?_,fun i k ts a b=>by simp at a,rfl,(fun _ h=>nomatch h),(fun _ h=>nomatch h),fun u hu=>Rq.mp hu,t0⟩;have:=a8 (S:=S++[SO.lst (natS (RL es.length))]) (o:=SO.lst []);rw[R9]at this;exact this
 ·rintro m ρ S1 ⟨ls,ks,tss,o5,o6,rfl,A,hm,hs,hf⟩;refine⟨_,rfl,by show 0<=big;decide,_,_,c7 A.hl,a8,.inr (.inr rfl),_,rfl,?_⟩;have A1:=A.gw (Gw.refl S1).push (S2:=S1++[SO.lst []]);rw[BR];refine ifB (fun h=>?_) (fun h=>?_)
  ·have hpos:0<ls.length:=by
    cases ls with
    | nil=>cases h
    | cons _ _=>simp
   refine⟨_,rfl,⟨_,_,rfl,A1.hl⟩,_,rfl,_,rfl,_,a5 A1.hl,hd A1.tape (by rw[c5];omega) (by rw[c5];omega) fun r S2 r0 r1 T2 O2 _=>?_⟩;rw[c5]at r1;have A2:=A1.grow T2 O2;have hr:r.toNat<ls.length:=by omega
   refine⟨_,.int (ls[r.toNat]:Nat),A2.hl,⟨r0,by rw[c5];exact r1⟩,by rw[c5];show _<=100000;omega,Ew (RB hr),?_⟩;rw[KO];have A3:=A2.setl (ls':=ls.eraseIdx r.toNat) fun u hu=>A.ll u (SG hu);refine MV hΔ hk A3 (A.ll _ (Rv hr)) (by omega) (by omega) fun ks' tss' S4 p6 A4 h1 h2=>⟨ls.length - 1,by omega,_,ks',tss',_,_,rfl,A4,SB hr,?_,by omega⟩
   rw[SB hr];omega
  ·have:ls=[]:=by
    cases ls with
    | nil=>rfl
    | cons _ _=>cases h
   subst this;rw[SH]at hs
   have fm:(tss.map natS).flatten.length=tss.flatten.length:=by
    clear hs hf A A1
    induction tss with
    | nil=>rfl
    | cons a l ih=>rw[RV,Rj,Rj,R9,R9,c5,ih]
   refine⟨_,rfl,q (S.length+1) ks (tss.map natS) _ A1.tape A1.on ⟨A1.hk,by rw[RC];exact A.len,fun i k r a b=>?_,by omega,fun k hk=>by have:=A.new k hk;omega,fun r hr y hy=>?_⟩ (by rw[RC];omega) (by omega)⟩
   ·rw[RI]at b;obtain⟨ts,e,rfl⟩:=SM.mp b;exact A1.row i k ts a e
   ·obtain⟨ts,ht,rfl⟩:=SC.mp hr;obtain⟨v,hv,rfl⟩:=SC.mp hy;have:=A.tl ts ht v hv;exact .int ⟨by omega,by omega⟩
noncomputable def od1:Stm:=(.asg (.nm 2) (.lst (.cons (.c (.bl true)) (.cons (.c (.bl false)) (.cons (.c .non) (.cons (.c (.str "0")) (.cons (.neg (.c (.int 1))) (.cons (.bi .len (.cons (.ix (.var 1) (.c (.int 1))) .nil)) (.cons (.op .Pow (.c (.int 10)) (.c (.int 20))) (.cons (.lst (.cons (.c (.int 0)) .nil)) (.cons (.tup (.cons (.c (.int 0)) (.cons (.c (.int 1)) .nil))) (.cons (.tup .nil) (.cons (.c (.int 0)) (.cons (.c (.int 1)) .nil))))))))))))))
noncomputable def od2(kd:Nat):Stm:=(.ret (.ix (.var 2) (.call kd (.cons (.var 0) (.cons (.bi .len (.cons (.var 2) .nil)) .nil)))))
noncomputable def N4(kd:Nat):List Stm:=[od1,od2 kd]
noncomputable def QR(t:Nat)(S S':Sto)(y:SV):Prop:=∀ H:Nat->Prop,H t->Nw H S->Gd (VH H S') 1 10 y
noncomputable def Ag(s:Sn):Prop:=∀{t n:Nat} {es:EE} {S:Sto} {Q:QE},TapeS S t->es.length<=1000->(∀(y:SV) (S':Sto),TapeS S' t->On t S S'->QR t S S' y->Q y S')->s [.loc t,g0 n es] S Q
theorem MW{kd:Nat}(hd:l5 (Δ kd)){D:Df}(hb:D.body=N4 kd)(hN:D.N.length=3)(hp:D.ps.length=2):Ag (i8 Δ D):=by
 intro t n es S Q T hel q;unfold i8;rw[hb,hN];have ee:(es.map pairS).length=es.length:=RC ..;refine⟨hp.symm,_,rfl,_,_,rfl,rfl,_,rfl,⟨by decide,by decide,by decide⟩,by show 1<=100000;decide,by show 2<=100000;decide,by show 0<=100000;decide,by show 12<=100000;decide,?_⟩;have G0:Gw S ((S++[SO.lst [SV.int 0]])++[SO.lst [.bl true,.bl false,.non,.str "0",.int (-1),.int ((es.map pairS).length:Nat),.int (10 ^ (20:Int).toNat),.loc S.length,.tup [.int 0,.int 1],.tup [],.int 0,.int 1]]):=(Gw.refl S).push.push;have h0:((S++[SO.lst [SV.int 0]])++[SO.lst [.bl true,.bl false,.non,.str "0",.int (-1),.int ((es.map pairS).length:Nat),.int (10 ^ (20:Int).toNat),.loc S.length,.tup [.int 0,.int 1],.tup [],.int 0,.int 1]])[S.length]?=some (.lst [.int 0]):=c7 a8;have h1:((S++[SO.lst [SV.int 0]])++[SO.lst [.bl true,.bl false,.non,.str "0",.int (-1),.int ((es.map pairS).length:Nat),.int (10 ^ (20:Int).toNat),.loc S.length,.tup [.int 0,.int 1],.tup [],.int 0,.int 1]])[(S++[SO.lst [SV.int 0]]).length]?=some (.lst [.bl true,.bl false,.non,.str "0",.int (-1),.int ((es.map pairS).length:Nat),.int (10 ^ (20:Int).toNat),.loc S.length,.tup [.int 0,.int 1],.tup [],.int 0,.int 1]):=a8;have tl:=T.lt;have hm:t≠(S++[SO.lst [SV.int 0]]).length:=by rw[R9];omega
 show wSs Δ [od2 kd] _ [some (.loc t),some (g0 n es),some (.loc (S++[SO.lst [SV.int 0]]).length)] _
 have hall:∀ S':Sto,S'[S.length]?=some (.lst [.int 0])->∀ y∈[SV.bl true,.bl false,.non,.str "0",.int (-1),.int ((es.map pairS).length:Nat),.int (10 ^ (20:Int).toNat),.loc S.length,.tup [.int 0,.int 1],.tup [],.int 0,.int 1],QR t S S' y:=by
  intro S' h' y hy H ht nw;have z:∀ i:Int,-1000000000000000000000<=i->i<=1000000000000000000000->∀ k b,Gd (VH H S') k b (.int i):=fun i a b k c => .int ⟨a,b⟩;simp only[RM,List.not_mem_nil,or_false]at hy;rcases hy with rfl | rfl | rfl | rfl | rfl | rfl | rfl | rfl | rfl | rfl | rfl | rfl
  ·exact .bl _
  ·exact .bl _
  ·exact .non
  ·exact .str (Ke (by decide) (by decide)) (RE _)
  ·exact z _ (by decide) (by decide) _ _
  ·exact z _ (by omega) (by omega) _ _
  ·exact z _ (by decide) (by decide) _ _
  ·exact .lst (k:=0) (b:=0) ⟨nw.new,h'⟩ (fun y hy=>by rw[RG.mp hy];exact z _ (by decide) (by decide) _ _) (by decide) (by decide)
  ·exact .tup (k:=0) (b:=0) (fun y hy=>by
    rcases RM.mp hy with rfl | hy
    ·exact z _ (by decide) (by decide) _ _
    ·rw[RG.mp hy];exact z _ (by decide) (by decide) _ _) (by decide) (by decide)
  ·exact .tup (k:=0) (b:=0) (fun y hy=>nomatch hy) (by decide) (by decide)
  ·exact z _ (by decide) (by decide) _ _
  ·exact z _ (by decide) (by decide) _ _
 generalize (S++[SO.lst [SV.int 0]]).length=m at *;generalize (S++[SO.lst [SV.int 0]])++[SO.lst [SV.bl true,.bl false,.non,.str "0",.int (-1),.int ((es.map pairS).length:Nat),.int (10 ^ (20:Int).toNat),.loc S.length,.tup [.int 0,.int 1],.tup [],.int 0,.int 1]]=S1 at *;have l12:[SV.bl true,.bl false,.non,.str "0",.int (-1),.int ((es.map pairS).length:Nat),.int (10 ^ (20:Int).toNat),.loc S.length,.tup [.int 0,.int 1],.tup [],.int 0,.int 1].length=12:=rfl;generalize [SV.bl true,.bl false,.non,.str "0",.int (-1),.int ((es.map pairS).length:Nat),.int (10 ^ (20:Int).toNat),.loc S.length,.tup [.int 0,.int 1],.tup [],.int 0,.int 1]=xs at *;refine⟨_,rfl,_,rfl,_,rfl,_,a5 h1,hd (G0.tape T) (by rw[l12];decide) (by rw[l12];decide) fun r S2 r0 r1 T2 O2 _=>?_⟩;rw[l12]at r1;have hr:r.toNat<xs.length:=by omega
 have ha:atI xs r=some (xs[r.toNat]):=by
  have:=f7 (RB hr)
  rwa [Sg r0]at this
 exact⟨_,_,a5 (O2.keep _ _ (Ne.symm hm) h1),ha,q _ _ T2 (G0.on.trans O2) (hall S2 (O2.keep _ _ (by omega) h0) _ (Rv hr))⟩
end
theorem QS{α:Type}{xs:List α}(nd:xs.Nodup){i j:Nat}{a:α}(h1:xs[i]?=some a)(h2:xs[j]?=some a):i=j:=by
 obtain⟨i1,e1⟩:=gM h1;obtain⟨i2,e2⟩:=gM h2;have p:=Sm.mp nd;rcases Nat.lt_trichotomy i j with z | z | z
 ·exact absurd (e1.trans e2.symm) (p i j i1 i2 z)
 ·exact z
 ·exact absurd (e2.trans e1.symm) (p j i i2 i1 z)
noncomputable def Hd(t:Nat)(S:Sto)(l:Nat)(a:Nat):Prop:=a=t\/(S.length<=a/\a<=l)
structure Frs(t:Nat)(S S1:Sto)(l:Nat)(ks:List Nat)(rs:List (List SV)):Prop where
 tape:TapeS S1 t
 on:On t S S1
 top:S1[l]?=some (.lst (ks.map SV.loc))
 len:ks.length=rs.length
 row:∀(i k:Nat) (r:List SV),ks[i]?=some k->rs[i]?=some r->S1[k]?=some (.lst r)
 new:∀ k∈ks,S.length<=k/\k<l
 ln:S.length<=l
 lt:l<S1.length
 nd:ks.Nodup
 t0:t<S.length
 it:∀ r∈rs,∀ y∈r,Gd (VH (Hd t S l) S1) 1 10 y
section
variable{t l:Nat}{S S1 S2:Sto}{ks:List Nat}{rs:List (List SV)}
theorem Frs.grow(h:Frs t S S1 l ks rs)(T:TapeS S2 t)(O:On t S1 S2):Frs t S S2 l ks rs:=by
 have t0:=h.t0;have ln:=h.ln;exact⟨T,h.on.trans O,O.keep _ _ (by omega) h.top,h.len,fun i k r a b=>O.keep _ _ (by have:=h.new k (RD a);omega) (h.row i k r a b),h.new,ln,Ra h.lt O.len,h.nd,t0,fun r hr y hy=>(h.it r hr y hy).hg (O.hg (.inl rfl))⟩
theorem Frs.gw(h:Frs t S S1 l ks rs)(G:Gw S1 S2):Frs t S S2 l ks rs:=h.grow (G.tape h.tape) G.on
theorem Frs.nw(h:Frs t S S1 l ks rs):Nw (Hd t S l) S1:=fun k hk=>by
 have:=h.lt;rcases hk with rfl | hk
 ·exact h.tape.lt
 ·omega
theorem Dx{y:SV}(h:Gd (VH (Hd t S l) S1) 1 10 y)(k:∀ a o,¬ Hd t S l a->S1[a]?=some o->S2[a]?=some o):Gd (VH (·=t) S2) 1 10 y:=h.see fun a xs e=>⟨fun z=>e.1 (.inl z),k a _ e.1 e.2⟩
theorem Frs.rws(h:Frs t S S1 l ks rs):Rws t S1 l ks rs:=by
 have t0:=h.t0;have ln:=h.ln;exact⟨h.top,h.len,h.row,by omega,fun k hk=>by have:=h.new k hk;omega,fun r hr y hy=>Dx (h.it r hr y hy) fun a o _ e=>e⟩
theorem Frs.setRow(h:Frs t S S1 l ks rs){i k:Nat}{r:List SV}(hk:ks[i]?=some k)(hr:∀ y∈r,Gd (VH (Hd t S l) S1) 1 10 y):TapeS (S1.set k (.lst r)) t/\On t S (S1.set k (.lst r))/\Rws t (S1.set k (.lst r)) l ks (rs.set i r):=by
 have t0:=h.t0;have ln:=h.ln;have hn:=h.new k (RD hk);have kl:k<S1.length:=by have:=h.lt;omega
 have see:∀ a o,¬ Hd t S l a->S1[a]?=some o->(S1.set k (.lst r))[a]?=some o:=fun a o na e=>by rw[RU (fun z=>na (.inr (by omega)))];exact e
 refine⟨h.tape.other (by omega),h.on.new hn.1,?_,by rw[RP];exact h.len,fun j k' r' a b=>?_,by omega,fun k hk=>by have:=h.new k hk;omega,fun r' hr' y hy=>?_⟩
 ·rw[RU (by omega)];exact h.top
 ·rcases v7 b with⟨rfl,rfl⟩ | ⟨ne,b⟩
  ·rw[hk]at a;cases a;exact Ri kl
  ·rw[RU (fun z=>ne ?_)]
   ·exact h.row j k' r' a b
   ·subst z;exact QS h.nd a hk
 ·rcases Ry hr' with m | rfl
  ·exact Dx (h.it r' m y hy) see
  ·exact Dx (hr y hy) see
theorem Frs.setTop(h:Frs t S S1 l ks rs){ks':List Nat}{rs':List (List SV)}(hl:ks'.length=rs'.length)(hr:∀(i k:Nat) (r:List SV),ks'[i]?=some k->rs'[i]?=some r->S1[k]?=some (.lst r))(hn:∀ k∈ks',S.length<=k/\k≠l)(hi:∀ r∈rs',∀ y∈r,Gd (VH (Hd t S l) S1) 1 10 y):
 TapeS (S1.set l (.lst (ks'.map SV.loc))) t/\On t S (S1.set l (.lst (ks'.map SV.loc)))/\Rws t (S1.set l (.lst (ks'.map SV.loc))) l ks' rs':=by
 have t0:=h.t0;have ln:=h.ln;refine⟨h.tape.other (by omega),h.on.new ln,Ri h.lt,hl,fun j k r a b=>?_,by omega,fun k hk=>by have:=hn k hk;omega,fun r hr' y hy=>Dx (hi r hr' y hy) fun a o na e=>?_⟩
 ·rw[RU (Ne.symm (hn k (RD a)).2)];exact hr j k r a b
 ·rw[RU (fun z=>na (.inr (by omega)))];exact e
end
theorem BT{xs:List SV}{i:Nat}:Bz xs (some (i:Int)) none=xs.drop i:=by
 unfold Bz;rw[HT.sIx_nat,HT.sIx_none];rcases Nat.le_total i xs.length with z | z
 ·rw[Uj z,UB (by rw[Rr];exact RE _)]
 ·rw[Nat.min_eq_right z,TQ,List.drop_eq_nil_of_le z,List.take_nil]
theorem Ki{α β:Type}{ks:List α}{rs:List β}{a i:Nat}{k:α}{r:β}(h1:(ks.eraseIdx a)[i]?=some k)(h2:(rs.eraseIdx a)[i]?=some r):∃ j:Nat,ks[j]?=some k/\rs[j]?=some r:=by
 rw[List.getElem?_eraseIdx]at h1 h2;split at h1
 ·rename_i z;rw[iP z]at h2;exact⟨i,h1,h2⟩
 ·rename_i z;rw[iG z]at h2;exact⟨i+1,h1,h2⟩
theorem Fu{α β:Type}{f:α->β}:∀(xs:List α) (i:Nat),(xs.map f).eraseIdx i=(xs.eraseIdx i).map f
 | [],i=>rfl
 | x::xs,0=>rfl
 | x::xs,i+1=>by rw[RV,Sx,Sx,RV,Fu xs i]
theorem Ai{α:Type}:∀{rs:List (List α)} {i:Nat} {r:List α},rs[i]?=some r->(rs.eraseIdx i).flatten.length+r.length=rs.flatten.length
 | [],i,r,h=>by simp at h
 | x::rs,0,r,h=>by cases h;rw[List.eraseIdx_cons_zero,Rj,R9];omega
 | x::rs,i+1,r,h=>by
   have ih:=Ai (show rs[i]?=some r from h);rw[Sx,Rj,Rj,R9,R9];omega
theorem B0{α:Type}{rs:List (List α)}{i:Nat}{r:List α}(h:rs[i]?=some r):r.length<=rs.flatten.length:=by have:=Ai h;omega
theorem Gd.fits{H:Nat->Prop}{S:Sto}{y:SV}(h:Gd (VH H S) 1 10 y):∃ d,u7 20 S y=some d/\Fit d:=by
 obtain⟨d,e,z⟩:=h.bare.dat 20 (by decide);exact⟨d,e,z.fit (by decide) (by decide)⟩
section
variable{Δ:Nat->Sn}
theorem j7{w j:Int}{A:List Stm}{D:EndsS}{ρ:EnvS}{S:Sto}(hρ:ρ[3]?=some (some (.int w)))(ne:w≠j)(h:D.nx ρ S):wSt Δ (.iff (.cmp .Eq (.var 3) (.c (.int j))) A []) D ρ S:=⟨_,hρ,_,rfl,ifF (decide_eq_false ne) h⟩
theorem l8{w j:Int}{e:Ex}{A:List Stm}{D:EndsS}{ρ:EnvS}{S:Sto}(hρ:ρ[3]?=some (some (.int w)))(ne:w≠j)(h:D.nx ρ S):wSt Δ (.iff (.and (.cmp .Eq (.var 3) (.c (.int j))) e) A []) D ρ S:=⟨_,hρ,_,rfl,ifF (decide_eq_false ne) (ifF rfl h)⟩
noncomputable def Cz:Ex := .ix (.var 2) (.var 4)
noncomputable def sw1:Stm:=(.iff (.cmp .Eq (.var 3) (.c (.int 1))) [(.ret (.op .Add (.slc (.var 2) .no (.yes (.var 4))) (.slc (.var 2) (.yes (.op .Add (.var 4) (.c (.int 1)))) .no)))] [])
noncomputable def sw2:Stm:=(.iff (.cmp .Eq (.var 3) (.c (.int 2))) [(.put (.var 2) (.var 4) (.op .Add (.slc Cz .no (.yes (.var 6))) (.slc Cz (.yes (.op .Add (.var 6) (.c (.int 1)))) .no)))] [])
noncomputable def sw3:Stm:=(.iff (.and (.cmp .Eq (.var 3) (.c (.int 3))) (.cmp .Lt (.var 6) (.bi .len (.cons Cz .nil)))) [(.put (.var 2) (.var 5) (.srtks (.op .Add (.ix (.var 2) (.var 5)) (.lst (.cons (.ix Cz (.var 6)) .nil))) (.tyc .str)))] [])
noncomputable def sw4(ko:Nat):Stm:=(.iff (.cmp .Eq (.var 3) (.c (.int 4))) [(.expr (.mt .insert Cz (.cons (.var 6) (.cons (.call ko (.cons (.var 0) (.cons (.var 1) .nil))) .nil))))] [])
noncomputable def sw5:Stm:=(.iff (.cmp .Eq (.var 3) (.c (.int 5))) [(.expr (.mt .reverse Cz .nil))] [])
noncomputable def sw6:Stm:=(.iff (.and (.cmp .Eq (.var 3) (.c (.int 6))) (.cmp .NotEq (.var 4) (.var 5))) [(.put (.var 2) (.var 4) (.srtks (.op .Add Cz (.ix (.var 2) (.var 5))) (.tyc .str))),(.expr (.mt .pop (.var 2) (.cons (.var 5) .nil)))] [])
noncomputable def sw7(ko:Nat):Stm:=(.iff (.and (.cmp .Eq (.var 3) (.c (.int 7))) (.cmp .Lt (.var 6) (.bi .len (.cons Cz .nil)))) [(.put Cz (.var 6) (.call ko (.cons (.var 0) (.cons (.var 1) .nil))))] [])
noncomputable def BU(t n:Nat)(es:EE)(l:Nat)(w:Int)(a o s:Nat):EnvS:=[some (.loc t),some (g0 n es),some (.loc l),some (.int w),some (.int (a:Nat)),some (.int (o:Nat)),some (.int (s:Nat))]
noncomputable def Aft(t:Nat)(S:Sto)(l R T:Nat)(N:Sto->Prop):Prop:=∀(ks:List Nat) (rs:List (List SV)) (S':Sto),TapeS S' t->On t S S'->Rws t S' l ks rs->rs.length<=R+1->rs.flatten.length<=T+1->N S'
section
variable{t n l a o s k k2 R T:Nat}{es:EE}{S S1:Sto}{ks:List Nat}{rs:List (List SV)}{r r2:List SV}{D:EndsS}
theorem w5(h:ks[a]?=some k):atI (ks.map SV.loc) (a:Int)=some (.loc k):=f7 (by rw[RI,h];rfl)
theorem QT(A:Frs t S S1 l ks rs)(hk:ks[a]?=some k)(hR:rs.length<=R)(hT:rs.flatten.length<=T)(hb:R<=1000)
 (q:∀(l:Nat) (ks:List Nat) (rs:List (List SV)) (S':Sto),TapeS S' t->On t S S'->Rws t S' l ks rs->rs.length<=R+1->rs.flatten.length<=T+1->D.rt (.loc l) S'):wSt Δ sw1 D (BU t n es l 1 a o s) S1:=by
 have ha:=(gM hk).1;have hl:=A.len;refine⟨_,rfl,_,rfl,ifT rfl ⟨_,rfl,_,rfl,_,rfl,_,A.top,_,rfl,_,rfl,_,rfl,_,c7 A.top,_,_,c7 a8,a8,?_,?_⟩⟩
 ·rw[AZ (by rw[RC];omega)];have e:((a:Int)+1)=((a+1:Nat):Int):=rfl;rw[e,BT,Rg,Rr,RC];show _<=100000;omega
 have e:((a:Int)+1)=((a+1:Nat):Int):=rfl;rw[AZ (by rw[RC];omega),e,BT,<-Tf];rw[Fu];have A2:=A.gw ((((Gw.refl S1).push (o:=SO.lst ((ks.map SV.loc).take a))).push (o:=SO.lst ((ks.map SV.loc).drop (a+1)))).push (o:=SO.lst ((ks.eraseIdx a).map SV.loc)));have W:=A2.rws;have t1:=A.tape.lt;have hr:=RB (show a<rs.length by omega);have f:=Ai hr;have e2:=SB (show a<rs.length by omega);have e3:=SB ha;refine q _ (ks.eraseIdx a) (rs.eraseIdx a) _ A2.tape A2.on ⟨a8,by omega,fun i k r x y=>?_,by rw[R9,R9];omega,fun k hk=>W.kt k (SG hk),fun r hr=>W.it r (SG hr)⟩ (by omega) (by omega);obtain⟨j,x,y⟩:=Ki x y;exact W.row j k r x y
theorem QU(A:Frs t S S1 l ks rs)(hk:ks[a]?=some k)(hr:rs[a]?=some r)(hs:s<=r.length)(hR:rs.length<=R)(hT:rs.flatten.length<=T)(hb:T<=1000)(q:Aft t S l R T fun S'=>D.nx (BU t n es l 2 a o s) S'):wSt Δ sw2 D (BU t n es l 2 a o s) S1:=by
 have ha:=(gM hk).1;have h1:=A.row a k r hk hr;have rl:=B0 hr;have e:((s:Int)+1)=((s+1:Nat):Int):=rfl;refine⟨_,rfl,_,rfl,ifT rfl ⟨_,rfl,_,rfl,_,_,a5 A.top,w5 hk,_,rfl,_,rfl,_,h1,_,rfl,_,rfl,_,_,a5 (c7 A.top),w5 hk,_,rfl,_,rfl,_,c7 h1,_,_,c7 a8,a8,?_,?_⟩⟩
 ·rw[AZ hs,e,BT,Rg,Rr];show _<=100000;omega
 rw[AZ hs,e,BT,<-Tf];have G:=(((Gw.refl S1).push (o:=SO.lst (r.take s))).push (o:=SO.lst (r.drop (s+1)))).push (o:=SO.lst (r.eraseIdx s));have hm:(((S1++[SO.lst (r.take s)])++[SO.lst (r.drop (s+1))])++[SO.lst (r.eraseIdx s)])[((S1++[SO.lst (r.take s)])++[SO.lst (r.drop (s+1))]).length]?=some (.lst (r.eraseIdx s)):=a8;have hml:S1.length<=((S1++[SO.lst (r.take s)])++[SO.lst (r.drop (s+1))]).length:=by rw[R9,R9];omega
 generalize ((S1++[SO.lst (r.take s)])++[SO.lst (r.drop (s+1))]).length=m at *;generalize ((S1++[SO.lst (r.take s)])++[SO.lst (r.drop (s+1))])++[SO.lst (r.eraseIdx s)]=S2 at *;have A2:=A.gw G;refine⟨_,rfl,_,rfl,ks.map SV.loc,a,A2.top,BP (by rw[RC];exact ha),?_⟩;rw[<-UF];have:=A.lt;have ln:=A.ln
 obtain⟨T2,O2,W⟩:=A2.setTop (ks':=ks.set a m) (rs':=rs.set a (r.eraseIdx s)) (by rw[RP,RP];exact A.len) (fun i k' r' x y=>by
  rcases v7 x with⟨rfl,rfl⟩ | ⟨ne,x⟩
  ·rcases v7 y with⟨_,rfl⟩ | ⟨ne,_⟩
   ·exact hm
   ·exact absurd rfl ne
  ·rcases v7 y with⟨e,_⟩ | ⟨_,y⟩
   ·exact absurd e ne
   ·exact A2.row i k' r' x y) (fun k' hk'=>by
  rcases Ry hk' with h | rfl
  ·have:=A.new k' h;omega
  ·omega) fun r' hr' y hy=>by
  rcases Ry hr' with h | rfl
  ·exact A2.it r' h y hy
  ·exact A2.it r (RD hr) y (SG hy)
 have f:=m4 (A:=r.eraseIdx s) hr;have e2:(r.eraseIdx s).length<=r.length:=List.length_eraseIdx_le ..;exact q _ _ _ T2 O2 W (by rw[RP];omega) (by omega)
end
end
section
variable{Δ:Nat->Sn}{t n l a o s k k2 R T:Nat}{es:EE}{S S1:Sto}{ks:List Nat}{rs:List (List SV)}{r r2:List SV}{D:EndsS}
theorem F3{m:Nat}{r':List SV}(A:Frs t S S1 l ks rs)(hm:S1[m]?=some (.lst r'))(i k':Nat)(r'':List SV)(x:(ks.set a m)[i]?=some k')(y:(rs.set a r')[i]?=some r''):S1[k']?=some (.lst r''):=by
 rcases v7 x with⟨rfl,rfl⟩ | ⟨ne,x⟩
 ·rcases v7 y with⟨_,rfl⟩ | ⟨ne,_⟩
  ·exact hm
  ·exact absurd rfl ne
 ·rcases v7 y with⟨e,_⟩ | ⟨_,y⟩
  ·exact absurd e ne
  ·exact A.row i k' r'' x y
theorem HA{m:Nat}(A:Frs t S S1 l ks rs)(h1:S.length<=m)(h2:m≠l):∀ k∈ks.set a m,S.length<=k/\k≠l:=fun k' hk'=>by
 rcases Ry hk' with h | rfl
 ·have:=A.new k' h;omega
 ·exact⟨h1,h2⟩
theorem Kj{r':List SV}(A:Frs t S S1 l ks rs)(hi:∀ y∈r',Gd (VH (Hd t S l) S1) 1 10 y):∀ r∈rs.set a r',∀ y∈r,Gd (VH (Hd t S l) S1) 1 10 y:=fun r' hr' y hy=>by
 rcases Ry hr' with h | rfl
 ·exact A.it r' h y hy
 ·exact hi y hy
theorem QV(A:Frs t S S1 l ks rs)(hk:ks[a]?=some k)(hr:rs[a]?=some r)(hk2:ks[o]?=some k2)(hr2:rs[o]?=some r2)(hs:s<=r.length)(hR:rs.length<=R)(hT:rs.flatten.length<=T)(hb:T<=60)(q:Aft t S l R T fun S'=>D.nx (BU t n es l 3 a o s) S'):wSt Δ sw3 D (BU t n es l 3 a o s) S1:=by
 have ha:=(gM hk).1;have ho:=(gM hk2).1;have h1:=A.row a k r hk hr;have h2:=A.row o k2 r2 hk2 hr2;have rl:=B0 hr;have rl2:=B0 hr2;refine⟨_,rfl,_,rfl,ifT rfl ⟨_,rfl,_,rfl,_,rfl,_,_,a5 A.top,w5 hk,_,a5 h1,_,rfl,?_⟩⟩;refine ifD (fun z=>?_) (fun z=>l7 (q ks rs S1 A.tape A.on A.rws (by omega) (by omega)));have z:(s:Int)<(r.length:Nat):=z;have hsl:s<r.length:=by omega
 have hy:=RB hsl;have my:=Rv hsl;generalize r[s]=y at *;refine⟨_,rfl,_,rfl,_,_,a5 A.top,w5 hk2,_,rfl,_,rfl,_,_,a5 A.top,w5 hk,_,rfl,_,_,a5 h1,f7 hy,by show 1<=100000;decide,_,_,c7 h2,a8,by show _<=100000;simp;omega,_,_,rfl,rfl,a8,by rw[R9,Rk];omega,?_,fun ys p=>?_⟩
 ·have A2:=A.gw (((Gw.refl S1).push (o:=SO.lst [y])).push (o:=SO.lst (r2++[y])));intro v hv;rcases RO.mp hv with h | h
  ·exact(A2.it r2 (RD hr2) v h).fits
  ·rw[RG.mp h];exact(A2.it r (RD hr) y my).fits
 have G:=(((Gw.refl S1).push (o:=SO.lst [y])).push (o:=SO.lst (r2++[y]))).push (o:=SO.lst ys);have hm:(((S1++[SO.lst [y]])++[SO.lst (r2++[y])])++[SO.lst ys])[((S1++[SO.lst [y]])++[SO.lst (r2++[y])]).length]?=some (.lst ys):=a8;have hml:S1.length<=((S1++[SO.lst [y]])++[SO.lst (r2++[y])]).length:=by rw[R9,R9];omega
 generalize ((S1++[SO.lst [y]])++[SO.lst (r2++[y])]).length=m at *;generalize ((S1++[SO.lst [y]])++[SO.lst (r2++[y])])++[SO.lst ys]=S2 at *;have A2:=A.gw G;refine⟨_,rfl,_,rfl,ks.map SV.loc,o,A2.top,BP (by rw[RC];exact ho),?_⟩;rw[<-UF];have:=A.lt;have ln:=A.ln
 obtain⟨T2,O2,W⟩:=A2.setTop (ks':=ks.set o m) (rs':=rs.set o ys) (by rw[RP,RP];exact A.len) (F3 A2 hm) (HA A2 (by omega) (by omega)) (Kj A2 fun v hv=>by
  rcases RO.mp (p.mem_iff.mp hv) with h | h
  ·exact A2.it r2 (RD hr2) v h
  ·rw[RG.mp h];exact A2.it r (RD hr) y my)
 have f:=m4 (A:=ys) hr2;have e2:=p.length_eq;rw[R9,Rk]at e2;exact q _ _ _ T2 O2 W (by rw[RP];omega) (by omega)
theorem QW{ko:Nat}(hodd:Ag (Δ ko))(A:Frs t S S1 l ks rs)(hel:es.length<=1000)(hk:ks[a]?=some k)(hr:rs[a]?=some r)(hs:s<=r.length)(hR:rs.length<=R)(hT:rs.flatten.length<=T)(hb:T<=1000)(q:Aft t S l R T fun S'=>D.nx (BU t n es l 4 a o s) S'):wSt Δ (sw4 ko) D (BU t n es l 4 a o s) S1:=by
 have h1:=A.row a k r hk hr;have rl:=B0 hr;refine⟨_,rfl,_,rfl,ifT rfl ⟨_,rfl,_,rfl,_,_,a5 A.top,w5 hk,⟨_,_,rfl,h1⟩,_,rfl,_,rfl,_,rfl,hodd A.tape hel fun y S2 T2 O2 g=>?_⟩⟩;have A2:=A.grow T2 O2;refine⟨r,A2.row a k r hk hr,⟨by omega,by omega⟩,by show _<100000;omega,?_⟩
 obtain⟨T3,O3,W⟩:=A2.setRow hk (r:=r.take (s:Int).toNat++y::r.drop (s:Int).toNat) fun v hv=>by
  rcases RO.mp hv with h | h
  ·exact A2.it r (RD hr) v (Su h)
  ·rcases RM.mp h with rfl | h
   ·exact g _ (.inl rfl) A.nw
   ·exact A2.it r (RD hr) v (TM h)
 have f:=m4 (A:=r.take (s:Int).toNat++y::r.drop (s:Int).toNat) hr;rw[R9,Rt,Rg,Rr]at f;exact q _ _ _ T3 O3 W (by rw[RP];omega) (by omega)
theorem QX(A:Frs t S S1 l ks rs)(hk:ks[a]?=some k)(hr:rs[a]?=some r)(hR:rs.length<=R)(hT:rs.flatten.length<=T)(q:Aft t S l R T fun S'=>D.nx (BU t n es l 5 a o s) S'):wSt Δ sw5 D (BU t n es l 5 a o s) S1:=by
 have h1:=A.row a k r hk hr;refine⟨_,rfl,_,rfl,ifT rfl ⟨_,rfl,_,rfl,_,_,a5 A.top,w5 hk,⟨_,_,rfl,h1⟩,r,h1,?_⟩⟩;obtain⟨T3,O3,W⟩:=A.setRow hk (r:=r.reverse) fun v hv=>A.it r (RD hr) v (Ug.mp hv);have f:=m4 (A:=r.reverse) hr;rw[SN]at f;exact q _ _ _ T3 O3 W (by rw[RP];omega) (by omega)
theorem QY{ko:Nat}(hodd:Ag (Δ ko))(A:Frs t S S1 l ks rs)(hel:es.length<=1000)(hk:ks[a]?=some k)(hr:rs[a]?=some r)(hs:s<=r.length)(hR:rs.length<=R)(hT:rs.flatten.length<=T)(q:Aft t S l R T fun S'=>D.nx (BU t n es l 7 a o s) S'):wSt Δ (sw7 ko) D (BU t n es l 7 a o s) S1:=by
 have h1:=A.row a k r hk hr;refine⟨_,rfl,_,rfl,ifT rfl ⟨_,rfl,_,rfl,_,rfl,_,_,a5 A.top,w5 hk,_,a5 h1,_,rfl,?_⟩⟩;refine ifD (fun z=>?_) (fun z=>l7 (q ks rs S1 A.tape A.on A.rws (by omega) (by omega)));have z:(s:Int)<(r.length:Nat):=z;refine⟨_,rfl,_,rfl,hodd A.tape hel fun y S2 T2 O2 g=>?_⟩;have A2:=A.grow T2 O2;refine⟨_,rfl,_,rfl,_,_,a5 A2.top,w5 hk,_,rfl,r,s,A2.row a k r hk hr,BP (by omega),?_⟩
 obtain⟨T3,O3,W⟩:=A2.setRow hk (r:=r.set s y) fun v hv=>by
  rcases Ry hv with h | rfl
  ·exact A2.it r (RD hr) v h
  ·exact g _ (.inl rfl) A.nw
 have f:=m4 (A:=r.set s y) hr;rw[RP]at f;exact q _ _ _ T3 O3 W (by rw[RP];omega) (by omega)
theorem QZ(A:Frs t S S1 l ks rs)(hk:ks[a]?=some k)(hr:rs[a]?=some r)(hk2:ks[o]?=some k2)(hr2:rs[o]?=some r2)(hR:rs.length<=R)(hT:rs.flatten.length<=T)(hb:T<=60)(hb2:R<=1000)(q:Aft t S l R T fun S'=>D.nx (BU t n es l 6 a o s) S'):wSt Δ sw6 D (BU t n es l 6 a o s) S1:=by
 have ha:=(gM hk).1;have ho:=(gM hk2).1;have h1:=A.row a k r hk hr;have h2:=A.row o k2 r2 hk2 hr2;have hl:=A.len;refine⟨_,rfl,_,rfl,ifT rfl ⟨_,rfl,_,rfl,_,rfl,?_⟩⟩;show if (!decide ((a:Int)=(o:Int)))=true then _ else _
 by_cases z:(a:Int)=(o:Int)
 case pos=>exact ifF (by rw[decide_eq_true z];rfl) (l7 (q ks rs S1 A.tape A.on A.rws (by omega) (by omega)))
 refine ifT (by rw[decide_eq_false z];rfl) ?_;have fe:=m4 (A:=[]) hr;rw[SH]at fe;have ge:(rs.set a [])[o]?=some r2:=by rw[RU (by omega)];exact hr2
 have re:=B0 ge;refine⟨_,rfl,_,rfl,_,_,a5 A.top,w5 hk,_,rfl,_,rfl,_,_,a5 A.top,w5 hk2,_,_,h1,h2,by show _<=100000;omega,_,_,rfl,rfl,a8,by rw[R9];omega,?_,fun ys p=>?_⟩
 ·have A2:=A.gw ((Gw.refl S1).push (o:=SO.lst (r++r2)));intro v hv;rcases RO.mp hv with h | h
  ·exact(A2.it r (RD hr) v h).fits
  ·exact(A2.it r2 (RD hr2) v h).fits
 have G:=((Gw.refl S1).push (o:=SO.lst (r++r2))).push (o:=SO.lst ys);have hm:((S1++[SO.lst (r++r2)])++[SO.lst ys])[(S1++[SO.lst (r++r2)]).length]?=some (.lst ys):=a8;have hml:S1.length<=(S1++[SO.lst (r++r2)]).length:=by rw[R9];omega
 generalize (S1++[SO.lst (r++r2)]).length=m at *;generalize (S1++[SO.lst (r++r2)])++[SO.lst ys]=S2 at *;have A2:=A.gw G;refine⟨_,rfl,_,rfl,ks.map SV.loc,a,A2.top,BP (by rw[RC];exact ha),?_⟩;rw[<-UF];have:=A.lt;have ln:=A.ln;have top3:(S2.set l (.lst ((ks.set a m).map SV.loc)))[l]?=some (.lst ((ks.set a m).map SV.loc)):=Ri A2.lt;have hlm:((ks.set a m).map SV.loc).length=ks.length:=by rw[RC,RP]
 refine⟨_,rfl,⟨_,_,rfl,top3⟩,_,rfl,_,.loc k2,top3,⟨by omega,by rw[hlm];omega⟩,by rw[hlm];show _<=100000;omega,by rw[Sq,RI,RU (by omega),hk2];rfl,?_⟩;show D.nx _ _;rw[Sq,List.set_set,Fu]
 obtain⟨T2,O2,W⟩:=A2.setTop (ks':=(ks.set a m).eraseIdx o) (rs':=(rs.set a ys).eraseIdx o) (by rw[SB (by rw[RP];exact ho),SB (by rw[RP];omega),RP,RP,hl]) (fun i k' r' x y=>by
  obtain⟨j,x,y⟩:=Ki x y;exact F3 A2 hm j k' r' x y) (fun k' hk'=>HA A2 (by omega) (by omega) k' (SG hk')) fun r' hr'=>Kj A2 (fun v hv=>by
  rcases RO.mp (p.mem_iff.mp hv) with h | h
  ·exact A2.it r (RD hr) v h
  ·exact A2.it r2 (RD hr2) v h) r' (SG hr')
 have f:=m4 (A:=ys) hr;have e2:=p.length_eq;rw[R9]at e2;have g2:(rs.set a ys)[o]?=some r2:=by rw[RU (by omega)];exact hr2
 have f2:=Ai g2;have e3:=SB (show o<(rs.set a ys).length by rw[RP];omega);rw[RP]at e3;exact q _ _ _ T2 O2 W (by omega) (by omega)
end
theorem MX{α β:Type}{ks:List α}{rs:List β}{i j:Nat}{k x:α}{r z:β}(hl:ks.length=rs.length)(hi:i<=rs.length)(h1:(ks.take i++k::ks.drop i)[j]?=some x)(h2:(rs.take i++r::rs.drop i)[j]?=some z):(x=k/\z=r)\/∃ j':Nat,ks[j']?=some x/\rs[j']?=some z:=by
 have l1:(ks.take i).length=i:=by rw[Rg];omega
 have l2:(rs.take i).length=i:=by rw[Rg];omega
 rcases TB j i with c | c
 ·rw[RQ (by omega),UT,iP c]at h1 h2;exact .inr ⟨j,h1,h2⟩
 ·rw[Rb (by omega),l1]at h1;rw[Rb (by omega),l2]at h2;cases e:j - i with
  | zero=>
    rw[e]at h1 h2;exact .inl ⟨(oj h1).symm,(oj h2).symm⟩
  | succ m=>
    rw[e,List.getElem?_cons_succ,List.getElem?_drop]at h1 h2;exact .inr ⟨i+m,h1,h2⟩
theorem Kk{α:Type}(rs:List (List α))(i:Nat)(r:List α):(rs.take i++r::rs.drop i).flatten.length=rs.flatten.length+r.length:=by
 have e:rs.flatten=(rs.take i).flatten++(rs.drop i).flatten:=by rw[<-SE,Tj]
 rw[SE,Rj,e,R9,R9,R9];omega
section
variable{Δ:Nat->Sn}
noncomputable def si1(kd ko:Nat):Stm:=(.expr (.mt .insert (.var 2) (.cons (.call kd (.cons (.var 0) (.cons (.op .Add (.bi .len (.cons (.var 2) .nil)) (.c (.int 1))) .nil))) (.cons (.ix (.lst (.cons (.lst .nil) (.cons (.lst (.cons (.call ko (.cons (.var 0) (.cons (.var 1) .nil))) .nil)) (.cons (.lst (.cons (.c (.int 0)) .nil)) .nil)))) (.call kd (.cons (.var 0) (.cons (.c (.int 3)) .nil)))) .nil))))
noncomputable def zl1:Stm:=(.asg (.nm 2) (.comp ["_law_row"] [] [] (.nm 0) (.seq (.var 2)) .no (.bi .list (.cons (.var 0) .nil))))
noncomputable def zl2(kd:Nat):Stm:=(.asg (.nm 3) (.call kd (.cons (.var 0) (.cons (.c (.int 9)) .nil))))
noncomputable def zl3(kd ko:Nat):Stm:=(.iff (.or (.cmp .Eq (.var 3) (.c (.int 0))) (.cmp .Eq (.var 2) (.lst .nil))) [si1 kd ko,(.ret (.var 2))] [])
noncomputable def zl4(kd:Nat):Stm:=(.par 4 5 (.call kd (.cons (.var 0) (.cons (.bi .len (.cons (.var 2) .nil)) .nil))) (.call kd (.cons (.var 0) (.cons (.bi .len (.cons (.var 2) .nil)) .nil))))
noncomputable def zl5(kd:Nat):Stm:=(.asg (.nm 6) (.call kd (.cons (.var 0) (.cons (.op .Add (.bi .len (.cons Cz .nil)) (.c (.int 1))) .nil))))
noncomputable def HB(kd ko:Nat):List Stm:=[zl1,zl2 kd,zl3 kd ko,zl4 kd,zl5 kd,sw1,sw2,sw3,sw4 ko,sw5,sw6,sw7 ko,(.ret (.var 2))]
variable{t n l R T:Nat}{es:EE}{S S1:Sto}{ks:List Nat}{rs:List (List SV)}{Q:QE}
noncomputable def SQ(t:Nat)(S:Sto)(R T:Nat)(Q:QE):Prop:=∀(l:Nat) (ks:List Nat) (rs:List (List SV)) (S':Sto),TapeS S' t->On t S S'->Rws t S' l ks rs->rs.length<=R+1->rs.flatten.length<=T+1->Q (.loc l) S'
theorem HC{kd ko:Nat}(hd:l5 (Δ kd))(ho:Ag (Δ ko)){w:SV}{o4 o5 o6:Option SV}(A:Frs t S S1 l ks rs)(hel:es.length<=1000)(hR:rs.length<=R)(hT:rs.flatten.length<=T)(hb:R<=1000)(q:SQ t S R T Q):wSs Δ [si1 kd ko,(.ret (.var 2))] (AJ Q) [some (.loc t),some (g0 n es),some (.loc l),some w,o4,o5,o6] S1:=by
 have el:(ks.map SV.loc).length=rs.length:=by rw[RC,A.len]
 refine⟨_,rfl,⟨_,_,rfl,A.top⟩,_,rfl,_,rfl,_,a5 A.top,hd A.tape (by rw[el];omega) (by rw[el];omega) fun i S2 i0 i1 T2 O2 _=>?_⟩;rw[el]at i1;have A2:=A.grow T2 O2;have A3:=A2.gw ((Gw.refl S2).push (o:=SO.lst []));have t0:=A.t0;have ln:=A.ln;have lt2:=A2.lt;refine⟨by show 0<=100000;decide,_,rfl,_,rfl,ho A3.tape hel fun y S4 T4 O4 g=>⟨by show 1<=100000;decide,by show 1<=100000;decide,by show 3<=100000;decide,?_⟩⟩;have A4:=A3.grow T4 O4;have l4:S2.length<S4.length:=by have:=O4.len;rw[R9,Rk]at this;omega
 have G4:=(((Gw.refl S4).push (o:=SO.lst [y])).push (o:=SO.lst [SV.int 0])).push (o:=SO.lst [SV.loc S2.length,SV.loc S4.length,SV.loc (S4++[SO.lst [y]]).length]);have m0:((((S4++[SO.lst [y]])++[SO.lst [SV.int 0]])++[SO.lst [SV.loc S2.length,SV.loc S4.length,SV.loc (S4++[SO.lst [y]]).length]]))[S2.length]?=some (.lst []):=G4.keep _ _ (O4.keep _ _ (by omega) a8);have m1:((((S4++[SO.lst [y]])++[SO.lst [SV.int 0]])++[SO.lst [SV.loc S2.length,SV.loc S4.length,SV.loc (S4++[SO.lst [y]]).length]]))[S4.length]?=some (.lst [y]):=c7 (c7 a8);have m2:((((S4++[SO.lst [y]])++[SO.lst [SV.int 0]])++[SO.lst [SV.loc S2.length,SV.loc S4.length,SV.loc (S4++[SO.lst [y]]).length]]))[(S4++[SO.lst [y]]).length]?=some (.lst [.int 0]):=c7 a8;have m3:((((S4++[SO.lst [y]])++[SO.lst [SV.int 0]])++[SO.lst [SV.loc S2.length,SV.loc S4.length,SV.loc (S4++[SO.lst [y]]).length]]))[((S4++[SO.lst [y]])++[SO.lst [SV.int 0]]).length]?=some (.lst [SV.loc S2.length,SV.loc S4.length,SV.loc (S4++[SO.lst [y]]).length]):=a8;have lm2:(S4++[SO.lst [y]]).length=S4.length+1:=by rw[R9];rfl
 have lm3:((S4++[SO.lst [y]])++[SO.lst [SV.int 0]]).length=S4.length+2:=by rw[R9,R9];rfl
 rw[lm2]at m0 m1 m2 m3 G4 ⊢;rw[lm3]at m3 ⊢;generalize ((S4++[SO.lst [y]])++[SO.lst [SV.int 0]])++[SO.lst [SV.loc S2.length,SV.loc S4.length,SV.loc (S4.length+1)]]=S5 at *;have A5:=A4.gw G4;refine⟨_,rfl,hd A5.tape (by decide) (by decide) fun j S6 j0 j1 T6 O6 _=>?_⟩;have A6:=A5.grow T6 O6;have t4:=T4.lt;have n0:=O6.keep _ _ (by omega) m0;have n1:=O6.keep _ _ (by omega) m1;have n2:=O6.keep _ _ (by omega) m2;have n3:=O6.keep _ _ (by omega) m3;have gy:Gd (VH (Hd t S l) S6) 1 10 y:=((g _ (.inl rfl) A3.nw).hg G4.hg).hg (O6.hg (.inl rfl))
 have pick:∃ k r,atI [SV.loc S2.length,SV.loc S4.length,SV.loc (S4.length+1)] j=some (.loc k)/\S6[k]?=some (.lst r)/\S2.length<=k/\r.length<=1/\∀ v∈r,Gd (VH (Hd t S l) S6) 1 10 v:=by
  have:j=0\/j=1\/j=2:=by omega
  rcases this with rfl | rfl | rfl
  ·exact⟨_,_,f7 (j:=0) rfl,n0,RE _,Rz _,fun _ h=>nomatch h⟩
  ·exact⟨_,_,f7 (j:=1) rfl,n1,by omega,RE _,fun v hv=>by rw[RG.mp hv];exact gy⟩
  ·exact⟨_,_,f7 (j:=2) rfl,n2,by omega,RE _,fun v hv=>by rw[RG.mp hv];exact .int ⟨by decide,by decide⟩⟩
 obtain⟨k,r,ha,hk,kl,rl,hg⟩:=pick;have il:i.toNat<=rs.length:=by omega
 refine⟨_,_,a5 n3,ha,_,A6.top,⟨i0,by rw[el];omega⟩,by rw[el];show _<100000;omega,?_⟩;rw[<-UO,<-Us,<-RV,<-Rm]
 obtain⟨T7,O7,W⟩:=A6.setTop (ks':=ks.take i.toNat++k::ks.drop i.toNat) (rs':=rs.take i.toNat++r::rs.drop i.toNat) (by rw[R9,R9,Rt,Rt,Rg,Rg,Rr,Rr,A.len]) (fun a k' r' x z=>by
  rcases MX A.len il x z with⟨rfl,rfl⟩ | ⟨j',x,z⟩
  ·exact hk
  ·exact A6.row j' k' r' x z) (fun k' hk'=>by
  rcases RO.mp hk' with h | h
  ·have:=A.new k' (Su h);omega
  ·rcases RM.mp h with rfl | h
   ·omega
   ·have:=A.new k' (TM h);omega) fun r' hr' v hv=>by
  rcases RO.mp hr' with h | h
  ·exact A6.it r' (Su h) v hv
  ·rcases RM.mp h with rfl | h
   ·exact hg v hv
   ·exact A6.it r' (TM h) v hv
 have f:=Kk rs i.toNat r;refine⟨_,rfl,q l _ _ _ T7 O7 W ?_ (by omega)⟩;rw[R9,Rt,Rg,Rr];omega
theorem Kl{ko:Nat}(ho:Ag (Δ ko)){w:Int}{a o s k k2:Nat}{r r2:List SV}(h1:0<w)(h9:w<9)(A:Frs t S S1 l ks rs)(hel:es.length<=1000)(hk:ks[a]?=some k)(hr:rs[a]?=some r)(hk2:ks[o]?=some k2)(hr2:rs[o]?=some r2)(hs:s<=r.length)(hR:rs.length<=R)(hT:rs.flatten.length<=T)(hb:T<=60)(hb2:R<=1000)(q:SQ t S R T Q):
 wSs Δ [sw1,sw2,sw3,sw4 ko,sw5,sw6,sw7 ko,(.ret (.var 2))] (AJ Q) (BU t n es l w a o s) S1:=by
 have fin:∀{w:Int} {N:Sto->Prop},(∀ S',Q (.loc l) S'->N S')->Aft t S l R T N:=fun f ks rs S' a b c d e=>f S' (q l ks rs S' a b c d e);have:w=1\/w=2\/w=3\/w=4\/w=5\/w=6\/w=7\/w=8:=by omega
 rcases this with rfl | rfl | rfl | rfl | rfl | rfl | rfl | rfl
 ·exact QT A hk hR hT hb2 fun l ks rs S' a b c d e=>q l ks rs S' a b c d e
 ·exact j7 rfl (by decide) (QU A hk hr hs hR hT (by omega) (fin (w:=0) fun S' h=>l8 rfl (by decide) (j7 rfl (by decide) (j7 rfl (by decide) (l8 rfl (by decide) (l8 rfl (by decide) ⟨_,rfl,h⟩))))))
 ·exact j7 rfl (by decide) (j7 rfl (by decide) (QV A hk hr hk2 hr2 hs hR hT hb (fin (w:=0) fun S' h=>j7 rfl (by decide) (j7 rfl (by decide) (l8 rfl (by decide) (l8 rfl (by decide) ⟨_,rfl,h⟩))))))
 ·exact j7 rfl (by decide) (j7 rfl (by decide) (l8 rfl (by decide) (QW ho A hel hk hr hs hR hT (by omega) (fin (w:=0) fun S' h=>j7 rfl (by decide) (l8 rfl (by decide) (l8 rfl (by decide) ⟨_,rfl,h⟩))))))
 ·exact j7 rfl (by decide) (j7 rfl (by decide) (l8 rfl (by decide) (j7 rfl (by decide) (QX A hk hr hR hT (fin (w:=0) fun S' h=>l8 rfl (by decide) (l8 rfl (by decide) ⟨_,rfl,h⟩))))))
 ·exact j7 rfl (by decide) (j7 rfl (by decide) (l8 rfl (by decide) (j7 rfl (by decide) (j7 rfl (by decide) (QZ A hk hr hk2 hr2 hR hT hb hb2 (fin (w:=0) fun S' h=>l8 rfl (by decide) ⟨_,rfl,h⟩))))))
 ·exact j7 rfl (by decide) (j7 rfl (by decide) (l8 rfl (by decide) (j7 rfl (by decide) (j7 rfl (by decide) (l8 rfl (by decide) (QY ho A hel hk hr hs hR hT (fin (w:=0) fun S' h=>⟨_,rfl,h⟩)))))))
 ·exact j7 rfl (by decide) (j7 rfl (by decide) (l8 rfl (by decide) (j7 rfl (by decide) (j7 rfl (by decide) (l8 rfl (by decide) (l8 rfl (by decide) ⟨_,rfl,q l ks rs S1 A.tape A.on A.rws (by omega) (by omega)⟩))))))
noncomputable def BV(s:Sn):Prop:=∀{t n l:Nat} {es:EE} {S:Sto} {ks:List Nat} {rs:List (List SV)} {Q:QE},TapeS S t->es.length<=1000->Rws t S l ks rs->rs.length<=60->rs.flatten.length<=60->SQ t S rs.length rs.flatten.length Q->s [.loc t,g0 n es,.loc l] S Q
theorem IR(hΔ:∀ f,MonoN (Δ f)){kd ko:Nat}(hd:l5 (Δ kd))(ho:Ag (Δ ko)){D:Df}(hb:D.body=HB kd ko)(hN:D.N.length=7)(hp:D.ps.length=3):BV (i8 Δ D):=by
 intro t n l es S ks rs Q T hel W hR hT q;unfold i8;rw[hb,hN];have t0:=T.lt;have hl:=W.len;refine⟨hp.symm,_,rfl,_,a5 W.top,?_⟩;refine m7 (f9 hΔ _).2 (a6 hΔ _).1 (fun i ys S2=>Gw S S2/\S2.length=S.length+i/\ys=(RL i).map (fun j=>SV.loc (S.length+j))/\∀(j:Nat) (r:List SV),j<i->rs[j]?=some r->S2[S.length+j]?=some (.lst r)) ⟨Gw.refl S,rfl,rfl,fun _ _ h=>absurd h (UG _)⟩ (fun _ _ S2 h=>by show S2[_]?=S[_]?;rw[h.1.keep _ _ W.top,W.top]) ?_ ?_
 ·rintro i x ys S2 hx ⟨G,l2,rfl,hr⟩;rw[RI]at hx;obtain⟨k,ek,rfl⟩:=SM.mp hx;have hi:=(gM ek).1;have er:=RB (show i<rs.length by omega);have hk:=W.row i _ _ ek er;refine⟨_,rfl,_,a5 (G.keep _ _ hk),by rw[RC,Sb];show _<100000;omega,G.push,by rw[R9,l2];rfl,by rw[TY,Rm,l2];rfl,fun j r hj h=>?_⟩;rcases TB j i with z | z
  ·exact c7 (hr j r z h)
  ·have:j=i:=by omega
   subst this;rw[er]at h;cases h;rw[<-l2];exact a8
 ·rintro ys S2 ⟨G,l2,rfl,hr⟩;rw[RC,hl]at *;have G2:=G.push (o:=SO.lst ((RL rs.length).map fun j=>SV.loc (S.length+j)));have em:(RL rs.length).map (fun j=>SV.loc (S.length+j))=((RL rs.length).map fun j=>S.length+j).map SV.loc:=by rw[UC];rfl
  have gk:∀(i k:Nat),((RL rs.length).map fun j=>S.length+j)[i]?=some k->i<rs.length/\k=S.length+i:=fun i k h=>by
   rw[RI]at h;obtain⟨j,e,rfl⟩:=SM.mp h;have hi:=(gM e).1;rw[Sb]at hi;rw[Sw hi]at e;cases e;exact⟨hi,rfl⟩
  have A:Frs t S (S2++[SO.lst ((RL rs.length).map fun j=>SV.loc (S.length+j))]) S2.length ((RL rs.length).map fun j=>S.length+j) rs:=by
   refine⟨G2.tape T,G2.on,by rw[<-em];exact a8,by rw[RC,Sb],fun i k r a b=>?_,fun k hk=>?_,by omega,by rw[R9];exact U1 _,?_,t0,fun r h y hy=>?_⟩
   ·obtain⟨hi,rfl⟩:=gk i k a;exact c7 (hr i r hi b)
   ·obtain⟨i,hi⟩:=SK hk;obtain⟨hi,rfl⟩:=gk i k hi;omega
   ·exact TH.mpr (U9.imp fun{a b} h z=>h (by omega))
   ·exact(W.it r h y hy).see fun a xs e=>⟨fun z=>by
     have hal:=(gM e.2).1;rcases z with z | z
     ·exact e.1 z
     ·omega,G2.keep _ _ e.2⟩
  generalize (RL rs.length).map (fun j=>S.length+j)=ks' at *;have e7:S2.length=S2.length:=rfl;show wSs Δ [zl2 kd,zl3 kd ko,zl4 kd,zl5 kd,sw1,sw2,sw3,sw4 ko,sw5,sw6,sw7 ko,(.ret (.var 2))] (AJ Q) [some (.loc t),some (g0 n es),some (.loc S2.length),none,none,none,none] _;generalize S2++[SO.lst ((RL rs.length).map fun j=>SV.loc (S.length+j))]=S3 at *;generalize S2.length=l at *;refine⟨_,rfl,hd A.tape (by decide) (by decide) fun w S4 w0 w1 T4 O4 _=>?_⟩;have A4:=A.grow T4 O4;have q':SQ t S rs.length rs.flatten.length Q:=q;refine⟨_,rfl,_,rfl,?_⟩;refine ifD (fun z=>ifT rfl (HC hd ho A4 hel (RE _) (RE _) (by omega) q')) (fun z=>?_);have A5:=A4.gw ((Gw.refl S4).push (o:=SO.lst []));refine⟨_,rfl,by show 0<=100000;decide,_,_,A5.top,a8,.inr (.inr rfl),_,rfl,?_⟩;rw[BR];refine ifB (fun z2=>HC hd ho A5 hel (RE _) (RE _) (by omega) q') (fun z2=>l7 ?_);have el:(ks'.map SV.loc).length=rs.length:=by rw[RC,A.len]
  have hpos:0<rs.length:=by
   rw[<-el];cases e:ks'.map SV.loc with
   | nil=>rw[e]at z2;cases z2
   | cons _ _=>simp
  refine⟨_,rfl,_,rfl,_,a5 A5.top,hd A5.tape (by rw[el];omega) (by rw[el];omega) fun a S6 a0 a1 T6 O6 _=>?_⟩;have A6:=A5.grow T6 O6;refine⟨_,rfl,_,rfl,_,a5 A6.top,hd A6.tape (by rw[el];omega) (by rw[el];omega) fun b S7 b0 b1 T7 O7 _=>?_⟩;have A7:=A6.grow T7 O7;rw[el]at a1 b1;obtain⟨a,rfl⟩:=Sd a0;obtain⟨b,rfl⟩:=Sd b0;have lk:=A.len;have ka:=RB (show a<ks'.length by omega);have ra:=RB (show a<rs.length by omega);have kb:=RB (show b<ks'.length by omega);have rb:=RB (show b<rs.length by omega);have rl:=B0 ra;refine⟨_,rfl,_,rfl,_,rfl,_,_,a5 A7.top,w5 ka,_,a5 (A7.row a _ _ ka ra),hd A7.tape (by omega) (by omega) fun s S8 s0 s1 T8 O8 _=>?_⟩;obtain⟨s,rfl⟩:=Sd s0;exact Kl ho (by have z:¬ w=0:=z;omega) w1 (A7.grow T8 O8) hel ka ra kb rb (by omega) (RE _) (RE _) hT (by omega) q'
end
theorem Cl{f g:SV->Option PyData}:∀{xs:List SV},(∀ y∈xs,f y=g y)->xs.mapM f=xs.mapM g
 | [],_=>rfl
 | x::xs,h=>by rw[Tu,Tu,h x (RS ..),Cl fun y hy=>h y (RK _ hy)]
theorem Oq{S S':Sto}{k b:Nat}{x:SV}(h:Gd (VS S) k b x)(G:Gw S S'):∀ m,u7 m S' x=u7 m S x:=by
 induction h with
 | non=>intro m;cases m<;>rfl
 | bl c=>intro m;cases m<;>rfl
 | int h=>intro m;cases m<;>rfl
 | str h hb=>intro m;cases m<;>rfl
 | tup _ _ _ ih=>
   intro m;cases m with
   | zero=>rfl
   | succ m=>
     show(U4 (u7 m S') _).map _=(U4 (u7 m S) _).map _;rw[Cl fun y hy=>ih y hy m]
 | @lst k b c l xs hv _ _ _ ih=>
   intro m;cases m with
   | zero=>rfl
   | succ m=>
     have h1:S[l]?=some (SO.lst xs):=hv;show(match S'[l]? with | some (SO.lst xs)=>(xs.mapM (u7 m S')).map PyData.list | _=>none)=(match S[l]? with | some (SO.lst xs)=>(xs.mapM (u7 m S)).map PyData.list | _=>none)
     rw[h1,G.keep _ _ h1];show(U4 (u7 m S') xs).map _=(U4 (u7 m S) xs).map _;rw[Cl fun y hy=>ih y hy m]
theorem Bm{S S':Sto}{k b:Nat}{x:SV}{tss:List (List Nat)}(h:Gd (VS S) k b x)(G:Gw S S'):IsRows S' x tss↔IsRows S x tss:=by
 have key:∀ ys,seqS x S=some ys->∀ y∈ys,seqS y S'=seqS y S:=fun ys e y hy=>by
  rcases h.split with⟨_,no⟩ | ⟨xs,V⟩
  ·exact absurd e (no _)
  ·rw[V.seq S (Gw.refl S)]at e;cases e;obtain⟨k',b',hg⟩:=V.gd;exact(hg y hy).seqEq G
 constructor
 ·rintro⟨ys,e,l,r⟩;rw[h.seqEq G]at e;exact⟨ys,e,l,fun i y ts a b=>(key ys e y (RD a)).symm.trans (r i y ts a b)⟩
 ·rintro⟨ys,e,l,r⟩;exact⟨ys,(h.seqEq G).trans e,l,fun i y ts a b=>(key ys e y (RD a)).trans (r i y ts a b)⟩
theorem IS{es:EE}{room:Int}{S S':Sto}{k b:Nat}{x:SV}(h:Gd (VS S) k b x)(G:Gw S S'):DP es room S' x↔DP es room S x:=by
 unfold DP;exact⟨fun⟨tss,a,r⟩=>⟨tss,(Bm h G).mp a,r⟩,fun⟨tss,a,r⟩=>⟨tss,(Bm h G).mpr a,r⟩⟩
structure ThG(t:Nat)(S:Sto)(x:SV):Prop where
 gd:Gd (VH (·=t) S) 4 44000 x
 few:∀ tss,IsRows S x tss->tss.flatten.length<64
theorem F4{rs:List (List SV)}{tss:List (List Nat)}(l:rs.length=tss.length)(h:∀(i:Nat) (r:List SV) (ts:List Nat),rs[i]?=some r->tss[i]?=some ts->r=natS ts):tss.flatten.length=rs.flatten.length:=by
 rw[TV,TV]
 congr 1
 refine Tn (by rw[RC,RC,l]) fun i h1 h2=>?_;rw[U5,U5];rw[RC]at h1 h2;rw[h i _ _ (RB h2) (RB h1),c5]
theorem MY{t l:Nat}{S:Sto}{ks:List Nat}{rs:List (List SV)}(W:Rws t S l ks rs)(hR:rs.length<=63)(hT:rs.flatten.length<=63):ThG t S (.loc l) where
 gd:=by
  refine Gd.up (k:=3) (b:=43722) (.lst (k:=2) (b:=693) ⟨W.lt,W.top⟩ (fun y hy=>?_) (by rw[RC,W.len];exact hR) (by rw[RC,W.len];omega)) (by decide) (by decide);obtain⟨k,hk,rfl⟩:=SC.mp hy;obtain⟨i,hi⟩:=SK hk;have hir:=(gM hi).1;rw[W.len]at hir;have hr:=RB hir;have rl:=B0 hr;exact .lst (k:=1) (b:=10) ⟨W.kt k hk,W.row i k _ hi hr⟩ (W.it _ (Rv hir)) (by omega) (by omega)
 few:=by
  rintro tss ⟨ys,e,l,r⟩;rw[a5 W.top]at e;cases e;rw[F4 (rs:=rs) (by rw[<-l,RC,W.len]) fun i x ts a b=>?_]
  ·omega
  ·have hi:=(gM a).1;have hk:=RB (show i<ks.length by rw[W.len];exact hi);have:=r i _ ts (by rw[RI,hk];rfl) b;rw[a5 (W.row i _ x hk a)]at this;exact oj this
theorem HD{t:Nat}{S:Sto}{us:List (List SV)}(it:∀ r∈us,∀ y∈r,Gd (VH (·=t) S) 1 10 y)(hR:us.length<=63)(hT:us.flatten.length<=63):Gd (VH (·=t) S) 3 43722 (.tup (us.map SV.tup))/\∀ tss,IsRows S (.tup (us.map SV.tup)) tss->tss.flatten.length<64:=by
 constructor
 ·refine .tup (k:=2) (b:=693) (fun y hy=>?_) (by rw[RC];exact hR) (by rw[RC];omega);obtain⟨r,hr,rfl⟩:=SC.mp hy;obtain⟨i,hi⟩:=SK hr;have rl:=B0 hi;exact .tup (k:=1) (b:=10) (it r hr) (by omega) (by omega)
 ·rintro tss ⟨ys,e,l,r⟩;cases e;rw[F4 (rs:=us) (by rw[<-l,RC]) fun i x ts a b=>?_]
  ·omega
  ·have:=r i (.tup x) ts (by rw[RI,a];rfl) b;exact oj this
theorem Cn{S:Sto}{x:SV}(h:∀ xs,seqS x S≠some xs):∀ tss,IsRows S x tss->tss.flatten.length<64:=fun tss I=>let ⟨ys,e,_⟩:=I.ex;absurd e (h _)
theorem Km{H:Nat->Prop}{S:Sto}{b:Nat}{x:SV}(h:Gd (VH H S) 1 b x):∀ tss,IsRows S x tss->tss.flatten.length<64:=by
 rintro tss ⟨ys,e,l,r⟩
 have none0:∀(b:Nat) (y:SV) (xs:List SV),Gd (VH H S) 0 b y->seqS y S≠some xs:=fun b y xs g=>by
  generalize hk:0=k at g;cases g with
  | tup _ _ _=>omega
  | lst _ _ _ _=>omega
  | _=>exact nofun
 have emp:ys=[]->tss.flatten.length<64:=fun z=>by
  subst z;have:tss=[]:=List.eq_nil_of_length_eq_zero l.symm;rw[this];decide
 have main:(∀ y∈ys,∃ b,Gd (VH H S) 0 b y)->tss.flatten.length<64:=fun f=>by
  cases ys with
  | nil=>exact emp rfl
  | cons y ys=>
    have ht:=RB (show 0<tss.length by rw[<-l];simp);obtain⟨b,g⟩:=f y (RS ..);exact absurd (r 0 y _ rfl ht) (none0 b y _ g)
 generalize hk:1=k at h;cases h with
 | @tup k' b' c xs h hl hc=>
   have:k'=0:=by omega
   subst this;cases e;exact main fun y hy=>⟨_,h y hy⟩
 | @lst k' b' c l xs hv h hl hc=>
   have:k'=0:=by omega
   subst this;rw[a5 hv.2]at e;cases e;exact main fun y hy=>⟨_,h y hy⟩
 | _=>cases e
section
variable{Δ:Nat->Sn}
noncomputable def rw7:Stm:=(.asg (.nm 7) (.bi .str (.cons (.var 5) .nil)))
noncomputable def rw8(kp:Nat):Stm:=(.asg (.nm 9) (.call kp (.cons (.var 1) (.cons (.var 8) (.cons (.var 5) .nil)))))
noncomputable def rw9(kq:Nat):Stm:=(.iff (.or (.not (.bi .isi (.cons (.var 9) (.cons (.tyc .bool) .nil)))) (.or (.cmp .NotEq (.var 9) (.call kq (.cons (.var 1) (.cons (.var 8) (.cons (.var 5) .nil))))) (.cmp .NotEq (.bi .str (.cons (.var 5) .nil)) (.var 7)))) [(.ret (.c (.bl false)))] [])
noncomputable def rwL(kp kq:Nat):Stm:=(.loop (.nm 8) (.seq (.tup (.cons (.var 2) (.cons (.bi .max (.cons (.c (.int 1)) (.cons (.op .Sub (.var 2) (.c (.int 1))) .nil))) (.cons (.op .Add (.var 2) (.c (.int 1))) .nil))))) [rw8 kp,rw9 kq])
theorem Os(hΔ:∀ f,MonoN (Δ f)){kp kq:Nat}(hp:Gx (Δ kp))(hq:Dv (Δ kq)){t n:Nat}{es:EE}{room:Int}{x:SV}{S:Sto}{D:EndsS}{o3 o4 o6 o7 o8 o9:Option SV}(hu:∀ e∈es,e.1<e.2/\e.2<n)(hel:es.length<=1000)(H:ThG t S x)
 (q:∀(o7 o8 o9:Option SV) (S':Sto),Gw S S'->D.nx [some (.loc t),some (g0 n es),some (.int room),o3,o4,some x,o6,o7,o8,o9] S'):wSs Δ [rw7,rwL kp kq] D [some (.loc t),some (g0 n es),some (.int room),o3,o4,some x,o6,o7,o8,o9] S:=by
 have g:=H.gd.bare;obtain⟨d,hd,z⟩:=g.dat 20 (by decide);have ft:=z.fit (by decide) (by decide);refine⟨_,rfl,d,hd,ft,_,rfl,?_⟩;show wn _ _ _ _ _;refine⟨_,rfl,_,rfl,by show 3<=100000;decide,_,rfl,?_⟩;refine BQ (g6 hΔ _) (fun j ρ S3=>∃ o8 o9,ρ=[some (.loc t),some (g0 n es),some (.int room),o3,o4,some x,o6,some (.str (JB d)),o8,o9]/\Gw S S3) ⟨_,_,rfl,Gw.refl S⟩ (fun _ _ _ _=>trivial) ?_ ?_
 ·rintro j y ρ S3 E hE _ hy ⟨o8,o9,rfl,G3⟩
  have:∃ i:Int,y = .int i:=by
   have m:=RD hy;rcases RM.mp m with rfl | m
   ·exact⟨_,rfl⟩
   ·rcases RM.mp m with rfl | m
    ·exact⟨_,rfl⟩
    ·rw[RG.mp m];exact⟨_,rfl⟩
  obtain⟨i,rfl⟩:=this;have g3:=g.grow G3;refine⟨_,rfl,_,rfl,_,rfl,hp hu hel g3 (fun tss I=>H.few tss ((Bm g G3).mp I)) fun r S4 G4 e4=>?_⟩;refine⟨_,rfl,_,nofun,rfl,_,rfl,ifF rfl ⟨_,rfl,_,rfl,_,rfl,_,rfl,hq (g3.grow G4) fun r' S5 G5 e5=>?_⟩⟩;rw[IS g3 G4,<-e4]at e5;have er:r'=r:=Rx.mpr e5;subst er;have G35:=G3.trans (G4.trans G5);refine⟨_,rfl,ifF ?_ ⟨_,rfl,d,(Oq g G35 20).trans hd,ft,_,rfl,_,rfl,ifF ?_ (l7 (hE _ _ ⟨_,_,rfl,G35⟩))⟩⟩
  ·cases r'<;>rfl
  ·simp
 ·rintro ρ S3 ⟨o8,o9,rfl,G3⟩;exact q _ _ _ _ G3
end
theorem Rws.grow{t l:Nat}{S S':Sto}{ks:List Nat}{rs:List (List SV)}(W:Rws t S l ks rs)(O:On t S S'):Rws t S' l ks rs:=
 ⟨O.keep _ _ W.lt W.top,W.len,fun i k r a b=>O.keep _ _ (W.kt k (RD a)) (W.row i k r a b),W.lt,W.kt,fun r hr y hy=>(W.it r hr y hy).hg (O.hg rfl)⟩
section
variable{Δ:Nat->Sn}
noncomputable def rrB(kd ks:Nat):Stm:=(.loop (.nm 6) (.rng1 (.call kd (.cons (.var 0) (.cons (.c (.int 4)) .nil)))) [(.iff (.bi .all (.cons (.comp ["_law_row"] [] [] (.nm 0) (.seq (.var 5)) .no (.bi .isi (.cons (.var 0) (.cons (.tyc .list) .nil)))) .nil)) [(.asg (.nm 5) (.call ks (.cons (.var 0) (.cons (.var 1) (.cons (.var 5) .nil)))))] [])])
noncomputable def rrC:Stm:=(.iff (.cmp .Eq (.op .Mod (.var 4) (.c (.int 2))) (.c (.int 1))) [(.asg (.nm 5) (.bi .tuple (.cons (.comp ["_law_row"] [] [] (.nm 0) (.rv (.var 5)) .no (.bi .tuple (.cons (.var 0) .nil))) .nil)))] [])
noncomputable def rrD(kd ko:Nat):Stm:=(.iff (.cmp .Eq (.var 4) (.c (.int 7))) [(.asg (.nm 5) (.ix (.lst (.cons (.call ko (.cons (.var 0) (.cons (.var 1) .nil))) (.cons (.lst (.cons (.var 5) .nil)) (.cons (.c .non) (.cons (.c (.str "rounds")) (.cons (.c (.int 7)) .nil)))))) (.call kd (.cons (.var 0) (.cons (.c (.int 5)) .nil)))))] [])
noncomputable def HE(kw kd ks ko kp kq:Nat):List Stm:=[(.asg (.nm 3) (.call kw (.cons (.var 0) (.cons (.var 1) (.cons (.var 2) .nil))))),(.loop (.nm 4) (.rng1 (.c (.int 8))) [(.asg (.nm 5) (.var 3)),rrB kd ks,rrC,rrD kd ko,rw7,rwL kp kq]),(.ret (.c (.bl true)))]
variable{t n l:Nat}{es:EE}{room:Int}{S S1:Sto}{ks:List Nat}{rs:List (List SV)}{D:EndsS}
noncomputable def Fv(t n:Nat)(es:EE)(room:Int)(l i:Nat)(x:SV)(o6 o7 o8 o9:Option SV):EnvS:=[some (.loc t),some (g0 n es),some (.int room),some (.loc l),some (.int (i:Nat)),some x,o6,o7,o8,o9]
theorem Ot(hΔ:∀ f,MonoN (Δ f)){kd kz:Nat}(hd:l5 (Δ kd))(hz:BV (Δ kz)){i l0:Nat}{o6 o7 o8 o9:Option SV}(T:TapeS S t)(hel:es.length<=1000)(W:Rws t S l ks rs)(hR:rs.length<=39)(hT:rs.flatten.length<=39)
 (q:∀(l':Nat) (ks':List Nat) (rs':List (List SV)) (S':Sto) (o6:Option SV),TapeS S' t->On t S S'->Rws t S' l' ks' rs'->rs'.length<=42->rs'.flatten.length<=42->D.nx (Fv t n es room l0 i (.loc l') o6 o7 o8 o9) S'):wSt Δ (rrB kd kz) D (Fv t n es room l0 i (.loc l) o6 o7 o8 o9) S:=by
 refine⟨_,rfl,hd T (by decide) (by decide) fun m S2 m0 m1 T2 O2 _=>⟨m,rfl,⟨by omega,by omega⟩,?_⟩⟩;have hm:(Am 0 m).length<=3:=by rw[t8];omega
 refine BQ (g6 hΔ _) (fun j ρ S3=>∃(l':Nat) (ks':List Nat) (rs':List (List SV)) (o6:Option SV),ρ=Fv t n es room l0 i (.loc l') o6 o7 o8 o9/\TapeS S3 t/\On t S S3/\Rws t S3 l' ks' rs'/\rs'.length<=39+j/\rs'.flatten.length<=39+j) ⟨l,ks,rs,_,rfl,T2,O2,W.grow O2,by omega,by omega⟩ (fun _ _ _ _=>trivial) ?_ ?_
 ·rintro j x ρ S3 E hE _ hx ⟨l',ks',rs',o6,rfl,T3,O3,W3,hR3,hT3⟩;have hj:=(gM hx).1;refine⟨_,rfl,_,a5 W3.top,?_⟩;refine A0 hΔ (fun _=>true) (by rw[RC,W3.len];omega) (fun S' G=>by show S'[_]?=S3[_]?;rw[G.keep _ _ W3.top,W3.top]) ?_ ?_
  ·intro a y S' hy G;rw[RI]at hy;obtain⟨k,ek,rfl⟩:=SM.mp hy;have ha:=(gM ek).1;have hr:=RB (show a<rs'.length by rw[<-W3.len];exact ha);exact⟨_,rfl,_,nofun,Bk (G.keep _ _ (W3.row a k _ ek hr)),rfl,G⟩
  ·intro S4 G4;refine⟨_,_,nofun,a5 a8,Af _ _,_,rfl,?_⟩;refine ifT (all_mapF.mpr fun _ _=>rfl) ?_;have G5:=G4.push (o:=SO.lst ((RL (ks'.map SV.loc).length).map fun _=>SV.bl true));have W5:=W3.grow G5.on;refine⟨_,rfl,_,rfl,_,rfl,hz (G5.tape T3) hel W5 (by omega) (by omega) fun l6 ks6 rs6 S6 T6 O6 W6 hR6 hT6=>?_⟩;exact l7 (Δ:=Δ) (hE _ _ ⟨l6,ks6,rs6,_,rfl,T6,O3.trans (G5.on.trans O6),W6,by omega,by omega⟩)
 ·rintro ρ S3 ⟨l',ks',rs',o6,rfl,T3,O3,W3,hR3,hT3⟩;exact q l' ks' rs' S3 o6 T3 O3 W3 (by omega) (by omega)
noncomputable def Qa(t i:Nat)(S:Sto)(x:SV):Prop:=(i % 2=1/\∃ us:List (List SV),x = .tup (us.map SV.tup)/\(∀ r∈us,∀ y∈r,Gd (VH (·=t) S) 1 10 y)/\us.length<=42/\us.flatten.length<=42)\/(i % 2≠1/\ThG t S x)
theorem MZ{α:Type}(rs:List (List α)):rs.reverse.flatten.length=rs.flatten.length:=by
 rw[TV,TV,List.map_reverse,List.sum_reverse]
theorem Ou(hΔ:∀ f,MonoN (Δ f)){i l0:Nat}{o6 o7 o8 o9:Option SV}(W:Rws t S l ks rs)(hR:rs.length<=42)(hT:rs.flatten.length<=42)
 (q:∀(x:SV) (S':Sto),Gw S S'->Qa t i S' x->D.nx (Fv t n es room l0 i x o6 o7 o8 o9) S'):wSt Δ rrC D (Fv t n es room l0 i (.loc l) o6 o7 o8 o9) S:=by
 refine⟨_,rfl,show(0:Int)<2 by decide,_,rfl,?_⟩;refine ifD (fun z=>?_) (fun z=>l7 (q _ S (Gw.refl S) (.inr ⟨fun e=>z (by omega),MY W (by omega) (by omega)⟩)));have z:(i:Int) % 2=1:=z;refine⟨_,rfl,l,_,rfl,W.top,?_⟩;have er:(ks.map SV.loc).reverse.length=rs.length:=by rw[SN,RC,W.len]
 refine m7 (f9 hΔ _).2 (a6 hΔ _).1 (fun j ys S2=>S2=S/\ys=(rs.reverse.take j).map SV.tup) ⟨rfl,rfl⟩ (fun _ _ S2 h=>by rw[h.1];rfl) ?_ ?_
 ·rintro j x ys S2 hx ⟨rfl,rfl⟩;have hj:=(gM hx).1;rw[er]at hj;rw[Ti (by rw[RC,W.len];exact hj),RC,RI]at hx;obtain⟨k,ek,rfl⟩:=SM.mp hx;have ha:=(gM ek).1;rw[W.len]at ek ha;have hr:=RB ha;refine⟨_,rfl,_,a5 (W.row _ k _ ek hr),by rw[RC,Rg];show _<100000;omega,rfl,?_⟩;have hrv:rs.reverse[j]?=some rs[rs.length - 1 - j]:=by rw[Ti hj];exact hr
  rw[Sy,hrv,Ta,Rm];rfl
 ·rintro ys S2 ⟨rfl,rfl⟩;rw[er,<-SN,Si];refine⟨_,a5 a8,l7 (Δ:=Δ) (q _ _ (Gw.refl S2).push (.inl ⟨by omega,rs.reverse,rfl,fun r hr y hy=>?_,by rw[SN];exact hR,by rw[MZ];exact hT⟩))⟩;exact(W.it r (Ug.mp hr) y hy).hg (Gw.refl S2).push.hg
theorem Ov{kd ko:Nat}(hd:l5 (Δ kd))(ho:Ag (Δ ko)){i l0:Nat}{x:SV}{o6 o7 o8 o9:Option SV}(T:TapeS S t)(hel:es.length<=1000)(C:Qa t i S x)
 (q:∀(x:SV) (S':Sto),TapeS S' t->On t S S'->ThG t S' x->D.nx (Fv t n es room l0 i x o6 o7 o8 o9) S'):wSt Δ (rrD kd ko) D (Fv t n es room l0 i x o6 o7 o8 o9) S:=by
 refine⟨_,rfl,_,rfl,?_⟩;refine ifD (fun z=>?_) (fun z=>l7 (q x S T (On.refl t S) ?_))
 case refine_2=>
  rcases C with⟨_,us,rfl,it,hR,hT⟩ | ⟨_,H⟩
  ·obtain⟨a,b⟩:=HD it (by omega) (by omega);exact⟨a.up (by decide) (by decide),b⟩
  ·exact H
 have z:(i:Int)=7:=z
 obtain⟨us,rfl,it,hR,hT⟩:∃ us:List (List SV),x = .tup (us.map SV.tup)/\(∀ r∈us,∀ y∈r,Gd (VH (·=t) S) 1 10 y)/\us.length<=42/\us.flatten.length<=42:=by
  rcases C with⟨_,h⟩ | ⟨h,_⟩
  ·exact h
  ·omega
 obtain⟨ga,gb⟩:=HD it (by omega) (by omega);have tl:=T.lt;refine⟨_,rfl,_,rfl,ho T hel fun y S2 T2 O2 g=>⟨_,rfl,by show 1<=100000;decide,by show 5<=100000;decide,?_⟩⟩;have G2:=((Gw.refl S2).push (o:=SO.lst [SV.tup (us.map SV.tup)])).push (o:=SO.lst [y,SV.loc S2.length,SV.non,SV.str "rounds",SV.int 7]);have m1:((S2++[SO.lst [SV.tup (us.map SV.tup)]])++[SO.lst [y,SV.loc S2.length,SV.non,SV.str "rounds",SV.int 7]])[S2.length]?=some (.lst [SV.tup (us.map SV.tup)]):=c7 a8;have m2:((S2++[SO.lst [SV.tup (us.map SV.tup)]])++[SO.lst [y,SV.loc S2.length,SV.non,SV.str "rounds",SV.int 7]])[(S2++[SO.lst [SV.tup (us.map SV.tup)]]).length]?=some (.lst [y,SV.loc S2.length,SV.non,SV.str "rounds",SV.int 7]):=a8;have t2:=T2.lt;have hm2:(S2++[SO.lst [SV.tup (us.map SV.tup)]]).length≠t:=by rw[R9];omega
 generalize (S2++[SO.lst [SV.tup (us.map SV.tup)]]).length=m at *;generalize (S2++[SO.lst [SV.tup (us.map SV.tup)]])++[SO.lst [y,SV.loc S2.length,SV.non,SV.str "rounds",SV.int 7]]=S3 at *;refine⟨_,rfl,hd (G2.tape T2) (by decide) (by decide) fun j S4 j0 j1 T4 O4 _=>?_⟩;have O24:On t S2 S4:=G2.on.trans O4;have O:On t S S4:=O2.trans O24;have n1:=O4.keep _ _ (show S2.length≠t by omega) m1;have gx:=ga.hg (O.hg (H:=(·=t)) rfl);have nw:Nw (·=t) S:=fun k hk=>by rw[hk];exact tl
 have gy:Gd (VH (·=t) S4) 1 10 y:=(g (·=t) rfl nw).hg (O24.hg rfl)
 have pick:∃ v,atI [y,SV.loc S2.length,SV.non,SV.str "rounds",SV.int 7] j=some v/\ThG t S4 v:=by
  have:j=0\/j=1\/j=2\/j=3\/j=4:=by omega
  rcases this with rfl | rfl | rfl | rfl | rfl
  ·exact⟨_,f7 (j:=0) rfl,gy.up (by decide) (by decide),Km gy⟩
  ·refine⟨_,f7 (j:=1) rfl,.lst (k:=3) (b:=43722) ⟨by omega,n1⟩ (fun v hv=>by rw[RG.mp hv];exact gx) (show 1<=63 by decide) (show 1 * (43722+1)<=44000 by decide),?_⟩;rintro tss ⟨ys,e,l,r⟩;rw[a5 n1]at e;cases e
   match tss,l with
   | [ts],_=>
     have e:=r 0 _ ts rfl rfl;have e:us.map SV.tup=natS ts:=oj e;cases ts with
     | nil=>decide
     | cons a ts=>
       cases us with
       | nil=>cases e
       | cons u us=>cases(U6.inj e).1
  ·exact⟨_,f7 (j:=2) rfl,.non,Cn nofun⟩
  ·exact⟨_,f7 (j:=3) rfl,.str (Ke (by decide) (by decide)) (by decide),Cn nofun⟩
  ·exact⟨_,f7 (j:=4) rfl,.int ⟨by decide,by decide⟩,Cn nofun⟩
 obtain⟨v,ha,H⟩:=pick;exact⟨_,v,a5 (O4.keep _ _ hm2 m2),ha,l7 (Δ:=Δ) (q v S4 T4 O H)⟩
noncomputable def F5(s:Sn):Prop:=∀{t n:Nat} {es:EE} {room:Int} {S:Sto} {Q:QE},TapeS S t->(∀ e∈es,e.1<e.2/\e.2<n)->es.length<=39->(∀ S',TapeS S' t->On t S S'->Q (.bl true) S')->s [.loc t,g0 n es,.int room] S Q
theorem IT(hΔ:∀ f,MonoN (Δ f)){kw kd kz ko kp kq:Nat}(hw:Dw (Δ kw))(hd:l5 (Δ kd))(hz:BV (Δ kz))(ho:Ag (Δ ko))(hpl:Gx (Δ kp))(hq:Dv (Δ kq)){D:Df}(hb:D.body=HE kw kd kz ko kp kq)(hN:D.N.length=10)(hp:D.ps.length=3):F5 (i8 Δ D):=by
 intro t n es room S Q T hu hel q;unfold i8;rw[hb,hN];refine⟨hp.symm,_,rfl,_,rfl,_,rfl,hw T hel fun l ks rs S1 T1 O1 W1 hR hT=>?_⟩;refine⟨8,rfl,⟨by decide,by decide⟩,?_⟩;refine BQ (g6 hΔ _) (fun i ρ S2=>∃(o4 o5 o6 o7 o8 o9:Option SV),ρ=[some (.loc t),some (g0 n es),some (.int room),some (.loc l),o4,o5,o6,o7,o8,o9]/\TapeS S2 t/\On t S1 S2) ⟨_,_,_,_,_,_,rfl,T1,On.refl t S1⟩ (fun _ _ _ _=>trivial) ?_ ?_
 ·rintro i x ρ S2 E hE _ hx ⟨o4,o5,o6,o7,o8,o9,rfl,T2,O2⟩;obtain⟨rfl,hi⟩:=p4 hx;rw[UZ];have W2:=W1.grow O2;refine⟨_,rfl,?_⟩;refine Ot hΔ hd hz T2 (by omega) W2 hR hT fun l3 ks3 rs3 S3 o6 T3 O3 W3 hR3 hT3=>?_;refine Ou hΔ W3 hR3 hT3 fun x4 S4 G4 C=>?_;refine Ov hd ho (G4.tape T3) (by omega) C fun x5 S5 T5 O5 H=>?_;exact Os hΔ hpl hq hu (by omega) H fun o7 o8 o9 S6 G6=>hE _ _ ⟨_,_,_,_,_,_,rfl,G6.tape T5,O2.trans (O3.trans (G4.on.trans (O5.trans G6.on)))⟩
 ·rintro ρ S2 ⟨o4,o5,o6,o7,o8,o9,rfl,T2,O2⟩;exact q S2 T2 (O1.trans O2)
end
end Rf
namespace Hue
open PySem L2 Rf
noncomputable def top(i:Nat):Stmt:=PySem.Challenge.pw_huedties_k65_plans_shown.main.body.getD i (.Pass ⟨0,0,0,0⟩)
noncomputable def b0:List Stm:=Fr
noncomputable def d0:Df:=⟨"is_number",top 1,["thing"],["thing"],b0⟩
noncomputable def b1:List Stm:=QO
noncomputable def d1:Df:=⟨"is_listed",top 2,["thing"],["thing"],b1⟩
noncomputable def b2:List Stm:=KR 1 0
noncomputable def d2:Df:=⟨"is_rising",top 3,["thing"],["thing"],b2⟩
noncomputable def b3:List Stm:=Gh 0
noncomputable def d3:Df:=⟨"has_tie",top 5,["web","tie"],["web","tie"],b3⟩
noncomputable def b4:List Stm:=Gs 2 3
noncomputable def d4:Df:=⟨"is_round",top 7,["web","room","thing"],["web","room","thing","ends"],b4⟩
noncomputable def b5:List Stm:=F2 1 4
noncomputable def d5:Df:=⟨"shows_plan",top 8,["web","room","thing"],["web","room","thing"],b5⟩
noncomputable def b6:List Stm:=Mz
noncomputable def d6:Df:=⟨"_law_tape",top 10,["_law_script","_law_k"],["_law_script","_law_k","_law_cell","_law_digits"],b6⟩
noncomputable def b7:List Stm:=N0
noncomputable def d7:Df:=⟨"_law_draw",top 11,["_law_tape_here","_law_many"],["_law_tape_here","_law_many","_law_found","_law_once"],b7⟩
noncomputable def b8:List Stm:=KK 7
noncomputable def d8:Df:=⟨"_law_pairs_by",top 12,["_law_tape_here","_law_great"],["_law_tape_here","_law_great","_law_way","_law_many","_law_found","_law_turn","_law_one","_law_k","_law_sides"],b8⟩
noncomputable def b9:List Stm:=QK 7 8
noncomputable def d9:Df:=⟨"_law_web",top 13,["_law_tape_here","_law_great"],["_law_tape_here","_law_great","_law_many","_law_pairs","_law_ties","_law_one","_law_other"],b9⟩
noncomputable def b10:List Stm:=N3
noncomputable def d10:Df:=⟨"_law_meet",top 14,["_law_web_here","_law_one","_law_other"],["_law_web_here","_law_one","_law_other"],b10⟩
noncomputable def b11:List Stm:=Kc 10
noncomputable def d11:Df:=⟨"_law_is_plan",top 15,["_law_web_here","_law_room","_law_thing"],["_law_web_here","_law_room","_law_thing","_law_met","_law_row","_law_at","_law_tie"],b11⟩
noncomputable def b12:List Stm:=[(.ret (.call 9 (.cons (.var 0) (.cons (.cmp .Eq (.call 7 (.cons (.var 0) (.cons (.c (.int 8)) .nil))) (.c (.int 0))) .nil))))]
noncomputable def d12:Df:=⟨"_law_some_web",top 16,["_law_tape_here"],["_law_tape_here"],b12⟩
noncomputable def b13:List Stm:=Kf 10
noncomputable def d13:Df:=⟨"_law_takes",top 17,["_law_web_here","_law_room","_law_row","_law_tie"],["_law_web_here","_law_room","_law_row","_law_tie"],b13⟩
noncomputable def b14:List Stm:=QQ 7 13
noncomputable def d14:Df:=⟨"_law_own_plan",top 18,["_law_tape_here","_law_web_here","_law_room"],["_law_tape_here","_law_web_here","_law_room","_law_left","_law_found","_law_tie","_law_fit"],b14⟩
noncomputable def b15:List Stm:=N4 7
noncomputable def d15:Df:=⟨"_law_odd",top 19,["_law_tape_here","_law_web_here"],["_law_tape_here","_law_web_here","_law_some"],b15⟩
noncomputable def b16:List Stm:=HB 7 15
noncomputable def d16:Df:=⟨"_law_spoilt",top 20,["_law_tape_here","_law_web_here","_law_rows"],["_law_tape_here","_law_web_here","_law_rows","_law_way","_law_at","_law_other","_law_spot"],b16⟩
noncomputable def b17:List Stm:=HE 14 7 16 15 5 11
noncomputable def d17:Df:=⟨"_law_right",top 21,["_law_tape_here","_law_web_here","_law_room"],["_law_tape_here","_law_web_here","_law_room","_law_rows","_law_turn","_law_thing","_law_more","_law_kept","_law_asked","_law_found"],b17⟩
noncomputable def b18:List Stm:=[(.loop (.nm 1) (.rng1 (.bi .max (.cons (.c (.int 2)) (.cons (.bi .min (.cons (.bi .len (.cons (.var 0) .nil)) (.cons (.c (.int 3)) .nil))) .nil)))) [(.asg (.nm 2) (.call 6 (.cons (.var 0) (.cons (.var 1) .nil)))),(.asg (.nm 3) (.call 12 (.cons (.var 2) .nil))),(.iff (.not (.call 17 (.cons (.var 2) (.cons (.var 3) (.cons (.op .Add (.c (.int 1)) (.call 7 (.cons (.var 2) (.cons (.c (.int 5)) .nil)))) .nil))))) [(.ret (.c (.bl false)))] [])]),(.ret (.c (.bl true)))]
noncomputable def d18:Df:=⟨"law",top 22,["_law_script"],["_law_script","_law_k","_law_tape_here","_law_web_here"],b18⟩
noncomputable def prog:List Df:=[d0,d1,d2,d3,d4,d5,d6,d7,d8,d9,d10,d11,d12,d13,d14,d15,d16,d17,d18]
theorem F6:prog.all (MC (prog.map (·.name)))=true:=by decide +kernel
theorem hW(d:Nat):∀ f,MonoN (W prog d f):=Cd d
theorem s0(d:Nat):Gi (W prog (d+1) 0):=KM (Δ:=W prog d) (D:=d0) rfl rfl rfl
theorem s0g(d:Nat):Og (W prog (d+1) 0):=MJ (Δ:=W prog d) (D:=d0) rfl rfl rfl
theorem s1(d:Nat):MK (W prog (d+1) 1):=ML (Δ:=W prog d) (D:=d1) rfl rfl rfl
theorem s2(d:Nat):Oh (W prog (d+2) 2):=MM (Δ:=W prog (d+1)) (D:=d2) (hW _) (s1 d) (s0g d) rfl rfl rfl
theorem s3(d:Nat):InG (W prog (d+2) 3) (fun _ es=>es.length):=MN (Δ:=W prog (d+1)) (D:=d3) (s0 d) rfl rfl rfl
theorem s4(d:Nat):Oi (W prog (d+3) 4):=MP (Δ:=W prog (d+2)) (D:=d4) (hW _) (s2 d) (s3 d) rfl rfl rfl
theorem s5(d:Nat):Gx (W prog (d+4) 5):=KZ (Δ:=W prog (d+3)) (D:=d5) (hW _) (s1 (d+2)) (s4 d) rfl rfl rfl
theorem s6(d:Nat):KJ (W prog (d+1) 6):=ME (Δ:=W prog d) (D:=d6) rfl rfl rfl
theorem s7(d:Nat):l5 (W prog (d+1) 7):=MD (Δ:=W prog d) (D:=d7) rfl rfl rfl
theorem s8(d:Nat):Dq (W prog (d+2) 8):=KL (Δ:=W prog (d+1)) (D:=d8) (hW _) (s7 d) rfl rfl rfl
theorem s9(d:Nat):N1 (W prog (d+3) 9):=Of (Δ:=W prog (d+2)) (D:=d9) (hW _) (s7 (d+1)) (s8 d) rfl rfl rfl
theorem s10(d:Nat):DQ (W prog (d+1) 10):=Ka (Δ:=W prog d) (D:=d10) rfl rfl rfl
theorem s11(d:Nat):Dv (W prog (d+2) 11):=IQ (Δ:=W prog (d+1)) (D:=d11) (hW _) (s10 d) rfl rfl rfl
theorem s13(d:Nat):C9 (W prog (d+2) 13):=Kg (Δ:=W prog (d+1)) (D:=d13) (hW _) (s10 d) rfl rfl rfl
theorem s14(d:Nat):Dw (W prog (d+3) 14):=Kh (Δ:=W prog (d+2)) (D:=d14) (hW _) (s7 (d+1)) (s13 d) rfl rfl rfl
theorem s15(d:Nat):Ag (W prog (d+2) 15):=MW (Δ:=W prog (d+1)) (D:=d15) (s7 d) rfl rfl rfl
theorem s16(d:Nat):BV (W prog (d+3) 16):=IR (Δ:=W prog (d+2)) (D:=d16) (hW _) (s7 (d+1)) (s15 d) rfl rfl rfl
theorem s17(d:Nat):F5 (W prog (d+5) 17):=IT (Δ:=W prog (d+4)) (D:=d17) (hW _) (s14 (d+1)) (s7 (d+3)) (s16 (d+1)) (s15 (d+2)) (s5 d) (s11 (d+2)) rfl rfl rfl
theorem s12(d:Nat){t:Nat}{S:Sto}{Q:QE}(T:TapeS S t)(q:∀(n:Nat) (es:EE) (S':Sto),Web n es->TapeS S' t->On t S S'->Q (g0 n es) S'):W prog (d+4) 12 [.loc t] S Q:=by
 show i8 (W prog (d+3)) d12 _ _ _;exact⟨rfl,_,rfl,_,rfl,s7 (d+2) T (by decide) (by decide) fun r S2 r0 r1 T2 O2 _=>s9 d T2 fun n es S3 Wb T3 O3=>q n es S3 Wb T3 (O2.trans O3)⟩
theorem law_main(ns:List Int)(h:ns.length<=63):W prog 6 18 [.ro (ns.map SV.int)] [] fun x _=>x = .bl true:=by
 show i8 (W prog 5) d18 _ _ _;refine⟨rfl,_,rfl,_,rfl,?_⟩
 have hj:∃ m:Nat,(if (2:Int)<(if (3:Int)<((ns.map SV.int).length:Int) then 3 else ((ns.map SV.int).length:Int)) then (if (3:Int)<((ns.map SV.int).length:Int) then 3 else ((ns.map SV.int).length:Int)) else 2)=(m:Int)/\m<=3:=by
  rw[RC];refine⟨max 2 (min 3 ns.length),?_,by omega⟩;split<;>split<;>omega
 obtain⟨m,hm,hm9⟩:=hj;refine⟨m,congrArg SV.int hm,⟨by omega,by omega⟩,?_⟩;refine y9 (g6 (hW _) _) (fun i ρ S'=>∃ o1 o2 o3,ρ=[some (.ro (ns.map SV.int)),o1,o2,o3]) ⟨none,none,none,rfl⟩ (fun _ _ _ _=>trivial) ?_ ?_
 ·rintro i x ρ S hx ⟨o1,o2,o3,rfl⟩;obtain⟨rfl,hi⟩:=p4 hx;rw[UZ]at hi ⊢;refine⟨_,rfl,_,rfl,s6 4 h (by omega) fun a b ha hb hb2=>?_⟩;have T1:TapeS (S++[SO.lst [.int a,.int b]]) S.length:=⟨a,b,a8,ha,hb,hb2⟩
  refine⟨_,rfl,s12 1 T1 fun n es S2 Wb T2 O2=>?_⟩;refine⟨_,rfl,_,rfl,_,rfl,s7 4 T2 (by decide) (by decide) fun r S3 r0 r1 T3 O3 _=>?_⟩;refine s17 0 T3 Wb.en Wb.len fun S4 T4 O4=>⟨_,rfl,ifF rfl (l7 (Δ:=W prog 5) ⟨_,_,_,rfl⟩)⟩
 ·rintro ρ S ⟨o1,o2,o3,rfl⟩;rfl
noncomputable def AK(K:R8)(nm:Str)(i:Nat):Prop:=∃(f:V7) (od an:Option V7) (sl:Array (Option V4)) (oc kV dc pm cd ct:V4),PySem.W.nsIn K VD nm=some (some (.ref f))/\K.lookup f=some ⟨oc,od,.func (PySem.W.fnOf nm nm (defArgs (top i)) (defBody (top i)) (defScope (top i)) .none kV dc pm an cd ct),sl⟩/\PySem.W.codeIn K cd nm=true/\PySem.W.keepIn K (.ref f)=true
theorem lnkK_mk{K:R8}{nm:Str}{i:Nat}{f:V7}{od an:Option V7}{sl:Array (Option V4)}{oc kV dc pm cd ct:V4}(a:PySem.W.nsIn K VD nm=some (some (.ref f)))(l:K.lookup f=some ⟨oc,od,.func (PySem.W.fnOf nm nm (defArgs (top i)) (defBody (top i)) (defScope (top i)) .none kV dc pm an cd ct),sl⟩)(c:PySem.W.codeIn K cd nm=true)(k:PySem.W.keepIn K (.ref f)=true):AK K nm i:=⟨f,od,an,sl,oc,kV,dc,pm,cd,ct,a,l,c,k⟩
theorem j6{K:R8}{h:Heap}{mg:Str->Option V4}(X:K.In h)(G:h.Ns VD mg)(D:Df){i:Nat}(x:AK K D.name i)(e:D.st=top i)(b:∀(kV doc pm:V4) (an:Option V7) (cdv ct:V4) (us:List V4),us.length=D.ps.length->bindArgs (PySem.W.fnOf D.name D.name (defArgs (top i)) (defBody (top i)) (defScope (top i)) .none kV doc pm an cdv ct) ⟨us,[]⟩=pure (D.ps.zip us)):PIn K mg D:=by
 obtain⟨_,_,_,_,_,_,_,_,_,_,a,l,c,k⟩:=x;exact⟨_,_,e▸FI (st:=top i) l c k,PySem.W.mg_of X G a,k,(FI (st:=top i) l c k).binds (ps:=D.ps) b⟩
theorem t9{P:Df->Prop}{D:Df}{l:List Df}(a:P D)(b:∀ x∈l,P x):∀ x∈D::l,P x:=List.forall_mem_cons.mpr ⟨a,b⟩
theorem all_mk{l:PySem.W.OpenLaw}{w:VG}{K:R8}{h:Heap}{mg:Str->Option V4}{fa:V7}(X:K.In h)(G:h.Ns VD mg)(hfa:mg "law"=some (.ref fa))
 (x0:AK K "is_number" 1)
 (x1:AK K "is_listed" 2)
 (x2:AK K "is_rising" 3)
 (x3:AK K "has_tie" 5)
 (x4:AK K "is_round" 7)
 (x5:AK K "shows_plan" 8)
 (x6:AK K "_law_tape" 10)
 (x7:AK K "_law_draw" 11)
 (x8:AK K "_law_pairs_by" 12)
 (x9:AK K "_law_web" 13)
 (x10:AK K "_law_meet" 14)
 (x11:AK K "_law_is_plan" 15)
 (x12:AK K "_law_some_web" 16)
 (x13:AK K "_law_takes" 17)
 (x14:AK K "_law_own_plan" 18)
 (x15:AK K "_law_odd" 19)
 (x16:AK K "_law_spoilt" 20)
 (x17:AK K "_law_right" 21)
 (x18:AK K "law" 22)
 (z0:PySem.W.nsIn K VD "len"=some none)
 (z1:PySem.W.nsIn K VD "abs"=some none)
 (z2:PySem.W.nsIn K VD "min"=some none)
 (z3:PySem.W.nsIn K VD "max"=some none)
 (z4:PySem.W.nsIn K VD "int"=some none)
 (z5:PySem.W.nsIn K VD "list"=some none)
 (z6:PySem.W.nsIn K VD "tuple"=some none)
 (z7:PySem.W.nsIn K VD "all"=some none)
 (z8:PySem.W.nsIn K VD "any"=some none)
 (z9:PySem.W.nsIn K VD "sorted"=some none)
 (z10:PySem.W.nsIn K VD "isinstance"=some none)
 (z11:PySem.W.nsIn K VD "str"=some none)
 (z12:PySem.W.nsIn K VD "range"=some none)
 (z13:PySem.W.nsIn K VD "enumerate"=some none)
 (z14:PySem.W.nsIn K VD "zip"=some none)
 (z15:PySem.W.nsIn K VD "set"=some none)
 (z16:PySem.W.nsIn K VD "bool"=some none)
 (z17:PySem.W.nsIn K VD "dict"=some none)
 (z18:PySem.W.nsIn K VD "reversed"=some none)
 : ∃ fd:Va,(∀(s:V6) (v:V4),BindsTo s fd ⟨[v],[]⟩ [("_law_script",v)])/\∀ base:Heap,K.In base->base.Ns VD mg->FnOk l.prog w K mg base CX0 6 fa fd ["_law_script"] (spS K (W prog 6 18)):=by
 have y:=x18;obtain⟨f18,od18,an18,sl18,oc18,kV18,dc18,pm18,cd18,ct18,a18,l18,c18,k18⟩:=x18;have e:=hfa.symm.trans (PySem.W.mg_of X G a18);cases e
 have B:Bl mg:=by
  refine⟨fun b=>?_,RT X G z12,RT X G z13,RT X G z18,RT X G z14,RT X G z15,RT X G z17,fun t ht=>?_⟩
  ·cases b with
   | len=>exact RT X G z0
   | abs=>exact RT X G z1
   | min=>exact RT X G z2
   | max=>exact RT X G z3
   | int=>exact RT X G z4
   | list=>exact RT X G z5
   | tuple=>exact RT X G z6
   | all=>exact RT X G z7
   | any=>exact RT X G z8
   | sorted=>exact RT X G z9
   | isi=>exact RT X G z10
   | str=>exact RT X G z11
  ·cases t with
   | int=>exact RT X G z4
   | bool=>exact RT X G z16
   | str=>exact RT X G z11
   | list=>exact RT X G z5
   | tuple=>exact RT X G z6
   | none=>exact absurd rfl ht
 have hin:∀ D∈prog,PIn K mg D:=t9 (j6 X G d0 x0 rfl fun _ _ _ _ _ _=>IM fun _=>rfl) (t9 (j6 X G d1 x1 rfl fun _ _ _ _ _ _=>IM fun _=>rfl) (t9 (j6 X G d2 x2 rfl fun _ _ _ _ _ _=>IM fun _=>rfl) (t9 (j6 X G d3 x3 rfl fun _ _ _ _ _ _=>Fq fun _ _=>rfl) (t9 (j6 X G d4 x4 rfl fun _ _ _ _ _ _=>El fun _ _ _=>rfl) (t9 (j6 X G d5 x5 rfl fun _ _ _ _ _ _=>El fun _ _ _=>rfl) (t9 (j6 X G d6 x6 rfl fun _ _ _ _ _ _=>Fq fun _ _=>rfl) (t9 (j6 X G d7 x7 rfl fun _ _ _ _ _ _=>Fq fun _ _=>rfl) (t9 (j6 X G d8 x8 rfl fun _ _ _ _ _ _=>Fq fun _ _=>rfl) (t9 (j6 X G d9 x9 rfl fun _ _ _ _ _ _=>Fq fun _ _=>rfl) (t9 (j6 X G d10 x10 rfl fun _ _ _ _ _ _=>El fun _ _ _=>rfl) (t9 (j6 X G d11 x11 rfl fun _ _ _ _ _ _=>El fun _ _ _=>rfl) (t9 (j6 X G d12 x12 rfl fun _ _ _ _ _ _=>IM fun _=>rfl) (t9 (j6 X G d13 x13 rfl fun _ _ _ _ _ _=>Qz fun _ _ _ _=>rfl) (t9 (j6 X G d14 x14 rfl fun _ _ _ _ _ _=>El fun _ _ _=>rfl) (t9 (j6 X G d15 x15 rfl fun _ _ _ _ _ _=>Fq fun _ _=>rfl) (t9 (j6 X G d16 x16 rfl fun _ _ _ _ _ _=>El fun _ _ _=>rfl) (t9 (j6 X G d17 x17 rfl fun _ _ _ _ _ _=>El fun _ _ _=>rfl) (t9 (j6 X G d18 y rfl fun _ _ _ _ _ _=>IM fun _=>rfl) (fun _ h=>nomatch h)))))))))))))))))));refine⟨PySem.W.fnOf "law" "law" (defArgs (top 22)) (defBody (top 22)) (defScope (top 22)) .none kV18 dc18 pm18 an18 cd18 ct18,fun s v => .of_eq rfl,fun base _ _=>?_⟩
 exact KI (P:=l.prog) (w:=w) (base:=base) (k:=5) (Δ:=W prog 5) (D:=d18) (FI (st:=top 22) l18 c18 k18) (RX.mp F6 d18 (RD (show prog[18]?=some d18 from rfl))) B (fun g x hx=>by
  rw[RI]at hx;cases hg:prog[g]? with
  | none=>rw[hg]at hx;cases hx
  | some D'=>
    rw[hg]at hx;have:D'.name=x:=by simpa using hx
    subst this;exact⟨D'.ps,Gg F6 B hin 5 g D' hg⟩) (Cd 5)
theorem walkL{l:PySem.W.OpenLaw}{q:VC}{loose:List Str}{XP:(Str->Option V4)->Heap->Prop}{YP:VG->Heap->Prop}{d:DefRec}{K:Params->R8}(hn:l.most=some 63)(hdf:d.params.defaults=[])
 (hY:∀(w:VG) (h:Heap),YP w h->(K w.params).In h)
 (F:∀(w:VG) (mg:Str->Option V4) (fa:V7) (h:Heap),(K w.params).In h->h.Ns VD mg->mg d.name=some (.ref fa)->
   ∃ fd:Va,(∀(s:V6) (u:V4),BindsTo s fd ⟨[u],[]⟩ [("_law_script",u)])/\∀ base:Heap,(K w.params).In base->base.Ns VD mg->FnOk l.prog w (K w.params) mg base CX0 6 fa fd ["_law_script"] (spS (K w.params) (W prog 6 18))):
 PySem.W.WalkO q loose XP YP l.row.toRowW d [] (fun f vs=>PySem.call f vs):=
 L2.walk_of (n:=63) (k:=6) (x:="_law_script") (CX:=fun _=>CX0) (sp:=fun w=>spS (K w.params) (W prog 6 18)) hn (by decide) hdf ⟨rfl,by decide,by decide,rfl⟩ hY F (fun _ _ a ns hl hO hS=>Oe (law_main ns hl) hO hS) fun _ _ _ _ _ z=>z
end Hue
open PySem PySem.W PyProof.Rows
set_option maxRecDepth 100000 in
set_option maxHeartbeats 0 in
theorem PySem.Challenge.cw_huedties_k65_plans_shown_holds : PySem.Challenge.rw_huedties_k65_plans_shown.Holds := by
 w_on;o_law;k_head;(case hw=>w_witness2)
 k_fill
 refine Hue.walkL (l:=PySem.Challenge.rw_huedties_k65_plans_shown) rfl rfl (fun w h Y=>PySem.W.kIn_of Y) ?F
 case F=>
  intro w mg fa h KX G hmg;refine' Hue.all_mk KX G hmg ?_ ?_ ?_ ?_ ?_ ?_ ?_ ?_ ?_ ?_ ?_ ?_ ?_ ?_ ?_ ?_ ?_ ?_ ?_ ?_ ?_ ?_ ?_ ?_ ?_ ?_ ?_ ?_ ?_ ?_ ?_ ?_ ?_ ?_ ?_ ?_ ?_ ?_
  all_goals first | exact Hue.lnkK_mk (by k_is) (by k_is) (by k_is) (by k_is) | k_is
