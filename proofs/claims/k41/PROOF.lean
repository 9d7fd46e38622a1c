import PyProof.Rows.All
import Wide.All
import OpenK.AllK
import PySem.Challenge.RW_huedties_k41_things_of_any_make
set_option Elab.async false
set_option linter.all false
set_option maxRecDepth 100000
open PySem.W renaming Frag->U1,mg_none_of->UL
open Bool renaming and_eq_true->U2,false_ne_true->UB,eq_false_iff->UK,not_eq_true'->UN,eq_iff_iff->Ug,or_eq_true->Uh,false_eq_true->Vi,or_eq_false_iff->Vq,false_and->Vu,noConfusion->WK,and_false->WY,or_false->Wf,false_or->X9,true_and->XA
open PySem.Heap renaming get?_push_of_some->U3,lt_size->U5,get?_push_size->U8,SameBut->UY,get?_update_self->Ub,size_push->Uc,get?_update_other->Ue,size_update->Wt,ExtBut->Wx,IsTuple->XE,update->XN,DictAt->XO
open List renaming length_map->U4,size_toArray->U6,range->U7,mem_singleton->UA,mem_of_getElem?->UC,length_append->UD,mem_cons_of_mem->UE,mem_cons_self->UG,mem_cons->UH,getElem?_eq_getElem->UI,getElem?_map->UJ,getElem?_append_left->UM,replicate->UO,map_append->UQ,all_eq_true->US,map_cons->UT,getD_eq_getElem?_getD->UU,mem_append->UV,prefix_refl->UW,getElem?_concat_length->UX,getElem?_set_self->UZ,mem_range->Ua,isEmpty_iff->Ud,getElem?_append_right->Uj,mem_append_right->Uk,length_singleton->Ul,mem_map->Um,length_take->Uo,length_cons->Uq,length_set->Us,getElem_mem->Ut,replicate_succ->Uu,find?_cons->Uw,any_eq_true->Ux,length_range->Uy,length_filter_le->V0,all_cons->V2,getElem?_replicate->V3,lookup_cons->V4,mem_iff_getElem->V5,take_length->V6,append_nil->V8,length_nil->V9,any_cons->VB,getElem?_set_ne->VC,flatten_cons->VE,range_succ->VG,pairwise_cons->VM,prefix_append->VN,nodup_cons->VP,of_mem_zip->VQ,length_drop->VU,getD->VV,nodup_append->VY,pairwise_map->VZ,take_succ->Va,not_mem_nil->Vd,filterMap_cons->Ve,getElem?_range->Vf,mem_filter->Vh,filter_append->Vj,map_map->Vk,length_replicate->Vm,getElem?_eq_none->Vn,getElem?_zipWith->Vo,getElem?_of_mem->Vp,eq_nil_of_length_eq_zero->Vr,nodup_nil->Vv,length_eraseIdx_of_lt->Vw,mapM_cons->Vx,pairwise_iff_getElem->Vy,drop_eq_getElem_cons->Vz,getElem?_take_of_lt->W7,filterMap_cons_some->W8,filter_cons_of_neg->WC,filter_cons_of_pos->WD,cons_ne_nil->WJ,mapM->WL,take_of_length_le->WN,find?_cons_of_pos->WQ,find?_cons_of_neg->WR,forIn_cons->WV,mem_append_left->WW,length->WX,lookup->WZ,forIn_nil->Wa,mem_of_mem_take->Wc,cons->Wd,getElem_of_mem->We,mem_filterMap->Wg,zip_cons_cons->Wh,filter_filter->Wj,reverse_cons->Wk,append_assoc->Wl,getElem_drop->Wo,zipIdx_cons->Wu,drop_length->Wv,filter_cons->Ww,zipIdx_nil->Wy,head?_drop->Wz,foldl->X4,tail_drop->X7,map_take->XB,map_nil->XD,any_map->XH,all_map->XI,any_nil->XJ
open Nat renaming le_refl->U9,ne_of_lt->UF,lt_of_lt_of_le->UP,le_trans->UR,lt_succ_of_lt->V7,not_lt_zero->VA,lt_irrefl->VI,le_add_right->VJ,lt_of_le_of_lt->VL,lt_or_ge->VR,zero_le->VT,le_of_lt->Vb,lt_succ_self->Vc,add_le_add_left->Vs,ne_of_gt->Vt,le_succ->W3,not_lt_of_gt->WG,succ_lt_succ->WM,succ_mul->Wm,le_of_eq->Wn,lt_of_succ_le->Wq,mod_lt->X6,mul_le_mul->X8,lt_trans->XF,zero_add->XG,succ_pos->XM
open Int renaming natCast_inj->Ui,eq_ofNat_of_zero_le->Uv,toNat_natCast->VD,emod_lt_of_pos->VO,emod_nonneg->VX,toNat_of_nonneg->Vg,emod_eq_of_lt->Wr,zero_add->Ws,natCast_mul->X0
open Array renaming length_toList->Ur,getElem?_toList->Uz,getElem_toList->Wb,toList_push->Wp,getD->X5,toList->XC
open Option renaming isSome_iff_exists->V1,map_some->VF,toList_some->VW,map_eq_some_iff->Vl,isNone_iff_eq_none->W0,isSome_map->W6,getD_none->W9,getD_some->WB,bind_some->WH,map_eq_none_iff->WU,isSome_some->Wi
open PySem renaming wpAny_bind->XQ,Value->XR,Shared->XS,wpAny_pure->XT,Addr->XU,wpAny->XW,model->XX,sizeLine->XY,Program->XZ,starEach->Xa,bootBuiltins->Xb,mainGlobals->Xc,World->Xd,compareOp->Xe,Scope->Xf,Around->Xg,wpAny_newObj_type->Xh,wpAny_truthy_bool->Xi,wpAny_callSpecial?_slot->Xj,wpAny_call_entry->Xk,wpAny_Call_Name_kw->Xl,wpAny_seqItems->Xm,wpAny_holding->Xn,wpAny_field->Xo,codeAny_builtin->Xp,SetTable->Xr,sysModules->Xs,NameKind->Xt,cellsFrom->Xu,assignEach->Xv,plainId_quiet->Xw,scanBound->Xx,wpAny_setField->Xy,wpAny_pyIter_tuple->Xz,wpAny_passesOwn->Y0,codeAny_mono->Y1,wpAny_pyIter_list->Y2,wpAny_setState_of->Y3,swappedStores->Y4,wpAny_rule->Y5,swapsWith->Y6,wpAny_setField_rec->Y7,FuncData->Y8,attributeBase->Y9,wpAny_mono->YA,keywordEach->YB,swapsWithSole->YD,binaryOp->YE,letOwnedTupleGo->YF,wpAny_updateSeq->YG,tupleKind_room_in1->YH,sliceBounds->YI,wpAny_Call_method0_late->YJ,wpAny_letGo->YK,foldedSetIterable->YL,wpAny_pyIter_enum->YM,wpAny_tryCatch->YN,behindInMarks->YO,wpAny_standAt->YQ,wpAny_setEntries_of->YR,wpAny_typeOf->YS,backToKw->YU,newFunctionEnv->YV,firstArgMember->YW,wpAny_letOwnedTupleGo_enum->YX,richCompare->Ya,fits_of_scanBound->Yb,wpAny_comprehension_free->Yc,wpAny_attempt->Yd,tupleKind->Ye,Operator->Yf,compEnvC->Yg,wpAny_pyNext_enum_itemD->Yh,wpAny_askSetting->Yi,pickOrder->Yj,wpAny_isInstance->Yk,call_meets->Ym,wpAny_pyNext_enum_endD->Yn,wpAny_execs_nil->Yo,pushCells_keeps->Yp,codeAny_of_tree->Yq,wpAny_ite_split->Yr,wpAny_isTrue_Compare1->Ys,weight_type_call_type->Yt,builtinLookup_eq_fast->Yu,GenState->Yv,sizeLine_eq->Yw,wpAny_of_eq->Yx,relayAll->Yy,codeAny_call_builtin->Yz,wpAny_runValue->Z0,dictSetDefault->Z1,wpAny_updateSeq_pair->Z2,seqItems?->Z3,assignInOrder->Z5,wpAny_onRaise->Z6,builtinsNs->Z7,wpAny_assign_Name->Z9,wpAny_sequenceKey->ZC,seqIndex_neg->ZD,wpAny_storeSet_of->ZE,setField->ZF,wpAny_pyIter_slot->ZG,call_meetsIn->ZH,PassesOwn->ZI,DictEntry->ZJ,pushCells->ZK,wpAny_Dict_empty->ZL,check_set_init_1->ZM,updateSeq->ZN,wpAny_pyIter_zip->ZO,seqIndex_of->ZP,unsupported->ZQ,typeLookup_type->ZR,entryOfKey->ZS,wpAny_Name->ZT,wpAny_Compare1->ZU,bindName->ZV,wpAny_bindName->ZW,recursionLimit->ZX,wpAny_call->ZY,typeIs_int->Za,fitsIndex_both->Zb,intKind_is->Zc,isSubtype_type->Zd,entryFor_alias->Ze,wpAny_fieldsOf->Zf,isSubtype_stop->Zg,wpAny_newTuple->Zh,constantsAlone->Zi,lastMarks->Zj,drawOrder->Zk
open PyProof.Rows renaming firstMet->YC,assignInOrder_cons->YT,step_dedup->YY,firstMet_length_le->YZ,subscriptTail_builtinR->Yl,entry_tuple_getitem->Z4,args_tuple_getitem->Z8,assignInOrder_nil->ZA,slicePart_none->ZZ
abbrev EE:=List (Nat×Nat)
theorem gM{α:Type}{l:List α}{i:Nat}{a:α}(h:l[i]?=some a):∃h:i<l.length,l[i]=a:=List.getElem?_eq_some_iff.mp h
theorem oj{α:Type}{a b:α}(h:some a=some b):a=b:=Option.some.inj h
theorem dQ{p:Prop}[Decidable p]:(decide p=true)=p:=decide_eq_true_eq
theorem iG{c:Prop}{h:Decidable c}(k:¬c){α:Sort u}{t e:α}:ite c t e=e:=if_neg k
theorem iP{c:Prop}{h:Decidable c}(k:c){α:Sort u}{t e:α}:ite c t e=t:=if_pos k
theorem bQ{α:Type u}[BEq α][LawfulBEq α]{a b:α}:a==b↔a=b:=beq_iff_eq
namespace L2
open PySem PySem.Spec PyProof.Rows
noncomputable abbrev Key:=Sum Int Str
noncomputable def BS:Key->XR->Bool
 | .inl k,v=>Value.isInt k v
 | .inr x,v=>Value.isStrOf x v
noncomputable def TV(w:Xd):Key->Int
 | .inl k=>hashInt k
 | .inr x=>hashStr w x
theorem k8:∀{k:Key} {v:XR},BS k v=true->(∃ i t,k=Sum.inl i/\v=Value.int i t)\/(∃ x t,k=Sum.inr x/\v=Value.str x t)
 | .inl i,v,h=>by
   obtain⟨t,e⟩:=Value.isInt_shape (k:=i) (v:=v) h;exact .inl ⟨i,t,rfl,e⟩
 | .inr x,v,h=>by
   obtain⟨t,e⟩:=Value.isStrOf_shape (x:=x) (v:=v) h;exact .inr ⟨x,t,rfl,e⟩
theorem Ie(i:Int)(t:Tok):BS (.inl i) (.int i t)=true:=by simp[BS,Value.isInt]
theorem Ig(x:Str)(t:Tok):BS (.inr x) (.str x t)=true:=by simp[BS,Value.isStrOf]
theorem Pd(a b:Int):decide ((Sum.inl a:Key)=Sum.inl b)=(a == b):=by
 by_cases e:a=b
 ·subst e;simp
 ·have h:¬ (Sum.inl a:Key)=Sum.inl b:=λq=>e (Sum.inl.inj q);rw[decide_eq_false h];exact(beq_eq_false_iff_ne.mpr e).symm
theorem Pe(a b:Str):decide ((Sum.inr a:Key)=Sum.inr b)=decide (a=b):=by
 by_cases e:a=b
 ·subst e;simp
 ·have h:¬ (Sum.inr a:Key)=Sum.inr b:=λq=>e (Sum.inr.inj q);rw[decide_eq_false h,decide_eq_false e]
theorem Pf(a:Int)(b:Str):decide ((Sum.inl a:Key)=Sum.inr b)=false:=decide_eq_false (λq=>nomatch q)
theorem Pg(a:Str)(b:Int):decide ((Sum.inr a:Key)=Sum.inl b)=false:=decide_eq_false (λq=>nomatch q)
noncomputable def j3(prog:XZ)(w:Xd):PySem.KeyKind prog w Key where
 is:=BS
 hash:=TV w
 inj:=λv a b ha hb=>by
  rcases k8 ha with⟨i,t,rfl,rfl⟩ | ⟨x,t,rfl,rfl⟩
  ·rcases k8 hb with⟨j,u,rfl,e⟩ | ⟨y,u,rfl,e⟩
   ·injection e with e1 _;rw[e1]
   ·exact nomatch e
  ·rcases k8 hb with⟨j,u,rfl,e⟩ | ⟨y,u,rfl,e⟩
   ·exact nomatch e
   ·injection e with e1 _;rw[e1]
 byValue:=λk v h=>by
   rcases k8 h with⟨i,t,rfl,rfl⟩ | ⟨x,t,rfl,rfl⟩<;>rfl
 pyHash:=λhv h=>by
  rcases k8 hv with⟨i,t,rfl,rfl⟩ | ⟨x,t,rfl,rfl⟩
  ·exact wpAny_pyHash_int h
  ·exact wpAny_pyHash_str h
 eqBool:=λhu hv h=>by
  rcases k8 hu with⟨i,t,rfl,rfl⟩ | ⟨x,t,rfl,rfl⟩
  ·rcases k8 hv with⟨j,u,rfl,rfl⟩ | ⟨y,u,rfl,rfl⟩
   ·rw[Pd]at h;exact wpAny_eqBool_int h
   ·rw[Pf]at h;exact SeqAt.EqAt.int_str i t y u _ _ _ _ h
  ·rcases k8 hv with⟨j,u,rfl,rfl⟩ | ⟨y,u,rfl,rfl⟩
   ·rw[Pg]at h;exact SeqAt.EqAt.str_int x t j u _ _ _ _ h
   ·rw[Pe]at h;exact wpAny_eqBool_str h
 «strs»:=λk x t v h=>by
  rcases k8 h with⟨i,u,rfl,e⟩ | ⟨y,u,rfl,e⟩
  ·exact nomatch e
  ·injection e with e1 _;subst e1;cases v<;>rfl
theorem Fy(prog:XZ)(w:Xd)(k:Key)(v:XR):(j3 prog w).is k v=BS k v:=rfl
theorem Ek(prog:XZ)(w:Xd)(i:Int)(t:Tok):(j3 prog w).is (.inl i) (.int i t)=true:=Ie i t
theorem El(prog:XZ)(w:Xd)(x:Str)(t:Tok):(j3 prog w).is (.inr x) (.str x t)=true:=Ig x t
inductive V where
 | non | bl (b:Bool) | int (i:Int) | str (x:Str) | byt (b:Array UInt8) | flt (b:UInt64) | ref (a:XU) | ty (n:String)
 deriving DecidableEq
noncomputable def RelV:V->XR->Prop
 | .non,u=>u=Value.none
 | .bl b,u=>u=Value.bool b
 | .int i,u=>∃ t,u=Value.int i t
 | .str x,u=>∃ t,u=Value.str x t
 | .byt b,u=>∃ t,u=Value.bytes b t
 | .flt b,u=>∃ t,u=Value.float b t
 | .ref a,u=>u=Value.ref a
 | .ty n,u=>u=Value.type n
noncomputable abbrev Vals:List V->List XR->Prop:=Paired RelV
theorem Vals.length{xs:List V}{us:List XR}(r:Vals xs us):xs.length=us.length:=Paired.length r
theorem Vals.get:∀{xs:List V} {us:List XR} {i:Nat} {x:V},Vals xs us->xs[i]?=some x->∃ u,us[i]?=some u/\RelV x u
 | _,_,_,_,.nil,e=>by simp at e
 | _,_,0,_,.cons r _,e=>by simp at e;subst e;exact⟨_,rfl,r⟩
 | _,_,i+1,x,.cons _ t,e=>by
   obtain⟨u,h1,h2⟩:=Vals.get (i:=i) (x:=x) t (by simpa using e);exact⟨u,by simpa using h1,h2⟩
theorem Vals.set{x:V}{u:XR}(r:RelV x u):∀{xs:List V} {us:List XR} (i:Nat),Vals xs us->Vals (xs.set i x) (us.set i u)
 | _,_,_,.nil => .nil
 | _,_,0,.cons _ t => .cons r t
 | _,_,i+1,.cons q t => .cons q (Vals.set r i t)
theorem Vals.append:∀{xs ys:List V} {us ws:List XR},Vals xs us->Vals ys ws->Vals (xs++ys) (us++ws)
 | _,_,_,_,.nil,s=>s
 | _,_,_,_,.cons r t,s => .cons r (Vals.append t s)
theorem Vals.take:∀{xs:List V} {us:List XR} (n:Nat),Vals xs us->Vals (xs.take n) (us.take n)
 | _,_,0,_ => .nil
 | _,_,_+1,.nil => .nil
 | _,_,n+1,.cons r t => .cons r (Vals.take n t)
theorem Vals.drop:∀{xs:List V} {us:List XR} (n:Nat),Vals xs us->Vals (xs.drop n) (us.drop n)
 | _,_,0,r=>r
 | _,_,_+1,.nil => .nil
 | _,_,n+1,.cons _ t=>Vals.drop n t
noncomputable def RelO:Option V->Option XR->Prop
 | some v,some u=>RelV v u
 | none,none=>True
 | _,_=>False
noncomputable def KV{κ:Type}:List (κ×V)->List (κ×XR)->Prop:=Paired λ(p:κ×V) (q:κ×XR)=>p.1=q.1/\RelV p.2 q.2
noncomputable def kV:Key->V
 | .inl i => .int i
 | .inr x => .str x
inductive HO where
 | lst (xs:List V)
 | tup (xs:List V)
 | dK (kvs:List (Key×V)) | dT (kvs:List (List Key×V))
 | set (S:Int->Bool) (n:Nat)
 | ins (C dx:XU) (fs:List (Str×V))
 | own (x:XU)
 | xd (fs:List (Str×V))
 | met (f x:XU)
 | rng (lo hi:Int)
 | frz (o:Obj) (u:HO)
 | tbl (ps:Array XR)
 | ext (φ:Heap->Prop)
noncomputable abbrev Hp:=XU->Option HO
noncomputable def upd(H:Hp)(a:XU)(o:HO):Hp:=λb=>if b=a then some o else H b
theorem g8{H:Hp}{a:XU}{o:HO}:upd H a o a=some o:=by unfold upd;rw[iP rfl]
theorem e8{H:Hp}{a b:XU}{o:HO}(h:b≠a):upd H a o b=H b:=by unfold upd;rw[iG h]
theorem K0{H:Hp}{a b:XU}{o u:HO}(h:H a=some o)(h':H b=some u)(d:o≠u):a≠b:=by
 intro e;subst e;rw[h]at h';exact d (oj h')
theorem i5{H:Hp}{a b:XU}{o:HO}(h:H a=some o)(h':H b=none):a≠b:=by
 intro e;subst e;rw[h]at h';cases h'
section
variable(P:XZ)(w:Xd)
noncomputable def ObjOk(H:Hp)(h:Heap)(a:XU):HO->Prop
 | .lst xs=>xs.length<=XY/\∃(its:List XR) (n:Nat),Vals xs its/\h.get? a=some {cls := .type "list",data := .seq its.toArray n}
 | .tup xs=>xs.length<=XY/\∃ its:List XR,Vals xs its/\IsTup h a its.toArray
 | .dK kvs=>kvs.length<=XY/\(a == Xs)=false/\∃ vs,KV kvs vs/\h.DictOf (j3 P w) a vs
 | .dT kvs=>kvs.length<=XY/\(a == Xs)=false/\∃ xs:List (List Key×XU×XR),
    Paired (λ(p:List Key×V) (q:List Key×XU×XR)=>p.1=q.1/\H q.2.1=some (.tup (p.1.map kV))/\RelV p.2 q.2.2) kvs xs/\
    ∃ o es ep,h.get? a=some o/\o.ExactDict/\o.data = .dict es ep/\es.toList=xs.map (ZS (Ye (j3 P w)))/\(xs.map (·.1)).Nodup
 | .set S n=>h.SetOf (intKind P w) a S n
 | .ins C dx fs=>H dx=some (.own a)/\fs.length<=1000/\dx≠a/\h.get? a=some (PySem.W.instObj C dx)/\
    ∃ mA,h.Ns1 dx mA/\(∀ f,RelO (fs.lookup f) (mA f))/\PySem.Within mA (fs.map (·.1))
 | .own _=>∃ o,h.get? a=some o
 | .xd fs=>∃ mA,h.Ns1 a mA/\∀ f,RelO (fs.lookup f) (mA f)
 | .rng lo hi=>∃ t u v,h.get? a=some {cls := .type "range",data := .fields #[.int lo t,.int hi u,.int 1 v]}
 | .frz o u=>h.get? a=some o/\ObjOk H h a u
 | .tbl ps=>h.get? a=some {cls := .none,data := .fields ps}
 | .met f x=>h.get? a=some (PySem.W.methodObj (.ref f) (.ref x))
 | .ext φ=>φ h/\(∃ o,h.get? a=some o)/\∀ h1 h2:Heap,φ h1->(∀ o,h1.get? a=some o->h2.get? a=some o)->φ h2
noncomputable def HOk(H:Hp)(h:Heap):Prop:=∀ a o,H a=some o->ObjOk P w H h a o
end
section
variable{P:XZ}{w:Xd}{H H':Hp}{h h':Heap}{a:XU}{o:HO}
theorem ObjOk.lt(x:ObjOk P w H h a o):a<h.objs.size:=by
 cases o with
 | lst xs=>obtain⟨_,_,_,_,e⟩:=x;exact U5 e
 | tup xs=>obtain⟨_,_,_,p⟩:=x;exact p.lt
 | dK kvs=>obtain⟨_,_,_,_,o,_,_,e,_⟩:=x;exact U5 e
 | dT kvs=>obtain⟨_,_,_,_,o,_,_,e,_⟩:=x;exact U5 e
 | set S n=>obtain⟨o,_,_,_,e,_⟩:=x;exact U5 e
 | ins C dx fs=>obtain⟨_,_,_,e,_⟩:=x;exact U5 e
 | own y=>obtain⟨_,e⟩:=x;exact U5 e
 | xd fs=>obtain⟨_,⟨_,_,_,e,_⟩,_⟩:=x;exact U5 e
 | rng lo hi=>obtain⟨_,_,_,e⟩:=x;exact U5 e
 | frz ob u=>obtain⟨e,_⟩:=x;exact U5 e
 | tbl ps=>exact U5 (show h.get? a=some _ from x)
 | met f y=>exact U5 (show h.get? a=some _ from x)
 | ext φ=>obtain⟨_,⟨_,e⟩,_⟩:=x;exact U5 e
theorem Paired.mapP{α β:Type}{F G:α->β->Prop}:∀{l₁:List α} {l₂:List β},Paired F l₁ l₂->(∀ a b,F a b->G a b)->Paired G l₁ l₂
 | _,_,.nil,_ => .nil
 | _,_,.cons r t,f => .cons (f _ _ r) (Paired.mapP t f)
theorem ObjOk.stay(x:ObjOk P w H h a o)(k:∀ b u,(b=a\/H b=some (.own a))->h.get? b=some u->h'.get? b=some u)
 (ho:∀ b,H b=some (.own a)->H' b=some (.own a)) (ht:∀ b xs,H b=some (.tup xs)->H' b=some (.tup xs)):ObjOk P w H' h' a o:=by
 induction o with
 | lst xs=>obtain⟨z,its,n,r,e⟩:=x;exact⟨z,its,n,r,k _ _ (.inl rfl) e⟩
 | tup xs=>obtain⟨z,its,r,ob,e,c⟩:=x;exact⟨z,its,r,ob,k _ _ (.inl rfl) e,c⟩
 | dK kvs=>obtain⟨z,y,vs,r,ob,es,ep,e,c⟩:=x;exact⟨z,y,vs,r,ob,es,ep,k _ _ (.inl rfl) e,c⟩
 | dT kvs=>
   obtain⟨z,y,xs,r,ob,es,ep,e,c⟩:=x;exact⟨z,y,xs,Paired.mapP r λp q z=>⟨z.1,ht _ _ z.2.1,z.2.2⟩,ob,es,ep,k _ _ (.inl rfl) e,c⟩
 | set S n=>obtain⟨ob,es,ep,t,e,c⟩:=x;exact⟨ob,es,ep,t,k _ _ (.inl rfl) e,c⟩
 | ins C dx fs=>
   obtain⟨d,z,ne,e,mA,⟨od,es,ep,e2,c⟩,r⟩:=x;exact⟨ho _ d,z,ne,k _ _ (.inl rfl) e,mA,⟨od,es,ep,k _ _ (.inr d) e2,c⟩,r⟩
 | own y=>obtain⟨ob,e⟩:=x;exact⟨ob,k _ _ (.inl rfl) e⟩
 | xd fs=>obtain⟨mA,⟨od,es,ep,e,c⟩,r⟩:=x;exact⟨mA,⟨od,es,ep,k _ _ (.inl rfl) e,c⟩,r⟩
 | rng lo hi=>obtain⟨t,u,v,e⟩:=x;exact⟨t,u,v,k _ _ (.inl rfl) e⟩
 | frz ob u ih=>obtain⟨e,q⟩:=x;exact⟨k _ _ (.inl rfl) e,ih q⟩
 | tbl ps=>
   have e:h.get? a=some {cls := .none,data := .fields ps}:=x;show h'.get? a=some {cls := .none,data := .fields ps};exact k a _ (.inl rfl) e
 | met f y=>
   have e:h.get? a=some (PySem.W.methodObj (.ref f) (.ref y)):=x;show h'.get? a=some (PySem.W.methodObj (.ref f) (.ref y));exact k a _ (.inl rfl) e
 | ext φ=>obtain⟨p,⟨o,e⟩,st⟩:=x;exact⟨st _ _ p λo q=>k _ _ (.inl rfl) q,⟨o,k _ _ (.inl rfl) e⟩,st⟩
theorem HOk.lt(x:HOk P w H h)(e:H a=some o):a<h.objs.size:=(x a o e).lt
theorem HOk.fresh(x:HOk P w H h)(e:h.objs.size<=a):H a=none:=by
 cases q:H a with
 | none=>rfl
 | some u=>exact absurd (UP (x.lt q) e) (VI _)
theorem HOk.kept(x:HOk P w H h)(k:∀ b u,h.get? b=some u->h'.get? b=some u):HOk P w H h':=λa o e=>
 (x a o e).stay (λb u _ q=>k b u q) (λ_ q=>q) λ_ _ q=>q
theorem HOk.laid(x:HOk P w H h)(k:∀ b u,h.get? b=some u->h'.get? b=some u)(hp:h.objs.size<=a)(new:ObjOk P w (upd H a o) h' a o):HOk P w (upd H a o) h':=λb u e=>by
 have hn:=x.fresh hp;by_cases hb:b=a
 ·subst hb;rw[g8]at e;cases e;exact new
 ·rw[e8 hb]at e;exact(x b u e).stay (λc v _ q=>k c v q) (λc q=>by rw[e8 (i5 q hn)];exact q) λc xs q=>by rw[e8 (i5 q hn)];exact q
end
noncomputable def Rd(H:Hp)(a:XU)(u:HO):Prop:=H a=some u\/∃ o,H a=some (.frz o u)
theorem Rd.ok{P:XZ}{w:Xd}{H:Hp}{h:Heap}{a:XU}{u:HO}(r:Rd H a u)(x:HOk P w H h):ObjOk P w H h a u:=by
 rcases r with r | ⟨o,r⟩
 ·exact x a u r
 ·obtain⟨_,q⟩:=x a _ r;exact q
noncomputable def Mut:Option HO->Prop
 | some (.lst _)=>True
 | some (.dK _)=>True
 | some (.dT _)=>True
 | some (.set _ _)=>True
 | some (.ins _ _ _)=>True
 | some (.ext _)=>True
 | _=>False
section
variable{P:XZ}{w:Xd}{H:Hp}{h h':Heap}{x e:XU}{o':HO}
theorem HOk.write(ok:HOk P w H h)(mu:Mut (H x))(he:e=x\/H e=some (.own x))(k:∀ b u,b≠e->h.get? b=some u->h'.get? b=some u)(heo:∃ u,h'.get? e=some u)
 (new:ObjOk P w (upd H x o') h' x o'):HOk P w (upd H x o') h':=λb u q=>by
 have nown:∀ c y,H c=some (.own y)->c≠x:=λc y r z=>by subst z;rw[r]at mu;exact mu
 have ntup:∀ c xs,H c=some (.tup xs)->c≠x:=λc xs r z=>by subst z;rw[r]at mu;exact mu
 by_cases hb:b=x
 ·subst hb;rw[g8]at q;cases q;exact new
 ·rw[e8 hb]at q;by_cases hbe:b=e
  ·have q':H b=some (.own x):=by
    rcases he with z | z
    ·exact absurd (hbe.trans z) hb
    ·rw[hbe];exact z
   rw[q]at q';cases q';obtain⟨v,hv⟩:=heo;exact⟨v,by rw[hbe];exact hv⟩
  ·refine(ok b u q).stay (λc v hc r=>k c v ?_ r) (λc r=>by rw[e8 (nown c b r)];exact r) λc xs r=>by rw[e8 (ntup c xs r)];exact r
   rcases hc with rfl | hc
   ·exact hbe
   ·rintro rfl;rcases he with z | z
    ·exact nown c b hc z
    ·rw[hc]at z;cases z;exact hb rfl
end
structure Un(fs ex:List XU)(H H':Hp)(h h':Heap):Prop where
 keep:∀ b o,h.get? b=some o->H b=none->b∉fs->b∉ex->h'.get? b=some o
 slot:∀ b o,h.get? b=some o->H b=none->b∈fs->b∉ex->∃ sl,h'.get? b=some {o with slots:=sl}
 free:∀ b o,h.get? b=some o->H b=none->b∉ex->H' b=none
 there:∀ b o,h.get? b=some o->b∉ex->∃ o',h'.get? b=some o'
 tups:∀ b xs,H b=some (.tup xs)->H' b=some (.tup xs)
 frzs:∀ b o u,H b=some (.frz o (.lst u))->H' b=some (.frz o (.lst u))
 tbls:∀ b ps,H b=some (.tbl ps)->∃ more,H' b=some (.tbl (ps++more))
section
variable{fs fs' ex ex':List XU}{H H1 H2:Hp}{h h1 h2 h':Heap}{a x e:XU}{o:HO}
theorem Un.any(u:Un fs ex H H1 h h1){b:XU}{ob:Obj}(q:h.get? b=some ob)(n:H b=none)(hx:b∉ex):∃ sl,h1.get? b=some {ob with slots:=sl}:=by
 by_cases hb:b∈fs
 ·exact u.slot b ob q n hb hx
 ·exact⟨ob.slots,u.keep b ob q n hb hx⟩
theorem Un.kept(k:∀ b u,h.get? b=some u->h'.get? b=some u):Un fs ex H H h h':=
 ⟨λb ob q _ _ _=>k b ob q,λb ob q _ _ _=>⟨ob.slots,k b ob q⟩,λ_ _ _ n _=>n,λb ob q _=>⟨ob,k b ob q⟩,λ_ _ q=>q,λ_ _ _ q=>q,λ_ ps q=>⟨#[],by rw[q];simp⟩⟩
theorem Un.refl:Un fs ex H H h h:=Un.kept λ_ _ q=>q
theorem Un.laid(k:∀ b u,h.get? b=some u->h'.get? b=some u)(hp:h.objs.size<=a)(hn:H a=none):Un fs ex H (upd H a o) h h' where
 keep:=λb u q _ _ _=>k b u q
 slot:=λb u q _ _ _=>⟨u.slots,k b u q⟩
 free:=λb u q n _=>by rw[e8 (UF (UP (U5 q) hp))];exact n
 there:=λb u q _=>⟨u,k b u q⟩
 tups:=λb xs q=>by rw[e8 (i5 q hn)];exact q
 frzs:=λb u xs q=>by rw[e8 (i5 q hn)];exact q
 tbls:=λb ps q=>⟨#[],by rw[e8 (i5 q hn),q];simp⟩
theorem Un.write(mu:Mut (H x))(he:e=x\/H e=some (.own x))(k:∀ b u,b≠e->h.get? b=some u->h'.get? b=some u)(heo:∃ u,h'.get? e=some u):Un fs ex H (upd H x o) h h':=by
 have hx:∀ b,H b=none->b≠x:=λb n z=>by subst z;rw[n]at mu;exact mu
 have hb:∀ b,H b=none->b≠e:=λb n z=>by
  subst z;rcases he with r | r
  ·exact hx b n r
  ·rw[n]at r;cases r
 have hm:∀ b u,H b=some u->¬ Mut (some u)->b≠x:=λb u q nm z=>by subst z;rw[q]at mu;exact nm mu
 refine⟨λb u q n _ _=>k b u (hb b n) q,λb u q n _ _=>⟨u.slots,k b u (hb b n) q⟩,λb u q n _=>by rw[e8 (hx b n)];exact n,λb u q _=>?_,
  λb xs q=>by rw[e8 (hm b _ q λz=>z)];exact q,λb u xs q=>by rw[e8 (hm b _ q λz=>z)];exact q,λb ps q=>⟨#[],by rw[e8 (hm b _ q λz=>z),q];simp⟩⟩
 by_cases hbe:b=e
 ·subst hbe;exact heo
 ·exact⟨u,k b u hbe q⟩
end
noncomputable def trk(h:Heap)(H:Hp):List XU:=(U7 h.objs.size).filter λa=>(H a).isSome
noncomputable def Dx(h:Heap)(H:Hp):Heap:=PySem.W.hideAll h (trk h H)
theorem Ih(h:Heap)(H:Hp):(Dx h H).objs.size=h.objs.size:=PySem.W.hideAll_size _ _
theorem K1{h:Heap}{H:Hp}{b:XU}{o:Obj}(e:h.get? b=some o)(n:H b=none):(Dx h H).get? b=some o:=
 PySem.W.hideAll_get _ e λhm=>by
  have q:(H b).isSome=true:=(Vh.mp hm).2;rw[n]at q;simp at q
theorem Mt{h:Heap}{H:Hp}{b:XU}{o:Obj}(e:(Dx h H).get? b=some o):h.get? b=some o/\H b=none:=by
 have e':h.get? b=some o:=PySem.W.of_hideAll (trk h H) e;refine⟨e',?_⟩;cases q:H b with
 | none=>rfl
 | some x=>
   have hm:b∈trk h H:=Vh.mpr ⟨Ua.mpr (U5 e'),by simp[q]⟩;have z:(Dx h H).get? b=none:=PySem.W.hideAll_none (trk h H) hm;rw[z]at e;cases e
structure Mod(K:U1)(mg:Str->Option XR)(base:Heap):Prop where
 kin:K.In base
 glob:base.Ns Xc mg
 blt:∃ mb,base.Ns Z7 mb/\∀ x:Str,x≠"__name__"->mb x=Xb x
 nolimit:base.NoLimit
structure Cx where
 prog:XZ
 w:Xd
 K:U1
 mg:Str->Option XR
 base:Heap
 A:Xg
 N:List Str
 s₀:XS
 H₀:Hp
 env:Env
 outer:List Env
 stack:List Env
 ex:List XU
 fn:Str->Bool
 calm:Bool
 pn:List (XU×Obj)
 xe:XR->XS->Prop
noncomputable def frs(l:List Env):List XU:=l.filterMap (·.frame)
noncomputable abbrev Cx.fs(X:Cx):List XU:=frs X.outer
noncomputable def Vis(sc:Xf)(x:Str):Prop:=sc.names.lookup x=some .local\/sc.names.lookup x=some .cell\/sc.names.lookup x=some .free
noncomputable def Loc(sc:Xf)(x:Str):Prop:=sc.names.lookup x=some .local\/sc.names.lookup x=some .cell
noncomputable def Look(env:Env)(h:Heap)(m:Str->Option XR)(x:Str)(u:XR):Prop:=
 (env.kindOf x=some .local/\m x=some u)\/((env.kindOf x=some .cell\/env.kindOf x=some .free)/\∃ c,env.cells.lookup x=some c/\h.IsCell c (some u))
structure Cx.Ok(X:Cx):Prop where
 mod:Mod X.K X.mg X.base
 kind:X.env.scope.kind = .function
 glob:X.env.globals=Xc
 blt:X.env.builtins=Z7
 above:X.s₀.heap.objs.size<=X.env.locals
 inj:∀ x y c,X.env.cells.lookup x=some c->X.env.cells.lookup y=some c->x=y
 has:∀ x,(X.env.kindOf x=some .cell\/X.env.kindOf x=some .free)->∃ c,X.env.cells.lookup x=some c
 cab:∀ x c,X.fn x=true->X.env.cells.lookup x=some c->X.s₀.heap.objs.size<=c
 hd:X.calm=true->X.A.handled=none
 frames:X.A.frames=some X.stack
 stk:X.stack=X.outer\/(X.stack=X.env::X.outer/\X.env.frame=some X.env.locals)
 exf:∀ b∈X.ex,b≠X.env.locals/\∀ x c,X.env.cells.lookup x=some c->c≠b
 bs:∀ b o,X.base.get? b=some o->X.s₀.heap.get? b=some o/\X.H₀ b=none
 bsz:X.base.objs.size<=X.s₀.heap.objs.size
 noex:∀ b o,X.base.get? b=some o->b∉X.ex
 exfs:∀ b∈X.ex,b∉X.fs
 funs:X.s₀.heap.FunFrames X.base X.outer
 frf:∀ b∈X.fs,X.H₀ b=none
structure Inv(X:Cx)(pq:List (XU×Obj))(σ:List (Option V))(H:Hp)(s:XS):Prop where
 ok:X.Ok
 os:s.os=X.s₀.os
 bare:AllBare s.gens
 base:Un X.fs X.ex X.H₀ H X.s₀.heap s.heap
 loc:∃ m,s.heap.Ns X.env.locals m/\∀(i:Nat) (x:Str) (v:V),X.N[i]?=some x->σ[i]?=some (some v)->Vis X.env.scope x->∃ u,RelV v u/\Look X.env s.heap m x u
 cell:∀ x c,X.env.cells.lookup x=some c->∃ v,s.heap.IsCell c v
 free:H X.env.locals=none
 freeC:∀ x c,X.env.cells.lookup x=some c->H c=none
 pin:∀ p∈X.pn++pq,s.heap.get? p.1=some p.2/\H p.1=none/\p.1≠X.env.locals/\p.1∉X.fs/\∀ v,p.2.data ≠ .cell v
 hok:HOk X.prog X.w H s.heap
 len:σ.length=X.N.length
section
variable{X:Cx}{pq:List (XU×Obj)}{σ:List (Option V)}{H H':Hp}{s:XS}{h':Heap}
theorem Cx.Ok.nofr(ok:X.Ok){b:XU}{o:Obj}(e:X.base.get? b=some o):b∉X.fs:=λhb=>by
 have:=(ok.funs.mem hb).1;rw[e]at this;cases this
theorem Inv.bs(I:Inv X pq σ H s):∀ b o,X.base.get? b=some o->s.heap.get? b=some o/\H b=none:=λb o e=>
 ⟨I.base.keep b o (I.ok.bs b o e).1 (I.ok.bs b o e).2 (I.ok.nofr e) (I.ok.noex b o e),I.base.free b o (I.ok.bs b o e).1 (I.ok.bs b o e).2 (I.ok.noex b o e)⟩
theorem Inv.bk(I:Inv X pq σ H s):∀ b o,X.base.get? b=some o->s.heap.get? b=some o:=λb o e=>(I.bs b o e).1
theorem Inv.mod(I:Inv X pq σ H s):Mod X.K X.mg X.base:=I.ok.mod
theorem Inv.kIn(I:Inv X pq σ H s):X.K.In s.heap:=I.ok.mod.kin.keeps I.bk
theorem Inv.lt(I:Inv X pq σ H s):X.env.locals<s.heap.objs.size:=let ⟨_,hn,_⟩:=I.loc;hn.lt
theorem Inv.sz(I:Inv X pq σ H s):X.s₀.heap.objs.size<=s.heap.objs.size:=UR I.ok.above (Vb I.lt)
theorem Inv.nofs(I:Inv X pq σ H s){a:XU}(h:s.heap.objs.size<=a):a∉X.fs:=λhb=>by
 obtain⟨_,o,ho,_⟩:=I.ok.funs.mem hb;exact absurd (UP (U5 ho) (UR I.sz h)) (VI _)
theorem Inv.cne(I:Inv X pq σ H s):∀ x c,X.env.cells.lookup x=some c->c≠X.env.locals:=λx c e z=>by
 obtain⟨v,o,ho,hd⟩:=I.cell x c e;obtain⟨m,⟨o',es,ep,ho',hd',_⟩,_⟩:=I.loc;rw[z,ho']at ho;cases ho;rw[hd']at hd;cases hd
theorem Inv.funs(I:Inv X pq σ H s):s.heap.FunFrames X.base X.outer:=by
 have all:∀(l:List Env),(∀ b∈frs l,b∈X.fs)->X.s₀.heap.FunFrames X.base l->s.heap.FunFrames X.base l:=by
  intro l
  induction l with
  | nil=>intro _ _;trivial
  | cons env r ih=>
    intro hs hl;obtain⟨hk,⟨L,o,hf,hn,ho,hd⟩,hr⟩:=hl;have hL:L∈X.fs:=hs L (by unfold frs;rw[Ve,hf];exact UG);obtain⟨sl,e⟩:=I.base.slot L o ho (I.ok.frf L hL) hL λz=>I.ok.exfs L z hL;exact⟨hk,⟨L,_,hf,hn,e,hd⟩,ih (λb hb=>hs b (by unfold frs;rw[Ve,hf];exact UE _ hb)) hr⟩
 exact all X.outer (λ_ hb=>hb) I.ok.funs
theorem Inv.stack(I:Inv X pq σ H s):s.heap.FunFrames X.base X.stack:=by
 rcases I.ok.stk with e | ⟨e,hf⟩
 ·rw[e];exact I.funs
 ·rw[e];obtain⟨m,hn,_⟩:=I.loc;refine .cons (by rw[I.ok.kind];decide) hf hn ?_ I.funs;exact Heap.get?_none_of_le (UR I.ok.bsz I.ok.above)
theorem Inv.stkSub(I:Inv X pq σ H s):∀ b∈frs X.stack,b∈X.env.locals::X.fs:=λb hb=>by
 rcases I.ok.stk with e | ⟨e,hf⟩
 ·rw[e]at hb;exact UE _ hb
 ·rw[e]at hb;unfold frs at hb;rw[Ve,hf]at hb;exact hb
theorem Inv.stkFree(I:Inv X pq σ H s):∀ b∈frs X.stack,H b=none:=λb hb=>by
 rcases UH.mp (I.stkSub b hb) with e | hb
 ·rw[e];exact I.free
 ·obtain⟨_,o,ho,_⟩:=I.ok.funs.mem hb;exact I.base.free b o ho (I.ok.frf b hb) λz=>I.ok.exfs b z hb
theorem Inv.step{g':Array Yv}{t':Nat}{d':Drawn}{ch:List XU}(I:Inv X pq σ H s)
 (hch:∀ b∈ch,(b∈X.ex\/X.s₀.heap.objs.size<=b)/\b≠X.env.locals/\(∀ x c,X.env.cells.lookup x=some c->c≠b)/\∀ p∈X.pn++pq,p.1≠b)
 (keep:∀ b o,b≠X.env.locals->b∉X.fs->b∉ch->s.heap.get? b=some o->H b=none->h'.get? b=some o)
 (slot:∀ b o,b≠X.env.locals->b∈X.fs->b∉ch->s.heap.get? b=some o->H b=none->∃ sl,h'.get? b=some {o with slots:=sl}) (free:∀ b o,b∉ch->s.heap.get? b=some o->H b=none->H' b=none)
 (there:∀ b o,b∉ch->s.heap.get? b=some o->∃ o',h'.get? b=some o')
 (tups:∀ b xs,H b=some (.tup xs)->H' b=some (.tup xs)) (frzs:∀ b o u,H b=some (.frz o (.lst u))->H' b=some (.frz o (.lst u))) (tbls:∀ b ps,H b=some (.tbl ps)->∃ more,H' b=some (.tbl (ps++more)))
 (ns:∀ m,s.heap.Ns X.env.locals m->h'.Ns X.env.locals m) (hok:HOk X.prog X.w H' h') (hg:AllBare g'):
 Inv X pq σ H' {s with heap:=h',gens:=g',drawn:=d',toks:=t'}:=by
 have neL:∀ b o,X.s₀.heap.get? b=some o->b≠X.env.locals:=λb o e=>UF (UP (U5 e) I.ok.above)
 have neC:∀ b o,X.s₀.heap.get? b=some o->b∉X.ex->b∉ch:=λb o e hx hb=>by
  rcases(hch b hb).1 with z | z
  ·exact hx z
  ·exact absurd (UP (U5 e) z) (VI _)
 have cellK:∀ x c,X.env.cells.lookup x=some c->∀ v,s.heap.IsCell c v->h'.IsCell c v:=λx c e v ⟨o,ho,hd⟩=>by
  have nch:c∉ch:=λz=>(hch c z).2.2.1 x c e rfl;by_cases hc:c∈X.fs
  ·obtain⟨sl,q⟩:=slot c o (I.cne x c e) hc nch ho (I.freeC x c e);exact⟨_,q,hd⟩
  ·exact⟨o,keep c o (I.cne x c e) hc nch ho (I.freeC x c e),hd⟩
 refine⟨I.ok,I.os,hg,⟨λb o e n hb hx=>?_,λb o e n hb hx=>?_,λb o e n hx=>?_,λb o e hx=>?_,λb xs e=>tups b xs (I.base.tups b xs e),λb o xs e=>frzs b o xs (I.base.frzs b o xs e),λb ps e=>?_⟩,?_,λx c e=>?_,?_,λx c e=>?_,λp hp=>?_,hok,I.len⟩
 ·exact keep b o (neL b o e) hb (neC b o e hx) (I.base.keep b o e n hb hx) (I.base.free b o e n hx)
 ·obtain⟨sl,e1⟩:=I.base.slot b o e n hb hx;obtain⟨sl',e2⟩:=slot b _ (neL b o e) hb (neC b o e hx) e1 (I.base.free b o e n hx);exact⟨sl',e2⟩
 ·obtain⟨o',e1⟩:=I.base.there b o e hx;exact free b o' (neC b o e hx) e1 (I.base.free b o e n hx)
 ·obtain⟨o',e1⟩:=I.base.there b o e hx;exact there b o' (neC b o e hx) e1
 ·obtain⟨m1,e1⟩:=I.base.tbls b ps e;obtain⟨m2,e2⟩:=tbls b _ e1;exact⟨m1++m2,by rw[e2,Array.append_assoc]⟩
 ·obtain⟨m,hn,hl⟩:=I.loc;refine⟨m,ns m hn,λi x v e1 e2 e3=>?_⟩;obtain⟨u,r,l⟩:=hl i x v e1 e2 e3;refine⟨u,r,?_⟩;rcases l with l | ⟨k,c,e,z⟩
  ·exact .inl l
  ·exact .inr ⟨k,c,e,cellK x c e _ z⟩
 ·obtain⟨v,z⟩:=I.cell x c e;exact⟨v,cellK x c e v z⟩
 ·obtain⟨m,⟨o,_,_,ho,_⟩,_⟩:=I.loc;exact free _ o (λz=>(hch _ z).2.1 rfl) ho I.free
 ·obtain⟨v,o,ho,hd⟩:=I.cell x c e;exact free c o (λz=>(hch c z).2.2.1 x c e rfl) ho (I.freeC x c e)
 ·obtain⟨e,n,ne,nf,d⟩:=I.pin p hp;have nch:p.1∉ch:=λz=>(hch p.1 z).2.2.2 p hp rfl;exact⟨keep p.1 p.2 ne nf nch e n,free p.1 p.2 nch e n,ne,nf,d⟩
theorem Inv.un{t':Nat}(I:Inv X pq σ H s)(u:Un X.fs [] H H' s.heap h')(hok:HOk X.prog X.w H' h'):Inv X pq σ H' {s with heap:=h',toks:=t'}:=by
 obtain⟨m,⟨o,es,ep,ho,r⟩,_⟩:=id I.loc;obtain⟨sl,hL⟩:=u.any ho I.free (by simp)
 exact I.step (g':=s.gens) (d':=s.drawn) (ch:=[]) (λ_ z=>nomatch z) (λb o _ hb _ e n=>u.keep b o e n hb (by simp)) (λb o _ hb _ e n=>u.slot b o e n hb (by simp)) (λb o _ e n=>u.free b o e n (by simp)) (λb o _ e=>u.there b o e (by simp)) u.tups u.frzs u.tbls (λm' hm=>by
  obtain⟨o',es',ep',ho',r'⟩:=hm;rw[ho]at ho';cases ho';exact⟨_,es',ep',hL,r'⟩) hok I.bare
theorem Inv.call{g':Array Yv}{t':Nat}{d':Drawn}{ch:List XU}(I:Inv X pq σ H s)(u:Un (frs X.stack) ch H H' s.heap h')(hok:HOk X.prog X.w H' h')(hg:AllBare g')
 (hch:∀ b∈ch,(b∈X.ex\/X.s₀.heap.objs.size<=b)/\b≠X.env.locals/\(∀ x c,X.env.cells.lookup x=some c->c≠b)/\∀ p∈X.pn++pq,p.1≠b):
 Inv X pq σ H' {s with heap:=h',gens:=g',drawn:=d',toks:=t'}:=by
 obtain⟨m,⟨o,es,ep,ho,r⟩,_⟩:=id I.loc;obtain⟨sl,hL⟩:=u.any ho I.free λz=>(hch _ z).2.1 rfl
 exact I.step (ch:=ch) hch (λb o hL hb hc e n=>u.keep b o e n (λz=>(UH.mp (I.stkSub b z)).elim hL hb) hc) (λb o _ _ hc e n=>u.any e n hc) (λb o hc e n=>u.free b o e n hc) (λb o hc e=>u.there b o e hc) u.tups u.frzs u.tbls (λm' hm=>by
  obtain⟨o',es',ep',ho',r'⟩:=hm;rw[ho]at ho';cases ho';exact⟨_,es',ep',hL,r'⟩) hok hg
theorem Inv.turned{t':Nat}{it:XU}(I:Inv X pq σ H s)(k:∀ b o,b≠it->s.heap.get? b=some o->h'.get? b=some o)(hn:H it=none)(hL:it≠X.env.locals)
 (h1:it∈X.ex\/X.s₀.heap.objs.size<=it) (h2:∀ x c,X.env.cells.lookup x=some c->c≠it) (h3:∀ p∈X.pn++pq,p.1≠it):Inv X pq σ H {s with heap:=h',toks:=t'}:=by
 have nit:∀ b u,H b=some u->b≠it:=λb u e z=>by rw[z,hn]at e;cases e
 refine I.step (g':=s.gens) (d':=s.drawn) (ch:=[it]) (λb hb=>?_) (λb o _ _ hc e _=>k b o (λz=>hc (by simp[z])) e) (λb o _ _ hc e _=>⟨o.slots,k b o (λz=>hc (by simp[z])) e⟩) (λ_ _ _ _ n=>n)
  (λb o hc e=>⟨o,k b o (λz=>hc (by simp[z])) e⟩) (λ_ _ e=>e) (λ_ _ _ e=>e) (λb ps e=>⟨#[],by rw[e];simp⟩) (λm hm=>?_) (λb u e=>?_) I.bare
 ·have e:b=it:=by simpa using hb
  subst e;exact⟨h1,hL,h2,h3⟩
 ·obtain⟨o,es,ep,ho,r⟩:=hm;exact⟨o,es,ep,k _ o (Ne.symm hL) ho,r⟩
 ·refine(I.hok b u e).stay (λc v hc q=>k c v ?_ q) (λ_ q=>q) λ_ _ q=>q;rcases hc with z | z
  ·rw[z];exact nit b u e
  ·exact nit c _ z
theorem Inv.tok(I:Inv X pq σ H s)(t:Nat):Inv X pq σ H {s with toks:=t}:=I.un (h':=s.heap) (t':=t) Un.refl I.hok
theorem Inv.kept{t':Nat}(I:Inv X pq σ H s)(k:∀ b u,s.heap.get? b=some u->h'.get? b=some u):Inv X pq σ H {s with heap:=h',toks:=t'}:=I.un (Un.kept k) (I.hok.kept k)
theorem Inv.laid{a:XU}{o:HO}{t':Nat}(I:Inv X pq σ H s)(k:∀ b u,s.heap.get? b=some u->h'.get? b=some u)(hp:s.heap.objs.size<=a)(new:ObjOk X.prog X.w (upd H a o) h' a o):
 Inv X pq σ (upd H a o) {s with heap:=h',toks:=t'}:=I.un (Un.laid k hp (I.hok.fresh hp)) (I.hok.laid k hp new)
theorem Inv.write{x e:XU}{o:HO}{t':Nat}(I:Inv X pq σ H s)(mu:Mut (H x))(he:e=x\/H e=some (.own x))(k:∀ b u,b≠e->s.heap.get? b=some u->h'.get? b=some u)(heo:∃ u,h'.get? e=some u)
 (new:ObjOk X.prog X.w (upd H x o) h' x o):Inv X pq σ (upd H x o) {s with heap:=h',toks:=t'}:=I.un (Un.write mu he k heo) (I.hok.write mu he k heo new)
theorem Inv.weak{σ':List (Option V)}(I:Inv X pq σ H s)(hl:σ'.length=σ.length)(w:∀(i:Nat) v,σ'[i]?=some (some v)->σ[i]?=some (some v)):Inv X pq σ' H s:=
 ⟨I.ok,I.os,I.bare,I.base,let ⟨m,hn,hl'⟩:=I.loc;⟨m,hn,λi x v e1 e2 e3=>hl' i x v e1 (w i v e2) e3⟩,I.cell,I.free,I.freeC,I.pin,I.hok,hl.trans I.len⟩
theorem Inv.pins_of{pq':List (XU×Obj)}(I:Inv X pq σ H s)(h:∀ p∈pq',s.heap.get? p.1=some p.2/\H p.1=none/\p.1≠X.env.locals/\p.1∉X.fs/\∀ v,p.2.data ≠ .cell v):Inv X pq' σ H s:=
 ⟨I.ok,I.os,I.bare,I.base,I.loc,I.cell,I.free,I.freeC,λp hp=>(UV.mp hp).elim (λz=>I.pin p (WW _ z)) (h p),I.hok,I.len⟩
theorem Em{N:List Str}(hN:N.Nodup){i j:Nat}{x:Str}(a:N[i]?=some x)(b:N[j]?=some x):i=j:=by
 obtain⟨h1,e1⟩:=gM a;obtain⟨h2,e2⟩:=gM b;exact(List.getElem_inj hN).mp (e1.trans e2.symm)
theorem DU{M:Model}{A:Xg}{E:XR->XS->Prop}{i:Nat}{x:Str}{v:V}{u:XR}{Q:Unit->XS->Prop}(I:Inv X pq σ H s)(hN:X.N.Nodup)(hi:X.N[i]?=some x)(hx:Loc X.env.scope x)(r:RelV v u)
 (h:∀ s',Inv X pq (σ.set i (some v)) H s'->(∃ a,UY a s.heap s'.heap/\(a=X.env.locals\/X.env.cells.lookup x=some a))->Q () s') (hf:X.fn x=true\/X.env.scope.names.lookup x=some .local:=by first | exact .inl rfl | exact .inr rfl | assumption):XW M A (storeName X.env x u) Q E s:=by
 obtain⟨m,hn,hl⟩:=id I.loc;have hcls:(X.env.scope.kind == .class||(X.env.scope.kind == .module&&X.env.locals != X.env.globals))=false:=by rw[I.ok.kind];rfl
 have hiσ:i<σ.length:=by rw[I.len];exact(gM hi).1
 have cne:=I.cne
 have tracked:∀{a:XU} {h':Heap},(∃ o,s.heap.get? a=some o/\H a=none)->UY a s.heap h'->HOk X.prog X.w H h':=λ{a h'} ha hs b ob e=>by
  obtain⟨_,_,hfree⟩:=ha;refine(I.hok b ob e).stay (λc w' hc q=>(hs.2 c ?_).trans q) (λ_ q=>q) λ_ _ q=>q;rintro rfl;rcases hc with rfl | hc
  ·rw[hfree]at e;cases e
  ·rw[hfree]at hc;cases hc
 rcases hx with hk | hk
 ·refine wpAny_storeName_local hk hn (λh' hn' hs=>?_) hcls;obtain⟨oL,_,_,hoL,_⟩:=id hn;refine h _ ⟨I.ok,I.os,I.bare,⟨λb o e n hb hx=>?_,λb o e n hb hx=>?_,I.base.free,λb o e hx=>?_,I.base.tups,I.base.frzs,I.base.tbls⟩,⟨_,hn',λj y v' e1 e2 e3=>?_⟩,λy c e=>?_,I.free,I.freeC,λp hp=>?_,tracked ⟨oL,hoL,I.free⟩ hs,by simpa using I.len⟩ ⟨_,hs,.inl rfl⟩
  ·exact(hs.2 b (UF (UP (U5 e) I.ok.above))).trans (I.base.keep b o e n hb hx)
  ·obtain⟨sl,e1⟩:=I.base.slot b o e n hb hx;exact⟨sl,(hs.2 b (UF (UP (U5 e) I.ok.above))).trans e1⟩
  ·obtain⟨o',e1⟩:=I.base.there b o e hx;exact⟨o',(hs.2 b (UF (UP (U5 e) I.ok.above))).trans e1⟩
  ·by_cases hj:j=i
   ·subst hj;rw[hi]at e1;cases e1;rw[UZ hiσ]at e2;cases e2;exact⟨u,r,.inl ⟨hk,by simp⟩⟩
   ·rw[VC (Ne.symm hj)]at e2;obtain⟨u',r',q⟩:=hl j y v' e1 e2 e3;refine⟨u',r',?_⟩;rcases q with⟨k,e⟩ | ⟨k,c,e,z⟩
    ·refine .inl ⟨k,?_⟩;have:y≠x:=λe=>hj (Em hN e1 (e▸hi));simp[this,e]
    ·exact .inr ⟨k,c,e,z.sameBut hs (cne y c e)⟩
  ·obtain⟨w',z⟩:=I.cell y c e;exact⟨w',z.sameBut hs (cne y c e)⟩
  ·obtain⟨e,n,ne,nf,d⟩:=I.pin p hp;exact⟨(hs.2 p.1 ne).trans e,n,ne,nf,d⟩
 ·have hfn:X.fn x=true:=by
   rcases hf with z | z
   ·exact z
   ·rw[z]at hk;cases hk
  obtain⟨c,hc⟩:=I.ok.has x (.inl hk);obtain⟨w',z⟩:=I.cell x c hc;refine wpAny_storeName_cell I.ok.kind hk hc z (λh' hc' hs=>?_);obtain⟨oc,hoc,hocd⟩:=id z;refine h {s with heap:=h'} ⟨I.ok,I.os,I.bare,⟨λb o e n hb hx=>?_,λb o e n hb hx=>?_,I.base.free,λb o e hx=>?_,I.base.tups,I.base.frzs,I.base.tbls⟩,⟨m,hn.sameBut hs (Ne.symm (cne x c hc)),λj y v' e1 e2 e3=>?_⟩,λy c' e=>?_,I.free,I.freeC,λp hp=>?_,tracked ⟨oc,hoc,I.freeC x c hc⟩ hs,by simpa using I.len⟩ ⟨c,hs,.inr hc⟩
  ·exact(hs.2 b (UF (UP (U5 e) (I.ok.cab x c hfn hc)))).trans (I.base.keep b o e n hb hx)
  ·obtain⟨sl,e1⟩:=I.base.slot b o e n hb hx;exact⟨sl,(hs.2 b (UF (UP (U5 e) (I.ok.cab x c hfn hc)))).trans e1⟩
  ·obtain⟨o',e1⟩:=I.base.there b o e hx;exact⟨o',(hs.2 b (UF (UP (U5 e) (I.ok.cab x c hfn hc)))).trans e1⟩
  ·by_cases hj:j=i
   ·subst hj;rw[hi]at e1;cases e1;rw[UZ hiσ]at e2;cases e2;exact⟨u,r,.inr ⟨.inl hk,c,hc,hc'⟩⟩
   ·rw[VC (Ne.symm hj)]at e2;obtain⟨u',r',q⟩:=hl j y v' e1 e2 e3;refine⟨u',r',?_⟩;rcases q with q | ⟨k,c',e,z'⟩
    ·exact .inl q
    ·refine .inr ⟨k,c',e,z'.sameBut hs ?_⟩;rintro rfl;exact hj (Em hN e1 (I.ok.inj _ _ _ e hc▸hi))
  ·by_cases hcc:c'=c
   ·subst hcc;exact⟨_,hc'⟩
   ·obtain⟨w2,z2⟩:=I.cell y c' e;exact⟨w2,z2.sameBut hs hcc⟩
  ·obtain⟨e,n,ne,nf,d⟩:=I.pin p hp;refine⟨(hs.2 p.1 ?_).trans e,n,ne,nf,d⟩;intro q;rw[q,hoc]at e;have q':oc=p.2:=oj e;exact d w' (by rw[<-q'];exact hocd)
theorem BT{M:Model}{A:Xg}{E:XR->XS->Prop}{i:Nat}{x:Str}{v:V}{u:XR}{Q:Unit->XS->Prop}(I:Inv X pq σ H s)(hN:X.N.Nodup)(hi:X.N[i]?=some x)(hx:Loc X.env.scope x)(r:RelV v u)
 (h:∀ s',Inv X pq (σ.set i (some v)) H s'->Q () s') (hf:X.fn x=true\/X.env.scope.names.lookup x=some .local:=by first | exact .inl rfl | exact .inr rfl | assumption):XW M A (storeName X.env x u) Q E s:=
 DU I hN hi hx r (λs' I' _=>h s' I') hf
theorem Inv.call'{s':XS}{ch:List XU}(I:Inv X pq σ H s)(ho:s'.os=s.os)(u:Un (frs X.stack) ch H H' s.heap s'.heap)(hok:HOk X.prog X.w H' s'.heap)(hg:AllBare s'.gens)
 (hch:∀ b∈ch,(b∈X.ex\/X.s₀.heap.objs.size<=b)/\b≠X.env.locals/\(∀ x c,X.env.cells.lookup x=some c->c≠b)/\∀ p∈X.pn++pq,p.1≠b):Inv X pq σ H' s':=by
 obtain⟨h',g',d',t',o'⟩:=s';have e:o'=s.os:=ho;subst e;exact I.call (g':=g') (t':=t') (d':=d') u hok hg hch
end
noncomputable abbrev XK:=XR->Option XU->Hp->Prop
noncomputable abbrev St:=List (Option V)
noncomputable abbrev VK:=V->Hp->Prop
noncomputable abbrev TE:=St->Hp->VK->Prop
noncomputable abbrev TT:=St->Hp->(Bool->Hp->Prop)->Prop
noncomputable abbrev TA:=St->Hp->(List V->Hp->Prop)->Prop
structure Ends where
 nx:St->Hp->Prop
 rt:VK
 bk:St->Hp->Prop:=λ_ _=>False
 ct:St->Hp->Prop:=λ_ _=>False
noncomputable abbrev TS:=Ends->St->Hp->Prop
noncomputable def EP(X:Cx)(pq:List (XU×Obj))(σ:St)(Q:VK)(u:XR)(s':XS):Prop:=∃ v H',Inv X pq σ H' s'/\RelV v u/\Q v H'
noncomputable def TP(X:Cx)(pq:List (XU×Obj))(σ:St)(Q:Bool->Hp->Prop)(b:Bool)(s':XS):Prop:=∃ H',Inv X pq σ H' s'/\Q b H'
noncomputable def AP(X:Cx)(pq:List (XU×Obj))(σ:St)(Q:List V->Hp->Prop)(us:List XR)(s':XS):Prop:=∃ vs H',Inv X pq σ H' s'/\Vals vs us/\Q vs H'
noncomputable def SP(X:Cx)(pq:List (XU×Obj))(D:Ends)(f:Flow)(s':XS):Prop:=
 match f with
 | .next=>∃ σ' H',Inv X pq σ' H' s'/\D.nx σ' H'
 | .brk=>∃ σ' H',Inv X pq σ' H' s'/\D.bk σ' H'
 | .cont=>∃ σ' H',Inv X pq σ' H' s'/\D.ct σ' H'
 | .ret u=>∃ v σ' H',Inv X pq σ' H' s'/\RelV v u/\D.rt v H'
noncomputable def PE(X:Cx)(e:Expr)(t:TE):Prop:=
 ∀(pq:List (XU×Obj)) (s:XS) (σ:St) (H:Hp) (Q:VK),Inv X pq σ H s->t σ H Q->XW (XX X.prog X.w) X.A (eval e X.env) (EP X pq σ Q) X.xe s
noncomputable def PT(X:Cx)(e:Expr)(t:TT):Prop:=
 ∀(pq:List (XU×Obj)) (s:XS) (σ:St) (H:Hp) (Q:Bool->Hp->Prop),Inv X pq σ H s->t σ H Q->XW (XX X.prog X.w) X.A (isTrue e X.env (eval e X.env)) (TP X pq σ Q) X.xe s
noncomputable def PW(X:Cx)(e:Expr)(t:TT):Prop:=
 ∀(whole:Sem XR) (pq:List (XU×Obj)) (s:XS) (σ:St) (H:Hp) (Q:Bool->Hp->Prop),Inv X pq σ H s->t σ H Q->XW (XX X.prog X.w) X.A (isTrue e X.env whole) (TP X pq σ Q) X.xe s
theorem PW.pt{X:Cx}{e:Expr}{t:TT}(h:PW X e t):PT X e t:=h _
noncomputable def PA(X:Cx)(es:List Expr)(t:TA):Prop:=
 ∀(pos:Pos) (pq:List (XU×Obj)) (s:XS) (σ:St) (H:Hp) (Q:List V->Hp->Prop),Inv X pq σ H s->t σ H Q->XW (XX X.prog X.w) X.A (spliced (backTo pos (Xa es X.env))) (AP X pq σ Q) X.xe s
noncomputable def PS(X:Cx)(st:Stmt)(t:TS):Prop:=
 ∀(pq:List (XU×Obj)) (s:XS) (σ:St) (H:Hp) (D:Ends),Inv X pq σ H s->t D σ H->XW (XX X.prog X.w) X.A (exec st X.env) (SP X pq D) X.xe s
noncomputable def PSs(X:Cx)(st:List Stmt)(t:TS):Prop:=
 ∀(pq:List (XU×Obj)) (s:XS) (σ:St) (H:Hp) (D:Ends),Inv X pq σ H s->t D σ H->XW (XX X.prog X.w) X.A (execs st X.env) (SP X pq D) X.xe s
theorem thn{α:Type}{t:Sem α}{Q Q':α->XS->Prop}{M:Model}{A:Xg}{E:XR->XS->Prop}{s:XS}(h:XW M A t Q E s)(hQ:∀ a s,Q a s->Q' a s):XW M A t Q' E s:=YA h hQ λ_ _ x=>x
section
variable{X:Cx}
noncomputable def Mu(i:Nat):TE:=λσ H Q=>∃ v,σ[i]?=some (some v)/\Q v H
noncomputable def tC(v:V):TE:=λ_ H Q=>Q v H
theorem Ph{i:Nat}{x:Str}{pos:Pos}(hN:X.N[i]?=some x)(hv:Vis X.env.scope x)(hd:(x == ("__debug__":Str))=false:=by decide)(hcd:(x == ("__classdict__":Str))=false:=by decide):PE X (.Name x pos) (Mu i):=by
 intro pq s σ H Q I h;obtain⟨v,e,h⟩:=h;obtain⟨m,hn,hl⟩:=I.loc;obtain⟨u,r,l⟩:=hl i x v hN e hv;have fin:EP X pq σ Q u s:=⟨v,H,I,r,h⟩
 rcases l with⟨hk,hm⟩ | ⟨hk,c,hc,hcell⟩
 ·exact ZT (wpAny_loadName_local I.ok.kind hk hn hm fin) hd
 ·rcases hk with hk | hk
  ·exact ZT (wpAny_loadName_cell I.ok.kind hk hc hcell fin) hd
  ·exact ZT (wpAny_loadName_free I.ok.kind hk hc hcell fin hcd) hd
theorem Pi{i j pos}:PE X (.Constant (.int i) j pos) (tC (.int i)):=λ_ _ _ H _ I h=>wpAny_Constant_int ⟨.int i,H,I.tok _,⟨_,rfl⟩,h⟩
theorem RS{b j pos}:PE X (.Constant (.bool b) j pos) (tC (.bl b)):=λ_ _ _ H _ I h=>Constant_bool ⟨.bl b,H,I,rfl,h⟩
theorem Pj{j pos}:PE X (.Constant .none j pos) (tC .non):=λ_ _ _ H _ I h=>Constant_none ⟨.non,H,I,rfl,h⟩
theorem Pk{x j pos}:PE X (.Constant (.str x) j pos) (tC (.str x)):=λ_ _ _ H _ I h=>Calls.Constant_str ⟨.str x,H,I.tok _,⟨_,rfl⟩,h⟩
noncomputable def Gl(X:Cx)(x:Str):Prop:=X.env.kindOf x=some .globalImplicit
theorem Mv{E:XR->XS->Prop}{pq:List (XU×Obj)}{s:XS}{σ:St}{H:Hp}{x:Str}{u:XR}{pos:Pos}{Q:XR->XS->Prop}(I:Inv X pq σ H s)(hg:Gl X x)(hm:X.mg x=some u)(h:Q u s)
 (hd:(x == ("__debug__":Str))=false:=by decide):XW (XX X.prog X.w) X.A (eval (.Name x pos) X.env) Q E s:=
 Calls.Name_function_global I.ok.kind hg (Calls.loadGlobal_global (by rw[I.ok.glob];exact I.mod.glob.keeps I.bk) hm h) hd
theorem v7{E:XR->XS->Prop}{pq:List (XU×Obj)}{s:XS}{σ:St}{H:Hp}{x:Str}{u:XR}{pos:Pos}{Q:XR->XS->Prop}(I:Inv X pq σ H s)(hg:Gl X x)(hm:X.mg x=none)(hv:Xb x=some u)(h:Q u s)
 (hn:x≠"__name__":=by decide) (hd:(x == ("__debug__":Str))=false:=by decide):XW (XX X.prog X.w) X.A (eval (.Name x pos) X.env) Q E s:=by
 obtain⟨mb,h1,h2⟩:=I.mod.blt;exact Calls.Name_function_global I.ok.kind hg (Calls.loadGlobal_builtin (by rw[I.ok.glob];exact I.mod.glob.keeps I.bk) hm (by rw[I.ok.blt];exact h1.keeps I.bk) ((h2 x hn).trans hv) h) hd
theorem Mw{x:Str}{v:V}{u:XR}{pos:Pos}(hg:Gl X x)(hm:X.mg x=none)(hv:Xb x=some u)(r:RelV v u)(hn:x≠"__name__":=by decide)(hd:(x == ("__debug__":Str))=false:=by decide):PE X (.Name x pos) (tC v):=
 λ_ _ _ H _ I h=>v7 I hg hm hv ⟨v,H,I,r,h⟩ hn hd
variable{a b:Expr}{ta tb:TE}{pos:Pos}
noncomputable def PC(X:Cx)(op:CmpOp)(a b:Expr)(t:TE):Prop:=
 ∀(pq:List (XU×Obj)) (s:XS) (σ:St) (H:Hp) (Q:VK),Inv X pq σ H s->t σ H Q->
  XW (XX X.prog X.w) X.A (eval a X.env) (λv s₁=>XW (XX X.prog X.w) X.A (eval b X.env) (λu s₂=>XW (XX X.prog X.w) X.A (Xe op v u) (EP X pq σ Q) X.xe s₂) X.xe s₁) X.xe s
noncomputable def tB(t:TE):TT:=λσ H Q=>t σ H λx H1=>∃ c,x = .bl c/\Q c H1
theorem K2{op:CmpOp}{t:TE}(h:PC X op a b t)(h1:YO op b=false:=by first | exact nobehind _ (by decide) (by decide) | rfl):PE X (.Compare a [op] [b] pos) t:=λpq s σ H Q I hw=>ZU (h pq s σ H Q I hw) h1
theorem K3{op:CmpOp}{t:TE}(h:PC X op a b t)(h1:YO op b=false:=by first | exact nobehind _ (by decide) (by decide) | rfl):PT X (.Compare a [op] [b] pos) (tB t):=by
 intro pq s σ H Q I hw;refine Ys (thn (h pq s σ H _ I hw) λv s1 h1=>thn h1 λu s2 h2=>thn h2 λc s3 ⟨x,H1,I1,r1,q1⟩=>?_) h1;obtain⟨d,rfl,q⟩:=q1;cases r1;exact Xi ⟨H1,I1,q⟩
variable{tA tB':TT}{rest:List Expr}
noncomputable def RT(t u:TT):TT:=λσ H Q=>t σ H λc H1=>if c=true then u σ H1 Q else Q false H1
noncomputable def tOr(t u:TT):TT:=λσ H Q=>t σ H λc H1=>if c=true then Q true H1 else u σ H1 Q
noncomputable def RU(t:TT):TT:=λσ H Q=>t σ H λc H1=>Q (!c) H1
theorem Mx(ha:PT X a tA):PW X (.BoolOp .And [a] pos) tA:=by
 intro wh pq s σ H Q I h;refine isTrue_and (thn (ha pq s σ H Q I h) λc s1 e=>?_);cases c with
 | true=>exact isTrue_and_nil e
 | false=>exact e
theorem Pl(ha:PT X a tA):PW X (.BoolOp .Or [a] pos) tA:=by
 intro wh pq s σ H Q I h;refine isTrue_or (thn (ha pq s σ H Q I h) λc s1 e=>?_);cases c with
 | false=>exact isTrue_or_nil e
 | true=>exact e
theorem K4(ha:PT X a tA)(hb:PW X (.BoolOp .And (b::rest) pos) tB'):PW X (.BoolOp .And (a::b::rest) pos) (RT tA tB'):=by
 intro wh pq s σ H Q I h;refine isTrue_and (thn (ha pq s σ H _ I h) λc s1 ⟨H1,I1,q1⟩=>?_);cases c with
 | true=>exact hb wh pq s1 σ H1 Q I1 q1
 | false=>exact⟨H1,I1,q1⟩
theorem Ot(ha:PT X a tA)(hb:PW X (.BoolOp .Or (b::rest) pos) tB'):PW X (.BoolOp .Or (a::b::rest) pos) (tOr tA tB'):=by
 intro wh pq s σ H Q I h;refine isTrue_or (thn (ha pq s σ H _ I h) λc s1 ⟨H1,I1,q1⟩=>?_);cases c with
 | true=>exact⟨H1,I1,q1⟩
 | false=>exact hb wh pq s1 σ H1 Q I1 q1
theorem Pm(ha:PT X a tA):PT X (.UnaryOp .Not a pos) (RU tA):=by
 intro pq s σ H Q I h;exact isTrue_not (ha pq s σ H (λc H1=>Q (!c) H1) I h)
noncomputable def Ou(ta tb:TE):TE:=λσ H Q=>ta σ H λx H1=>∃ c,x = .bl c/\if c=true then tb σ H1 Q else Q (.bl false) H1
noncomputable def RV(ta tb:TE):TE:=λσ H Q=>ta σ H λx H1=>∃ c,x = .bl c/\if c=true then Q (.bl true) H1 else tb σ H1 Q
noncomputable def Ov(ta:TE):TE:=λσ H Q=>ta σ H λx H1=>∃ c,x = .bl c/\Q (.bl (!c)) H1
theorem KA{op}{t:TE}(h:PE X a t):PE X (.BoolOp op [a] pos) t:=λpq s σ H Q I hw=>BoolOp_one (h pq s σ H Q I hw)
theorem KB(ha:PE X a ta)(hb:PE X (.BoolOp .And (b::rest) pos) tb):PE X (.BoolOp .And (a::b::rest) pos) (Ou ta tb):=by
 intro pq s σ H Q I h;refine BoolOp_and (thn (ha pq s σ H _ I h) λv s1 ⟨x,H1,I1,r1,q1⟩=>?_);obtain⟨c,rfl,q1⟩:=q1;cases r1;refine Xi ?_;cases c with
 | true=>exact hb pq s1 σ H1 Q I1 q1
 | false=>exact⟨.bl false,H1,I1,rfl,q1⟩
theorem Ow(ha:PE X a ta)(hb:PE X (.BoolOp .Or (b::rest) pos) tb):PE X (.BoolOp .Or (a::b::rest) pos) (RV ta tb):=by
 intro pq s σ H Q I h;refine BoolOp_or (thn (ha pq s σ H _ I h) λv s1 ⟨x,H1,I1,r1,q1⟩=>?_);obtain⟨c,rfl,q1⟩:=q1;cases r1;refine Xi ?_;cases c with
 | false=>exact hb pq s1 σ H1 Q I1 q1
 | true=>exact⟨.bl true,H1,I1,rfl,q1⟩
theorem Pn(ha:PE X a ta):PE X (.UnaryOp .Not a pos) (Ov ta):=by
 intro pq s σ H Q I h;refine UnaryOp_ (thn (ha pq s σ H _ I h) λv s1 ⟨x,H1,I1,r1,q1⟩=>?_);obtain⟨c,rfl,q1⟩:=q1;cases r1;exact not_of (Xi ⟨.bl (!c),H1,I1,rfl,q1⟩)
noncomputable def tIf(t:TT)(ta tb:TE):TE:=λσ H Q=>t σ H λc H1=>if c=true then ta σ H1 Q else tb σ H1 Q
theorem KC{c:Expr}(hc:PT X c tA)(ha:PE X a ta)(hb:PE X b tb):PE X (.IfExp c a b pos) (tIf tA ta tb):=by
 intro pq s σ H Q I h;refine wpAny_IfExp (thn (hc pq s σ H _ I h) λd s1 ⟨H1,I1,q1⟩=>?_);cases d with
 | true=>exact ha pq s1 σ H1 Q I1 q1
 | false=>exact hb pq s1 σ H1 Q I1 q1
end
noncomputable def SqL(K:U1)(H:Hp)(a:XU)(xs:List V):Prop:=
 Rd H a (.lst xs)\/
  ∃(o:Obj) (its:Array XR) (n:Nat),K.lookup a=some o/\o.cls = .type "list"/\o.dict=none/\o.data = .seq its n/\its.size<=XY/\Vals xs its.toList
noncomputable def SqT(K:U1)(H:Hp)(a:XU)(xs:List V):Prop:=
 Rd H a (.tup xs)\/
  ∃(o:Obj) (its:Array XR) (n:Nat),K.lookup a=some o/\o.cls = .type "tuple"/\o.data = .seq its n/\its.size<=XY/\Vals xs its.toList
noncomputable def TW:XR->Option V
 | .none=>some .non
 | .bool b=>some (.bl b)
 | .int i _=>some (.int i)
 | .str x _=>some (.str x)
 | .bytes b _=>some (.byt b)
 | .float b _=>some (.flt b)
 | .ref a=>some (.ref a)
 | .type n=>some (.ty n)
 | _=>none
theorem RelV.abs{x:V}{u:XR}(r:RelV x u):TW u=some x:=by
 cases x with
 | non=>cases r;rfl
 | bl _=>cases r;rfl
 | int _=>obtain⟨t,rfl⟩:=r;rfl
 | str _=>obtain⟨t,rfl⟩:=r;rfl
 | byt _=>obtain⟨t,rfl⟩:=r;rfl
 | flt _=>obtain⟨t,rfl⟩:=r;rfl
 | ref _=>cases r;rfl
 | ty _=>cases r;rfl
theorem RelV.inj{x y:V}{u:XR}(r:RelV x u)(q:RelV y u):x=y:=oj (r.abs.symm.trans q.abs)
theorem Vals.inj:∀{xs ys:List V} {us:List XR},Vals xs us->Vals ys us->xs=ys
 | _,_,_,.nil,.nil=>rfl
 | _,_,_,.cons r t,.cons r' t'=>by rw[r.inj r',Vals.inj t t']
section
variable{X:Cx}{pq:List (XU×Obj)}{σ:St}{H:Hp}{s:XS}{a:XU}{xs ys:List V}
theorem SqL.of{K:U1}(h:H a=some (.lst xs)):SqL K H a xs := .inl (.inl h)
theorem SqT.of{K:U1}(h:H a=some (.tup xs)):SqT K H a xs := .inl (.inl h)
theorem Inv.list(I:Inv X pq σ H s)(h:SqL X.K H a xs):∃ its:List XR,Vals xs its/\PlainL s.heap a its.toArray/\xs.length<=XY:=by
 rcases h with h | ⟨o,its,n,hk,hc,hd,hs,hz,r⟩
 ·obtain⟨z,its,n,r,e⟩:=h.ok I.hok;exact⟨its,r,⟨_,n,e,rfl,rfl,rfl⟩,z⟩
 ·refine⟨its.toList,r,⟨o,n,I.kIn a o hk,hc,hd,by simpa using hs⟩,?_⟩;have e:=r.length;simp only[Ur]at e;omega
theorem Inv.tuple(I:Inv X pq σ H s)(h:SqT X.K H a xs):∃ its:List XR,Vals xs its/\IsTup s.heap a its.toArray/\xs.length<=XY:=by
 rcases h with h | ⟨o,its,n,hk,hc,hs,hz,r⟩
 ·obtain⟨z,its,r,p⟩:=h.ok I.hok;exact⟨its,r,p,z⟩
 ·refine⟨its.toList,r,⟨o,I.kIn a o hk,hc,n,by simpa using hs⟩,?_⟩;have e:=r.length;simp only[Ur]at e;omega
theorem Inv.list_inj(I:Inv X pq σ H s)(h:SqL X.K H a xs)(h':SqL X.K H a ys):xs=ys:=by
 obtain⟨its,r,⟨o,n,e,_,_,d⟩,_⟩:=I.list h;obtain⟨its',r',⟨o',n',e',_,_,d'⟩,_⟩:=I.list h';rw[e]at e';cases e';rw[d]at d';injection d' with d1 _;have:its=its':=by simpa using congrArg XC d1
 subst this;exact r.inj r'
theorem Inv.tuple_inj(I:Inv X pq σ H s)(h:SqT X.K H a xs)(h':SqT X.K H a ys):xs=ys:=by
 obtain⟨its,r,⟨o,e,_,n,d⟩,_⟩:=I.tuple h;obtain⟨its',r',⟨o',e',_,n',d'⟩,_⟩:=I.tuple h';rw[e]at e';cases e';rw[d]at d';injection d' with d1 _;have:its=its':=by simpa using congrArg XC d1
 subst this;exact r.inj r'
end
noncomputable abbrev Cx.wish(X:Cx)(E:XR->XS->Prop):Cx:={X with xe:=E}
noncomputable abbrev Cx.nox(X:Cx):Cx:=X.wish λ_ _=>False
theorem Cx.Ok.wish{X:Cx}(ok:X.Ok)(E:XR->XS->Prop):(X.wish E).Ok:=
 ⟨ok.mod,ok.kind,ok.glob,ok.blt,ok.above,ok.inj,ok.has,ok.cab,ok.hd,ok.frames,ok.stk,ok.exf,ok.bs,ok.bsz,ok.noex,ok.exfs,ok.funs,ok.frf⟩
theorem Cx.Ok.unwish{X:Cx}{E:XR->XS->Prop}(ok:(X.wish E).Ok):X.Ok:=
 ⟨ok.mod,ok.kind,ok.glob,ok.blt,ok.above,ok.inj,ok.has,ok.cab,ok.hd,ok.frames,ok.stk,ok.exf,ok.bs,ok.bsz,ok.noex,ok.exfs,ok.funs,ok.frf⟩
section
variable{X:Cx}{pq:List (XU×Obj)}{σ:St}{H:Hp}{s:XS}{E:XR->XS->Prop}
theorem Inv.wish(I:Inv X pq σ H s)(E:XR->XS->Prop):Inv (X.wish E) pq σ H s:=⟨I.ok.wish E,I.os,I.bare,I.base,I.loc,I.cell,I.free,I.freeC,I.pin,I.hok,I.len⟩
theorem Inv.unwish(I:Inv (X.wish E) pq σ H s):Inv X pq σ H s:=⟨I.ok.unwish,I.os,I.bare,I.base,I.loc,I.cell,I.free,I.freeC,I.pin,I.hok,I.len⟩
theorem SP.unwish{D:Ends}{f:Flow}{s':XS}(h:SP (X.wish E) pq D f s'):SP X pq D f s':=by
 cases f with
 | next=>obtain⟨σ',H',I,q⟩:=h;exact⟨σ',H',I.unwish,q⟩
 | brk=>obtain⟨σ',H',I,q⟩:=h;exact⟨σ',H',I.unwish,q⟩
 | cont=>obtain⟨σ',H',I,q⟩:=h;exact⟨σ',H',I.unwish,q⟩
 | ret u=>obtain⟨v,σ',H',I,r,q⟩:=h;exact⟨v,σ',H',I.unwish,r,q⟩
theorem PSs.nox{st:List Stmt}{t:TS}(h:PSs X.nox st t):PSs X st t:=λpq s σ H D I hw=>
 YA (h pq s σ H D (I.wish _) hw) (λ_ _ q=>q.unwish) λ_ _ z=>False.elim z
end
section
variable{X:Cx}{st:Stmt}{rest:List Stmt}{t u:TS}{e:Expr}{te:TE}{pos:Pos}
noncomputable def RW:TS:=λD σ H=>D.nx σ H
noncomputable def TX(t u:TS):TS:=λD σ H=>t {D with nx:=u D} σ H
theorem My:PSs X [] RW:=λ_ _ σ H _ I h=>Yo ⟨σ,H,I,h⟩
theorem KD(h1:PS X st t)(h2:PSs X rest u):PSs X (st::rest) (TX t u):=by
 intro pq s σ H D I h;refine wpAny_execs_cons (thn (h1 pq s σ H {D with nx:=u D} I h) λf s1 q=>?_);cases f with
 | next=>
   obtain⟨σ',H',I',q⟩:=q;exact h2 pq s1 σ' H' D I' q
 | ret v=>exact q
 | brk=>exact q
 | cont=>exact q
theorem Inv.quiet{pq:List (XU×Obj)}{σ:St}{H:Hp}{s:XS}(I:Inv X pq σ H s):interactive X.env=false:=by simp[interactive,I.ok.kind]
noncomputable def RX(te:TE):TS:=λD σ H=>te σ H λ_ H1=>D.nx σ H1
theorem Mz(he:PE X e te)(hs:Y6 e none pos.line X.env=pure false:=by rfl):PS X (.Expr e pos) (RX te):=by
 intro pq s σ H D I h;exact wpAny_Expr_any (thn (he pq s σ H _ I h) λv s1 ⟨x,H1,I1,r1,q1⟩=>⟨σ,H1,I1,q1⟩) I.quiet hs
noncomputable def TY(te:TE):TS:=λD σ H=>te σ H D.rt
theorem Po(he:PE X e te):PS X (.Return (some e) pos) (TY te):=by
 intro pq s σ H D I h;exact wpAny_Return_some (thn (he pq s σ H _ I h) λv s1 ⟨x,H1,I1,r1,q1⟩=>⟨x,σ,H1,I1,r1,q1⟩)
noncomputable def RY(c:TT)(t u:TS):TS:=λD σ H=>c σ H λb H1=>if b=true then t D σ H1 else u D σ H1
theorem RZ{c:Expr}{a b:List Stmt}{tc:TT}(hc:PT X c tc)(ha:PSs X a t)(hb:PSs X b u):PS X (.If c a b pos) (RY tc t u):=by
 intro pq s σ H D I h;refine wpAny_If (thn (hc pq s σ H _ I h) λd s1 ⟨H1,I1,q1⟩=>?_);cases d with
 | true=>exact ha pq s1 σ H1 D I1 q1
 | false=>exact hb pq s1 σ H1 D I1 q1
end
noncomputable abbrev TG:=V->St->Hp->(St->Hp->Prop)->Prop
noncomputable abbrev TGs:=List V->St->Hp->(St->Hp->Prop)->Prop
noncomputable def PG(X:Cx)(target:Expr)(t:TG):Prop:=
 ∀(pq:List (XU×Obj)) (s:XS) (σ:St) (H:Hp) (v:V) (u:XR) (Q:St->Hp->Prop),Inv X pq σ H s->RelV v u->t v σ H Q->
  XW (XX X.prog X.w) X.A (assign target X.env u) (λ_ s'=>∃ σ' H',Inv X pq σ' H' s'/\Q σ' H') X.xe s
noncomputable def PGs(X:Cx)(ts:List Expr)(t:TGs):Prop:=
 ∀(pq:List (XU×Obj)) (s:XS) (σ:St) (H:Hp) (vs:List V) (us:List XR) (Q:St->Hp->Prop),Inv X pq σ H s->Vals vs us->t vs σ H Q->
  XW (XX X.prog X.w) X.A (Z5 ((Xv ts X.env).map (·.2)) us) (λ_ s'=>∃ σ' H',Inv X pq σ' H' s'/\Q σ' H') X.xe s
noncomputable abbrev Pp:=V->V->V->Hp->(Hp->Prop)->Prop
noncomputable def Ra(X:Cx)(t:Pp):Prop:=
 ∀(pq:List (XU×Obj)) (s:XS) (σ:St) (H:Hp) (o i v:V) (ov iv u:XR) (Q:Hp->Prop),Inv X pq σ H s->RelV o ov->RelV i iv->RelV v u->t o i v H Q->
  XW (XX X.prog X.w) X.A (setItem ov iv u) (λ_ s'=>∃ H',Inv X pq σ H' s'/\Q H') X.xe s
section
variable{X:Cx}{pos:Pos}
noncomputable def HR(i:Nat):TG:=λv σ H Q=>Q (σ.set i (some v)) H
theorem N0{i:Nat}{x:Str}(hN:X.N.Nodup)(hi:X.N[i]?=some x)(hx:Loc X.env.scope x)(hf:X.fn x=true\/X.env.scope.names.lookup x=some .local:=by first | exact .inl rfl | exact .inr rfl | assumption):PG X (.Name x pos) (HR i):=by
 intro pq s σ H v u Q I r h;exact Z9 (BT I hN hi hx r (λs' I'=>⟨_,H,I',h⟩) hf)
noncomputable def TZ:TGs:=λvs σ H Q=>vs=[]/\Q σ H
noncomputable def Rb(t:TG)(u:TGs):TGs:=λvs σ H Q=>∃ v r,vs=v::r/\t v σ H λσ' H'=>u r σ' H' Q
theorem N1:PGs X [] TZ:=by
 intro pq s σ H vs us Q I r h;obtain⟨e,h⟩:=h;subst e;cases r;exact ZA ⟨σ,H,I,h⟩
theorem KF{e:Expr}{es:List Expr}{t:TG}{u:TGs}(h1:PG X e t)(h2:PGs X es u)
 (hs:(Xv (e::es) X.env).map (·.2)=assign e X.env::(Xv es X.env).map (·.2):=by rfl):PGs X (e::es) (Rb t u):=by
 intro pq s σ H vs us Q I r h;obtain⟨v,vr,e1,h⟩:=h;subst e1;cases r with
 | cons r rr=>
   rw[hs];refine YT (thn (h1 pq s σ H _ _ _ I r h) λ_ s1 ⟨σ1,H1,I1,q1⟩=>?_);exact h2 pq s1 σ1 H1 _ _ Q I1 rr q1
noncomputable def Ta(K:U1)(n:Nat)(t:TGs):TG:=λv σ H Q=>∃ a xs,v = .ref a/\SqT K H a xs/\xs.length=n/\t xs σ H Q
theorem Pq{es:List Expr}{k:Nat}{t:TGs}{n:Nat}(hc:X.calm=true)(h:PGs X es t)
 (hn:(Xv es X.env).length=n:=by rfl) (hst:(Xv es X.env).findIdx? (·.1)=none:=by rfl):PG X (.Tuple es k pos) (Ta X.K n t):=by
 intro pq s σ H v u Q I r hw;obtain⟨a,xs,e1,hq,hl,hw⟩:=hw;subst e1;cases r;obtain⟨its,rv,ht,hz⟩:=I.tuple hq;refine assign_Tuple_tuple (I.ok.hd hc) ht (by simp[hn,<-hl,rv.length]) hst λh' hx=>?_;have I1:Inv X pq σ H {s with heap:=h'}:=I.kept (t':=s.toks) λb o e=>hx b o (UF (U5 e)) e;exact h pq _ σ H xs _ Q I1 (by simpa using rv) hw
noncomputable def Rc(to ti:TE)(t:Pp):TG:=λv σ H Q=>to σ H λo H1=>ti σ H1 λi H2=>t o i v H2 λH3=>Q σ H3
theorem Pr{o i:Expr}{to ti:TE}{t:Pp}(ho:PE X o to)(hi:PE X i ti)(hs:Ra X t)
 (ha:∀ v,assign (.Subscript o i pos) X.env v=(do
   let ov <- holding [v] (eval o X.env)
   let iv <- holding [v,ov] (eval i X.env)
   standAt pos
   holding [v,ov,iv] (setItem ov iv v)
   release [v,ov,iv] []):=by intro _;rfl):PG X (.Subscript o i pos) (Rc to ti t):=by
 intro pq s σ H v u Q I r h;rw[ha];refine XQ (Xn (thn (ho pq s σ H _ I h) λov s1 ⟨x,H1,I1,r1,q1⟩=>?_));refine XQ (Xn (thn (hi pq s1 σ H1 _ I1 q1) λiv s2 ⟨y,H2,I2,r2,q2⟩=>?_));refine XQ (YQ (XQ (Xn (thn (hs pq s2 σ H2 x y v ov iv u _ I2 r1 r2 r q2) λ_ s3 ⟨H3,I3,q3⟩=>?_))));exact wpAny_release ⟨σ,H3,I3,q3⟩
noncomputable def Ii(te:TE)(g:TG):TS:=λD σ H=>te σ H λx H1=>g x σ H1 D.nx
theorem KG{tg e:Expr}{te:TE}{g:TG}(he:PE X e te)(hg:PG X tg g)(hs:YD [tg] e pos.line X.env=pure false:=by rfl)(hw:Y4 [tg] e X.env=pure none:=by rfl)
 (h1:(Xv [tg] X.env).map (·.2)=[assign tg X.env]:=by rfl):PS X (.Assign [tg] e pos) (Ii te g):=by
 intro pq s σ H D I h;refine wpAny_Assign_stores (thn (he pq s σ H _ I h) λv s1 ⟨x,H1,I1,r1,q1⟩=>?_) hs hw;rw[h1];exact thn (hg pq s1 σ H1 x v _ I1 r1 q1) λ_ s2 q=>q
theorem Ps{i:Nat}{x:Str}{e:Expr}{te:TE}{pos':Pos}(hN:X.N.Nodup)(hi:X.N[i]?=some x)(hx:Loc X.env.scope x)(he:PE X e te)(hs:Y6 e (some (.Name x pos')) pos.line X.env=pure false:=by rfl)(hf:X.fn x=true\/X.env.scope.names.lookup x=some .local:=by first | exact .inl rfl | exact .inr rfl | assumption):
 PS X (.Assign [.Name x pos'] e pos) (Ii te (HR i)):=by
 intro pq s σ H D I h;refine wpAny_Assign_Name (thn (he pq s σ H _ I h) λv s1 ⟨y,H1,I1,r1,q1⟩=>?_) hs;exact BT I1 hN hi hx r1 (λs2 I2=>⟨_,H1,I2,q1⟩) hf
noncomputable def Re(i j:Nat)(ta:TA):TS:=λD σ H=>ta σ H λvs H1=>∃ v w,vs=[v,w]/\D.nx ((σ.set i (some v)).set j (some w)) H1
theorem Pt{i j:Nat}{x y:Str}{a b:Expr}{ta:TA}{px py pt:Pos}{kt k2 pt2}(hc:X.calm=true)(hN:X.N.Nodup)(hi:X.N[i]?=some x)(hj:X.N[j]?=some y)(hij:i≠j)
 (hx:X.env.scope.names.lookup x=some .local) (hy:X.env.scope.names.lookup y=some .local) (ha:PA X [a,b] ta)
 (hw:Y4 [.Tuple [.Name x px,.Name y py] kt pt] (.Tuple [a,b] k2 pt2) X.env=pure (some [x,y]))
 (hs:YD [.Tuple [.Name x px,.Name y py] kt pt] (.Tuple [a,b] k2 pt2) pos.line X.env=pure false:=by rfl):
 PS X (.Assign [.Tuple [.Name x px,.Name y py] kt pt] (.Tuple [a,b] k2 pt2) pos) (Re i j ta):=by
 intro pq s σ H D I h;rw[exec_Assign_arm];refine XQ (YQ ?_);rw[hs];refine XQ (XT ?_);rw[iG (by decide)];refine XQ (Tuple_ (thn (ha _ pq s σ H _ I h) λus s1 ⟨vs,H1,I1,r1,q1⟩=>?_));obtain⟨v,w,e1,q1⟩:=q1;subst e1
 obtain⟨u1,u2,rfl,rv,rw'⟩:∃ u1 u2,us=[u1,u2]/\RelV v u1/\RelV w u2:=by
  cases r1 with
  | cons p q=>
    cases q with
    | cons p' q'=>
      cases q';exact⟨_,_,rfl,p,p'⟩
 refine Xh ?_ (by show 2<=XY;decide);have I2:Inv X pq σ H1 {s1 with heap:=s1.heap.push {cls := .type "tuple",data := .seq [u1,u2].toArray}}:=I1.kept (t':=s1.toks) λb o e=>U3 _ e;rw[hw];refine XQ (XT ?_);show XW (XX X.prog X.w) X.A (do rule "assign.swapped-stores";let items <- unpackItems (.ref s1.heap.objs.size) 2 none;Z5 [λv=>ZV X.env y v,λv=>ZV X.env x v] items.reverse;pure Flow.next) _ _ _;refine XQ (Y5 (XQ (unpackItems_tuple (items:=#[u1,u2]) (I.ok.hd hc) (IsTup.new s1.heap _) λh' hx'=>?_)));have I3:=I2.kept (h':=h') (t':=s1.toks) λb o e=>hx' b o (UF (U5 e)) e;show XW _ _ (Z5 [λv=>ZV X.env y v,λv=>ZV X.env x v] [u2,u1] >>= λ_=>pure Flow.next) _ _ _;refine XQ (YT (ZW (BT I3 hN hj (.inl hy) rw' (λs2 I4=>?_) (.inr hy))));refine YT (ZW (BT I4 hN hi (.inl hx) rv (λs3 I5=>ZA (XT ?_)) (.inr hx)));rw[List.set_comm _ _ (Ne.symm hij)]at I5;exact⟨_,H1,I5,q1⟩
noncomputable def KH(c:TT)(tb:TS):TS:=λD σ H=>∃ W:Nat->St->Hp->Prop,(∃ m,W m σ H)/\∀ m σ H,W m σ H->
 c σ H λb H1=>if b=true then ∃ N:St->Hp->Prop,(∀ σ' H',N σ' H'->∃ m',m'<m/\W m' σ' H')/\tb {D with nx:=N,ct:=N,bk:=D.nx} σ H1 else D.nx σ H1
theorem KI{c:Expr}{body:List Stmt}{tc:TT}{tb:TS}(hp:ZI (XX X.prog X.w) X.A X.env X.xe)(hc:PT X c tc)(hb:PSs X body tb):PS X (.While c body [] pos) (KH tc tb):=by
 intro pq s σ H D I h;obtain⟨W,⟨m0,w0⟩,turn⟩:=h;refine wpAny_While (codeAny_whileLoop (λn s'=>∃ σ' H',Inv X pq σ' H' s'/\W n σ' H') ?_ m0 ⟨σ,H,I,w0⟩);rintro n s1 ⟨σ1,H1,I1,w1⟩;refine Y0 hp (thn (hc pq s1 σ1 H1 _ I1 (turn n σ1 H1 w1)) λb s2 ⟨H2,I2,q2⟩=>?_);cases b with
 | true=>
   obtain⟨N,hN,q2⟩:=q2;rw[iP rfl];refine Y0 hp (thn (hb pq s2 σ1 H2 _ I2 q2) λf s3 q3=>?_);cases f with
   | next=>
     obtain⟨σ3,H3,I3,n3⟩:=q3;obtain⟨m',hm,w3⟩:=hN σ3 H3 n3;exact⟨m',hm,σ3,H3,I3,w3⟩
   | cont=>
     obtain⟨σ3,H3,I3,n3⟩:=q3;obtain⟨m',hm,w3⟩:=hN σ3 H3 n3;exact⟨m',hm,σ3,H3,I3,w3⟩
   | brk=>exact q3
   | ret v=>exact q3
 | false=>
   rw[iG UB];exact Yo ⟨σ1,H2,I2,q2⟩
end
structure It where
 go:Nat->Hp->Prop
 yld:Nat->Hp->V->Hp->Prop
 stop:Nat->Hp->Prop
noncomputable def FpOk(X:Cx)(pq:List (XU×Obj))(H:Hp)(b:XU):Prop:=
 H b=none/\b≠X.env.locals/\b∉X.fs/\(b∈X.ex\/X.s₀.heap.objs.size<=b)/\(∀ x c,X.env.cells.lookup x=some c->c≠b)/\∀ p∈X.pn++pq,p.1≠b
theorem Inv.fpOk{X:Cx}{pq:List (XU×Obj)}{σ:St}{H H':Hp}{s:XS}{b:XU}(I:Inv X pq σ H s)(hb:s.heap.objs.size<=b)(hn:H' b=none):FpOk X pq H' b:=by
 refine⟨hn,Vt (UP I.lt hb),I.nofs hb,.inr (UR I.sz hb),λx c e z=>?_,λp hp z=>?_⟩
 ·obtain⟨v,q⟩:=I.cell x c e;exact absurd (UP q.lt (by rw[z];exact hb)) (VI _)
 ·exact absurd (UP (U5 (I.pin p hp).1) (by rw[z];exact hb)) (VI _)
structure Turn(P:XZ)(w:Xd)(K:U1)(tg:Expr)(J:It)(fp:List XU)(it:XU)(tn:Nat->Heap->Prop):Prop where
 mem:it∈fp
 obj:∀ i h,tn i h->∀ b∈fp,∃ o,h.get? b=some o/\∀ v,o.data ≠ .cell v
 keep:∀ i h h',tn i h->(∀ b∈fp,∀ o,h.get? b=some o->h'.get? b=some o)->tn i h'
 item:∀(X:Cx),X.prog=P->X.w=w->X.K=K->X.calm=true->∀(i:Nat) (pq:List (XU×Obj)) (s:XS) (σ:St) (H:Hp) (E:XR->XS->Prop),Inv X pq σ H s->(∀ b∈fp,FpOk X pq H b)->tn i s.heap->J.go i H->
  XW (XX P w) X.A (pyNext (.ref it)) (λr s1=>∃ u,r=some u/\
   XW (XX P w) X.A (YF tg (.ref it) u) (λ_ s2=>∃ x H',Inv X pq σ H' s2/\RelV x u/\J.yld i H x H'/\tn (i+1) s2.heap/\∀ b∈fp,H' b=none) E s1) E s
 done:∀(X:Cx),X.prog=P->X.w=w->X.K=K->X.calm=true->∀(i:Nat) (pq:List (XU×Obj)) (s:XS) (σ:St) (H:Hp) (E:XR->XS->Prop),Inv X pq σ H s->(∀ b∈fp,FpOk X pq H b)->tn i s.heap->J.stop i H->
   XW (XX P w) X.A (pyNext (.ref it)) (λr s1=>r=none/\Inv X pq σ H s1) E s
 self:∀(A:Xg) (i:Nat) (s:XS) (Q:XR->XS->Prop) (E:XR->XS->Prop),tn i s.heap->Q (.ref it) s->XW (XX P w) A (pyIter (.ref it)) Q E s
noncomputable abbrev TI:=St->Hp->(It->Hp->Prop)->Prop
noncomputable def PIE(X:Cx)(pq:List (XU×Obj))(σ:St)(tg:Expr)(R:It->Hp->Prop)(itv:XR)(s2:XS):Prop:=
 ∃(it:XU) (fp:List XU) (tn:Nat->Heap->Prop) (J:It) (H':Hp),itv = .ref it/\Inv X pq σ H' s2/\Turn X.prog X.w X.K tg J fp it tn/\tn 0 s2.heap/\(∀ b∈fp,FpOk X pq H' b)/\R J H'
noncomputable def PI(X:Cx)(tg iter:Expr)(wi:TI):Prop:=
 ∀(pq:List (XU×Obj)) (s:XS) (σ:St) (H:Hp) (R:It->Hp->Prop),Inv X pq σ H s->wi σ H R->
  XW (XX X.prog X.w) X.A (eval iter X.env) (λv s1=>XW (XX X.prog X.w) X.A (pyIter v) (PIE X pq σ tg R) X.xe s1) X.xe s
theorem KJ{M:Model}{A:Xg}{E:XR->XS->Prop}{s:XS}{tg:Expr}{it:XU}{u:XR}{o:Obj}{n:String}{vs:Array XR}{Q:Unit->XS->Prop}(ho:s.heap.get? it=some o)(hc:o.cls = .type n)(hd:o.data = .fields vs)
 (hn:["enumerate","zip","dict_itemiterator","dict_reverseitemiterator","odict_iterator","itertools.zip_longest","itertools.pairwise"].contains n=false) (hQ:Q () s):XW M A (YF tg (.ref it) u) Q E s:=by
 unfold YF
 cases tg<;>first
  | exact XT hQ
  | (cases u<;>first
      | exact XT hQ
      | (refine XQ (wpAny_load ho ?_)
         rw[hc,hd];show XW M A (if (["enumerate","zip","dict_itemiterator","dict_reverseitemiterator","odict_iterator","itertools.zip_longest","itertools.pairwise"].contains n&&vs[0]? == some (rawInt _))=true then _ else _) Q E s;rw[iG (by intro h;rw[hn,Vu]at h;cases h)];exact XT hQ))
noncomputable def Itl(K:U1)(a:XU):It:=
 ⟨λi H=>∃ xs x,SqL K H a xs/\xs[i]?=some x,λi H x H'=>H'=H/\∀ xs,SqL K H a xs->xs[i]?=some x,λi H=>∃ xs,SqL K H a xs/\xs.length<=i⟩
noncomputable def Itt(K:U1)(a:XU):It:=
 ⟨λi H=>∃ xs x,SqT K H a xs/\xs[i]?=some x,λi H x H'=>H'=H/\∀ xs,SqT K H a xs->xs[i]?=some x,λi H=>∃ xs,SqT K H a xs/\xs.length<=i⟩
noncomputable def Itr(lo:Int)(n:Nat):It:=⟨λi _=>i<n,λi H x H'=>H'=H/\x = .int (lo+i),λi _=>n<=i⟩
theorem Ij{P:XZ}{w:Xd}{K:U1}{tg:Expr}(a it:XU):Turn P w K tg (Itl K a) [it] it (λi h=>h.IsListIter it a i) where
 mem:=by simp
 obj:=λi h st b hb=>by
  have e:b=it:=by simpa using hb
  subst e;obtain⟨o,e,c,d⟩:=st;exact⟨o,e,λv z=>by rw[d]at z;cases z⟩
 keep:=λi h h' st k=>st.at λo e=>k it (by simp) o e
 item:=by
  intro X hP hw hK hc i pq s σ H E I hf st hg;subst hP hw hK;obtain⟨xs,x,hq,hx⟩:=hg;obtain⟨its,rv,p,hz⟩:=I.list hq;obtain⟨u,hu,ru⟩:=rv.get hx;obtain⟨f0,f1,f2,f3,f4,f5⟩:=hf it (by simp);refine wpAny_pyNext_list_item st p.isList (x:=u) (by simpa using hu) λh' st' sb=>?_;have I1:Inv X pq σ H {s with heap:=h'}:=I.turned (t':=s.toks) (λb o hb e=>(sb.2 b hb).trans e) f0 f1 f3 f4 f5;obtain⟨o,e,c,d⟩:=id st';exact⟨u,rfl,KJ (s:={s with heap:=h'}) e c d (by decide) ⟨x,H,I1,ru,⟨rfl,λys hy=>by rw[I.list_inj hy hq];exact hx⟩,st',λb hb=>(hf b hb).1⟩⟩
 done:=by
   intro X hP hw hK hc i pq s σ H E I hf st hg;subst hP hw hK;obtain⟨xs,hq,hx⟩:=hg;obtain⟨its,rv,p,hz⟩:=I.list hq;obtain⟨f0,f1,f2,f3,f4,f5⟩:=hf it (by simp);have hl:=rv.length;exact wpAny_pyNext_list_end (I.ok.hd hc) st p.isList (by simp;omega) λh' eb=>⟨rfl,I.turned (t':=s.toks) (λb o hb e=>eb b o hb e) f0 f1 f3 f4 f5⟩
 self:=λ_ _ _ _ _ st h=>wpAny_pyIter_listiter st h
theorem Fz{P:XZ}{w:Xd}{K:U1}{tg:Expr}(a it:XU):Turn P w K tg (Itt K a) [it] it (λi h=>h.IsTupleIter it a i) where
 mem:=by simp
 obj:=λi h st b hb=>by
  have e:b=it:=by simpa using hb
  subst e;obtain⟨o,e,c,d⟩:=st;exact⟨o,e,λv z=>by rw[d]at z;cases z⟩
 keep:=λi h h' st k=>st.at λo e=>k it (by simp) o e
 item:=by
  intro X hP hw hK hc i pq s σ H E I hf st hg;subst hP hw hK;obtain⟨xs,x,hq,hx⟩:=hg;obtain⟨its,rv,p,hz⟩:=I.tuple hq;obtain⟨u,hu,ru⟩:=rv.get hx;obtain⟨f0,f1,f2,f3,f4,f5⟩:=hf it (by simp);refine wpAny_pyNext_tuple_item st (show s.heap.IsTuple a its.toArray from p) (x:=u) (by simpa using hu) λh' st' sb=>?_;have I1:Inv X pq σ H {s with heap:=h'}:=I.turned (t':=s.toks) (λb o hb e=>(sb.2 b hb).trans e) f0 f1 f3 f4 f5;obtain⟨o,e,c,d⟩:=id st';exact⟨u,rfl,KJ (s:={s with heap:=h'}) e c d (by decide) ⟨x,H,I1,ru,⟨rfl,λys hy=>by rw[I.tuple_inj hy hq];exact hx⟩,st',λb hb=>(hf b hb).1⟩⟩
 done:=by
   intro X hP hw hK hc i pq s σ H E I hf st hg;subst hP hw hK;obtain⟨xs,hq,hx⟩:=hg;obtain⟨its,rv,p,hz⟩:=I.tuple hq;obtain⟨f0,f1,f2,f3,f4,f5⟩:=hf it (by simp);have hl:=rv.length;exact wpAny_pyNext_tuple_end (I.ok.hd hc) st (show s.heap.IsTuple a its.toArray from p) (by simp;omega) λh' eb=>⟨rfl,I.turned (t':=s.toks) (λb o hb e=>eb b o hb e) f0 f1 f3 f4 f5⟩
 self:=λ_ _ _ _ _ st h=>wpAny_pyIter_tupleiter st h
theorem G6{P:XZ}{w:Xd}{K:U1}{tg:Expr}(it:XU)(lo:Int)(n:Nat):Turn P w K tg (Itr lo n) [it] it (λi h=>IsRangeIter h it (lo+(i:Nat) * 1) ((n:Int) - (i:Nat)) 1) where
 mem:=by simp
 obj:=λi h st b hb=>by
  have e:b=it:=by simpa using hb
  subst e
  exact⟨_,st,λv z=>by
   have z':Data.fields _=Data.cell v:=z;cases z'⟩
 keep:=λi h h' st k=>k it (by simp) _ st
 item:=by
  intro X hP hw hK hc i pq s σ H E I hf st hg;subst hP hw hK;obtain⟨f0,f1,f2,f3,f4,f5⟩:=hf it (by simp);have W:=Walks.range (prog:=X.prog) (w:=X.w) (I.ok.hd hc) it lo 1 n;refine W.item i s _ _ hg st λv h' tk hv st' kk=>?_;obtain⟨t,rfl⟩:=hv;have I1:Inv X pq σ H {s with heap:=h',toks:=tk}:=I.turned (λb o hb e=>kk b o (by simpa using hb) e) f0 f1 f3 f4 f5;refine⟨_,rfl,KJ (s:={s with heap:=h',toks:=tk}) (n:="range_iterator") st' rfl rfl (by decide) ⟨.int (lo+i),H,I1,⟨t,?_⟩,⟨rfl,rfl⟩,st',λb hb=>(hf b hb).1⟩⟩;rw[Int.mul_one]
 done:=by
   intro X hP hw hK hc i pq s σ H E I hf st hg;subst hP hw hK;obtain⟨f0,f1,f2,f3,f4,f5⟩:=hf it (by simp);exact wpAny_pyNext_range_end (I.ok.hd hc) st (by have:n<=i:=hg;omega) λh' eb=>⟨rfl,I.turned (t':=s.toks) (λb o hb e=>eb b o hb e) f0 f1 f3 f4 f5⟩
 self:=λ_ _ _ _ _ st h=>wpAny_pyIter_rangeiter st h
section
variable{X:Cx}{tg:Expr}
theorem En{pq:List (XU×Obj)}{σ:St}{H:Hp}{s:XS}{R:It->Hp->Prop}{E:XR->XS->Prop}{lo hi:Int}{t u v:Tok}{tk:Nat}(I:Inv X pq σ H s)(h1:-(2 ^ 62)<=lo)(h2:lo<2 ^ 62)(h3:-(2 ^ 62)<=hi)(h4:hi<2 ^ 62)
 (q:R (Itr lo (hi - lo).toNat) H):XW (XX X.prog X.w) X.A (pyIter (.ref s.heap.objs.size)) (PIE X pq σ tg R) E {s with heap:=s.heap.push {cls := .type "range",data := .fields #[.int lo t,.int hi u,.int 1 v]},toks:=tk}:=by
 refine wpAny_pyIter_range (IsRange.new ..) (small_one h1 h2 h3 h4) ?_;have I1:Inv X pq σ H {s with heap:=s.heap.push {cls := .type "range",data := .fields #[.int lo t,.int hi u,.int 1 v]},toks:=tk}:=I.kept λb o e=>U3 _ e
 refine⟨(s.heap.push {cls := .type "range",data := .fields #[.int lo t,.int hi u,.int 1 v]}).objs.size,[(s.heap.push {cls := .type "range",data := .fields #[.int lo t,.int hi u,.int 1 v]}).objs.size],_,_,H,rfl,
  I1.kept (t':=tk) λb o e=>U3 _ e,G6 _ lo (hi - lo).toNat,?_,λb hb=>?_,q⟩
 ·have e1:lo+((0:Nat):Int) * 1=lo:=by simp
  have e2:(((hi - lo).toNat:Nat):Int) - ((0:Nat):Int)=Builtin.Range.rangeSize lo hi 1:=by rw[rangeSize_one];split<;>omega
  show IsRangeIter _ _ (lo+((0:Nat):Int) * 1) ((((hi - lo).toNat:Nat):Int) - ((0:Nat):Int)) 1;rw[e1,e2];exact U8 _ rfl
 ·have e:b=(s.heap.push {cls := .type "range",data := .fields #[.int lo t,.int hi u,.int 1 v]}).objs.size:=by simpa using hb
  subst e;exact I1.fpOk (U9 _) (I1.hok.fresh (U9 _))
noncomputable def Rg(ta:TA):TI:=λσ H R=>ta σ H λvs H1=>∃ j:Int,vs=[.int j] /\ -(2 ^ 62)<=j/\j<2 ^ 62/\R (Itr 0 j.toNat) H1
noncomputable def Rh(ta:TA):TI:=λσ H R=>ta σ H λvs H1=>∃ i j:Int,vs=[.int i,.int j]/\(-(2 ^ 62)<=i/\i<2 ^ 62 /\ -(2 ^ 62)<=j/\j<2 ^ 62)/\R (Itr i (j - i).toNat) H1
theorem Ik{a:Expr}{ta:TA}{p pos:Pos}(hg:Gl X "range")(hm:X.mg "range"=none)(ha:PA X [a] ta)(hs:Xa [a] X.env=[(false,eval a X.env)]:=by rfl):PI X tg (.Call (.Name "range" p) [a] [] pos) (Rg ta):=by
 intro pq s σ H R I h;refine Call_ (v7 I hg hm boot_range (PyProof.Rows.callWith_type1 (thn (ha pos pq s σ H _ I h) λus s1 ⟨vs,H1,I1,r1,q1⟩=>?_) hs rfl));obtain⟨j,e,q1,q2,q⟩:=q1;subst e;cases r1 with
 | cons r rr=>
   cases rr;obtain⟨t,rfl⟩:=r;exact call_range_1 (En I1 (by omega) (by omega) q1 q2 (by simpa using q))
theorem Il{a b:Expr}{ta:TA}{p pos:Pos}(hg:Gl X "range")(hm:X.mg "range"=none)(ha:PA X [a,b] ta)(hs:Xa [a,b] X.env=[(false,eval a X.env),(false,eval b X.env)]:=by rfl)(hs2:Xa [b] X.env=[(false,eval b X.env)]:=by rfl):
 PI X tg (.Call (.Name "range" p) [a,b] [] pos) (Rh ta):=by
 intro pq s σ H R I h;refine Call_ (v7 I hg hm boot_range (PyProof.Rows.callWith_type1 (thn (ha pos pq s σ H _ I h) λus s1 ⟨vs,H1,I1,r1,q1⟩=>?_) (by rw[hs,hs2]) (by rw[hs2];rfl)));obtain⟨i,j,e,⟨q1,q2,q3,q4⟩,q⟩:=q1;subst e;cases r1 with
 | cons r rr=>
   cases rr with
   | cons r' rr=>
     cases rr;obtain⟨t,rfl⟩:=r;obtain⟨t',rfl⟩:=r';exact call_range_2 (En I1 q1 q2 q3 q4 q)
noncomputable def Ri(wi:TI)(g:TG)(tb:TS):TS:=λD σ H=>wi σ H λJ H1=>∃ W:Nat->Nat->St->Hp->Prop,(∃ m,W 0 m σ H1)/\∀ i m σ H,W i m σ H->
 (J.stop i H/\D.nx σ H)\/(J.go i H/\∃ N:St->Hp->Prop,(∀ σ' H',N σ' H'->∃ m',m'<m/\W (i+1) m' σ' H')/\∀ x H',J.yld i H x H'->g x σ H' λσ2 H2=>tb {D with nx:=N,ct:=N,bk:=D.nx} σ2 H2)
noncomputable def BF(fp:List XU)(h:Heap):List (XU×Obj):=fp.filterMap λb=>(h.get? b).map λo=>(b,o)
theorem Ak{fp:List XU}{h:Heap}{b:XU}{o:Obj}(hb:b∈fp)(e:h.get? b=some o):(b,o)∈BF fp h:=Wg.mpr ⟨b,hb,by rw[e];rfl⟩
theorem Im{fp:List XU}{h:Heap}{p:XU×Obj}(hp:p∈BF fp h):p.1∈fp/\h.get? p.1=some p.2:=by
 obtain⟨b,hb,e⟩:=Wg.mp hp;cases q:h.get? b with
 | none=>rw[q]at e;cases e
 | some o=>
   rw[q]at e;have e':(b,o)=p:=oj e;subst e';exact⟨hb,q⟩
theorem Inv.pinned{pq:List (XU×Obj)}{σ:St}{H:Hp}{s:XS}{fp:List XU}(I:Inv X pq σ H s)(hf:∀ b∈fp,FpOk X pq H b)(ho:∀ b∈fp,∃ o,s.heap.get? b=some o/\∀ v,o.data ≠ .cell v):Inv X (pq++BF fp s.heap) σ H s:=
 I.pins_of λp hp=>(UV.mp hp).elim (λz=>I.pin p (Uk _ z)) λz=>by
  obtain⟨hb,e⟩:=Im z;obtain⟨f0,f1,f2,_⟩:=hf p.1 hb;obtain⟨o,e',d⟩:=ho p.1 hb;rw[e]at e';cases e';exact⟨e,f0,f1,f2,d⟩
theorem Inv.unpinned{pq pl:List (XU×Obj)}{σ:St}{H:Hp}{s:XS}(I:Inv X (pq++pl) σ H s):Inv X pq σ H s:=I.pins_of λp hp=>I.pin p (Uk _ (WW _ hp))
theorem Pu{iter:Expr}{body:List Stmt}{wi:TI}{g:TG}{tb:TS}{pos:Pos}(hp:ZI (XX X.prog X.w) X.A X.env X.xe)(hc:X.calm=true)(hi:PI X tg iter wi)(hg:PG X tg g)(hb:PSs X body tb)
 (hs:∀ x,YL iter X.env x=pure x:=by intro _;rfl):PS X (.For tg iter body [] pos) (Ri wi g tb):=by
 intro pq s σ H D I h;refine wpAny_For (thn (hi pq s σ H _ I h) λv s1 h1=>thn h1 λitv s2 h2=>?_) hs;obtain⟨it,fp,tn,J,H2,e,I2,T,st2,f2,W,⟨m0,w0⟩,turn⟩:=h2;subst e;have stat:∀{H':Hp},(∀ b∈fp,H' b=none)->∀ b∈fp,FpOk X pq H' b:=λhn b hb=>⟨hn b hb,(f2 b hb).2⟩
 refine codeAny_forLoop_any (λn s'=>∃ i σ' H',Inv X pq σ' H' s'/\tn i s'.heap/\(∀ b∈fp,H' b=none)/\W i n σ' H') ?_ m0 ⟨0,σ,H2,I2,st2,λb hb=>(f2 b hb).1,w0⟩;rintro n s3 ⟨i,σ3,H3,I3,st3,fr3,w3⟩;rcases turn i n σ3 H3 w3 with⟨stop,qn⟩ | ⟨go,N,hN,step⟩
 ·refine Y0 hp (thn (T.done X rfl rfl rfl hc i pq s3 σ3 H3 X.xe I3 (stat fr3) st3 stop) λr s4 ⟨hr,I4⟩=>?_);subst hr;exact Yo ⟨σ3,H3,I4,qn⟩
 ·refine Y0 hp (thn (T.item X rfl rfl rfl hc i pq s3 σ3 H3 X.xe I3 (stat fr3) st3 go) λr s4 ⟨u,hr,h4⟩=>?_);subst hr;refine Y0 hp (thn h4 λ_ s5 ⟨x,H5,I5,r5,y5,st5,fr5⟩=>?_);have I5':=I5.pinned (stat fr5) (T.obj _ _ st5);refine Y0 hp (thn (hg _ s5 σ3 H5 x u _ I5' r5 (step x H5 y5)) λ_ s6 ⟨σ6,H6,I6,q6⟩=>?_);refine Y0 hp (thn (hb _ s6 σ6 H6 _ I6 q6) λf s7 q7=>?_)
  have again:∀{σ7:St} {H7:Hp},Inv X (pq++BF fp s5.heap) σ7 H7 s7->N σ7 H7->∃ m,m<n/\∃ i σ' H',Inv X pq σ' H' s7/\tn i s7.heap/\(∀ b∈fp,H' b=none)/\W i m σ' H':=λ{σ7 H7} I7 n7=>by
   obtain⟨m',hm,w7⟩:=hN σ7 H7 n7;refine⟨m',hm,i+1,σ7,H7,I7.unpinned,T.keep _ _ _ st5 λb hb o e=>(I7.pin (b,o) (Uk _ (Uk _ (Ak hb e)))).1,λb hb=>?_,w7⟩;obtain⟨o,e,d⟩:=T.obj _ _ st5 b hb;exact(I7.pin (b,o) (Uk _ (Uk _ (Ak hb e)))).2.1
  cases f with
  | next=>obtain⟨σ7,H7,I7,n7⟩:=q7;exact again I7 n7
  | cont=>obtain⟨σ7,H7,I7,n7⟩:=q7;exact again I7 n7
  | brk=>obtain⟨σ7,H7,I7,q7⟩:=q7;exact⟨σ7,H7,I7.unpinned,q7⟩
  | ret v=>obtain⟨x7,σ7,H7,I7,r7,q7⟩:=q7;exact⟨x7,σ7,H7,I7.unpinned,r7,q7⟩
end
noncomputable abbrev R2:=V->V->Hp->VK->Prop
noncomputable def OpR(X:Cx)(f:XR->XR->Sem XR)(r:R2):Prop:=
 ∀(pq:List (XU×Obj)) (s:XS) (σ:St) (H:Hp) (x y:V) (v u:XR) (Q:VK),Inv X pq σ H s->RelV x v->RelV y u->r x y H Q->
  XW (XX X.prog X.w) X.A (f v u) (EP X pq σ Q) X.xe s
noncomputable def UnR(X:Cx)(f:XR->Sem XR)(r:V->Hp->VK->Prop):Prop:=
 ∀(pq:List (XU×Obj)) (s:XS) (σ:St) (H:Hp) (x:V) (v:XR) (Q:VK),Inv X pq σ H s->RelV x v->r x H Q->
  XW (XX X.prog X.w) X.A (f v) (EP X pq σ Q) X.xe s
noncomputable def CallR(X:Cx)(f:XR)(r:List V->Hp->VK->Prop):Prop:=
 ∀(pq:List (XU×Obj)) (s:XS) (σ:St) (H:Hp) (xs:List V) (us:List XR) (Q:VK),Inv X pq σ H s->Vals xs us->r xs H Q->
  XW (XX X.prog X.w) X.A (call f us) (EP X pq σ Q) X.xe s
noncomputable def Tb(X:Cx)(r:V->Hp->(Bool->Hp->Prop)->Prop):Prop:=
 ∀(pq:List (XU×Obj)) (s:XS) (σ:St) (H:Hp) (x:V) (v:XR) (Q:Bool->Hp->Prop),Inv X pq σ H s->RelV x v->r x H Q->
  XW (XX X.prog X.w) X.A (truthy v) (TP X pq σ Q) X.xe s
noncomputable def tOp(r:R2)(ta tb:TE):TE:=λσ H Q=>ta σ H λx H1=>tb σ H1 λy H2=>r x y H2 Q
noncomputable def tUn(r:V->Hp->VK->Prop)(ta:TE):TE:=λσ H Q=>ta σ H λx H1=>r x H1 Q
noncomputable def rI(C:Int->Int->Prop)(g:Int->Int->V):R2:=λx y H Q=>∃ i j,x = .int i/\y = .int j/\C i j/\Q (g i j) H
noncomputable def rI0(g:Int->Int->V):R2:=λx y H Q=>∃ i j,x = .int i/\y = .int j/\Q (g i j) H
noncomputable def rU(g:Int->V):V->Hp->VK->Prop:=λx H Q=>∃ i,x = .int i/\Q (g i) H
section
variable{X:Cx}{a b c:Expr}{ta tb tc:TE}{pos:Pos}
theorem Pv(ha:PE X a ta)(hb:PE X b tb){pq:List (XU×Obj)}{s:XS}{σ:St}{H:Hp}{R:V->V->Hp->Prop}(I:Inv X pq σ H s)
 (h:ta σ H λx H1=>tb σ H1 λy H2=>R x y H2) {Q:XR->XS->Prop} {f:XR->XR->Sem XR}
 (hf:∀ v u s2 x y H2,Inv X pq σ H2 s2->RelV x v->RelV y u->R x y H2->XW (XX X.prog X.w) X.A (f v u) Q X.xe s2):
 XW (XX X.prog X.w) X.A (eval a X.env) (λv s₁=>XW (XX X.prog X.w) X.A (eval b X.env) (λu s₂=>XW (XX X.prog X.w) X.A (f v u) Q X.xe s₂) X.xe s₁) X.xe s:=by
 refine thn (ha pq s σ H _ I h) λv s1 ⟨x,H1,I1,r1,q1⟩=>?_;refine thn (hb pq s1 σ H1 _ I1 q1) λu s2 ⟨y,H2,I2,r2,q2⟩=>?_;exact hf v u s2 x y H2 I2 r1 r2 q2
theorem Rj{op:Yf}{r:R2}(ho:OpR X (YE op) r)(ha:PE X a ta)(hb:PE X b tb):PE X (.BinOp a op b pos) (tOp r ta tb):=by
 intro pq s σ H Q I h;exact wpAny_BinOp (Pv ha hb I h λv u s2 x y H2 I2 rx ry q=>ho pq s2 σ H2 x y v u Q I2 rx ry q)
theorem Rk{op:UnaryOp}{r:V->Hp->VK->Prop}(ho:UnR X (unaryOp op) r)(ha:PE X a ta):PE X (.UnaryOp op a pos) (tUn r ta):=by
 intro pq s σ H Q I h;exact UnaryOp_ (thn (ha pq s σ H _ I h) λv s1 ⟨x,H1,I1,r1,q1⟩=>ho pq s1 σ H1 x v Q I1 r1 q1)
theorem opI{f:XR->XR->Sem XR}{C:Int->Int->Prop}{g:Int->Int->Int}
 (rule:∀(i j:Int) (t u:Tok) (s:XS) (Q:XR->XS->Prop) (E:XR->XS->Prop),C i j->Q (.int (g i j) s.toks) {s with toks:=s.toks+1}->XW (XX X.prog X.w) X.A (f (.int i t) (.int j u)) Q E s):
 OpR X f (rI C λi j => .int (g i j)):=by
 intro pq s σ H x y v u Q I rx ry h;obtain⟨i,j,rfl,rfl,hc,q⟩:=h;obtain⟨t,rfl⟩:=rx;obtain⟨t',rfl⟩:=ry;exact rule i j t t' s _ _ hc ⟨.int (g i j),H,I.tok _,⟨_,rfl⟩,q⟩
theorem Rm{f:XR->XR->Sem XR}{g:Int->Int->Int}
 (rule:∀(i j:Int) (t u:Tok) (s:XS) (Q:XR->XS->Prop) (E:XR->XS->Prop),Q (.int (g i j) s.toks) {s with toks:=s.toks+1}->XW (XX X.prog X.w) X.A (f (.int i t) (.int j u)) Q E s):
 OpR X f (rI0 λi j => .int (g i j)):=by
 intro pq s σ H x y v u Q I rx ry h;obtain⟨i,j,rfl,rfl,q⟩:=h;obtain⟨t,rfl⟩:=rx;obtain⟨t',rfl⟩:=ry;exact rule i j t t' s _ _ ⟨.int (g i j),H,I.tok _,⟨_,rfl⟩,q⟩
theorem N2{f:XR->XR->Sem XR}{g:Int->Int->Bool}
 (rule:∀(i j:Int) (t u:Tok) (s:XS) (Q:XR->XS->Prop) (E:XR->XS->Prop),Q (.bool (g i j)) s->XW (XX X.prog X.w) X.A (f (.int i t) (.int j u)) Q E s):
 OpR X f (rI0 λi j => .bl (g i j)):=by
 intro pq s σ H x y v u Q I rx ry h;obtain⟨i,j,rfl,rfl,q⟩:=h;obtain⟨t,rfl⟩:=rx;obtain⟨t',rfl⟩:=ry;exact rule i j t t' s _ _ ⟨.bl (g i j),H,I,rfl,q⟩
noncomputable def Rn(i j:Int):Prop:=0<j/\j<1073741824
noncomputable def Ro(i j:Int):Prop:=0<=j/\j<=1000000/\i.natAbs<2 ^ 64
noncomputable def CMul(i j:Int):Prop:=(-(2 ^ 64)<i/\i<2 ^ 64)\/(-(2 ^ 64)<j/\j<2 ^ 64)
theorem CMul.ok{i j:Int}(h:CMul i j):IntMulOk i j:=by
 rcases h with⟨h1,h2⟩ | ⟨h1,h2⟩
 ·exact .of_left (intBits_le_64 h1 h2)
 ·exact .of_right (intBits_le_64 h1 h2)
theorem op_add:OpR X (YE .Add) (rI0 λi j => .int (i+j)):=Rm λ_ _ _ _ _ _ _ q=>add_int q
theorem Pw:OpR X (YE .Sub) (rI0 λi j => .int (i - j)):=Rm λ_ _ _ _ _ _ _ q=>sub_int q
theorem op_mul:OpR X (YE .Mult) (rI CMul λi j => .int (i * j)):=opI λ_ _ _ _ _ _ _ hc q=>mul_int q hc.ok
theorem N3:OpR X (YE .FloorDiv) (rI Rn λi j => .int (i / j)):=opI λi j _ _ _ _ _ hc q=>by
 have h1:(0:Int)<j:=hc.1;have h2:j<1073741824:=hc.2;exact floordiv_int (by omega) (by rw[Int.fdiv_eq_ediv_of_nonneg i (by omega)];exact q) (.inl (PyProof.noPylong_small (by omega)))
theorem Px:OpR X (YE .Mod) (rI (λ_ j=>0<j) λi j => .int (i % j)):=opI λi j _ _ _ _ _ hc q=>by
 have h1:(0:Int)<j:=hc;exact mod_int' (by omega) (by rw[Int.fmod_eq_emod_of_nonneg i (by omega)];exact q)
theorem Py:OpR X (YE .Pow) (rI Ro λi j => .int (i ^ j.toNat)):=opI λ_ _ _ _ _ _ _ hc q=>pow_int_small hc.1 hc.2.1 hc.2.2 q
theorem unI{f:XR->Sem XR}{g:Int->Int}
 (rule:∀(i:Int) (t:Tok) (s:XS) (Q:XR->XS->Prop) (E:XR->XS->Prop),Q (.int (g i) s.toks) {s with toks:=s.toks+1}->XW (XX X.prog X.w) X.A (f (.int i t)) Q E s):
 UnR X f (rU λi => .int (g i)):=by
 intro pq s σ H x v Q I rx h;obtain⟨i,rfl,q⟩:=h;obtain⟨t,rfl⟩:=rx;exact rule i t s _ _ ⟨.int (g i),H,I.tok _,⟨_,rfl⟩,q⟩
theorem Pz:UnR X (unaryOp .USub) (rU λi => .int (-i)):=unI λ_ _ _ _ _ q=>neg_int q
end
noncomputable def Q0:V->V->Bool
 | .non,.non=>true | .non,.int _=>true | .int _,.non=>true | .non,.bl _=>true | .bl _,.non=>true | .non,.str _=>true | .str _,.non=>true
 | .int _,.int _=>true | .bl _,.bl _=>true | .str _,.str _=>true | .byt _,.byt _=>true
 | .int _,.str _=>true | .str _,.int _=>true | .bl _,.str _=>true | .str _,.bl _=>true
 | _,_=>false
noncomputable def rEq:R2:=λx y H Q=>Q0 x y=true/\Q (.bl (decide (x=y))) H
noncomputable def rNe:R2:=λx y H Q=>Q0 x y=true/\Q (.bl (!decide (x=y))) H
theorem HS{i j:Int}:decide (V.int i=V.int j)=(i == j):=by
 rw[Ug];simp
theorem KK{i j:Bool}:decide (V.bl i=V.bl j)=(i == j):=by
 rw[Ug];simp
theorem HU{i j:Str}:decide (V.str i=V.str j)=(i == j):=by
 rw[Ug];simp
theorem HV{i j:Array UInt8}:decide (V.byt i=V.byt j)=(i.toList == j.toList):=by
 rw[Ug];cases i;cases j;simp
section
variable{X:Cx}{a b c:Expr}{ta tb tc:TE}{pos:Pos}
theorem i8{pq:List (XU×Obj)}{σ:St}{H:Hp}{s:XS}{Q:VK}{k k':Bool}(I:Inv X pq σ H s)(q:Q (.bl k) H)(e:k=k'):EP X pq σ Q (.bool k') s:=by
 subst e;exact⟨.bl k,H,I,rfl,q⟩
theorem op_eq:OpR X (Xe .Eq) rEq:=by
 intro pq s σ H x y v u Q I rx ry h;obtain⟨hs,q⟩:=h;cases x with
 | non=>
   cases rx;cases y with
   | non=>cases ry;exact PySem.EqNone.eq_none_none (i8 I q (by simp))
   | bl j=>cases ry;exact PySem.EqNone.eq_none_bool (i8 I q (by simp))
   | int j=>obtain⟨t',rfl⟩:=ry;exact PySem.EqNone.eq_none_int (i8 I q (by simp))
   | str j=>obtain⟨t',rfl⟩:=ry;exact PySem.EqNone.eq_none_str (i8 I q (by simp))
   | _=>exact absurd (show false=true from hs) UB
 | bl i=>
   cases rx;cases y with
   | non=>cases ry;exact PySem.EqNone.eq_bool_none (i8 I q (by simp))
   | bl j=>cases ry;exact eq_bool (i8 I q KK)
   | str j=>obtain⟨t',rfl⟩:=ry;exact PySem.EqMixed.eq_bool_str (i8 I q (by simp))
   | _=>exact absurd (show false=true from hs) UB
 | int i=>
   obtain⟨t,rfl⟩:=rx;cases y with
   | non=>cases ry;exact PySem.EqNone.eq_int_none (i8 I q (by simp))
   | int j=>obtain⟨t',rfl⟩:=ry;exact eq_int (i8 I q HS)
   | str j=>obtain⟨t',rfl⟩:=ry;exact PySem.EqMixed.eq_int_str (i8 I q (by simp))
   | _=>exact absurd (show false=true from hs) UB
 | str i=>
   obtain⟨t,rfl⟩:=rx;cases y with
   | non=>cases ry;exact PySem.EqNone.eq_str_none (i8 I q (by simp))
   | bl j=>cases ry;exact PySem.EqMixed.eq_str_bool (i8 I q (by simp))
   | int j=>obtain⟨t',rfl⟩:=ry;exact PySem.EqMixed.eq_str_int (i8 I q (by simp))
   | str j=>obtain⟨t',rfl⟩:=ry;exact eq_str (i8 I q HU)
   | _=>exact absurd (show false=true from hs) UB
 | byt i=>
   obtain⟨t,rfl⟩:=rx;cases y with
   | byt j=>obtain⟨t',rfl⟩:=ry;exact PySem.W.eq_bytes (i8 I q HV)
   | _=>exact absurd (show false=true from hs) UB
 | _=>cases y<;>exact absurd (show false=true from hs) UB
theorem op_ne:OpR X (Xe .NotEq) rNe:=by
 intro pq s σ H x y v u Q I rx ry h;obtain⟨hs,q⟩:=h;cases x with
 | non=>
   cases rx;cases y with
   | non=>cases ry;exact PySem.EqNone.ne_none_none (i8 I q (by simp))
   | bl j=>cases ry;exact PySem.EqNone.ne_none_bool (i8 I q (by simp))
   | int j=>obtain⟨t',rfl⟩:=ry;exact PySem.EqNone.ne_none_int (i8 I q (by simp))
   | str j=>obtain⟨t',rfl⟩:=ry;exact PySem.EqNone.ne_none_str (i8 I q (by simp))
   | _=>exact absurd (show false=true from hs) UB
 | bl i=>
   cases rx;cases y with
   | non=>cases ry;exact PySem.EqNone.ne_bool_none (i8 I q (by simp))
   | bl j=>cases ry;exact ne_bool (i8 I q (congrArg not KK))
   | str j=>obtain⟨t',rfl⟩:=ry;exact PySem.EqMixed.ne_bool_str (i8 I q (by simp))
   | _=>exact absurd (show false=true from hs) UB
 | int i=>
   obtain⟨t,rfl⟩:=rx;cases y with
   | non=>cases ry;exact PySem.EqNone.ne_int_none (i8 I q (by simp))
   | int j=>obtain⟨t',rfl⟩:=ry;exact ne_int (i8 I q (congrArg not HS))
   | str j=>obtain⟨t',rfl⟩:=ry;exact PySem.EqMixed.ne_int_str (i8 I q (by simp))
   | _=>exact absurd (show false=true from hs) UB
 | str i=>
   obtain⟨t,rfl⟩:=rx;cases y with
   | non=>cases ry;exact PySem.EqNone.ne_str_none (i8 I q (by simp))
   | bl j=>cases ry;exact PySem.EqMixed.ne_str_bool (i8 I q (by simp))
   | int j=>obtain⟨t',rfl⟩:=ry;exact PySem.EqMixed.ne_str_int (i8 I q (by simp))
   | str j=>obtain⟨t',rfl⟩:=ry;exact ne_str (i8 I q (congrArg not HU))
   | _=>exact absurd (show false=true from hs) UB
 | byt i=>
   obtain⟨t,rfl⟩:=rx;cases y with
   | byt j=>obtain⟨t',rfl⟩:=ry;exact PySem.W.ne_bytes (i8 I q (congrArg not HV))
   | _=>exact absurd (show false=true from hs) UB
 | _=>cases y<;>exact absurd (show false=true from hs) UB
theorem Rp:OpR X (Xe .Lt) (rI0 λi j => .bl (decide (i<j))):=N2 λ_ _ _ _ _ _ _ q=>lt_int q
theorem Rq:OpR X (Xe .LtE) (rI0 λi j => .bl (decide (i<=j))):=N2 λ_ _ _ _ _ _ _ q=>le_int q
theorem Rr:OpR X (Xe .Gt) (rI0 λi j => .bl (decide (j<i))):=N2 λ_ _ _ _ _ _ _ q=>gt_int q
theorem Rs:OpR X (Xe .GtE) (rI0 λi j => .bl (decide (j<=i))):=N2 λ_ _ _ _ _ _ _ q=>ge_int q
theorem Q1:OpR X (Xe .Is) (λx y H Q=>y = .non/\Q (.bl (decide (x = .non))) H):=by
 intro pq s σ H x y v u Q I rx ry h;obtain⟨rfl,q⟩:=h;cases ry;refine is_none_gen (i8 I q ?_)
 cases x<;>first
  | (cases rx;rfl)
  | (obtain⟨t,rfl⟩:=rx;rfl)
theorem op_notN:OpR X (Xe .IsNot) (λx y H Q=>y = .non/\Q (.bl (!decide (x = .non))) H):=by
 intro pq s σ H x y v u Q I rx ry h;obtain⟨rfl,q⟩:=h;cases ry;refine isnot_none_gen (i8 I q ?_)
 cases x<;>first
  | (cases rx;rfl)
  | (obtain⟨t,rfl⟩:=rx;rfl)
theorem OpR.or{f:XR->XR->Sem XR}{r r':R2}(h:OpR X f r)(h':OpR X f r'):OpR X f (λx y H Q=>r x y H Q\/r' x y H Q):=by
 intro pq s σ H x y v u Q I rx ry q;rcases q with q | q
 ·exact h pq s σ H x y v u Q I rx ry q
 ·exact h' pq s σ H x y v u Q I rx ry q
theorem HW{op:CmpOp}{r:R2}(ho:OpR X (Xe op) r)(ha:PE X a ta)(hb:PE X b tb)(hm:YO op b=false):PE X (.Compare a [op] [b] pos) (tOp r ta tb):=by
 intro pq s σ H Q I h;exact ZU (Pv ha hb I h λv u s2 x y H2 I2 rx ry q=>ho pq s2 σ H2 x y v u Q I2 rx ry q) hm
noncomputable def Ox(t:TE):TT:=λσ H Q=>t σ H λx H'=>∃ k,x = .bl k/\Q k H'
theorem HX{op:CmpOp}{r:R2}(ho:OpR X (Xe op) r)(ha:PE X a ta)(hb:PE X b tb)(hm:YO op b=false):PT X (.Compare a [op] [b] pos) (Ox (tOp r ta tb)):=by
 intro pq s σ H Q I h
 refine Ys (thn (ha pq s σ H _ I h) λv s1 ⟨x,H1,I1,r1,q1⟩=>thn (hb pq s1 σ H1 _ I1 q1) λu s2 ⟨y,H2,I2,r2,q2⟩=>
  thn (ho pq s2 σ H2 x y v u _ I2 r1 r2 q2) λc s3 ⟨z,H3,I3,r3,k,e,q3⟩=>?_) hm
 subst e;cases r3;exact Xi ⟨H3,I3,q3⟩
noncomputable def G7(r r':R2)(ta tb tc:TE):TE:=λσ H Q=>ta σ H λx H1=>tb σ H1 λy H2=>r x y H2 λz H3=>∃ k,z = .bl k/\
 (if k=true then tc σ H3 λw' H4=>r' y w' H4 Q else Q (.bl false) H3)
theorem KL{op op':CmpOp}{r r':R2}(ho:OpR X (Xe op) r)(ho':OpR X (Xe op') r')(ha:PE X a ta)(hb:PE X b tb)(hc:PE X c tc)
 (hm:Zj [op,op'] [b,c]=false:=by with_unfolding_all rfl):PE X (.Compare a [op,op'] [b,c] pos) (G7 r r' ta tb tc):=by
 intro pq s σ H Q I h
 refine Compare_chain (thn (ha pq s σ H _ I h) λv s1 ⟨x,H1,I1,r1,q1⟩=>chain_link (thn (hb pq s1 σ H1 _ I1 q1) λu s2 ⟨y,H2,I2,r2,q2⟩=>
  thn (ho pq s2 σ H2 x y v u _ I2 r1 r2 q2) λd s3 ⟨z,H3,I3,r3,k,e,q3⟩=>?_)) hm
 subst e;cases r3;refine Xi ?_;cases k with
 | false=>exact ite_ff ⟨.bl false,H3,I3,rfl,q3⟩
 | true=>exact ite_tt (chain_last (thn (hc pq s3 σ H3 _ I3 q3) λw' s4 ⟨z',H4,I4,r4,q4⟩=>ho' pq s4 σ H4 y z' u w' Q I4 r2 r4 q4))
theorem KM{op op':CmpOp}{r r':R2}(ho:OpR X (Xe op) r)(ho':OpR X (Xe op') r')(ha:PE X a ta)(hb:PE X b tb)(hc:PE X c tc)
 (hm:Zj [op,op'] [b,c]=false:=by with_unfolding_all rfl):PT X (.Compare a [op,op'] [b,c] pos) (Ox (G7 r r' ta tb tc)):=by
 intro pq s σ H Q I h
 refine isTrue_chain (thn (ha pq s σ H _ I h) λv s1 ⟨x,H1,I1,r1,q1⟩=>test_link (thn (hb pq s1 σ H1 _ I1 q1) λu s2 ⟨y,H2,I2,r2,q2⟩=>
  thn (ho pq s2 σ H2 x y v u _ I2 r1 r2 q2) λd s3 ⟨z,H3,I3,r3,k,e,q3⟩=>?_)) hm
 subst e;cases r3;refine Xi ?_;cases k with
 | false=>
   obtain⟨k',e',q'⟩:=q3;cases e';exact ite_ff ⟨H3,I3,q'⟩
 | true=>
   refine ite_tt (test_last (thn (hc pq s3 σ H3 _ I3 q3) λw' s4 ⟨z',H4,I4,r4,q4⟩=>thn (ho' pq s4 σ H4 y z' u w' _ I4 r2 r4 q4) λd' s5 ⟨z2,H5,I5,r5,k2,e2,q5⟩=>?_));subst e2;cases r5;exact Xi ⟨H5,I5,q5⟩
noncomputable def N4(K:U1)(x:V)(H:Hp)(k:Bool):Prop:=
 match x with
 | .non=>k=false
 | .bl b=>k=b
 | .int i=>k=(i != 0)
 | .str y=>y.length<=XY/\k=((y.length:Int) != 0)
 | .byt y=>y.size<=XY/\k=((y.size:Int) != 0)
 | .ref p=>(∃ xs,SqL K H p xs/\k=!xs.isEmpty)\/(∃ xs,SqT K H p xs/\k=!xs.isEmpty)\/∃ kvs,H p=some (.dK kvs)/\k=!kvs.isEmpty
 | _=>False
theorem G8{κ:Type}{kvs:List (κ×V)}{vs:List (κ×XR)}(r:KV kvs vs):(!vs.isEmpty)=!kvs.isEmpty:=by
 cases r<;>rfl
theorem CS{xs:List V}{its:List XR}(r:Vals xs its):(!its.toArray.isEmpty)=!xs.isEmpty:=by
 cases r<;>simp
theorem Bi:(XY:Nat)<2 ^ 63:=by rw[Yw];decide
theorem Q2:Tb X (λx H Q=>∃ k,N4 X.K x H k/\Q k H):=by
 intro pq s σ H x v Q I rx h;obtain⟨k,e,q⟩:=h;have hl:=Bi;have hs:XY=16777216:=Yw;cases x with
 | non=>
   cases rx;have e':k=false:=e;subst e';exact truthy_none ⟨H,I,q⟩
 | bl b=>
   cases rx;have e':k=b:=e;subst e';exact Xi ⟨H,I,q⟩
 | int i=>
   obtain⟨t,rfl⟩:=rx;have e':k=(i != 0):=e;subst e';exact PySem.P.truthy_int ⟨H,I,q⟩
 | str y=>
   obtain⟨t,rfl⟩:=rx;obtain⟨hy,e'⟩:y.length<=XY/\k=((y.length:Int) != 0):=e;subst e';exact PySem.P.truthy_str (by omega) ⟨H,I.tok _,q⟩
 | byt y=>
   obtain⟨t,rfl⟩:=rx;obtain⟨hy,e'⟩:y.size<=XY/\k=((y.size:Int) != 0):=e;subst e';exact PySem.W.truthy_bytes (by omega) ⟨H,I.tok _,q⟩
 | ref p=>
   cases rx;have e':(∃ xs,SqL X.K H p xs/\k=!xs.isEmpty)\/(∃ xs,SqT X.K H p xs/\k=!xs.isEmpty)\/∃ kvs,H p=some (.dK kvs)/\k=!kvs.isEmpty:=e;rcases e' with⟨xs,hx,e'⟩ | ⟨xs,hx,e'⟩ | ⟨kvs,hx,e'⟩
   ·subst e';obtain⟨its,r,pl,hz⟩:=I.list hx;have hlen:=r.length;exact wpAny_truthy_list pl.isList (by simp only[U6];omega) ⟨H,I.tok _,by rw[CS r];exact q⟩
   ·subst e';obtain⟨its,r,pl,hz⟩:=I.tuple hx;have hlen:=r.length;exact truthy_tuple pl (by simp only[U6];omega) ⟨H,I.tok _,by rw[CS r];exact q⟩
   ·subst e';obtain⟨hz,hS,vs,r,m⟩:kvs.length<=XY/\(p == Xs)=false/\∃ vs,KV kvs vs/\s.heap.DictOf (j3 X.prog X.w) p vs:=I.hok p _ hx;have hlen:kvs.length=vs.length:=Paired.length r;exact wpAny_truthy_dict hS m (by omega) ⟨H,I.tok _,by rw[G8 r];exact q⟩
 | _=>exact(show False from e).elim
theorem KN(ha:PE X a ta)(he:∀ whole,isTrue a X.env whole=(do let v <- whole;standAt a.pos;holding [v] (truthy v))):
 PT X a (λσ H Q=>ta σ H λx H'=>∃ k,N4 X.K x H' k/\Q k H'):=by
 intro pq s σ H Q I h;exact isTrue_plain (thn (ha pq s σ H _ I h) λv s1 ⟨x,H1,I1,r1,q1⟩=>Q2 pq s1 σ H1 x v Q I1 r1 q1) (he _)
theorem AB{x:V}{us:List XR}(r:Vals [x] us):∃ u,us=[u]/\RelV x u:=by
 cases r with
 | cons r1 r2=>cases r2;exact⟨_,rfl,r1⟩
theorem Oy{x y:V}{us:List XR}(r:Vals [x,y] us):∃ u w',us=[u,w']/\RelV x u/\RelV y w':=by
 cases r with
 | cons r1 r2=>
   cases r2 with
   | cons r3 r4=>cases r4;exact⟨_,_,rfl,r1,r3⟩
theorem KO:CallR X (.builtin "abs") (λxs H Q=>∃ i,xs=[.int i]/\Q (.int (if i<0 then -i else i)) H):=by
 intro pq s σ H xs us Q I r h;obtain⟨i,rfl,q⟩:=h;obtain⟨u,rfl,t,rfl⟩:=AB r;exact call_abs_int λu tk=>⟨.int (if i<0 then -i else i),H,I.tok _,⟨_,rfl⟩,q⟩
theorem Io(hc:X.calm=true):CallR X (.builtin "max") (λxs H Q=>∃ i j,xs=[.int i,.int j]/\Q (.int (if j>i then j else i)) H):=by
 intro pq s σ H xs us Q I r h;obtain⟨i,j,rfl,q⟩:=h;obtain⟨u,w',rfl,⟨t,rfl⟩,⟨t',rfl⟩⟩:=Oy r;refine max_two_ints (I.ok.hd hc) λh' tk k=>⟨_,H,I.kept k,?_,q⟩
 by_cases hj:j>i
 ·rw[iP hj,iP hj];exact⟨_,rfl⟩
 ·rw[iG hj,iG hj];exact⟨_,rfl⟩
theorem Ip(hc:X.calm=true):CallR X (.builtin "min") (λxs H Q=>∃ i j,xs=[.int i,.int j]/\Q (.int (if j<i then j else i)) H):=by
 intro pq s σ H xs us Q I r h;obtain⟨i,j,rfl,q⟩:=h;obtain⟨u,w',rfl,⟨t,rfl⟩,⟨t',rfl⟩⟩:=Oy r;refine min_two_ints (I.ok.hd hc) λh' tk k=>⟨_,H,I.kept k,?_,q⟩
 by_cases hj:j<i
 ·rw[iP hj,iP hj];exact⟨_,rfl⟩
 ·rw[iG hj,iG hj];exact⟨_,rfl⟩
theorem Iq:CallR X (.type "int") (λxs H Q=>(∃ i,xs=[.int i]/\Q (.int i) H)\/∃ k,xs=[.bl k]/\Q (.int (if k then 1 else 0)) H):=by
 intro pq s σ H xs us Q I r h;rcases h with⟨i,rfl,q⟩ | ⟨k,rfl,q⟩
 ·obtain⟨u,rfl,t,rfl⟩:=AB r;exact call_int_int ⟨.int i,H,I,⟨_,rfl⟩,q⟩
 ·obtain⟨u,rfl,r1⟩:=AB r;cases r1;exact call_int_bool ⟨.int (if k then 1 else 0),H,I.tok _,⟨_,rfl⟩,q⟩
end
structure ObjM(h:Heap)(x dx C:XU)(mA:Str->Option XR):Prop where
 obj:h.get? x=some (PySem.W.instObj C dx)
 ns:h.Ns1 dx mA
 ne:dx≠x
theorem Ir{h:Heap}{dx:XU}{mA:Str->Option XR}(n:h.Ns1 dx mA):∃ od,h.get? dx=some od/\∀ name,PySem.W.lookIn name od=some (mA name):=by
 obtain⟨o,es,ep,ho,hd,hk,_,hm⟩:=n;refine⟨o,ho,λname=>?_⟩;have e:=hm name;unfold nsFind findBy at e;rw[<-Array.find?_toList]at e;unfold PySem.W.lookIn;rw[hd];dsimp only;split
 ·rename_i y q;rw[q]at e;exact congrArg some e
 ·rename_i q;rw[q]at e
  have a:es.toList.any (·.refKey)=false:=by
   rw[List.any_eq_false];intro y hy;obtain⟨z,t,hkey⟩:=hk y (Array.mem_toList_iff.mp hy);simp[DictEntry.refKey,hkey]
  have a':¬ es.toList.any (·.refKey)=true:=by rw[a];exact UB
  rw[iG a'];exact congrArg some e
theorem ObjM.look{h:Heap}{x dx C:XU}{mA:Str->Option XR}(I:ObjM h x dx C mA):∃ od,PySem.W.InstAt h x (PySem.W.instObj C dx) C (some od)/\∀ name,PySem.W.lookIn name od=some (mA name):=
 let ⟨od,ho,hl⟩:=Ir I.ns
 ⟨od,⟨I.obj,rfl,rfl,ho⟩,hl⟩
section
variable{P:XZ}{w:Xd}{H H':Hp}{h h':Heap}{a C dx:XU}{fs fs':List (Str×V)}
theorem HY(hok:HOk P w H h)(e:H a=some (.ins C dx fs)):∃ mA,ObjM h a dx C mA/\(∀ f,RelO (fs.lookup f) (mA f))/\PySem.Within mA (fs.map (·.1))/\fs.length<=1000/\H dx=some (.own a):=by
 obtain⟨d,z,ne,ob,mA,n,r,q⟩:=(show ObjOk P w H h a (.ins C dx fs) from hok a _ e)
 exact⟨mA,⟨ob,n,ne⟩,r,q,z,d⟩
end
structure Cls(K:U1)(C:XU):Prop where
 pg:PySem.W.plainGet K C Str.empty=true
 hd:PySem.W.hasDictIn K C=true
 po:PySem.W.plainOver K C=true
 sa:PySem.W.findIn K (.ref C) "__setattr__"=some (some (.builtin "object.__setattr__"))
theorem Cls.get{K:U1}{C:XU}(c:Cls K C)(f:Str):PySem.W.plainGet K C f=true:=c.pg
section
variable{X:Cx}{pq:List (XU×Obj)}{σ:St}{H:Hp}{s:XS}{A:Xg}{E:XR->XS->Prop}{Q:XR->XS->Prop}{c:XR}{b:Bool}
inductive TyOf(K:U1)(H:Hp):V->XR->Prop where
 | non:TyOf K H .non (.type "NoneType")
 | bl (x:Bool):TyOf K H (.bl x) (.type "bool")
 | int (i:Int):TyOf K H (.int i) (.type "int")
 | str (x:Str):TyOf K H (.str x) (.type "str")
 | flt (x:UInt64):TyOf K H (.flt x) (.type "float")
 | lst {a:XU} {xs:List V} (e:H a=some (.lst xs)):TyOf K H (.ref a) (.type "list")
 | frz {a:XU} {o:Obj} {xs:List V} (e:H a=some (.frz o (.lst xs))):TyOf K H (.ref a) (.type "list")
 | tup {a:XU} {xs:List V} (e:H a=some (.tup xs)):TyOf K H (.ref a) (.type "tuple")
 | dK {a:XU} {kvs:List (Key×V)} (e:H a=some (.dK kvs)):TyOf K H (.ref a) (.type "dict")
 | dT {a:XU} {kvs:List (List Key×V)} (e:H a=some (.dT kvs)):TyOf K H (.ref a) (.type "dict")
 | ins {a C dx:XU} {fs:List (Str×V)} (e:H a=some (.ins C dx fs)) (cl:Cls K C) (ha:PySem.W.findIn K (.ref C) "__class__"=some (some (.builtin "object.__class__")))
    (hn:PySem.W.specialIn K (.builtin "object.__class__") "__get__"=some (some (.builtin "getset_descriptor.__get__"))) (htk:PySem.W.takesIn K (.builtin "object.__class__")=some true)
    (hm:PySem.W.mroIn K C (.type "object")=some true):TyOf K H (.ref a) (.ref C)
theorem Iu{x:V}{u t:XR}(I:Inv X pq σ H s)(rx:RelV x u)(ty:TyOf X.K H x t)(e:PySem.W.kitOne X.K t c=some b)(h:∀ tk,Q (.bool b) {s with toks:=tk}):
 XW (XX X.prog X.w) A (call (.builtin "isinstance") [u,c]) Q E s:=by
 cases ty with
 | non=>cases(show u=Value.none from rx);exact PySem.W.kia_one PySem.W.kitx_none I.kIn True.intro e (λz=>nomatch z) h
 | bl y=>cases(show u=Value.bool y from rx);exact PySem.W.kia_one PySem.W.kitx_bool I.kIn True.intro e (λz=>nomatch z) h
 | int i=>obtain⟨t,q⟩:=(show ∃ t,u=Value.int i t from rx);cases q;exact PySem.W.kia_one PySem.W.kitx_int I.kIn True.intro e (λz=>nomatch z) h
 | str y=>obtain⟨t,q⟩:=(show ∃ t,u=Value.str y t from rx);cases q;exact PySem.W.kia_one PySem.W.kitx_str I.kIn True.intro e (λz=>nomatch z) h
 | flt y=>obtain⟨t,q⟩:=(show ∃ t,u=Value.float y t from rx);cases q;exact PySem.W.kia_one PySem.W.kitx_float I.kIn True.intro e (λz=>nomatch z) h
 | @lst a xs ea=>
   cases(show u=Value.ref a from rx);obtain⟨_,_,n,_,h1⟩:=(show ObjOk X.prog X.w H s.heap a (.lst xs) from I.hok a _ ea)
   exact PySem.W.kia_one PySem.W.kitx_list I.kIn ⟨_,h1,rfl⟩ e (λz=>nomatch z) h
 | @frz a ob xs ea=>
   cases(show u=Value.ref a from rx);obtain⟨_,_,_,n,_,h1⟩:=(show ObjOk X.prog X.w H s.heap a (.frz ob (.lst xs)) from I.hok a _ ea)
   exact PySem.W.kia_one PySem.W.kitx_list I.kIn ⟨_,h1,rfl⟩ e (λz=>nomatch z) h
 | @tup a xs ea=>
   cases(show u=Value.ref a from rx);obtain⟨_,_,_,p⟩:=(show ObjOk X.prog X.w H s.heap a (.tup xs) from I.hok a _ ea)
   obtain⟨o,h1,h2,_⟩:=p;exact PySem.W.kia_one PySem.W.kitx_tuple I.kIn ⟨o,h1,h2⟩ e (λz=>nomatch z) h
 | @dK a kvs ea=>
   cases(show u=Value.ref a from rx);obtain⟨_,_,vs,_,p⟩:=(show ObjOk X.prog X.w H s.heap a (.dK kvs) from I.hok a _ ea)
   obtain⟨o,es,ep,h1,h2,_⟩:=p;exact PySem.W.kia_one PySem.W.kitx_dict I.kIn ⟨o,h1,h2.1⟩ e (λz=>nomatch z) h
 | @dT a kvs ea=>
   cases(show u=Value.ref a from rx);obtain⟨_,_,xs,_,o,es,ep,h1,h2,_⟩:=(show ObjOk X.prog X.w H s.heap a (.dT kvs) from I.hok a _ ea)
   exact PySem.W.kia_one PySem.W.kitx_dict I.kIn ⟨o,h1,h2.1⟩ e (λz=>nomatch z) h
 | @ins a C dx fs ea cl ha hn htk hm=>
   cases(show u=Value.ref a from rx);obtain⟨mA,O,_⟩:=HY I.hok ea;obtain⟨od,J,_⟩:=O.look;exact PySem.W.kia_one (PySem.W.kitx_own (cl.get _) cl.hd ha hn htk hm) I.kIn J e (λz=>nomatch z) h
end
structure Room(k:Nat)(A:Xg):Prop where
 hd:A.handled=none
 dp:A.depth+3 * k+5<ZX
 un:A.units+16 * k+200<cLine
 gd:A.guards=some []
theorem Room.deeper{k:Nat}{A:Xg}(r:Room (k+1) A)(env:Env):Room k (A.deeper env):=
 ⟨r.hd,by have:=r.dp;show A.depth+1+3 * k+5<_;omega,by have:=r.un;show A.units+3+16 * k+200<_;omega,r.gd⟩
theorem Room.depth{k:Nat}{A:Xg}(r:Room k A):A.depth<ZX:=by have:=r.dp;omega
noncomputable def Q3:TA:=λ_ H Q=>Q [] H
noncomputable def Ep(ta:TE)(tr:TA):TA:=λσ H Q=>ta σ H λx H1=>tr σ H1 λxs H2=>Q (x::xs) H2
section
variable{X:Cx}{e:Expr}{es:List Expr}{te:TE}{t:TA}{pos:Pos}
theorem AC:PA X [] Q3:=λ_ _ _ _ H Q I h=>Calls.spliced_nil ⟨[],H,I,.nil,h⟩
theorem l9(ha:PE X e te)(hr:PA X es t)(hs:Xa (e::es) X.env=(false,eval e X.env)::Xa es X.env:=by rfl):PA X (e::es) (Ep te t):=by
 intro pos pq s σ H Q I h;rw[hs];show XW _ _ (spliced ((false,eval e X.env)::backTo pos (Xa es X.env))) _ _ s;refine Calls.spliced_cons (thn (ha pq s σ H _ I h) λu s1 ⟨x,H1,I1,r1,q1⟩=>?_);exact thn (hr pos pq s1 σ H1 _ I1 q1) λus s2 ⟨xs,H2,I2,r2,q2⟩=>⟨x::xs,H2,I2,.cons r1 r2,q2⟩
noncomputable def Rt(t:TA):TE:=λσ H Q=>t σ H λxs H1=>xs.length<=XY/\∀ p,H1 p=none->Q (.ref p) (upd H1 p (.tup xs))
noncomputable def Ru(t:TA):TE:=λσ H Q=>t σ H λxs H1=>xs.length<=XY/\∀ p,H1 p=none->Q (.ref p) (upd H1 p (.lst xs))
theorem Q4{x1}(h:PA X es t):PE X (.Tuple es x1 pos) (Rt t):=by
 intro pq s σ H Q I hq;refine wpAny_Tuple_spliced (thn (h pos pq s σ H _ I hq) λus s1 ⟨xs,H1,I1,r,z,q⟩=>⟨by rw[<-r.length];exact z,?_⟩);have hf:H1 s1.heap.objs.size=none:=I1.hok.fresh (U9 _);refine⟨.ref s1.heap.objs.size,upd H1 s1.heap.objs.size (.tup xs),I1.laid (t':=s1.toks) (λb u e=>U3 _ e) (U9 _) ?_,rfl,q _ hf⟩;exact⟨z,us,r,⟨_,U8 _ rfl,rfl,_,rfl⟩⟩
theorem Q5(h:PA X es t):PE X (.List es pos) (Ru t):=by
 intro pq s σ H Q I hq;refine wpAny_List_spliced (thn (h pos pq s σ H _ I hq) λus s1 ⟨xs,H1,I1,r,z,q⟩=>⟨by rw[<-r.length];exact z,?_⟩);have hf:H1 s1.heap.objs.size=none:=I1.hok.fresh (U9 _);refine⟨.ref s1.heap.objs.size,upd H1 s1.heap.objs.size (.lst xs),I1.laid (t':=s1.toks) (λb u e=>U3 _ e) (U9 _) ?_,rfl,q _ hf⟩;exact⟨z,us,0,r,U8 _ rfl⟩
end
noncomputable abbrev Sp:=List V->Hp->VK->XK->Prop
noncomputable abbrev CXT:=List Env->Hp->XS->XK->XR->XS->Prop
structure Env0(P:XZ)(w:Xd)(K:U1)(mg:Str->Option XR)(base:Heap)(A:Xg)(outer:List Env)(s:XS)(H:Hp):Prop where
 frames:A.frames=some outer
 mod:Mod K mg base
 bs:∀ b o,base.get? b=some o->s.heap.get? b=some o/\H b=none
 bsz:base.objs.size<=s.heap.objs.size
 funs:s.heap.FunFrames base outer
 frf:∀ b∈frs outer,H b=none
 hok:HOk P w H s.heap
 bare:AllBare s.gens
noncomputable def CE(outer:List Env)(P:XZ)(w:Xd)(H:Hp)(s:XS)(Q:VK)(u:XR)(s':XS):Prop:=
 ∃ v H',s'.os=s.os/\AllBare s'.gens/\Un (frs outer) [] H H' s.heap s'.heap/\HOk P w H' s'.heap/\RelV v u/\Q v H'
noncomputable def CR(CX:CXT)(outer:List Env)(P:XZ)(w:Xd)(H:Hp)(s:XS)(Q:VK)(E:XK)(r:Result)(s':XS):Prop:=
 match r with
 | .ok (.ret u)=>CE outer P w H s Q u s'
 | .ok _=>False
 | .error e=>CX outer H s E e s'
structure FnOk(P:XZ)(w:Xd)(K:U1)(mg:Str->Option XR)(base:Heap)(CX:CXT)(k:Nat)(f:XU)(fd:Y8)(ps:List Str)(sp:Sp):Prop where
 len:∀ vs H Q E,sp vs H Q E->vs.length=ps.length
 run:∀(A:Xg) (outer:List Env) (s:XS) (H:Hp) (args:Args) (us:List XR) (vs:List V) (Q:VK) (E:XK),Room k A->Env0 P w K mg base A outer s H->BindsTo s fd args (ps.zip us)->Vals vs us->sp vs H Q E->
  codeAny (XX P w) A (.call (.ref f) args) (CR CX outer P w H s Q E) s
section
variable{X:Cx}{pq:List (XU×Obj)}{σ:St}{H:Hp}{s s':XS}
theorem Inv.env0(I:Inv X pq σ H s):Env0 X.prog X.w X.K X.mg X.base X.A X.stack s H:=
 ⟨I.ok.frames,I.ok.mod,I.bs,UR I.ok.bsz I.sz,I.stack,I.stkFree,I.hok,I.bare⟩
theorem Inv.after{Q:VK}{u:XR}(I:Inv X pq σ H s)(h:CE X.stack X.prog X.w H s Q u s'):EP X pq σ Q u s':=by
 obtain⟨v,H',os,bare,un,hok,r,q⟩:=h;obtain⟨hh,g,d,t,os'⟩:=s';obtain rfl:os'=s.os:=os;exact⟨v,H',I.call (h':=hh) (g':=g) (d':=d) (t':=t) (ch:=[]) un hok bare (λb z=>absurd z (by simp)),r,q⟩
end
noncomputable def Oz(sp:Sp)(dvs:List V)(E:XK)(t:TA):TE:=λσ H Q=>t σ H λvs H1=>sp (vs++dvs) H1 Q E
noncomputable def Binds(K:U1)(fd:Y8)(ps:List Str)(ds:List XR):Prop:=
 ∀(s:XS) (us:List XR),K.In s.heap->(us++ds).length=ps.length->BindsTo s fd ⟨us,[]⟩ (ps.zip (us++ds))
theorem Binds.all{K:U1}{fd:Y8}{ps:List Str}(h:∀ us:List XR,us.length=ps.length->bindArgs fd ⟨us,[]⟩=pure (ps.zip us)):Binds K fd ps []:=λs us _ hl=>by
 rw[V8]at hl ⊢;exact .of_eq (h us hl)
noncomputable def G9(CX:CXT)(X:Cx)(E:XK):Prop:=∀(pq:List (XU×Obj)) (σ:St) (H:Hp) (s:XS) (e:XR) (s':XS),Inv X pq σ H s->CX X.stack H s E e s'->X.xe e s'
section
variable{X:Cx}{CX:CXT}{k:Nat}{f C:XU}{fd:Y8}{ps:List Str}{sp:Sp}{dvs:List V}{ds:List XR}{E:XK}{x m:Str}{p pos apos:Pos}{e o:Expr}{es:List Expr}{ta:TE}{t:TA}
theorem Q6{pq:List (XU×Obj)}{σ:St}{H:Hp}{s:XS}{Q:VK}{us:List XR}{vs:List V}(F:FnOk X.prog X.w X.K X.mg X.base CX k f fd ps sp)(hr:Room k X.A)(hb:Binds X.K fd ps ds)(hd:Vals dvs ds)(hx:G9 CX X E)
 (I:Inv X pq σ H s) (r:Vals vs us) (h:sp (vs++dvs) H Q E):XW (XX X.prog X.w) X.A (call (.ref f) us) (EP X pq σ Q) X.xe s:=by
 have r2:Vals (vs++dvs) (us++ds):=r.append hd;have hl:(us++ds).length=ps.length:=by rw[<-r2.length];exact F.len _ _ _ _ h
 refine ZY (Y1 (F.run X.A X.stack s H ⟨us,[]⟩ (us++ds) (vs++dvs) Q E hr I.env0 (hb s us I.kIn hl) r2 h) λr s' hq=>?_);cases r with
 | error e=>exact hx pq σ H s e s' I hq
 | ok fl=>
   cases fl with
   | ret u=>exact I.after hq
   | next=>exact False.elim hq
   | brk=>exact False.elim hq
   | cont=>exact False.elim hq
theorem N5(F:FnOk X.prog X.w X.K X.mg X.base CX k f fd ps sp)(hr:Room k X.A)(hg:Gl X x)(hm:X.mg x=some (.ref f))(hk:PySem.W.keepIn X.K (.ref f)=true)(hb:Binds X.K fd ps ds)(hd:Vals dvs ds)(hx:G9 CX X E)
 (ha:PA X (e::es) t) (hdb:(x == ("__debug__":Str))=false:=by decide) (he:Xa (e::es) X.env=(false,eval e X.env)::Xa es X.env:=by rfl) (hpl:(backTo pos (Xa es X.env)).any (·.1)=false:=by rfl):
 PE X (.Call (.Name x p) (e::es) [] pos) (Oz sp dvs E t):=by
 intro pq s σ H Q I h;refine Xl (Mv I hg hm ?_ hdb);refine PySem.W.callWith_K (h₀:=X.base) I.ok.mod.kin hk (thn (ha pos pq s σ H _ I h) λus s1 ⟨vs,H1,I1,r,q⟩=>⟨I1.kIn,?_⟩) he hpl;exact Q6 F hr hb hd hx I1 r q
end
noncomputable def PK(X:Cx)(kws:List Keyword)(t:TA):Prop:=
 ∀(pos:Pos) (pq:List (XU×Obj)) (s:XS) (σ:St) (H:Hp) (Q:List V->Hp->Prop),Inv X pq σ H s->t σ H Q->XW (XX X.prog X.w) X.A (evalAll ((YU pos (YB kws X.env)).map (·.2))) (AP X pq σ Q) X.xe s
section
variable{X:Cx}{CX:CXT}{k:Nat}{f C:XU}{fd:Y8}{ps ks:List Str}{sp:Sp}{E:XK}{x m:Str}{p pos apos kpos:Pos}{e o:Expr}{es:List Expr}{kws:List Keyword}{te ta:TE}{t tk:TA}{nm:Option Str}
theorem Q7:PK X [] Q3:=λ_ _ _ _ H Q I h=>wpAny_evalAll_nil ⟨[],H,I,.nil,h⟩
theorem N6(ha:PE X e te)(hr:PK X kws t):PK X (⟨nm,e,kpos⟩::kws) (Ep te t):=by
 intro pos pq s σ H Q I h;show XW _ _ (evalAll ((do let v <- eval e X.env;standAt pos;pure v)::(YU pos (YB kws X.env)).map (·.2))) _ _ s;refine wpAny_evalAll_cons (XQ (thn (ha pq s σ H _ I h) λu s1 ⟨x,H1,I1,r1,q1⟩=>XQ (YQ (XT ?_))));exact thn (hr pos pq s1 σ H1 _ I1 q1) λus s2 ⟨xs,H2,I2,r2,q2⟩=>⟨x::xs,H2,I2,.cons r1 r2,q2⟩
variable{g:List XR->List XR->List XR}{gV:List V->List V->List V}
end
structure FnScope(N P:List Str)(sc:Xf):Prop where
 kind:sc.kind = .function
 co:sc.isCoroutine=false
 gen:sc.isGenerator=false
 nd:N.Nodup
 pre:N.take P.length=P
 par:∀ x∈P,sc.names.lookup x=some .local\/sc.names.lookup x=some .cell
 nofree:∀ y∈sc.names,y.2 ≠ .free
theorem DV{kindOf:Str->Option Xt}{x:Str}:∀{binds:List (Str×XR)} {m:Str->Option XR},(∀ v,(x,v)∉binds)->bindL kindOf binds m x=m x
 | [],_,_=>rfl
 | (n,v)::r,m,h=>by
   unfold bindL;rw[DV λw hw=>h w (UE _ hw)];split
   ·have:x≠n:=by rintro rfl;exact h v UG
    simp[this]
   ·rfl
theorem DW{kindOf:Str->Option Xt}{x:Str}:∀{binds:List (Str×XR)} {m:Str->Option XR},(∀ v,(x,v)∉binds)->bindC kindOf binds m x=m x
 | [],_,_=>rfl
 | (n,v)::r,m,h=>by
   unfold bindC;rw[DW λw hw=>h w (UE _ hw)];split
   ·rfl
   ·have:x≠n:=by rintro rfl;exact h v UG
    simp[this]
theorem DX{kindOf:Str->Option Xt}{x:Str}{v:XR}:∀{P:List Str} {vs:List XR} {i:Nat} {m:Str->Option XR},P.Nodup->P[i]?=some x->vs[i]?=some v->kindOf x=some .local->
 bindL kindOf (P.zip vs) m x=some v
 | [],_,_,_,_,h,_,_=>by simp at h
 | _::_,[],_,_,_,_,h,_=>by simp at h
 | p::P,w::vs,0,m,nd,h1,h2,hk=>by
   simp at h1 h2;subst h1;subst h2;show bindL kindOf ((p,w)::P.zip vs) m p=_;unfold bindL;rw[DV λv hv=>(VP.mp nd).1 (VQ hv).1,iP hk];simp
 | p::P,w::vs,i+1,m,nd,h1,h2,hk=>by
   show bindL kindOf ((p,w)::P.zip vs) m x=_;unfold bindL;exact DX (i:=i) (VP.mp nd).2 (by simpa using h1) (by simpa using h2) hk
theorem DY{kindOf:Str->Option Xt}{x:Str}{v:XR}:∀{P:List Str} {vs:List XR} {i:Nat} {m:Str->Option XR},P.Nodup->P[i]?=some x->vs[i]?=some v->kindOf x≠some .local->
 bindC kindOf (P.zip vs) m x=some v
 | [],_,_,_,_,h,_,_=>by simp at h
 | _::_,[],_,_,_,_,h,_=>by simp at h
 | p::P,w::vs,0,m,nd,h1,h2,hk=>by
   simp at h1 h2;subst h1;subst h2;show bindC kindOf ((p,w)::P.zip vs) m p=_;unfold bindC;rw[DW λv hv=>(VP.mp nd).1 (VQ hv).1,iG hk];simp
 | p::P,w::vs,i+1,m,nd,h1,h2,hk=>by
   show bindC kindOf ((p,w)::P.zip vs) m x=_;unfold bindC;exact DY (i:=i) (VP.mp nd).2 (by simpa using h1) (by simpa using h2) hk
noncomputable def start(N:List Str)(vs:List V):St:=vs.map some++UO (N.length - vs.length) none
noncomputable def GA(CX:CXT)(P:XZ)(w:Xd)(K:U1)(mg:Str->Option XR)(base:Heap)(N:List Str)(qual:Str)(scope:Xf)(f:XU)(cd:XR)(A:Xg)(outer:List Env)(s:XS)(H:Hp)(E:XK):Cx where
 prog:=P
 w:=w
 K:=K
 mg:=mg
 base:=base
 A:=A.deeper (envOfC qual scope s.heap.objs.size f cd)
 N:=N
 s₀:=s
 H₀:=H
 env:=envOfC qual scope s.heap.objs.size f cd
 outer:=outer
 stack:=envOfC qual scope s.heap.objs.size f cd::outer
 ex:=[]
 calm:=true
 fn:=λ_=>true
 pn:=[]
 xe:=λe s'=>XW (XX P w) (A.deeper (envOfC qual scope s.heap.objs.size f cd)) (leaving (envOfC qual scope s.heap.objs.size f cd) e) (λ_ s''=>CX outer H s E e s'') (λe' s''=>CX outer H s E e' s'') s'
theorem Er{sc:Xf}{n:Nat}{x:Str}(h:sc.names.lookup x=some .cell):∃ c,(Xu n sc.names []).lookup x=some c:=by
 have q:=PySem.W.cellsFrom_some sc.names n [] (.inl h);exact V1.mp q
theorem Iv{CX:CXT}{P:XZ}{w:Xd}{K:U1}{mg:Str->Option XR}{base:Heap}{N ps:List Str}{qual:Str}{scope:Xf}{f:XU}{cd:XR}{A:Xg}{outer:List Env}{s s1:XS}{H:Hp}{E:XK}{us:List XR}{vs:List V}
 (S:FnScope N ps scope) (hd:A.handled=none) (e0:Env0 P w K mg base A outer s H) (hl:vs.length=ps.length) (r:Vals vs us)
 (x:InCallC s s.heap.objs.size (bindL (envOfC qual scope s.heap.objs.size f cd).kindOf (ps.zip us) λ_=>none) (Xu (s.heap.objs.size+1) scope.names []) (bindC (envOfC qual scope s.heap.objs.size f cd).kindOf (ps.zip us) λ_=>none) s1):
 Inv (GA CX P w K mg base N qual scope f cd A outer s H E) [] (start N vs) H s1:=by
 have hpl:ps.length<=N.length:=by have:=congrArg WX S.pre;rw[Uo]at this;omega
 obtain⟨h1,tk,rfl,hk⟩:=x.done;have noA:∀ b:XU,b∉(GA CX P w K mg base N qual scope f cd A outer s H E).ex:=λb z=>absurd (show b∈([]:List XU) from z) (by simp)
 refine⟨⟨e0.mod,S.kind,rfl,rfl,U9 _,λy z c h1 h2=>?_,λy hy=>?_,λy c _ h=>?_,λ_=>hd,Around.frames_deeper e0.frames,.inr ⟨rfl,rfl⟩,λb z=>absurd z (noA b),e0.bs,e0.bsz,λb _ _=>noA b,λb z=>absurd z (noA b),e0.funs,e0.frf⟩,
  rfl,e0.bare,Un.kept hk,⟨_,x.toInCall.ns,λi y v h1 h2 h3=>?_⟩,λy c h=>⟨_,x.cell y c h⟩,e0.hok.fresh (U9 _),λy c h=>?_,λp hp=>absurd (show p∈([]:List (XU×Obj)) from hp) (by simp),e0.hok.kept hk,?_⟩
 ·exact name_of_addr x.apart (PySem.mem_of_lookup h1) (PySem.mem_of_lookup h2)
 ·have hy:scope.names.lookup y=some .cell\/scope.names.lookup y=some .free:=hy;rcases hy with hy | hy
  ·exact Er hy
  ·exact absurd rfl (S.nofree _ (PySem.mem_of_lookup hy))
 ·exact Vb (x.above y c (PySem.mem_of_lookup h))
 ·have hi:i<vs.length:=by
   unfold start at h2;by_cases hi:i<vs.length
   ·exact hi
   ·rw[Uj (by simpa using hi)]at h2;rw[V3]at h2;split at h2<;>cases h2
  have ha:vs[i]?=some v:=by
   unfold start at h2;rw[UM (by simpa using hi),UJ]at h2;cases e:vs[i]? with
   | none=>rw[e]at h2;cases h2
   | some a=>rw[e]at h2;cases h2;rfl
  obtain⟨u,hu,rv⟩:=r.get ha
  have hp:ps[i]?=some y:=by
   rw[<-S.pre,W7 (by omega)];exact h1
  have ndP:ps.Nodup:=by rw[<-S.pre];exact S.nd.sublist (List.take_sublist _ _)
  refine⟨u,rv,?_⟩;rcases S.par y (UC hp) with k | k
  ·exact .inl ⟨k,DX ndP hp hu k⟩
  ·obtain⟨c,e⟩:=Er (n:=s.heap.objs.size+1) k;refine .inr ⟨.inl k,c,e,?_⟩;have q:=x.cell y c e;rw[DY ndP hp hu (by show scope.names.lookup y≠_;rw[k];decide)]at q;exact q
 ·exact e0.hok.fresh (Vb (x.above y c (PySem.mem_of_lookup h)))
 ·unfold start;show _=N.length;rw[UD,U4,Vm];omega
theorem Rv{CX:CXT}{P:XZ}{w:Xd}{K:U1}{mg:Str->Option XR}{base:Heap}{k:Nat}{f:XU}{name qual:Str}{params:Arguments}{body:List Stmt}{scope:Xf}{dV kV doc pm cdv ct oc:XR}{an od:Option XU}
 {osl:Array (Option XR)} {N ps:List Str} {sp:Sp} (lk:K.lookup f=some ⟨oc,od,.func (PySem.W.fnOf name qual params body scope dV kV doc pm an cdv ct),osl⟩) (hcd:PySem.W.codeIn K cdv qual=true) (S:FnScope N ps scope)
 (len:∀ vs H Q E,sp vs H Q E->vs.length=ps.length)
 (hbody:∀(A:Xg) (outer:List Env) (s:XS) (H:Hp) (vs:List V) (Q:VK) (E:XK),Room k (A.deeper (envOfC qual scope s.heap.objs.size f cdv))->sp vs H Q E->
   ∃ t,PSs (GA CX P w K mg base N qual scope f cdv A outer s H E) body t/\t {nx:=λ_ H'=>Q .non H',rt:=Q} (start N vs) H):
 FnOk P w K mg base CX (k+1) f (PySem.W.fnOf name qual params body scope dV kV doc pm an cdv ct) ps sp:=by
 refine⟨len,λA outer s H args us vs Q E hr e0 hb r hsp=>?_⟩;have hl:=len _ _ _ _ hsp;have KX:K.In s.heap:=e0.mod.kin.keeps λb o e=>(e0.bs b o e).1;have lim:s.heap.NoLimit:=e0.mod.nolimit.keeps λb o e=>(e0.bs b o e).1
 have hkind:∀ y∈ps.zip us,scope.names.lookup y.1=some .local\/(scope.names.lookup y.1=some .cell/\((Xu (s.heap.objs.size+1) scope.names []).lookup y.1).isSome=true):=λ⟨n,v⟩ hy=>by
  rcases S.par n (VQ hy).1 with q | q
  ·exact .inl q
  ·exact .inr ⟨q,PySem.W.cellsFrom_some _ _ _ (.inl q)⟩
 refine codeAny_call_function hr.depth (KX _ _ lk) rfl S.co S.gen rfl (PySem.W.codeRec_of KX hcd) (hb _ _ _ _ ?_);refine wpAny_newFunctionEnv_cells S.kind hkind λenv he s1 x=>?_;subst he;refine⟨lim.keeps x.toInCall.keep,codeAny_func ?_⟩;obtain⟨t,ht,hq⟩:=hbody A outer s H vs Q E (hr.deeper _) hsp;have I:Inv (GA CX P w K mg base N qual scope f cdv A outer s H E) [] (start N vs) H s1:=Iv S hr.hd e0 hl r x;refine YA (ht [] s1 (start N vs) H _ I hq) (λfl s' hs=>?_) λe s' hs=>hs
 have fin:∀{σ':St} {H':Hp} {v:V} {u:XR},Inv (GA CX P w K mg base N qual scope f cdv A outer s H E) [] σ' H' s'->RelV v u->Q v H'->CE outer P w H s Q u s':=
  λ{σ' H' v u} J rv q=>⟨v,H',J.os,J.bare,J.base,J.hok,rv,q⟩
 cases fl with
 | ret u=>
   obtain⟨v,σ',H',J,rv,q⟩:=hs;exact fin J rv q
 | next=>
   obtain⟨σ',H',J,q⟩:=hs;exact fin (v:=V.non) (u:=Value.none) J rfl q
 | brk=>
   obtain⟨_,_,_,q⟩:=hs;exact False.elim q
 | cont=>
   obtain⟨_,_,_,q⟩:=hs;exact False.elim q
section
variable{X:Cx}{x:Str}{p pos:Pos}{e:Expr}{es:List Expr}{t:TA}{id T:String}{r:List V->Hp->VK->Prop}
noncomputable def tCB(r:List V->Hp->VK->Prop)(t:TA):TE:=λσ H Q=>t σ H λvs H1=>r vs H1 Q
theorem t7(hc:CallR X (.builtin id) r)(hg:Gl X x)(hm:X.mg x=none)(hv:Xb x=some (.builtin id))(ha:PA X (e::es) t)(hn:x≠"__name__":=by decide)(hdb:(x == ("__debug__":Str))=false:=by decide)
 (he:Xa (e::es) X.env=(false,eval e X.env)::Xa es X.env:=by rfl) (hpl:(backTo pos (Xa es X.env)).any (·.1)=false:=by rfl):PE X (.Call (.Name x p) (e::es) [] pos) (tCB r t):=by
 intro pq s σ H Q I h;refine Xl (v7 I hg hm hv ?_ hn hdb);exact PyProof.Rows.callWith_builtin1 (thn (ha pos pq s σ H _ I h) λus s1 ⟨vs,H1,I1,r1,q1⟩=>hc pq s1 σ H1 vs us Q I1 r1 q1) he hpl
theorem t6(hc:CallR X (.type T) r)(hg:Gl X x)(hm:X.mg x=none)(hv:Xb x=some (.type T))(ha:PA X (e::es) t)(hn:x≠"__name__":=by decide)(hdb:(x == ("__debug__":Str))=false:=by decide)
 (he:Xa (e::es) X.env=(false,eval e X.env)::Xa es X.env:=by rfl) (hpl:(backTo pos (Xa es X.env)).any (·.1)=false:=by rfl):PE X (.Call (.Name x p) (e::es) [] pos) (tCB r t):=by
 intro pq s σ H Q I h;refine Xl (v7 I hg hm hv ?_ hn hdb);exact PyProof.Rows.callWith_type1 (thn (ha pos pq s σ H _ I h) λus s1 ⟨vs,H1,I1,r1,q1⟩=>hc pq s1 σ H1 vs us Q I1 r1 q1) he hpl
end
end L2
namespace HT
open PySem PyProof.Rows
noncomputable def lexLt:List Int->List Int->Bool
 | [],[]=>false
 | [],_::_=>true
 | _::_,[]=>false
 | x::xs,y::ys=>if x=y then lexLt xs ys else decide (x<y)
theorem GB(x y:Int)(xs ys:List Int):lexLt (x::xs) (y::ys)=if x=y then lexLt xs ys else decide (x<y):=rfl
theorem DE:lexLt [] []=false:=rfl
theorem CT(y:Int)(ys:List Int):lexLt [] (y::ys)=true:=rfl
theorem CU(x:Int)(xs:List Int):lexLt (x::xs) []=false:=rfl
theorem KP(A:Xg)(s:XS)(a:Int)(t:Tok)(c:Int)(u:Tok):∃ e,SeqAt.EqAt A s (.int a t) (.int c u) e/\(e=true↔a=c):=
 ⟨(a == c),SeqAt.EqAt.int_int a t c u,by simp⟩
theorem KQ(A:Xg)(s:XS)(a:Int)(t:Tok)(c:Int)(u:Tok)(prog:XZ)(w:Xd)(E:XR->XS->Prop)(Q:XR->XS->Prop)(h:Q (.bool (decide (a<c))) s):
 XW (XX prog w) A (Ya .Lt (.int a t) (.int c u)) Q E s:=
 (PyProof.Rows.lt_int h:XW (XX prog w) A (Xe .Lt (.int a t) (.int c u)) Q E s)
section
open PySem.SeqAt
open PySem.AutoSeq1 (wpAny_loadPart')
open PySem.MeetsSeq PySem.MeetsSeq2 PySem.MeetsSeq3
theorem DF(l b:XU)(items items2:Array XR)(n n2:Nat)(dd dd2:Option XU)(sl sl2:Array (Option XR))(ns ms:List Int)(hi:IntsAre items.toList ns)(hj:IntsAre items2.toList ms):
 Meets (Builtin.«tuple.__lt__» ⟨[.ref l,.ref b],[]⟩)
  (λ_ R s=>s.heap.get? l=some {cls := .type "tuple",dict:=dd,data := .seq items n,slots:=sl}/\s.heap.get? b=some {cls := .type "tuple",dict:=dd2,data := .seq items2 n2,slots:=sl2}/\
    R (.ok (.ret (.bool (lexLt ns ms)))) s):=
 .of_wp λprog w A R s h=>by
  obtain⟨hp,g,d,tk,os⟩:=s;obtain⟨hl,hb,h⟩:=h;have f2:=AutoSeq1.sub_tuple_tuple;have z1:items.size=ns.length:=by rw[<-hi.length];simp
  have z2:items2.size=ms.length:=by rw[<-hj.length];simp
  wp_walk using wpAny_loadPart' hl,wpAny_loadPart' hb,wpAny_forIn_list _ (λrest b s'=>b.1=none/\s'=⟨hp,g,d,tk,os⟩/\∃(vs ws:List XR) (ns' ms':List Int),rest=vs.zip ws/\
   IntsAre vs ns'/\IntsAre ws ms'/\ns'.length+items2.size=ms'.length+items.size/\R (.ok (.ret (.bool (lexLt ns' ms')))) ⟨hp,g,d,tk,os⟩) _
  case turn=>
   rintro⟨y,x⟩ rest b s' ⟨hb',rfl,vs,ws,ns',ms',hz,hvi,hwi,hlen,hR⟩;cases hvi with
   | nil=>rw[List.zip_nil_left]at hz;cases hz
   | cons a t hvi'=>
     cases hwi with
     | nil=>rw[List.zip_nil_right]at hz;cases hz
     | cons c u hwi'=>
       rw[Wh]at hz;injection hz with hyx hrest;injection hyx with hy hx;subst hy hx;rw[GB]at hR;simp only[Uq]at hlen;obtain⟨e,he,hiff⟩:=KP A.in1 ⟨hp,g,d,tk,os⟩ a t c u;refine XQ (he prog w _ _ ?_);cases e with
       | true=>
         rw[iP (hiff.mp rfl)]at hR
         wp_walk
         exact⟨rfl,rfl,_,_,_,_,hrest,hvi',hwi',by omega,hR⟩
       | false=>
         rw[iG (λq=>absurd (hiff.mpr q) UB)]at hR;have hri:=KQ A.in1 ⟨hp,g,d,tk,os⟩ a t c u prog w
         wp_walk using hri
         exact⟨_,rfl,by simpa using hR⟩
  case fin=>
   rintro⟨b1,b2⟩ s' ⟨hb',rfl,vs,ws,ns',ms',hz,hvi,hwi,hlen,hR⟩;simp only at hb';subst hb'
   have hv:lexLt ns' ms'=decide (items.size<items2.size):=by
    cases hvi with
    | nil=>
      cases hwi with
      | nil=>
        simp only[V9]at hlen;rw[DE];exact(decide_eq_false (by omega)).symm
      | cons c u hw=>
        simp only[V9,Uq]at hlen;rw[CT];exact(decide_eq_true (by omega)).symm
    | cons a t hv=>
      cases hwi with
      | nil=>
        simp only[V9,Uq]at hlen;rw[CU];exact(decide_eq_false (by omega)).symm
      | cons c u hw=>
        rw[Wh]at hz;cases hz
   rw[hv]at hR
   wp_walk
   exact⟨_,rfl,by simpa[Builtin.Tuple.tupleCompareSizes] using hR⟩
  case h=>
   exact⟨rfl,rfl,items.toList,items2.toList,ns,ms,rfl,hi,hj,by omega,h⟩
end
section
variable{prog:XZ}{w:Xd}{A:Xg}{E:XR->XS->Prop}{s:XS}
theorem lt_tupInts{l b:XU}{items items2:Array XR}{ns ms:List Int}{Q:XR->XS->Prop}(hl:IsTup s.heap l items)(hb:IsTup s.heap b items2)(hi:IntsAre items.toList ns)(hj:IntsAre items2.toList ms)
 (hu:A.units<cLine) (h:Q (.bool (lexLt ns ms)) s):XW (XX prog w) A (Xe .Lt (.ref l) (.ref b)) Q E s:=by
 obtain⟨⟨cls,dd,data,sl⟩,ho,hc,n,hd⟩:=id hl;obtain⟨⟨cls2,dd2,data2,sl2⟩,ho2,hc2,n2,hd2⟩:=id hb;simp only at hc hd hc2 hd2;subst hc hd hc2 hd2
 exact richCompare_meets_room (op := .Lt) ⟨_,ho,rfl⟩ ⟨_,ho2,rfl⟩ PySem.F.slot_tuple_lt PySem.F.entry_tuple_lt (PySem.F.args_tuple_lt_2 _ _) (DF l b items items2 n n2 dd dd2 sl sl2 ns ms hi hj)
  ⟨ho,ho2,show Value.bool (lexLt ns ms)≠Value.notImplemented/\Q (.bool (lexLt ns ms)) s from ⟨(λx=>nomatch x),h⟩⟩ hu
noncomputable def sIx(n d:Nat):Option Int->Nat
 | none=>d
 | some v=>if v<0 then (v+(n:Int)).toNat else min v.toNat n
theorem sIx_none(n d:Nat):sIx n d none=d:=rfl
theorem sIx_nat(n d k:Nat):sIx n d (some (k:Int))=min k n:=by
 show(if (k:Int)<0 then ((k:Int)+(n:Int)).toNat else min (k:Int).toNat n)=min k n;rw[iG (by omega),VD]
theorem Q8(n d:Nat)(hd:d<=n)(o:Option Int):sIx n d o<=n:=by
 cases o with
 | none=>exact hd
 | some v=>
   show(if v<0 then (v+(n:Int)).toNat else min v.toNat n)<=n;by_cases hv:v<0
   ·rw[iP hv];omega
   ·rw[iG hv];exact Nat.min_le_right _ _
theorem HZ(v:Int)(n d:Nat):(if v<0 then max (v+(n:Int)) 0 else min v (n:Int))=((sIx n d (some v):Nat):Int):=by
 show(if v<0 then max (v+(n:Int)) 0 else min v (n:Int))=(((if v<0 then (v+(n:Int)).toNat else min v.toNat n):Nat):Int)
 by_cases hv:v<0
 ·simp only[iP hv];omega
 ·simp only[iG hv];omega
theorem GC(lo hi:Option Int)(n:Nat):Builtin.Slice.sliceAdjust lo hi 1 (n:Int)=(((sIx n 0 lo:Nat):Int),((sIx n n hi:Nat):Int)):=by
 have h1:¬ ((1:Int)<0):=by omega
 unfold Builtin.Slice.sliceAdjust;simp only[h1,if_false];refine Prod.ext ?_ ?_
 ·cases lo with
  | none=>rfl
  | some v=>exact HZ v n 0
 ·cases hi with
  | none=>rfl
  | some v=>exact HZ v n n
theorem GD(i j:Nat):Builtin.Slice.slicePlaces (i:Int) (j:Int) 1=j - i:=by
 unfold Builtin.Slice.slicePlaces;have h1:(1:Int)>0:=by omega
 simp only[h1,if_true,Int.ediv_one];split<;>omega
theorem CV{v:XR}{o:Option Int}{Q:Option Int->XS->Prop}(p:IsPart v o)(h:Q o s):XW (XX prog w) A (Builtin.Slice.slicePartIndex v) Q E s:=by
 cases p with
 | none=>exact ZZ h
 | int i t=>exact slicePart_int h
theorem AW{sl:XU}{vl vu:XR}{lo hi:Option Int}{n:Nat}{Q:Int×Int×Nat->XS->Prop}(hs:s.heap.IsSliceOf sl vl vu .none)(pl:IsPart vl lo)(pu:IsPart vu hi)
 (h:Q (((sIx n 0 lo:Nat):Int),1,sIx n n hi - sIx n 0 lo) s):XW (XX prog w) A (Builtin.Slice.sliceApplied (.ref sl) (pure (n:Int))) Q E s:=by
 obtain⟨os,hos,hcs,hds⟩:=id hs;unfold Builtin.Slice.sliceApplied Builtin.Slice.sliceFields;refine XQ (XQ (Xo hos hds (x:=vl) rfl (XQ (Xo hos hds (x:=vu) rfl (XQ (Xo hos hds (x := .none) rfl (XT ?_)))))));refine XQ (ZZ ?_);show XW _ _ (if ((1:Int) == 0)=true then _ else _) _ _ s;rw[iG (by decide)];refine XQ (CV pl (XQ (CV pu (XQ (XT ?_)))));show XW _ _ (match Builtin.Slice.sliceAdjust lo hi 1 (n:Int) with | (lo,hi)=>pure (lo,(1:Int),Builtin.Slice.slicePlaces lo hi 1)) _ _ s;rw[GC lo hi n];show XW _ _ (pure (((sIx n 0 lo:Nat):Int),(1:Int),Builtin.Slice.slicePlaces ((sIx n 0 lo:Nat):Int) ((sIx n n hi:Nat):Int) 1)) _ _ s;rw[GD];exact XT h
theorem KR(xs:Array XR)(i k:Nat):((U7 k).filterMap λ(m:Nat)=>xs[((i:Int)+(m:Int) * 1).toNat]?).toArray=((xs.toList.drop i).take k).toArray:=by
 have e:(λ(m:Nat)=>xs[((i:Int)+(m:Int) * 1).toNat]?)=λm=>xs[i+m]?:=by
  funext m
  have:((i:Int)+(m:Int) * 1).toNat=i+m:=by omega
  rw[this]
 rw[e];have:=pick_run xs i k;rw[List.filterMap_map]at this;have e2:((λx=>xs[x]?)∘λx=>i+x)=λm=>xs[i+m]?:=rfl;rw[e2]at this;rw[this]
theorem getItem_tuple_cut{t sl:XU}{items:Array XR}{vl vu:XR}{lo hi:Option Int}{Q:XR->XS->Prop}(ht:IsTup s.heap t items)(hs:s.heap.IsSliceOf sl vl vu .none)(pl:IsPart vl lo)(pu:IsPart vu hi)
 (hw:¬ (sIx items.size 0 lo=0/\sIx items.size items.size hi=items.size))
 (h:Q (.ref s.heap.objs.size) {s with heap:=s.heap.push {cls := .type "tuple",data := .seq ((items.toList.drop (sIx items.size 0 lo)).take (sIx items.size items.size hi - sIx items.size 0 lo)).toArray}})
 (hsz:items.size<=XY):XW (XX prog w) A (getItem (.ref t) (.ref sl)) Q E s:=by
 have htake:sizeOk (.seq ((items.toList.drop (sIx items.size 0 lo)).take (sIx items.size items.size hi - sIx items.size 0 lo)).toArray):=by
  show((items.toList.drop (sIx items.size 0 lo)).take (sIx items.size items.size hi - sIx items.size 0 lo)).toArray.size<=XY;rw[U6,Uo,VU,Ur];omega
 have hj:sIx items.size items.size hi<=items.size:=Q8 _ _ (U9 _) hi;obtain⟨os,hos,hcs,hds⟩:=id hs;have hTs:s.TypeIs (.ref sl) "slice":=⟨os,hos,hcs⟩
 unfold getItem
 try with_reducible refine Xn ?_
 first | refine XQ (XT ?_) | skip
 refine XQ (ZC ht.typeIs (by decide) ?_)
 refine XQ (Xj (name:=Str.ofString "__getitem__") ht.typeIs PyProof.Rows.slot_tuple_getitem
  (Xk PyProof.Rows.slot_tuple_getitem ht.typeIs Z4 ?_ (Z8 _ _)))
 show XW _ _ (Builtin.Tuple.tupleItemsOf (.ref t) >>= _) _ _ s;refine XQ (tupleItemsOf_ ht ?_);refine XQ (YS hTs ?_);rw[iP (by decide)];refine XQ (AW hs pl pu ?_)
 have hno:¬ ((((sIx items.size 0 lo:Nat):Int) == 0&&(1:Int) == 1&&(sIx items.size items.size hi - sIx items.size 0 lo) == items.size)=true):=by
  intro q;rw[U2,U2]at q;have q1:((sIx items.size 0 lo:Nat):Int)=0:=eq_of_beq q.1.1;have q2:sIx items.size items.size hi - sIx items.size 0 lo=items.size:=eq_of_beq q.2;exact hw ⟨by omega,by omega⟩
 show XW _ _ (if (((sIx items.size 0 lo:Nat):Int) == 0&&(1:Int) == 1&&(sIx items.size items.size hi - sIx items.size 0 lo) == items.size)=true then _ else _) _ _ s;rw[iG hno,KR]
 first
  | exact XQ (m:=Builtin.Tuple.tupleExact _) (Xh (XT ⟨_,rfl,XT h⟩) htake)
  | exact XQ (m:=Builtin.Tuple.tupleExact _) (Xh (XQ (XT (XT ⟨_,rfl,XT h⟩))) htake)
  | exact XQ (XQ (m:=Builtin.Tuple.tupleExact _) (Xh (XT (XT ⟨_,rfl,XT h⟩)) htake))
  | exact XQ (XQ (m:=Builtin.Tuple.tupleExact _) (Xh (XT ⟨_,rfl,XT h⟩) htake))
end
end HT
namespace L2
open PySem PySem.Spec PyProof.Rows
noncomputable abbrev TO:=St->Hp->(Option Int->Hp->Prop)->Prop
noncomputable def PO(X:Cx)(e:Option Expr)(t:TO):Prop:=
 ∀(pq:List (XU×Obj)) (s:XS) (σ:St) (H:Hp) (Q:Option Int->Hp->Prop),Inv X pq σ H s->t σ H Q->
  XW (XX X.prog X.w) X.A (evalPart e X.env) (λu s'=>∃ o H',Inv X pq σ H' s'/\IsPart u o/\Q o H') X.xe s
noncomputable def N7:TO:=λ_ H Q=>Q none H
noncomputable def Rw(t:TE):TO:=λσ H Q=>t σ H λx H1=>∃ i,x = .int i/\Q (some i) H1
section
variable{X:Cx}{e:Expr}{te:TE}{lo hi:Option Expr}{tl th:TO}{pos p2:Pos}
theorem N8:PO X none N7:=by
 intro pq s σ H Q I h;rw[evalPart_none];exact XT ⟨none,H,I,.none,h⟩
theorem N9(h:PE X e te):PO X (some e) (Rw te):=by
 intro pq s σ H Q I hw;rw[evalPart_some];refine thn (h pq s σ H _ I hw) λu s1 ⟨x,H1,I1,r1,q1⟩=>?_;obtain⟨i,rfl,q⟩:=q1;obtain⟨t,rfl⟩:=r1;exact⟨some i,H1,I1,.int i t,q⟩
noncomputable def SlR(X:Cx)(r:V->Option Int->Option Int->Hp->VK->Prop):Prop:=
 ∀(pq:List (XU×Obj)) (s:XS) (σ:St) (H:Hp) (x:V) (v vl vu:XR) (lo hi:Option Int) (sl:XU) (Q:VK),Inv X pq σ H s->RelV x v->s.heap.IsSliceOf sl vl vu .none->IsPart vl lo->IsPart vu hi->r x lo hi H Q->
  ∃ T id,typeLookup (.type T) "__getitem__"=pure (some (.builtin id))/\s.TypeIs v T/\XW (XX X.prog X.w) X.A (getItem v (.ref sl)) (EP X pq σ Q) X.xe s
theorem SlR.or{r r':V->Option Int->Option Int->Hp->VK->Prop}(h:SlR X r)(h':SlR X r'):SlR X (λx lo hi H Q=>r x lo hi H Q\/r' x lo hi H Q):=by
 intro pq s σ H x v vl vu lo hi sl Q I rx hs pl pu q;rcases q with q | q
 ·exact h pq s σ H x v vl vu lo hi sl Q I rx hs pl pu q
 ·exact h' pq s σ H x v vl vu lo hi sl Q I rx hs pl pu q
noncomputable def tSl(r:V->Option Int->Option Int->Hp->VK->Prop)(te:TE)(tl th:TO):TE:=λσ H Q=>te σ H λx H1=>tl σ H1 λl H2=>th σ H2 λu H3=>r x l u H3 Q
theorem KS{r:V->Option Int->Option Int->Hp->VK->Prop}(hr:SlR X r)(he:PE X e te)(hl:PO X lo tl)(hu:PO X hi th):PE X (.Subscript e (.Slice lo hi none p2) pos) (tSl r te tl th):=by
 intro pq s σ H Q I h;refine Subscript_ (thn (he pq s σ H _ I h) λv s1 ⟨x,H1,I1,r1,q1⟩=>?_);refine wpAny_Slice (thn (hl pq s1 σ H1 _ I1 q1) λvl s2 ⟨l,H2,I2,pl,q2⟩=>thn (hu pq s2 σ H2 _ I2 q2) λvu s3 ⟨u,H3,I3,pu,q3⟩=>?_);rw[evalPart_none];refine XT ?_;have I4:Inv X pq σ H3 {s3 with heap:=s3.heap.push {cls := .type "slice",data := .fields #[vl,vu,.none]}}:=I3.kept (t':=s3.toks) λb ob q=>U3 _ q;obtain⟨T,id,hT,ht,hg⟩:=hr pq {s3 with heap:=s3.heap.push {cls := .type "slice",data := .fields #[vl,vu,.none]}} σ H3 x v vl vu l u s3.heap.objs.size Q I4 r1 (Heap.IsSliceOf.new ..) pl pu q3;show XW (XX X.prog X.w) X.A (subscriptTail e (.Slice lo hi none p2) v (.ref s3.heap.objs.size)) (EP X pq σ Q) X.xe {s3 with heap:=s3.heap.push {cls := .type "slice",data := .fields #[vl,vu,.none]}};exact tail_any (ops:=[.ref s3.heap.objs.size,v]) ht hT hg (by with_unfolding_all rfl)
noncomputable def Es(xs:List V)(lo hi:Option Int):List V:=(xs.drop (HT.sIx xs.length 0 lo)).take (HT.sIx xs.length xs.length hi - HT.sIx xs.length 0 lo)
theorem C3(xs:List V)(lo hi:Option Int):(Es xs lo hi).length<=xs.length:=by
 unfold Es;rw[Uo,VU];omega
noncomputable def Rx(K:U1):V->Option Int->Option Int->Hp->VK->Prop:=λx lo hi H Q=>∃ a xs,x = .ref a/\SqT K H a xs/\
 ¬ (HT.sIx xs.length 0 lo=0/\HT.sIx xs.length xs.length hi=xs.length)/\∀ p,H p=none->Q (.ref p) (upd H p (.tup (Es xs lo hi)))
theorem sl_tup:SlR X (Rx X.K):=by
 intro pq s σ H x v vl vu lo hi sl Q I rx hs pl pu h;obtain⟨a,xs,rfl,hx,hw,q⟩:=h;cases rx;obtain⟨its,r,ht,hz⟩:=I.tuple hx;have hlen:its.toArray.size=xs.length:=by rw[U6];exact r.length.symm
 refine⟨"tuple",_,PyProof.Rows.slot_tuple_getitem.lookup,ht.typeIs,?_⟩;refine HT.getItem_tuple_cut ht hs pl pu (by rw[hlen];exact hw) ?_ (by rw[hlen];exact hz);rw[hlen];refine⟨.ref s.heap.objs.size,_,I.laid (t':=s.toks) (o := .tup (Es xs lo hi)) (λb ob q=>U3 _ q) (U9 _) ?_,rfl,q _ (I.hok.fresh (U9 _))⟩;exact⟨UR (C3 xs lo hi) hz,_,(r.drop (HT.sIx xs.length 0 lo)).take (HT.sIx xs.length xs.length hi - HT.sIx xs.length 0 lo),IsTup.new _ _⟩
end
noncomputable def ixN(n:Nat)(i:Int):Option Nat:=if 0<=i then (if i<n then some i.toNat else none) else if -(n:Int)<=i then some (i+n).toNat else none
noncomputable def atI{α:Type}(xs:List α)(i:Int):Option α:=(ixN xs.length i).bind λj=>xs[j]?
theorem Ha{n:Nat}{i:Int}{j:Nat}(h:ixN n i=some j):seqIndex? i n=some j/\j<n /\ -(n:Int)<=i/\i<n:=by
 unfold ixN at h;by_cases h0:0<=i
 ·rw[iP h0]at h;by_cases h1:i<n
  ·rw[iP h1]at h;have e:i.toNat=j:=oj h;exact⟨by rw[ZP h0 h1,e],by omega,by omega,h1⟩
  ·rw[iG h1]at h;cases h
 ·rw[iG h0]at h;by_cases h1:-(n:Int)<=i
  ·rw[iP h1]at h;have e:(i+n).toNat=j:=oj h;exact⟨by rw[ZD (by omega) h1,e],by omega,h1,by omega⟩
  ·rw[iG h1]at h;cases h
theorem Hb{α:Type}{xs:List α}{i:Int}{v:α}(h:atI xs i=some v):∃ j,seqIndex? i xs.length=some j/\xs[j]?=some v/\j<xs.length /\ -(xs.length:Int)<=i/\i<xs.length:=by
 unfold atI at h;cases e:ixN xs.length i with
 | none=>rw[e]at h;cases h
 | some j=>
   rw[e]at h;obtain⟨h1,h2,h3,h4⟩:=Ha e;exact⟨j,h1,h,h2,h3,h4⟩
theorem j0{α:Type}{xs:List α}{j:Nat}{v:α}(h:xs[j]?=some v):atI xs (j:Int)=some v:=by
 have hj:j<xs.length:=(gM h).1
 have e:ixN xs.length (j:Int)=some j:=by
  unfold ixN;rw[iP (by omega),iP (by omega)];simp
 unfold atI;rw[e];exact h
noncomputable def Hc(b:Expr):Prop:=∀ o i,subscripted b false o i=operate [o,i] (getItem o i)
noncomputable def IxR(X:Cx)(r:R2):Prop:=
 ∀(value slice:Expr) (pq:List (XU×Obj)) (s:XS) (σ:St) (H:Hp) (x y:V) (v u:XR) (Q:VK),Inv X pq σ H s->RelV x v->RelV y u->r x y H Q->
  subscripted slice false v u=operate [v,u] (getItem v u)->XW (XX X.prog X.w) X.A (subscriptTail value slice v u) (EP X pq σ Q) X.xe s
noncomputable def MtR(X:Cx)(id:String)(r:V->List V->Hp->VK->Prop):Prop:=
 ∀(pq:List (XU×Obj)) (s:XS) (σ:St) (H:Hp) (x:V) (xs:List V) (v:XR) (us:List XR) (Q:VK),Inv X pq σ H s->RelV x v->Vals xs us->r x xs H Q->
  XW (XX X.prog X.w) X.A (call (.builtin id) (v::us)) (EP X pq σ Q) X.xe s
section
variable{X:Cx}{a b:Expr}{ta tb:TE}{pos:Pos}
theorem IxR.or{r r':R2}(h:IxR X r)(h':IxR X r'):IxR X (λx y H Q=>r x y H Q\/r' x y H Q):=by
 intro value slice pq s σ H x y v u Q I rx ry q hs;rcases q with q | q
 ·exact h value slice pq s σ H x y v u Q I rx ry q hs
 ·exact h' value slice pq s σ H x y v u Q I rx ry q hs
theorem Ry{r:R2}(hr:IxR X r)(ha:PE X a ta)(hb:PE X b tb)(hs:Hc b):PE X (.Subscript a b pos) (tOp r ta tb):=by
 intro pq s σ H Q I h;exact Subscript_ (Pv ha hb I h λv u s2 x y H2 I2 rx ry q=>hr a b pq s2 σ H2 x y v u Q I2 rx ry q (hs _ _))
noncomputable def Rz(K:U1):R2:=λx y H Q=>∃ p xs i v,x = .ref p/\y = .int i/\SqL K H p xs/\atI xs i=some v/\Q v H
noncomputable def S7(K:U1):R2:=λx y H Q=>∃ p xs i v,x = .ref p/\y = .int i/\SqT K H p xs/\atI xs i=some v/\Q v H
theorem ix_list:IxR X (Rz X.K):=by
 intro value slice pq s σ H x y v u Q I rx ry h hs;obtain⟨p,xs,i,z,rfl,rfl,hq,he,q⟩:=h;cases rx;obtain⟨t,rfl⟩:=ry;obtain⟨its,r,pl,hz⟩:=I.list hq;obtain⟨j,h1,h2,h3,h4,h5⟩:=Hb he;obtain⟨w,ew,rw'⟩:=r.get h2;have hl:=r.length;have hn:=Bi;have fin:EP X pq σ Q w s:=⟨z,H,I,rw',q⟩
 by_cases h0:0<=i
 ·have hj:i.toNat=j:=by
   rw[ZP h0 h5]at h1;exact oj h1
  exact item_listR pl.isList h0 (by omega) (by rw[hj];simpa using ew) fin hs
 ·have hj:(i+(its.toArray.size:Int)).toNat=j:=by
   rw[ZD (by omega) h4]at h1;rw[U6,<-hl];exact oj h1
  exact Yl (x:=w) pl.isList.typeIs slot_list_getitem.lookup
   (wpAny_getItem_list_neg (Q:=λr s'=>r=w/\EP X pq σ Q r s') pl.isList (by omega) (by rw[U6]<;>omega) (by omega) (by rw[hj];simpa using ew) ⟨rfl,fin⟩) hs
theorem Q9:IxR X (S7 X.K):=by
 intro value slice pq s σ H x y v u Q I rx ry h hs;obtain⟨p,xs,i,z,rfl,rfl,hq,he,q⟩:=h;cases rx;obtain⟨t,rfl⟩:=ry;obtain⟨its,r,pl,hz⟩:=I.tuple hq;obtain⟨j,h1,h2,h3,h4,h5⟩:=Hb he;obtain⟨w,ew,rw'⟩:=r.get h2;have hl:=r.length;have hn:=Bi;have fin:EP X pq σ Q w s:=⟨z,H,I,rw',q⟩
 exact Yl (x:=w) pl.typeIs slot_tuple_getitem.lookup
  (getItem_tuple (j:=j) (Q:=λr s'=>r=w/\EP X pq σ Q r s') pl (by omega) (by omega) (by rw[U6,<-hl];exact h1) (by simpa using ew) ⟨rfl,fin⟩) hs
theorem GF(its:List XR)(n j:Nat)(u:XR):Obj.mapSeq (·.setIfInBounds j u) {cls := .type "list",data := .seq its.toArray n}={cls := .type "list",data := .seq (its.set j u).toArray n}:=by
 simp[Obj.mapSeq]
theorem Inv.lst{pq:List (XU×Obj)}{σ:St}{H:Hp}{s:XS}{p:XU}{xs:List V}(I:Inv X pq σ H s)(h:H p=some (.lst xs)):
 ∃(its:List XR) (n:Nat),Vals xs its/\s.heap.get? p=some {cls := .type "list",data := .seq its.toArray n}/\xs.length<=XY:=by
 obtain⟨z,its,n,r,e⟩:=I.hok p _ h;exact⟨its,n,r,e,z⟩
theorem Inv.lstUpd{pq:List (XU×Obj)}{σ:St}{H:Hp}{s:XS}{p:XU}{xs ys:List V}{its its':List XR}{n n':Nat}{f:Obj->Obj}(I:Inv X pq σ H s)(h:H p=some (.lst xs))
 (ho:s.heap.get? p=some {cls := .type "list",data := .seq its.toArray n}) (hf:f {cls := .type "list",data := .seq its.toArray n}={cls := .type "list",data := .seq its'.toArray n'}) (r:Vals ys its') (hz:ys.length<=XY) (t:Nat):
 Inv X pq σ (upd H p (.lst ys)) {s with heap:=s.heap.update p f,toks:=t}:=by
 have e:(s.heap.update p f).get? p=some {cls := .type "list",data := .seq its'.toArray n'}:=by
  rw[Ub f ho (by rw[hf]<;>rfl),hf]
 refine I.write (x:=p) (e:=p) (by rw[h];trivial) (.inl rfl) (λb u hb q=>(Ue _ _ (Ne.symm hb)).trans q) ⟨_,e⟩ ?_;exact⟨hz,its',n',r,e⟩
noncomputable def KU:V->V->V->Hp->(Hp->Prop)->Prop:=λo i v H Q=>∃ p xs k j,o = .ref p/\i = .int k/\H p=some (.lst xs)/\ixN xs.length k=some j/\Q (upd H p (.lst (xs.set j v)))
theorem KW:Ra X KU:=by
 intro pq s σ H o i v ov iv u Q I ro ri rv h;obtain⟨p,xs,k,j,rfl,rfl,hp,hj,q⟩:=h;cases ro;obtain⟨t,rfl⟩:=ri;obtain⟨its,n,r,ho,hz⟩:=I.lst hp;obtain⟨h1,h2,h3,h4⟩:=Ha hj;have hl:=r.length;have hn:=Bi
 have I':Inv X pq σ (upd H p (.lst (xs.set j v))) {s with heap:=s.heap.update p (Obj.mapSeq (·.setIfInBounds j u))}:=
  I.lstUpd hp ho (GF its n j u) (r.set rv j) (by rw[Us];exact hz) s.toks
 by_cases h0:0<=k
 ·have hk:k.toNat=j:=by
   rw[ZP h0 h4]at h1;exact oj h1
  exact PySem.W.ki_setAt ho h0 (by omega) (by rw[U6,<-hl];exact h4) (by rw[hk];exact⟨_,I',q⟩)
 ·have hk:(k+(its.toArray.size:Int)).toNat=j:=by
   rw[ZD (by omega) h3]at h1;rw[U6,<-hl];exact oj h1
  exact PySem.W.ki_setBack ho (by omega) (by rw[U6,<-hl];exact h3) (by omega) (by rw[hk];exact⟨_,I',q⟩)
theorem Dy(lo hi:Option Int)(n:Nat):(YI lo hi none n).1=((HT.sIx n 0 lo:Nat):Int)/\(YI lo hi none n).2.1=((HT.sIx n n hi:Nat):Int)/\(YI lo hi none n).2.2=1:=by
 refine⟨?_,?_,rfl⟩
 ·cases lo with
  | none=>simp[YI,HT.sIx]
  | some i=>
    simp only[YI,HT.sIx,W9,show(1:Int)>0 by decide,if_true];by_cases h:i<0
    ·simp only[h,if_true]<;>omega
    ·simp only[h,if_false]<;>omega
 ·cases hi with
  | none=>simp[YI,HT.sIx]
  | some i=>
    simp only[YI,HT.sIx,W9,show(1:Int)>0 by decide,if_true];by_cases h:i<0
    ·simp only[h,if_true]<;>omega
    ·simp only[h,if_false]<;>omega
theorem DG(its:List XR)(lo hi:Option Int):slicePick its.toArray lo hi none=((its.drop (HT.sIx its.length 0 lo)).take (HT.sIx its.length its.length hi - HT.sIx its.length 0 lo)).toArray:=by
 obtain⟨h1,h2,h3⟩:=Dy lo hi its.toArray.size;unfold slicePick;rw[h1,h2,h3];simp only[sliceRange_one,pick_run,U6]<;>rfl
noncomputable def S8(K:U1):V->Option Int->Option Int->Hp->VK->Prop:=λx lo hi H Q=>∃ a xs,x = .ref a/\SqL K H a xs/\∀ p,H p=none->Q (.ref p) (upd H p (.lst (Es xs lo hi)))
theorem sl_list:SlR X (S8 X.K):=by
 intro pq s σ H x v vl vu lo hi sl Q I rx hs pl pu h;obtain⟨a,xs,rfl,hx,q⟩:=h;cases rx;obtain⟨its,r,ht,hz⟩:=I.list hx;have hlen:=r.length;refine⟨"list",_,slot_list_getitem.lookup,ht.isList.typeIs,?_⟩;refine wpAny_getItem_list_slice ht.isList hs pl pu .none (by simp) ?_ (by rw[U6]<;>omega);rw[DG,<-hlen];refine⟨.ref s.heap.objs.size,_,I.laid (t':=s.toks) (o := .lst (Es xs lo hi)) (λb ob q=>U3 _ q) (U9 _) ?_,rfl,q _ (I.hok.fresh (U9 _))⟩;exact⟨UR (C3 xs lo hi) hz,_,0,(r.drop (HT.sIx xs.length 0 lo)).take (HT.sIx xs.length xs.length hi - HT.sIx xs.length 0 lo),U8 _ rfl⟩
noncomputable def v5:V->Bool
 | .non=>true
 | .bl _=>true
 | .int _=>true
 | .str _=>true
 | _=>false
noncomputable def eqV:V->V->Bool
 | .non,.non=>true
 | .bl a,.bl b=>a == b
 | .bl a,.int b=>(if a then 1 else 0) == b
 | .int a,.bl b=>a == (if b then 1 else 0)
 | .int a,.int b=>a == b
 | .str a,.str b=>a == b
 | _,_=>false
theorem KY{A:Xg}{s:XS}{y x:V}{u v:XR}(ry:RelV y u)(rx:RelV x v)(fy:v5 y=true)(fx:v5 x=true):SeqAt.EqAt A s u v (eqV y x):=by
 cases y with
 | non=>
   cases ry;cases x with
   | non=>cases rx;exact SeqAt.EqAt.same _
   | bl b=>cases rx;exact SeqAt.EqAt.none_bool b
   | int b=>obtain⟨t,rfl⟩:=rx;exact SeqAt.EqAt.none_int b t
   | str b=>obtain⟨t,rfl⟩:=rx;exact SeqAt.EqAt.none_str b t
   | _=>exact absurd (show false=true from fx) UB
 | bl a=>
   cases ry;cases x with
   | non=>cases rx;exact SeqAt.EqAt.bool_none a
   | bl b=>cases rx;exact SeqAt.EqAt.bool_bool a b
   | int b=>obtain⟨t,rfl⟩:=rx;exact SeqAt.EqAt.bool_int a b t
   | str b=>obtain⟨t,rfl⟩:=rx;exact SeqAt.EqAt.bool_str a b t
   | _=>exact absurd (show false=true from fx) UB
 | int a=>
   obtain⟨t',rfl⟩:=ry;cases x with
   | non=>cases rx;exact SeqAt.EqAt.int_none a t'
   | bl b=>cases rx;exact SeqAt.EqAt.int_bool a t' b
   | int b=>obtain⟨t,rfl⟩:=rx;exact SeqAt.EqAt.int_int a t' b t
   | str b=>obtain⟨t,rfl⟩:=rx;exact SeqAt.EqAt.int_str a t' b t
   | _=>exact absurd (show false=true from fx) UB
 | str a=>
   obtain⟨t',rfl⟩:=ry;cases x with
   | non=>cases rx;exact SeqAt.EqAt.str_none a t'
   | bl b=>cases rx;exact SeqAt.EqAt.str_bool a t' b
   | int b=>obtain⟨t,rfl⟩:=rx;exact SeqAt.EqAt.str_int a t' b t
   | str b=>obtain⟨t,rfl⟩:=rx;exact SeqAt.EqAt.str_str a t' b t
   | _=>exact absurd (show false=true from fx) UB
 | _=>exact absurd (show false=true from fy) UB
noncomputable def eqU(x:V)(u:XR):Bool:=match u with
 | .none=>eqV .non x
 | .bool b=>eqV (.bl b) x
 | .int i _=>eqV (.int i) x
 | .str z _=>eqV (.str z) x
 | _=>false
theorem KZ{x y:V}{u:XR}(r:RelV y u)(f:v5 y=true):eqU x u=eqV y x:=by
 cases y with
 | non=>cases r;rfl
 | bl b=>cases r;rfl
 | int i=>obtain⟨t,rfl⟩:=r;rfl
 | str z=>obtain⟨t,rfl⟩:=r;rfl
 | _=>exact absurd (show false=true from f) UB
theorem BU{x:V}:∀{xs:List V} {us:List XR},Vals xs us->xs.all v5=true->us.any (eqU x)=xs.any λy=>eqV y x
 | _,_,.nil,_=>rfl
 | y::xs,u::us,.cons r t,f=>by
   rw[V2,U2]at f;rw[VB,VB,KZ r f.1,BU t f.2]
theorem Ar{A:Xg}{s:XS}{x:V}{v:XR}(rx:RelV x v)(fx:v5 x=true):∀{xs:List V} {us:List XR},Vals xs us->xs.all v5=true->∀ u∈us,SeqAt.EqAt A s u v (eqU x u)
 | _,_,.nil,_=>λu hu=>by cases hu
 | y::xs,u::us,.cons r t,f=>λu' hu=>by
   rw[V2,U2]at f;rcases UH.mp hu with rfl | hu
   ·rw[KZ r f.1];exact KY r rx f.1 fx
   ·exact Ar rx fx t f.2 u' hu
noncomputable def inV(x:V)(xs:List V):Bool:=xs.any λy=>eqV y x
noncomputable def rIn(K:U1)(neg:Bool):R2:=λx y H Q=>∃ p xs,y = .ref p/\(SqL K H p xs\/SqT K H p xs)/\v5 x=true/\xs.all v5=true/\Q (.bl (if neg then !inV x xs else inV x xs)) H
theorem Iw:OpR X (Xe .In) (rIn X.K false):=by
 intro pq s σ H x y v u Q I rx ry h;obtain⟨p,xs,rfl,hq,fx,fs,q⟩:=h;cases ry;rcases hq with hq | hq
 ·obtain⟨its,r,pl,hz⟩:=I.list hq;refine SeqAt.in_listAt (eqU x) pl.isList (λw hw=>Ar rx fx r fs w (by simpa using hw)) ⟨.bl _,H,I,rfl,?_⟩;rw[show its.toArray.any (eqU x)=its.any (eqU x) by simp,BU r fs];exact q
 ·obtain⟨its,r,pl,hz⟩:=I.tuple hq;refine SeqAt.in_tupleAt (eqU x) pl (λw hw=>Ar rx fx r fs w (by simpa using hw)) ⟨.bl _,H,I,rfl,?_⟩;rw[show its.toArray.any (eqU x)=its.any (eqU x) by simp,BU r fs];exact q
theorem Dz:OpR X (Xe .NotIn) (rIn X.K true):=by
 intro pq s σ H x y v u Q I rx ry h;obtain⟨p,xs,rfl,hq,fx,fs,q⟩:=h;cases ry;rcases hq with hq | hq
 ·obtain⟨its,r,pl,hz⟩:=I.list hq;refine SeqAt.notIn_listAt (eqU x) pl.isList (λw hw=>Ar rx fx r fs w (by simpa using hw)) ⟨.bl _,H,I,rfl,?_⟩;rw[show its.toArray.any (eqU x)=its.any (eqU x) by simp,BU r fs];exact q
 ·obtain⟨its,r,pl,hz⟩:=I.tuple hq;refine SeqAt.notIn_tupleAt (eqU x) pl (λw hw=>Ar rx fx r fs w (by simpa using hw)) ⟨.bl _,H,I,rfl,?_⟩;rw[show its.toArray.any (eqU x)=its.any (eqU x) by simp,BU r fs];exact q
theorem E1:CallR X (.builtin "len") (λxs H Q=>∃ p ys,xs=[.ref p]/\(SqL X.K H p ys\/SqT X.K H p ys)/\Q (.int ys.length) H):=by
 intro pq s σ H xs us Q I r h;obtain⟨p,ys,rfl,hq,q⟩:=h;obtain⟨u,rfl,rx⟩:=AB r;cases rx;have hn:=Bi;rcases hq with hq | hq
 ·obtain⟨its,r',pl,hz⟩:=I.list hq;have hlen:=r'.length;exact Calls.call_len_list pl.isList (by simp only[U6]<;>omega) ⟨.int ys.length,H,I.tok _,⟨s.toks+1,by rw[U6,hlen]⟩,q⟩
 ·obtain⟨its,r',pl,hz⟩:=I.tuple hq;have hlen:=r'.length;exact len_tuple pl (by simp only[U6]<;>omega) ⟨.int ys.length,H,I.tok _,⟨s.toks+1,by rw[U6,hlen]⟩,q⟩
theorem CallR.or{f:XR}{r r':List V->Hp->VK->Prop}(h:CallR X f r)(h':CallR X f r'):CallR X f (λxs H Q=>r xs H Q\/r' xs H Q):=by
 intro pq s σ H xs us Q I rs q;rcases q with q | q
 ·exact h pq s σ H xs us Q I rs q
 ·exact h' pq s σ H xs us Q I rs q
theorem E2:CallR X (.type "list") (λxs H Q=>∃ p ys,xs=[.ref p]/\(SqL X.K H p ys\/SqT X.K H p ys)/\∀ l,H l=none->Q (.ref l) (upd H l (.lst ys))):=by
 intro pq s σ H xs us Q I r h;obtain⟨p,ys,rfl,hq,q⟩:=h;obtain⟨u,rfl,rx⟩:=AB r;cases rx
 have fin:∀(its:List XR),Vals ys its->ys.length<=XY->∀(h':Heap) (c':Nat),(∀ b o',s.heap.get? b=some o'->h'.get? b=some o')->
  h'.get? s.heap.objs.size=some {cls := .type "list",dict:=none,data := .seq its.toArray c',slots:=#[]}->EP X pq σ Q (.ref s.heap.objs.size) {s with heap:=h'}:=λits r' hz h' c' kp e=>
  ⟨.ref s.heap.objs.size,_,I.laid (t':=s.toks) kp (U9 _) (show ObjOk X.prog X.w _ h' _ (.lst ys) from ⟨hz,its,c',r',e⟩),rfl,q _ (I.hok.fresh (U9 _))⟩
 rcases hq with hq | hq
 ·obtain⟨its,r',pl,hz⟩:=I.list hq;have hlen:=r'.length;obtain⟨o,ho,hc,n,hd⟩:=pl.isList;exact call_list_seq p (.inl rfl) ho hc hd (λh' c' kp e=>fin its r' hz h' c' kp e) (by simp only[U6]<;>omega)
 ·obtain⟨its,r',pl,hz⟩:=I.tuple hq;have hlen:=r'.length;obtain⟨o,ho,hc,n,hd⟩:=pl;exact call_list_seq p (.inr rfl) ho hc hd (λh' c' kp e=>fin its r' hz h' c' kp e) (by simp only[U6]<;>omega)
theorem DH:CallR X (.type "tuple") (λxs H Q=>∃ p ys,xs=[.ref p]/\((SqL X.K H p ys/\∀ l,H l=none->Q (.ref l) (upd H l (.tup ys)))\/(SqT X.K H p ys/\Q (.ref p) H))):=by
 intro pq s σ H xs us Q I r h;obtain⟨p,ys,rfl,h⟩:=h;obtain⟨u,rfl,rx⟩:=AB r;cases rx;rcases h with⟨hq,q⟩ | ⟨hq,q⟩
 ·obtain⟨its,r',pl,hz⟩:=I.list hq;have hlen:=r'.length;refine call_tuple_list pl.isList (λh' kp=>?_) (by simp only[U6]<;>omega);have I1:Inv X pq σ H {s with heap:=h'}:=I.kept (t':=s.toks) kp
  have I2:Inv X pq σ (upd H h'.objs.size (.tup ys)) {s with heap:=h'.push {cls := .type "tuple",data := .seq its.toArray}}:=
   I1.laid (t':=s.toks) (λb o e=>U3 _ e) (U9 _) (show ObjOk X.prog X.w _ _ _ (.tup ys) from ⟨hz,its,r',IsTup.new _ _⟩)
  exact⟨.ref h'.objs.size,_,I2,rfl,q _ (I1.hok.fresh (U9 _))⟩
 ·obtain⟨its,r',pl,hz⟩:=I.tuple hq;exact call_tuple_same pl ⟨.ref p,H,I,rfl,q⟩
noncomputable def tyV(K:U1)(T:String)(x:V)(H:Hp):Prop:=match x with
 | .str _=>T="str"
 | .int _=>T="int"
 | .ref p=>(T="list"/\∃ xs,SqL K H p xs)\/(T="tuple"/\∃ o,K.lookup p=some o/\o.cls = .type "tuple"/\o.dict=none)\/
    (T="dict"/\((∃ kvs,H p=some (.dK kvs))\/∃ kvs,H p=some (.dT kvs)))\/(T="set"/\∃ S n,H p=some (.set S n))
 | _=>False
theorem Kb{pq:List (XU×Obj)}{σ:St}{H:Hp}{s:XS}{T:String}{x:V}{v:XR}(I:Inv X pq σ H s)(r:RelV x v)(ty:tyV X.K T x H):
 s.TypeIs v T/\∀ a,v = .ref a->∃ ob,s.heap.get? a=some ob/\ob.dict=none:=by
 cases x with
 | str z=>
   obtain⟨t,rfl⟩:=r;cases(show T="str" from ty);exact⟨typeIs_str s z t,λ_ e=>nomatch e⟩
 | int i=>
   obtain⟨t,rfl⟩:=r;cases(show T="int" from ty);exact⟨Za s i t,λ_ e=>nomatch e⟩
 | ref p=>
   cases r;rcases ty with⟨rfl,xs,hq⟩ | ⟨rfl,o,hk,hc,hd⟩ | ⟨rfl,hk⟩ | ⟨rfl,S,n,hk⟩
   ·obtain⟨its,_,pl,_⟩:=I.list hq;refine⟨pl.isList.typeIs,λa e=>?_⟩;cases e;obtain⟨o,n,e,c,hd,_⟩:=pl;exact⟨o,e,hd⟩
   ·refine⟨⟨o,I.kIn p o hk,hc⟩,λa e=>?_⟩;cases e;exact⟨o,I.kIn _ o hk,hd⟩
   ·have z:∃ o,s.heap.get? p=some o/\o.ExactDict:=by
     rcases hk with⟨kvs,hk⟩ | ⟨kvs,hk⟩
     ·obtain⟨_,_,_,_,o,_,_,e,ex,_⟩:=I.hok p _ hk;exact⟨o,e,ex⟩
     ·obtain⟨_,_,_,_,o,_,_,e,ex,_⟩:=I.hok p _ hk;exact⟨o,e,ex⟩
    obtain⟨o,e,ex⟩:=z;refine⟨⟨o,e,ex.1⟩,λa e2=>?_⟩;cases e2;exact⟨o,e,ex.2.1⟩
   ·obtain⟨o,_,_,_,e,ex,_⟩:=I.hok p _ hk;refine⟨⟨o,e,ex.1⟩,λa e2=>?_⟩;cases e2;exact⟨o,e,ex.2.1⟩
 | _=>exact False.elim ty
noncomputable def QA(K:U1)(T:String)(r:V->List V->Hp->VK->Prop)(to:TE):TE:=λσ H Q=>to σ H λx H1=>tyV K T x H1/\r x [] H1 Q
noncomputable def tBM(K:U1)(T:String)(r:V->List V->Hp->VK->Prop)(to:TE)(t:TA):TE:=λσ H Q=>to σ H λx H1=>tyV K T x H1/\t σ H1 λxs H2=>r x xs H2 Q
variable{o e:Expr}{es:List Expr}{to:TE}{t:TA}{name:Str}{apos cpos:Pos}{T id:String}{r:V->List V->Hp->VK->Prop}
theorem GG(pa:PlainAttrs T)(slot:Slot T name id)(hty:typeOf (.builtin id)=pure (.type "method_descriptor"))(hm:MtR X id r)(ho:PE X o to)
 (hbase:Y9 o name X.env (eval o X.env)=eval o X.env:=by rfl) (hline:(apos.endLine == cpos.line)=true:=by rfl):PE X (.Call (.Attribute o name apos) [] [] cpos) (QA X.K T r to):=by
 intro pq s σ H Q I h;refine YJ hbase hline (thn (ho pq s σ H _ I h) λv s1 ⟨x,H1,I1,r1,ty,q1⟩=>?_);obtain⟨h1,h2⟩:=Kb I1 r1 ty;exact⟨T,id,pa,slot,hty,h1,h2,Calls.callWith_builtin rfl (PySem.evalArgs_none (hm pq s1 σ H1 x [] v [] Q I1 r1 .nil q1))⟩
theorem Kc(pa:PlainAttrs T)(slot:Slot T name id)(hty:typeOf (.builtin id)=pure (.type "method_descriptor"))(hm:MtR X id r)(ho:PE X o to)(ha:PA X (e::es) t)
 (hbase:Y9 o name X.env (eval o X.env)=eval o X.env:=by rfl)
 (hfew:((backTo cpos (Xa (e::es) X.env)).all (λx=>!x.1)&&(YU cpos (YB [] X.env)).all (λx=>x.1.isSome)
   && decide ((e::es).length+([]:List Keyword).length+(if ([]:List Keyword).isEmpty then 0 else 1)<30))=true:=by rfl)
 (hline:(apos.endLine == cpos.line)=true:=by rfl) (hs:Xa (e::es) X.env=(false,eval e X.env)::Xa es X.env:=by rfl) (hplain:(backTo cpos (Xa es X.env)).any (·.1)=false:=by rfl):
 PE X (.Call (.Attribute o name apos) (e::es) [] cpos) (tBM X.K T r to t):=by
 intro pq s σ H Q I h;refine wpAny_Call_method_late hbase hfew hline rfl (thn (ho pq s σ H _ I h) λv s1 ⟨x,H1,I1,r1,ty,q1⟩=>?_);obtain⟨h1,h2⟩:=Kb I1 r1 ty;refine⟨T,id,pa,slot,hty,h1,h2,?_⟩;have hA:=ha cpos pq s1 σ H1 _ I1 q1;rw[hs]at hA ⊢;refine Calls.callWith_builtin (by show(false||(backTo cpos (Xa es X.env)).any (·.1))=false;rw[hplain]<;>rfl) (Calls.evalArgs_plain ?_);exact thn hA λus s2 ⟨vs,H2,I2,r2,q2⟩=>hm pq s2 σ H2 x vs v us Q I2 r1 r2 q2
end
noncomputable def MtM(X:Cx)(id:String)(r:V->List V->Hp->VK->Prop):Prop:=
 ∀(pq:List (XU×Obj)) (s:XS) (σ:St) (H:Hp) (x:V) (xs:List V) (v:XR) (us:List XR) (Q:VK),Inv X pq σ H s->RelV x v->Vals xs us->r x xs H Q->
  XW (XX X.prog X.w) X.A (call (.builtin id) (v::us)) (EP X pq σ Q) X.xe s
theorem Vals.one{x:V}{us:List XR}(h:Vals [x] us):∃ u,us=[u]/\RelV x u:=by
 cases h with
 | cons r q=>cases q;exact⟨_,rfl,r⟩
theorem Vals.two{x y:V}{us:List XR}(h:Vals [x,y] us):∃ u v,us=[u,v]/\RelV x u/\RelV y v:=by
 cases h with
 | cons r q=>
   obtain⟨v,rfl,s⟩:=Vals.one q;exact⟨_,v,rfl,r,s⟩
theorem Vals.zero:∀{us:List XR},Vals [] us->us=[]
 | _,.nil=>rfl
theorem Vals.eraseIdx:∀{xs:List V} {us:List XR} (i:Nat),Vals xs us->Vals (xs.eraseIdx i) (us.eraseIdx i)
 | _,_,_,.nil => .nil
 | _,_,0,.cons _ t=>t
 | _,_,i+1,.cons r t => .cons r (Vals.eraseIdx i t)
theorem Vals.reverse{xs:List V}{us:List XR}(h:Vals xs us):Vals xs.reverse us.reverse:=by
 induction h with
 | nil=>exact .nil
 | cons r t ih=>rw[Wk,Wk];exact Vals.append ih (.cons r .nil)
theorem Vals.rep{xs:List V}{us:List XR}(h:Vals xs us):∀ k:Nat,Vals (UO k xs).flatten (UO k us).flatten
 | 0 => .nil
 | k+1=>by
   rw[Uu,Uu,VE,VE];exact Vals.append h (Vals.rep h k)
theorem DZ(its:List XR):∀(k:Nat) (acc:List XR),
 X4 (λx1 x2=>x1++x2) acc.toArray (UO k its.toArray)=(acc++(UO k its).flatten).toArray
 | 0,acc=>by simp
 | k+1,acc=>by
   have e:acc.toArray++its.toArray=(acc++its).toArray:=by simp
   have e2:(acc++its)++(UO k its).flatten=acc++(UO (k+1) its).flatten:=by
    rw[Uu,VE,Wl]
   rw[<-e2,<-DZ its k (acc++its),<-e,Uu,List.foldl_cons]
section
variable{X:Cx}{pq:List (XU×Obj)}{σ:St}{H:Hp}{s:XS}{l b:XU}{xs ys zs:List V}
theorem Inv.lset{its its':List XR}{n:Nat}{f:Array XR->Array XR}{t':Nat}(I:Inv X pq σ H s)(hH:H l=some (.lst xs))
 (e:s.heap.get? l=some {cls := .type "list",data := .seq its.toArray n}) (hf:f its.toArray=its'.toArray) (hv:Vals ys its') (hz:ys.length<=XY):
 Inv X pq σ (upd H l (.lst ys)) {s with heap:=s.heap.update l (Obj.mapSeq f),toks:=t'}:=by
 have q:=PySem.IsL.update e f;rw[hf]at q;refine I.write (x:=l) (e:=l) (by rw[hH];exact trivial) (.inl rfl) (λb' u hb hu=>(Ue s.heap (Obj.mapSeq f) (Ne.symm hb)).trans hu) ⟨_,q⟩ ?_;exact⟨hz,its',_,hv,q⟩
theorem Inv.lnew{its:List XR}{t':Nat}(I:Inv X pq σ H s)(hv:Vals ys its)(hz:ys.length<=XY):
 Inv X pq σ (upd H s.heap.objs.size (.lst ys)) {s with heap:=s.heap.push {cls := .type "list",data := .seq its.toArray},toks:=t'}:=
 I.laid (λ_ _ q=>U3 _ q) (U9 _) ⟨hz,its,0,hv,U8 _ rfl⟩
theorem Inv.fresh(I:Inv X pq σ H s):H s.heap.objs.size=none:=I.hok.fresh (U9 _)
theorem Inv.lstM(I:Inv X pq σ H s)(hH:H l=some (.lst xs)):xs.length<=XY/\∃(its:List XR) (n:Nat),Vals xs its/\xs.length=its.length/\s.heap.get? l=some {cls := .type "list",data := .seq its.toArray n}:=by
 obtain⟨z,its,n,r,e⟩:=I.hok l _ hH;exact⟨z,its,n,r,r.length,e⟩
theorem Et{n:Nat}(h:n<=XY):Builtin.List.listTooLong n=false:=by
 unfold Builtin.List.listTooLong;exact decide_eq_false (by omega)
end
section
variable{X:Cx}
noncomputable def Hd:V->List V->Hp->VK->Prop:=λx vs H Q=>∃ l xs y,x = .ref l/\vs=[y]/\H l=some (.lst xs)/\xs.length<XY/\Q .non (upd H l (.lst (xs++[y])))
theorem Bj:MtM X "list.append" Hd:=by
 intro pq s σ H x vs v us Q I rx rv h;obtain⟨l,xs,y,rfl,rfl,hH,hz,q⟩:=h;cases rx;obtain⟨u,rfl,ru⟩:=rv.one;obtain⟨z,its,n,r,hl,e⟩:=I.lstM hH;refine Ym F.slot_list_append ⟨_,e,rfl⟩ F.entry_list_append (F.args_list_append_2 _ _) (PySem.list_append l its.toArray n u (by rw[U6];omega)) ⟨e,?_⟩;refine⟨.non,_,I.lset (its':=its++[u]) hH e (by simp) (r.append (.cons ru .nil)) ?_,rfl,q⟩;rw[UD,Ul];omega
noncomputable def He:V->List V->Hp->VK->Prop:=λx vs H Q=>∃ l b xs zs,x = .ref l/\vs=[.ref b]/\H l=some (.lst xs)/\H b=some (.lst zs)/\xs.length+zs.length<=XY/\Q .non (upd H l (.lst (xs++zs)))
theorem Da:MtM X "list.extend" He:=by
 intro pq s σ H x vs v us Q I rx rv h;obtain⟨l,b,xs,zs,rfl,rfl,hH,hB,hz,q⟩:=h;cases rx;obtain⟨u,rfl,ru⟩:=rv.one;cases ru;obtain⟨z,its,n,r,hl,e⟩:=I.lstM hH;obtain⟨z2,its2,n2,r2,hl2,e2⟩:=I.lstM hB;have hsz:its.toArray.size+its2.toArray.size<=XY:=by rw[U6,U6];omega
 have hlong:¬ (!its.toArray.isEmpty&&Builtin.List.listTooLong (its.toArray.size+its2.toArray.size))=true:=by
  rw[Et hsz,WY];exact UB
 refine Ym F.slot_list_extend ⟨_,e,rfl⟩ F.entry_list_extend (F.args_list_extend_2 _ _)
  (AutoSeq1.list_extend_list_list_0 l its.toArray n b its2.toArray n2 hlong (by rw[U6];omega) (by omega)) ⟨e,e2,?_⟩
 refine⟨.non,_,I.lset (its':=its++its2) hH e (by simp) (r.append r2) ?_,rfl,q⟩;rw[UD];omega
noncomputable def S9:R2:=λx y H Q=>∃ l b xs zs,x = .ref l/\y = .ref b/\H l=some (.lst xs)/\H b=some (.lst zs)/\xs.length+zs.length<=XY/\∀ p,H p=none->Q (.ref p) (upd H p (.lst (xs++zs)))
theorem QB:OpR X (YE .Add) S9:=by
 intro pq s σ H x y v u Q I rx ry h;obtain⟨l,b,xs,zs,rfl,rfl,hH,hB,hz,q⟩:=h;cases rx;cases ry;obtain⟨z,its,n,r,hl,e⟩:=I.lstM hH;obtain⟨z2,its2,n2,r2,hl2,e2⟩:=I.lstM hB;refine PySem.P.add_list e e2 ?_ (by rw[U6,U6];omega);have ea:its.toArray++its2.toArray=(its++its2).toArray:=by simp
 rw[ea];exact⟨.ref _,_,I.lnew (t':=s.toks) (r.append r2) (by rw[UD];omega),rfl,q _ I.fresh⟩
noncomputable def SA:R2:=λx y H Q=>∃ l k xs,x = .ref l/\y = .int k/\H l=some (.lst xs) /\ -(2 ^ 63)<=k/\k<2 ^ 63/\xs.length * k.toNat<=XY/\
 ∀ p,H p=none->Q (.ref p) (upd H p (.lst (UO k.toNat xs).flatten))
theorem NA{α:Type}(xs:List α)(k:Nat):(UO k xs).flatten.length=k * xs.length:=by
 induction k with
 | zero=>simp
 | succ k ih=>rw[Uu,VE,UD,ih,Wm,Nat.add_comm]
theorem QC:OpR X (YE .Mult) SA:=by
 intro pq s σ H x y v u Q I rx ry h;obtain⟨l,k,xs,rfl,rfl,hH,h1,h2,hz,q⟩:=h;cases rx;obtain⟨t,rfl⟩:=ry;obtain⟨z,its,n,r,hl,e⟩:=I.lstM hH;have hlen:its.toArray.size * k.toNat<=XY:=by rw[U6,<-hl];exact hz
 have hcap:¬ its.toArray.size * k.toNat>(2 ^ 63 - 1) / 8:=by
  have:(XY:Nat)<=(2 ^ 63 - 1) / 8:=by decide
  omega
 have hfit:¬ (!Builtin.List.listFitsIndex k)=true:=by
  rw[Zb h1 h2];exact UB
 have hlong:¬ Builtin.List.listTooLong (its.toArray.size * k.toNat)=true:=by
  rw[Et hlen];exact UB
 have hnew:X4 (λx1 x2=>x1++x2) #[] (UO (if its.toArray.isEmpty=true then 0 else k.toNat) its.toArray)=(UO k.toNat its).flatten.toArray:=by
  have f0:∀ m:Nat,X4 (λx1 x2=>x1++x2) #[] (UO m its.toArray)=(UO m its).flatten.toArray:=λm=>by
   have:=DZ its m [];rw[List.nil_append]at this;exact this
  rw[f0];cases its with
  | nil=>simp
  | cons a r'=>rw[iG (by simp)]
 refine wpAny_binaryOp_repeat_ref (T:="list") (U:="int") (by decide) ⟨_,e,rfl⟩ (λs'=>Za s' k t) noFill_list_mul F.fills_int_mul F.slot_int_rmul repeat_list F.slot_int_index.lookup
  (Ym F.slot_int_rmul (Za s k t) F.entry_int_rmul (F.args_int_rmul_2 _ _) (int___rmul___int_list k t l its.toArray n)
    ⟨e,rfl,⟨_,e,rfl⟩,Ym F.slot_list_mul ⟨_,e,rfl⟩ F.entry_list_mul (F.args_list_mul_2 _ _) (AutoListH.list___mul___list_int_3 l its.toArray n k t hfit hcap hlong) ⟨e,?_⟩⟩)
 rw[hnew];exact⟨.ref _,_,I.lnew (t':=s.toks) (r.rep k.toNat) (by rw[NA,Nat.mul_comm];exact hz),rfl,q _ I.fresh⟩
end
end L2
namespace Att
open PySem PySem.W PySem.Calls PyProof.Rows
theorem C9{P:Params}{h:Heap}:∀(ns:List Int) (vs:List XR),WellAll P h vs (ns.map WData.int)->IntsAre vs ns:=by
 intro ns
 induction ns with
 | nil=>
   intro vs w;rw[XD]at w;cases w;exact .nil
 | cons n ns ih=>
   intro vs w;rw[UT]at w;cases w with
   | cons a b=>
     cases a;exact .cons _ _ (ih _ b)
theorem Ix{l:OpenLaw}{n:Nat}(hn:l.most=some n){P:Params}{h:Heap}{args:List WData}{vals:List XR}
 (hpre:l.row.toRowW.claim.pre args=true) (hwl:WellAll P h vals args):
 ∃ a vs ns,vals=[Value.ref a]/\args=[WData.list (ns.map WData.int)]/\h.get? a=some {cls := .type "list",data := .seq vs.toArray}/\IntsAre vs ns/\ns.length<=n:=by
 have hsh:WShape.hasAll [] args [.list .int]=true:=(pre_splitW hpre).1;have hc:l.pre.holds [] {args:=args}=true:=(pre_splitW hpre).2;obtain⟨d,r,rfl,h1,h2⟩:=hasAllW_cons hsh;obtain rfl:=hasAllW_nil h2;obtain⟨xs,rfl,h3⟩:=hasW_list h1;obtain⟨ns,rfl⟩:=items_int h3
 have hlen:ns.length<=n:=by
  unfold OpenLaw.pre at hc
  have h4:(WTm.not (.lt (.lit (.int (n:Int))) (.len (.arg 0)))).holds [] {args:=[.list (ns.map .int)]}=true:=by
   have h4:=(holds_andW hc).1;rw[hn]at h4;exact h4
  have h5:=condW_of h4 (w_not (w_lt w_lit (w_len_list (w_arg rfl))));rw[U4]at h5;refine Nat.le_of_not_lt λq=>?_;have q':(n:Int)<((ns.length:Nat):Int):=by omega
  first
   | (rw[decide_eq_true q']at h5;exact absurd h5 (by decide))
   | (simp at h5;omega)
 cases hwl with
 | cons w1 w2=>
   cases w2;cases w1 with
   | list ho hall=>exact⟨_,_,ns,rfl,rfl,ho,C9 ns _ hall,hlen⟩
theorem Iy(l:OpenLaw)(args:List WData):l.row.toRowW.claim.post args (.bool true) args=true:=
 postW_of (r:=l.row.toRowW) (X:=(true == true))
  (show WShape.has [] (.bool true) .bool=true by first | rfl | decide | simp[WShape.has,WShape.arms,WShape.armsAll])
  (show(WTm.eq .res (.lit (.bool true))).value [] {args:=args,res:=some (.bool true),after:=args}=some (.bool (true == true)) from w_eq_bool (w_res rfl) w_lit) rfl
theorem attach_call{l:OpenLaw}{n:Nat}{q:XZ}{loose:List Str}{XP:(Str->Option XR)->Heap->Prop}{YP:Xd->Heap->Prop}{d:DefRec}
 (hn:l.most=some n) (hdf:d.params.defaults=[])
 (call:∀(w:Xd) (s₀ s₁:XS) (mg mb:Str->Option XR) (fa:XU) (o:Obj) (pm cd doc:XR) (a:XU) (vs:List XR) (ns:List Int),
   Ground q loose [] XP w s₀ mg mb s₁.heap->YP w s₁.heap->
   s₁.heap.get? fa=some o->o.data = .func (docDef d.name d.params d.body d.scope pm cd doc)->s₁.heap.CodeRec cd d.name->mg d.name=some (.ref fa)->
   s₁.heap.get? a=some {cls := .type "list",data := .seq vs.toArray}->IntsAre vs ns->ns.length<=n->s₁.gens=#[]->
   codeAny (XX l.prog w) callerA (.call (.ref fa) ⟨[.ref a],[]⟩) (λr s'=>r = .ok (.ret (.bool true))/\OldK s₁.heap s'.heap/\s'.os=s₁.os/\AllBare s'.gens) s₁):
 WalkO q loose XP YP l.row.toRowW d [] (λf vs=>PySem.call f vs):=by
 intro w s₀ s₁ mg mb G Y fa o pm cd doc dV kV ho hd hcd hD hmg hg args vals as hpre hlay hrd hwl hlo;obtain rfl:dV = .none:=Dflts.none hD hdf;obtain rfl:kV = .none:=Dflts.noKw hD;obtain⟨a,vs,ns,rfl,rfl,hobj,hints,hlen⟩:=Ix hn hpre hwl;refine enter_call (Y1 (call w s₀ s₁ mg mb fa o pm cd doc a vs ns G Y ho (fd_plain hd) hcd hmg hobj hints hlen hg) λr s' hq=>?_);obtain⟨rfl,h2,h3,h4⟩:=hq;exact⟨.inl ⟨.bool true,.bool true,[],rfl,λ_=>rfl,.bool true,Iy l _,λ_=>⟨List.Pairwise.nil,λ_ hm=>(nomatch hm)⟩⟩,h2,h3,h4⟩
end Att
namespace L2
open PySem PySem.Spec PyProof.Rows
theorem Db:∀{vs:List XR} {ns:List Int},IntsAre vs ns->Vals (ns.map V.int) vs
 | _,_,.nil => .nil
 | _,_,.cons n t h => .cons ⟨t,rfl⟩ (Db h)
noncomputable def NB(H:Hp):Prop:=∀ b,H b=none\/∃ o xs,H b=some (.frz o (.lst xs))
theorem Kd{P:XZ}{w:Xd}{K:U1}{mg mb:Str->Option XR}{CX:CXT}{k:Nat}{fa a:XU}{fd:Y8}{x:Str}{sp:Sp}{s₁:XS}{vs:List XR}{ns:List Int}
 (KX:K.In s₁.heap) (hns:s₁.heap.Ns Xc mg) (hb:s₁.heap.Ns Z7 mb) (hbb:∀ x:Str,x≠"__name__"->mb x=Xb x) (hlim:s₁.heap.NoLimit) (hg:s₁.gens=#[])
 (ha:s₁.heap.get? a=some {cls := .type "list",data := .seq vs.toArray}) (hi:IntsAre vs ns) (hl:ns.length<=XY) (hr:Room k callerA)
 (F:∀ base:Heap,K.In base->base.Ns Xc mg->FnOk P w K mg base CX k fa fd [x] sp) (hbind:∀(s:XS) (u:XR),BindsTo s fd ⟨[u],[]⟩ [(x,u)])
 (hsp:∀ H:Hp,NB H->SqL K H a (ns.map V.int)->sp [.ref a] H (λv _=>v = .bl true) λ_ _ _=>False)
 (hCX:∀ H e s',CX [] H s₁ (λ_ _ _=>False) e s'->False):
 codeAny (XX P w) callerA (.call (.ref fa) ⟨[.ref a],[]⟩) (λr s'=>r = .ok (.ret (.bool true))/\OldK s₁.heap s'.heap/\s'.os=s₁.os/\AllBare s'.gens) s₁:=by
 have rv:=Db hi;have lenV:=hi.length
 have core:∀ H:Hp,NB H->SqL K H a (ns.map V.int)->HOk P w H s₁.heap->(∀ b,H b≠none->b=a)->(H a≠none->K.lookup a=none)->
  codeAny (XX P w) callerA (.call (.ref fa) ⟨[.ref a],[]⟩) (λr s'=>r = .ok (.ret (.bool true))/\OldK s₁.heap s'.heap/\s'.os=s₁.os/\AllBare s'.gens) s₁:=by
  intro H hO hS hok hA hK;have p8:∀{b:XU} {o:Obj},s₁.heap.get? b=some o->H b=none->(Dx s₁.heap H).get? b=some o:=λe n=>K1 e n
  have noA:∀{b:XU} {o:Obj} {es:Array ZJ} {ep:Nat},s₁.heap.get? b=some o->o.data = .dict es ep->H b=none:=λ{b o es ep} e d=>by
   cases q:H b with
   | none=>rfl
   | some u=>
     have e':b=a:=hA b (by rw[q];simp);subst e';rw[ha]at e;cases e;have d':Data.seq vs.toArray _=Data.dict es ep:=d;cases d'
  have nsK:∀{b:XU} {m:Str->Option XR},s₁.heap.Ns b m->(Dx s₁.heap H).Ns b m:=λ{b m} ⟨o,es,ep,e,d,r⟩=>⟨o,es,ep,p8 e (noA e d),d,r⟩
  have hKb:K.In (Dx s₁.heap H):=λb o e=>p8 (KX b o e) (by
   cases q:H b with
   | none=>rfl
   | some u=>
     have e':b=a:=hA b (by rw[q];simp);subst e';rw[hK (by rw[q];simp)]at e;cases e)
  have hM:Mod K mg (Dx s₁.heap H):=⟨hKb,nsK hns,⟨mb,nsK hb,hbb⟩,let ⟨mc,h1,h2⟩:=hlim;⟨mc,nsK h1,h2⟩⟩
  have e0:Env0 P w K mg (Dx s₁.heap H) callerA [] s₁ H:=⟨rfl,hM,λb o e=>Mt e,Wn (Ih _ _),trivial,λb hb=>absurd (show b∈([]:List XU) from hb) (by simp),hok,.of_eq hg⟩
  refine Y1 ((F _ hKb (nsK hns)).run callerA [] s₁ H ⟨[.ref a],[]⟩ [.ref a] [.ref a] _ _ hr e0 (hbind s₁ (.ref a)) (.cons rfl .nil) (hsp H hO hS)) λr s' h=>?_;cases r with
  | error e=>exact(hCX H e s' h).elim
  | ok fl=>
    cases fl with
    | next=>exact False.elim h
    | brk=>exact False.elim h
    | cont=>exact False.elim h
    | ret u=>
      obtain⟨v,H',os,bare,un,hok',r',q⟩:=h;have q':v = .bl true:=q;subst q';obtain rfl:u=Value.bool true:=r';refine⟨rfl,OldK.of_keep λb o e=>?_,os,bare⟩;cases q:H b with
      | none=>exact un.keep b o e q (by intro z;exact absurd (show b∈([]:List XU) from z) (by simp)) (by simp)
      | some u=>
        rcases hO b with z | ⟨ob,xs,z⟩
        ·rw[q]at z;cases z
        ·have z2:=un.frzs b ob _ z;obtain⟨e1,_⟩:=hok b _ z;obtain⟨e2,_⟩:=hok' b _ z2;rw[e]at e1;cases e1;exact e2
 cases hk:K.lookup a with
 | some o=>
   have e:=KX a o hk;rw[ha]at e;cases e;refine core (λ_=>none) (λ_ => .inl rfl) (.inr ⟨_,vs.toArray,_,hk,rfl,rfl,rfl,by rw[U6,lenV];exact hl,by simpa using rv⟩) (λb u z=>by have z':(none:Option HO)=some u:=z;cases z') (λb z=>absurd rfl z) λz=>absurd rfl z
 | none=>
   refine core (λb=>if b=a then some (.frz {cls := .type "list",data := .seq vs.toArray} (.lst (ns.map V.int))) else none) (λb=>?_) (.inl (.inr ⟨{cls := .type "list",data := .seq vs.toArray},iP rfl⟩)) (λb u z=>?_) (λb z=>?_) λ_=>hk
   ·by_cases hb:b=a
    ·exact .inr ⟨_,_,iP hb⟩
    ·exact .inl (iG hb)
   ·by_cases hb:b=a
    ·have z':=(iP hb).symm.trans z;cases z';subst hb;exact⟨ha,by rw[U4];exact hl,vs,_,rv,ha⟩
    ·have z':=(iG hb).symm.trans z;cases z'
   ·by_cases hb:b=a
    ·exact hb
    ·exact absurd (iG hb) z
theorem walk_of{l:PySem.W.OpenLaw}{n k:Nat}{q:XZ}{loose:List Str}{XP:(Str->Option XR)->Heap->Prop}{YP:Xd->Heap->Prop}{d:DefRec}{K:Params->U1}{CX:Xd->CXT}{sp:Xd->Sp}{x:Str}
 (hn:l.most=some n) (hn2:n<=XY) (hdf:d.params.defaults=[]) (hr:Room k callerA)
 (hY:∀(w:Xd) (h:Heap),YP w h->(K w.params).In h)
 (F:∀(w:Xd) (mg:Str->Option XR) (fa:XU) (h:Heap),(K w.params).In h->h.Ns Xc mg->mg d.name=some (.ref fa)->
   ∃ fd:Y8,(∀(s:XS) (u:XR),BindsTo s fd ⟨[u],[]⟩ [(x,u)])/\
    ∀ base:Heap,(K w.params).In base->base.Ns Xc mg->FnOk l.prog w (K w.params) mg base (CX w) k fa fd [x] (sp w))
 (hsp:∀(w:Xd) (H:Hp) (a:XU) (ns:List Int),ns.length<=n->NB H->SqL (K w.params) H a (ns.map V.int)->sp w [.ref a] H (λv _=>v = .bl true) λ_ _ _=>False)
 (hCX:∀(w:Xd) (H:Hp) (s:XS) (e:XR) (s':XS),CX w [] H s (λ_ _ _=>False) e s'->False):
 PySem.W.WalkO q loose XP YP l.row.toRowW d [] (λf vs=>PySem.call f vs):=by
 refine Att.attach_call hn hdf λw s₀ s₁ mg mb fa o pm cd doc a vs ns G Y ho hd hcd hmg hobj hints hlen hg=>?_;have KX:=hY w _ Y;obtain⟨fd,hb,hF⟩:=F w mg fa _ KX G.T.g hmg;exact Kd KX G.T.g G.T.b G.T.builtins G.T.nolimit hg hobj hints (UR hlen hn2) hr hF hb (λH hO hS=>hsp w H a ns hlen hO hS) λH e s'=>hCX w H s₁ e s'
noncomputable def defArgs(s:Stmt):Arguments:=match s with
 | .FunctionDef _ a _ _ _ _ _ _ _ _=>a
 | _=>{posonlyargs:=[],args:=[],vararg:=none,kwonlyargs:=[],kw_defaults:=[],kwarg:=none,defaults:=[]}
noncomputable def defBody(s:Stmt):List Stmt:=match s with
 | .FunctionDef _ _ b _ _ _ _ _ _ _=>b
 | _=>[]
noncomputable def defScope(s:Stmt):Xf:=match s with
 | .FunctionDef _ _ _ _ _ _ sc _ _ _=>sc
 | _=>{kind := .function,names:=[],isGenerator:=false,isCoroutine:=false}
noncomputable abbrev CX0:CXT:=λ_ _ _ _ _ _=>False
noncomputable abbrev E0:XK:=λ_ _ _=>False
theorem SB{X:Cx}:G9 CX0 X E0:=λ_ _ _ _ _ _ _ h=>h.elim
structure Fun(K:U1)(x qual:Str)(st:Stmt)(f:XU)(fd:Y8):Prop where
 ex:∃(oc:XR) (od:Option XU) (kV doc pm:XR) (an:Option XU) (cdv ct:XR) (osl:Array (Option XR)),
  fd=PySem.W.fnOf x qual (defArgs st) (defBody st) (defScope st) .none kV doc pm an cdv ct/\K.lookup f=some ⟨oc,od,.func fd,osl⟩/\PySem.W.codeIn K cdv qual=true
 kp:PySem.W.keepIn K (.ref f)=true
section
variable{P:XZ}{w:Xd}{K:U1}{mg:Str->Option XR}{base:Heap}
theorem Fun.ok{x qual:Str}{st:Stmt}{f:XU}{fd:Y8}{N ps:List Str}{k:Nat}{sp:Sp}(F:Fun K x qual st f fd)(S:FnScope N ps (defScope st))(len:∀ vs H Q E,sp vs H Q E->vs.length=ps.length)
 (hbody:∀(cdv:XR) (A:Xg) (outer:List Env) (s:XS) (H:Hp) (vs:List V) (Q:VK) (E:XK),Room k (A.deeper (envOfC qual (defScope st) s.heap.objs.size f cdv))->sp vs H Q E->
   ∃ t,PSs (GA CX0 P w K mg base N qual (defScope st) f cdv A outer s H E).nox (defBody st) t/\t {nx:=λ_ H'=>Q .non H',rt:=Q} (start N vs) H):FnOk P w K mg base CX0 (k+1) f fd ps sp:=by
 obtain⟨oc,od,kV,doc,pm,an,cdv,ct,osl,rfl,lk,hcd⟩:=F.ex;refine Rv lk hcd S len λA outer s H vs Q E hr hsp=>?_;obtain⟨t,h,q⟩:=hbody cdv A outer s H vs Q E hr hsp;exact⟨t,h.nox,q⟩
theorem Fun.binds{x qual:Str}{st:Stmt}{f:XU}{fd:Y8}{ps:List Str}(F:Fun K x qual st f fd)
 (h:∀(kV doc pm:XR) (an:Option XU) (cdv ct:XR) (us:List XR),us.length=ps.length->bindArgs (PySem.W.fnOf x qual (defArgs st) (defBody st) (defScope st) .none kV doc pm an cdv ct) ⟨us,[]⟩=pure (ps.zip us)):Binds K fd ps []:=by
 obtain⟨oc,od,kV,doc,pm,an,cdv,ct,osl,rfl,lk,hcd⟩:=F.ex;exact .all (h kV doc pm an cdv ct)
theorem GH{x qual:Str}{st:Stmt}{f:XU}{oc:XR}{od an:Option XU}{osl:Array (Option XR)}{kV doc pm cdv ct:XR}(l:K.lookup f=some ⟨oc,od,.func (PySem.W.fnOf x qual (defArgs st) (defBody st) (defScope st) .none kV doc pm an cdv ct),osl⟩)
 (c:PySem.W.codeIn K cdv qual=true) (k:PySem.W.keepIn K (.ref f)=true):Fun K x qual st f (PySem.W.fnOf x qual (defArgs st) (defBody st) (defScope st) .none kV doc pm an cdv ct):=⟨⟨oc,od,kV,doc,pm,an,cdv,ct,osl,rfl,l,c⟩,k⟩
end
theorem Iz{n:Nat}(h:n<=1000):n<XY:=VL h (by decide)
end L2
set_option maxHeartbeats 4000000
namespace L2
open PySem PySem.Spec PyProof.Rows
noncomputable def t8(env:Env):List (Str×Xt)->List (Str×XU)->List (Str×XU)
 | [],acc=>acc
 | (n,k)::r,acc=>if k == .free then t8 env r ((n,(env.cells.lookup n).getD 0)::acc) else t8 env r acc
theorem AX{env:Env}{scope:Xf}(h:∀ x∈scope.names,x.2 = .free->∃ c,env.cells.lookup x.1=some c):closureFor scope env=pure (t8 env scope.names []):=by
 unfold closureFor
 have go:∀(names:List (Str×Xt)) (acc:List (Str×XU)),(∀ x∈names,x.2 = .free->∃ c,env.cells.lookup x.1=some c)->
  (forIn names acc λx r=>match x with
    | (name,kind)=>if (kind == NameKind.free)=true then do let __do_lift <- cellOf env name;pure (ForInStep.yield ((name,__do_lift)::r)) else pure (ForInStep.yield r):Sem (List (Str×XU)))=pure (t8 env names acc):=by
  intro names
  induction names with
  | nil=>intro acc _;rfl
  | cons x r ih=>
    intro acc hx;obtain⟨n,k⟩:=x;rw[WV];have hr:=λy hy=>hx y (UE _ hy);by_cases hk:k = .free
    ·subst hk;obtain⟨c,hc⟩:=hx (n,.free) UG rfl;have hc':env.cells.lookup n=some c:=hc;unfold t8;simp only[beq_self_eq_true,if_true,cellOf,hc',WB,pure_bind];exact ih _ hr
    ·have hb:(k == NameKind.free)=false:=by simpa using hk
     unfold t8;simp only[hb,Vi,if_false,pure_bind];exact ih _ hr
 have:=go scope.names [] h;simp only[this]
 first | rfl | simp
theorem Bk{env:Env}:∀(names:List (Str×Xt)) (acc:List (Str×XU)),(∀ x∈names,x.2 = .free->∃ c,env.cells.lookup x.1=some c)->(∀ p∈acc,env.cells.lookup p.1=some p.2)->
 ∀ p∈t8 env names acc,env.cells.lookup p.1=some p.2
 | [],_,_,ha,p,hp=>ha p hp
 | (n,k)::r,acc,h,ha,p,hp=>by
   unfold t8 at hp;have hr:=λy hy=>h y (UE _ hy);split at hp
   ·rename_i hk;have hk:k = .free:=by simpa using hk
    obtain⟨c,hc⟩:=h (n,k) UG hk;have hc':env.cells.lookup n=some c:=hc;refine Bk r _ hr (λq hq=>?_) p hp;rcases UH.mp hq with rfl | hq
    ·show env.cells.lookup n=some ((env.cells.lookup n).getD 0);rw[hc'];rfl
    ·exact ha q hq
   ·exact Bk r acc hr ha p hp
theorem Bm{env:Env}:∀(names:List (Str×Xt)) (acc:List (Str×XU)),∀ p∈acc,p∈t8 env names acc
 | [],_,_,hp=>hp
 | (n,k)::r,acc,p,hp=>by
   unfold t8;split
   ·exact Bm r _ p (UE _ hp)
   ·exact Bm r acc p hp
theorem Bn{env:Env}:∀(names:List (Str×Xt)) (acc:List (Str×XU)) (n:Str),(n,NameKind.free)∈names->∃ c,(n,c)∈t8 env names acc
 | (m,k)::r,acc,n,hn=>by
   unfold t8;rcases UH.mp hn with e | hn
   ·cases e;simp only[beq_self_eq_true,if_true];exact⟨_,Bm r _ _ UG⟩
   ·split
    ·exact Bn r _ n hn
    ·exact Bn r _ n hn
theorem As{env:Env}:∀(names:List (Str×Xt)) (acc:List (Str×XU)),∀ p∈t8 env names acc,p∈acc\/(p.1,NameKind.free)∈names
 | [],_,_,hp => .inl hp
 | (n,k)::r,acc,p,hp=>by
   unfold t8 at hp;split at hp
   ·rename_i hk;have hk:k = .free:=by simpa using hk
    subst hk;rcases As r _ p hp with z | z
    ·rcases UH.mp z with rfl | z
     ·exact .inr UG
     ·exact .inl z
    ·exact .inr (UE _ z)
   ·rcases As r _ p hp with z | z
    ·exact .inl z
    ·exact .inr (UE _ z)
theorem v9:∀(names:List (Str×Xt)) (n:Nat) (acc:List (Str×XU)),∀ p∈Xu n names acc,p∈acc\/(n<=p.2/\(p.1,NameKind.cell)∈names)
 | [],_,_,_,hp => .inl hp
 | (x,k)::r,n,acc,p,hp=>by
   unfold Xu at hp;split at hp
   ·rename_i hk;have hk:k = .cell:=by simpa using hk
    subst hk;rcases v9 r (n+1) _ p hp with z | ⟨z,w⟩
    ·rcases UH.mp z with rfl | z
     ·exact .inr ⟨U9 _,UG⟩
     ·exact .inl z
    ·exact .inr ⟨Nat.le_of_succ_le z,UE _ w⟩
   ·rcases v9 r n acc p hp with z | ⟨z,w⟩
    ·exact .inl z
    ·exact .inr ⟨z,UE _ w⟩
theorem w4:∀(names:List (Str×Xt)) (n:Nat) (acc:List (Str×XU)),∀ p∈acc,p∈Xu n names acc
 | [],_,_,_,hp=>hp
 | (x,k)::r,n,acc,p,hp=>by
   unfold Xu;split
   ·exact w4 r _ _ p (UE _ hp)
   ·exact w4 r _ _ p hp
theorem AQ:∀(names:List (Str×Xt)) (n:Nat) (acc:List (Str×XU)) (x:Str),(x,NameKind.cell)∈names->∃ c,(x,c)∈Xu n names acc
 | (y,k)::r,n,acc,x,hx=>by
   unfold Xu;rcases UH.mp hx with e | hx
   ·cases e;simp only[beq_self_eq_true,if_true];exact⟨_,w4 r _ _ _ UG⟩
   ·split
    ·exact AQ r _ _ x hx
    ·exact AQ r _ _ x hx
theorem AR:∀(names:List (Str×Xt)) (h:Heap) (acc:List (Str×XU)),∀ p∈Xu h.objs.size names acc,p∈acc\/(ZK h names).IsCell p.2 none
 | [],_,_,_,hp => .inl hp
 | (x,k)::r,h,acc,p,hp=>by
   unfold Xu at hp;unfold ZK;split at hp
   ·rename_i hk;rw[iP hk];have:=AR r (h.push {cls := .type "cell",data := .cell none}) ((x,h.objs.size)::acc) p (by rw[Uc];exact hp);rcases this with z | z
    ·rcases UH.mp z with rfl | z
     ·exact .inr ⟨_,Yp _ _ _ _ (U8 _ rfl),rfl⟩
     ·exact .inl z
    ·exact .inr z
   ·rename_i hk;rw[iG hk];exact AR r h acc p hp
theorem y9:∀(names:List (Str×Xt)) (n:Nat) (acc:List (Str×XU)),(acc.Pairwise λx y=>x.2≠y.2)->(∀ p∈acc,p.2<n)->(Xu n names acc).Pairwise λx y=>x.2≠y.2
 | [],_,_,h,_=>h
 | (x,k)::r,n,acc,h,hl=>by
   unfold Xu;split
   ·refine y9 r (n+1) _ (VM.mpr ⟨λy hy e=>?_,h⟩) λp hp=>?_
    ·have h1:=hl y hy;have e':n=y.2:=e;exact absurd h1 (by rw[<-e'];exact VI _)
    ·rcases UH.mp hp with rfl | hp
     ·exact Vc _
     ·exact V7 (hl p hp)
   ·exact y9 r n acc h hl
theorem At{env:Env}(inj:∀ x y c,env.cells.lookup x=some c->env.cells.lookup y=some c->x=y):∀(names:List (Str×Xt)) (acc:List (Str×XU)),(names.map (·.1)).Nodup->
 (∀ x∈names,x.2 = .free->∃ c,env.cells.lookup x.1=some c)->(acc.Pairwise λx y=>x.2≠y.2)->(∀ p∈acc,env.cells.lookup p.1=some p.2/\p.1∉names.map (·.1))->(t8 env names acc).Pairwise λx y=>x.2≠y.2
 | [],_,_,_,h,_=>h
 | (n,k)::r,acc,nd,hf,h,ha=>by
   unfold t8;have nd':=VP.mp nd;have hr:=λy hy=>hf y (UE _ hy);split
   ·rename_i hk;have hk:k = .free:=by simpa using hk
    obtain⟨c,hc⟩:=hf (n,k) UG hk;have hc':env.cells.lookup n=some c:=hc;refine At inj r _ nd'.2 hr (VM.mpr ⟨λy hy e=>?_,h⟩) λp hp=>?_
    ·have e':(env.cells.lookup n).getD 0=y.2:=e;rw[hc']at e';have e2:c=y.2:=e';have q:=(ha y hy).1;have:=inj n y.1 c hc' (by rw[e2];exact q);exact(ha y hy).2 (by rw[<-this];exact UG)
    ·rcases UH.mp hp with rfl | hp
     ·refine⟨?_,nd'.1⟩;show env.cells.lookup n=some ((env.cells.lookup n).getD 0);rw[hc'];rfl
     ·exact⟨(ha p hp).1,λz=>(ha p hp).2 (UE _ z)⟩
   ·exact At inj r acc nd'.2 hr h λp hp=>⟨(ha p hp).1,λz=>(ha p hp).2 (UE _ z)⟩
theorem t9{env:Env}:∀(names:List (Str×Xt)) (x:Str),
 (names.map λ(n,k)=>if (k == NameKind.free&&env.scope.kind == .function&&env.kindOf n == some .cell) then (n,NameKind.cell) else (n,k)).lookup x=
   (names.lookup x).map λk=>if (k == NameKind.free&&env.scope.kind == .function&&env.kindOf x == some .cell) then NameKind.cell else k
 | [],x=>rfl
 | (n,k)::r,x=>by
   have ih:=t9 (env:=env) r x;rw[UT];show WZ x ((if (k == NameKind.free&&env.scope.kind == .function&&env.kindOf n == some .cell)=true then (n,NameKind.cell) else (n,k))::_)=_;split
   ·rename_i hc;rw[V4,V4];cases hx:x == n with
    | false=>exact ih
    | true=>
      have e:x=n:=by simpa using hx
      subst e;simp only[VF];rw[iP hc]
   ·rename_i hc;rw[V4,V4];cases hx:x == n with
    | false=>exact ih
    | true=>
      have e:x=n:=by simpa using hx
      subst e;simp only[VF];rw[iG hc]
theorem j7{α:Type}:∀{l:List (Str×α)} {n:Str} {c:α},(l.map (·.1)).Nodup->(n,c)∈l->l.lookup n=some c
 | (k,v)::r,n,c,nd,h=>by
   have nd':=VP.mp nd;rw[V4];rcases UH.mp h with e | h2
   ·cases e;simp
   ·cases hb:n == k with
    | true=>
      have e:n=k:=by simpa using hb
      exact absurd (Um.mpr ⟨(n,c),h2,e⟩:k∈r.map (·.1)) nd'.1
    | false=>exact j7 nd'.2 h2
theorem BC{α:Type}:∀{l:List (Str×α)} {n:Str} {c:α},(n,c)∈l->∃ d,l.lookup n=some d
 | (k,v)::r,n,c,h=>by
   rw[V4];cases hb:n == k with
   | true=>exact⟨v,rfl⟩
   | false=>
     rcases UH.mp h with e | h
     ·cases e;simp at hb
     ·exact BC h
noncomputable abbrev j4(X:Cx)(scope:Xf)(N':List Str)(s2:XS)(H2:Hp)(cs:List (Str×XU))(C:XU)(fp:List XU):Cx where
 prog:=X.prog
 w:=X.w
 K:=X.K
 mg:=X.mg
 base:=X.base
 A:=X.A
 N:=N'
 s₀:=s2
 H₀:=H2
 env:=Yg scope cs C X.env
 outer:=X.stack
 stack:=X.stack
 ex:=fp
 fn:=λx=>scope.names.lookup x == some .cell
 calm:=X.calm
 pn:=X.pn
 xe:=λ_ _=>False
noncomputable def v8(sc0 sc:Xf)(own cn N:List Str)(js:List Nat):Bool:=
 (decide (sc.kind = .function))&&(sc.names.all λx=>!decide (x.2 = .free)||decide (sc0.names.lookup x.1=some .cell)||decide (sc0.names.lookup x.1=some .free))
 && decide ((sc.names.map (·.1)).Nodup)&&(own.all λx=>decide (sc.names.lookup x=some .local)||decide (sc.names.lookup x=some .cell))&&(cn.all λx=>decide (sc.names.lookup x=some .free))
 && decide ((own++cn).Nodup)&&decide (js.map (λj=>N[j]?)=cn.map some)
noncomputable def Ap(k:Nat)(js:List Nat)(σ:St):St:=UO k none++js.map λj=>(σ[j]?).join
noncomputable def DK(X:Cx)(ifs:List Expr)(t:TT):Prop:=
 ∀(pq:List (XU×Obj)) (s:XS) (σ:St) (H:Hp) (Q:Bool->Hp->Prop),Inv X pq σ H s->t σ H Q->
  XW (XX X.prog X.w) X.A (forIn ifs true λc r=>if r=true then do let ok <- isTrue c X.env (eval c X.env);pure (ForInStep.yield ok) else pure (ForInStep.yield r)) (TP X pq σ Q) X.xe s
theorem Ke{X:Cx}:DK X [] (λ_ H Q=>Q true H):=λ_ _ _ H _ I h=>wpAny_tests_nil ⟨H,I,h⟩
theorem Kf{X:Cx}{c:Expr}{t:TT}(h:PT X c t):DK X [c] t:=λpq s σ H Q I hw=>wpAny_tests_one (h pq s σ H Q I hw)
theorem Kg{M:Model}{A:Xg}{E:XR->XS->Prop}{s:XS}{scope:Xf}{env:Env}{cl:List (Str×XU)}{Q:Env->XS->Prop}
 (h:Q (newEnv scope s.heap.objs.size env.globals (Xu (s.heap.objs.size+1) scope.names cl) env.qual none .none (some env) Z7) {s with heap:=ZK (s.heap.push {cls := .type "dict",data := .dict #[]}) scope.names}):
 XW M A (YV scope env.globals cl [] env.qual none .none (some env)) Q E s:=by
 simp only[YV,Wi,if_true];refine XQ (wpAny_alloc ?_);refine XQ (wpAny_layCells _ (λname kind cells=>by cases hkc:kind == NameKind.cell<;>simp[hkc]) _ _ _ _ ?_);rw[show({s with heap:=s.heap.push {cls := .type "dict",data := .dict #[]}}:XS).heap.objs.size=s.heap.objs.size+1 from Uc ..];refine XQ ?_;rw[Wa];exact XT (XT h)
structure CForm(prog:XZ)(w:Xd)(A:Xg)(E tg iter:Expr)(ifs:List Expr)(emit:XR->Env->Sem Unit)(dp:Nat:=0):Prop where
 turn:∀(it:XR) (D:XU) (env:Env),compTurn E dp it (.ref D) env=(do
  standAt iter.pos
  match <- pyNext it with
  | none=>pure (.done .next)
  | some v=>
    YF tg it v
    assign tg env v
    let mut ok:=true
    for c in ifs do
     if ok then ok <- isTrue c env (eval c env)
    if ok then emit (.ref D) env
    again (.compLoop E dp it (.ref D) env))
 und:∀(it acc:XR) (env:Env),A.under (.compLoop E dp it acc env)=A
 den:∀(it acc:XR) (env:Env),(XX prog w).den (.compLoop E dp it acc env)=(compTurn E dp it acc env).onRaise (λx=>do noteFrame x env;theTreesLotGoes x)
 start:∀{R:Result->XS->Prop} {s:XS} {it acc:XR} {env:Env},codeAny (XX prog w) A (.compLoop E dp it acc env) R s->XW (XX prog w) A (pyIter it) (λit' s'=>codeAny (XX prog w) A (.compLoop E dp it' acc env) R s') (notedBy (XX prog w) A env λx s'=>R (.error x) s') s->
  codeAny (XX prog w) A (.compStart E dp it acc env) R s
theorem CForm.loop{prog:XZ}{w:Xd}{A:Xg}{E tg iter:Expr}{ifs:List Expr}{emit:XR->Env->Sem Unit}{dp:Nat}(F:CForm prog w A E tg iter ifs emit dp){R:Result->XS->Prop}{s:XS}{it:XR}{D:XU}{env:Env}(I:Nat->XS->Prop)
 (turn:∀ n s,I n s->XW (XX prog w) A (pyNext it) (λr s₁=>match r with
   | none=>R (.ok .next) s₁
   | some v=>XW (XX prog w) A (YF tg it v) (λ_ s₁'=>XW (XX prog w) A (assign tg env v) (λ_ s₂=>
      XW (XX prog w) A (forIn ifs true λc r=>if r=true then do let ok <- isTrue c env (eval c env);pure (ForInStep.yield ok) else pure (ForInStep.yield r)) (λok s₃=>
       if ok=true then XW (XX prog w) A (emit (.ref D) env) (λ_ s₅=>∃ m,m<n/\I m s₅) (λ_ _=>False) s₃
       else ∃ m,m<n/\I m s₃) (λ_ _=>False) s₂) (λ_ _=>False) s₁') (λ_ _=>False) s₁) (λ_ _=>False) s)
 (n:Nat) (h:I n s):
 codeAny (XX prog w) A (.compLoop E dp it (.ref D) env) R s:=by
 refine codeAny_loop rfl I (λn s hI=>?_) n h;rw[F.und,F.den];refine wpAny_noted ?_;rw[F.turn];refine XQ (YQ (XQ (YA (turn n s hI) (λr s₁ h₁=>?_) λ_ _ h'=>False.elim h')));cases r with
 | none=>exact XT h₁
 | some v=>
   refine XQ (YA h₁ (λ_ s₁' h₁'=>?_) λ_ _ h'=>False.elim h');refine XQ (YA h₁' (λ_ s₂ h₂=>XQ (YA h₂ (λok s₃ h₃=>?_) λ_ _ h'=>False.elim h')) λ_ _ h'=>False.elim h');cases ok with
   | false=>exact XT ⟨rfl,h₃⟩
   | true=>exact XQ (YA h₃ (λ_ s₅ h₅=>XT ⟨rfl,h₅⟩) λ_ _ h'=>False.elim h')
noncomputable def QD{α:Type}(J:It)(g:TG)(tt:TT)(tem:α->St->Hp->(α->Hp->Prop)->Prop)(σ':St)(Q:Hp->Prop)(W:Nat->Nat->α->Hp->Prop):Prop:=
 ∀ i m a H,W i m a H->(J.stop i H/\Q H)\/(J.go i H/\∃ N:α->Hp->Prop,(∀ a' H',N a' H'->∃ m',m'<m/\W (i+1) m' a' H')/\∀ x H',J.yld i H x H'->g x σ' H' λσ2 H2=>tt σ2 H2 λb H3=>if b=true then tem a σ2 H3 N else N a H3)
noncomputable def SC(elt:Expr)(acc:XR)(env:Env):Sem Unit:=do
 let x <- eval elt env
 let _ <- call (.builtin "list.append") [acc,x]
theorem GI{prog:XZ}{w:Xd}{A:Xg}{elt tg iter:Expr}{ifs:List Expr}{scope:Xf}{pos:Pos}:CForm prog w A (.ListComp elt [⟨tg,iter,ifs,0⟩] scope pos) tg iter ifs (SC elt) where
 turn:=λ_ _ _=>compTurn_list ..
 und:=λ_ _ _=>rfl
 den:=λ_ _ _=>rfl
 start:=λh0 h=>codeAny_compStart_list h0 h
noncomputable def Tc(te:TE)(D:XU)(ys:List V)(σ:St)(H:Hp)(N:List V->Hp->Prop):Prop:=te σ H λv H4=>H4 D=some (.lst ys)/\ys.length<XY/\N (ys++[v]) (upd H4 D (.lst (ys++[v])))
noncomputable def P0(J:It)(g:TG)(tt:TT)(te:TE)(D:XU)(σ':St)(Q:List V->Hp->Prop)(W:Nat->Nat->List V->Hp->Prop):Prop:=
 ∀ i m ys H,W i m ys H->(J.stop i H/\Q ys H)\/(J.go i H/\∃ N:List V->Hp->Prop,(∀ ys' H',N ys' H'->∃ m',m'<m/\W (i+1) m' ys' H')/\∀ x H',J.yld i H x H'->g x σ' H' λσ2 H2=>tt σ2 H2 λb H3=>
  if b=true then te σ2 H3 λv H4=>H4 D=some (.lst ys)/\ys.length<XY/\N (ys++[v]) (upd H4 D (.lst (ys++[v]))) else N ys H3)
noncomputable def Kh(wi:TI)(g:TG)(tt:TT)(te:TE)(k:Nat)(js:List Nat):TE:=λσ H Q=>wi σ H λJ H1=>∀ D,H1 D=none->
 ∃ W:Nat->Nat->List V->Hp->Prop,(∃ m,W 0 m [] (upd H1 D (.lst [])))/\P0 J g tt te D (Ap k js σ) (λ_ H=>Q (.ref D) H) W
section
variable{X:Cx}{pq:List (XU×Obj)}{σ:St}{H2:Hp}{s2:XS}{tg elt iter:Expr}{ifs:List Expr}{scope:Xf}{pos:Pos}{own cn:List Str}{js:List Nat}{g:TG}{tt:TT}{te:TE}
theorem Eu{α:Type}{E:Expr}{emit:XR->Env->Sem Unit}{mk:Sem XR}{o0:Obj}{u0:HO}{a0:α}{tem:XU->α->St->Hp->(α->Hp->Prop)->Prop}(F:CForm X.prog X.w X.A E tg iter ifs emit)(hmk:∀{Q:XR->XS->Prop},Q (.ref s2.heap.objs.size) {s2 with heap:=s2.heap.push o0}->XW (XX X.prog X.w) X.A mk Q X.xe s2)(nf0:o0.isFreed=false)(new0:∀(H:Hp) (h:Heap),h.get? s2.heap.objs.size=some o0->ObjOk X.prog X.w H h s2.heap.objs.size u0)(hok:v8 X.env.scope scope own cn X.N js=true)(hc:X.calm=true)
 (hg:∀ s2 H2 cs C fp,PG (j4 X scope (own++cn) s2 H2 cs C fp) tg g) (ht:∀ s2 H2 cs C fp,DK (j4 X scope (own++cn) s2 H2 cs C fp) ifs tt) (hem:∀ D s2 H2 cs C fp pq s σ H (a:α) (N:α->Hp->Prop),Inv (j4 X scope (own++cn) s2 H2 cs C fp) pq σ H s->tem D a σ H N->XW (XX X.prog X.w) X.A (emit (.ref D) (Yg scope cs C X.env)) (λ_ s1=>∃ σ1 a1 H1,Inv (j4 X scope (own++cn) s2 H2 cs C fp) pq σ1 H1 s1/\N a1 H1) (λ_ _=>False) s)
 (I2:Inv X pq σ H2 s2) {it:XU} {fp:List XU} {tn:Nat->Heap->Prop} {J:It} (T:Turn X.prog X.w X.K tg J fp it tn) (st2:tn 0 s2.heap) (f2:∀ b∈fp,FpOk X pq H2 b)
 {Qe:Hp->Prop} (hW:∃ W:Nat->Nat->α->Hp->Prop,(∃ m,W 0 m a0 (upd H2 s2.heap.objs.size u0))/\QD J g tt (tem s2.heap.objs.size) (Ap own.length js σ) Qe W)
 {RR:XR->XU->Result->XS->Prop}
 (hRR:∀ C H' s',Inv X pq σ H' s'->FpOk X pq H' C->(∃ m,s'.heap.Ns C m)->Qe H'->RR (.ref s2.heap.objs.size) C (.ok .next) s'):
 XW (XX X.prog X.w) X.A mk (λacc s₃=>XW (XX X.prog X.w) X.A (YV scope X.env.globals (t8 X.env scope.names []) [] X.env.qual none .none (some X.env)) (λcenv s₄=>
  codeAny (XX X.prog X.w) X.A (.compStart E 0 (.ref it) acc {cenv with scope:=relabel scope X.env}) (RR acc cenv.locals) s₄) X.xe s₃) X.xe s2:=by
 unfold v8 at hok;simp only[U2,dQ,US,Uh,UN,decide_eq_false_iff_not]at hok;obtain⟨⟨⟨⟨⟨⟨k1,k2⟩,k3⟩,k4⟩,k5⟩,k6⟩,k7⟩:=hok
 have hfreeK:∀ x∈scope.names,x.2 = .free->X.env.kindOf x.1=some .cell\/X.env.kindOf x.1=some .free:=λx hx hf=>by
  rcases k2 x hx with(z | z) | z
  ·exact absurd hf z
  ·exact .inl z
  ·exact .inr z
 have hfree:∀ x∈scope.names,x.2 = .free->∃ c,X.env.cells.lookup x.1=some c:=λx hx hf=>I2.ok.has x.1 (hfreeK x hx hf);refine hmk (Kg ?_);have hsz3:(s2.heap.push o0).objs.size=s2.heap.objs.size+1:=Uc ..;dsimp only;generalize hh3:s2.heap.push o0=h3 at hsz3 ⊢;have old3:∀ b o,s2.heap.get? b=some o->h3.get? b=some o:=λb o e=>hh3▸U3 _ e;have hD3:h3.get? s2.heap.objs.size=some o0:=hh3▸U8 _ nf0;generalize hcs:Xu (h3.objs.size+1) scope.names (t8 X.env scope.names [])=cs;generalize hh4:ZK (h3.push {cls := .type "dict",data := .dict #[]}) scope.names=h4;have old4:∀ b o,h3.get? b=some o->h4.get? b=some o:=λb o e=>hh4▸Yp _ _ b o (U3 _ e);have old:∀ b o,s2.heap.get? b=some o->h4.get? b=some o:=λb o e=>old4 b o (old3 b o e);have hD4:h4.get? s2.heap.objs.size=some o0:=old4 _ _ hD3;have hNs:h4.Ns h3.objs.size (λ_=>none):=hh4▸(Heap.Ns.new h3 (.type "dict")).keeps (Yp _ _);generalize hC:h3.objs.size=C at hNs hcs ⊢;have hCD:@Eq Nat C (s2.heap.objs.size+1):=by rw[<-hC];exact hsz3
 have clM:=Bk (env:=X.env) scope.names [] hfree (λp hp=>absurd hp (by simp));have cellLt:∀ x c,X.env.cells.lookup x=some c->@LT.lt Nat _ c s2.heap.objs.size:=λx c e=>by obtain⟨v,z⟩:=I2.cell x c e;exact z.lt
 have apart:cs.Pairwise λx y=>x.2≠y.2:=by
  rw[<-hcs];refine y9 _ _ _ (At I2.ok.inj scope.names [] k3 hfree List.Pairwise.nil λp hp=>absurd hp (by simp)) λp hp=>?_;have:=cellLt _ _ (clM p hp);show @LT.lt Nat _ p.2 (C+1);omega
 have csM:∀ p∈cs,X.env.cells.lookup p.1=some p.2\/(C+1<=p.2/\(p.1,NameKind.cell)∈scope.names/\h4.IsCell p.2 none):=λp hp=>by
  have hp0:=hp;rw[<-hcs]at hp;rcases v9 _ _ _ p hp with z | ⟨z,y⟩
  ·exact .inl (clM p z)
  ·have e:h3.objs.size+1=(h3.push {cls := .type "dict",data := .dict #[]}).objs.size:=by rw[Uc]
   have hp':=hp;rw[<-hC,e]at hp';rcases AR _ _ _ p hp' with q | q
   ·exact .inl (clM p q)
   ·exact .inr ⟨z,y,hh4▸q⟩
 have hX:(j4 X scope (own++cn) s2 H2 cs C fp).Ok:=by
  refine⟨I2.ok.mod,k1,I2.ok.glob,I2.ok.blt,by show @LE.le Nat _ s2.heap.objs.size C;omega,λx y c h1 h2=>name_of_addr apart (PySem.mem_of_lookup h1) (PySem.mem_of_lookup h2),λx hx=>?_,λx c hf hx=>?_,I2.ok.hd,I2.ok.frames,.inl rfl,λb hb=>?_,I2.bs,UR I2.ok.bsz I2.sz,λb o e hb=>?_,λb hb hf=>?_,I2.stack,I2.stkFree⟩
  ·have hx':(relabel scope X.env).names.lookup x=some .cell\/(relabel scope X.env).names.lookup x=some .free:=hx
   have hl:scope.names.lookup x=some .cell\/scope.names.lookup x=some .free:=by
    unfold relabel at hx';dsimp only at hx';rw[t9]at hx';cases e:scope.names.lookup x with
    | none=>rw[e]at hx';simp at hx'
    | some k=>
      rw[e]at hx';cases k<;>simp_all
   have:∃ c,(x,c)∈cs:=by
    rw[<-hcs];rcases hl with hl | hl
    ·exact AQ _ _ _ x (PySem.mem_of_lookup hl)
    ·obtain⟨c,hc'⟩:=Bn (env:=X.env) scope.names [] x (PySem.mem_of_lookup hl);exact⟨c,w4 _ _ _ _ hc'⟩
   obtain⟨c,hm⟩:=this;exact BC hm
  ·have hf':scope.names.lookup x=some .cell:=by simpa using hf
   have hm:=PySem.mem_of_lookup (show cs.lookup x=some c from hx);rcases csM _ hm with z | ⟨z,_⟩
   ·
    rw[<-hcs]at hm;rcases v9 _ _ _ _ hm with q | ⟨q,_⟩
    ·rcases As (env:=X.env) scope.names [] _ q with q' | q'
     ·exact absurd q' (by simp)
     ·have:=j7 k3 q';have h2:scope.names.lookup x=some .free:=this;rw[hf']at h2;cases h2
    ·show @LE.le Nat _ s2.heap.objs.size c;have q2:@LE.le Nat _ (C+1) c:=q;omega
   ·show @LE.le Nat _ s2.heap.objs.size c;have z2:@LE.le Nat _ (C+1) c:=z;omega
  ·obtain⟨f0,f1,f2',f3,f4,f5⟩:=f2 b hb;obtain⟨o,ho,_⟩:=T.obj 0 _ st2 b hb;have hb2:@LT.lt Nat _ b s2.heap.objs.size:=U5 ho;refine⟨?_,λx c e=>?_⟩
   ·show @Ne Nat b C;omega
   ·rcases csM _ (PySem.mem_of_lookup (show cs.lookup x=some c from e)) with z | ⟨z,_⟩
    ·exact f4 x c z
    ·have z2:@LE.le Nat _ (C+1) c:=z;show @Ne Nat c b;omega
  ·obtain⟨f0,f1,f2',f3,f4,f5⟩:=f2 b hb;rcases f3 with z | z
   ·exact I2.ok.noex b o e z
   ·exact absurd (UP (U5 e) (UR I2.ok.bsz z)) (VI _)
  ·obtain⟨f0,f1,f2',_⟩:=f2 b hb;rcases UH.mp (I2.stkSub b hf) with z | z
   ·exact f1 z
   ·exact f2' z
 have hDn:H2 s2.heap.objs.size=none:=I2.fresh;have hCn:H2 C=none:=I2.hok.fresh (show @LE.le Nat _ s2.heap.objs.size C by omega)
 have stkNe:∀ b,b≠X.env.locals->b∉X.fs->b∉frs X.stack:=λb h1 h2 hb=>by
  rcases UH.mp (I2.stkSub b hb) with z | z
  ·exact h1 z
  ·exact h2 z
 have I4:Inv (j4 X scope (own++cn) s2 H2 cs C fp) pq (Ap own.length js σ) (upd H2 s2.heap.objs.size u0) {s2 with heap:=h4}:=by
  refine⟨hX,rfl,I2.bare,Un.laid old (U9 _) hDn,⟨λ_=>none,hNs,λi x v e1 e2 e3=>?_⟩,λx c e=>?_,?_,λx c e=>?_,λp hp=>?_,I2.hok.laid old (U9 _) (new0 _ _ hD4),?_⟩
  ·
   have hi:own.length<=i:=by
    rcases VR i own.length with z | z
    ·exfalso;unfold Ap at e2;rw[UM (by simpa using z),V3,iP z]at e2;cases e2
    ·exact z
   have e1':cn[i - own.length]?=some x:=by
    have:(own++cn)[i]?=some x:=e1;rw[Uj hi]at this;exact this
   have e2':(js.map λj=>(σ[j]?).join)[i - own.length]?=some (some v):=by
    unfold Ap at e2;rw[Uj (by simpa using hi)]at e2;simpa using e2
   rw[UJ]at e2';cases hj:js[i - own.length]? with
   | none=>rw[hj]at e2';cases e2'
   | some j=>
     rw[hj]at e2';have e2'':(σ[j]?).join=some v:=by simpa using e2'
     have hσ:σ[j]?=some (some v):=by
      cases q:σ[j]? with
      | none=>rw[q]at e2'';cases e2''
      | some z=>rw[q]at e2'';simp at e2'';rw[e2'']
     have hNx:X.N[j]?=some x:=by
      have:=congrArg (λl=>l[i - own.length]?) k7;simp only[UJ,hj,e1',VF]at this;exact oj this
     have hfx:scope.names.lookup x=some .free:=k5 x (UC e1');have hK:=hfreeK (x,.free) (PySem.mem_of_lookup hfx) rfl;have hK':X.env.kindOf x=some .cell\/X.env.kindOf x=some .free:=hK;obtain⟨m,hn,hl⟩:=I2.loc
     have hvis:Vis X.env.scope x:=by
      rcases hK' with z | z
      ·exact .inr (.inl z)
      ·exact .inr (.inr z)
     obtain⟨u,r,l⟩:=hl j x v hNx hσ hvis;refine⟨u,r,.inr ?_⟩;rcases l with⟨l1,_⟩ | ⟨l1,c,l2,l3⟩
     ·rcases hK' with z | z
      ·rw[z]at l1;cases l1
      ·rw[z]at l1;cases l1
     ·have hrl:(Yg scope cs C X.env).kindOf x=some .cell\/(Yg scope cs C X.env).kindOf x=some .free:=by
       show(relabel scope X.env).names.lookup x=_\/(relabel scope X.env).names.lookup x=_;unfold relabel;dsimp only;rw[t9,hfx];simp only[VF];split
       ·exact .inl rfl
       ·exact .inr rfl
      refine⟨hrl,c,?_,l3.keeps λb o e=>old b o e⟩;show cs.lookup x=some c;obtain⟨c',hc'⟩:=hX.has x hrl;have hc2:cs.lookup x=some c':=hc';rw[hc2];have hm:=PySem.mem_of_lookup hc2
      have:X.env.cells.lookup x=some c':=by
       rcases csM _ hm with z | ⟨_,z,_⟩
       ·exact z
       ·have:=j7 k3 z;have h2:scope.names.lookup x=some .cell:=this;rw[hfx]at h2;cases h2
      rw[l2]at this;exact this.symm
  ·rcases csM _ (PySem.mem_of_lookup (show cs.lookup x=some c from e)) with z | ⟨_,_,z⟩
   ·obtain⟨v,q⟩:=I2.cell _ _ z;exact⟨v,q.keeps λb o e=>old b o e⟩
   ·exact⟨none,z⟩
  ·show upd H2 s2.heap.objs.size u0 C=none;rw[e8 (show @Ne Nat C s2.heap.objs.size by omega)];exact hCn
  ·have hne:c≠s2.heap.objs.size/\H2 c=none:=by
    rcases csM _ (PySem.mem_of_lookup (show cs.lookup x=some c from e)) with z | ⟨z,_,_⟩
    ·exact⟨UF (cellLt _ _ z),I2.freeC _ _ z⟩
    ·have z2:@LE.le Nat _ (C+1) c:=z;exact⟨show @Ne Nat c s2.heap.objs.size by omega,I2.hok.fresh (show @LE.le Nat _ s2.heap.objs.size c by omega)⟩
   rw[e8 hne.1];exact hne.2
  ·obtain⟨e,n,ne,nf,d⟩:=I2.pin p hp;have hlt:@LT.lt Nat _ p.1 s2.heap.objs.size:=U5 e;refine⟨old _ _ e,?_,?_,stkNe _ ne nf,d⟩
   ·rw[e8 (UF hlt)];exact n
   ·show @Ne Nat p.1 C;omega
  ·show(Ap own.length js σ).length=(own++cn).length;unfold Ap;have hl:=congrArg WX k7;simp only[U4]at hl;simp[hl]
 have stat:∀{H':Hp},(∀ b∈fp,H' b=none)->∀ b∈fp,FpOk (j4 X scope (own++cn) s2 H2 cs C fp) pq H' b:=λhn b hb=>by
  obtain⟨f0,f1,f2',f3,f4,f5⟩:=f2 b hb;exact⟨hn b hb,(hX.exf b hb).1,stkNe b f1 f2',.inl hb,λx c e=>(hX.exf b hb).2 x c e,f5⟩
 have back:∀{σ':St} {H':Hp} {s':XS},Inv (j4 X scope (own++cn) s2 H2 cs C fp) pq σ' H' s'->Inv X pq σ H' s':=λ{σ' H' s'} J'=>
  I2.call' (ch:=fp) J'.os J'.base J'.hok J'.bare λb hb=>by
   obtain⟨f0,f1,f2',f3,f4,f5⟩:=f2 b hb;exact⟨f3,f1,f4,f5⟩
 obtain⟨W,⟨m0,w0⟩,turn⟩:=hW
 have loop:codeAny (XX X.prog X.w) X.A (.compLoop E 0 (.ref it) (.ref s2.heap.objs.size) (Yg scope cs C X.env)) (RR (.ref s2.heap.objs.size) C) {s2 with heap:=h4}:=by
  refine F.loop (λn s'=>∃ i ys H',Inv (j4 X scope (own++cn) s2 H2 cs C fp) pq (Ap own.length js σ) H' s'/\tn i s'.heap/\(∀ b∈fp,H' b=none)/\W i n ys H') ?_ m0
   ⟨0,a0,_,I4,T.keep _ _ _ st2 λb hb o e=>old b o e,λb hb=>?_,w0⟩
  ·rintro n s3 ⟨i,ys,H3,I3,st3,fr3,w3⟩;rcases turn i n ys H3 w3 with⟨stop,q⟩ | ⟨go,N,hN,step⟩
   ·refine thn (T.done (j4 X scope (own++cn) s2 H2 cs C fp) rfl rfl rfl hc i pq s3 _ H3 _ I3 (stat fr3) st3 stop) λr s4 ⟨hr,I5⟩=>?_;subst hr;obtain⟨m,hn,_⟩:=I5.loc;exact hRR C H3 s4 (back I5) (I2.fpOk (show @LE.le Nat _ s2.heap.objs.size C by omega) I5.free) ⟨m,hn⟩ q
   ·refine thn (T.item (j4 X scope (own++cn) s2 H2 cs C fp) rfl rfl rfl hc i pq s3 _ H3 _ I3 (stat fr3) st3 go) λr s4 ⟨u,hr,h4'⟩=>?_;subst hr;refine thn h4' λ_ s5 ⟨x,H5,I5,r5,y5,st5,fr5⟩=>?_;have I5':=I5.pinned (stat fr5) (T.obj _ _ st5);refine thn (hg s2 H2 cs C fp _ s5 _ H5 x u _ I5' r5 (step x H5 y5)) λ_ s6 ⟨σ6,H6,I6,q6⟩=>?_;refine thn (ht s2 H2 cs C fp _ s6 σ6 H6 _ I6 q6) λb s7 ⟨H7,I7,q7⟩=>?_
    have again:∀{σ8:St} {H8:Hp} {s8:XS} {ys8:α},Inv (j4 X scope (own++cn) s2 H2 cs C fp) (pq++BF fp s5.heap) σ8 H8 s8->(∀(j:Nat) v,(Ap own.length js σ)[j]?=some (some v)->σ8[j]?=some (some v))->(∃ m',m'<n/\W (i+1) m' ys8 H8)->
     ∃ m,m<n/\∃ i ys H',Inv (j4 X scope (own++cn) s2 H2 cs C fp) pq (Ap own.length js σ) H' s8/\tn i s8.heap/\(∀ b∈fp,H' b=none)/\W i m ys H':=λ{σ8 H8 s8 ys8} I8 hw8 ⟨m',hm,w8⟩=>by
     refine⟨m',hm,i+1,ys8,H8,I8.unpinned.weak (by rw[I8.len,I4.len]) hw8,T.keep _ _ _ st5 λb hb o e=>(I8.pin (b,o) (Uk _ (Uk _ (Ak hb e)))).1,λb hb=>?_,w8⟩;obtain⟨o,e,d⟩:=T.obj _ _ st5 b hb;exact(I8.pin (b,o) (Uk _ (Uk _ (Ak hb e)))).2.1
    have capK:∀{σ8:St} {H8:Hp} {s8:XS},Inv (j4 X scope (own++cn) s2 H2 cs C fp) (pq++BF fp s5.heap) σ8 H8 s8->Inv (j4 X scope (own++cn) s2 H2 cs C fp) (pq++BF fp s5.heap) (Ap own.length js σ) H8 s8:=λ{σ8 H8 s8} I8=>by
     have IX:=back I8.unpinned;refine⟨I8.ok,I8.os,I8.bare,I8.base,?_,I8.cell,I8.free,I8.freeC,I8.pin,I8.hok,I4.len⟩;obtain⟨m,hn,_⟩:=I8.loc;refine⟨m,hn,λi x v e1 e2 e3=>?_⟩;obtain⟨mx,hnx,hlx⟩:=IX.loc
     have hi:own.length<=i:=by
      rcases VR i own.length with z | z
      ·exfalso;unfold Ap at e2;rw[UM (by simpa using z),V3,iP z]at e2;cases e2
      ·exact z
     have e1':cn[i - own.length]?=some x:=by
      have:(own++cn)[i]?=some x:=e1;rw[Uj hi]at this;exact this
     have e2':(js.map λj=>(σ[j]?).join)[i - own.length]?=some (some v):=by
      unfold Ap at e2;rw[Uj (by simpa using hi)]at e2;simpa using e2
     rw[UJ]at e2';cases hj:js[i - own.length]? with
     | none=>rw[hj]at e2';cases e2'
     | some j=>
       rw[hj]at e2';have e2'':(σ[j]?).join=some v:=by simpa using e2'
       have hσ:σ[j]?=some (some v):=by
        cases q:σ[j]? with
        | none=>rw[q]at e2'';cases e2''
        | some z=>rw[q]at e2'';simp at e2'';rw[e2'']
       have hNx:X.N[j]?=some x:=by
        have:=congrArg (λl=>l[i - own.length]?) k7;simp only[UJ,hj,e1',VF]at this;exact oj this
       have hfx:scope.names.lookup x=some .free:=k5 x (UC e1');have hK':X.env.kindOf x=some .cell\/X.env.kindOf x=some .free:=hfreeK (x,.free) (PySem.mem_of_lookup hfx) rfl
       have hvis:Vis X.env.scope x:=by
        rcases hK' with z | z
        ·exact .inr (.inl z)
        ·exact .inr (.inr z)
       obtain⟨u,r,l⟩:=hlx j x v hNx hσ hvis;refine⟨u,r,.inr ?_⟩;rcases l with⟨l1,_⟩ | ⟨l1,c,l2,l3⟩
       ·rcases hK' with z | z
        ·rw[z]at l1;cases l1
        ·rw[z]at l1;cases l1
       ·have hrl:(Yg scope cs C X.env).kindOf x=some .cell\/(Yg scope cs C X.env).kindOf x=some .free:=by
         show(relabel scope X.env).names.lookup x=_\/(relabel scope X.env).names.lookup x=_;unfold relabel;dsimp only;rw[t9,hfx];simp only[VF];split
         ·exact .inl rfl
         ·exact .inr rfl
        refine⟨hrl,c,?_,l3⟩;show cs.lookup x=some c;obtain⟨c',hc'⟩:=hX.has x hrl;have hc2:cs.lookup x=some c':=hc';rw[hc2];have hm:=PySem.mem_of_lookup hc2
        have:X.env.cells.lookup x=some c':=by
         rcases csM _ hm with z | ⟨_,z,_⟩
         ·exact z
         ·have:=j7 k3 z;have h2:scope.names.lookup x=some .cell:=this;rw[hfx]at h2;cases h2
        rw[l2]at this;exact this.symm
    cases b with
    | false=>
      rw[iG UB];rw[iG UB]at q7;exact again (capK I7) (λ_ _ e=>e) (hN _ _ q7)
    | true=>
      rw[iP rfl];rw[iP rfl]at q7;exact thn (hem _ s2 H2 cs C fp _ s7 σ6 H7 _ _ I7 q7) λ_ s9 ⟨σ9,a9,H9,I9,q9⟩=>again (capK I9) (λ_ _ e=>e) (hN _ _ q9)
  ·obtain⟨f0,_⟩:=f2 b hb;obtain⟨o,ho,_⟩:=T.obj 0 _ st2 b hb;rw[e8 (UF (U5 ho))];exact f0
 exact F.start loop (T.self _ 0 _ _ _ (T.keep _ _ _ st2 λb hb o e=>old b o e) loop)
theorem CW(hok:v8 X.env.scope scope own cn X.N js=true)(hc:X.calm=true)
 (hg:∀ s2 H2 cs C fp,PG (j4 X scope (own++cn) s2 H2 cs C fp) tg g) (ht:∀ s2 H2 cs C fp,DK (j4 X scope (own++cn) s2 H2 cs C fp) ifs tt) (he:∀ s2 H2 cs C fp,PE (j4 X scope (own++cn) s2 H2 cs C fp) elt te)
 (I2:Inv X pq σ H2 s2) {it:XU} {fp:List XU} {tn:Nat->Heap->Prop} {J:It} (T:Turn X.prog X.w X.K tg J fp it tn) (st2:tn 0 s2.heap) (f2:∀ b∈fp,FpOk X pq H2 b)
 {Qe:Hp->Prop} (hW:∃ W:Nat->Nat->List V->Hp->Prop,(∃ m,W 0 m [] (upd H2 s2.heap.objs.size (.lst [])))/\P0 J g tt te s2.heap.objs.size (Ap own.length js σ) (λ_ H=>Qe H) W)
 {RR:XR->XU->Result->XS->Prop}
 (hRR:∀ C H' s',Inv X pq σ H' s'->FpOk X pq H' C->(∃ m,s'.heap.Ns C m)->Qe H'->RR (.ref s2.heap.objs.size) C (.ok .next) s'):
 XW (XX X.prog X.w) X.A (newList []) (λacc s₃=>XW (XX X.prog X.w) X.A (YV scope X.env.globals (t8 X.env scope.names []) [] X.env.qual none .none (some X.env)) (λcenv s₄=>
  codeAny (XX X.prog X.w) X.A (.compStart (.ListComp elt [⟨tg,iter,ifs,0⟩] scope pos) 0 (.ref it) acc {cenv with scope:=relabel scope X.env}) (RR acc cenv.locals) s₄) X.xe s₃) X.xe s2:=by
 obtain⟨W,w0,hw⟩:=hW;refine Eu (RR:=RR) (a0:=[]) (o0:={cls := .type "list",dict:=none,data := .seq ([]:List XR).toArray}) (u0 := .lst []) (tem:=Tc te) GI (λhq=>Xh hq) rfl (λ_ _ hD=>⟨VT _,[],0,.nil,hD⟩) hok hc hg ht (λD s2 H2 cs C fp pq s σ H ys N I h=>?_) I2 T st2 f2 ⟨W,w0,hw⟩ hRR;refine XQ (thn (he s2 H2 cs C fp _ s σ H _ I h) λy s8 ⟨v,H8,I8,r8,hD8,hz8,q8⟩=>?_);refine XQ (thn (Bj (X:=j4 X scope (own++cn) s2 H2 cs C fp) _ s8 σ H8 (.ref D) [v] (.ref D) [y] (λ_ H9=>H9=upd H8 D (.lst (ys++[v]))) I8 rfl (.cons r8 .nil) ⟨_,ys,v,rfl,rfl,hD8,hz8,rfl⟩) λ_ s9 ⟨z,H9,I9,r9,e9⟩=>?_);subst e9;exact XT ⟨_,_,_,I9,q8⟩
theorem NC{wi:TI}(own cn:List Str)(js:List Nat)(hi:PI X tg iter wi)(hg:∀ s2 H2 cs C fp,PG (j4 X scope (own++cn) s2 H2 cs C fp) tg g)(ht:∀ s2 H2 cs C fp,DK (j4 X scope (own++cn) s2 H2 cs C fp) ifs tt)
 (he:∀ s2 H2 cs C fp,PE (j4 X scope (own++cn) s2 H2 cs C fp) elt te) (hc:X.calm=true:=by rfl) (hok:v8 X.env.scope scope own cn X.N js=true:=by kernel_rfl)
 (hs:∀ x,YL iter X.env x=pure x:=by intro _;rfl):PE X (.ListComp elt [⟨tg,iter,ifs,0⟩] scope pos) (Kh wi g tt te own.length js):=by
 intro pq s σ H Q I h;have hok':=hok;unfold v8 at hok';simp only[U2,dQ,US,Uh,UN,decide_eq_false_iff_not]at hok';obtain⟨⟨⟨⟨⟨⟨k1,k2⟩,k3⟩,k4⟩,k5⟩,k6⟩,k7⟩:=hok'
 have hfree:∀ x∈scope.names,x.2 = .free->∃ c,X.env.cells.lookup x.1=some c:=λx hx hf=>I.ok.has x.1 (by
  rcases k2 x hx with(z | z) | z
  ·exact absurd hf z
  ·exact .inl z
  ·exact .inr z)
 rw[eval_ListComp];refine Yc (use:=none) rfl hs (AX hfree) k1 (λx hx hl=>?_) (thn (hi pq s σ H _ I h) λv s1 h1=>thn h1 λitv s2 h2=>?_)
 ·have:=j7 k3 (show(x.1,x.2)∈scope.names from hx);rw[this,hl]
 ·obtain⟨it,fp,tn,J,H2,e,I2,T,st2,f2,q⟩:=h2;subst e;refine CW (RR:=λacc C=>compPost (XX X.prog X.w) X.A X.xe none (EP X pq σ Q) acc C) hok hc hg ht he I2 T st2 f2 (q _ I2.fresh) ?_;intro C H' s' I' fC ⟨m,hn⟩ q';obtain⟨f0,f1,f2',f3,f4,f5⟩:=fC;refine⟨m,hn,λh' hs'=>⟨.ref s2.heap.objs.size,H',?_,rfl,q'⟩⟩;exact I'.turned (t':=s'.toks) (λb o hb e=>(hs'.2 b hb).trans e) f0 f1 f3 f4 f5
theorem GJ{wi:TI}{i:Nat}{x:Str}{px spos:Pos}(own cn:List Str)(js:List Nat)(hN:X.N.Nodup)(hix:X.N[i]?=some x)(hx:X.env.scope.names.lookup x=some .local)(hi:PI X tg iter wi)
 (hg:∀ s2 H2 cs C fp,PG (j4 X scope (own++cn) s2 H2 cs C fp) tg g) (ht:∀ s2 H2 cs C fp,DK (j4 X scope (own++cn) s2 H2 cs C fp) ifs tt)
 (he:∀ s2 H2 cs C fp,PE (j4 X scope (own++cn) s2 H2 cs C fp) elt te) (hc:X.calm=true:=by rfl) (hok:v8 X.env.scope scope own cn X.N js=true:=by kernel_rfl)
 (hsw:Y6 (.ListComp elt [⟨tg,iter,ifs,0⟩] scope pos) (some (.Name x px)) spos.line X.env=pure true:=by rfl)
 (hs:∀ x,YL iter X.env x=pure x:=by intro _;rfl):PS X (.Assign [.Name x px] (.ListComp elt [⟨tg,iter,ifs,0⟩] scope pos) spos) (Ii (Kh wi g tt te own.length js) (HR i)):=by
 intro pq s σ H D I h;have hok':=hok;unfold v8 at hok';simp only[U2,dQ,US,Uh,UN,decide_eq_false_iff_not]at hok';obtain⟨⟨⟨⟨⟨⟨k1,k2⟩,k3⟩,k4⟩,k5⟩,k6⟩,k7⟩:=hok'
 have hfree:∀ x∈scope.names,x.2 = .free->∃ c,X.env.cells.lookup x.1=some c:=λx hx hf=>I.ok.has x.1 (by
  rcases k2 x hx with(z | z) | z
  ·exact absurd hf z
  ·exact .inl z
  ·exact .inr z)
 rw[exec_Assign_Name_used _ _ _ _ hsw];refine XQ (YQ (XQ ?_));show XW _ X.A (do let _ <- comprehension (.ListComp elt [⟨tg,iter,ifs,0⟩] scope pos) scope X.env _ (newList []) false (eval iter X.env) (some (assign (.Name x px) X.env))) _ _ s
 refine XQ (YA (Yc (use:=some (assign (.Name x px) X.env)) (Q:=λ_ s'=>SP X pq D .next s') rfl hs (AX hfree) k1 (λx hx hl=>?_)
  (thn (hi pq s σ H _ I h) λv s1 h1=>thn h1 λitv s2 h2=>?_)) (λ_ s' hq=>XT (XT hq)) λ_ _ e=>e)
 ·have:=j7 k3 (show(x.1,x.2)∈scope.names from hx);rw[this,hl]
 ·obtain⟨it,fp,tn,J,H2,e,I2,T,st2,f2,q⟩:=h2;subst e;refine CW (RR:=λacc C=>compPost (XX X.prog X.w) X.A X.xe (some (assign (.Name x px) X.env)) (λ_ s'=>SP X pq D .next s') acc C) hok hc hg ht he I2 T st2 f2 (q _ I2.fresh) ?_;intro C H' s' I' fC ⟨m,hn⟩ q';obtain⟨f0,f1,f2',f3,f4,f5⟩:=fC;show XW _ X.A (assign (.Name x px) X.env (.ref s2.heap.objs.size)) _ _ _;refine Z9 (DU I' hN hix (.inl hx) (v := .ref s2.heap.objs.size) rfl (λs3 I3 hch=>?_) (.inr hx));obtain⟨a,hsb,ha⟩:=hch
  have hCa:C≠a:=by
   rcases ha with z | z
   ·rw[z];exact f1
   ·exact λe=>f4 x a z e.symm
  refine⟨m,hn.sameBut hsb hCa,λh' hs'=>?_⟩;exact⟨_,H',I3.turned (t':=s3.toks) (λb o hb e=>(hs'.2 b hb).trans e) f0 f1 f3 f4 f5,q'⟩
end
end L2
namespace PySem
open AutoSeq1 (wpAny_loadPart')
section
variable{prog:XZ}{w:Xd}{A:Xg}{E:XR->XS->Prop}{s:XS}
theorem Aq{it l:XU}{i:Nat}{items}{x:XR}{Q:XR->XS->Prop}(hit:s.heap.IsTupleIter it l i)
 (hl:s.heap.IsTuple l items) (hx:items[i]?=some x)
 (hQ:∀ h',h'.IsTupleIter it l (i+1)->UY it s.heap h'->Q x {s with heap:=h'}):
 XW (XX prog w) A (Builtin.SmallTypes.nextOf (.ref it)) Q E s:=by
 obtain⟨o,ho,hc,hd⟩:=id hit;obtain⟨ol,hol,_,nl,hdl⟩:=hl;unfold Builtin.SmallTypes.nextOf
 refine XQ (Xj (name:=Str.ofString "__next__") hit.typeIs F.slot_tuple_iterator_next
  (Xk F.slot_tuple_iterator_next hit.typeIs F.entry_tuple_iterator_next ?_ (F.args_tuple_iterator_next_1 _)))
 show XW _ _ (field (.ref it) 0 >>= _) _ _ s;refine XQ (Xo ho hd (x := .ref l) rfl ?_);show XW _ _ (if (Value.ref l == Value.none)=true then _ else _) _ _ s;rw[iG (show ¬ ((Value.ref l == Value.none)=true) from UB)];show XW _ _ (field (.ref it) 1 >>= _) _ _ s;refine XQ (Xo ho hd (x := .int i 0) rfl ?_);show XW _ _ (Z3 (.ref l) >>= _) _ _ s;refine XQ (Xm hol hdl ?_);simp only[VD,hx];refine XQ (Xy ho hd (by simp) (XT ⟨x,rfl,XT (hQ _ ?_ (UY.update ..))⟩))
 exact⟨_,Ub _ ho (Obj.isFreed_of_fields (Obj.data_mapFields hd _)),(Obj.cls_mapFields ..).trans hc,by
  rw[Obj.data_mapFields hd];simp[rawInt]⟩
theorem Au{it l:XU}{i:Nat}{items}{Q:XR->XS->Prop}(hh:A.handled=none)
 (hit:s.heap.IsTupleIter it l i) (hl:s.heap.IsTuple l items) (hx:items[i]?=none)
 (hE:∀ h' e,Wx it s.heap h'->(∃ o,h'.get? e=some o/\o.cls = .type "StopIteration")->E (.ref e) {s with heap:=h'}):
 XW (XX prog w) A (Builtin.SmallTypes.nextOf (.ref it)) Q E s:=by
 obtain⟨o,ho,hc,hd⟩:=id hit;obtain⟨ol,hol,_,nl,hdl⟩:=hl;unfold Builtin.SmallTypes.nextOf
 refine XQ (Xj (name:=Str.ofString "__next__") hit.typeIs F.slot_tuple_iterator_next
  (Xk F.slot_tuple_iterator_next hit.typeIs F.entry_tuple_iterator_next ?_ (F.args_tuple_iterator_next_1 _)))
 show XW _ _ (field (.ref it) 0 >>= _) _ _ s;refine XQ (Xo ho hd (x := .ref l) rfl ?_);show XW _ _ (if (Value.ref l == Value.none)=true then _ else _) _ _ s;rw[iG (show ¬ ((Value.ref l == Value.none)=true) from UB)];show XW _ _ (field (.ref it) 1 >>= _) _ _ s;refine XQ (Xo ho hd (x := .int i 0) rfl ?_);show XW _ _ (Z3 (.ref l) >>= _) _ _ s;refine XQ (Xm hol hdl ?_);simp only[VD,hx];refine XQ (Y5 (XQ (Xy ho hd (by simp) ?_)))
 first
  | refine XQ (YK ?_)
  | skip
 show XW _ _ (newExc (.type "StopIteration") [] >>= _) _ _ _;refine XQ ?_;simp only[newExc,newTuple];refine XQ (Xh ?_ (by size_fits));refine XQ (m:=YW _ _) (Yx (a:=Value.none) (by first | rfl | (simp only[YW];rfl)) ?_);refine Xh ?_ (by size_fits);simp only[raiseNew];refine XQ (wpAny_handled ?_)
 first | rw[show A.in1.handled=none from hh] | rw[hh]
 refine XQ (XT (wpAny_throw ?_));exact hE _ _ (((UY.update ..).extBut.push _).push _) ⟨_,U8 _ rfl,rfl⟩
end
theorem A0{prog:XZ}{w:Xd}{A:Xg}(hh:A.handled=none)(it l:XU)(hne:l≠it)(items:Array XR):
 Draws prog w A it [it,l] items.size (λi v=>items[i]?=some v) (λi h=>h.IsTupleIter it l i/\h.IsTuple l items) where
 live:=λ_ _ st=>let ⟨o,ho,_⟩:=st.1;⟨o,ho⟩
 frame:=λ_ _ _ st hk=>⟨st.1.at λo e=>hk it (by simp) o e,let ⟨o,ho,r⟩:=st.2;⟨o,hk l (by simp) o ho,r⟩⟩
 item:=λi s Q E hi st hQ=>by
  refine Aq st.1 st.2 (x:=items[i]) (by simp[hi]) λh' hit' hs'=>?_;exact hQ _ h' s.toks (by simp[hi]) ⟨hit',st.2.extBut hs'.extBut hne⟩ hs'
 done:=λs Q E st hE=>Au hh st.1 st.2 (by simp) hE
theorem BG(l:XU)(items:Array XR)(n:Nat)(dct:Option XU)(sl:Array (Option XR)):
 Meets (Builtin.«enumerate.__new__» ⟨[.type "enumerate",.ref l],[]⟩) (λ_ R s=>s.heap.get? l=some {cls := .type "tuple",dict:=dct,data := .seq items n,slots:=sl}/\
  R (.ok (.ret (.ref (s.heap.push {cls := .type "tuple_iterator",data := .fields #[.ref l,.int 0 0]}).objs.size)))
   {s with heap:=(s.heap.push {cls := .type "tuple_iterator",data := .fields #[.ref l,.int 0 0]}).push {cls := .type "enumerate",data := .fields #[.none,.bool false,.ref s.heap.objs.size,rawInt 0,.none,.none]}}):=
 .of_wp λprog w A R s h=>by
  obtain⟨hp,g,d,tk,os⟩:=s;obtain⟨hl,h⟩:=h;have hsub:=sub_enumerate;have hL:XE (Shared.heap ⟨hp,g,d,tk,os⟩) l items:=⟨_,hl,rfl,n,rfl⟩
  wp_walk using wpAny_loadPart' hl
  refine wpAny_stack_any λst=>XT ?_;split
  ·rename_i c _ _ _ _ _;cases(c == Value.type "enumerate")
   ·wp_walk using wpAny_loadPart' hl,Xz hL
    exact⟨_,rfl,h⟩
   ·wp_walk using wpAny_loadPart' hl,Xz hL
    exact⟨_,rfl,h⟩
  ·wp_walk using wpAny_loadPart' hl,Xz hL
   exact⟨_,rfl,h⟩
section
variable{prog:XZ}{w:Xd}{A:Xg}{E:XR->XS->Prop}{s:XS}
theorem AS{l:XU}{items:Array XR}{Q:XR->XS->Prop}(hL:s.heap.IsTuple l items)
 (h:∀ h',IsEnum h' (s.heap.objs.size+1) s.heap.objs.size 0 .none->h'.IsTupleIter s.heap.objs.size l 0->h'.objs.size=s.heap.objs.size+2->
   (∀ b o,s.heap.get? b=some o->h'.get? b=some o)->Q (.ref (s.heap.objs.size+1)) {s with heap:=h'}):
 XW (XX prog w) A (call (.type "enumerate") [.ref l]) Q E s:=by
 obtain⟨⟨c,dct,dt,sl⟩,hl,hc,n,hd⟩:=hL;replace hc:c = .type "tuple":=hc;replace hd:dt = .seq items n:=hd;subst hc hd
 refine callType_new F.called_enumerate (by decide) (F.typeCall_enumerate_1 _) (F.newCall_enumerate_1 _) (λobj=>F.args_object_init_2 obj _) F.entry_enumerate_new
  (BG l items n dct sl) ⟨hl,?_⟩
 have hz:(s.heap.push {cls := .type "tuple_iterator",data := .fields #[.ref l,.int 0 0]}).objs.size=s.heap.objs.size+1:=Uc ..;show _/\_;rw[hz]
 have he:IsEnum ((s.heap.push {cls := .type "tuple_iterator",data := .fields #[.ref l,.int 0 0]}).push
  {cls := .type "enumerate",data := .fields #[.none,.bool false,.ref s.heap.objs.size,rawInt 0,.none,.none]}) (s.heap.objs.size+1) s.heap.objs.size 0 .none:=by
  have:=U8 (s.heap.push {cls := .type "tuple_iterator",data := .fields #[.ref l,.int 0 0]})
   (o:={cls := .type "enumerate",data := .fields #[.none,.bool false,.ref s.heap.objs.size,rawInt 0,.none,.none]}) rfl
  rw[hz]at this;exact this
 refine⟨⟨_,he,rfl⟩,h _ he ⟨_,U3 _ (U8 _ rfl),rfl,rfl⟩ (by rw[Uc,hz]) λb o x=>U3 _ (U3 _ x)⟩
end
end PySem
namespace L2
open PySem PySem.Spec PyProof.Rows
section
variable{X:Cx}{pq:List (XU×Obj)}{σ:St}{H:Hp}{s:XS}{h':Heap}
theorem Inv.turnedL{t':Nat}{ch:List XU}(I:Inv X pq σ H s)(k:∀ b o,b∉ch->s.heap.get? b=some o->h'.get? b=some o)(hf:∀ b∈ch,FpOk X pq H b):Inv X pq σ H {s with heap:=h',toks:=t'}:=by
 have nit:∀ b u,H b=some u->b∉ch:=λb u e z=>by rw[(hf b z).1]at e;cases e
 refine I.step (g':=s.gens) (d':=s.drawn) (ch:=ch) (λb hb=>?_) (λb o _ _ hc e _=>k b o hc e) (λb o _ _ hc e _=>⟨o.slots,k b o hc e⟩) (λ_ _ _ _ n=>n)
  (λb o hc e=>⟨o,k b o hc e⟩) (λ_ _ e=>e) (λ_ _ _ e=>e) (λb ps e=>⟨#[],by rw[e];simp⟩) (λm hm=>?_) (λb u e=>?_) I.bare
 ·obtain⟨f0,f1,f2,f3,f4,f5⟩:=hf b hb;exact⟨f3,f1,f4,f5⟩
 ·obtain⟨o,es,ep,ho,r⟩:=hm;exact⟨o,es,ep,k _ o (λz=>(hf _ z).2.1 rfl) ho,r⟩
 ·refine(I.hok b u e).stay (λc v hc q=>k c v ?_ q) (λ_ q=>q) λ_ _ q=>q;rcases hc with z | z
  ·rw[z];exact nit b u e
  ·exact nit c _ z
theorem Inv.turnLay{t':Nat}{ch:List XU}{o:HO}(I:Inv X pq σ H s)(k:∀ b u,b∉ch->s.heap.get? b=some u->h'.get? b=some u)(hf:∀ b∈ch,FpOk X pq H b)
 (new:ObjOk X.prog X.w (upd H s.heap.objs.size o) h' s.heap.objs.size o):Inv X pq σ (upd H s.heap.objs.size o) {s with heap:=h',toks:=t'}:=by
 have hT:H s.heap.objs.size=none:=I.fresh;have nit:∀ b u,H b=some u->b∉ch:=λb u e z=>by rw[(hf b z).1]at e;cases e
 have lt:∀ b u,s.heap.get? b=some u->b≠s.heap.objs.size:=λb u e=>UF (U5 e)
 refine I.step (g':=s.gens) (d':=s.drawn) (ch:=ch) (λb hb=>?_) (λb o _ _ hc e _=>k b o hc e) (λb o _ _ hc e _=>⟨o.slots,k b o hc e⟩) (λb u _ e n=>by rw[e8 (lt b u e)];exact n)
  (λb o hc e=>⟨o,k b o hc e⟩) (λb xs e=>by rw[e8 (i5 e hT)];exact e) (λb u xs e=>by rw[e8 (i5 e hT)];exact e) (λb ps e=>⟨#[],by rw[e8 (i5 e hT),e];simp⟩) (λm hm=>?_) (λb u e=>?_) I.bare
 ·obtain⟨f0,f1,f2,f3,f4,f5⟩:=hf b hb;exact⟨f3,f1,f4,f5⟩
 ·obtain⟨o,es,ep,ho,r⟩:=hm;exact⟨o,es,ep,k _ o (λz=>(hf _ z).2.1 rfl) ho,r⟩
 ·by_cases hb:b=s.heap.objs.size
  ·subst hb;rw[g8]at e;cases e;exact new
  ·rw[e8 hb]at e;refine(I.hok b u e).stay (λc v hc q=>k c v ?_ q) (λc q=>by rw[e8 (i5 q hT)];exact q) λc xs q=>by rw[e8 (i5 q hT)];exact q
   rcases hc with z | z
   ·rw[z];exact nit b u e
   ·exact nit c _ z
end
noncomputable def QF(K:U1)(a:XU):It:=
 ⟨λi H=>∃ xs x,SqL K H a xs/\xs[i]?=some x,λi H x H'=>∃ p v,H p=none/\x = .ref p/\(∀ xs,SqL K H a xs->xs[i]?=some v)/\H'=upd H p (.tup [.int i,v]),λi H=>∃ xs,SqL K H a xs/\xs.length=i⟩
noncomputable def QG(K:U1)(a:XU):It:=
 ⟨λi H=>∃ xs x,SqT K H a xs/\xs[i]?=some x,λi H x H'=>∃ p v,H p=none/\x = .ref p/\(∀ xs,SqT K H a xs->xs[i]?=some v)/\H'=upd H p (.tup [.int i,v]),λi H=>∃ xs,SqT K H a xs/\xs.length=i⟩
theorem E3:2<=XY:=by decide
theorem GK{P:XZ}{w:Xd}{K:U1}{elts:List Expr}{kx:Nat}{tp:Pos}(a e it:XU)(hei:e≠it)(hae:a≠e)(hai:a≠it):Turn P w K (.Tuple elts kx tp) (QF K a) [e,it] e (λi h=>(∃ old,IsEnum h e it i old)/\h.IsListIter it a i) where
 mem:=by simp
 obj:=λi h st b hb=>by
  rcases UH.mp hb with rfl | hb
  ·obtain⟨⟨old,z⟩,_⟩:=st;exact⟨_,z,λv q=>by cases q⟩
  ·have e':b=it:=by simpa using hb
   subst e';obtain⟨o,q,c,d⟩:=st.2;exact⟨o,q,λv z=>by rw[d]at z;cases z⟩
 keep:=λi h h' st k=>⟨let ⟨old,z⟩:=st.1;⟨old,k e (by simp) _ z⟩,st.2.at λo q=>k it (by simp) o q⟩
 item:=by
  intro X hP hw hK hc i pq s σ H E I hf st hg;subst hP hw hK;obtain⟨xs,x,hq,hx⟩:=hg;obtain⟨its,rv,p,hz⟩:=I.list hq;obtain⟨u,hu,ru⟩:=rv.get hx;obtain⟨⟨old,he⟩,hli⟩:=st
  have hil:i<its.toArray.size:=by
   have:=(gM hu).1;simpa using this
  refine Yh (Draws.list (prog:=X.prog) (w:=X.w) (A:=X.A.in1) (show X.A.in1.handled=none from I.ok.hd hc) it a hai its.toArray) he ⟨hli,p.isList⟩ hil hei (by simp[hei,Ne.symm hae]) λy h' tk hy ho hs' hT hsz hk=>?_
  have hyu:y=u:=by
   have:its.toArray[i]?=some u:=by simpa using hu
   rw[this]at hy;exact(oj hy).symm
  subst hyu;refine⟨_,rfl,?_⟩
  have I1:Inv X pq σ (upd H s.heap.objs.size (.tup [.int i,x])) {s with heap:=h',toks:=tk+1}:=
   I.turnLay (ch:=[e,it]) (λb o hb q=>hk b o (λz=>hb (by simp[z])) (λz=>hb (by simp[z])) q) hf ⟨E3,[.int i tk,y],.cons ⟨tk,rfl⟩ (.cons ru .nil),⟨_,hT,rfl,_,rfl⟩⟩
  refine YX ho λh2 he2 hs2=>?_
  have hfp1:∀ b∈[e,it],FpOk X pq (upd H s.heap.objs.size (.tup [.int i,x])) b:=λb hb=>by
   obtain⟨f0,f1⟩:=hf b hb
   have hbl:b≠s.heap.objs.size:=by
    rcases UH.mp hb with rfl | hb
    ·exact UF (U5 he)
    ·have e':b=it:=by simpa using hb
     subst e';obtain⟨o,q,_⟩:=hli;exact UF (U5 q)
   exact⟨by rw[e8 hbl];exact f0,f1⟩
  have I2:Inv X pq σ (upd H s.heap.objs.size (.tup [.int i,x])) {s with heap:=h2,toks:=tk+1}:=
   Inv.turnedL (s:={s with heap:=h',toks:=tk+1}) (t':=tk+1) (ch:=[e,it]) I1 (λb o hb q=>(hs2.2 b (λz=>hb (by simp[z]))).trans q) hfp1
  refine⟨.ref s.heap.objs.size,_,I2,rfl,⟨_,x,I.fresh,rfl,λys hy=>by rw[I.list_inj hy hq];exact hx,rfl⟩,⟨⟨y,by simpa using he2⟩,hs'.1.extBut hs2.extBut (Ne.symm hei)⟩,λb hb=>(hfp1 b hb).1⟩
 done:=by
   intro X hP hw hK hc i pq s σ H E I hf st hg;subst hP hw hK;obtain⟨xs,hq,hx⟩:=hg;obtain⟨its,rv,p,hz⟩:=I.list hq;obtain⟨⟨old,he⟩,hli⟩:=st;have hl:=rv.length;have hn:its.toArray.size=i:=by simp;omega
   refine Yn (Draws.list (prog:=X.prog) (w:=X.w) (A:=X.A.in1) (show X.A.in1.handled=none from I.ok.hd hc) it a hai its.toArray) he (by rw[hn];exact⟨hli,p.isList⟩) λh' eb=>⟨rfl,I.turnedL (t':=s.toks) (ch:=[e,it]) (λb o hb q=>eb b o (λz=>hb (by simp[z])) q) hf⟩
 self:=λ_ _ _ _ _ st h=>let ⟨old,z⟩:=st.1;YM z h
theorem GL{P:XZ}{w:Xd}{K:U1}{elts:List Expr}{kx:Nat}{tp:Pos}(a e it:XU)(hei:e≠it)(hae:a≠e)(hai:a≠it):Turn P w K (.Tuple elts kx tp) (QG K a) [e,it] e (λi h=>(∃ old,IsEnum h e it i old)/\h.IsTupleIter it a i) where
 mem:=by simp
 obj:=λi h st b hb=>by
  rcases UH.mp hb with rfl | hb
  ·obtain⟨⟨old,z⟩,_⟩:=st;exact⟨_,z,λv q=>by cases q⟩
  ·have e':b=it:=by simpa using hb
   subst e';obtain⟨o,q,c,d⟩:=st.2;exact⟨o,q,λv z=>by rw[d]at z;cases z⟩
 keep:=λi h h' st k=>⟨let ⟨old,z⟩:=st.1;⟨old,k e (by simp) _ z⟩,st.2.at λo q=>k it (by simp) o q⟩
 item:=by
  intro X hP hw hK hc i pq s σ H E I hf st hg;subst hP hw hK;obtain⟨xs,x,hq,hx⟩:=hg;obtain⟨its,rv,p,hz⟩:=I.tuple hq;obtain⟨u,hu,ru⟩:=rv.get hx;obtain⟨⟨old,he⟩,hli⟩:=st
  have hil:i<its.toArray.size:=by
   have:=(gM hu).1;simpa using this
  refine Yh (A0 (prog:=X.prog) (w:=X.w) (A:=X.A.in1) (show X.A.in1.handled=none from I.ok.hd hc) it a hai its.toArray) he ⟨hli,p⟩ hil hei (by simp[hei,Ne.symm hae]) λy h' tk hy ho hs' hT hsz hk=>?_
  have hyu:y=u:=by
   have:its.toArray[i]?=some u:=by simpa using hu
   rw[this]at hy;exact(oj hy).symm
  subst hyu;refine⟨_,rfl,?_⟩
  have I1:Inv X pq σ (upd H s.heap.objs.size (.tup [.int i,x])) {s with heap:=h',toks:=tk+1}:=
   I.turnLay (ch:=[e,it]) (λb o hb q=>hk b o (λz=>hb (by simp[z])) (λz=>hb (by simp[z])) q) hf ⟨E3,[.int i tk,y],.cons ⟨tk,rfl⟩ (.cons ru .nil),⟨_,hT,rfl,_,rfl⟩⟩
  refine YX ho λh2 he2 hs2=>?_
  have hfp1:∀ b∈[e,it],FpOk X pq (upd H s.heap.objs.size (.tup [.int i,x])) b:=λb hb=>by
   obtain⟨f0,f1⟩:=hf b hb
   have hbl:b≠s.heap.objs.size:=by
    rcases UH.mp hb with rfl | hb
    ·exact UF (U5 he)
    ·have e':b=it:=by simpa using hb
     subst e';obtain⟨o,q,_⟩:=hli;exact UF (U5 q)
   exact⟨by rw[e8 hbl];exact f0,f1⟩
  have I2:Inv X pq σ (upd H s.heap.objs.size (.tup [.int i,x])) {s with heap:=h2,toks:=tk+1}:=
   Inv.turnedL (s:={s with heap:=h',toks:=tk+1}) (t':=tk+1) (ch:=[e,it]) I1 (λb o hb q=>(hs2.2 b (λz=>hb (by simp[z]))).trans q) hfp1
  refine⟨.ref s.heap.objs.size,_,I2,rfl,⟨_,x,I.fresh,rfl,λys hy=>by rw[I.tuple_inj hy hq];exact hx,rfl⟩,⟨⟨y,by simpa using he2⟩,hs'.1.extBut hs2.extBut (Ne.symm hei)⟩,λb hb=>(hfp1 b hb).1⟩
 done:=by
   intro X hP hw hK hc i pq s σ H E I hf st hg;subst hP hw hK;obtain⟨xs,hq,hx⟩:=hg;obtain⟨its,rv,p,hz⟩:=I.tuple hq;obtain⟨⟨old,he⟩,hli⟩:=st;have hl:=rv.length;have hn:its.toArray.size=i:=by simp;omega
   refine Yn (A0 (prog:=X.prog) (w:=X.w) (A:=X.A.in1) (show X.A.in1.handled=none from I.ok.hd hc) it a hai its.toArray) he (by rw[hn];exact⟨hli,p⟩) λh' eb=>⟨rfl,I.turnedL (t':=s.toks) (ch:=[e,it]) (λb o hb q=>eb b o (λz=>hb (by simp[z])) q) hf⟩
 self:=λ_ _ _ _ _ st h=>let ⟨old,z⟩:=st.1;YM z h
section
variable{X:Cx}
noncomputable def SD(K:U1)(ta:TA):TI:=λσ H R=>ta σ H λvs H1=>∃ a,vs=[.ref a]/\(((∃ xs,SqL K H1 a xs)/\R (QF K a) H1)\/((∃ xs,SqT K H1 a xs)/\R (QG K a) H1))
theorem CY:Xb "enumerate"=some (.type "enumerate"):=by decide +kernel
theorem Ki:Xb "zip"=some (.type "zip"):=by decide +kernel
theorem ND{a:Expr}{ta:TA}{p pos:Pos}{elts:List Expr}{kx:Nat}{tp:Pos}(hg:Gl X "enumerate")(hm:X.mg "enumerate"=none)(ha:PA X [a] ta)(hs:Xa [a] X.env=[(false,eval a X.env)]:=by rfl):
 PI X (.Tuple elts kx tp) (.Call (.Name "enumerate" p) [a] [] pos) (SD X.K ta):=by
 intro pq s σ H R I h;refine Call_ (v7 I hg hm CY (PyProof.Rows.callWith_type1 (thn (ha pos pq s σ H _ I h) λus s1 ⟨vs,H1,I1,r1,q1⟩=>?_) hs rfl));obtain⟨l,e,q1⟩:=q1;subst e;cases r1 with
 | cons r rr=>
   cases rr;cases r;rcases q1 with⟨⟨xs,hq⟩,q⟩ | ⟨⟨xs,hq⟩,q⟩
   ·obtain⟨its,rv,pl,hz⟩:=I1.list hq;have hlt:@LT.lt Nat _ l s1.heap.objs.size:=by obtain⟨o,n,e,_⟩:=pl;exact U5 e
    refine call_enumerate_list pl.isList λh' he hli hsz hk=>?_;refine YM he ?_;have I2:Inv X pq σ H1 {s1 with heap:=h'}:=I1.kept (t':=s1.toks) hk;refine⟨s1.heap.objs.size+1,[s1.heap.objs.size+1,s1.heap.objs.size],_,_,H1,rfl,I2,GK l _ s1.heap.objs.size (show @Ne Nat _ _ by omega) (show @Ne Nat _ _ by omega) (show @Ne Nat _ _ by omega),⟨⟨_,he⟩,hli⟩,λb hb=>?_,q⟩
    have hb2:@LE.le Nat _ s1.heap.objs.size b:=by
     rcases UH.mp hb with rfl | hb
     ·exact W3 _
     ·have e:b=s1.heap.objs.size:=by simpa using hb
      rw[e];exact U9 _
    exact I1.fpOk hb2 (I1.hok.fresh hb2)
   ·obtain⟨its,rv,pl,hz⟩:=I1.tuple hq;have hlt:@LT.lt Nat _ l s1.heap.objs.size:=by obtain⟨o,e,_⟩:=pl;exact U5 e
    refine AS (show s1.heap.IsTuple l its.toArray from pl) λh' he hli hsz hk=>?_;refine YM he ?_;have I2:Inv X pq σ H1 {s1 with heap:=h'}:=I1.kept (t':=s1.toks) hk;refine⟨s1.heap.objs.size+1,[s1.heap.objs.size+1,s1.heap.objs.size],_,_,H1,rfl,I2,GL l _ s1.heap.objs.size (show @Ne Nat _ _ by omega) (show @Ne Nat _ _ by omega) (show @Ne Nat _ _ by omega),⟨⟨_,he⟩,hli⟩,λb hb=>?_,q⟩
    have hb2:@LE.le Nat _ s1.heap.objs.size b:=by
     rcases UH.mp hb with rfl | hb
     ·exact W3 _
     ·have e:b=s1.heap.objs.size:=by simpa using hb
      rw[e];exact U9 _
    exact I1.fpOk hb2 (I1.hok.fresh hb2)
end
theorem J1(its:List XR)(k:Nat)(y:XR):(its.toArray.extract 0 k).push y++its.toArray.extract k=(its.take k++y::its.drop k).toArray:=by
 apply Array.toList_inj.mp;simp
 first
  | done
  | exact WN (by simp)
section
variable{X:Cx}
noncomputable def Hf:V->List V->Hp->VK->Prop:=λx vs H Q=>∃ l xs i y,x = .ref l/\vs=[.int i,y]/\H l=some (.lst xs)/\0<=i/\i<=xs.length/\xs.length<XY/\Q .non (upd H l (.lst (xs.take i.toNat++y::xs.drop i.toNat)))
theorem Dc:MtM X "list.insert" Hf:=by
 intro pq s σ H x vs v us Q I rx rv h;obtain⟨l,xs,i,y,rfl,rfl,hH,h0,h1,hz,q⟩:=h;cases rx;obtain⟨u1,u2,rfl,⟨t,rfl⟩,ru⟩:=Vals.two rv;obtain⟨z,its,n,r,hl,e⟩:=I.lstM hH;have hn:=Bi;refine Ym F.slot_list_insert ⟨_,e,rfl⟩ F.entry_list_insert (F.args_list_insert_3 _ _ _) (AutoSeq1.list_insert_list_int_val_1 l its.toArray n i t u2 (by rw[Zb (by omega) (by omega)];exact UB) (by rw[U6];omega)) ⟨e,?_⟩;refine⟨.non,_,I.lset (its':=its.take i.toNat++u2::its.drop i.toNat) hH e ?_ (Vals.append (r.take _) (.cons ru (r.drop _))) ?_,rfl,q⟩
 ·have hk:(if i<0 then (i+(its.toArray.size:Int)).toNat else min i.toNat its.toArray.size)=i.toNat:=by
   rw[iG (by omega),U6];omega
  show(let k:=if i<0 then (i+(its.toArray.size:Int)).toNat else min i.toNat its.toArray.size;(its.toArray.extract 0 k).push u2++its.toArray.extract k)=_;rw[hk];exact J1 its i.toNat u2
 ·rw[UD,Uo,Uq,VU];omega
noncomputable def AT(xs ys:List V):Bool:=xs.length == ys.length&&(xs.zip ys).all λp=>eqV p.1 p.2
noncomputable def NE(K:U1)(neg:Bool):R2:=λx y H Q=>∃ a b xs ys,x = .ref a/\y = .ref b/\SqL K H a xs/\SqL K H b ys/\((xs.all v5=true/\ys.all v5=true)\/xs=[]\/ys=[])/\Q (.bl (if neg then !AT xs ys else AT xs ys)) H
theorem CZ{xs ys:List V}(hl:xs.length=ys.length):(U7 xs.length).all (λj=>eqV (xs.getD j .non) (ys.getD j .non))=AT xs ys:=by
 have e1:AT xs ys=(xs.zip ys).all λp=>eqV p.1 p.2:=by unfold AT;simp[hl]
 rw[e1,Ug,US,US];constructor
 ·intro h p hp;obtain⟨j,hj,e⟩:=V5.mp hp;have hj1:j<xs.length:=by simp at hj;omega
  have hj2:j<ys.length:=by omega
  have:=h j (Ua.mpr hj1);rw[<-e];simpa[VV,hj1,hj2] using this
 ·intro h j hj;have hj1:j<xs.length:=Ua.mp hj;have hj2:j<ys.length:=by omega
  have:=h (xs[j],ys[j]) (V5.mpr ⟨j,by simp;omega,by simp⟩);simpa[VV,hj1,hj2] using this
theorem Ca{xs ys:List V}{us ws:List XR}{A:Xg}{s:XS}(r1:Vals xs us)(r2:Vals ys ws)(f:(xs.all v5=true/\ys.all v5=true)\/xs=[]\/ys=[]):
 ∀ j (h1:j<us.toArray.size) (h2:j<ws.toArray.size),SeqAt.EqAt A s us.toArray[j] ws.toArray[j] (eqV (xs.getD j .non) (ys.getD j .non)):=by
 intro j h1 h2;have l1:=r1.length;have l2:=r2.length;simp only[U6]at h1 h2;have hj1:j<xs.length:=by omega
 have hj2:j<ys.length:=by omega
 obtain⟨f1,f2⟩:xs.all v5=true/\ys.all v5=true:=by
  rcases f with f | f | f
  ·exact f
  ·subst f;simp at hj1
  ·subst f;simp at hj2
 obtain⟨u,eu,ru⟩:=r1.get (i:=j) (x:=xs[j]) (by simp[hj1]);obtain⟨w',ew,rw'⟩:=r2.get (i:=j) (x:=ys[j]) (by simp[hj2])
 have e1:us.toArray[j]=u:=by
  have:=gM eu;obtain⟨_,q⟩:=this;simpa using q
 have e2:ws.toArray[j]=w':=by
  obtain⟨_,q⟩:=gM ew;simpa using q
 rw[e1,e2];have g1:xs.getD j .non=xs[j]:=by simp[VV,hj1]
 have g2:ys.getD j .non=ys[j]:=by simp[VV,hj2]
 rw[g1,g2];exact KY ru rw' (US.mp f1 _ (Ut hj1)) (US.mp f2 _ (Ut hj2))
theorem QH(hu:X.A.units<cLine):OpR X (Xe .Eq) (NE X.K false):=by
 intro pq s σ H x y v u Q I rx ry h;obtain⟨a,b,xs,ys,rfl,rfl,h1,h2,f,q⟩:=h;cases rx;cases ry;obtain⟨its1,r1,p1,_⟩:=I.list h1;obtain⟨its2,r2,p2,_⟩:=I.list h2;have l1:=r1.length;have l2:=r2.length;by_cases hl:xs.length=ys.length
 ·refine SeqAt.eq_listAt p1.isList p2.isList (by simp;omega) hu (Ca r1 r2 f) ⟨.bl _,H,I,rfl,?_⟩;rw[U6,<-l1,CZ hl];exact q
 ·refine SeqAt.eq_list_lengthsAt p1.isList p2.isList (by simp;omega) hu ⟨.bl false,H,I,rfl,?_⟩;have e:AT xs ys=false:=by unfold AT;simp[hl]
  rw[show(if false=true then !AT xs ys else AT xs ys)=AT xs ys from rfl,e]at q;exact q
theorem QI(hu:X.A.units<cLine):OpR X (Xe .NotEq) (NE X.K true):=by
 intro pq s σ H x y v u Q I rx ry h;obtain⟨a,b,xs,ys,rfl,rfl,h1,h2,f,q⟩:=h;cases rx;cases ry;obtain⟨its1,r1,p1,_⟩:=I.list h1;obtain⟨its2,r2,p2,_⟩:=I.list h2;have l1:=r1.length;have l2:=r2.length;by_cases hl:xs.length=ys.length
 ·refine(SeqAt.RcNeAt.lists p1.isList p2.isList (by simp;omega) hu (Ca r1 r2 f)) _ _ _ _ ?_;refine⟨.bl _,H,I,rfl,?_⟩;rw[U6,<-l1,CZ hl];exact q
 ·refine(SeqAt.RcNeAt.lists_lengths p1.isList p2.isList (by simp;omega) hu) _ _ _ _ ?_;refine⟨.bl true,H,I,rfl,?_⟩;have e:AT xs ys=false:=by unfold AT;simp[hl]
  rw[show(if true=true then !AT xs ys else AT xs ys)=!AT xs ys from rfl,e]at q;exact q
theorem call_isi1:CallR X (.builtin "isinstance") (λxs H Q=>∃ x T t b,xs=[x,.ty T]/\TyOf X.K H x t/\PySem.W.kitOne X.K t (.type T)=some b/\Q (.bl b) H):=by
 intro pq s σ H xs us Q I r h;obtain⟨x,T,t,b,rfl,ty,e,q⟩:=h;obtain⟨u1,u2,rfl,r1,r2⟩:=Vals.two r;cases r2;exact Iu I r1 ty e λtk=>⟨.bl b,H,I.tok tk,rfl,q⟩
theorem GM{pq:List (XU×Obj)}{σ:St}{H:Hp}{s:XS}{A:Xg}{E:XR->XS->Prop}{Q:XR->XS->Prop}{b:Bool}{x:V}{u t:XR}{tp:XU}{dd:Option XU}{its:List XR}{n:Nat}{sl:Array (Option XR)}(I:Inv X pq σ H s)(rx:RelV x u)(ty:TyOf X.K H x t)
 (htp:s.heap.get? tp=some ⟨.type "tuple",dd,.seq its.toArray n,sl⟩) (e:PySem.W.kitAny X.K t its=some b) (h:∀ tk,Q (.bool b) {s with toks:=tk}):
 XW (XX X.prog X.w) A (call (.builtin "isinstance") [u,.ref tp]) Q E s:=by
 cases ty with
 | non=>cases(show u=Value.none from rx);exact PySem.W.kia_tup PySem.W.kitx_none I.kIn True.intro htp e (λz=>nomatch z) h
 | bl y=>cases(show u=Value.bool y from rx);exact PySem.W.kia_tup PySem.W.kitx_bool I.kIn True.intro htp e (λz=>nomatch z) h
 | int i=>obtain⟨t,q⟩:=(show ∃ t,u=Value.int i t from rx);cases q;exact PySem.W.kia_tup PySem.W.kitx_int I.kIn True.intro htp e (λz=>nomatch z) h
 | str y=>obtain⟨t,q⟩:=(show ∃ t,u=Value.str y t from rx);cases q;exact PySem.W.kia_tup PySem.W.kitx_str I.kIn True.intro htp e (λz=>nomatch z) h
 | flt y=>obtain⟨t,q⟩:=(show ∃ t,u=Value.float y t from rx);cases q;exact PySem.W.kia_tup PySem.W.kitx_float I.kIn True.intro htp e (λz=>nomatch z) h
 | @lst a xs ea=>
   cases(show u=Value.ref a from rx);obtain⟨_,_,n,_,h1⟩:=(show ObjOk X.prog X.w H s.heap a (.lst xs) from I.hok a _ ea)
   exact PySem.W.kia_tup PySem.W.kitx_list I.kIn ⟨_,h1,rfl⟩ htp e (λz=>nomatch z) h
 | @frz a ob xs ea=>
   cases(show u=Value.ref a from rx);obtain⟨_,_,_,n,_,h1⟩:=(show ObjOk X.prog X.w H s.heap a (.frz ob (.lst xs)) from I.hok a _ ea)
   exact PySem.W.kia_tup PySem.W.kitx_list I.kIn ⟨_,h1,rfl⟩ htp e (λz=>nomatch z) h
 | @tup a xs ea=>
   cases(show u=Value.ref a from rx);obtain⟨_,_,_,p⟩:=(show ObjOk X.prog X.w H s.heap a (.tup xs) from I.hok a _ ea)
   obtain⟨o,h1,h2,_⟩:=p;exact PySem.W.kia_tup PySem.W.kitx_tuple I.kIn ⟨o,h1,h2⟩ htp e (λz=>nomatch z) h
 | @dK a kvs ea=>
   cases(show u=Value.ref a from rx);obtain⟨_,_,vs,_,p⟩:=(show ObjOk X.prog X.w H s.heap a (.dK kvs) from I.hok a _ ea)
   obtain⟨o,es,ep,h1,h2,_⟩:=p;exact PySem.W.kia_tup PySem.W.kitx_dict I.kIn ⟨o,h1,h2.1⟩ htp e (λz=>nomatch z) h
 | @dT a kvs ea=>
   cases(show u=Value.ref a from rx);obtain⟨_,_,xs,_,o,es,ep,h1,h2,_⟩:=(show ObjOk X.prog X.w H s.heap a (.dT kvs) from I.hok a _ ea)
   exact PySem.W.kia_tup PySem.W.kitx_dict I.kIn ⟨o,h1,h2.1⟩ htp e (λz=>nomatch z) h
 | @ins a C dx fs ea cl ha hn htk hm=>
   cases(show u=Value.ref a from rx);obtain⟨mA,O,_⟩:=HY I.hok ea;obtain⟨od,J,_⟩:=O.look;exact PySem.W.kia_tup (PySem.W.kitx_own (cl.get _) cl.hd ha hn htk hm) I.kIn J htp e (λz=>nomatch z) h
theorem Hg:∀(Ts:List String) {us:List XR},Vals (Ts.map V.ty) us->us=Ts.map Value.type
 | [],_,.nil=>rfl
 | T::r,_,.cons h t=>by cases h;rw[Hg r t];rfl
theorem J2:CallR X (.builtin "isinstance") (λxs H Q=>∃(x:V) (p:XU) (Ts:List String) (t:XR) (b:Bool),xs=[x,.ref p]/\H p=some (.tup (Ts.map V.ty))/\TyOf X.K H x t/\PySem.W.kitAny X.K t (Ts.map Value.type)=some b/\Q (.bl b) H):=by
 intro pq s σ H xs us Q I r h;obtain⟨x,p,Ts,t,b,rfl,hp,ty,e,q⟩:=h;obtain⟨u1,u2,rfl,r1,r2⟩:=Vals.two r;cases r2;obtain⟨_,its,rv,⟨⟨c,dd,dt,sl⟩,h1,h2,n,h3⟩⟩:=(show ObjOk X.prog X.w H s.heap p (.tup (Ts.map V.ty)) from I.hok p _ hp)
 have ei:=Hg Ts rv;subst ei;replace h2:c = .type "tuple":=h2;replace h3:dt = .seq (Ts.map Value.type).toArray n:=h3;subst h2 h3;exact GM I r1 ty h1 e λtk=>⟨.bl b,H,I.tok tk,rfl,q⟩
theorem J3(hc:X.calm=true):CallR X (.builtin "all") (λxs H Q=>∃(a:XU) (bs:List Bool),xs=[.ref a]/\SqL X.K H a (bs.map V.bl)/\Q (.bl (bs.all id)) H):=by
 intro pq s σ H xs us Q I r h;obtain⟨a,bs,rfl,hq,q⟩:=h;obtain⟨u,rfl,ru⟩:=AB r;cases ru;obtain⟨its,rv,pl,hz⟩:=I.list hq;have hl:=rv.length;rw[U4]at hl;refine call_all_walk (Y2 pl.isList ?_);have hlt:a<s.heap.objs.size:=by obtain⟨o,n,e,_⟩:=pl;exact U5 e
 refine⟨s.heap.objs.size,_,_,_,_,_,λi=>bs.getD i false,rfl,Walks.list (by exact I.ok.hd hc) s.heap.objs.size a (UF hlt) its.toArray,⟨⟨_,U8 _ rfl,rfl,rfl⟩,pl.isList.push _⟩,?_,λh' tk hk=>?_⟩
 ·intro i v s' Q' E' hv hQ';have hv':its[i]?=some v:=by simpa using hv
  have hi:i<its.length:=(gM hv').1;have hb:(bs.map V.bl)[i]?=some (.bl (bs[i]'(by omega))):=by simp
  obtain⟨u',eu,ru'⟩:=rv.get hb;rw[hv']at eu;cases eu;cases ru';have hg:bs.getD i false=bs[i]'(by omega):=by simp[VV,show i<bs.length by omega]
  have hQ2:Q' (bs.getD i false) s':=hQ';rw[hg]at hQ2;exact Xi hQ2
 ·have I1:Inv X pq σ H {s with heap:=h',toks:=tk}:=I.kept λb o e=>hk b o (by simp;exact UF (U5 e)) (U3 _ e);refine⟨.bl _,H,I1,rfl,?_⟩
  have e:(U7 its.toArray.size).all (λi=>bs.getD i false)=bs.all id:=by
   rw[U6,<-hl,Ug,US,US];constructor
   ·intro h b hb;obtain⟨j,hj,e⟩:=V5.mp hb;have:=h j (Ua.mpr hj);simpa[VV,hj,e] using this
   ·intro h j hj;have hj1:j<bs.length:=Ua.mp hj;have:=h bs[j] (Ut hj1);simpa[VV,hj1] using this
  rw[e];exact q
theorem J4:CallR X (.type "range") (λxs H Q=>∃ b,xs=[.int b]/\∀ p,H p=none->Q (.ref p) (upd H p (.rng 0 b))):=by
 intro pq s σ H xs us Q I r h;obtain⟨b,rfl,q⟩:=h;obtain⟨u1,rfl,⟨t,rfl⟩⟩:=AB r;refine call_range_1 ⟨.ref s.heap.objs.size,_,I.laid (o := .rng 0 b) (λb o e=>U3 _ e) (U9 _) ⟨_,_,_,U8 _ rfl⟩,rfl,q _ I.fresh⟩
noncomputable def J5(lo:Int)(n:Nat):List V:=(U7 n).map λ(i:Nat)=>V.int (lo+(i:Int))
theorem Ev(lo:Int)(n:Nat):(J5 lo n).length=n:=by unfold J5;simp
theorem E4(hc:X.calm=true):CallR X (.type "list") (λxs H Q=>∃ p a b,xs=[.ref p]/\H p=some (.rng a b) /\ -(2 ^ 62)<=a/\a<2 ^ 62 /\ -(2 ^ 62)<=b/\b<2 ^ 62/\(b - a).toNat<=100000/\∀ l,H l=none->Q (.ref l) (upd H l (.lst (J5 a (b - a).toNat)))):=by
 intro pq s σ H xs us Q I r h;obtain⟨p,a,b,rfl,hp,h1,h2,h3,h4,h5,q⟩:=h;obtain⟨u,rfl,ru⟩:=AB r;cases ru;obtain⟨t,u',v,ho⟩:=(show ObjOk X.prog X.w H s.heap p (.rng a b) from I.hok p _ hp)
 have hn:Builtin.Range.rangeSize a b 1=(((b - a).toNat:Nat):Int):=by rw[rangeSize_one];split<;>omega
 refine call_list_range (I.ok.hd hc) (show IsRange s.heap p a b 1 t u' v from ho) (small_one h1 h2 h3 h4) hn (by omega) λh' tk acc c' kp e hi=>?_;have hz:(b - a).toNat<=XY:=UR h5 (by decide);refine⟨.ref s.heap.objs.size,_,I.laid kp (U9 _) (show ObjOk X.prog X.w _ h' _ (.lst (J5 a (b - a).toNat)) from ⟨by rw[Ev];exact hz,acc.toList,c',?_,by simpa using e⟩),rfl,q _ I.fresh⟩;obtain⟨hs,hv⟩:=hi
 have key:∀(n:Nat) (l:List XR) (lo:Int),l.length=n->(∀(j:Nat) (v:XR),l[j]?=some v->∃ t,v=Value.int (lo+(j:Int)) t)->Vals ((U7 n).map λ(i:Nat)=>V.int (lo+(i:Int))) l:=by
  intro n
  induction n with
  | zero=>intro l lo hl _;cases l with | nil=>exact .nil | cons _ _=>simp at hl
  | succ n ih=>
    intro l lo hl hv;cases l with
    | nil=>simp at hl
    | cons x r=>
      rw[List.range_succ_eq_map,UT,Vk];refine .cons ?_ ?_
      ·obtain⟨t,e⟩:=hv 0 x (by simp);exact⟨t,e⟩
      ·have:=ih r (lo+1) (by simpa using hl) λj v hj=>by
        obtain⟨t,e⟩:=hv (j+1) v (by simpa using hj);refine⟨t,?_⟩;rw[e]
        congr 1
        omega
       have e2:((λ(i:Nat)=>V.int (lo+(i:Int)))∘Nat.succ)=λ(i:Nat)=>V.int (lo+1+(i:Int)):=by
        funext i
        show V.int (lo+((i+1:Nat):Int))=V.int (lo+1+(i:Int))
        congr 1
        omega
       rw[e2];exact this
 refine key _ _ a (by simpa using hs) λj v hj=>?_;obtain⟨t,e⟩:=hv j v (by simpa using hj);exact⟨t,by rw[e];congr 1;omega⟩
end
noncomputable def srt(ns:List Int):List Int:=ns.mergeSort (λa b=>decide (a<=b))
theorem Cb(ns:List Int):(srt ns).Perm ns:=List.mergeSort_perm _ _
theorem Kj(ns:List Int):(srt ns).Pairwise (·<=·):=by
 have h:=List.pairwise_mergeSort (le:=λ(a b:Int)=>decide (a<=b)) (λa b c h1 h2=>by simp only[dQ]at *;omega) (λa b=>by simp only[Uh,dQ];omega) ns;exact h.imp λh=>of_decide_eq_true h
theorem Kk{ns ns':List Int}(hp:ns'.Perm ns)(hs:ns'.Pairwise (·<=·)):ns'=srt ns:=
 List.Perm.eq_of_pairwise (λ_ _ _ _ a b=>Int.le_antisymm a b) hs (Kj ns) (hp.trans (Cb ns).symm)
theorem n0:∀{ns:List Int} {us:List XR},Vals (ns.map V.int) us->IntsAre us ns
 | [],_,.nil => .nil
 | _::_,_,.cons ⟨_,e⟩ t=>by subst e;exact .cons _ _ (n0 t)
theorem Dd:∀{ns:List Int} {us:List XR},IntsAre us ns->Vals (ns.map V.int) us
 | _,_,.nil => .nil
 | _,_,.cons _ _ t => .cons ⟨_,rfl⟩ (Dd t)
theorem Kl:Xb "sorted"=some (.builtin "sorted"):=by decide +kernel
end L2
set_option maxHeartbeats 1000000
namespace Rf
open PySem L2
inductive TyN where
 | int | bool | str | list | tuple | none
 deriving DecidableEq
noncomputable def TyN.nm:TyN->String
 | .int=>"int" | .bool=>"bool" | .str=>"str" | .list=>"list" | .tuple=>"tuple" | .none=>"NoneType"
inductive SV where
 | non | bl (b:Bool) | int (i:Int) | str (x:Str) | tup (xs:List SV) | loc (k:Nat) | ro (xs:List SV) | ty (t:TyN)
inductive SO where
 | lst (xs:List SV)
 | iset (ms:List Int)
 | dtp (kvs:List ((Int×Int)×Int)) | dct (kvs:List (Int×SV)) | dcf (o:Obj) (ks:List (Key×V)) (kvs:List (Int×SV))
noncomputable abbrev Sto:=List SO
noncomputable abbrev EnvS:=List (Option SV)
noncomputable def FzL(K:U1)(H:Hp)(a:XU)(vs:List V):Prop:=(∃ o,H a=some (.frz o (.lst vs)))\/
 ∃(o:Obj) (its:Array XR) (n:Nat),K.lookup a=some o/\o.cls = .type "list"/\o.dict=none/\o.data = .seq its n/\its.size<=XY/\Vals vs its.toList
theorem FzL.sq{K:U1}{H:Hp}{a:XU}{vs:List V}(h:FzL K H a vs):SqL K H a vs:=h.imp (λ⟨o,e⟩ => .inr ⟨o,e⟩) id
mutual
noncomputable def Rl(K:U1)(as:List XU)(H:Hp):V->SV->Prop
 | v,.non=>v = .non
 | v,.bl b=>v = .bl b
 | v,.int i=>v = .int i
 | v,.str x=>v = .str x
 | v,.tup xs=>∃ p vs,v = .ref p/\H p=some (.tup vs)/\RlAll K as H vs xs
 | v,.loc k=>∃ a,as[k]?=some a/\v = .ref a
 | v,.ro xs=>∃ a vs,v = .ref a/\FzL K H a vs/\RlAll K as H vs xs
 | v,.ty t=>v = .ty t.nm
noncomputable def RlAll(K:U1)(as:List XU)(H:Hp):List V->List SV->Prop
 | vs,[]=>vs=[]
 | vs,x::xs=>∃ v r,vs=v::r/\Rl K as H v x/\RlAll K as H r xs
end
noncomputable def imm:HO->Bool
 | .tup _=>true
 | .frz _ (.lst _)=>true
 | _=>false
noncomputable def KeepU(H H':Hp):Prop:=∀ b o,H b=some o->imm o=true->H' b=some o
theorem KeepU.refl(H:Hp):KeepU H H:=λ_ _ h _=>h
theorem KeepU.trans{H H' H'':Hp}(a:KeepU H H')(b:KeepU H' H''):KeepU H H'':=λx o h i=>b x o (a x o h i) i
theorem n6{H:Hp}{p:XU}{o:HO}(hp:H p=none):KeepU H (upd H p o):=λb u h _=>by
 rw[e8 (i5 h hp)];exact h
theorem Bo{H:Hp}{a:XU}{u o:HO}(h:H a=some u)(i:imm u=false):KeepU H (upd H a o):=λb v hb iv=>by
 rw[e8 (K0 hb h (by intro z;rw[z,i]at iv;cases iv))];exact hb
theorem FzL.mono{K:U1}{H H':Hp}{a:XU}{vs:List V}(k:KeepU H H')(h:FzL K H a vs):FzL K H' a vs:=h.imp (λ⟨o,e⟩=>⟨o,k _ _ e rfl⟩) id
theorem E5{α:Type}{as as':List α}(h:as <+: as'){k:Nat}{a:α}(e:as[k]?=some a):as'[k]?=some a:=by
 obtain⟨t,rfl⟩:=h;rw[UM ((gM e).1)];exact e
mutual
theorem Rl.mono{K:U1}{as as':List XU}{H H':Hp}(ha:as <+: as')(hH:KeepU H H'):∀(x:SV) (v:V),Rl K as H v x->Rl K as' H' v x
 | .non,v,h=>by unfold Rl at h ⊢;exact h
 | .bl _,v,h=>by unfold Rl at h ⊢;exact h
 | .int _,v,h=>by unfold Rl at h ⊢;exact h
 | .str _,v,h=>by unfold Rl at h ⊢;exact h
 | .tup xs,v,h=>by
   unfold Rl at h ⊢;obtain⟨p,vs,e,hp,h⟩:=h;exact⟨p,vs,e,hH p _ hp rfl,RlAll.mono ha hH xs vs h⟩
 | .ro xs,v,h=>by
   unfold Rl at h ⊢;obtain⟨p,vs,e,hp,h⟩:=h;exact⟨p,vs,e,hp.mono hH,RlAll.mono ha hH xs vs h⟩
 | .ty _,v,h=>by unfold Rl at h ⊢;exact h
 | .loc k,v,h=>by
   unfold Rl at h ⊢;obtain⟨a,e,z⟩:=h;exact⟨a,E5 ha e,z⟩
theorem RlAll.mono{K:U1}{as as':List XU}{H H':Hp}(ha:as <+: as')(hH:KeepU H H'):∀(xs:List SV) (vs:List V),RlAll K as H vs xs->RlAll K as' H' vs xs
 | [],vs,h=>by unfold RlAll at h ⊢;exact h
 | x::xs,vs,h=>by
   unfold RlAll at h ⊢;obtain⟨v,r,e,h1,h2⟩:=h;exact⟨v,r,e,Rl.mono ha hH x v h1,RlAll.mono ha hH xs r h2⟩
end
section
variable{K:U1}{as:List XU}{H:Hp}
theorem rl_non{v:V}:Rl K as H v .non↔v = .non:=by unfold Rl;exact Iff.rfl
theorem rl_bl{v:V}{b:Bool}:Rl K as H v (.bl b)↔v = .bl b:=by unfold Rl;exact Iff.rfl
theorem rl_int{v:V}{i:Int}:Rl K as H v (.int i)↔v = .int i:=by unfold Rl;exact Iff.rfl
theorem rl_str{v:V}{x:Str}:Rl K as H v (.str x)↔v = .str x:=by unfold Rl;exact Iff.rfl
theorem rl_tup{v:V}{xs:List SV}:Rl K as H v (.tup xs)↔∃ p vs,v = .ref p/\H p=some (.tup vs)/\RlAll K as H vs xs:=by rw[Rl]
theorem rl_loc{v:V}{k:Nat}:Rl K as H v (.loc k)↔∃ a,as[k]?=some a/\v = .ref a:=by unfold Rl;exact Iff.rfl
theorem rl_ro{v:V}{xs:List SV}:Rl K as H v (.ro xs)↔∃ a vs,v = .ref a/\FzL K H a vs/\RlAll K as H vs xs:=by rw[Rl]
theorem rl_ty{v:V}{n:TyN}:Rl K as H v (.ty n)↔v = .ty n.nm:=by unfold Rl;exact Iff.rfl
theorem rla_nil{vs:List V}:RlAll K as H vs []↔vs=[]:=by unfold RlAll;exact Iff.rfl
theorem rla_cons{vs:List V}{x:SV}{xs:List SV}:RlAll K as H vs (x::xs)↔∃ v r,vs=v::r/\Rl K as H v x/\RlAll K as H r xs:=by rw[RlAll]
theorem RlAll.nil:RlAll K as H [] []:=rla_nil.mpr rfl
theorem RlAll.cons{v:V}{x:SV}{vs:List V}{xs:List SV}(h:Rl K as H v x)(t:RlAll K as H vs xs):RlAll K as H (v::vs) (x::xs):=rla_cons.mpr ⟨v,vs,rfl,h,t⟩
theorem RlAll.length:∀{xs:List SV} {vs:List V},RlAll K as H vs xs->vs.length=xs.length
 | [],_,h=>by rw[rla_nil.mp h];rfl
 | x::xs,_,h=>by
   obtain⟨v,r,rfl,_,t⟩:=rla_cons.mp h;simp[t.length]
theorem RlAll.get:∀{xs:List SV} {vs:List V} {i:Nat} {x:SV},RlAll K as H vs xs->xs[i]?=some x->∃ v,vs[i]?=some v/\Rl K as H v x
 | [],_,i,_,_,e=>by simp at e
 | y::xs,_,0,_,h,e=>by
   obtain⟨v,r,rfl,a,_⟩:=rla_cons.mp h;simp at e;subst e;exact⟨v,rfl,a⟩
 | y::xs,_,i+1,_,h,e=>by
   obtain⟨v,r,rfl,_,t⟩:=rla_cons.mp h;simpa using t.get (by simpa using e)
theorem RlAll.append:∀{xs ys:List SV} {vs us:List V},RlAll K as H vs xs->RlAll K as H us ys->RlAll K as H (vs++us) (xs++ys)
 | [],_,_,_,h,h'=>by rw[rla_nil.mp h];exact h'
 | x::xs,_,_,_,h,h'=>by
   obtain⟨v,r,rfl,a,t⟩:=rla_cons.mp h;exact .cons a (t.append h')
theorem RlAll.take:∀{xs:List SV} {vs:List V} (n:Nat),RlAll K as H vs xs->RlAll K as H (vs.take n) (xs.take n)
 | _,_,0,_=>by simpa using RlAll.nil
 | [],_,n+1,h=>by rw[rla_nil.mp h];exact .nil
 | x::xs,_,n+1,h=>by
   obtain⟨v,r,rfl,a,t⟩:=rla_cons.mp h;exact .cons a (t.take n)
theorem RlAll.drop:∀{xs:List SV} {vs:List V} (n:Nat),RlAll K as H vs xs->RlAll K as H (vs.drop n) (xs.drop n)
 | _,_,0,h=>h
 | [],_,n+1,h=>by rw[rla_nil.mp h];exact .nil
 | x::xs,_,n+1,h=>by
   obtain⟨v,r,rfl,a,t⟩:=rla_cons.mp h;exact t.drop n
theorem RlAll.set{x:SV}{v:V}(hx:Rl K as H v x):∀{xs:List SV} {vs:List V} (n:Nat),RlAll K as H vs xs->RlAll K as H (vs.set n v) (xs.set n x)
 | [],_,n,h=>by rw[rla_nil.mp h];exact .nil
 | y::xs,_,0,h=>by
   obtain⟨_,r,rfl,_,t⟩:=rla_cons.mp h;exact .cons hx t
 | y::xs,_,n+1,h=>by
   obtain⟨_,r,rfl,a,t⟩:=rla_cons.mp h;exact .cons a (t.set hx n)
theorem RlAll.ins{x:SV}{v:V}(hx:Rl K as H v x){xs:List SV}{vs:List V}(h:RlAll K as H vs xs)(n:Nat):RlAll K as H (vs.take n++v::vs.drop n) (xs.take n++x::xs.drop n):=(h.take n).append (.cons hx (h.drop n))
theorem RlAll.ints{is:List Int}:RlAll K as H (is.map V.int) (is.map SV.int):=by
 induction is with
 | nil=>exact .nil
 | cons i is ih=>exact .cons (rl_int.mpr rfl) ih
end
noncomputable def RlD(K:U1)(as:List XU)(H:Hp):List (Key×V)->List (Int×SV)->Prop
 | ks,[]=>ks=[]
 | ks,p::r=>∃ v t,ks=(.inl p.1,v)::t/\Rl K as H v p.2/\RlD K as H t r
theorem RlD.mono{K:U1}{as as':List XU}{H H':Hp}(ha:as <+: as')(hH:KeepU H H'):∀(kvs:List (Int×SV)) (ks:List (Key×V)),RlD K as H ks kvs->RlD K as' H' ks kvs
 | [],_,h=>h
 | p::r,_,⟨v,t,e,h1,h2⟩=>⟨v,t,e,Rl.mono ha hH p.2 v h1,RlD.mono ha hH r t h2⟩
noncomputable def dtV(kvs:List ((Int×Int)×Int)):List (List Key×V):=kvs.map λp=>([.inl p.1.1,.inl p.1.2],V.int p.2)
noncomputable def RlO(K:U1)(as:List XU)(H:Hp)(a:XU):SO->Prop
 | .lst xs=>∃ vs,H a=some (.lst vs)/\RlAll K as H vs xs
 | .iset ms=>∃ F,H a=some (.set F ms.length)/\∀ k,F k=decide (k∈ms)
 | .dtp kvs=>H a=some (.dT (dtV kvs))
 | .dct kvs=>∃ ks,H a=some (.dK ks)/\RlD K as H ks kvs
 | .dcf o ks kvs=>H a=some (.frz o (.dK ks))/\RlD K as H ks kvs
structure Ok(K:U1)(as:List XU)(H:Hp)(S:Sto):Prop where
 len:as.length=S.length
 nd:as.Nodup
 obj:∀(k:Nat) (o:SO) (a:XU),S[k]?=some o->as[k]?=some a->RlO K as H a o
noncomputable def EnvOk(K:U1)(as:List XU)(H:Hp)(σ:St)(ρ:EnvS):Prop:=σ.length=ρ.length/\∀(i:Nat) (x:SV),ρ[i]?=some (some x)->∃ v,σ[i]?=some (some v)/\Rl K as H v x
theorem EnvOk.mono{K:U1}{as as':List XU}{H H':Hp}{σ:St}{ρ:EnvS}(h:EnvOk K as H σ ρ)(ha:as <+: as')(hH:KeepU H H'):EnvOk K as' H' σ ρ:=⟨h.1,λi x e=>let ⟨v,a,b⟩:=h.2 i x e;⟨v,a,Rl.mono ha hH x v b⟩⟩
theorem EnvOk.set{K:U1}{as:List XU}{H:Hp}{σ:St}{ρ:EnvS}(h:EnvOk K as H σ ρ){i:Nat}{v:V}{x:SV}(hx:Rl K as H v x):EnvOk K as H (σ.set i (some v)) (ρ.set i (some x)):=⟨by rw[Us,Us];exact h.1,λj y e=>by
 by_cases hij:i=j
 ·subst hij;have hi:i<ρ.length:=by have:=(gM e).1;rwa [Us]at this
  rw[UZ hi]at e;rw[UZ (by rw[h.1];exact hi)];cases e;exact⟨v,rfl,hx⟩
 ·rw[VC hij]at e ⊢;exact h.2 j y e⟩
section
variable{K:U1}{as:List XU}{H:Hp}{S:Sto}
theorem RlO.mono{as':List XU}{H':Hp}{a:XU}(ha:as <+: as')(hH:KeepU H H')(e:∀ u,H a=some u->H' a=some u):∀{o:SO},RlO K as H a o->RlO K as' H' a o
 | .lst xs,⟨vs,h1,h2⟩=>⟨vs,e _ h1,RlAll.mono ha hH xs vs h2⟩
 | .iset ms,⟨F,h1,h2⟩=>⟨F,e _ h1,h2⟩
 | .dtp kvs,h1=>e _ h1
 | .dct kvs,⟨ks,h1,h2⟩=>⟨ks,e _ h1,RlD.mono ha hH kvs ks h2⟩
 | .dcf _ ks kvs,⟨h1,h2⟩=>⟨e _ h1,RlD.mono ha hH kvs ks h2⟩
theorem RlO.some{a:XU}:∀{o:SO},RlO K as H a o->∃ u,H a=some u/\imm u=false
 | .lst _,⟨_,h,_⟩=>⟨_,h,rfl⟩
 | .iset _,⟨_,h,_⟩=>⟨_,h,rfl⟩
 | .dtp _,h=>⟨_,h,rfl⟩
 | .dct _,⟨_,h,_⟩=>⟨_,h,rfl⟩
 | .dcf _ _ _,⟨h,_⟩=>⟨_,h,rfl⟩
theorem Ok.of(h:Ok K as H S){k:Nat}{a:XU}(e:as[k]?=some a):∃ o,S[k]?=some o/\RlO K as H a o:=by
 have hk:k<S.length:=by rw[<-h.len];exact(gM e).1
 exact⟨S[k],UI hk,h.obj k _ a (UI hk) e⟩
theorem Ok.new(h:Ok K as H S){p:XU}{o:HO}(hp:H p=none):Ok K as (upd H p o) S:=⟨h.len,h.nd,λk u a e ea=>by
 have r:=h.obj k u a e ea;obtain⟨z,hz,_⟩:=r.some;exact r.mono (UW as) (n6 hp) λvs hv=>by rw[e8 (i5 hz hp)];exact hv⟩
theorem Ok.free(h:Ok K as H S){p:XU}(hp:H p=none):p∉as:=λhm=>by
 obtain⟨k,hk⟩:=Vp hm;obtain⟨o,_,r⟩:=h.of hk;obtain⟨z,hz,_⟩:=r.some;rw[hp]at hz;cases hz
theorem Ok.pushO(h:Ok K as H S){p:XU}(hp:H p=none){u:HO}{x:SO}(r:RlO K (as++[p]) (upd H p u) p x):Ok K (as++[p]) (upd H p u) (S++[x]):=by
 have pre:as <+: as++[p]:=VN _ _;refine⟨by rw[UD,UD,h.len];rfl,?_,λk o a e ea=>?_⟩
 ·rw[VY];refine⟨h.nd,by simp,λa ha b hb=>?_⟩;rw[UA.mp hb];intro z;subst z;exact h.free hp ha
 ·by_cases hk:k<S.length
  ·rw[UM hk]at e;rw[UM (by rw[h.len];exact hk)]at ea;exact((h.new (o:=u) hp).obj k o a e ea).mono pre (KeepU.refl _) λ_ z=>z
  ·have hk':k=S.length:=by
    have:=(gM e).1;rw[UD,Ul]at this;omega
   subst hk';rw[UX]at e;rw[<-h.len,UX]at ea;cases e;cases ea;exact r
theorem Ok.push(h:Ok K as H S){p:XU}(hp:H p=none){vs:List V}{xs:List SV}(r:RlAll K as H vs xs):Ok K (as++[p]) (upd H p (.lst vs)) (S++[.lst xs]):=h.pushO hp ⟨vs,g8,RlAll.mono (VN _ _) (n6 hp) xs vs r⟩
theorem Ok.writeO(h:Ok K as H S){k:Nat}{a:XU}{y x:SO}{u:HO}(e:S[k]?=some y)(ea:as[k]?=some a)(r:KeepU H (upd H a u)->RlO K as (upd H a u) a x):Ok K as (upd H a u) (S.set k x)/\KeepU H (upd H a u):=by
 obtain⟨z,h1,iz⟩:=(h.obj k _ a e ea).some;have ku:KeepU H (upd H a u):=Bo h1 iz;refine⟨⟨by rw[Us];exact h.len,h.nd,λj o b eo eb=>?_⟩,ku⟩;by_cases hj:k=j
 ·subst hj;rw[UZ ((gM e).1)]at eo;rw[ea]at eb;cases eo;cases eb;exact r ku
 ·rw[VC hj]at eo
  have hab:b≠a:=λz=>by
   subst z;exact hj ((List.getElem?_inj ((gM ea).1) h.nd).mp (ea.trans eb.symm))
  exact(h.obj j o b eo eb).mono (UW as) ku λws hw=>by rw[e8 hab];exact hw
theorem Ok.write(h:Ok K as H S){k:Nat}{a:XU}{ys xs:List SV}{vs:List V}(e:S[k]?=some (.lst ys))(ea:as[k]?=some a)(r:RlAll K as H vs xs):Ok K as (upd H a (.lst vs)) (S.set k (.lst xs))/\KeepU H (upd H a (.lst vs)):=h.writeO e ea λku=>⟨vs,g8,RlAll.mono (UW as) ku xs vs r⟩
end
structure Go(as:List XU)(H:Hp)(as':List XU)(H':Hp):Prop where
 pre:as <+: as'
 keep:∀ b o,H b=some o->b∉as->H' b=some o/\b∉as'
theorem Go.refl(as:List XU)(H:Hp):Go as H as H:=⟨UW _,λ_ _ h n=>⟨h,n⟩⟩
theorem Go.trans{as as1 as2:List XU}{H H1 H2:Hp}(a:Go as H as1 H1)(b:Go as1 H1 as2 H2):Go as H as2 H2:=⟨a.pre.trans b.pre,λx o h n=>let ⟨h1,n1⟩:=a.keep x o h n;b.keep x o h1 n1⟩
theorem Go.new{as:List XU}{H:Hp}{p:XU}{o:HO}(hp:H p=none):Go as H as (upd H p o):=⟨UW _,λb u h n=>⟨by rw[e8 (i5 h hp)];exact h,n⟩⟩
theorem Go.push{as:List XU}{H:Hp}{p:XU}{o:HO}(hp:H p=none):Go as H (as++[p]) (upd H p o):=⟨VN _ _,λb u h n=>⟨by rw[e8 (i5 h hp)];exact h,by
 rw[UV,UA];rintro(z | z)
 ·exact n z
 ·exact i5 h hp z⟩⟩
theorem Go.write{as:List XU}{H:Hp}{a:XU}{o:HO}(ha:a∈as):Go as H as (upd H a o):=⟨UW _,λb u h n=>⟨by rw[e8 (λz=>n (by rw[z];exact ha))];exact h,n⟩⟩
section
variable{K:U1}{as as':List XU}{H H':Hp}{S:Sto}
theorem Ok.away(h:Ok K as H S){b:XU}{o:HO}(e:H b=some o)(i:imm o=true):b∉as:=λhm=>by
 obtain⟨k,hk⟩:=Vp hm;obtain⟨_,_,r⟩:=h.of hk;obtain⟨z,hz,iz⟩:=r.some;rw[e]at hz;cases hz;rw[i]at iz;cases iz
theorem Go.ku(g:Go as H as' H')(ok:Ok K as H S):KeepU H H':=λb o h i=>(g.keep b o h (ok.away h i)).1
theorem Ok.other(h:Ok K as H S){b:XU}{vs us:List V}(hb:H b=some (.lst vs))(n:b∉as):Ok K as (upd H b (.lst us)) S:=⟨h.len,h.nd,λk o a e ea=>(h.obj k o a e ea).mono (UW as) (Bo hb rfl) λws hw=>by
 rw[e8 (λz=>n (by rw[<-z];exact UC ea))];exact hw⟩
end
end Rf
namespace L2
open PySem PySem.Spec PyProof.Rows
section
variable{κ:Type}[DecidableEq κ]
noncomputable def A7(kvs:List (κ×V))(k:κ):Option V:=(kvs.find? λkv=>decide (kv.1=k)).map (·.2)
noncomputable def AU(kvs:List (κ×V))(k:κ)(v:V):List (κ×V):=
 if (kvs.any λkv=>decide (kv.1=k))=true then kvs.map (λkv=>if kv.1=k then (kv.1,v) else kv) else kvs++[(k,v)]
theorem BV{p:κ×V}{r:List (κ×V)}{k:κ}(e:p.1=k):A7 (p::r) k=some p.2:=by simp[A7,Uw,e]
theorem BW{p:κ×V}{r:List (κ×V)}{k:κ}(e:¬ p.1=k):A7 (p::r) k=A7 r k:=by simp[A7,Uw,e]
theorem Cc(k:κ):∀ kvs:List (κ×V),(kvs.any λkv=>decide (kv.1=k))=(A7 kvs k).isSome
 | []=>rfl
 | p::r=>by
   rw[VB];by_cases e:p.1=k
   ·simp only[BV e,decide_eq_true e,Bool.true_or,Wi]
   ·rw[BW e,decide_eq_false e,X9];exact Cc k r
theorem Av(kvs:List (κ×V))(k:κ)(v:V):(AU kvs k v).length<=kvs.length+1:=by
 unfold AU;split
 ·rw[U4];omega
 ·rw[UD,Uq,V9];omega
theorem Km{kvs:List (κ×V)}{k:κ}(v:V)(h:A7 kvs k=none):AU kvs k v=kvs++[(k,v)]:=by
 unfold AU;rw[Cc,h];exact iG (by decide)
theorem RelO.isSome_eq{o:Option V}{u:Option XR}(r:RelO o u):o.isSome=u.isSome:=by
 cases o with
 | none=>cases u with
   | none=>rfl
   | some _=>exact(show False from r).elim
 | some _=>cases u with
   | none=>exact(show False from r).elim
   | some _=>rfl
theorem KV.val{kvs:List (κ×V)}{vs:List (κ×XR)}(r:KV kvs vs)(k:κ):RelO (A7 kvs k) (valueAt vs k):=by
 unfold KV at r
 induction r with
 | nil=>exact True.intro
 | @cons p q ps qs h t ih=>
   obtain⟨h1,h2⟩:=h;by_cases e:p.1=k
   ·have e':q.1=k:=h1.symm.trans e;have b:valueAt (q::qs) k=some q.2:=by simp[valueAt,Uw,e']
    rw[BV e,b];exact h2
   ·have e':¬ q.1=k:=λz=>e (h1.trans z);have b:valueAt (q::qs) k=valueAt qs k:=by simp[valueAt,Uw,e']
    rw[BW e,b];exact ih
theorem KV.any{kvs:List (κ×V)}{vs:List (κ×XR)}(r:KV kvs vs)(k:κ):(kvs.any λkv=>decide (kv.1=k))=vs.any λkv=>decide (kv.1=k):=by
 unfold KV at r
 induction r with
 | nil=>rfl
 | cons h t ih=>rw[VB,VB,ih,h.1]
theorem KV.repl{kvs:List (κ×V)}{vs:List (κ×XR)}(r:KV kvs vs)(k:κ){y:V}{u:XR}(ry:RelV y u):
 KV (kvs.map λkv=>if kv.1=k then (kv.1,y) else kv) (vs.map λkv=>if kv.1=k then (kv.1,u) else kv):=by
 unfold KV at r ⊢
 induction r with
 | nil=>exact .nil
 | @cons p q ps qs h t ih=>
   rw[UT,UT];refine .cons ?_ ih;obtain⟨h1,h2⟩:=h;by_cases e:p.1=k
   ·rw[iP e,iP (h1.symm.trans e)];exact⟨h1,ry⟩
   ·rw[iG e,iG (λz=>e (h1.trans z))];exact⟨h1,h2⟩
theorem KV.put{kvs:List (κ×V)}{vs:List (κ×XR)}(r:KV kvs vs)(k:κ){y:V}{u:XR}(ry:RelV y u):KV (AU kvs k y) (stored vs k u):=by
 unfold AU stored;rw[r.any k];by_cases e:(vs.any λkv=>decide (kv.1=k))=true
 ·rw[iP e,iP e];exact r.repl k ry
 ·rw[iG e,iG e];exact Paired.snoc r ⟨rfl,ry⟩
theorem KV.keys{kvs:List (κ×V)}{vs:List (κ×XR)}(r:KV kvs vs):kvs.map (·.1)=vs.map (·.1):=by
 unfold KV at r
 induction r with
 | nil=>rfl
 | cons h t ih=>rw[UT,UT,ih,h.1]
theorem KV.length{kvs:List (κ×V)}{vs:List (κ×XR)}(r:KV kvs vs):kvs.length=vs.length:=Paired.length r
end
theorem Hh{P:XZ}{w:Xd}{k:Key}{u:XR}(r:RelV (kV k) u):(j3 P w).is k u=true:=by
 cases k with
 | inl i=>obtain⟨t,e⟩:=(show ∃ t,u=Value.int i t from r);subst e;exact Ek P w i t
 | inr x=>obtain⟨t,e⟩:=(show ∃ t,u=Value.str x t from r);subst e;exact El P w x t
theorem De{P:XZ}{w:Xd}:∀{ks:List Key} {us:List XR},Vals (ks.map kV) us->ItemsAre (j3 P w) ks us
 | [],_,r=>by rw[XD]at r;cases r;exact .nil
 | k::ks,_,r=>by
   rw[UT]at r;cases r with
   | cons h t=>exact .cons (Hh h) (De t)
noncomputable abbrev KT(H:Hp):List (List Key×V)->List (List Key×XU×XR)->Prop:=Paired λp q=>p.1=q.1/\H q.2.1=some (.tup (p.1.map kV))/\RelV p.2 q.2.2
theorem KT.val{H:Hp}{kvs:List (List Key×V)}{xs:List (List Key×XU×XR)}(r:KT H kvs xs)(k:List Key):RelO (A7 kvs k) ((atKey xs k).map (·.2)):=by
 induction r with
 | nil=>exact True.intro
 | @cons p q ps qs h t ih=>
   obtain⟨h1,_,h2⟩:=h;by_cases e:p.1=k
   ·have e':q.1=k:=h1.symm.trans e;have b:atKey (q::qs) k=some q.2:=by simp[atKey,Uw,e']
    rw[BV e,b];exact h2
   ·have e':¬ q.1=k:=λz=>e (h1.trans z);have b:atKey (q::qs) k=atKey qs k:=by simp[atKey,Uw,e']
    rw[BW e,b];exact ih
theorem KT.repl{H:Hp}{kvs:List (List Key×V)}{xs:List (List Key×XU×XR)}(r:KT H kvs xs)(k:List Key){y:V}{u:XR}(ry:RelV y u):
 KT H (kvs.map λkv=>if kv.1=k then (kv.1,y) else kv) (xs.map (putAt k u)):=by
 induction r with
 | nil=>exact .nil
 | @cons p q ps qs h t ih=>
   rw[UT,UT];refine .cons ?_ ih;obtain⟨h1,h2,h3⟩:=h;unfold putAt;by_cases e:p.1=k
   ·rw[iP e,iP (h1.symm.trans e)];exact⟨h1,h2,ry⟩
   ·rw[iG e,iG (λz=>e (h1.trans z))];exact⟨h1,h2,h3⟩
theorem KT.put{H:Hp}{kvs:List (List Key×V)}{xs:List (List Key×XU×XR)}(r:KT H kvs xs)(k:List Key){b:XU}{y:V}{u:XR}(hb:H b=some (.tup (k.map kV)))(ry:RelV y u):
 KT H (AU kvs k y) (storedH xs k b u):=by
 have e:(kvs.any λkv=>decide (kv.1=k))=(atKey xs k).isSome:=by
  rw[Cc,(r.val k).isSome_eq,W6]
 unfold AU storedH;rw[e];by_cases q:(atKey xs k).isSome=true
 ·rw[iP q,iP q];exact r.repl k ry
 ·rw[iG q,iG q];exact Paired.snoc r ⟨rfl,hb,ry⟩
theorem KT.keeps{H H':Hp}{kvs:List (List Key×V)}{xs:List (List Key×XU×XR)}(r:KT H kvs xs)(ht:∀ b ys,H b=some (.tup ys)->H' b=some (.tup ys)):KT H' kvs xs:=
 Paired.mapP r λ_ _ z=>⟨z.1,ht _ _ z.2.1,z.2.2⟩
section
variable{P:XZ}{w:Xd}{H:Hp}{h:Heap}{a:XU}
theorem P3{u:HO}(ok:HOk P w H h)(e:Rd H a u):ObjOk P w H h a u:=e.ok ok
theorem Dg{kvs:List (Key×V)}(ok:HOk P w H h)(e:Rd H a (.dK kvs)):kvs.length<=XY/\(a == Xs)=false/\∃ vs,KV kvs vs/\h.DictOf (j3 P w) a vs:=
 show ObjOk P w H h a (.dK kvs) from P3 ok e
theorem SE{kvs:List (Key×V)}(ok:HOk P w H h)(e:H a=some (.dK kvs)):kvs.length<=XY/\(a == Xs)=false/\∃ vs,KV kvs vs/\h.DictOf (j3 P w) a vs:=Dg ok (.inl e)
theorem Cd{ks:List Key}(ok:HOk P w H h)(e:H a=some (.tup (ks.map kV))):(Ye (j3 P w)).is h ks a:=by
 obtain⟨_,its,r,o,h1,h2,n,h3⟩:=(show ObjOk P w H h a (.tup (ks.map kV)) from ok a _ e)
 exact⟨o,its.toArray,n,h1,h2,h3,by simpa using De r⟩
theorem Hi{kvs:List (List Key×V)}(ok:HOk P w H h)(e:Rd H a (.dT kvs)):kvs.length<=XY/\(a == Xs)=false/\
 ∃ xs,KT H kvs xs/\h.DictOfH (Ye (j3 P w)) a xs:=by
 obtain⟨z,y,xs,r,o,es,ep,h1,h2,h3,h4,h5⟩:=(show ObjOk P w H h a (.dT kvs) from P3 ok e)
 refine⟨z,y,xs,r,o,es,ep,h1,h2,h3,h4,λx hx=>?_,h5⟩
 have all:∀{l:List (List Key×V)} {m:List (List Key×XU×XR)},KT H l m->∀ x∈m,(Ye (j3 P w)).is h x.1 x.2.1:=by
  intro l m q
  induction q with
  | nil=>intro x hx;exact nomatch hx
  | @cons p q ps qs hq t ih=>
    intro x hx;rcases UH.mp hx with e | hx
    ·subst e;exact Cd ok (by rw[<-hq.1];exact hq.2.1)
    ·exact ih x hx
 exact all r x hx
theorem P4{kvs:List (List Key×V)}(ok:HOk P w H h)(e:H a=some (.dT kvs)):kvs.length<=XY/\(a == Xs)=false/\
 ∃ xs,KT H kvs xs/\h.DictOfH (Ye (j3 P w)) a xs:=Hi ok (.inl e)
end
noncomputable def Kn(H:Hp)(a:XU)(y:V)(r:Option V):Prop:=
 (∃ kvs k,Rd H a (.dK kvs)/\y=kV k/\r=A7 kvs k)\/∃ kvs k b,Rd H a (.dT kvs)/\y = .ref b/\H b=some (.tup (k.map kV))/\r=A7 kvs k
noncomputable def SF(H:Hp)(a:XU)(y v:V)(H':Hp):Prop:=
 (∃ kvs k,H a=some (.dK kvs)/\y=kV k/\kvs.length<XY/\H'=upd H a (.dK (AU kvs k v)))\/
 ∃ kvs k b,H a=some (.dT kvs)/\y = .ref b/\H b=some (.tup (k.map kV))/\kvs.length<XY/\H'=upd H a (.dT (AU kvs k v))
section
variable{X:Cx}{pq:List (XU×Obj)}{σ:St}{H:Hp}{s:XS}{a:XU}{y v:V}{u r:XR}{o:Option V}{A:Xg}{E:XR->XS->Prop}
theorem Inv.big(I:Inv X pq σ H s):Xs<s.heap.objs.size:=by
 have h:Xc<s.heap.objs.size:=(I.mod.glob.keeps I.bk).lt;exact XF (by decide) h
theorem Td{Q:XR->XS->Prop}(hu:A.units+1<cLine)(I:Inv X pq σ H s)(g:Kn H a y o)(ry:RelV y u)(h:∀ s',Inv X pq σ H s'->Q (.bool o.isSome) s'):
 XW (XX X.prog X.w) A (Xe .In u (.ref a)) Q E s:=by
 rcases g with⟨kvs,k,e,ey,l⟩ | ⟨kvs,k,b,e,ey,eb,l⟩
 ·subst ey;obtain⟨z,hd,vs,rel,dd⟩:=Dg I.hok e;refine wpAny_in_of (Hh ry) hd dd.mapOf ?_;rw[<-(rel.val k).isSome_eq,<-l];exact h _ (I.tok _)
 ·subst ey;cases(show u=Value.ref b from ry);obtain⟨z,hd,xs,rel,dd⟩:=Hi I.hok e;refine wpAny_in_heap (YH hu) (Cd I.hok eb) hd dd ?_;have q:=(rel.val k).isSome_eq;rw[W6]at q;rw[<-q,<-l];exact h _ (I.tok _)
theorem NF{Q:XR->XS->Prop}(hu:A.units+1<cLine)(I:Inv X pq σ H s)(g:Kn H a y o)(ry:RelV y u)(h:∀ s',Inv X pq σ H s'->Q (.bool (!o.isSome)) s'):
 XW (XX X.prog X.w) A (Xe .NotIn u (.ref a)) Q E s:=by
 rcases g with⟨kvs,k,e,ey,l⟩ | ⟨kvs,k,b,e,ey,eb,l⟩
 ·subst ey;obtain⟨z,hd,vs,rel,dd⟩:=Dg I.hok e;refine wpAny_notIn_of (Hh ry) hd dd.mapOf ?_;rw[<-(rel.val k).isSome_eq,<-l];exact h _ (I.tok _)
 ·subst ey;cases(show u=Value.ref b from ry);obtain⟨z,hd,xs,rel,dd⟩:=Hi I.hok e;refine wpAny_notIn_heap (YH hu) (Cd I.hok eb) hd dd ?_;have q:=(rel.val k).isSome_eq;rw[W6]at q;rw[<-q,<-l];exact h _ (I.tok _)
theorem E6{h':Heap}{t':Nat}{ob:HO}(I:Inv X pq σ H s)(mu:Mut (H a))(hs:UY a s.heap h')(he:∃ q,h'.get? a=some q)(new:ObjOk X.prog X.w (upd H a ob) h' a ob):
 Inv X pq σ (upd H a ob) {s with heap:=h',toks:=t'}:=
 I.write (x:=a) (e:=a) mu (.inl rfl) (λb q hb z=>(hs.2 b hb).trans z) he new
theorem Ko{P:XZ}{w:Xd}{H':Hp}{h':Heap}{kvs:List (Key×V)}{vs:List (Key×XR)}(z:kvs.length<=XY)(hd:(a == Xs)=false)(rel:KV kvs vs)(dd:h'.DictOf (j3 P w) a vs):
 ObjOk P w H' h' a (.dK kvs):=⟨z,hd,vs,rel,dd⟩
theorem J6{H':Hp}{Q:Unit->XS->Prop}(hu:A.units+1<cLine)(I:Inv X pq σ H s)(g:SF H a y v H')(ry:RelV y u)(rv:RelV v r)(h:∀ s',Inv X pq σ H' s'->Q () s'):
 XW (XX X.prog X.w) A (setItem (.ref a) u r) Q E s:=by
 rcases g with⟨kvs,k,e,ey,l,eH⟩ | ⟨kvs,k,b,e,ey,eb,l,eH⟩
 ·subst ey eH;obtain⟨z,hd,vs,rel,dd⟩:=SE I.hok e;have hz:vs.length<=XY:=by rw[<-rel.length];exact z
  have hl:(AU kvs k v).length<=XY:=by have:=Av kvs k v;omega
  refine wpAny_setItem_pairs (hsz:=hz) (Hh ry) dd λh' dd' hs=>h _ ?_;have he:∃ q,h'.get? a=some q:=let ⟨q,_,_,hq,_⟩:=dd';⟨q,hq⟩
  exact E6 I (by rw[e];exact True.intro) hs he (Ko hl hd (rel.put k rv) dd')
 ·subst ey eH;cases(show u=Value.ref b from ry);obtain⟨z,hd,xs,rel,dd⟩:=P4 I.hok e;have hz:xs.length<=XY:=by rw[<-Paired.length rel];exact z
  have hl:(AU kvs k v).length<=XY:=by have:=Av kvs k v;omega
  refine wpAny_setItem_heap (hsz:=hz) (YH hu) (Cd I.hok eb) dd λh' dd' hs=>h _ ?_;obtain⟨q,es,ep,hq,h2,h3,h4,_,h5⟩:=dd';refine E6 I (by rw[e];exact True.intro) hs ⟨q,hq⟩ ⟨hl,hd,_,(rel.put k eb rv).keeps λc ys ec=>?_,q,es,ep,hq,h2,h3,h4,h5⟩;rw[e8 (K0 ec e (λz=>nomatch z))];exact ec
end
noncomputable def Te(ty td:TE):TE:=λσ H Q=>ty σ H λy H1=>td σ H1 λx H2=>∃ a o,x = .ref a/\Kn H2 a y o/\Q (.bl o.isSome) H2
noncomputable def NG(ty td:TE):TE:=λσ H Q=>ty σ H λy H1=>td σ H1 λx H2=>∃ a o,x = .ref a/\Kn H2 a y o/\Q (.bl (!o.isSome)) H2
section
variable{X:Cx}{o i e value:Expr}{pos pos' tpos:Pos}{td ty tv:TE}
theorem Kp(hu:X.A.units+1<cLine)(hi:PE X i ty)(ho:PE X o td):PC X .In i o (Te ty td):=by
 intro pq s σ H Q I h;refine thn (hi pq s σ H _ I h) λiv s1 ⟨y,H1,I1,ry,q1⟩=>thn (ho pq s1 σ H1 _ I1 q1) λu s2 ⟨x,H2,I2,rx,a,ov,ex,g,q2⟩=>?_;subst ex;obtain rfl:u=Value.ref a:=rx;exact Td hu I2 g ry λs3 I3=>⟨.bl ov.isSome,H2,I3,rfl,q2⟩
theorem Dh(hu:X.A.units+1<cLine)(hi:PE X i ty)(ho:PE X o td):PC X .NotIn i o (NG ty td):=by
 intro pq s σ H Q I h;refine thn (hi pq s σ H _ I h) λiv s1 ⟨y,H1,I1,ry,q1⟩=>thn (ho pq s1 σ H1 _ I1 q1) λu s2 ⟨x,H2,I2,rx,a,ov,ex,g,q2⟩=>?_;subst ex;obtain rfl:u=Value.ref a:=rx;exact NF hu I2 g ry λs3 I3=>⟨.bl (!ov.isSome),H2,I3,rfl,q2⟩
end
theorem Kq{P:XZ}{w:Xd}{H:Hp}(h:Heap)(hb:Xs<h.objs.size):ObjOk P w H (h.push {cls := .type "dict",data := .dict #[]}) h.objs.size (.dK []):=
 ⟨VT _,beq_eq_false_iff_ne.mpr (Ne.symm (UF hb)),[],.nil,Heap.DictOf.new h⟩
theorem Kr{P:XZ}{w:Xd}{H:Hp}(h:Heap)(hb:Xs<h.objs.size):ObjOk P w H (h.push {cls := .type "dict",data := .dict #[]}) h.objs.size (.dT []):=
 ⟨VT _,beq_eq_false_iff_ne.mpr (Ne.symm (UF hb)),[],.nil,_,#[],0,U8 _ rfl,⟨rfl,rfl,rfl⟩,rfl,rfl,Vv⟩
noncomputable def QJ:TE:=λ_ H Q=>∀ p,H p=none->Q (.ref p) (upd H p (.dK []))
noncomputable def QK:TE:=λ_ H Q=>∀ p,H p=none->Q (.ref p) (upd H p (.dT []))
section
variable{X:Cx}{pos:Pos}
theorem Ks:PE X (.Dict [] [] pos) QJ:=λpq s σ H Q I h=>
 ZL ⟨.ref s.heap.objs.size,_,I.laid (a:=s.heap.objs.size) (o := .dK []) (t':=s.toks) (λ_ _ q=>U3 _ q) (U9 _) (Kq s.heap I.big),rfl,h _ (I.hok.fresh (U9 _))⟩
theorem Kt:PE X (.Dict [] [] pos) QK:=λpq s σ H Q I h=>
 ZL ⟨.ref s.heap.objs.size,_,I.laid (a:=s.heap.objs.size) (o := .dT []) (t':=s.toks) (λ_ _ q=>U3 _ q) (U9 _) (Kr s.heap I.big),rfl,h _ (I.hok.fresh (U9 _))⟩
end
structure M2(X:Cx)(o:Expr)(m:Str)(apos:Pos)(e f:Expr)(cpos:Pos):Prop where
 base:Y9 o m X.env (eval o X.env)=eval o X.env
 few:((backTo cpos (Xa [e,f] X.env)).all (λx=>!x.1)&&(YU cpos (YB [] X.env)).all (λx=>x.1.isSome)
  && decide (([e,f]:List Expr).length+([]:List Keyword).length+(if ([]:List Keyword).isEmpty then 0 else 1)<30))=true
 line:(apos.endLine == cpos.line)=true
 trees:backTo cpos (Xa [e,f] X.env)=[(false,eval e X.env),(false,eval f X.env)]
noncomputable def IsD(H:Hp)(a:XU):Prop:=(∃ kvs,Rd H a (.dK kvs))\/∃ kvs,Rd H a (.dT kvs)
theorem QL{X:Cx}{pq:List (XU×Obj)}{σ:St}{H:Hp}{s:XS}{a:XU}(I:Inv X pq σ H s)(d:IsD H a):
 s.TypeIs (.ref a) "dict"/\(∀ b,Value.ref a = .ref b->∃ ob,s.heap.get? b=some ob/\ob.dict=none)/\(a == Xs)=false:=by
 rcases d with⟨kvs,e⟩ | ⟨kvs,e⟩
 ·obtain⟨_,hd,vs,_,dd⟩:=Dg I.hok e;refine⟨dd.typeIs,λb q=>?_,hd⟩;cases q;obtain⟨ob,_,_,h1,h2,_⟩:=dd;exact⟨ob,h1,h2.2.1⟩
 ·obtain⟨_,hd,xs,_,dd⟩:=Hi I.hok e;refine⟨dd.typeIs,λb q=>?_,hd⟩;cases q;obtain⟨ob,_,_,h1,h2,_⟩:=dd;exact⟨ob,h1,h2.2.1⟩
mutual
noncomputable def Dat(H:Hp):V->PyData->Prop
 | x,.none=>x = .non
 | x,.bool b=>x = .bl b
 | x,.int i=>x = .int i
 | x,.str s=>x = .str s
 | x,.list ds=>∃ a xs,x = .ref a/\H a=some (.lst xs)/\DatAll H xs ds
 | x,.tuple ds=>∃ a xs,x = .ref a/\H a=some (.tup xs)/\DatAll H xs ds
 | _,.dict _=>False
noncomputable def DatAll(H:Hp):List V->List PyData->Prop
 | [],[]=>True
 | x::xs,d::ds=>Dat H x d/\DatAll H xs ds
 | [],_::_=>False
 | _::_,[]=>False
end
mutual
theorem Dat.mono{H H':Hp}(k:∀ b o,H b=some o->H' b=some o):∀(x:V) (d:PyData),Dat H x d->Dat H' x d
 | _,.none,h=>by unfold Dat at h ⊢;exact h
 | _,.bool _,h=>by unfold Dat at h ⊢;exact h
 | _,.int _,h=>by unfold Dat at h ⊢;exact h
 | _,.str _,h=>by unfold Dat at h ⊢;exact h
 | x,.list ds,h=>by
   unfold Dat at h ⊢;obtain⟨a,xs,e,h1,h2⟩:=h;exact⟨a,xs,e,k _ _ h1,DatAll.mono k xs ds h2⟩
 | x,.tuple ds,h=>by
   unfold Dat at h ⊢;obtain⟨a,xs,e,h1,h2⟩:=h;exact⟨a,xs,e,k _ _ h1,DatAll.mono k xs ds h2⟩
 | _,.dict _,h=>by unfold Dat at h;exact h.elim
theorem DatAll.mono{H H':Hp}(k:∀ b o,H b=some o->H' b=some o):∀(xs:List V) (ds:List PyData),DatAll H xs ds->DatAll H' xs ds
 | [],[],_=>by unfold DatAll;trivial
 | x::xs,d::ds,h=>by
   unfold DatAll at h ⊢;exact⟨Dat.mono k x d h.1,DatAll.mono k xs ds h.2⟩
 | [],_::_,h=>by unfold DatAll at h;exact h.elim
 | _::_,[],h=>by unfold DatAll at h;exact h.elim
end
section
variable{X:Cx}{pq:List (XU×Obj)}{σ:St}{H:Hp}{s:XS}
mutual
theorem Inv.reads(I:Inv X pq σ H s):∀(x:V) (d:PyData) (v:XR),Dat H x d->RelV x v->∃ as,Reads s.heap v d as
 | _,.none,_,h,r=>by unfold Dat at h;subst h;cases r;exact⟨_,.none⟩
 | _,.bool _,_,h,r=>by unfold Dat at h;subst h;cases r;exact⟨_,.bool _⟩
 | _,.int _,_,h,r=>by unfold Dat at h;subst h;obtain⟨t,rfl⟩:=r;exact⟨_,.int _ _⟩
 | _,.str _,_,h,r=>by unfold Dat at h;subst h;obtain⟨t,rfl⟩:=r;exact⟨_,.str _ _⟩
 | x,.list ds,v,h,r=>by
   unfold Dat at h;obtain⟨a,xs,rfl,h1,h2⟩:=h;cases r;obtain⟨its,rv,pl,_⟩:=I.list (SqL.of h1);obtain⟨o,n,ho,hc,_,hd⟩:=pl;obtain⟨as,ra⟩:=Inv.readsAll I xs ds its h2 rv;exact⟨_,.list ho hc hd (by simpa using ra)⟩
 | x,.tuple ds,v,h,r=>by
   unfold Dat at h;obtain⟨a,xs,rfl,h1,h2⟩:=h;cases r;obtain⟨its,rv,pl,_⟩:=I.tuple (SqT.of h1);obtain⟨o,ho,hc,n,hd⟩:=pl;obtain⟨as,ra⟩:=Inv.readsAll I xs ds its h2 rv;exact⟨_,.tuple ho hc hd (by simpa using ra)⟩
 | _,.dict _,_,h,_=>by unfold Dat at h;exact h.elim
theorem Inv.readsAll(I:Inv X pq σ H s):∀(xs:List V) (ds:List PyData) (vs:List XR),DatAll H xs ds->Vals xs vs->∃ as,ReadsAll s.heap vs ds as
 | [],[],_,_,r=>by cases r;exact⟨_,.nil⟩
 | x::xs,d::ds,_,h,r=>by
   unfold DatAll at h;cases r with
   | cons r1 r2=>
     obtain⟨as,ra⟩:=Inv.reads I x d _ h.1 r1;obtain⟨bs,rb⟩:=Inv.readsAll I xs ds _ h.2 r2;exact⟨_,.cons ra rb⟩
 | [],_::_,_,h,_=>by unfold DatAll at h;exact h.elim
 | _::_,[],_,h,_=>by unfold DatAll at h;exact h.elim
end
end
mutual
theorem Dat.noDict{H:Hp}:∀(x:V) (d:PyData),Dat H x d->d.hasDict=false
 | _,.none,_=>by simp only[PyData.hasDict]
 | _,.bool _,_=>by simp only[PyData.hasDict]
 | _,.int _,_=>by simp only[PyData.hasDict]
 | _,.str _,_=>by simp only[PyData.hasDict]
 | x,.list ds,h=>by
   unfold Dat at h;obtain⟨a,xs,e,h1,h2⟩:=h;simp only[PyData.hasDict];exact DatAll.noDict xs ds h2
 | x,.tuple ds,h=>by
   unfold Dat at h;obtain⟨a,xs,e,h1,h2⟩:=h;simp only[PyData.hasDict];exact DatAll.noDict xs ds h2
 | _,.dict _,h=>by unfold Dat at h;exact h.elim
theorem DatAll.noDict{H:Hp}:∀(xs:List V) (ds:List PyData),DatAll H xs ds->PyData.hasDictAll ds=false
 | [],[],_=>by simp only[PyData.hasDictAll]
 | x::xs,d::ds,h=>by
   unfold DatAll at h;simp only[PyData.hasDictAll,Vq];exact⟨Dat.noDict x d h.1,DatAll.noDict xs ds h.2⟩
 | [],_::_,h=>by unfold DatAll at h;exact h.elim
 | _::_,[],h=>by unfold DatAll at h;exact h.elim
end
section
variable{X:Cx}
structure Fit(d:PyData):Prop where
 sh:d.showable=true
 sz:d.shown.length<=XY
 dp:d.depth<=40
end
section
variable{X:Cx}{a b:Expr}{ta:TE}{pos:Pos}
theorem J7:OpR X (Xe .IsNot) (λx y H Q=>∃ c d,x = .bl c/\y = .bl d/\Q (.bl (c != d)) H):=by
 intro pq s σ H x y v u Q I rx ry h;obtain⟨c,d,rfl,rfl,q⟩:=h;cases rx;cases ry;exact isnot_bool ⟨.bl (c != d),H,I,rfl,q⟩
end
section
variable{prog:XZ}{w:Xd}{A:Xg}{E:XR->XS->Prop}{s:XS}
open HT in
theorem DL{t sl:XU}{items:Array XR}{vl vu:XR}{lo hi:Option Int}{Q:XR->XS->Prop}(ht:IsTup s.heap t items)(hs:s.heap.IsSliceOf sl vl vu .none)(pl:IsPart vl lo)(pu:IsPart vu hi)
 (hw:sIx items.size 0 lo=0/\sIx items.size items.size hi=items.size) (h:Q (.ref t) s):XW (XX prog w) A (getItem (.ref t) (.ref sl)) Q E s:=by
 obtain⟨os,hos,hcs,hds⟩:=id hs;have hTs:s.TypeIs (.ref sl) "slice":=⟨os,hos,hcs⟩
 unfold getItem
 try with_reducible refine Xn ?_
 first | refine XQ (XT ?_) | skip
 refine XQ (ZC ht.typeIs (by decide) ?_)
 refine XQ (Xj (name:=Str.ofString "__getitem__") ht.typeIs PyProof.Rows.slot_tuple_getitem
  (Xk PyProof.Rows.slot_tuple_getitem ht.typeIs Z4 ?_ (Z8 _ _)))
 show XW _ _ (Builtin.Tuple.tupleItemsOf (.ref t) >>= _) _ _ s;refine XQ (tupleItemsOf_ ht ?_);refine XQ (YS hTs ?_);rw[iP (by decide)];refine XQ (AW hs pl pu ?_)
 have hyes:(((sIx items.size 0 lo:Nat):Int) == 0&&(1:Int) == 1&&(sIx items.size items.size hi - sIx items.size 0 lo) == items.size)=true:=by
  rw[hw.1,hw.2];simp
 show XW _ _ (if (((sIx items.size 0 lo:Nat):Int) == 0&&(1:Int) == 1&&(sIx items.size items.size hi - sIx items.size 0 lo) == items.size)=true then _ else _) _ _ s;rw[iP hyes];unfold Builtin.Tuple.tupleIsExact;refine XQ (XQ (YS ht.typeIs (XT ?_)));rw[iP (by decide)];exact XQ (Y5 (XT ⟨_,rfl,XT h⟩))
end
section
variable{X:Cx}
noncomputable def SG(K:U1):V->Option Int->Option Int->Hp->VK->Prop:=λx lo hi H Q=>∃ a xs,x = .ref a/\SqT K H a xs/\(HT.sIx xs.length 0 lo=0/\HT.sIx xs.length xs.length hi=xs.length)/\Q (.ref a) H
theorem NH:SlR X (SG X.K):=by
 intro pq s σ H x v vl vu lo hi sl Q I rx hs pl pu h;obtain⟨a,xs,rfl,hx,hw,q⟩:=h;cases rx;obtain⟨its,r,ht,hz⟩:=I.tuple hx;have hlen:its.toArray.size=xs.length:=by rw[U6];exact r.length.symm
 exact⟨"tuple",_,PyProof.Rows.slot_tuple_getitem.lookup,ht.typeIs,DL ht hs pl pu (by rw[hlen];exact hw) ⟨.ref a,H,I,rfl,q⟩⟩
end
theorem b_set:Xb "set"=some (.type "set"):=by decide +kernel
theorem QM:Xb "len"=some (.builtin "len"):=by decide +kernel
section
variable{X:Cx}
noncomputable def NI(K:U1)(te:TE):TE:=λσ H Q=>te σ H λx H1=>∃(p:XU) (ns:List Int),x = .ref p/\SqL K H1 p (ns.map V.int)/\ns.length+1<Xx/\Q (.int (YC (λi=>ns.getD i 0) ns.length).length) H1
theorem J8{e:Expr}{te:TE}{p1 p2 pos1 pos2:Pos}(hc:X.calm=true)(hl:Gl X "len")(hml:X.mg "len"=none)(hs:Gl X "set")(hms:X.mg "set"=none)(he:PE X e te)
 (h1:Xa [e] X.env=(false,eval e X.env)::Xa [] X.env:=by rfl)
 (h2:Xa [.Call (.Name "set" p2) [e] [] pos2] X.env=(false,eval (.Call (.Name "set" p2) [e] [] pos2) X.env)::Xa [] X.env:=by rfl)
 (h3:(backTo pos1 (Xa [] X.env)).any (·.1)=false:=by rfl) (h4:(backTo pos2 (Xa [] X.env)).any (·.1)=false:=by rfl):
 PE X (.Call (.Name "len" p1) [.Call (.Name "set" p2) [e] [] pos2] [] pos1) (NI X.K te):=by
 intro pq s σ H Q I h;refine Xl (v7 I hl hml QM ?_ (by decide) (by decide));refine PyProof.Rows.callWith_builtin1 ?_ h2 h3;rw[h2];show XW _ _ (spliced ((false,eval (.Call (.Name "set" p2) [e] [] pos2) X.env)::backTo pos1 (Xa [] X.env))) _ _ s;refine Calls.spliced_cons ?_;refine Xl (v7 I hs hms b_set ?_ (by decide) (by decide));refine PyProof.Rows.callWith_type1 ?_ h1 h4;rw[h1];show XW _ _ (spliced ((false,eval e X.env)::backTo pos2 (Xa [] X.env))) _ _ s;refine Calls.spliced_cons (thn (he pq s σ H _ I h) λu s1 ⟨x,H1,I1,rx,p,ns,ex,hq,hb,q1⟩=>Calls.spliced_nil ?_);subst ex;cases rx;obtain⟨its,r',pl,hz⟩:=I1.list hq;have hlen:=r'.length;rw[U4]at hlen;refine call_set_list (items:=its.toArray) (ns:=ns) (I1.ok.hd hc) pl.isList (by simpa using n0 r') (by simp only[U6];omega) λh' tk hS hk=>?_;refine Calls.spliced_nil ?_;have I2:Inv X pq σ H1 {s1 with heap:=h',toks:=tk}:=I1.kept λb o e=>hk b o (U5 e) e;obtain⟨o,es,ep,t,ho,hex,hd,_,_,hbb,hf,hn⟩:=hS;refine call_len_set (s:={s1 with heap:=h',toks:=tk}) ho hex hd hf (by unfold Xx at hbb;omega) ?_;refine⟨.int _,H1,I2.tok _,⟨_,rfl⟩,?_⟩;rw[hn];simp only[U6];rw[<-hlen];exact q1
end
section
variable{prog:XZ}{w:Xd}{A:Xg}{E:XR->XS->Prop}{s:XS}
noncomputable def IsPr(h:Heap)(v:XR)(a b:Int):Prop:=∃ p o n t u,v = .ref p/\h.get? p=some o/\o.cls = .type "tuple"/\o.data = .seq #[.int a t,.int b u] n
theorem ints_of:∀(us:List XR),(∀ u∈us,∃ a t,u=Value.int a t)->∃ ns,IntsAre us ns
 | [],_=>⟨[],.nil⟩
 | u::us,h=>by
   obtain⟨a,t,rfl⟩:=h u (UG ..);obtain⟨ns,r⟩:=ints_of us λv hv=>h v (UE _ hv);exact⟨a::ns,.cons _ _ r⟩
theorem IsPr.at{h h':Heap}{v:XR}{a b:Int}(x:IsPr h v a b)(k:∀ p o,h.get? p=some o->o.cls = .type "tuple"->h'.get? p=some o):IsPr h' v a b:=by
 obtain⟨p,o,n,t1,t2,e,ho,hc,hd⟩:=x;exact⟨p,o,n,t1,t2,e,k p o ho hc,hc,hd⟩
end
noncomputable def Up(xs:Array Nat):Prop:=∀ i j (hi:i<xs.size) (hj:j<xs.size),i<j->xs[i]<xs[j]
theorem up_list{xs:Array Nat}:Up xs↔xs.toList.Pairwise (·<·):=by
 rw[Vy]
 exact⟨λh i j hi hj hij=>by simpa using h i j (by simpa using hi) (by simpa using hj) hij,λh i j hi hj hij=>by
  have:=h i j (by simpa using hi) (by simpa using hj) hij
  rwa [Wb,Wb]at this⟩
theorem Ku{xs:Array Nat}(hu:Up xs)(j:Nat):∀(f lo hi:Nat),hi<=xs.size->lo<=hi->hi - lo<=f->(∀ i (h:i<xs.size),i<lo->xs[i]<j)->(∀ i (h:i<xs.size),hi<=i->j<=xs[i])->
 (SetTable.below.go xs j f lo hi)<=xs.size/\(∀ i (h:i<xs.size),i<SetTable.below.go xs j f lo hi->xs[i]<j)/\(∀ i (h:i<xs.size),SetTable.below.go xs j f lo hi<=i->j<=xs[i]):=by
 intro f
 induction f with
 | zero=>
   intro lo hi h1 h2 h3 h4 h5;have:lo=hi:=by omega
   subst this;unfold SetTable.below.go;exact⟨h1,h4,h5⟩
 | succ f ih=>
   intro lo hi h1 h2 h3 h4 h5;unfold SetTable.below.go;by_cases hlh:lo<hi
   ·rw[iP hlh];have hm:(lo+hi) / 2<xs.size:=by omega
    have e:xs.getD ((lo+hi) / 2) j=xs[(lo+hi) / 2]:=by simp[X5,hm]
    dsimp only;rw[e];by_cases hc:xs[(lo+hi) / 2]<j
    ·rw[iP hc];refine ih _ _ h1 (by omega) (by omega) (λi h hi'=>?_) h5;by_cases z:i=(lo+hi) / 2
     ·subst z;exact hc
     ·exact XF (hu i _ h hm (by omega)) hc
    ·rw[iG hc];refine ih _ _ (by omega) (by omega) (by omega) h4 (λi h hi'=>?_);by_cases z:i=(lo+hi) / 2
     ·subst z;omega
     ·have:=hu _ i hm h (by omega);omega
   ·rw[iG hlh];have:lo=hi:=by omega
    subst this;exact⟨h1,h4,h5⟩
theorem Ew{xs:Array Nat}(hu:Up xs)(j:Nat):SetTable.below xs j<=xs.size/\(∀ i (h:i<xs.size),i<SetTable.below xs j->xs[i]<j)/\(∀ i (h:i<xs.size),SetTable.below xs j<=i->j<=xs[i]):=
 Ku hu j xs.size 0 xs.size (U9 _) (VT _) (by omega) (λi _ h=>absurd h (VA _)) (λi h h'=>absurd h (Nat.not_lt.mpr h'))
theorem QN{xs:Array Nat}(hu:Up xs){j:Nat}(hn:xs[SetTable.below xs j]?≠some j):Up (SetTable.insertAt xs (SetTable.below xs j) j):=by
 obtain⟨h1,h2,h3⟩:=Ew hu j;rw[up_list,SetTable.toList_insertAt];have hl:=up_list.mp hu
 have hgt:∀ i (h:i<xs.size),SetTable.below xs j<=i->j<xs[i]:=by
  intro i h hi;have:=h3 i h hi;by_cases z:SetTable.below xs j=i
  ·have:xs[i]≠j:=λe=>hn (by rw[z];simp[h,e]);omega
  ·have a:=hu _ i (by omega) h (Nat.lt_of_le_of_ne hi z);have b:=h3 (SetTable.below xs j) (by omega) (U9 _);omega
 rw[List.pairwise_append];refine⟨hl.take,?_,?_⟩
 ·rw[VM];refine⟨λy hy=>?_,hl.drop⟩;obtain⟨i,hi,e⟩:=V5.mp hy;rw[Wo]at e;have hi':SetTable.below xs j+i<xs.size:=by simp at hi;omega
  have:=hgt _ hi' (VJ _ _);rw[<-e];simpa using this
 ·intro x hx y hy;obtain⟨i,hi,e⟩:=V5.mp hx;have hib:i<SetTable.below xs j:=by simp at hi;omega
  have hx':x<j:=by
   rw[<-e,List.getElem_take];have:=h2 i (by omega) hib;simpa using this
  rcases UH.mp hy with rfl | hy
  ·exact hx'
  ·obtain⟨k,hk,e2⟩:=V5.mp hy;rw[Wo]at e2;have hk':SetTable.below xs j+k<xs.size:=by simp at hk;omega
   have:=hgt _ hk' (VJ _ _);have h:xs.toList[SetTable.below xs j+k]'(by simpa using hk')=xs[SetTable.below xs j+k]:=by simp
   rw[h]at e2;omega
structure Tab(w:Xd)(t:Xr):Prop where
 up:Up t.place
 no:t.dummies=#[]
 led:t.led=!w.params.followText "set-order"
theorem Kv{w:Xd}{t:Xr}(T:Tab w t)(j:Nat):t.slot j ≠ .dummy:=by
 unfold SetTable.slot;rw[T.no];dsimp only;split
 ·exact λz=>nomatch z
 ·have:SetTable.has #[] j=false:=rfl;rw[this];exact λz=>nomatch z
theorem QO{w:Xd}{t:Xr}(T:Tab w t)(g:Nat->Int)(h:Int):∀(f:Nat) (p:SetTable.Probe) (j:Nat) (d:Option Nat),p.dummy=none->SetTable.probe.go t g h f p=some (.empty j d)->t.slot j = .empty/\d=none:=by
 intro f
 induction f with
 | zero=>intro p j d _ e;unfold SetTable.probe.go at e;cases e
 | succ f ih=>
   intro p j d hp e
   have adv:∀ q:SetTable.Probe,q.dummy=none->(t.advance q).dummy=none:=by
    intro q hq;unfold SetTable.advance;split
    ·exact hq
    ·exact hq
   unfold SetTable.probe.go at e;split at e
   ·rename_i hs;cases e;exact⟨hs,hp⟩
   ·rename_i hs;exact absurd hs (Kv T _)
   ·split at e
    ·cases e
    ·exact ih _ _ _ (adv _ hp) e
theorem Kw{w:Xd}{t:Xr}(T:Tab w t){h:Int}{j:Nat}{b:Bool}(e:t.freeSlot h=some (j,b)):t.place[SetTable.below t.place j]?≠some j:=by
 unfold SetTable.freeSlot at e;split at e
 ·rename_i j' d hp;unfold SetTable.probe at hp;obtain⟨hs,hd⟩:=QO T _ _ _ _ _ _ rfl hp;subst hd;cases e;unfold SetTable.slot at hs;dsimp only[W9]at hs ⊢;split at hs
  ·cases hs
  ·rename_i hn;intro z;exact hn (by rw[z];simp)
 ·cases e
theorem B4{w:Xd}{t:Xr}(T:Tab w t)(n:Nat):Tab w (t.standIn n):=by
 refine⟨?_,rfl,T.led⟩;show Up (Array.range n);intro i j hi hj hij;simpa using hij
theorem QP{w:Xd}{t:Xr}(T:Tab w t)(n:Nat):Tab w (t.orStandIn n):=by
 unfold SetTable.orStandIn;split
 ·exact T
 ·exact B4 T n
theorem NJ{w:Xd}{t:Xr}(T:Tab w t)(es:Array (Int×XR))(h:Int)(x:XR):Tab w (layNew t es h x).2.1:=by
 unfold layNew;split
 ·rename_i j b e;refine QP (t:=(t.put j).1) ⟨QN T.up (Kw T e),?_,T.led⟩ _;show(if SetTable.has t.dummies j=true then _ else t.dummies)=#[];rw[T.no];rfl
 ·exact B4 T _
theorem J9{w:Xd}{t:Xr}(T:Tab w t)(es:Array (Int×XR))(n:Nat):Tab w (Yy t es n).2.1:=by
 unfold Yy;split
 ·rename_i t' order e;dsimp only;split
  ·unfold SetTable.relaid SetTable.laid at e;obtain⟨owner,_,e⟩:=Option.bind_eq_some_iff.mp e;have e':=oj e;have e1:=congrArg Prod.fst e';subst e1;refine⟨?_,rfl,T.led⟩;rw[up_list]
   have key:∀ l:List Nat,l.Pairwise (·<·)->((l.filterMap λj=>(owner.getD j none).map (j,·)).map (·.1)).Pairwise (·<·):=by
    intro l hl
    have:(l.filterMap λj=>(owner.getD j none).map (j,·)).map (·.1)=l.filter λj=>(owner.getD j none).isSome:=by
     induction l with
     | nil=>rfl
     | cons a l ih=>
       have ih:=ih (VM.mp hl).2;cases ho:owner.getD a none with
       | none=>rw[List.filterMap_cons_none (by rw[ho];rfl),WC (by rw[ho];simp),ih]
       | some b=>rw[W8 (b:=(a,b)) (by rw[ho];rfl),WD (by rw[ho];rfl),UT,ih]
    rw[this];exact hl.filter _
   simpa using key _ List.pairwise_lt_range
  ·exact B4 T _
 ·exact B4 T _
noncomputable def SetX(prog:XZ)(w:Xd)(h:Heap)(a:XU)(L:List Int):Prop:=
 ∃ o es ep t,h.get? a=some o/\o.ExactSet/\o.data = .set es ep t/\ElemsOf (intKind prog w) es.toList/\es.size<Xx/\t.fits es.size=true/\Tab w t/\(es.toList.map λe=>numOf e.2).Perm L
section
variable{prog:XZ}{w:Xd}{A:Xg}{E:XR->XS->Prop}{s:XS}
theorem SetX.keep{h h':Heap}{a:XU}{L:List Int}(x:SetX prog w h a L)(k:∀ o,h.get? a=some o->h'.get? a=some o):SetX prog w h' a L:=by
 obtain⟨o,es,ep,t,ho,r⟩:=x;exact⟨o,es,ep,t,k o ho,r⟩
theorem CH{k:Int}{v:XR}(h:(intKind prog w).is k v=true):numOf v=k:=by
 obtain⟨t,rfl⟩:=Value.isInt_shape (k:=k) (v:=v) h;rfl
theorem Kx{h:Heap}{a:XU}{o:Obj}{es es':Array (Int×XR)}{ep:Nat}{t t':Xr}{L:List Int}(ho:h.get? a=some o)(hx:o.ExactSet)(hd:o.data = .set es ep t)
 (he:ElemsOf (intKind prog w) es'.toList) (hb:es'.size<Xx) (hf:t'.fits es'.size=true) (hT:Tab w t') (hp:(es'.toList.map λe=>numOf e.2).Perm L):
 (h.update a (Obj.putSet es' t')).get? a=some {o with data := .set es' (ep+1) t'}/\SetX prog w (h.update a (Obj.putSet es' t')) a L:=by
 have g:=Ub (Obj.putSet es' t') ho (by rw[putSet_of es' t' hd];rfl);rw[putSet_of es' t' hd]at g;exact⟨g,_,es',ep+1,t',g,hx,rfl,he,hb,hf,hT,hp⟩
theorem P5{g:Bool->Sem Unit}(hg:∀(b:Bool) (s₁:XS) (Q':Unit->XS->Prop),Q' () s₁->XW (XX prog w) A (g b) Q' E s₁){a:XU}{o:Obj}{es es1:Array (Int×XR)}{ep:Nat}{t t2:Xr}{L:List Int}{dm:Bool}
 {R:Option Bool->XS->Prop} (ho:s.heap.get? a=some o) (hx:o.ExactSet) (hd:o.data = .set es ep t) (he:ElemsOf (intKind prog w) es1.toList) (hb:es1.size<Xx) (hf:t2.fits es1.size=true) (hT:Tab w t2) (hp:(es1.toList.map λe=>numOf e.2).Perm L)
 (h:∀ h',UY a s.heap h'->SetX prog w h' a L->R (some true) {s with heap:=h'}):
 XW (XX prog w) A (do
  storeSet a es1 t2
  if (!dm&&t2.tooFull)=true then do
      g (Yy t2 es1 (SetTable.grown es1.size)).2.2
      storeSet a (Yy t2 es1 (SetTable.grown es1.size)).1 (Yy t2 es1 (SetTable.grown es1.size)).2.1
      pure (some true)
   else pure (some true)) R E s:=by
 obtain⟨g1,x1⟩:=Kx (prog:=prog) ho hx hd he hb hf hT hp;have b1:=UY.update s.heap a (Obj.putSet es1 t2);refine XQ (ZE ho hd ?_ (Yb hb));by_cases hc:(!dm&&t2.tooFull)=true
 ·rw[iP hc];have hpr:=relayAll_perm t2 es1 (SetTable.grown es1.size);have hfr:=relayAll_fits t2 es1 (SetTable.grown es1.size);have hTr:=J9 hT es1 (SetTable.grown es1.size)
  have hsz:(Yy t2 es1 (SetTable.grown es1.size)).1.size<Xx:=by
   rw[<-Ur,hpr.length_eq,Ur];exact hb
  obtain⟨_,x2⟩:=Kx (prog:=prog) g1 hx rfl (he.perm hpr) hsz hfr hTr ((hpr.map _).trans hp);exact XQ (hg _ _ _ (XQ (ZE g1 rfl (XT (h _ (b1.trans (UY.update _ a _)) x2)) (Yb hsz))))
 ·rw[iG hc];exact XT (h _ b1 x1)
theorem Tf{a:XU}{L:List Int}{k:Int}{tk:Tok}{Q:Bool->XS->Prop}(hX:SetX prog w s.heap a L)(hroom:L.length+1<Xx)
 (h:∀ h' b,UY a s.heap h'->SetX prog w h' a (YY L k)->Q b {s with heap:=h'}):XW (XX prog w) A (setAddHashed a (.int k tk) ((intKind prog w).hash k)) Q E s:=by
 obtain⟨o,es,ep,t,ho,hx,hd,hel,hb,hf,hT,hp⟩:=hX;have hkey:(intKind prog w).is k (.int k tk)=true:=Zc _ _ _ _;have hsz:es.size=L.length:=by rw[<-hp.length_eq,U4,Ur]
 unfold setAddHashed setAddHashedIn;refine Xn (XQ (Y3 ho hd hf ?_));dsimp only;rw[byScan_of (knd:=intKind prog w) rfl hb hel,iP rfl];unfold setAddByScan;refine XQ (XQ (Y5 (XQ (wpAny_setScan_of hkey ho hd hf hel ?_))))
 have hin:(L.any (· == k))=true↔∃ e∈es.toList,(intKind prog w).is k e.2=true:=by
  rw[Ux];constructor
  ·rintro⟨x,hxL,e⟩;obtain⟨y,hy,ey⟩:=Um.mp (hp.mem_iff.mpr hxL);obtain⟨⟨k',hk',_⟩,_⟩:=hel y hy;have:numOf y.2=k':=CH hk';have:k'=k:=by rw[<-this,ey];simpa using e
   subst this;exact⟨y,hy,hk'⟩
  ·rintro⟨y,hy,hk'⟩;refine⟨k,hp.mem_iff.mp (Um.mpr ⟨y,hy,CH hk'⟩),by simp⟩
 cases hr:List.findIdx? (λe=>(intKind prog w).is k e.2) es.toList with
 | some j=>
   obtain⟨hj,hpj,_⟩:=List.findIdx?_eq_some_iff_getElem.mp hr;have hL:YY L k=L:=by unfold YY;rw[iP (hin.mpr ⟨_,Ut hj,hpj⟩)]
   refine XT (XT ?_);exact h s.heap _ (UY.refl a s.heap) (by rw[hL];exact⟨o,es,ep,t,ho,hx,hd,hel,hb,hf,hT,hp⟩)
 | none=>
   have hL:YY L k=L++[k]:=by
    unfold YY;rw[iG];intro z;obtain⟨e,he,hk'⟩:=hin.mp z;have:=List.findIdx?_eq_none_iff.mp hr e he;rw[hk']at this;cases this
   have q1:=layNew_perm t es ((intKind prog w).hash k) (.int k tk);have q2:=layNew_fits t es ((intKind prog w).hash k) (.int k tk);have q3:=NJ hT es ((intKind prog w).hash k) (.int k tk);generalize layNew t es ((intKind prog w).hash k) (.int k tk)=lay at q1 q2 q3 ⊢;obtain⟨es1,t1,dm,gv⟩:=lay;dsimp only at q1 q2 q3 ⊢;rw[Wp]at q1;have he1:ElemsOf (intKind prog w) es1.toList:=(hel.push hkey rfl).perm q1
   have hz1:es1.size<Xx:=by
    rw[<-Ur,q1.length_eq,UD,Ur,hsz];simpa using hroom
   have hp1:(es1.toList.map λe=>numOf e.2).Perm (YY L k):=by
    rw[hL];refine(q1.map _).trans ?_;rw[UQ];exact hp.append_right _
   have hgw:∀(b:Bool) (s₁:XS) (Q':Unit->XS->Prop),Q' () s₁->XW (XX prog w) A (match b with | true=>rule "set.scan.the-table-gave-way" | false=>pure ()) Q' E s₁:=
    λb s₁ Q' hq=>by cases b<;>first | exact XT hq | exact Y5 hq
   refine XQ (hgw _ _ _ ?_);split
   ·refine XQ ?_;rw[hashByValue_scannable 8 rfl];refine XT (P5 hgw ho hx hd he1 hz1 q2 q3 hp1 λh' hsb hX'=>?_);exact XT (h h' _ hsb hX')
   ·refine XQ (XT ?_);rw[iP rfl];refine P5 hgw ho hx hd he1 hz1 q2 q3 hp1 λh' hsb hX'=>?_;exact XT (h h' _ hsb hX')
end
section
variable{prog:XZ}{w:Xd}{A:Xg}{R:Result->XS->Prop}{I:XU}{fp wr:List XU}{G:Array Yv->Array Yv->Prop}{n:Nat}{P:Nat->XR->Prop}{St:Nat->XS->Prop}
theorem SH(W:WalksS prog w A.in1 I fp wr G n P St)(S:XU)(hSf:S∉fp)(val:Nat->Int)(hval:∀ i v,P i v->∃ t,v = .int (val i) t)(hb:n+1<Xx):
 ∀(k i:Nat) (s:XS),i+k=n->St i s->SetX prog w s.heap S (YC val i)->
  (∀ s',Moved (S::wr) G s s'->SetX prog w s'.heap S (YC val n)->R (.ok (.ret .none)) s')->
  codeAny (XX prog w) A (.builtin "set.update.loop" ⟨[.ref S,.ref I],[]⟩) R s:=by
 have nw:S∉wr:=λz=>hSf (W.sub _ z);have up:∀ b∈wr,b∈S::wr:=λb hb=>UE _ hb;intro k
 induction k with
 | zero=>
   intro i s hk hst hX hR;obtain rfl:i=n:=hk;refine Xp F.entry_set_update_loop ?_;rw[Around.under_plainId F.plain_set_update_loop _];exact XQ (m:=pyNext (.ref I)) (W.done s _ _ hst λs' hm=>XT (hR s' (hm.mono up) (hX.keep λo e=>hm.heap S o nw e)))
 | succ k ih=>
   intro i s hk hst hX hR;refine Xp F.entry_set_update_loop ?_;rw[Around.under_plainId F.plain_set_update_loop _];refine XQ (m:=pyNext (.ref I)) (W.item i s _ _ (by omega) hst λv s1 hP st1 hm=>?_);obtain⟨t,rfl⟩:=hval i v hP;refine XQ (m:=holding [Value.int (val i) t] (setAdd S (.int (val i) t))) (Xn ?_);unfold setAdd;have X1:SetX prog w s1.heap S (YC val i):=hX.keep λo e=>hm.heap S o nw e;have room:(YC val i).length+1<Xx:=by have:=YZ val i;omega
   refine Xn (XQ ((intKind prog w).pyHash (k:=val i) (Zc _ _ _ _) ?_));refine Tf (s:={s1 with toks:=s1.toks+1}) X1 room λh2 b hsb X2=>?_;rw[<-firstMet_succ]at X2;have oth:∀ b o,b≠S->s1.heap.get? b=some o->h2.get? b=some o:=λb o hne e=>(hsb.2 b hne).trans e;refine XT ⟨Xw F.plain_set_update_loop _,ih (i+1) _ (by omega) (W.frame _ s1 _ _ st1 (W3 _) λb hbf o e=>oth b o (λz=>hSf (z▸hbf)) e) X2 λs3 m3 X3=>?_⟩;exact hR s3 (Moved.trans W.gtrans ((hm.mono up).then_heap (W3 _) λb o hb e=>oth b o (λz=>hb (by rw[z];exact UG)) e) m3) X3
end
section
variable{prog:XZ}{w:Xd}{A:Xg}{E:XR->XS->Prop}{s:XS}
noncomputable abbrev AY(w:Xd):Obj:={cls := .type "set",dict:=none,data := .set #[] 0 (.fresh 0 0 (!w.params.followText "set-order"))}
theorem SJ(a:XR){Q₁:XR->XS->Prop}(h:Q₁ (.ref s.heap.objs.size) {s with heap:=s.heap.push (AY w)}):codeAny (XX prog w) A (.call (.builtin "set.__new__") ⟨[.type "set",a],[]⟩) (wants Q₁ E) s:=by
 refine Yq ?_;show XW _ A.in1 (checkBuiltinCall "set.__new__" ⟨[.type "set",a],[]⟩ >>= λ_=>again (.builtin "set.__new__" ⟨[.type "set",a],[]⟩)) _ _ s;refine XQ (Yx (F.newCall_set_1 a) (XT ⟨Xw F.plain_set_new _,Xp F.entry_set_new ?_⟩));rw[Around.under_plainId F.plain_set_new _];unfold Builtin.«set.__new__» Builtin.Frozenset.newClass;have sub:=sub_set_self;obtain⟨hp,g,d,tk,os⟩:=s;dsimp only
 wp_walk
 refine Yi (XT ?_);dsimp only;simp only[newObj];exact XQ (wpAny_alloc (XT (XT h)))
theorem Ky(h:Heap):SetX prog w (h.push (AY w)) h.objs.size []:=
 ⟨_,#[],0,_,U8 _ rfl,⟨rfl,rfl,rfl⟩,rfl,λe he=>by simp at he,by decide,rfl,⟨λi j hi=>absurd hi (VA _),rfl,rfl⟩,by simp⟩
set_option maxHeartbeats 8000000 in
theorem P6{l:XU}{items:Array XR}{ns:List Int}{Q:XR->XS->Prop}(hh:A.handled=none)(hl:s.heap.IsList l items)(hi:IntsAre items.toList ns)(hb:items.size+1<Xx)
 (h:∀(h':Heap) (tk:Nat),SetX prog w h' s.heap.objs.size (YC (λi=>ns.getD i 0) items.size)->(∀ b o,b<s.heap.objs.size->s.heap.get? b=some o->h'.get? b=some o)->Q (.ref s.heap.objs.size) {s with heap:=h',toks:=tk}):
 XW (XX prog w) A (call (.type "set") [.ref l]) Q E s:=by
 obtain⟨c,tl,hmro⟩:=F.called_set.mro;have made:=F.called_set.made;have sub:=F.called_set.sub;have u1:=F.called_set.notType;have u2:=F.called_set.canCreate;have u3:=F.typeCall_set_1 (.ref l);refine ZY (Yq ?_);show XW _ _ (callAny (.type "set") _) _ _ _;refine XT ⟨Code.quiet_builtin _ (by decide +kernel),Xp F.entry_type_call ?_⟩;rw[Around.under_plain (Yt "set" [.ref l] []) rfl]
 repeat (any_goals (first | assumption | wp_step))
 refine Y1 (SJ (.ref l) (E:=E) (Q₁:=λobj s₁=>obj = .ref s.heap.objs.size/\s₁={s with heap:=s.heap.push (AY w)}) ⟨rfl,rfl⟩) λr s₁ hr=>?_;cases r with
 | error e=>exact hr
 | ok fl=>
   cases fl with
   | ret obj=>
     obtain⟨rfl,rfl⟩:=hr;have gS:(s.heap.push (AY w)).get? s.heap.objs.size=some (AY w):=U8 _ rfl;have hT:Shared.TypeIs {s with heap:=s.heap.push (AY w)} (.ref s.heap.objs.size) "set":=⟨_,gS,rfl⟩
     have u4:=F.called_set.init.lookup;have u5:=F.called_set.init.bind (.ref s.heap.objs.size)
     repeat (any_goals (first | assumption | wp_step))
     refine Y1 (Yz (R:=wants (λr s₂=>r = .none/\∃ h' tk,s₂={s with heap:=h',toks:=tk}/\SetX prog w h' s.heap.objs.size (YC (λi=>ns.getD i 0) items.size)/\
      (∀ b o,b<s.heap.objs.size->s.heap.get? b=some o->h'.get? b=some o)) E) F.called_set.init.plain F.entry_set_init (ZM hT ?_)) λr₂ s₂ hr₂=>?_
     ·obtain⟨⟨cl,di,da,sl⟩,ol,cl',nl,da'⟩:=hl;simp only at cl' da';subst cl' da';have hol:(s.heap.push (AY w)).get? l=some {cls := .type "list",dict:=di,data := .seq items nl,slots:=sl}:=U3 _ ol;have v1:=F.sub_list_set;have v2:=F.sub_list_frozenset;have v3:(Value.type "list" == Value.type "dict")=false:=by decide
      have hl1:(s.heap.push (AY w)).IsList l items:=⟨_,hol,rfl,nl,rfl⟩
      unfold Builtin.«set.__init__» noKeywords Builtin.Frozenset.updateFrom;generalize hPI:pyIter=PI
      wp_walk
      subst hPI;refine Y2 hl1 (XQ (Z0 ?_));have lS:l<s.heap.objs.size:=U5 ol;have z1:(s.heap.push (AY w)).objs.size=s.heap.objs.size+1:=Uc _ _;have lI:l≠(s.heap.push (AY w)).objs.size:=by rw[z1];exact UF (V7 lS)
      have hSf:s.heap.objs.size∉[(s.heap.push (AY w)).objs.size,l]:=by
       rw[z1];intro z;rcases UH.mp z with z | z
       ·exact absurd z (UF (Vc _))
       ·exact absurd (UA.mp z) (Vt lS)
      have hval:∀(i:Nat) (v:XR),items[i]?=some v->∃ t,v = .int ((λi=>ns.getD i 0) i) t:=λi v hv=>IntsAre.int_at hi i v (by rw[Uz];exact hv)
      refine SH ((Walks.list (by simp[hh]) _ l lI items).toS) s.heap.objs.size hSf (λi=>ns.getD i 0) hval hb items.size 0 _ (XG _)
       ⟨⟨_,U8 _ rfl,rfl,rfl⟩,hl1.push _⟩ ((Ky s.heap).keep λo e=>U3 _ e) λs' hm X'=>?_
      obtain⟨h',g',d',tk',os'⟩:=s';obtain rfl:g'=s.gens:=hm.gens;obtain rfl:d'=s.drawn:=hm.drawn;obtain rfl:os'=s.os:=hm.os;refine XT (XT ⟨rfl,h',tk',rfl,X',λb o hb e=>hm.heap b o (λz=>?_) (U3 _ (U3 _ e))⟩);rcases UH.mp z with z | z
      ·exact absurd z (UF hb)
      ·have z':=UA.mp z;rw[z1]at z';exact absurd z' (UF (V7 hb))
     ·cases r₂ with
      | error e=>exact hr₂
      | ok fl₂=>
        cases fl₂ with
        | ret r=>
          obtain⟨rfl,h',tk,rfl,X',hk'⟩:=hr₂
          repeat (any_goals (first | assumption | wp_step))
          exact h _ _ X' hk'
        | _=>exact hr₂.elim
   | _=>exact hr.elim
end
namespace SiF
theorem slot_si_next:Slot "set_iterator" "__next__" "set_iterator.__next__":=
 .of (owner:="set_iterator") (n:="__next__") (by rw[ZR,Yu];kernel_rfl) (by decide +kernel) (by decide +kernel) (by decide +kernel)
  (by first | exact .inl (by decide +kernel) | exact .inr (by decide +kernel)) (by rw[Zd];kernel_rfl)
theorem entry_si_next:entryFor table "set_iterator.__next__"=some Builtin.«set_iterator.__next__»:=entryFor_of_fast (by kernel_rfl)
theorem args_si_next(a:XR):argsOk "set_iterator.__next__" ⟨[a],[]⟩:=by unfold argsOk;kernel_rfl
theorem slot_si_iter:Slot "set_iterator" "__iter__" "set_iterator.__iter__":=
 .of (owner:="set_iterator") (n:="__iter__") (by rw[ZR,Yu];kernel_rfl) (by decide +kernel) (by decide +kernel) (by decide +kernel)
  (by first | exact .inl (by decide +kernel) | exact .inr (by decide +kernel)) (by rw[Zd];kernel_rfl)
theorem entry_si_iter:entryFor table "set_iterator.__iter__"=some Builtin.«dict_keyiterator.__iter__»:=Ze (id':="dict_keyiterator.__iter__") (by kernel_rfl) rfl (by decide +kernel) (by kernel_rfl)
theorem args_si_iter(a:XR):argsOk "set_iterator.__iter__" ⟨[a],[]⟩:=by unfold argsOk;kernel_rfl
theorem entry_set_iter:entryFor table "set.__iter__"=some Builtin.«frozenset.__iter__»:=Ze (id':="frozenset.__iter__") (by kernel_rfl) rfl (by decide +kernel) (by kernel_rfl)
end SiF
theorem BH{α:Type}:∀{l:List α} {i:Nat} (h:i<l.length),(l[i]::l.eraseIdx i).Perm l
 | a::l,0,h => .rfl
 | a::l,i+1,h=>(List.Perm.swap a _ _).trans ((BH (l:=l) (i:=i) (by simpa using h)).cons a)
section
variable{prog:XZ}{w:Xd}{A:Xg}{E:XR->XS->Prop}
theorem NK{src:Source}{n:Nat}(hn:n≠0){s:XS}{Q:Nat->XS->Prop}(h:∀ i d,i<n->Q i {s with drawn:=d}):XW (XX prog w) A (choose src n) Q E s:=by
 intro Γ p hΓ;show Sem.wp _ _ (.choose src n .pure) _ _ _ _;rw[Sem.wp_choose];exact⟨hn,h _ _ (X6 _ (Nat.pos_of_ne_zero hn))⟩
theorem P7{α:Type}:∀(n:Nat) (xs:List α) (s:XS) (Q:List α->XS->Prop),xs.length=n->(∀ ys d,ys.Perm xs->Q ys {s with drawn:=d})->XW (XX prog w) A (Zk n xs) Q E s
 | 0,xs,s,Q,hl,h=>by
   unfold Zk;have:xs=[]:=Vr hl;subst this;exact XT (h [] s.drawn .rfl)
 | n+1,[],s,Q,hl,h=>by cases hl
 | n+1,x::xs,s,Q,hl,h=>by
   unfold Zk;refine XQ (NK (by simp) λi d hi=>?_);rw[UI hi];dsimp only;refine XQ (P7 n _ _ _ (by rw[Vw hi];simp at hl ⊢;omega) λys d' hp=>XT (h _ d' ?_));exact((hp.cons _)).trans (BH hi)
end
theorem Hj{α:Type}(f:Nat->Nat):∀(n k:Nat) (left:List α) (out:Array α),left.length=n->(pickOrder.go f n k left out).toList.Perm (out.toList++left)
 | 0,k,left,out,hl=>by
   have:left=[]:=Vr hl;subst this;unfold pickOrder.go;simp
 | n+1,k,left,out,hl=>by
   unfold pickOrder.go;have hi:f k % left.length<left.length:=X6 _ (by omega);rw[UI hi];dsimp only;refine(Hj f n (k+1) _ _ (by rw[Vw hi];omega)).trans ?_;rw[Wp,Wl];exact List.Perm.append_left _ (BH hi)
theorem JA{α:Type}(f:Nat->Nat)(xs:Array α):(Yj f xs).toList.Perm xs.toList:=by
 unfold Yj;simpa using Hj f xs.size 0 xs.toList #[] (by simp)
end L2
set_option maxHeartbeats 400000
namespace L2
open PySem PySem.Spec PyProof.Rows
noncomputable def SetAt(w:Xd)(h:Heap)(a:XU)(es:Array (Int×XR))(ep:Nat)(t:Xr):Prop:=∃ o,h.get? a=some o/\o.cls = .type "set"/\o.data = .set es ep t/\t.fits es.size=true/\Tab w t
theorem SetAt.keep{w:Xd}{h h':Heap}{a:XU}{es:Array (Int×XR)}{ep:Nat}{t:Xr}(x:SetAt w h a es ep t)(k:∀ o,h.get? a=some o->h'.get? a=some o):SetAt w h' a es ep t:=let ⟨o,e,r⟩:=x;⟨o,k o e,r⟩
noncomputable def slotAt(t:Xr)(i:Nat):Nat:=if i=0 then 0 else t.place.getD (i - 1) 0+1
theorem GN{w:Xd}{t:Xr}(T:Tab w t){i:Nat}(hi:i<=t.place.size):SetTable.below t.place (slotAt t i)=i:=by
 obtain⟨h1,h2,h3⟩:=Ew T.up (slotAt t i);by_cases z:i=0
 ·subst z;have e:slotAt t 0=0:=rfl;rw[e]at h2 h1 ⊢;by_cases q:SetTable.below t.place 0=0
  ·exact q
  ·have:=h2 0 (by omega) (by omega);omega
 ·have e:slotAt t i=t.place[i - 1]'(by omega)+1:=by unfold slotAt;rw[iG z];simp[X5,show i - 1<t.place.size by omega]
  rw[e]at h1 h2 h3 ⊢;rcases Nat.lt_trichotomy (SetTable.below t.place (t.place[i - 1]'(by omega)+1)) i with q | q | q
  ·have:=h3 (i - 1) (by omega) (by omega);omega
  ·exact q
  ·have hi2:i<t.place.size:=by omega
   have a:=h2 i hi2 q;have b:=T.up (i - 1) i (by omega) hi2 (by omega);omega
inductive Way(w:Xd)(h:Heap)(T0 S:XU)(es:Array (Int×XR))(ep:Nat)(t:Xr)(fs:List (Int×XR))(i:Nat):XR->Prop where
 | text (hw:w.params.followText "set-order"=true) (hf:fs=(Yj (w.params.setOrder S ep) es).toList):Way w h T0 S es ep t fs i (.int 0 0)
 | table (hw:w.params.followText "set-order"=false) (hd:(!t.plain&&decide (es.size>1))=false) (hf:fs=es.toList):Way w h T0 S es ep t fs i (.int (slotAt t i:Nat) 0)
 | drawn (hw:w.params.followText "set-order"=false) (pl:List Nat) (o:Obj) (n:Nat) (ho:h.get? T0=some o) (hd:o.data = .seq (pl.map λk=>Value.int (k:Nat) 0).toArray n) (hl:pl.length=fs.length)
    (hf:∀(k:Nat) p,pl[k]?=some p->es[p]?=fs[k]?):Way w h T0 S es ep t fs i (.ref T0)
noncomputable def Sit(w:Xd)(h:Heap)(T0 I S:XU)(es:Array (Int×XR))(ep:Nat)(t:Xr)(fs:List (Int×XR))(i:Nat):Prop:=
 ∃ o first,h.get? I=some o/\o.cls = .type "set_iterator"/\o.data = .fields #[first,.int (i:Nat) 0,.ref S,.int (es.size:Nat) 0,.int (ep:Nat) 0]/\Way w h T0 S es ep t fs i first
section
variable{prog:XZ}{w:Xd}{A:Xg}{E:XR->XS->Prop}{s:XS}{T0 I S:XU}{es:Array (Int×XR)}{ep:Nat}{t:Xr}{fs:List (Int×XR)}{i:Nat}
theorem Sit.typeIs(x:Sit w s.heap T0 I S es ep t fs i):s.TypeIs (.ref I) "set_iterator":=let ⟨o,_,e,c,_⟩:=x;⟨o,e,c⟩
theorem AZ{b:Bool}(hw:w.params.followText "set-order"=b){Q:Bool->XS->Prop}(h:Q b s):XW (XX prog w) A setsByText Q E s:=by
 unfold setsByText;refine XQ (Yi (XT ?_));show Q (w.params.followText "set-order") s;rw[hw];exact h
theorem BX{sl:Nat}{Q:Option (XR×Nat)->XS->Prop}(y:SetAt w s.heap S es ep t)(hw:w.params.followText "set-order"=true)(h:Q (((Yj (w.params.setOrder S ep) es)[i]?).map λe=>(e.2,sl)) s):
 XW (XX prog w) A (setNext S sl i ep) Q E s:=by
 obtain⟨oS,hoS,hcS,hdS,hf,T⟩:=y;unfold setNext;refine XQ (Y3 hoS hdS hf ?_);dsimp only;refine XQ (AZ hw ?_);rw[iP rfl,iG (by simp)];refine XQ ?_;unfold setWalk;refine XQ (Y3 hoS hdS hf ?_);dsimp only;refine XQ (AZ hw ?_);rw[iP rfl];refine XQ (Yi (XT ?_));exact XT h
theorem BD{Q:Option (XR×Nat)->XS->Prop}(y:SetAt w s.heap S es ep t)(hw:w.params.followText "set-order"=false)(hd:(!t.plain&&decide (es.size>1))=false)(hi:i<=es.size)
 (h:Q (match es[i]?,t.place[i]? with | some (_,x),some j=>some (x,j+1) | _,_=>none) s):XW (XX prog w) A (setNext S (slotAt t i) i ep) Q E s:=by
 obtain⟨oS,hoS,hcS,hdS,hf,T⟩:=y
 have hsz:t.place.size=es.size:=by
  simp only[SetTable.fits,U2,bQ]at hf;exact hf.1
 unfold setNext;refine XQ (Y3 hoS hdS hf ?_);dsimp only;refine XQ (AZ hw ?_);rw[iG UB];show XW _ _ (if (!t.plain&&decide (es.size>1))=true then _ else _) _ _ _;rw[hd,iG UB];show XW _ _ ((if (!t.led&&!es.isEmpty)=true then ZQ "set:maker-not-led" else pure ()) >>= _) _ _ _;rw[T.led,hw];refine XQ ?_;rw[show(!(!false)&&!es.isEmpty)=false from rfl,iG UB];refine XT (XT ?_);rw[GN T (by omega)];exact h
theorem JB{e:Int×XR}{Q:Option XR->XS->Prop}(x:Sit w s.heap T0 I S es ep t fs i)(y:SetAt w s.heap S es ep t)(hl:fs.length=es.size)(hi:fs[i]?=some e)
 (hQ:∀ h',UY I s.heap h'->Sit w h' T0 I S es ep t fs (i+1)->Q (some e.2) {s with heap:=h'}):XW (XX prog w) A (pyNext (.ref I)) Q E s:=by
 obtain⟨o,first,ho,hc,hd,W⟩:=id x;obtain⟨oS,hoS,hcS,hdS,hf,T⟩:=id y;have hlt:i<es.size:=by rw[<-hl];exact(gM hi).1
 unfold pyNext;refine XQ (Yd (Xj (name:=Str.ofString "__next__") x.typeIs SiF.slot_si_next (Xk SiF.slot_si_next x.typeIs SiF.entry_si_next ?_ (SiF.args_si_next _))));unfold Builtin.«set_iterator.__next__»;refine XQ (m:=slotArgs "__next__" 0 ⟨[.ref I],[]⟩) (XT ?_);refine XQ (Zf ho hd ?_);dsimp only;refine XQ (YR hoS hdS hf ?_);rw[iG (by simp)]
 have step2:∀(nx:Nat) (v:XR),v=e.2->(∀ h',(∀ T o,T≠I->s.heap.get? T=some o->h'.get? T=some o)->Way w h' T0 S es ep t fs (i+1) (.int nx 0))->
  XW (XX prog w) A.in1 (do ZF (.ref I) 0 (rawInt nx);ZF (.ref I) 1 (rawInt ((i:Int)+1));ret v) (λfin s'=>∃ v,fin=Fin.done (Flow.ret v)/\XW (XX prog w) A (pure (some v)) Q E s')
   (λe s'=>XW (XX prog w) A (do let __do_lift <- isInstance e (Value.type "StopIteration");if __do_lift=true then pure none else throw e) Q E s') s:=by
  intro nx v hv hW;subst hv;refine XQ (Xy ho hd (by simp) ?_);have g1:=Ub (Obj.mapFields (·.setIfInBounds 0 (rawInt nx))) ho (Obj.isFreed_of_fields (Obj.data_mapFields hd _));refine XQ (Xy g1 (Obj.data_mapFields hd _) (by simp) ?_);have g2:=Ub (Obj.mapFields (·.setIfInBounds 1 (rawInt ((i:Int)+1)))) g1 (Obj.isFreed_of_fields (Obj.data_mapFields (Obj.data_mapFields hd _) _));refine XT ⟨_,rfl,XT (hQ _ ((UY.update _ I _).trans (UY.update _ I _)) ⟨_,_,g2,?_,?_,hW _ λT o hT e=>?_⟩)⟩
  ·exact((Obj.cls_mapFields ..).trans (Obj.cls_mapFields ..)).trans hc
  ·rw[Obj.data_mapFields (Obj.data_mapFields hd _)];simp[rawInt]
  ·exact(Ue _ _ (Ne.symm hT)).trans ((Ue _ _ (Ne.symm hT)).trans e)
 cases W with
 | text hw hf'=>
   dsimp only;refine XQ (BX (i:=i) (ep:=ep) y hw ?_);have:(Yj (w.params.setOrder S ep) es)[i]?=some e:=by rw[<-Uz,<-hf'];exact hi
   rw[this];exact step2 0 e.2 rfl λh' _ => .text hw hf'
 | table hw hd' hf'=>
   dsimp only;refine XQ (BD (i:=i) (ep:=ep) y hw hd' (by omega) ?_)
   have hsz:t.place.size=es.size:=by
    simp only[SetTable.fits,U2,bQ]at hf;exact hf.1
   have e1:es[i]?=some e:=by rw[<-Uz,<-hf'];exact hi
   have e2:t.place[i]?=some (t.place[i]'(by omega)):=by simp[show i<t.place.size by omega]
   rw[e1,e2];refine step2 _ e.2 rfl λh' _=>?_;have:t.place[i]'(by omega)+1=slotAt t (i+1):=by unfold slotAt;rw[iG (by omega)];simp[X5,show i<t.place.size by omega]
   rw[this];exact .table hw hd' hf'
 | drawn hw pl oT nT hoT hdT hlT hfT=>
   dsimp only;refine XQ (Xm hoT hdT ?_);have hip:i<pl.length:=by omega
   have e1:pl[i]?=some (pl[i]'hip):=by simp
   have e2:(pl.map λk=>Value.int (k:Nat) 0).toArray[(i:Int).toNat]?=some (.int ((pl[i]'hip:Nat):Int) 0):=by simp[hip]
   dsimp only;rw[e2];dsimp only;have e3:es[pl[i]'hip]?=some e:=by rw[hfT i _ e1];exact hi
   refine XQ ?_;unfold setNextDrawn;refine XQ (Y3 hoS hdS hf ?_);dsimp only;rw[iG (by simp),VD,e3];refine XT (XQ (Xy ho hd (by simp) ?_));have g1:=Ub (Obj.mapFields (·.setIfInBounds 1 (rawInt ((i:Int)+1)))) ho (Obj.isFreed_of_fields (Obj.data_mapFields hd _));have hTI:T0≠I:=λz=>by subst z;rw[ho]at hoT;cases hoT;rw[hd]at hdT;cases hdT
   refine XT ⟨_,rfl,XT (hQ _ (UY.update _ I _) ⟨_,_,g1,(Obj.cls_mapFields ..).trans hc,?_,.drawn hw pl oT nT ((Ue _ _ (Ne.symm hTI)).trans hoT) hdT hlT hfT⟩)⟩;rw[Obj.data_mapFields hd];simp[rawInt]
theorem Kz{Q:Option XR->XS->Prop}(hh:A.handled=none)(hQ:∀ h',Wx I s.heap h'->Q none {s with heap:=h'})(k:Sem Unit)(hk:∀(Q':Unit->XS->Prop) (E':XR->XS->Prop),(∀ h',UY I s.heap h'->Q' () {s with heap:=h'})->XW (XX prog w) A.in1 k Q' E' s):
 XW (XX prog w) A.in1 (k >>= λ_=>newExc (.type "StopIteration") [] >>= λe=>raiseNew (α:=Fin) e) (λfin s'=>∃ v,fin=Fin.done (Flow.ret v)/\XW (XX prog w) A (pure (some v)) Q E s')
  (λe s'=>XW (XX prog w) A (do let __do_lift <- isInstance e (Value.type "StopIteration");if __do_lift=true then pure none else throw e) Q E s') s:=by
 refine XQ (hk _ _ λh' hs=>?_);refine XQ ?_;simp only[newExc,newTuple];refine XQ (Xh ?_ (by size_fits));refine XQ (m:=YW _ _) (Yx (a:=Value.none) (by first | rfl | (simp only[YW];rfl)) ?_);refine Xh ?_ (by size_fits);simp only[raiseNew];refine XQ (wpAny_handled ?_);rw[show A.in1.handled=none from hh];refine XQ (XT (wpAny_throw ?_));refine XQ (Yk (T:="StopIteration") (b:=true) ⟨_,U8 _ rfl,rfl⟩ Zg ?_);exact XT (hQ _ ((hs.extBut.push _).push _))
theorem L0{Q:Option XR->XS->Prop}(hh:A.handled=none)(x:Sit w s.heap T0 I S es ep t fs es.size)(y:SetAt w s.heap S es ep t)(hl:fs.length=es.size)
 (hQ:∀ h',Wx I s.heap h'->Q none {s with heap:=h'}):XW (XX prog w) A (pyNext (.ref I)) Q E s:=by
 obtain⟨o,first,ho,hc,hd,W⟩:=id x;obtain⟨oS,hoS,hcS,hdS,hf,T⟩:=id y;unfold pyNext;refine XQ (Yd (Xj (name:=Str.ofString "__next__") x.typeIs SiF.slot_si_next (Xk SiF.slot_si_next x.typeIs SiF.entry_si_next ?_ (SiF.args_si_next _))));unfold Builtin.«set_iterator.__next__»;refine XQ (m:=slotArgs "__next__" 0 ⟨[.ref I],[]⟩) (XT ?_);refine XQ (Zf ho hd ?_);dsimp only;refine XQ (YR hoS hdS hf ?_);rw[iG (by simp)];have one:∀(Q':Unit->XS->Prop) (E':XR->XS->Prop),(∀ h',UY I s.heap h'->Q' () {s with heap:=h'})->XW (XX prog w) A.in1 (ZF (.ref I) 2 .none) Q' E' s:=λQ' E' q=>Xy ho hd (by simp) (q _ (UY.update ..));cases W with
 | text hw hf'=>
   dsimp only;refine XQ (BX (i:=es.size) (ep:=ep) y hw ?_);have:(Yj (w.params.setOrder S ep) es)[es.size]?=none:=by rw[<-Uz,<-hf'];exact Vn (by omega)
   rw[this];exact Kz hh hQ _ one
 | table hw hd' hf'=>
   dsimp only;refine XQ (BD (i:=es.size) (ep:=ep) y hw hd' (U9 _) ?_);rw[show es[es.size]?=none by simp];exact Kz hh hQ _ one
 | drawn hw pl oT nT hoT hdT hlT hfT=>
   dsimp only;refine XQ (Xm hoT hdT ?_);have e2:(pl.map λk=>Value.int (k:Nat) 0).toArray[((es.size:Nat):Int).toNat]?=none:=by simp;omega
   dsimp only;rw[e2];dsimp only
   have two:=Kz (prog:=prog) (w:=w) (A:=A) (E:=E) (s:=s) (I:=I) (Q:=Q) hh hQ (ZF (.ref I) 0 (rawInt 0) >>= λ_=>ZF (.ref I) 2 .none) λQ' E' q=>by
    refine XQ (Xy ho hd (by simp) ?_);have g1:=Ub (Obj.mapFields (·.setIfInBounds 0 (rawInt 0))) ho (Obj.isFreed_of_fields (Obj.data_mapFields hd _));exact Xy g1 (Obj.data_mapFields hd _) (by simp) (q _ ((UY.update _ I _).trans (UY.update _ I _)))
   rw[bind_assoc]at two;exact two
theorem JC{Q:XR->XS->Prop}(x:Sit w s.heap T0 I S es ep t fs i)(h:Q (.ref I) s):XW (XX prog w) A (pyIter (.ref I)) Q E s:=by
 refine ZG x.typeIs SiF.slot_si_iter (Xk SiF.slot_si_iter x.typeIs SiF.entry_si_iter ?_ (SiF.args_si_iter _));show XW _ _ (ret (.ref I)) _ _ s;exact XT ⟨_,rfl,"set_iterator",_,x.typeIs,SiF.slot_si_next.lookup,h⟩
theorem Sit.keep{h h':Heap}(x:Sit w h T0 I S es ep t fs i)(k:∀ b,b=I\/b=T0->∀ o,h.get? b=some o->h'.get? b=some o):Sit w h' T0 I S es ep t fs i:=by
 obtain⟨o,first,ho,hc,hd,W⟩:=x;refine⟨o,first,k I (.inl rfl) _ ho,hc,hd,?_⟩;cases W with
 | text hw hf=>exact .text hw hf
 | table hw hp hf=>exact .table hw hp hf
 | drawn hw pl oT n hoT hdT hl hf=>exact .drawn hw pl oT n (k T0 (.inr rfl) _ hoT) hdT hl hf
theorem SK(hh:A.handled=none)(T0 I S:XU)(hne:S≠I)(es:Array (Int×XR))(ep:Nat)(t:Xr)(fs:List (Int×XR))(hl:fs.length=es.size):
 Walks prog w A I [I,S,T0] [I] es.size (λi v=>∃ e,fs[i]?=some e/\e.2=v) (λi h=>Sit w h T0 I S es ep t fs i/\SetAt w h S es ep t) where
 sub:=λb hb=>by simp at hb;simp[hb]
 frame:=λ_ _ _ st hk=>⟨st.1.keep λb hb o e=>hk b (by rcases hb with rfl | rfl<;>simp) o e,st.2.keep λo e=>hk S (by simp) o e⟩
 item:=λi s Q E hi st hQ=>by
  have hi':i<fs.length:=by omega
  refine JB (e:=fs[i]) st.1 st.2 hl (by simp) λh' hs' x'=>?_;exact hQ fs[i].2 h' s.toks ⟨fs[i],by simp,rfl⟩ ⟨x',st.2.keep λo e=>hs'.extBut _ _ hne e⟩ λb o hb e=>hs'.extBut b o (λh=>hb (by simp[h])) e
 done:=λs Q E st hQ=>L0 hh st.1 st.2 hl λh' he'=>hQ h' s.toks λb o hb e=>he' b o (λh=>hb (by simp[h])) e
 self:=λ_ _ _ _ st hQ=>JC st.1 hQ
theorem SL{Q:XR->XS->Prop}(y:SetAt w s.heap S es ep t)(hz:es.size<=XY)
 (hQ:∀ h' d I T0 fs,(∀ b o,s.heap.get? b=some o->h'.get? b=some o)->s.heap.objs.size<=I->s.heap.objs.size<=T0->h'.objs.size=I+1->fs.Perm es.toList->Sit w h' T0 I S es ep t fs 0->Q (.ref I) {s with heap:=h',drawn:=d}):XW (XX prog w) A (pyIter (.ref S)) Q E s:=by
 obtain⟨oS,hoS,hcS,hdS,hf,T⟩:=id y;have hT:s.TypeIs (.ref S) "set":=⟨oS,hoS,hcS⟩
 refine ZG hT F.slot_set_iter (Xk F.slot_set_iter hT SiF.entry_set_iter ?_ (F.args_set_iter_1 _));unfold Builtin.«frozenset.__iter__»;refine XQ (m:=Builtin.Frozenset.slot0 "__iter__" ⟨[.ref S],[]⟩) (XT ?_);refine XQ (m:=Builtin.Frozenset.sizeOf S) ?_;unfold Builtin.Frozenset.sizeOf;refine XQ (YR hoS hdS hf (XT ?_));refine XQ ?_;unfold setDrawn;refine XQ (Y3 hoS hdS hf ?_);dsimp only
 have fin:∀(first:XR) (h:Heap) (d:Drawn) (fs:List (Int×XR)) (T0:XU),(∀ b o,s.heap.get? b=some o->h.get? b=some o)->s.heap.objs.size<=h.objs.size->s.heap.objs.size<=T0->fs.Perm es.toList->(∀ h',(∀ b o,h.get? b=some o->h'.get? b=some o)->Way w h' T0 S es ep t fs 0 first)->
  XW (XX prog w) A.in1 (setEpoch S >>= λe=>newFields "set_iterator" [first,rawInt 0,.ref S,rawInt (es.size:Nat),rawInt e] >>= λv=>ret v)
   (λfin s'=>∃ r,fin=Fin.done (Flow.ret r)/\∃ T' r_1,s'.TypeIs r T'/\typeLookup (.type T') "__next__"=pure (some r_1)/\Q r s') E {s with heap:=h,drawn:=d}:=by
  intro first h d fs T0 hk h1 h2 hp hW
  refine XQ (wpAny_setEpoch_of (hk _ _ hoS) hdS hf ?_);refine XQ (Xh ?_ (by size_fits));refine XT ⟨_,rfl,"set_iterator",_,⟨_,U8 _ rfl,rfl⟩,SiF.slot_si_next.lookup,?_⟩;have kp:∀ b o,h.get? b=some o->(h.push {cls := .type "set_iterator",data := .fields #[first,rawInt 0,.ref S,rawInt (es.size:Nat),rawInt (ep:Nat)]}).get? b=some o:=λb o e=>U3 _ e;exact hQ _ d h.objs.size T0 fs (λb o e=>kp b o (hk b o e)) h1 h2 (Uc _ _) hp ⟨_,first,U8 _ rfl,rfl,rfl,hW _ kp⟩
 cases hw:w.params.followText "set-order" with
 | true=>
   refine XQ (AZ hw (XT ?_));show XW _ _ (if (!true&&(!t.plain&&decide (es.size>1)))=true then _ else _) _ _ _;rw[iG (by simp)];refine XQ (XT ?_);exact fin _ s.heap s.drawn _ s.heap.objs.size (λ_ _ e=>e) (U9 _) (U9 _) (JA (w.params.setOrder S ep) es) λh' _ => .text hw rfl
 | false=>
   refine XQ (AZ hw (XT ?_));show XW _ _ (if (!false&&(!t.plain&&decide (es.size>1)))=true then _ else _) _ _ _;cases hpl:(!t.plain&&decide (es.size>1)) with
   | false=>
     rw[iG (by simp)];refine XQ (XT ?_);exact fin _ s.heap s.drawn es.toList s.heap.objs.size (λ_ _ e=>e) (U9 _) (U9 _) .rfl λh' _ => .table hw hpl rfl
   | true=>
     rw[iP (by simp)];refine XQ (P7 es.size (U7 es.size) s _ (by simp) λpl d hp=>?_);refine XQ (Zh ?_ (by rw[U4,hp.length_eq,Uy];exact hz));have hin:∀ p∈pl,p<es.size:=λp hpm=>Ua.mp (hp.mem_iff.mp hpm);have efs:∃ fs:List (Int×XR),fs=pl.filterMap (λp=>es[p]?):=⟨_,rfl⟩
     obtain⟨fs,efs⟩:=efs
     have hfs:∀(l:List Nat),(∀ p∈l,p<es.size)->(l.filterMap λp=>es[p]?).length=l.length/\∀(k:Nat) p,l[k]?=some p->es[p]?=(l.filterMap λp=>es[p]?)[k]?:=by
      intro l
      induction l with
      | nil=>intro _;exact⟨rfl,λk p h=>by simp at h⟩
      | cons a l ih=>
        intro hl;obtain⟨i1,i2⟩:=ih λp hp=>hl p (UE _ hp);have ha:=hl a (UG ..);have ea:es[a]?=some es[a]:=by simp[ha]
        rw[W8 ea];refine⟨by simp[i1],λk p h=>?_⟩;cases k with
        | zero=>simp at h;subst h;simp[ha]
        | succ k=>simpa using i2 k p (by simpa using h)
     obtain⟨l1,l2⟩:=hfs pl hin;refine fin _ _ d fs s.heap.objs.size (λb o e=>U3 _ e) (by rw[Uc];exact W3 _) (U9 _) ?_ λh' k=>?_
     ·rw[efs];exact(hp.filterMap _).trans (by rw[filterMap_getElem?_range])
     ·exact .drawn hw pl _ 0 (k _ _ (U8 _ rfl)) rfl (by rw[efs,l1]) (λk p h=>by rw[efs];exact l2 k p h)
end
end L2
set_option maxHeartbeats 800000
namespace L2
open PySem PySem.Spec PyProof.Rows
section
variable{prog:XZ}{w:Xd}{A:Xg}{E:XR->XS->Prop}{s:XS}{S:XU}{es:Array (Int×XR)}{ep:Nat}{t:Xr}
theorem SM{Q:Bool->XS->Prop}(hT:s.TypeIs (.ref S) "set")(h:Q false s):XW (XX prog w) A (Builtin.List.listLengthHint (.ref S)) Q E s:=by
 unfold Builtin.List.listLengthHint;refine XQ (wpAny_specialOf hT PySem.F.slot_set_len.lookup ?_);generalize hid:("set.__len__":String)=id0
 wp_delta
 rw[show splitId id0=some ("set","__len__") from by subst hid;decide +kernel];subst hid;refine XQ (Yk (T:="set") (b:=true) hT sub_set_self ?_);refine Yr (λz=>absurd z (by decide)) (λ_=>?_);refine Yr (λ_=>?_) (λz=>absurd (by decide +kernel) z);exact XQ (YS hT (XT h))
theorem L1{Q:List XR->XS->Prop}(hh:A.handled=none)(y:SetAt w s.heap S es ep t)(hz:es.size<=XY)
 (hQ:∀ h' tk d (acc:List XR) (fs:List (Int×XR)),(∀ b o,s.heap.get? b=some o->h'.get? b=some o)->s.heap.objs.size<=h'.objs.size->fs.Perm es.toList->acc=fs.map (·.2)->Q acc {s with heap:=h',toks:=tk,drawn:=d}):
 XW (XX prog w) A (collect (.ref S)) Q E s:=by
 obtain⟨oS,hoS,hcS,hdS,hf,T⟩:=id y;unfold collect;refine XQ (Z0 (Xp PySem.F.entry_proto_collect ?_));rw[Around.under_plainId PySem.F.plain_proto_collect _];refine XQ (m:=newList []) (Xh ?_);refine XT ⟨Xw PySem.F.plain_list_iadd _,Xp PySem.F.entry_list_iadd ?_⟩;rw[Around.under_plainId PySem.F.plain_list_iadd _];show XW _ A.in1 (Builtin.List.listExtendWith (.ref s.heap.objs.size) (.ref S) (.ref s.heap.objs.size)) _ _ {s with heap:=s.heap.push {cls := .type "list",data := .seq ([]:List XR).toArray}};have y1:SetAt w (s.heap.push {cls := .type "list",data := .seq ([]:List XR).toArray}) S es ep t:=y.keep λo e=>U3 _ e;have hne:s.heap.objs.size≠S:=λz=>by rw[<-z]at hoS;exact absurd (U5 hoS) (VI _)
 have hL:(s.heap.push {cls := .type "list",data := .seq ([]:List XR).toArray}).get? s.heap.objs.size=some {cls := .type "list",data := .seq #[]}:=U8 _ rfl;have hz1:(s.heap.push {cls := .type "list",data := .seq ([]:List XR).toArray}).objs.size=s.heap.objs.size+1:=Uc _ _;unfold Builtin.List.listExtendWith;refine XQ (YS (T:="set") ⟨oS,U3 _ hoS,hcS⟩ ?_);have b1:Builtin.List.listSameRef (.ref s.heap.objs.size) (.ref S)=false:=by simp[Builtin.List.listSameRef,hne]
 have b2:(Value.type "set" == Value.type "list")=false:=by decide
 have b3:(Value.type "set" == Value.type "tuple")=false:=by decide
 simp only[b1,b2,b3,Wf,Vi,if_false];refine XQ (SL (s:={s with heap:=s.heap.push {cls := .type "list",data := .seq ([]:List XR).toArray}}) y1 hz λh2 d I T0 fs k2 hI hT0 hz2 hp x2=>?_);have y2:SetAt w h2 S es ep t:=y1.keep λo e=>k2 _ _ e;refine XQ (Xn (SM (s:={s with heap:=h2,drawn:=d}) ⟨oS,k2 _ _ (U3 _ hoS),hcS⟩ ?_));have hL2:=k2 _ _ hL;have LI:s.heap.objs.size≠I:=by rw[hz1]at hI;exact UF hI
 have LT:s.heap.objs.size≠T0:=by rw[hz1]at hT0;exact UF hT0
 have SI:S≠I:=λz=>by
  have h1:=U5 hoS;rw[hz1,<-z]at hI;exact absurd (Wq hI) (WG h1)
 have nf:s.heap.objs.size∉[I,S,T0]:=by
  simp only[UH,Vd,or_false,not_or];exact⟨LI,hne,LT⟩
 have hlen:fs.length=es.size:=by rw[hp.length_eq,Ur]
 have W:=(SK (prog:=prog) (w:=w) (A:=A.in1) hh T0 I S SI es ep t fs hlen).toS
 have key:∀(h:Heap) (c tk:Nat),Sit w h T0 I S es ep t fs 0->SetAt w h S es ep t->(∀ b o,b≠s.heap.objs.size->h2.get? b=some o->h.get? b=some o)->h.get? s.heap.objs.size=some {cls := .type "list",dict:=none,data := .seq #[] c,slots:=#[]}->s.heap.objs.size<=h.objs.size->
  codeAny (XX prog w) A (.builtin "list.extend.loop" ⟨[.ref s.heap.objs.size,.ref I,.ref s.heap.objs.size],[]⟩) (wants (λv s'=>∃ h' tk' acc c',v = .ref s.heap.objs.size/\s'={s with heap:=h',toks:=tk',drawn:=d}/\(∀ b o,s.heap.get? b=some o->h'.get? b=some o)/\s.heap.objs.size<=h'.objs.size/\h'.get? s.heap.objs.size=some {cls := .type "list",dict:=none,data := .seq acc c',slots:=#[]}/\ItemsOf (λi v=>∃ e,fs[i]?=some e/\e.2=v) acc es.size) E) {s with heap:=h,toks:=tk,drawn:=d}:=by
  intro h c tk x3 y3 k3 hL3 hz3;refine codeAny_extend_loopS W hz s.heap.objs.size nf (.ref s.heap.objs.size) es.size 0 _ #[] c rfl (VT _) ⟨x3,y3⟩ hL3 (ItemsOf.nil _) λs' acc c' hm hS' hacc=>?_;rw[Moved.eq_with hm];refine⟨s'.heap,s'.toks,acc,c',rfl,rfl,λb o e=>hm.heap b o (λz=>?_) (k3 b o (UF (U5 e)) (k2 _ _ (U3 _ e))),Vb (U5 hS'),hS',hacc⟩;rcases UH.mp z with z | z
  ·exact absurd z (UF (U5 e))
  ·have z':=UA.mp z;rw[hz1]at hI;have:=U5 e;rw[z']at this;exact absurd this (WG (Wq hI))
 have fin:∀ r s',wants (λv s'=>∃ h' tk' acc c',v = .ref s.heap.objs.size/\s'={s with heap:=h',toks:=tk',drawn:=d}/\(∀ b o,s.heap.get? b=some o->h'.get? b=some o)/\s.heap.objs.size<=h'.objs.size/\h'.get? s.heap.objs.size=some {cls := .type "list",dict:=none,data := .seq acc c',slots:=#[]}/\ItemsOf (λi v=>∃ e,fs[i]?=some e/\e.2=v) acc es.size) E r s'->
  wants (λv s'=>XW (XX prog w) A (match v with | .ref a=>load a >>= λo=>(match o.data with | .seq xs _=>pure xs.toList | _=>ZQ "internal:collect") | _=>ZQ "internal:collect") Q E s') E r s':=by
  intro r s' hr;cases r with
  | error e=>exact hr
  | ok fl=>
    cases fl with
    | ret v=>
      obtain⟨h',tk',acc,c',rfl,rfl,h3,h4,h5,h6⟩:=hr;refine XQ (wpAny_load (s:={s with heap:=h',toks:=tk',drawn:=d}) h5 (XT (hQ h' tk' d _ fs h3 h4 hp ?_)));refine List.ext_getElem? λk=>?_;rw[UJ,Uz];by_cases hk:k<es.size
      ·have ha:acc[k]?=some (acc[k]'(by rw[h6.1];exact hk)):=by simp[h6.1,hk]
       obtain⟨e,he,ev⟩:=h6.2 k _ ha;rw[ha,he,<-ev];rfl
      ·rw[Array.getElem?_eq_none (by rw[h6.1];omega),Vn (by omega)];rfl
    | _=>exact hr.elim
 refine Yr (λ_=>?_) (λ_=>XT ⟨Xw PySem.F.plain_extend_loop _,Y1 (key _ _ _ x2 y2 (λ_ _ _ e=>e) hL2 (Vb (U5 hL2))) fin⟩);refine XQ (Y5 (XQ ?_));show XW _ _ (ZN s.heap.objs.size (·.push .none) >>= λ_=>ZN s.heap.objs.size (·.pop)) _ _ _;refine XQ (YG hL2 rfl ?_);have u1:=Ub (Obj.mapSeq (·.push Value.none)) hL2 rfl;refine YG (hz:=by seq_fits) u1 rfl ?_;have u2:=Ub (Obj.mapSeq (·.pop)) u1 rfl;have oth:∀ b o,b≠s.heap.objs.size->h2.get? b=some o->((h2.update s.heap.objs.size (Obj.mapSeq (·.push Value.none))).update s.heap.objs.size (Obj.mapSeq (·.pop))).get? b=some o:=λb o hb e=>(Ue _ _ (Ne.symm hb)).trans ((Ue _ _ (Ne.symm hb)).trans e);refine XT ⟨Xw PySem.F.plain_extend_loop _,Y1 (key _ _ _ (x2.keep λb hb o e=>oth b o (by rcases hb with rfl | rfl;exact LI.symm;exact LT.symm) e) (y2.keep λo e=>oth _ o hne.symm e) oth u2 ?_) fin⟩;rw[Wt,Wt];exact Vb (U5 hL2)
end
theorem _root_.L2.Inv.dr{X:Cx}{pq:List (XU×Obj)}{σ:St}{H:Hp}{s:XS}(I:Inv X pq σ H s)(d:Drawn):Inv X pq σ H {s with drawn:=d}:=
 ⟨I.ok,I.os,I.bare,I.base,I.loc,I.cell,I.free,I.freeC,I.pin,I.hok,I.len⟩
section
variable{prog:XZ}{w:Xd}{A:Xg}{E:XR->XS->Prop}{s:XS}
theorem NL{S:XU}{L:List Int}{Q:XR->XS->Prop}(hh:A.handled=none)(x:SetX prog w s.heap S L)(h64:L.length<64)
 (h:∀(h':Heap) (tk:Nat) (d:Drawn) (l:XU) (out:Array XR) (e:Nat),(∀ b o,s.heap.get? b=some o->h'.get? b=some o)->s.heap.objs.size<=l->h'.get? l=some (seqObj "list" out e)->IntsAre out.toList (srt L)->Q (.ref l) {s with heap:=h',toks:=tk,drawn:=d}):
 XW (XX prog w) A (call (.builtin "sorted") [.ref S]) Q E s:=by
 obtain⟨o,es,ep,t,ho,hx,hd,hel,hb,hf,hT,hp⟩:=x;refine Calls.call_function_entry kind_sorted plain_sorted entry_sorted (args_sorted1 _) ?_;unfold Builtin.«sorted»;refine XQ (m:=checkCount "sorted" 1 1 _) (XT ?_);refine XQ (L1 (A:=A.in1) hh ⟨o,ho,hx.1,hd,hf,hT⟩ (Yb hb) λh2 tk d acc fs k2 hz2 hpf hacc=>?_)
 have hints:∀ v∈acc,∃ n tt,v=Value.int n tt:=by
  intro v hv;rw[hacc]at hv;obtain⟨e,he,rfl⟩:=Um.mp hv;obtain⟨⟨k,hk,_⟩,_⟩:=hel e (hpf.mem_iff.mp he);obtain⟨tt,e2⟩:=Value.isInt_shape (k:=k) (v:=e.2) hk;exact⟨k,tt,e2⟩
 have hI:IntsAre acc (acc.map numOf):=intsAre_map acc hints
 have hpL:(acc.map numOf).Perm L:=by
  rw[hacc,Vk];exact(hpf.map _).trans hp
 have hl64:acc.length<64:=by have:=hpL.length_eq;rw[U4]at this;omega
 refine XQ (wpAny_newList ?_ (by rw[Yw];omega));have hoL:(h2.push (seqObj "list" acc.toArray 0)).get? h2.objs.size=some (seqObj "list" acc.toArray 0):=U8 _ rfl;refine XQ (Xn (Xk (s:={s with heap:=h2.push (seqObj "list" acc.toArray 0),toks:=tk,drawn:=d}) slot_list_sort ⟨_,hoL,rfl⟩ entry_list_sort (list_sort_tree hoL hI hl64 λout ns' a1 a2 a3=>⟨_,rfl,?_⟩) (args_list_sort _)));have en:ns'=srt L:=Kk (a2.trans hpL) a3;subst en;obtain⟨e,he⟩:=sortedHeap_at (vs:=acc) (out:=out) hoL;refine XT ⟨_,rfl,h _ tk d h2.objs.size out e (λb o eb=>?_) hz2 he a1⟩;have hlt:=U5 (k2 b o eb);rw[sortedHeap_old (UF hlt) (by rw[Uc];exact V7 hlt)];exact U3 _ (k2 b o eb)
end
section
variable{X:Cx}
theorem JD:Xb "sorted"=some (.builtin "sorted"):=by decide +kernel
noncomputable def n8(ns:List Int):List Int:=YC (λi=>ns.getD i 0) ns.length
end
end L2
set_option maxHeartbeats 2000000
namespace L2
open PySem PySem.Spec PyProof.Rows
open PySem.AutoSeq1 (wpAny_loadPart')
open PySem.MeetsSeq PySem.MeetsSeq2 PySem.MeetsSeq3
section
variable{prog:XZ}{w:Xd}{A:Xg}{E:XR->XS->Prop}{s:XS}{a₀:Array Keyed}
structure SBk(κ:SortKind)(a₀:Array Keyed)(st:SortSt):Prop where
 perm:(arrOf st).Perm a₀
 kind:kindOf st=κ
 failed:failedOf st=none
 pend:pendingOf st=#[]
theorem SBk.size{κ:SortKind}{st:SortSt}(h:SBk κ a₀ st):(arrOf st).size=a₀.size:=h.perm.size_eq
variable{κ:SortKind}
end
section
variable{X:Cx}
theorem SN:Xb "any"=some (.builtin "any"):=by decide +kernel
theorem JE(hc:X.calm=true):CallR X (.builtin "any") (λxs H Q=>∃(a:XU) (bs:List Bool),xs=[.ref a]/\SqL X.K H a (bs.map V.bl)/\Q (.bl (bs.any id)) H):=by
 intro pq s σ H xs us Q I r h;obtain⟨a,bs,rfl,hq,q⟩:=h;obtain⟨u,rfl,ru⟩:=AB r;cases ru;obtain⟨its,rv,pl,hz⟩:=I.list hq;have hl:=rv.length;rw[U4]at hl;refine call_any_walk (Y2 pl.isList ?_);have hlt:a<s.heap.objs.size:=by obtain⟨o,n,e,_⟩:=pl;exact U5 e
 refine⟨s.heap.objs.size,_,_,_,_,_,λi=>bs.getD i false,rfl,Walks.list (by exact I.ok.hd hc) s.heap.objs.size a (UF hlt) its.toArray,⟨⟨_,U8 _ rfl,rfl,rfl⟩,pl.isList.push _⟩,?_,λh' tk hk=>?_⟩
 ·intro i v s' Q' E' hv hQ';have hv':its[i]?=some v:=by simpa using hv
  have hi:i<its.length:=(gM hv').1;have hb:(bs.map V.bl)[i]?=some (.bl (bs[i]'(by omega))):=by simp
  obtain⟨u',eu,ru'⟩:=rv.get hb;rw[hv']at eu;cases eu;cases ru';have hg:bs.getD i false=bs[i]'(by omega):=by simp[VV,show i<bs.length by omega]
  have hQ2:Q' (bs.getD i false) s':=hQ';rw[hg]at hQ2;exact Xi hQ2
 ·have I1:Inv X pq σ H {s with heap:=h',toks:=tk}:=I.kept λb o e=>hk b o (by simp;exact UF (U5 e)) (U3 _ e);refine⟨.bl _,H,I1,rfl,?_⟩
  have e:(U7 its.toArray.size).any (λi=>bs.getD i false)=bs.any id:=by
   rw[U6,<-hl,Ug,Ux,Ux];constructor
   ·rintro⟨j,hj,e⟩;have hj1:j<bs.length:=Ua.mp hj;exact⟨bs[j],Ut hj1,by simpa[VV,hj1] using e⟩
   ·rintro⟨b,hb,e⟩;obtain⟨j,hj,e2⟩:=V5.mp hb;exact⟨j,Ua.mpr hj,by simpa[VV,hj,e2] using e⟩
  rw[e];exact q
end
end L2
namespace Rf
open PySem L2
noncomputable abbrev QE:=SV->Sto->Prop
noncomputable abbrev WE:=EnvS->Sto->QE->Prop
noncomputable abbrev WA:=EnvS->Sto->(List SV->Sto->Prop)->Prop
noncomputable abbrev WT:=EnvS->Sto->(Bool->Sto->Prop)->Prop
noncomputable def Post(K:U1)(as:List XU)(H:Hp)(Q:VK):QE:=λx S'=>∀ as' H' v,Go as H as' H'->Ok K as' H' S'->Rl K as' H' v x->Q v H'
noncomputable def SQ(K:U1)(as:List XU)(H:Hp)(Q:List V->Hp->Prop):List SV->Sto->Prop:=λxs S'=>∀ as' H' vs,Go as H as' H'->Ok K as' H' S'->RlAll K as' H' vs xs->Q vs H'
noncomputable def PostT(K:U1)(as:List XU)(H:Hp)(Q:Bool->Hp->Prop):Bool->Sto->Prop:=λb S'=>∀ as' H',Go as H as' H'->Ok K as' H' S'->Q b H'
noncomputable def lift(K:U1)(w:WE):TE:=λσ H Q=>∃ as ρ S,Ok K as H S/\EnvOk K as H σ ρ/\w ρ S (Post K as H Q)
noncomputable def liftA(K:U1)(w:WA):TA:=λσ H Q=>∃ as ρ S,Ok K as H S/\EnvOk K as H σ ρ/\w ρ S (SQ K as H Q)
noncomputable def liftT(K:U1)(w:WT):TT:=λσ H Q=>∃ as ρ S,Ok K as H S/\EnvOk K as H σ ρ/\w ρ S (PostT K as H Q)
noncomputable def Mono(w:WE):Prop:=∀ ρ S (P P':QE),(∀ x S',P x S'->P' x S')->w ρ S P->w ρ S P'
noncomputable def MonoA(w:WA):Prop:=∀ ρ S (P P':List SV->Sto->Prop),(∀ x S',P x S'->P' x S')->w ρ S P->w ρ S P'
noncomputable def MonoT(w:WT):Prop:=∀ ρ S (P P':Bool->Sto->Prop),(∀ x S',P x S'->P' x S')->w ρ S P->w ρ S P'
theorem g9{X:Cx}{e:Expr}{t:TE}(t':TE)(h:PE X e t)(imp:∀ σ H Q,t' σ H Q->t σ H Q):PE X e t':=λpq s σ H Q I hw=>h pq s σ H Q I (imp σ H Q hw)
theorem BJ{X:Cx}{e:Expr}{t:TT}(t':TT)(h:PT X e t)(imp:∀ σ H Q,t' σ H Q->t σ H Q):PT X e t':=λpq s σ H Q I hw=>h pq s σ H Q I (imp σ H Q hw)
theorem L5{X:Cx}{e:List Expr}{t:TA}(t':TA)(h:PA X e t)(imp:∀ σ H Q,t' σ H Q->t σ H Q):PA X e t':=λp pq s σ H Q I hw=>h p pq s σ H Q I (imp σ H Q hw)
section
variable{K:U1}{as as1 as2:List XU}{H H1 H2:Hp}
theorem Post.mono{Q:VK}{x:SV}{S:Sto}(h:Post K as H Q x S)(g:Go as H as1 H1):Post K as1 H1 Q x S:=λas' H' v g'=>h as' H' v (g.trans g')
end
noncomputable abbrev S2:=SV->SV->Sto->QE->Prop
noncomputable abbrev S1:=SV->Sto->QE->Prop
noncomputable abbrev Sn:=List SV->Sto->QE->Prop
noncomputable def w2(s:S2)(a b:WE):WE:=λρ S Q=>a ρ S λx S1=>b ρ S1 λy S2=>s x y S2 Q
noncomputable def w1(s:S1)(a:WE):WE:=λρ S Q=>a ρ S λx S1=>s x S1 Q
noncomputable def wn(s:Sn)(a:WA):WE:=λρ S Q=>a ρ S λxs S1=>s xs S1 Q
noncomputable def Mono2(s:S2):Prop:=∀ x y S (P P':QE),(∀ x S',P x S'->P' x S')->s x y S P->s x y S P'
noncomputable def Ey(s:S1):Prop:=∀ x S (P P':QE),(∀ x S',P x S'->P' x S')->s x S P->s x S P'
noncomputable def MonoN(s:Sn):Prop:=∀ x S (P P':QE),(∀ x S',P x S'->P' x S')->s x S P->s x S P'
theorem Mono.two{s:S2}{a b:WE}(hs:Mono2 s)(ha:Mono a)(hb:Mono b):Mono (w2 s a b):=λρ S P P' i h=>ha _ _ _ _ (λ_ _ h=>hb _ _ _ _ (λ_ _ h=>hs _ _ _ _ _ i h) h) h
theorem Mono.one{s:S1}{a:WE}(hs:Ey s)(ha:Mono a):Mono (w1 s a):=λρ S P P' i h=>ha _ _ _ _ (λ_ _ h=>hs _ _ _ _ i h) h
theorem Mono.n{s:Sn}{a:WA}(hs:MonoN s)(ha:MonoA a):Mono (wn s a):=λρ S P P' i h=>ha _ _ _ _ (λ_ _ h=>hs _ _ _ _ i h) h
noncomputable def Aw(K:U1)(s:S2)(r:R2):Prop:=∀ as H S x y v u Q,Ok K as H S->Rl K as H v x->Rl K as H u y->s x y S (Post K as H Q)->r v u H Q
noncomputable def Th(K:U1)(s:S1)(r:V->Hp->VK->Prop):Prop:=∀ as H S x v Q,Ok K as H S->Rl K as H v x->s x S (Post K as H Q)->r v H Q
noncomputable def SR(K:U1)(s:Sn)(r:List V->Hp->VK->Prop):Prop:=∀ as H S xs vs Q,Ok K as H S->RlAll K as H vs xs->s xs S (Post K as H Q)->r vs H Q
theorem w5{K:U1}{s:S2}{r:R2}{wa wb:WE}(sim:Aw K s r)(ms:Mono2 s)(ma:Mono wa)(mb:Mono wb):∀ σ H Q,lift K (w2 s wa wb) σ H Q->tOp r (lift K wa) (lift K wb) σ H Q:=by
 rintro σ H Q ⟨as,ρ,S,ok,en,h⟩;refine⟨as,ρ,S,ok,en,ma _ _ _ _ (λx S1 hb as1 H1 v g1 ok1 rv=>?_) h⟩;refine⟨as1,ρ,S1,ok1,en.mono g1.pre (g1.ku ok),mb _ _ _ _ (λy S2 hs as2 H2 u g2 ok2 ru=>?_) hb⟩;exact sim as2 H2 S2 x y v u Q ok2 (Rl.mono g2.pre (g2.ku ok1) x v rv) ru (ms _ _ _ _ _ (λz S3 hz=>hz.mono (g1.trans g2)) hs)
theorem QQ{K:U1}{s:S1}{r:V->Hp->VK->Prop}{wa:WE}(sim:Th K s r)(ms:Ey s)(ma:Mono wa):∀ σ H Q,lift K (w1 s wa) σ H Q->tUn r (lift K wa) σ H Q:=by
 rintro σ H Q ⟨as,ρ,S,ok,en,h⟩;refine⟨as,ρ,S,ok,en,ma _ _ _ _ (λx S1 hs as1 H1 v g1 ok1 rv=>?_) h⟩;exact sim as1 H1 S1 x v Q ok1 rv (ms _ _ _ _ (λz S3 hz=>hz.mono g1) hs)
theorem SS{K:U1}{s:Sn}{r:List V->Hp->VK->Prop}{wa:WA}(sim:SR K s r)(ms:MonoN s)(ma:MonoA wa):∀ σ H Q,lift K (wn s wa) σ H Q->tCB r (liftA K wa) σ H Q:=by
 rintro σ H Q ⟨as,ρ,S,ok,en,h⟩;refine⟨as,ρ,S,ok,en,ma _ _ _ _ (λx S1 hs as1 H1 v g1 ok1 rv=>?_) h⟩;exact sim as1 H1 S1 x v Q ok1 rv (ms _ _ _ _ (λz S3 hz=>hz.mono g1) hs)
noncomputable def Di:WA:=λ_ S Q=>Q [] S
noncomputable def Ce(a:WE)(b:WA):WA:=λρ S Q=>a ρ S λx S1=>b ρ S1 λxs S2=>Q (x::xs) S2
theorem MonoA.nil:MonoA Di:=λ_ _ _ _ i h=>i _ _ h
theorem MonoA.cons{a:WE}{b:WA}(ha:Mono a)(hb:MonoA b):MonoA (Ce a b):=λ_ _ _ _ i h=>ha _ _ _ _ (λ_ _ h=>hb _ _ _ _ (λ_ _ h=>i _ _ h) h) h
theorem NM{X:Cx}{K:U1}:PA X [] (liftA K Di):=L5 _ AC λσ H Q ⟨as,ρ,S,ok,en,h⟩=>h as H [] (Go.refl _ _) ok .nil
theorem L6{K:U1}{a:WE}{b:WA}(ma:Mono a)(mb:MonoA b):∀ σ H Q,liftA K (Ce a b) σ H Q->Ep (lift K a) (liftA K b) σ H Q:=by
 rintro σ H Q ⟨as,ρ,S,ok,en,h⟩;refine⟨as,ρ,S,ok,en,ma _ _ _ _ (λx S1 hs as1 H1 v g1 ok1 rv=>?_) h⟩;refine⟨as1,ρ,S1,ok1,en.mono g1.pre (g1.ku ok),mb _ _ _ _ (λxs S2 hq as2 H2 vs g2 ok2 rs=>?_) hs⟩;exact hq as2 H2 _ (g1.trans g2) ok2 (.cons (Rl.mono g2.pre (g2.ku ok1) x v rv) rs)
theorem L7{X:Cx}{K:U1}{e:Expr}{es:List Expr}{a:WE}{b:WA}(ma:Mono a)(mb:MonoA b)(h1:PE X e (lift K a))(h2:PA X es (liftA K b))(hs:Xa (e::es) X.env=(false,eval e X.env)::Xa es X.env):PA X (e::es) (liftA K (Ce a b)):=L5 _ (l9 h1 h2 hs) (L6 ma mb)
noncomputable def QR(i:Nat):WE:=λρ S Q=>∃ x,ρ[i]?=some (some x)/\Q x S
noncomputable def wC(x:SV):WE:=λ_ S Q=>Q x S
theorem Mono.var{i:Nat}:Mono (QR i):=λ_ _ _ _ i ⟨x,a,b⟩=>⟨x,a,i _ _ b⟩
theorem Mono.c{x:SV}:Mono (wC x):=λ_ _ _ _ i h=>i _ _ h
theorem NN{K:U1}{i:Nat}:∀ σ H Q,lift K (QR i) σ H Q->Mu i σ H Q:=λσ H Q ⟨as,ρ,S,ok,en,x,e,h⟩=>let ⟨v,ev,rv⟩:=en.2 i x e;⟨v,ev,h as H v (Go.refl _ _) ok rv⟩
theorem Ez{K:U1}{x:SV}{v:V}(hx:∀ as H,Rl K as H v x):∀ σ H Q,lift K (wC x) σ H Q->tC v σ H Q:=λσ H Q ⟨as,ρ,S,ok,en,h⟩=>h as H v (Go.refl _ _) ok (hx as H)
noncomputable def big:Nat:=100000
theorem Aa{n:Nat}(h:n<=big):n<=XY:=UR h (by decide)
theorem Cf{n:Nat}(h:n<big):n<XY:=UP h (by decide)
noncomputable def NO:Sn:=λxs S Q=>xs.length<=big/\Q (.tup xs) S
noncomputable def NP:Sn:=λxs S Q=>xs.length<=big/\Q (.loc S.length) (S++[.lst xs])
theorem MonoN.tup:MonoN NO:=λ_ _ _ _ i h=>⟨h.1,i _ _ h.2⟩
theorem MonoN.lst:MonoN NP:=λ_ _ _ _ i h=>⟨h.1,i _ _ h.2⟩
theorem QS{K:U1}{as:List XU}{H:Hp}{S:Sto}{p:XU}(ok:Ok K as H S):Rl K (as++[p]) (upd H p (.lst vs)) (.ref p) (.loc S.length):=rl_loc.mpr ⟨p,by rw[<-ok.len,UX],rfl⟩
theorem w9{K:U1}{as:List XU}{H:Hp}{S:Sto}{Q:VK}{xs:List SV}{vs:List V}(ok:Ok K as H S)(r:RlAll K as H vs xs)(h:Post K as H Q (.loc S.length) (S++[.lst xs])):∀ p,H p=none->Q (.ref p) (upd H p (.lst vs)):=λp hp=>
 h (as++[p]) _ (.ref p) (Go.push hp) (ok.push hp r) (QS ok)
theorem BY{K:U1}{as:List XU}{H:Hp}{S:Sto}{Q:VK}{xs:List SV}{vs:List V}(ok:Ok K as H S)(r:RlAll K as H vs xs)(h:Post K as H Q (.tup xs) S):∀ p,H p=none->Q (.ref p) (upd H p (.tup vs)):=λp hp=>
 h as _ (.ref p) (Go.new hp) (ok.new hp) (rl_tup.mpr ⟨p,vs,rfl,g8,RlAll.mono (UW _) (n6 hp) xs vs r⟩)
theorem NQ{K:U1}{wa:WA}(ma:MonoA wa):∀ σ H Q,lift K (wn NO wa) σ H Q->Rt (liftA K wa) σ H Q:=by
 rintro σ H Q ⟨as,ρ,S,ok,en,h⟩;refine⟨as,ρ,S,ok,en,ma _ _ _ _ (λxs S1 hs as1 H1 vs g1 ok1 rv=>?_) h⟩;exact⟨by rw[rv.length];exact Aa hs.1,BY ok1 rv (hs.2.mono g1)⟩
theorem NR{K:U1}{wa:WA}(ma:MonoA wa):∀ σ H Q,lift K (wn NP wa) σ H Q->Ru (liftA K wa) σ H Q:=by
 rintro σ H Q ⟨as,ρ,S,ok,en,h⟩;refine⟨as,ρ,S,ok,en,ma _ _ _ _ (λxs S1 hs as1 H1 vs g1 ok1 rv=>?_) h⟩;exact⟨by rw[rv.length];exact Aa hs.1,w9 ok1 rv (hs.2.mono g1)⟩
end Rf
namespace L2
open PySem PySem.Spec PyProof.Rows
section
variable{prog:XZ}{w:Xd}{A:Xg}{E:XR->XS->Prop}{s:XS}
set_option maxHeartbeats 8000000 in
theorem L8{l:XU}{items:Array XR}{ns:List Int}{Q:XR->XS->Prop}(hh:A.handled=none)(hl:s.heap.IsTuple l items)(hi:IntsAre items.toList ns)(hb:items.size+1<Xx)
 (h:∀(h':Heap) (tk:Nat),SetX prog w h' s.heap.objs.size (YC (λi=>ns.getD i 0) items.size)->(∀ b o,b<s.heap.objs.size->s.heap.get? b=some o->h'.get? b=some o)->Q (.ref s.heap.objs.size) {s with heap:=h',toks:=tk}):
 XW (XX prog w) A (call (.type "set") [.ref l]) Q E s:=by
 obtain⟨c,tl,hmro⟩:=F.called_set.mro;have made:=F.called_set.made;have sub:=F.called_set.sub;have u1:=F.called_set.notType;have u2:=F.called_set.canCreate;have u3:=F.typeCall_set_1 (.ref l);refine ZY (Yq ?_);show XW _ _ (callAny (.type "set") _) _ _ _;refine XT ⟨Code.quiet_builtin _ (by decide +kernel),Xp F.entry_type_call ?_⟩;rw[Around.under_plain (Yt "set" [.ref l] []) rfl]
 repeat (any_goals (first | assumption | wp_step))
 refine Y1 (SJ (.ref l) (E:=E) (Q₁:=λobj s₁=>obj = .ref s.heap.objs.size/\s₁={s with heap:=s.heap.push (AY w)}) ⟨rfl,rfl⟩) λr s₁ hr=>?_;cases r with
 | error e=>exact hr
 | ok fl=>
   cases fl with
   | ret obj=>
     obtain⟨rfl,rfl⟩:=hr;have gS:(s.heap.push (AY w)).get? s.heap.objs.size=some (AY w):=U8 _ rfl;have hT:Shared.TypeIs {s with heap:=s.heap.push (AY w)} (.ref s.heap.objs.size) "set":=⟨_,gS,rfl⟩
     have u4:=F.called_set.init.lookup;have u5:=F.called_set.init.bind (.ref s.heap.objs.size)
     repeat (any_goals (first | assumption | wp_step))
     refine Y1 (Yz (R:=wants (λr s₂=>r = .none/\∃ h' tk,s₂={s with heap:=h',toks:=tk}/\SetX prog w h' s.heap.objs.size (YC (λi=>ns.getD i 0) items.size)/\
      (∀ b o,b<s.heap.objs.size->s.heap.get? b=some o->h'.get? b=some o)) E) F.called_set.init.plain F.entry_set_init (ZM hT ?_)) λr₂ s₂ hr₂=>?_
     ·obtain⟨⟨cl,di,da,sl⟩,ol,cl',nl,da'⟩:=hl;simp only at cl' da';subst cl' da';have hol:(s.heap.push (AY w)).get? l=some {cls := .type "tuple",dict:=di,data := .seq items nl,slots:=sl}:=U3 _ ol;have v1:=F.sub_tuple_set;have v2:=F.sub_tuple_frozenset;have v3:(Value.type "tuple" == Value.type "dict")=false:=by decide
      have hl1:(s.heap.push (AY w)).IsTuple l items:=⟨_,hol,rfl,nl,rfl⟩
      unfold Builtin.«set.__init__» noKeywords Builtin.Frozenset.updateFrom;generalize hPI:pyIter=PI
      wp_walk
      subst hPI;refine Xz hl1 (XQ (Z0 ?_));have lS:l<s.heap.objs.size:=U5 ol;have z1:(s.heap.push (AY w)).objs.size=s.heap.objs.size+1:=Uc _ _;have lI:l≠(s.heap.push (AY w)).objs.size:=by rw[z1];exact UF (V7 lS)
      have hSf:s.heap.objs.size∉[(s.heap.push (AY w)).objs.size,l]:=by
       rw[z1];intro z;rcases UH.mp z with z | z
       ·exact absurd z (UF (Vc _))
       ·exact absurd (UA.mp z) (Vt lS)
      have hval:∀(i:Nat) (v:XR),items[i]?=some v->∃ t,v = .int ((λi=>ns.getD i 0) i) t:=λi v hv=>IntsAre.int_at hi i v (by rw[Uz];exact hv)
      refine SH ((Walks.tuple (by simp[hh]) _ l lI items).toS) s.heap.objs.size hSf (λi=>ns.getD i 0) hval hb items.size 0 _ (XG _)
       ⟨⟨_,U8 _ rfl,rfl,rfl⟩,hl1.push _⟩ ((Ky s.heap).keep λo e=>U3 _ e) λs' hm X'=>?_
      obtain⟨h',g',d',tk',os'⟩:=s';obtain rfl:g'=s.gens:=hm.gens;obtain rfl:d'=s.drawn:=hm.drawn;obtain rfl:os'=s.os:=hm.os;refine XT (XT ⟨rfl,h',tk',rfl,X',λb o hb e=>hm.heap b o (λz=>?_) (U3 _ (U3 _ e))⟩);rcases UH.mp z with z | z
      ·exact absurd z (UF hb)
      ·have z':=UA.mp z;rw[z1]at z';exact absurd z' (UF (V7 hb))
     ·cases r₂ with
      | error e=>exact hr₂
      | ok fl₂=>
        cases fl₂ with
        | ret r=>
          obtain⟨rfl,h',tk,rfl,X',hk'⟩:=hr₂
          repeat (any_goals (first | assumption | wp_step))
          exact h _ _ X' hk'
        | _=>exact hr₂.elim
   | _=>exact hr.elim
theorem SetX.kind{h:Heap}{a:XU}{L:List Int}(x:SetX prog w h a L):h.SetOf (intKind prog w) a (λk=>decide (k∈L)) L.length:=by
 obtain⟨o,es,ep,t,ho,hx,hd,hel,hb,hf,hT,hp⟩:=x;refine⟨o,es,ep,t,ho,hx,hd,hel,λk=>?_,hb,hf,by rw[<-hp.length_eq];simp⟩;rw[dQ,<-hp.mem_iff,Um];constructor
 ·rintro⟨e,he,rfl⟩;obtain⟨⟨k,hk,_⟩,_⟩:=hel e he;exact⟨e,he,by rw[CH hk];exact hk⟩
 ·rintro⟨e,he,hk⟩;exact⟨e,he,CH hk⟩
end
section
variable{X:Cx}
noncomputable def BE(ns:List Int):List Int:=YC (λi=>ns.getD i 0) ns.length
theorem BZ(ns:List Int)(k:Int):k∈BE ns↔k∈ns:=by
 have e:=firstMet_any (λi=>ns.getD i 0) ns.length k
 have e2:(U7 ns.length).map (λi=>ns.getD i 0)=ns:=by
  apply List.ext_getElem
  ·simp
  ·intro i h1 h2;simp[UI h2]
 rw[e2]at e;have h1:(BE ns).any (· == k)=true↔k∈BE ns:=by simp
 have h2:ns.any (· == k)=true↔k∈ns:=by simp
 rw[<-h1,<-h2];unfold BE;rw[e]
theorem JF(hc:X.calm=true):CallR X (.type "set") (λxs H Q=>∃ p ns,xs=[.ref p]/\(SqL X.K H p (ns.map V.int)\/SqT X.K H p (ns.map V.int))/\ns.length<=900/\∀ l,H l=none->Q (.ref l) (upd H l (.set (λk=>decide (k∈ns)) (BE ns).length))):=by
 intro pq s σ H xs us Q I r h;obtain⟨p,ns,rfl,hq,h9,q⟩:=h;obtain⟨u,rfl,rx⟩:=AB r;cases rx
 have fin:∀(its:List XR),Vals (ns.map V.int) its->∀(h':Heap) (tk:Nat),SetX X.prog X.w h' s.heap.objs.size (YC (λi=>ns.getD i 0) its.toArray.size)->(∀ b o,b<s.heap.objs.size->s.heap.get? b=some o->h'.get? b=some o)->EP X pq σ Q (.ref s.heap.objs.size) {s with heap:=h',toks:=tk}:=by
  intro its r' h' tk hX hk;have hlen:=r'.length;rw[U4]at hlen
  have hX:SetX X.prog X.w h' s.heap.objs.size (BE ns):=by
   have e:its.toArray.size=ns.length:=by rw[U6,hlen]
   rw[e]at hX;exact hX
  have k1:∀ b o,s.heap.get? b=some o->h'.get? b=some o:=λb o e=>hk b o (U5 e) e
  have so:ObjOk X.prog X.w (upd H s.heap.objs.size (.set (λk=>decide (k∈ns)) (BE ns).length)) h' s.heap.objs.size (.set (λk=>decide (k∈ns)) (BE ns).length):=by
   have:=hX.kind;rw[show(λk=>decide (k∈BE ns))=λk=>decide (k∈ns) from funext λk=>by rw[decide_eq_decide];exact BZ ns k]at this;exact this
  exact⟨.ref s.heap.objs.size,_,I.laid (t':=tk) k1 (U9 _) so,rfl,q _ (I.hok.fresh (U9 _))⟩
 rcases hq with hq | hq
 ·obtain⟨its,r',pl,hz⟩:=I.list hq;have hlen:=r'.length;rw[U4]at hlen;exact P6 (items:=its.toArray) (ns:=ns) (I.ok.hd hc) pl.isList (by simpa using n0 r') (by simp only[U6];show its.length+1<4096;omega) (fin its r')
 ·obtain⟨its,r',pl,hz⟩:=I.tuple hq;have hlen:=r'.length;rw[U4]at hlen;exact L8 (items:=its.toArray) (ns:=ns) (I.ok.hd hc) pl (by simpa using n0 r') (by simp only[U6];show its.length+1<4096;omega) (fin its r')
theorem L9:OpR X (Xe .In) (λx y H Q=>∃(k:Int) (p:XU) (S:Int->Bool) (n:Nat),x = .int k/\y = .ref p/\H p=some (.set S n)/\Q (.bl (S k)) H):=by
 intro pq s σ H x y v u Q I rx ry h;obtain⟨k,p,S,n,rfl,rfl,hp,q⟩:=h;obtain⟨t,rfl⟩:=rx;cases ry;have hS:s.heap.SetOf (intKind X.prog X.w) p S n:=I.hok p _ hp;exact wpAny_inSet_of (k:=k) (Zc _ _ _ _) rfl hS ⟨.bl _,H,I.tok _,rfl,q⟩
theorem Hk(hu:X.A.units<cLine):OpR X (Xe .Eq) (λx y H Q=>∃ a b xs,x = .ref a/\y = .ref b/\SqT X.K H a xs/\SqT X.K H b []/\Q (.bl xs.isEmpty) H):=by
 intro pq s σ H x y v u Q I rx ry h;obtain⟨a,b,xs,rfl,rfl,ha,hb,q⟩:=h;cases rx;cases ry;obtain⟨its1,r1,p1,_⟩:=I.tuple ha;obtain⟨its2,r2,p2,_⟩:=I.tuple hb;cases r2;refine SeqAt.eq_tupleAt (e:=λ_=>true) (show s.heap.IsTuple a its1.toArray from p1) (show s.heap.IsTuple b _ from p2) hu (λj _ h2=>by simp at h2) ?_;refine⟨.bl xs.isEmpty,H,I,?_,q⟩;show Value.bool _=Value.bool _
 congr 1
 cases xs with
 | nil=>cases r1;rfl
 | cons x xs=>cases r1;simp
end
open PySem PySem.Spec PyProof.Rows PySem.SeqAt
section
variable{X:Cx}
noncomputable def P8(K:U1):R2:=λx y H Q=>∃ a t,x = .ref a/\y = .str t/\((∃ xs,SqL K H a xs)\/∃ xs,SqT K H a xs)/\Q (.bl false) H
theorem NS(hu:X.A.units<cLine):OpR X (Xe .Eq) (P8 X.K):=by
 intro pq s σ H x y v u Q I rx ry h;obtain⟨a,t,rfl,rfl,h1,q⟩:=h;cases rx;obtain⟨tk,rfl⟩:=ry
 have e:XW (XX X.prog X.w) X.A (Ya .Eq (.ref a) (.str t tk)) (EP X pq σ Q) X.xe s:=by
  rcases h1 with⟨xs,h1⟩ | ⟨xs,h1⟩
  ·obtain⟨its,r1,p1,_⟩:=I.list h1;exact RcAt.list_str t tk p1.isList hu _ _ _ _ ⟨.bl false,H,I,rfl,q⟩
  ·obtain⟨its,r1,p1,_⟩:=I.tuple h1;exact RcAt.tuple_str (items:=its.toArray) t tk p1 hu _ _ _ _ ⟨.bl false,H,I,rfl,q⟩
 exact e
theorem GO(hg:X.A.guards=some [])(hu:X.A.units+100<cLine):CallR X (.builtin "repr") (λxs H Q=>∃ x d,xs=[x]/\Dat H x d/\Fit d/\Q (.str d.shown) H):=by
 intro pq s σ H xs us Q I r h;obtain⟨x,d,rfl,hd,f,q⟩:=h;obtain⟨u,rfl,ru⟩:=AB r
 have refs:∀ a,u = .ref a->XW (XX X.prog X.w) X.A (call (.builtin "repr") [u]) (EP X pq σ Q) X.xe s:=λa e=>by
  subst e;obtain⟨as,rd⟩:=I.reads x d _ hd ru;exact repr_of_reads' rd f.sh (PyData.noDict_hsm (Dat.noDict x d hd)) hg (by have:=f.dp;omega) (λ_ _ e=>e) (λh' u tk hk=>⟨.str d.shown,H,I.kept (t':=tk) hk,⟨_,rfl⟩,q⟩) f.sz
 cases d with
 | none=>unfold Dat at hd;subst hd;cases ru;exact P.repr_of_none ⟨.str "None",H,I.tok _,⟨_,rfl⟩,q⟩
 | bool b=>unfold Dat at hd;subst hd;cases ru;exact P.repr_of_bool ⟨.str (if b then "True" else "False"),H,I.tok _,⟨_,rfl⟩,by cases b<;>exact q⟩
 | int i=>unfold Dat at hd;subst hd;obtain⟨t,rfl⟩:=ru;exact P.repr_of_int (by have:=f.sh;simpa[PyData.showable] using this) ⟨.str (toString i),H,I.tok _,⟨_,rfl⟩,q⟩
 | str z=>unfold Dat at hd;subst hd;obtain⟨t,rfl⟩:=ru;exact P.repr_of_str ⟨.str _,H,I.tok _,⟨_,rfl⟩,q⟩ f.sz
 | list ds=>
   have hd':=hd;unfold Dat at hd';obtain⟨a,xs,rfl,_⟩:=hd';exact refs a ru
 | tuple ds=>
   have hd':=hd;unfold Dat at hd';obtain⟨a,xs,rfl,_⟩:=hd';exact refs a ru
 | dict _=>unfold Dat at hd;exact hd.elim
end
end L2
namespace Rf
open PySem L2
noncomputable def u7:SV->Bool
 | .non=>true | .bl _=>true | .int _=>true | .str _=>true | _=>false
noncomputable def toV:SV->V
 | .non => .non | .bl b => .bl b | .int i => .int i | .str x => .str x | _ => .non
noncomputable def eqF:SV->SV->Bool
 | .non,.non=>true
 | .bl a,.bl b=>a == b
 | .bl a,.int b=>(if a then 1 else 0) == b
 | .int a,.bl b=>a == (if b then 1 else 0)
 | .int a,.int b=>a == b
 | .str a,.str b=>a == b
 | _,_=>false
noncomputable def BK(xs ys:List SV):Bool:=xs.length == ys.length&&(xs.zip ys).all λp=>eqF p.1 p.2
noncomputable def inS(x:SV)(xs:List SV):Bool:=xs.any λy=>eqF y x
section
variable{K:U1}{as:List XU}{H:Hp}
theorem Hl{x:SV}{v:V}(f:u7 x=true)(r:Rl K as H v x):v=toV x:=by
 cases x with
 | non=>exact rl_non.mp r
 | bl _=>exact rl_bl.mp r
 | int _=>exact rl_int.mp r
 | str _=>exact rl_str.mp r
 | _=>cases f
theorem Ab:∀{xs:List SV} {vs:List V},xs.all u7=true->RlAll K as H vs xs->vs=xs.map toV
 | [],_,_,r=>rla_nil.mp r
 | x::xs,_,f,r=>by
   rw[V2,U2]at f;obtain⟨v,vs,rfl,r1,r2⟩:=rla_cons.mp r;rw[Hl f.1 r1,Ab f.2 r2];rfl
theorem F0{x:SV}(f:u7 x=true):v5 (toV x)=true:=by cases x<;>first | rfl | cases f
theorem Bp{xs:List SV}(f:xs.all u7=true):(xs.map toV).all v5=true:=by
 rw[US]at f ⊢;intro v hv;obtain⟨x,hx,rfl⟩:=Um.mp hv;exact F0 (f x hx)
theorem E7{x y:SV}(fx:u7 x=true)(fy:u7 y=true):eqV (toV x) (toV y)=eqF x y:=by
 cases x<;>first | cases fx;done | (cases y<;>first | rfl | cases fy)
theorem QT{x:SV}{xs:List SV}(fx:u7 x=true)(f:xs.all u7=true):inV (toV x) (xs.map toV)=inS x xs:=by
 unfold inV inS;rw[XH];rw[US]at f;rw[Ug,Ux,Ux];constructor
 ·rintro⟨y,hy,e⟩;exact⟨y,hy,by rw[<-E7 (f y hy) fx];exact e⟩
 ·rintro⟨y,hy,e⟩;exact⟨y,hy,by show eqV (toV y) (toV x)=true;rw[E7 (f y hy) fx];exact e⟩
theorem NT:∀{xs ys:List SV},xs.all u7=true->ys.all u7=true->AT (xs.map toV) (ys.map toV)=BK xs ys:=by
 intro xs ys fx fy;unfold AT BK;rw[U4,U4,List.zip_map,XI]
 congr 1
 rw[Ug,US,US];rw[US]at fx fy;constructor
 ·rintro h ⟨a,b⟩ hm;have:=h (a,b) hm;rw[<-E7 (fx a (VQ hm).1) (fy b (VQ hm).2)];exact this
 ·rintro h ⟨a,b⟩ hm;have:=h (a,b) hm;show eqV (toV a) (toV b)=true;rw[E7 (fx a (VQ hm).1) (fy b (VQ hm).2)];exact this
noncomputable def seqS:SV->Sto->Option (List SV)
 | .tup xs,_=>some xs
 | .ro xs,_=>some xs
 | .loc k,S=>match S[k]? with | some (.lst xs)=>some xs | _=>none
 | _,_=>none
theorem Bq{x:SV}{v:V}{S:Sto}{xs:List SV}(ok:Ok K as H S)(r:Rl K as H v x)(h:seqS x S=some xs):∃ a vs,v = .ref a/\(SqL K H a vs\/SqT K H a vs)/\RlAll K as H vs xs:=by
 cases x with
 | tup ys=>
   cases h;obtain⟨p,vs,rfl,hp,rr⟩:=rl_tup.mp r;exact⟨p,vs,rfl,.inr (SqT.of hp),rr⟩
 | ro ys=>
   cases h;obtain⟨p,vs,rfl,hp,rr⟩:=rl_ro.mp r;exact⟨p,vs,rfl,.inl hp.sq,rr⟩
 | loc k=>
   obtain⟨a,ea,rfl⟩:=rl_loc.mp r;unfold seqS at h;cases hs:S[k]? with
   | none=>simp only[hs]at h;cases h
   | some o=>
     cases o with
     | lst ys=>
       simp only[hs]at h;cases h;obtain⟨vs,h1,rr⟩:=ok.obj k _ a hs ea;exact⟨a,vs,rfl,.inl (SqL.of h1),rr⟩
     | iset _=>simp only[hs]at h;cases h
     | dtp _=>simp only[hs]at h;cases h
     | dct _=>simp only[hs]at h;cases h
     | dcf _ _ _=>simp only[hs]at h;cases h
 | _=>cases h
theorem l8{k:Nat}{v:V}{S:Sto}{xs:List SV}(ok:Ok K as H S)(r:Rl K as H v (.loc k))(h:S[k]?=some (.lst xs)):∃ a vs,v = .ref a/\as[k]?=some a/\H a=some (.lst vs)/\RlAll K as H vs xs:=by
 obtain⟨a,ea,rfl⟩:=rl_loc.mp r;obtain⟨vs,h1,rr⟩:=ok.obj k _ a h ea;exact⟨a,vs,rfl,ea,h1,rr⟩
end
noncomputable def GP:S2
 | .int i,.int j,S,Q=>Q (.int (i+j)) S
 | .loc k,.loc l,S,Q=>∃ xs ys,S[k]?=some (.lst xs)/\S[l]?=some (.lst ys)/\xs.length+ys.length<=big/\Q (.loc S.length) (S++[.lst (xs++ys)])
 | _,_,_,_=>False
noncomputable def GQ(C:Int->Int->Prop)(g:Int->Int->SV):S2
 | .int i,.int j,S,Q=>C i j/\Q (g i j) S
 | _,_,_,_=>False
noncomputable def Ba(g:Int->Int->SV):S2
 | .int i,.int j,S,Q=>Q (g i j) S
 | _,_,_,_=>False
noncomputable def LA:S2
 | .int i,.int j,S,Q=>CMul i j/\Q (.int (i * j)) S
 | .loc k,.int j,S,Q=>∃ xs,S[k]?=some (.lst xs)/\(-1000000<j/\j<1000000)/\xs.length * j.toNat<=big/\Q (.loc S.length) (S++[.lst (UO j.toNat xs).flatten])
 | _,_,_,_=>False
theorem Mono2.add:Mono2 GP:=λx y S P P' i h=>by
 unfold GP at h ⊢
 split at h<;>first
  | exact i _ _ h
  | exact⟨h.1,i _ _ h.2⟩
  | (obtain⟨xs,ys,a,b,c,d⟩:=h;exact⟨xs,ys,a,b,c,i _ _ d⟩)
  | exact h.elim
theorem Mono2.int{C:Int->Int->Prop}{g:Int->Int->SV}:Mono2 (GQ C g):=λx y S P P' i h=>by
 unfold GQ at h ⊢;split at h
 ·exact⟨h.1,i _ _ h.2⟩
 ·exact h.elim
theorem Mono2.int0{g:Int->Int->SV}:Mono2 (Ba g):=λx y S P P' i h=>by
 unfold Ba at h ⊢;split at h
 ·exact i _ _ h
 ·exact h.elim
theorem Mono2.mul:Mono2 LA:=λx y S P P' i h=>by
 unfold LA at h ⊢;split at h
 ·exact⟨h.1,i _ _ h.2⟩
 ·obtain⟨xs,a,b,c,d⟩:=h;exact⟨xs,a,b,c,i _ _ d⟩
 ·exact h.elim
section
variable{K:U1}
theorem Post.here{as:List XU}{H:Hp}{Q:VK}{x:SV}{S:Sto}{v:V}(h:Post K as H Q x S)(ok:Ok K as H S)(r:Rl K as H v x):Q v H:=h as H v (Go.refl _ _) ok r
theorem E8{C:Int->Int->Prop}{g:Int->Int->SV}{g':Int->Int->V}(hg:∀ as H i j,Rl K as H (g' i j) (g i j)):Aw K (GQ C g) (rI C g'):=λas H S x y v u Q ok rx ry h=>by
 unfold GQ at h;split at h
 ·rw[rl_int]at rx ry;exact⟨_,_,rx,ry,h.1,h.2.here ok (hg _ _ _ _)⟩
 ·exact h.elim
theorem Ax{g:Int->Int->SV}{g':Int->Int->V}(hg:∀ as H i j,Rl K as H (g' i j) (g i j)):Aw K (Ba g) (rI0 g'):=λas H S x y v u Q ok rx ry h=>by
 unfold Ba at h;split at h
 ·rw[rl_int]at rx ry;exact⟨_,_,rx,ry,h.here ok (hg _ _ _ _)⟩
 ·exact h.elim
noncomputable def ST(K:U1):R2:=λx y H Q=>(rI0 λi j => .int (i+j)) x y H Q\/S9 x y H Q
theorem NU{X:Cx}:OpR X (YE .Add) (ST X.K):=op_add.or QB
theorem NV:Aw K GP (ST K):=λas H S x y v u Q ok rx ry h=>by
 unfold GP at h;split at h
 ·rw[rl_int]at rx ry;exact .inl ⟨_,_,rx,ry,h.here ok (rl_int.mpr rfl)⟩
 ·obtain⟨xs,ys,h1,h2,h3,h4⟩:=h;obtain⟨a,vs,rfl,_,ha,ra⟩:=l8 ok rx h1;obtain⟨b,us,rfl,_,hb,rb⟩:=l8 ok ry h2;exact(.inr (⟨a,b,vs,us,rfl,rfl,ha,hb,by rw[ra.length,rb.length];exact Aa h3,w9 ok (ra.append rb) h4⟩))
 ·exact h.elim
theorem RlAll.rep{as:List XU}{H:Hp}{vs:List V}{xs:List SV}(h:RlAll K as H vs xs):∀ n,RlAll K as H (UO n vs).flatten (UO n xs).flatten
 | 0=>by simpa using RlAll.nil
 | n+1=>by
   rw[Uu,Uu,VE,VE];exact h.append (RlAll.rep h n)
theorem NW:Aw K LA (λx y H Q=>(rI CMul λi j => .int (i * j)) x y H Q\/SA x y H Q):=λas H S x y v u Q ok rx ry h=>by
 unfold LA at h;split at h
 ·rw[rl_int]at rx ry;exact .inl ⟨_,_,rx,ry,h.1,h.2.here ok (rl_int.mpr rfl)⟩
 ·rename_i k j;obtain⟨xs,h1,h2,h3,h4⟩:=h;obtain⟨a,vs,rfl,_,ha,ra⟩:=l8 ok rx h1;rw[rl_int]at ry;subst ry;exact .inr (⟨a,j,vs,rfl,rfl,ha,by omega,by omega,by rw[ra.length];exact Aa h3,w9 ok (ra.rep _) h4⟩)
 ·exact h.elim
end
noncomputable def scS:SV->SV->Option Bool
 | .int i,.int j=>some (decide (i=j))
 | .bl i,.bl j=>some (decide (i=j))
 | .str i,.str j=>some (decide (i=j))
 | .non,.non=>some true
 | .non,.int _=>some false | .int _,.non=>some false | .non,.bl _=>some false | .bl _,.non=>some false | .non,.str _=>some false | .str _,.non=>some false
 | .int _,.str _=>some false | .str _,.int _=>some false | .bl _,.str _=>some false | .str _,.bl _=>some false
 | _,_=>none
noncomputable def GR:SV->SV->Sto->(Bool->Prop)->Prop
 | .loc k,.loc l,S,Q=>∃ xs ys,S[k]?=some (.lst xs)/\S[l]?=some (.lst ys)/\((xs.all u7=true/\ys.all u7=true)\/xs=[]\/ys=[])/\Q (BK xs ys)
 | _,_,_,_=>False
noncomputable def JG:SV->SV->Sto->(Bool->Prop)->Prop
 | .loc k,.loc l,S,Q=>∃ xs ys,S[k]?=some (.lst xs)/\S[l]?=some (.lst ys)/\((xs.all u7=true/\ys.all u7=true)\/xs=[]\/ys=[])/\Q (BK xs ys)
 | .loc k,.str _,S,Q=>(∃ xs,S[k]?=some (.lst xs))/\Q false
 | .tup _,.str _,_,Q=>Q false
 | _,_,_,_=>False
theorem QU{x y:SV}{S:Sto}{Q:Bool->Prop}(h:JG x y S Q):GR x y S Q\/(∃ t,y = .str t/\((∃ k xs,x = .loc k/\S[k]?=some (.lst xs))\/∃ xs,x = .tup xs)/\Q false):=by
 unfold JG at h;split at h
 ·exact .inl h
 ·obtain⟨⟨xs,e⟩,q⟩:=h;exact .inr ⟨_,rfl,.inl ⟨_,xs,rfl,e⟩,q⟩
 ·exact .inr ⟨_,rfl,.inr ⟨_,rfl⟩,h⟩
 ·exact h.elim
theorem JH{x y:SV}{S:Sto}{P P':Bool->Prop}(i:∀ b,P b->P' b)(h:JG x y S P):JG x y S P':=by
 unfold JG at h ⊢;split at h
 ·obtain⟨xs,ys,a,b,c,d⟩:=h;exact⟨xs,ys,a,b,c,i _ d⟩
 ·exact⟨h.1,i _ h.2⟩
 ·exact i _ h
 ·exact h.elim
noncomputable def sEq:S2:=λx y S Q=>match scS x y with | some b=>Q (.bl b) S | none=>JG x y S λb=>Q (.bl b) S
noncomputable def sNe:S2:=λx y S Q=>match scS x y with | some b=>Q (.bl (!b)) S | none=>GR x y S λb=>Q (.bl (!b)) S
noncomputable def AJ:SV->Sto->Option (List Int)
 | .loc k,S=>match S[k]? with | some (.iset ms)=>some ms | _=>none
 | _,_=>none
noncomputable def sIn(neg:Bool):S2:=λx y S Q=>match AJ y S with
 | some ms=>∃ i,x = .int i/\neg=false/\Q (.bl (decide (i∈ms))) S
 | none=>u7 x=true/\∃ ys,seqS y S=some ys/\ys.all u7=true/\Q (.bl (if neg then !inS x ys else inS x ys)) S
noncomputable def C4:SV->Bool
 | .non=>true
 | _=>false
noncomputable def LB(neg:Bool):S2:=λx y S Q=>(y = .non/\Q (.bl (if neg then !C4 x else C4 x)) S)\/∃ c d,neg=true/\x = .bl c/\y = .bl d/\Q (.bl (c != d)) S
theorem JI{x y:SV}{S:Sto}{P P':Bool->Prop}(i:∀ b,P b->P' b)(h:GR x y S P):GR x y S P':=by
 unfold GR at h ⊢;split at h
 ·obtain⟨xs,ys,a,b,c,d⟩:=h;exact⟨xs,ys,a,b,c,i _ d⟩
 ·exact h.elim
theorem Mono2.eq:Mono2 sEq:=λx y S P P' i h=>by
 unfold sEq at h ⊢;split at h
 ·exact i _ _ h
 ·exact JH (λ_=>i _ _) h
theorem Mono2.ne:Mono2 sNe:=λx y S P P' i h=>by
 unfold sNe at h ⊢;split at h
 ·exact i _ _ h
 ·exact JI (λ_=>i _ _) h
theorem Mono2.in'{n:Bool}:Mono2 (sIn n):=λx y S P P' i h=>by
 unfold sIn at h ⊢;split at h
 ·obtain⟨j,e,z,h⟩:=h;exact⟨j,e,z,i _ _ h⟩
 ·obtain⟨f,ys,a,b,h⟩:=h;exact⟨f,ys,a,b,i _ _ h⟩
theorem Mono2.isN{n:Bool}:Mono2 (LB n):=λx y S P P' i h=>h.imp (λh=>⟨h.1,i _ _ h.2⟩) λ⟨c,d,z,a,b,h⟩=>⟨c,d,z,a,b,i _ _ h⟩
section
variable{K:U1}
theorem LC{as:List XU}{H:Hp}{x y:SV}{v u:V}{b:Bool}(e:scS x y=some b)(rx:Rl K as H v x)(ry:Rl K as H u y):Q0 v u=true/\decide (v=u)=b:=by
 cases x<;>first | (unfold scS at e;cases e;done) | (cases y<;>first | (unfold scS at e;cases e;done) | (simp only[rl_non,rl_bl,rl_int,rl_str]at rx ry;subst rx ry;unfold scS at e;injection e with e;subst e;exact⟨rfl,by simp⟩))
theorem Hm{as:List XU}{H:Hp}{S:Sto}{x y:SV}{v u:V}{Q:Bool->Prop}(ok:Ok K as H S)(rx:Rl K as H v x)(ry:Rl K as H u y)(h:GR x y S Q):∃ a b xs ys,v = .ref a/\u = .ref b/\SqL K H a xs/\SqL K H b ys/\((xs.all v5=true/\ys.all v5=true)\/xs=[]\/ys=[])/\Q (AT xs ys):=by
 unfold GR at h;split at h
 ·obtain⟨xs,ys,h1,h2,h3,h4⟩:=h;obtain⟨a,vs,rfl,_,ha,ra⟩:=l8 ok rx h1;obtain⟨b,us,rfl,_,hb,rb⟩:=l8 ok ry h2;refine⟨a,b,vs,us,rfl,rfl,SqL.of ha,SqL.of hb,?_,?_⟩
  ·rcases h3 with⟨f1,f2⟩ | h3 | h3
   ·rw[Ab f1 ra,Ab f2 rb];exact .inl ⟨Bp f1,Bp f2⟩
   ·subst h3;exact .inr (.inl (rla_nil.mp ra))
   ·subst h3;exact .inr (.inr (rla_nil.mp rb))
  ·have e:AT vs us=BK xs ys:=by
    rcases h3 with⟨f1,f2⟩ | h3 | h3
    ·rw[Ab f1 ra,Ab f2 rb,NT f1 f2]
    ·subst h3;have:=rla_nil.mp ra;subst this;have l:=rb.length;unfold AT BK;simp[l]
    ·subst h3;have:=rla_nil.mp rb;subst this;have l:=ra.length;unfold AT BK;simp[l]
   rw[e];exact h4
 ·exact h.elim
theorem QV:Aw K sEq (λx y H Q=>rEq x y H Q\/(NE K false x y H Q\/P8 K x y H Q)):=λas H S x y v u Q ok rx ry h=>by
 unfold sEq at h;split at h
 ·rename_i b e;obtain⟨h1,h2⟩:=LC e rx ry;exact .inl ⟨h1,by rw[h2];exact h.here ok (rl_bl.mpr rfl)⟩
 ·rcases QU h with h | ⟨t,rfl,h,q⟩
  ·obtain⟨a,b,xs,ys,e1,e2,h1,h2,h3,h4⟩:=Hm ok rx ry h;exact .inr (.inl ⟨a,b,xs,ys,e1,e2,h1,h2,h3,h4.here ok (rl_bl.mpr rfl)⟩)
  ·rw[rl_str]at ry;subst ry;rcases h with⟨k,xs,rfl,hk⟩ | ⟨xs,rfl⟩
   ·obtain⟨a,vs,rfl,_,ha,_⟩:=l8 ok rx hk;exact .inr (.inr ⟨a,t,rfl,rfl,.inl ⟨vs,SqL.of ha⟩,Post.here q ok (rl_bl.mpr rfl)⟩)
   ·obtain⟨p,vs,rfl,hp,_⟩:=rl_tup.mp rx;exact .inr (.inr ⟨p,t,rfl,rfl,.inr ⟨vs,SqT.of hp⟩,Post.here q ok (rl_bl.mpr rfl)⟩)
theorem QW:Aw K sNe (λx y H Q=>rNe x y H Q\/NE K true x y H Q):=λas H S x y v u Q ok rx ry h=>by
 unfold sNe at h;split at h
 ·rename_i b e;obtain⟨h1,h2⟩:=LC e rx ry;exact .inl ⟨h1,by rw[h2];exact h.here ok (rl_bl.mpr rfl)⟩
 ·obtain⟨a,b,xs,ys,e1,e2,h1,h2,h3,h4⟩:=Hm ok rx ry h;exact .inr ⟨a,b,xs,ys,e1,e2,h1,h2,h3,h4.here ok (rl_bl.mpr rfl)⟩
theorem NX{as:List XU}{H:Hp}{S:Sto}{y:SV}{u:V}{ms:List Int}(ok:Ok K as H S)(r:Rl K as H u y)(h:AJ y S=some ms):∃ a k F,y = .loc k/\u = .ref a/\as[k]?=some a/\S[k]?=some (.iset ms)/\H a=some (.set F ms.length)/\∀ k,F k=decide (k∈ms):=by
 cases y with
 | loc k=>
   obtain⟨a,ea,rfl⟩:=rl_loc.mp r;unfold AJ at h;cases hs:S[k]? with
   | none=>simp only[hs]at h;cases h
   | some o=>
     cases o with
     | lst ys=>simp only[hs]at h;cases h
     | iset ns=>
       simp only[hs]at h;cases h;obtain⟨F,h1,h2⟩:=ok.obj k _ a hs ea;exact⟨a,k,F,rfl,rfl,ea,hs,h1,h2⟩
     | dtp _=>simp only[hs]at h;cases h
     | dct _=>simp only[hs]at h;cases h
     | dcf _ _ _=>simp only[hs]at h;cases h
 | _=>cases h
noncomputable def QX(K:U1)(neg:Bool):R2:=λx y H Q=>rIn K neg x y H Q\/(neg=false/\∃(k:Int) (p:XU) (S:Int->Bool) (n:Nat),x = .int k/\y = .ref p/\H p=some (.set S n)/\Q (.bl (S k)) H)
theorem QY{X:Cx}:OpR X (Xe .In) (QX X.K false):=λpq s σ H x y v u Q I rx ry h=>h.elim (Iw pq s σ H x y v u Q I rx ry) λh=>L9 pq s σ H x y v u Q I rx ry h.2
theorem JJ{X:Cx}:OpR X (Xe .NotIn) (QX X.K true):=λpq s σ H x y v u Q I rx ry h=>h.elim (Dz pq s σ H x y v u Q I rx ry) λh=>by cases h.1
theorem LD{n:Bool}:Aw K (sIn n) (QX K n):=λas H S x y v u Q ok rx ry h=>by
 unfold sIn at h;split at h
 ·rename_i ms hi;obtain⟨i,rfl,rfl,h⟩:=h;obtain⟨a,k,F,rfl,rfl,ea,es,hF,hk⟩:=NX ok ry hi;rw[rl_int]at rx;exact .inr ⟨rfl,i,a,F,_,rx,rfl,hF,by rw[hk];exact h.here ok (rl_bl.mpr rfl)⟩
 ·obtain⟨f,ys,hs,fs,h⟩:=h;obtain⟨a,vs,rfl,hq,rr⟩:=Bq ok ry hs;have ev:=Hl f rx;have es:=Ab fs rr;subst ev es;exact .inl ⟨a,_,rfl,hq,F0 f,Bp fs,by rw[QT f fs];exact h.here ok (rl_bl.mpr rfl)⟩
theorem F1{as:List XU}{H:Hp}{x:SV}{v:V}(r:Rl K as H v x):decide (v=V.non)=C4 x:=by
 cases x with
 | non=>rw[rl_non.mp r];rfl
 | bl _=>rw[rl_bl.mp r];rfl
 | int _=>rw[rl_int.mp r];rfl
 | str _=>rw[rl_str.mp r];rfl
 | tup _=>obtain⟨p,vs,rfl,_⟩:=rl_tup.mp r;rfl
 | loc _=>obtain⟨p,_,rfl⟩:=rl_loc.mp r;rfl
 | ro _=>obtain⟨p,vs,rfl,_⟩:=rl_ro.mp r;rfl
 | ty _=>rw[rl_ty.mp r];rfl
theorem NY:Aw K (LB false) (λx y H Q=>y = .non/\Q (.bl (decide (x = .non))) H):=λas H S x y v u Q ok rx ry h=>by
 rcases h with⟨e,h⟩ | ⟨c,d,z,_⟩
 ·subst e;exact⟨rl_non.mp ry,by rw[F1 rx];exact h.here ok (rl_bl.mpr rfl)⟩
 ·cases z
theorem LF:Aw K (LB true) (λx y H Q=>(y = .non/\Q (.bl (!decide (x = .non))) H)\/∃ c d,x = .bl c/\y = .bl d/\Q (.bl (c != d)) H):=λas H S x y v u Q ok rx ry h=>by
 rcases h with⟨e,h⟩ | ⟨c,d,_,rfl,rfl,h⟩
 ·subst e;exact .inl ⟨rl_non.mp ry,by rw[F1 rx];exact h.here ok (rl_bl.mpr rfl)⟩
 ·exact .inr ⟨c,d,rl_bl.mp rx,rl_bl.mp ry,h.here ok (rl_bl.mpr rfl)⟩
end
noncomputable def sIx:S2
 | x,.int i,S,Q=>∃ xs y,seqS x S=some xs/\atI xs i=some y/\Q y S
 | _,_,_,_=>False
theorem Mono2.ix:Mono2 sIx:=λx y S P P' i h=>by
 unfold sIx at h ⊢;split at h
 ·obtain⟨xs,z,a,b,c⟩:=h;exact⟨xs,z,a,b,i _ _ c⟩
 ·exact h.elim
section
variable{K:U1}
theorem RlAll.atI{as:List XU}{H:Hp}{xs:List SV}{vs:List V}{i:Int}{y:SV}(h:RlAll K as H vs xs)(e:L2.atI xs i=some y):∃ v,L2.atI vs i=some v/\Rl K as H v y:=by
 unfold L2.atI at e ⊢;rw[h.length];cases hj:ixN xs.length i with
 | none=>rw[hj]at e;cases e
 | some j=>
   rw[hj]at e;exact h.get e
theorem QZ:Aw K sIx (λx y H Q=>Rz K x y H Q\/S7 K x y H Q):=λas H S x y v u Q ok rx ry h=>by
 unfold sIx at h;split at h
 ·obtain⟨xs,z,h1,h2,h3⟩:=h;obtain⟨a,vs,rfl,hq,rr⟩:=Bq ok rx h1;obtain⟨w,hw,rw'⟩:=rr.atI h2;rw[rl_int]at ry;rcases hq with hq | hq
  ·exact .inl ⟨a,vs,_,w,rfl,ry,hq,hw,h3.here ok rw'⟩
  ·exact .inr ⟨a,vs,_,w,rfl,ry,hq,hw,h3.here ok rw'⟩
 ·exact h.elim
end
inductive BI where
 | len | abs | min | max | int | list | tuple | all | any | sorted | isi | str | repr
 deriving DecidableEq
noncomputable def BI.name:BI->Str
 | .len=>"len" | .abs=>"abs" | .min=>"min" | .max=>"max" | .int=>"int" | .list=>"list" | .tuple=>"tuple" | .all=>"all" | .any=>"any" | .sorted=>"sorted" | .isi=>"isinstance" | .str=>"str" | .repr=>"repr"
noncomputable def blS:List SV->Option (List Bool)
 | []=>some []
 | .bl b::xs=>(blS xs).map (b::·)
 | _::_=>none
noncomputable def CA:List SV->Option (List Int)
 | []=>some []
 | .int i::xs=>(CA xs).map (i::·)
 | _::_=>none
noncomputable def tyS:SV->Sto->Option TyN
 | .non,_=>some .none
 | .bl _,_=>some .bool
 | .int _,_=>some .int
 | .str _,_=>some .str
 | .tup _,_=>some .tuple
 | .loc k,S=>match S[k]? with | some (.lst _)=>some .list | _=>none
 | _,_=>none
noncomputable def E9:TyN->TyN->Bool
 | .bool,.int=>true
 | a,b=>decide (a=b)
noncomputable def JK:List SV->Option (List TyN)
 | []=>some []
 | .ty t::xs=>(JK xs).map (t::·)
 | _::_=>none
noncomputable def y0:Nat->Sto->SV->Option PyData
 | _,_,.non=>some .none
 | _,_,.bl b=>some (.bool b)
 | _,_,.int i=>some (.int i)
 | _,_,.str x=>some (.str x)
 | n+1,S,.tup xs=>(xs.mapM (y0 n S)).map PyData.tuple
 | n+1,S,.loc k=>match S[k]? with | some (.lst xs)=>(xs.mapM (y0 n S)).map PyData.list | _=>none
 | _,_,_=>none
noncomputable def a0(f:Sto->QE->Prop):Sn:=λxs S Q=>match xs with | []=>f S Q | _=>False
noncomputable def a1(f:S1):Sn:=λxs S Q=>match xs with | [x]=>f x S Q | _=>False
noncomputable def a2(f:S2):Sn:=λxs S Q=>match xs with | [x,y]=>f x y S Q | _=>False
noncomputable def oI(f:Int->Sto->QE->Prop):S1:=λx S Q=>match x with | .int i=>f i S Q | _=>False
theorem Cg{f:S1}{xs:List SV}{S:Sto}{Q:QE}(h:a1 f xs S Q):∃ x,xs=[x]/\f x S Q:=match xs,h with | [x],h=>⟨x,rfl,h⟩
theorem LG{f:S2}{xs:List SV}{S:Sto}{Q:QE}(h:a2 f xs S Q):∃ x y,xs=[x,y]/\f x y S Q:=match xs,h with | [x,y],h=>⟨x,y,rfl,h⟩
theorem CB{f:Int->Sto->QE->Prop}{x:SV}{S:Sto}{Q:QE}(h:oI f x S Q):∃ i,x = .int i/\f i S Q:=match x,h with | .int i,h=>⟨i,rfl,h⟩
theorem w6{f:S1}(m:Ey f):MonoN (a1 f):=λxs S P P' i h=>by
 replace h:=Cg h;obtain⟨x,rfl,h⟩:=h;exact m x S P P' i h
theorem CI{f:S2}(m:Mono2 f):MonoN (a2 f):=λxs S P P' i h=>by
 replace h:=LG h;obtain⟨x,y,rfl,h⟩:=h;exact m x y S P P' i h
theorem NZ{f:Int->Sto->QE->Prop}(m:∀ k S P P',(∀ x S',P x S'->P' x S')->f k S P->f k S P'):Ey (oI f):=λx S P P' i h=>by
 replace h:=CB h;obtain⟨k,rfl,h⟩:=h;exact m k S P P' i h
noncomputable def SU:S1
 | .int i,S,Q=>Q (.int i) S
 | .bl b,S,Q=>Q (.int (if b then 1 else 0)) S
 | _,_,_=>False
theorem P9{x:SV}{S:Sto}{Q:QE}(h:SU x S Q):(∃ i,x = .int i/\Q (.int i) S)\/∃ b,x = .bl b/\Q (.int (if b then 1 else 0)) S:=match x,h with
 | .int i,h => .inl ⟨i,rfl,h⟩
 | .bl b,h => .inr ⟨b,rfl,h⟩
noncomputable def SW:S2:=λx y S Q=>match y with
 | .ty t=>∃ a,t ≠ .none/\tyS x S=some a/\Q (.bl (E9 a t)) S
 | .tup ts=>∃ a bs,TyN.none∉bs/\tyS x S=some a/\JK ts=some bs/\Q (.bl (bs.any (E9 a))) S
 | _=>False
theorem PB{x y:SV}{S:Sto}{Q:QE}(h:SW x y S Q):(∃ t a,y = .ty t/\t ≠ .none/\tyS x S=some a/\Q (.bl (E9 a t)) S)\/∃ ts a bs,y = .tup ts/\TyN.none∉bs/\tyS x S=some a/\JK ts=some bs/\Q (.bl (bs.any (E9 a))) S:=match y,h with
 | .ty t,⟨a,h⟩ => .inl ⟨t,a,rfl,h⟩
 | .tup ts,⟨a,bs,h⟩ => .inr ⟨ts,a,bs,rfl,h⟩
noncomputable def Ti:S1:=λx S Q=>∃ xs,seqS x S=some xs/\Q (.int xs.length) S
noncomputable def Tj:S1:=oI λi S Q=>Q (.int (if i<0 then -i else i)) S
noncomputable def Tk:S2:=λx y S Q=>oI (λi S Q=>oI (λj S Q=>Q (.int (if j<i then j else i)) S) y S Q) x S Q
noncomputable def Tl:S2:=λx y S Q=>oI (λi S Q=>oI (λj S Q=>Q (.int (if j>i then j else i)) S) y S Q) x S Q
noncomputable def SX:S1:=λx S Q=>∃ xs,seqS x S=some xs/\Q (.loc S.length) (S++[.lst xs])
noncomputable def Qa:S1:=λx S Q=>∃ xs,seqS x S=some xs/\Q (.tup xs) S
noncomputable def Tm:S1:=λx S Q=>∃ xs bs,x ≠ .tup xs/\seqS x S=some xs/\blS xs=some bs/\Q (.bl (bs.all id)) S
noncomputable def Tn:S1:=λx S Q=>∃ xs bs,x ≠ .tup xs/\seqS x S=some xs/\blS xs=some bs/\Q (.bl (bs.any id)) S
noncomputable def SY:S1:=λx S Q=>∃ d,y0 20 S x=some d/\Fit d/\Q (.str d.shown) S
noncomputable def sBi:BI->Sn
 | .len=>a1 Ti
 | .abs=>a1 Tj
 | .min=>a2 Tk
 | .max=>a2 Tl
 | .int=>a1 SU
 | .list=>a1 SX
 | .tuple=>a1 Qa
 | .all=>a1 Tm
 | .any=>a1 Tn
 | .sorted=>λ_ _ _=>False
 | .isi=>a2 SW
 | .str=>λ_ _ _=>False
 | .repr=>a1 SY
theorem MonoN.bi:∀{b:BI},MonoN (sBi b)
 | .len=>w6 λ_ _ _ _ i ⟨a,c,d⟩=>⟨a,c,i _ _ d⟩
 | .abs=>w6 (NZ λ_ _ _ _ i h=>i _ _ h)
 | .min=>CI λx y S P P' i h=>by
   replace h:=CB h;obtain⟨k,rfl,h1⟩:=h;obtain⟨l,rfl,h2⟩:=CB h1;exact i _ _ h2
 | .max=>CI λx y S P P' i h=>by
   replace h:=CB h;obtain⟨k,rfl,h1⟩:=h;obtain⟨l,rfl,h2⟩:=CB h1;exact i _ _ h2
 | .int=>w6 λx S P P' i h=>by
   replace h:=P9 h;rcases h with⟨k,rfl,h⟩ | ⟨b,rfl,h⟩
   ·exact i _ _ h
   ·exact i _ _ h
 | .list=>w6 λ_ _ _ _ i ⟨a,c,d⟩=>⟨a,c,i _ _ d⟩
 | .tuple=>w6 λ_ _ _ _ i ⟨a,c,d⟩=>⟨a,c,i _ _ d⟩
 | .all=>w6 λ_ _ _ _ i ⟨a,b,c,d,e,f⟩=>⟨a,b,c,d,e,i _ _ f⟩
 | .any=>w6 λ_ _ _ _ i ⟨a,b,c,d,e,f⟩=>⟨a,b,c,d,e,i _ _ f⟩
 | .sorted=>λ_ _ _ _ _ h=>h
 | .isi=>CI λx y S P P' i h=>by
   replace h:=PB h;rcases h with⟨t,a,rfl,h1,h2,h⟩ | ⟨ts,a,bs,rfl,h1,h2,h3,h⟩
   ·exact⟨a,h1,h2,i _ _ h⟩
   ·exact⟨a,bs,h1,h2,h3,i _ _ h⟩
 | .str=>λ_ _ _ _ _ h=>h
 | .repr=>w6 λ_ _ _ _ i ⟨a,b,c,d⟩=>⟨a,b,c,i _ _ d⟩
section
variable{K:U1}{as:List XU}{H:Hp}{S:Sto}
theorem GS:∀{xs:List SV} {bs:List Bool} {vs:List V},blS xs=some bs->RlAll K as H vs xs->vs=bs.map V.bl
 | [],_,_,e,r=>by cases e;exact rla_nil.mp r
 | .bl b::xs,_,_,e,r=>by
   obtain⟨v,vs,rfl,r1,r2⟩:=rla_cons.mp r;unfold blS at e;cases h:blS xs with
   | none=>rw[h]at e;cases e
   | some cs=>
     rw[h]at e;cases e;rw[rl_bl.mp r1,GS h r2];rfl
 | .non::_,_,_,e,_=>by cases e
 | .int _::_,_,_,e,_=>by cases e
 | .str _::_,_,_,e,_=>by cases e
 | .tup _::_,_,_,e,_=>by cases e
 | .loc _::_,_,_,e,_=>by cases e
 | .ro _::_,_,_,e,_=>by cases e
 | .ty _::_,_,_,e,_=>by cases e
theorem CJ:∀{xs:List SV} {bs:List Int} {vs:List V},CA xs=some bs->RlAll K as H vs xs->vs=bs.map V.int
 | [],_,_,e,r=>by cases e;exact rla_nil.mp r
 | .int b::xs,_,_,e,r=>by
   obtain⟨v,vs,rfl,r1,r2⟩:=rla_cons.mp r;unfold CA at e;cases h:CA xs with
   | none=>rw[h]at e;cases e
   | some cs=>
     rw[h]at e;cases e;rw[rl_int.mp r1,CJ h r2];rfl
 | .non::_,_,_,e,_=>by cases e
 | .bl _::_,_,_,e,_=>by cases e
 | .str _::_,_,_,e,_=>by cases e
 | .tup _::_,_,_,e,_=>by cases e
 | .loc _::_,_,_,e,_=>by cases e
 | .ro _::_,_,_,e,_=>by cases e
 | .ty _::_,_,_,e,_=>by cases e
theorem A8{x:SV}{v:V}{xs:List SV}(ok:Ok K as H S)(r:Rl K as H v x)(n:x ≠ .tup xs)(h:seqS x S=some xs):∃ a vs,v = .ref a/\SqL K H a vs/\RlAll K as H vs xs:=by
 cases x with
 | tup ys=>cases h;exact absurd rfl n
 | ro ys=>
   cases h;obtain⟨p,vs,rfl,hp,rr⟩:=rl_ro.mp r;exact⟨p,vs,rfl,hp.sq,rr⟩
 | loc k=>
   obtain⟨a,ea,rfl⟩:=rl_loc.mp r;unfold seqS at h;cases hs:S[k]? with
   | none=>simp only[hs]at h;cases h
   | some o=>
     cases o with
     | lst ys=>
       simp only[hs]at h;cases h;obtain⟨vs,h1,rr⟩:=ok.obj k _ a hs ea;exact⟨a,vs,rfl,SqL.of h1,rr⟩
     | iset _=>simp only[hs]at h;cases h
     | dtp _=>simp only[hs]at h;cases h
     | dct _=>simp only[hs]at h;cases h
     | dcf _ _ _=>simp only[hs]at h;cases h
 | _=>cases h
theorem Ch{vs:List V}{x:SV}(r:RlAll K as H vs [x]):∃ v,vs=[v]/\Rl K as H v x:=by
 obtain⟨v,t,rfl,r1,r2⟩:=rla_cons.mp r;rw[rla_nil.mp r2];exact⟨v,rfl,r1⟩
theorem JL{vs:List V}{x y:SV}(r:RlAll K as H vs [x,y]):∃ v u,vs=[v,u]/\Rl K as H v x/\Rl K as H u y:=by
 obtain⟨v,t,rfl,r1,r2⟩:=rla_cons.mp r;obtain⟨u,rfl,r3⟩:=Ch r2;exact⟨v,u,rfl,r1,r3⟩
end
theorem LH{K:U1}{as:List XU}{H:Hp}{S:Sto}{Q:VK}{x:SV}{v:V}{ys:List SV}(ok:Ok K as H S)(r1:Rl K as H v x)(h1:seqS x S=some ys)(h2:Post K as H Q (.tup ys) S):∃ p us,v = .ref p/\((SqL K H p us/\∀ l,H l=none->Q (.ref l) (upd H l (.tup us)))\/(SqT K H p us/\Q (.ref p) H)):=by
 cases x with
 | tup zs=>
   cases h1;obtain⟨p,us,rfl,hp,rr⟩:=rl_tup.mp r1;exact⟨p,us,rfl,.inr ⟨SqT.of hp,h2.here ok r1⟩⟩
 | loc k=>
   obtain⟨a,us,rfl,hq,rr⟩:=A8 ok r1 (by intro z;cases z) h1;exact⟨a,us,rfl,.inl ⟨hq,BY ok rr h2⟩⟩
 | ro k=>
   obtain⟨a,us,rfl,hq,rr⟩:=A8 ok r1 (by intro z;cases z) h1;exact⟨a,us,rfl,.inl ⟨hq,BY ok rr h2⟩⟩
 | _=>cases h1
section
variable{K:U1}{as:List XU}{H:Hp}{S:Sto}
theorem PD{x:SV}{v:V}{a:TyN}(ok:Ok K as H S)(r:Rl K as H v x)(h:tyS x S=some a):TyOf K H v (.type a.nm):=by
 cases x with
 | non=>cases h;rw[rl_non.mp r];exact .non
 | bl b=>cases h;rw[rl_bl.mp r];exact .bl b
 | int b=>cases h;rw[rl_int.mp r];exact .int b
 | str b=>cases h;rw[rl_str.mp r];exact .str b
 | tup xs=>cases h;obtain⟨p,vs,rfl,hp,_⟩:=rl_tup.mp r;exact .tup hp
 | loc k=>
   obtain⟨b,eb,rfl⟩:=rl_loc.mp r;unfold tyS at h;cases hs:S[k]? with
   | none=>simp only[hs]at h;cases h
   | some o=>
     cases o with
     | lst ys=>
       simp only[hs]at h;cases h;obtain⟨vs,h1,_⟩:=ok.obj k _ b hs eb;exact .lst h1
     | iset _=>simp only[hs]at h;cases h
     | dtp _=>simp only[hs]at h;cases h
     | dct _=>simp only[hs]at h;cases h
     | dcf _ _ _=>simp only[hs]at h;cases h
 | _=>cases h
noncomputable def ktn(t c:String):Option Bool:=if (Value.type t == Value.type c)=true then some true else if PySem.W.kitMeta c=true then (fastBuiltinMro t).map (·.contains (.type c)) else none
theorem Hn{K:U1}(a:TyN)(t:TyN)(ht:t ≠ .none):PySem.W.kitOne K (.type a.nm) (.type t.nm)=some (E9 a t):=by
 have e:PySem.W.kitOne K (.type a.nm) (.type t.nm)=ktn a.nm t.nm:=rfl;rw[e];cases a<;>cases t<;>first | exact absurd rfl ht | decide +kernel
theorem Ho{K:U1}(a:TyN):∀(bs:List TyN),TyN.none∉bs->PySem.W.kitAny K (.type a.nm) ((bs.map TyN.nm).map Value.type)=some (bs.any (E9 a))
 | [],_=>rfl
 | b::bs,h=>by
   rw[UT,UT,PySem.W.kitAny,Hn a b (λz=>h (by rw[z];simp)),VB];cases E9 a b with
   | true=>rfl
   | false=>exact Ho a bs (λz=>h (UE _ z))
theorem LJ:∀{xs:List SV} {bs:List TyN} {vs:List V},JK xs=some bs->RlAll K as H vs xs->vs=(bs.map TyN.nm).map V.ty
 | [],_,_,e,r=>by cases e;exact rla_nil.mp r
 | .ty b::xs,_,_,e,r=>by
   obtain⟨v,vs,rfl,r1,r2⟩:=rla_cons.mp r;unfold JK at e;cases h:JK xs with
   | none=>rw[h]at e;cases e
   | some cs=>
     rw[h]at e;cases e;rw[rl_ty.mp r1,LJ h r2];rfl
 | .non::_,_,_,e,_=>by cases e
 | .bl _::_,_,_,e,_=>by cases e
 | .str _::_,_,_,e,_=>by cases e
 | .tup _::_,_,_,e,_=>by cases e
 | .loc _::_,_,_,e,_=>by cases e
 | .ro _::_,_,_,e,_=>by cases e
 | .int _::_,_,_,e,_=>by cases e
theorem EA{n:Nat}(ih:∀{x:SV} {d:PyData} {v:V},y0 n S x=some d->Rl K as H v x->Dat H v d):∀{xs:List SV} {ds:List PyData} {vs:List V},xs.mapM (y0 n S)=some ds->RlAll K as H vs xs->DatAll H vs ds
 | [],_,_,e,r=>by
   rw[List.mapM_nil]at e;cases e;rw[rla_nil.mp r];unfold DatAll;trivial
 | x::xs,_,_,e,r=>by
   obtain⟨v,vs,rfl,r1,r2⟩:=rla_cons.mp r;rw[Vx]at e;cases h1:y0 n S x with
   | none=>rw[h1]at e;cases e
   | some d=>
     rw[h1]at e;cases h2:xs.mapM (y0 n S) with
     | none=>rw[h2]at e;cases e
     | some ds=>
       rw[h2]at e;cases e;unfold DatAll;exact⟨ih h1 r1,EA ih h2 r2⟩
theorem Qb(ok:Ok K as H S):∀(n:Nat) {x:SV} {d:PyData} {v:V},y0 n S x=some d->Rl K as H v x->Dat H v d:=by
 intro n
 induction n with
 | zero=>
   intro x d v e r;cases x with
   | non=>cases e;rw[rl_non.mp r];unfold Dat;rfl
   | bl b=>cases e;rw[rl_bl.mp r];unfold Dat;rfl
   | int b=>cases e;rw[rl_int.mp r];unfold Dat;rfl
   | str b=>cases e;rw[rl_str.mp r];unfold Dat;rfl
   | _=>unfold y0 at e;cases e
 | succ n ih=>
   intro x d v e r;cases x with
   | non=>cases e;rw[rl_non.mp r];unfold Dat;rfl
   | bl b=>cases e;rw[rl_bl.mp r];unfold Dat;rfl
   | int b=>cases e;rw[rl_int.mp r];unfold Dat;rfl
   | str b=>cases e;rw[rl_str.mp r];unfold Dat;rfl
   | tup xs=>
     unfold y0 at e;cases h:xs.mapM (y0 n S) with
     | none=>rw[h]at e;cases e
     | some ds=>
       rw[h]at e;cases e;obtain⟨p,vs,rfl,hp,rr⟩:=rl_tup.mp r;unfold Dat;exact⟨p,vs,rfl,hp,EA ih h rr⟩
   | loc k=>
     unfold y0 at e;cases hs:S[k]? with
     | none=>simp only[hs]at e;cases e
     | some o=>
       cases o with
       | lst ys=>
         simp only[hs]at e;cases h:ys.mapM (y0 n S) with
         | none=>rw[h]at e;cases e
         | some ds=>
           rw[h]at e;cases e;obtain⟨a,vs,rfl,_,ha,rr⟩:=l8 ok r hs;unfold Dat;exact⟨a,vs,rfl,ha,EA ih h rr⟩
       | iset _=>simp only[hs]at e;cases e
       | dtp _=>simp only[hs]at e;cases e
       | dct _=>simp only[hs]at e;cases e
       | dcf _ _ _=>simp only[hs]at e;cases e
   | _=>unfold y0 at e;cases e
end
noncomputable def rBi(K:U1):BI->List V->Hp->VK->Prop
 | .len=>λxs H Q=>∃ p ys,xs=[.ref p]/\(SqL K H p ys\/SqT K H p ys)/\Q (.int ys.length) H
 | .abs=>λxs H Q=>∃ i,xs=[.int i]/\Q (.int (if i<0 then -i else i)) H
 | .min=>λxs H Q=>∃ i j,xs=[.int i,.int j]/\Q (.int (if j<i then j else i)) H
 | .max=>λxs H Q=>∃ i j,xs=[.int i,.int j]/\Q (.int (if j>i then j else i)) H
 | .int=>λxs H Q=>(∃ i,xs=[.int i]/\Q (.int i) H)\/∃ k,xs=[.bl k]/\Q (.int (if k then 1 else 0)) H
 | .list=>λxs H Q=>∃ p ys,xs=[.ref p]/\(SqL K H p ys\/SqT K H p ys)/\∀ l,H l=none->Q (.ref l) (upd H l (.lst ys))
 | .tuple=>λxs H Q=>∃ p ys,xs=[.ref p]/\((SqL K H p ys/\∀ l,H l=none->Q (.ref l) (upd H l (.tup ys)))\/(SqT K H p ys/\Q (.ref p) H))
 | .all=>λxs H Q=>∃(a:XU) (bs:List Bool),xs=[.ref a]/\SqL K H a (bs.map V.bl)/\Q (.bl (bs.all id)) H
 | .any=>λxs H Q=>∃(a:XU) (bs:List Bool),xs=[.ref a]/\SqL K H a (bs.map V.bl)/\Q (.bl (bs.any id)) H
 | .sorted=>λ_ _ _=>False
 | .isi=>λxs H Q=>(∃ x T t b,xs=[x,.ty T]/\TyOf K H x t/\PySem.W.kitOne K t (.type T)=some b/\Q (.bl b) H)\/(∃(x:V) (p:XU) (Ts:List String) (t:XR) (b:Bool),xs=[x,.ref p]/\H p=some (.tup (Ts.map V.ty))/\TyOf K H x t/\PySem.W.kitAny K t (Ts.map Value.type)=some b/\Q (.bl b) H)
 | .str=>λ_ _ _=>False
 | .repr=>λxs H Q=>∃ x d,xs=[x]/\Dat H x d/\Fit d/\Q (.str d.shown) H
theorem Qc{K:U1}:∀{b:BI},SR K (sBi b) (rBi K b)
 | .len=>λas H S xs vs Q ok r h=>by
   replace h:=Cg h;obtain⟨x,rfl,ys,h1,h2⟩:=h;obtain⟨v,rfl,r1⟩:=Ch r;obtain⟨a,us,rfl,hq,rr⟩:=Bq ok r1 h1;exact⟨a,us,rfl,hq,by rw[rr.length];exact h2.here ok (rl_int.mpr rfl)⟩
 | .abs=>λas H S xs vs Q ok r h=>by
   replace h:=Cg h;obtain⟨x,rfl,h⟩:=h;replace h:=CB h;obtain⟨i,rfl,h⟩:=h;obtain⟨v,rfl,r1⟩:=Ch r;exact⟨_,by rw[rl_int.mp r1],Post.here h ok (rl_int.mpr rfl)⟩
 | .min=>λas H S xs vs Q ok r h=>by
   replace h:=LG h;obtain⟨x,y,rfl,h⟩:=h;replace h:=CB h;obtain⟨i,rfl,h⟩:=h;replace h:=CB h;obtain⟨j,rfl,h⟩:=h;obtain⟨v,u,rfl,r1,r2⟩:=JL r;exact⟨_,_,by rw[rl_int.mp r1,rl_int.mp r2],Post.here h ok (rl_int.mpr rfl)⟩
 | .max=>λas H S xs vs Q ok r h=>by
   replace h:=LG h;obtain⟨x,y,rfl,h⟩:=h;replace h:=CB h;obtain⟨i,rfl,h⟩:=h;replace h:=CB h;obtain⟨j,rfl,h⟩:=h;obtain⟨v,u,rfl,r1,r2⟩:=JL r;exact⟨_,_,by rw[rl_int.mp r1,rl_int.mp r2],Post.here h ok (rl_int.mpr rfl)⟩
 | .int=>λas H S xs vs Q ok r h=>by
   replace h:=Cg h;obtain⟨x,rfl,h⟩:=h;obtain⟨v,rfl,r1⟩:=Ch r;replace h:=P9 h;rcases h with⟨k,rfl,h⟩ | ⟨b,rfl,h⟩
   ·exact .inl ⟨_,by rw[rl_int.mp r1],Post.here h ok (rl_int.mpr rfl)⟩
   ·exact .inr ⟨_,by rw[rl_bl.mp r1],Post.here h ok (rl_int.mpr rfl)⟩
 | .list=>λas H S xs vs Q ok r h=>by
   replace h:=Cg h;obtain⟨x,rfl,ys,h1,h2⟩:=h;obtain⟨v,rfl,r1⟩:=Ch r;obtain⟨a,us,rfl,hq,rr⟩:=Bq ok r1 h1;exact⟨a,us,rfl,hq,w9 ok rr h2⟩
 | .tuple=>λas H S xs vs Q ok r h=>by
   replace h:=Cg h;obtain⟨x,rfl,ys,h1,h2⟩:=h;obtain⟨v,rfl,r1⟩:=Ch r;obtain⟨p,us,rfl,z⟩:=LH ok r1 h1 h2;exact⟨p,us,rfl,z⟩
 | .all=>λas H S xs vs Q ok r h=>by
   replace h:=Cg h;obtain⟨x,rfl,ys,bs,h0,h1,h2,h3⟩:=h;obtain⟨v,rfl,r1⟩:=Ch r;obtain⟨a,us,rfl,hq,rr⟩:=A8 ok r1 h0 h1;rw[GS h2 rr]at hq;exact⟨a,bs,rfl,hq,h3.here ok (rl_bl.mpr rfl)⟩
 | .any=>λas H S xs vs Q ok r h=>by
   replace h:=Cg h;obtain⟨x,rfl,ys,bs,h0,h1,h2,h3⟩:=h;obtain⟨v,rfl,r1⟩:=Ch r;obtain⟨a,us,rfl,hq,rr⟩:=A8 ok r1 h0 h1;rw[GS h2 rr]at hq;exact⟨a,bs,rfl,hq,h3.here ok (rl_bl.mpr rfl)⟩
 | .sorted=>λ_ _ _ _ _ _ _ _ h=>False.elim h
 | .isi=>λas H S xs vs Q ok r h=>by
   replace h:=LG h;obtain⟨x,y,rfl,h⟩:=h;obtain⟨v,u,rfl,r1,r2⟩:=JL r;replace h:=PB h;rcases h with⟨t,a,rfl,h0,h1,h2⟩ | ⟨ts,a,bs,rfl,h0,h1,h2,h3⟩
   ·rw[rl_ty.mp r2];exact .inl ⟨v,_,_,_,rfl,PD ok r1 h1,Hn _ _ h0,h2.here ok (rl_bl.mpr rfl)⟩
   ·obtain⟨p,vs,rfl,hp,rr⟩:=rl_tup.mp r2;rw[LJ h2 rr]at hp;exact .inr ⟨v,p,_,_,_,rfl,hp,PD ok r1 h1,Ho _ _ h0,h3.here ok (rl_bl.mpr rfl)⟩
 | .str=>λ_ _ _ _ _ _ _ _ h=>False.elim h
 | .repr=>λas H S xs vs Q ok r h=>by
   replace h:=Cg h;obtain⟨x,rfl,d,h1,h2,h3⟩:=h;obtain⟨v,rfl,r1⟩:=Ch r;exact⟨v,d,rfl,Qb ok 20 h1 r1,h2,h3.here ok (rl_str.mpr rfl)⟩
inductive MT where
 | append | extend | insert
 deriving DecidableEq
noncomputable def MT.name:MT->Str
 | .append=>"append" | .extend=>"extend" | .insert=>"insert"
noncomputable def oL(f:Nat->Sto->QE->Prop):S1:=λx S Q=>match x with | .loc k=>f k S Q | _=>False
theorem F2{f:Nat->Sto->QE->Prop}{x:SV}{S:Sto}{Q:QE}(h:oL f x S Q):∃ k,x = .loc k/\f k S Q:=match x,h with | .loc k,h=>⟨k,rfl,h⟩
noncomputable def Na(x:SV):S1:=λy S Q=>oL (λk S Q=>∃ xs,S[k]?=some (.lst xs)/\xs.length<big/\Q .non (S.set k (.lst (xs++[y])))) x S Q
noncomputable def Nb(x:SV):S1:=λy S Q=>oL (λk S Q=>oL (λl S Q=>∃ xs ys,S[k]?=some (.lst xs)/\S[l]?=some (.lst ys)/\xs.length+ys.length<=big/\Q .non (S.set k (.lst (xs++ys)))) y S Q) x S Q
noncomputable def Nc(x:SV):S2:=λz y S Q=>oL (λk S Q=>oI (λi S Q=>∃ xs,S[k]?=some (.lst xs)/\(0<=i/\i<=xs.length)/\xs.length<big/\Q .non (S.set k (.lst (xs.take i.toNat++y::xs.drop i.toNat)))) z S Q) x S Q
noncomputable def sMt:MT->SV->Sn
 | .append,x=>a1 (Na x)
 | .extend,x=>a1 (Nb x)
 | .insert,x=>a2 (Nc x)
theorem EB:∀{m:MT} {x:SV},MonoN (sMt m x)
 | .append,x=>w6 λy S P P' i h=>by
   replace h:=F2 h;obtain⟨k,rfl,a,c,d,e⟩:=h;exact⟨a,c,d,i _ _ e⟩
 | .extend,x=>w6 λy S P P' i h=>by
   replace h:=F2 h;obtain⟨k,rfl,h⟩:=h;replace h:=F2 h;obtain⟨l,rfl,a,c,d,e,f,g⟩:=h;exact⟨a,c,d,e,f,i _ _ g⟩
 | .insert,x=>CI λz y S P P' i h=>by
   replace h:=F2 h;obtain⟨k,rfl,h⟩:=h;replace h:=CB h;obtain⟨j,rfl,a,c,d,e,f⟩:=h;exact⟨a,c,d,e,i _ _ f⟩
noncomputable def rMt:MT->V->List V->Hp->VK->Prop
 | .append=>Hd
 | .extend=>He
 | .insert=>Hf
section
variable{K:U1}{as:List XU}{H:Hp}{S:Sto}
theorem BL{Q:VK}{k:Nat}{a:XU}{xs ys:List SV}{us:List V}{x:SV}{v:V}(ok:Ok K as H S)(e:S[k]?=some (.lst xs))(ea:as[k]?=some a)(r:RlAll K as H us ys)(h:Post K as H Q x (S.set k (.lst ys)))(rx:Rl K as H v x):Q v (upd H a (.lst us)):=by
 obtain⟨ok',ku⟩:=ok.write e ea r;exact h as _ v (Go.write (UC ea)) ok' (Rl.mono (UW _) ku x v rx)
theorem LK:∀{m:MT} {Q:VK} {x:SV} {v:V} {xs:List SV} {vs:List V} (ok:Ok K as H S) (rx:Rl K as H v x) (r:RlAll K as H vs xs) (h:sMt m x xs S (Post K as H Q)),rMt m v vs H Q
 | .append,Q,x,v,xs,vs,ok,rx,r,h=>by
   replace h:=Cg h;obtain⟨y,rfl,h⟩:=h;replace h:=F2 h;obtain⟨k,rfl,ys,h1,h2,h3⟩:=h;obtain⟨a,us,rfl,ea,ha,ra⟩:=l8 ok rx h1;obtain⟨u,rfl,ru⟩:=Ch r;exact⟨a,us,u,rfl,rfl,ha,by rw[ra.length];exact Cf h2,BL ok h1 ea (ra.append (.cons ru .nil)) h3 (rl_non.mpr rfl)⟩
 | .extend,Q,x,v,xs,vs,ok,rx,r,h=>by
   replace h:=Cg h;obtain⟨y,rfl,h⟩:=h;replace h:=F2 h;obtain⟨k,rfl,h⟩:=h;replace h:=F2 h;obtain⟨l,rfl,ys,zs,h1,h2,h3,h4⟩:=h;obtain⟨a,us,rfl,ea,ha,ra⟩:=l8 ok rx h1;obtain⟨u,rfl,ru⟩:=Ch r;obtain⟨b,ws,rfl,eb,hb,rb⟩:=l8 ok ru h2;exact⟨a,b,us,ws,rfl,rfl,ha,hb,by rw[ra.length,rb.length];exact Aa h3,BL ok h1 ea (ra.append rb) h4 (rl_non.mpr rfl)⟩
 | .insert,Q,x,v,xs,vs,ok,rx,r,h=>by
   replace h:=LG h;obtain⟨z,y,rfl,h⟩:=h;replace h:=F2 h;obtain⟨k,rfl,h⟩:=h;replace h:=CB h;obtain⟨i,rfl,ys,h1,h2,h3,h4⟩:=h;obtain⟨a,us,rfl,ea,ha,ra⟩:=l8 ok rx h1;obtain⟨u,w,rfl,ru,rw'⟩:=JL r;rw[rl_int.mp ru];exact⟨a,us,i,w,rfl,rfl,ha,h2.1,by rw[ra.length];exact h2.2,by rw[ra.length];exact Cf h3,BL ok h1 ea (ra.ins rw' _) h4 (rl_non.mpr rfl)⟩
end
end Rf
namespace L2
open PySem PySem.Spec PyProof.Rows
section
variable{X:Cx}{pq:List (XU×Obj)}{σ:St}{H:Hp}{s:XS}{a:XU}{u u':HO}
theorem Inv.retag(I:Inv X pq σ H s)(hu:H a=some u)(h1:∀ xs,u ≠ .tup xs)(h2:∀ y,u ≠ .own y)(h3:∀ ps,u ≠ .tbl ps)(h4:∀ o xs,u ≠ .frz o (.lst xs))(new:ObjOk X.prog X.w (upd H a u') s.heap a u'):Inv X pq σ (upd H a u') s:=by
 have ne:∀ b,H b=none->b≠a:=λb n z=>by rw[z,hu]at n;cases n
 refine⟨I.ok,I.os,I.bare,⟨I.base.keep,I.base.slot,λb o e n hx=>?_,I.base.there,λb xs e=>?_,λb o w e=>?_,λb ps e=>?_⟩,I.loc,I.cell,?_,λx c e=>?_,λp hp=>?_,λb o e=>?_,I.len⟩
 ·have q:=I.base.free b o e n hx;rw[e8 (ne b q)];exact q
 ·have q:=I.base.tups b xs e;by_cases hb:b=a
  ·rw[hb,hu]at q;exact absurd (oj q) (h1 xs)
  ·rw[e8 hb];exact q
 ·have q:=I.base.frzs b o w e;by_cases hb:b=a
  ·rw[hb,hu]at q;exact absurd (oj q) (h4 o w)
  ·rw[e8 hb];exact q
 ·obtain⟨m,q⟩:=I.base.tbls b ps e;by_cases hb:b=a
  ·rw[hb,hu]at q;exact absurd (oj q) (h3 _)
  ·exact⟨m,by rw[e8 hb];exact q⟩
 ·rw[e8 (ne _ I.free)];exact I.free
 ·rw[e8 (ne _ (I.freeC x c e))];exact I.freeC x c e
 ·obtain⟨p1,p2,p3⟩:=I.pin p hp;exact⟨p1,by rw[e8 (ne _ p2)];exact p2,p3⟩
 ·by_cases hb:b=a
  ·subst hb;rw[g8]at e;cases e;exact new
  ·rw[e8 hb]at e;refine(I.hok b o e).stay (λ_ _ _ q=>q) (λc q=>?_) (λc xs q=>?_)
   ·by_cases hc:c=a
    ·rw[hc,hu]at q;exact absurd (oj q) (h2 _)
    ·rw[e8 hc];exact q
   ·by_cases hc:c=a
    ·rw[hc,hu]at q;exact absurd (oj q) (h1 _)
    ·rw[e8 hc];exact q
theorem Inv.freeze{ks:List (Key×V)}{o:Obj}(I:Inv X pq σ H s)(hu:H a=some (.dK ks))(ho:s.heap.get? a=some o):Inv X pq σ (upd H a (.frz o (.dK ks))) s:=
 I.retag hu nofun nofun nofun (λ_ _ z=>by cases z) ⟨ho,I.hok a _ hu⟩
theorem Inv.melt{ks:List (Key×V)}{o:Obj}(I:Inv X pq σ H s)(hu:H a=some (.frz o (.dK ks))):Inv X pq σ (upd H a (.dK ks)) s:=
 I.retag hu nofun nofun nofun (λo' xs z=>by injection z with z1 z2;cases z2) (show ObjOk X.prog X.w H s.heap a (.frz o (.dK ks)) from I.hok a _ hu).2
end
theorem SZ{P:XZ}{w:Xd}{k:Key}{u:XR}(h:(j3 P w).is k u=true):RelV (kV k) u:=by
 rw[Fy]at h;cases k with
 | inl i=>cases u<;>first | (cases h;done) | (simp[BS,Value.isInt]at h;subst h;exact⟨_,rfl⟩)
 | inr x=>cases u<;>first | (cases h;done) | (simp[BS,Value.isStrOf]at h;subst h;exact⟨_,rfl⟩)
theorem LL{P:XZ}{w:Xd}{H:Hp}{h:Heap}{d:XU}{o:Obj}{ks:List (Key×V)}{es0:Array ZJ}{ep:Nat}(hd:o.data = .dict es0 ep)(ok:HOk P w H h)(e:H d=some (.frz o (.dK ks))):∃ vs,KV ks vs/\h.DictAt (j3 P w) d vs ep:=by
 obtain⟨ho,_,_,vs,kv,o',es,ep',ho',ex,dat,keys,prs,nd⟩:=(show ObjOk P w H h d (.frz o (.dK ks)) from ok d _ e)
 rw[ho]at ho';cases ho';rw[hd]at dat;cases dat;exact⟨vs,kv,o,_,ho,ex,hd,keys,prs,nd⟩
section
variable{X:Cx}{tg:Expr}
noncomputable def To(H H':Hp):Prop:=∃ a o ks,H a=some (.frz o (.dK ks))/\H'=upd H a (.dK ks)
noncomputable def LM(td ty tv:TE):TS:=λD σ H=>tv σ H λv H1=>td σ H1 λx H2=>ty σ H2 λy H3=>∃ a H3' H4,x = .ref a/\(H3'=H3\/To H3 H3')/\SF H3' a y v H4/\D.nx σ H4
theorem LN{o i value:Expr}{pos pos':Pos}{td ty tv:TE}(hu:X.A.units+1<cLine)(ho:PE X o td)(hi:PE X i ty)(hv:PE X value tv)(hs:Y6 value (some (.Subscript o i pos')) pos.line X.env=pure false):
 PS X (.Assign [.Subscript o i pos'] value pos) (LM td ty tv):=by
 intro pq s σ H D I h;refine wpAny_Assign_Subscript (thn (hv pq s σ H _ I h) λr s1 ⟨v,H1,I1,rv,q1⟩=>thn (ho pq s1 σ H1 _ I1 q1) λu s2 ⟨x,H2,I2,rx,q2⟩=>thn (hi pq s2 σ H2 _ I2 q2) λiv s3 ⟨y,H3,I3,ry,a,H3',H4,ex,m,g,q3⟩=>?_) hs;subst ex;obtain rfl:u=Value.ref a:=rx
 have I3':Inv X pq σ H3' s3:=by
  rcases m with rfl | ⟨b,o',ks,e1,rfl⟩
  ·exact I3
  ·exact I3.melt e1
 exact J6 hu I3' g ry rv λs4 I4=>⟨σ,H4,I4,q3⟩
end
section
variable{prog:XZ}{w:Xd}{A:Xg}{R:Result->XS->Prop}{I:XU}{fp wr:List XU}{n:Nat}{P:Nat->XR->Prop}{St:Nat->Heap->Prop}
structure CmpIn(prog:XZ)(w:Xd)(A:Xg)(wr:List XU)(S:XU)(P:Nat->XR->Prop)(bt:Nat->Nat->Bool)(G:Heap->Prop):Prop where
 keep:∀ h h',G h->(∀ b o,b∉wr->b≠S->h.get? b=some o->h'.get? b=some o)->G h'
 cmp:∀(s:XS),G s.heap->∀(i j:Nat) (vi vj:XR) (Q:XR->XS->Prop) (E:XR->XS->Prop),P i vi->P j vj->Q (.bool (bt i j)) s->XW (XX prog w) A (Ya .Lt vi vj) Q E s
theorem EC{kw:List (Str×XR)}(W:Walks prog w A.in1 I fp wr n P St){bt:Nat->Nat->Bool}{S:XU}{G:Heap->Prop}(C:CmpIn prog w A.in1 wr S P bt G)(hSf:S∉fp)(k:Nat):
 ∀(j:Nat) (s:XS) (vb:XR) (c:Nat),n=j+1+k->St (j+1) s.heap->G s.heap->P (argBest bt j) vb->
 s.heap.get? S=some {cls := .type "list",dict:=none,data := .seq #[vb,vb] c,slots:=#[]}->
 (∀ v h' tk,P (argBest bt (n - 1)) v->(∀ b o,b∉wr->b≠S->s.heap.get? b=some o->h'.get? b=some o)->R (.ok (.ret v)) {s with heap:=h',toks:=tk})->
 codeAny (XX prog w) A (.builtin "min.loop" ⟨[.ref I,.none,.ref S],kw⟩) R s:=by
 have hSw:S∉wr:=λz=>hSf (W.sub _ z);have nm:(toString "min"++toString ".loop":String)="min.loop":=by decide
 induction k with
 | zero=>
   intro j s vb c hk hst hG hPb hS hR;refine Xp F.entry_min_loop ?_;rw[Around.under_plainId F.plain_min_loop _];refine XQ (m:=Z3 (.ref S)) (Xm hS rfl ?_);have hst':St n s.heap:=by rw[hk];exact hst
   refine XQ (m:=tryCatch (pyNext (.ref I)) _) (YN (W.done s _ _ hst' λh1 tk k1=>?_));have hS1:=k1 S _ hSw hS;refine XQ (m:=ZN S (λ_=>#[])) (YG hS1 rfl (XQ (YK (XT ?_))));exact hR vb _ tk (by rw[hk];exact hPb) λb o hb hn e=>(Ue _ _ (Ne.symm hn)).trans (k1 b o hb e)
 | succ k ih=>
   intro j s vb c hk hst hG hPb hS hR;refine Xp F.entry_min_loop ?_;rw[Around.under_plainId F.plain_min_loop _];refine XQ (m:=Z3 (.ref S)) (Xm hS rfl ?_);refine XQ (m:=tryCatch (pyNext (.ref I)) _) (YN (W.item (j+1) s _ _ (by omega) hst λv h1 tk hP st1 k1=>?_));have hS1:=k1 S _ hSw hS;have hG1:=C.keep _ _ hG λb o hb _ e=>k1 b o hb e;refine XQ (m:=tryCatch (holding [v,v] (Ya .Lt v vb >>= _)) _) (YN (Xn (XQ (C.cmp _ hG1 (j+1) (argBest bt j) v vb _ _ hP hPb ?_))));refine XQ (Xn (Xi (XQ (YK (XT ?_)))));cases hb:bt (j+1) (argBest bt j) with
   | true=>
     simp only[if_true];refine XQ (YG hS1 rfl (XQ (YK ?_)));rw[nm];have up:∀ b o,b≠S->h1.get? b=some o->(XN h1 S (Obj.mapSeq λ_=>#[v,v])).get? b=some o:=λb o hn e=>(Ue _ _ (Ne.symm hn)).trans e;refine XT ⟨Xw F.plain_min_loop _,ih (j+1) _ v _ (by omega) (W.frame _ _ _ st1 λb hbf o e=>up b o (λz=>hSf (z▸hbf)) e) (C.keep _ _ hG1 λb o _ hn e=>up b o hn e) ?_ (Ub _ hS1 rfl) λv' h2 tk2 hP' k2=>?_⟩
     ·simp only[argBest,hb,if_true];exact hP
     ·exact hR v' h2 tk2 hP' λb o hbw hn e=>k2 b o hbw hn (up b o hn (k1 b o hbw e))
   | false=>
     simp only[Vi,if_false];refine XQ (YK ?_);rw[nm];refine XT ⟨Xw F.plain_min_loop _,ih (j+1) _ vb c (by omega) st1 hG1 ?_ hS1 λv' h2 tk2 hP' k2=>?_⟩
     ·simp only[argBest,hb,Vi,if_false];exact hPb
     ·exact hR v' h2 tk2 hP' λb o hbw hn e=>k2 b o hbw hn (k1 b o hbw e)
theorem DM{d:XR}(W:Walks prog w A.in1 I fp wr n P St){bt:Nat->Nat->Bool}{S:XU}{G:Heap->Prop}(C:CmpIn prog w A.in1 wr S P bt G)(hSf:S∉fp){s:XS}{c:Nat}(hst:St 0 s.heap)(hG:G s.heap)
 (hS:s.heap.get? S=some {cls := .type "list",dict:=none,data := .seq #[] c,slots:=#[]})
 (h0:n=0->∀ h' tk,(∀ b o,b∉wr->b≠S->s.heap.get? b=some o->h'.get? b=some o)->R (.ok (.ret d)) {s with heap:=h',toks:=tk})
 (hR:0<n->∀ v h' tk,P (argBest bt (n - 1)) v->(∀ b o,b∉wr->b≠S->s.heap.get? b=some o->h'.get? b=some o)->R (.ok (.ret v)) {s with heap:=h',toks:=tk}):
 codeAny (XX prog w) A (.builtin "min.loop" ⟨[.ref I,.none,.ref S],[(Str.ofString "default",d)]⟩) R s:=by
 have hSw:S∉wr:=λz=>hSf (W.sub _ z);have nm:(toString "min"++toString ".loop":String)="min.loop":=by decide
 refine Xp F.entry_min_loop ?_;rw[Around.under_plainId F.plain_min_loop _];refine XQ (m:=Z3 (.ref S)) (Xm hS rfl ?_);by_cases hn:n=0
 ·subst hn;refine XQ (m:=tryCatch (pyNext (.ref I)) _) (YN (W.done s _ _ hst λh1 tk k1=>?_));exact XQ (Y5 (XT (h0 rfl h1 tk λb o hb _ e=>k1 b o hb e)))
 ·refine XQ (m:=tryCatch (pyNext (.ref I)) _) (YN (W.item 0 s _ _ (by omega) hst λv h1 tk hP st1 k1=>?_));have hS1:=k1 S _ hSw hS;have up:∀ b o,b≠S->h1.get? b=some o->(XN h1 S (Obj.mapSeq λ_=>#[v,v])).get? b=some o:=λb o hn e=>(Ue _ _ (Ne.symm hn)).trans e;refine XQ (m:=ZN S (λ_=>#[v,v])) (YG hS1 rfl ?_);rw[nm];refine XT ⟨Xw F.plain_min_loop _,EC W C hSf (n - 1) 0 _ v _ (by omega) (W.frame _ _ _ st1 λb hbf o e=>up b o (λz=>hSf (z▸hbf)) e) (C.keep _ _ (C.keep _ _ hG λb o hb _ e=>k1 b o hb e) λb o _ hn e=>up b o hn e) hP (Ub _ hS1 rfl) λv' h2 tk2 hP' k2=>?_⟩;exact hR (by omega) v' h2 tk2 hP' λb o hbw hn e=>k2 b o hbw hn (up b o hn (k1 b o hbw e))
end
theorem DO{a b:Int}{us:List XR}(r:Vals [V.int a,V.int b] us):IntsAre us [a,b]:=by
 cases r with
 | cons r1 r2=>
   obtain⟨t1,rfl⟩:=r1;cases r2 with
   | cons r2 r3=>
     obtain⟨t2,rfl⟩:=r2;cases r3;exact .cons _ _ (.cons _ _ .nil)
theorem ED(a v:XR):argsOk "min" ⟨[a],[(Str.ofString "default",v)]⟩:=by unfold argsOk;kernel_rfl
section
variable{prog:XZ}{w:Xd}{A:Xg}{E:XR->XS->Prop}{s:XS}
theorem EF{l:XU}{items:Array XR}{d:XR}{Q:XR->XS->Prop}(hh:A.handled=none)(hl:s.heap.IsList l items)(bt:Nat->Nat->Bool)(G:Heap->Prop)(hG:G s.heap)
 (hkeep:∀ h h',G h->(∀ b o,b<s.heap.objs.size->h.get? b=some o->h'.get? b=some o)->G h')
 (hcmp:∀(s':XS),G s'.heap->∀(i j:Nat) (vi vj:XR) (Q:XR->XS->Prop) (E:XR->XS->Prop),items[i]?=some vi->items[j]?=some vj->Q (.bool (bt i j)) s'->XW (XX prog w) A.in1 (Ya .Lt vi vj) Q E s')
 (h0:items.size=0->∀ h' tk,(∀ b o,s.heap.get? b=some o->h'.get? b=some o)->Q d {s with heap:=h',toks:=tk})
 (hR:0<items.size->∀ v h' tk,items[argBest bt (items.size - 1)]?=some v->(∀ b o,s.heap.get? b=some o->h'.get? b=some o)->Q v {s with heap:=h',toks:=tk}):
 XW (XX prog w) A (call (.builtin "min") [.ref l] [(Str.ofString "default",d)]) Q E s:=by
 have nm:(toString "min"++toString ".loop":String)="min.loop":=by decide
 have hlt:l<s.heap.objs.size:=by obtain⟨o,ho,_⟩:=hl;exact U5 ho
 refine kmb_tree F.kind_min F.plain_min F.entry_min (ED _ _) ?_;refine XQ (m:=Builtin.Builtins.bindParams "min" ["key","default"] 0 ⟨[],[(Str.ofString "default",d)]⟩) (Yx (show Builtin.Builtins.bindParams "min" ["key","default"] 0 ⟨[],[(Str.ofString "default",d)]⟩=pure [none,some d] from rfl) ?_);refine XQ (XT ?_);refine XQ (Y2 hl ?_);refine XQ (Xh ?_);rw[nm];have W:=Walks.list (prog:=prog) (w:=w) (A:=A.in1) hh s.heap.objs.size l (UF hlt) items;have k1:∀ b o,s.heap.get? b=some o->((s.heap.push {cls := .type "list_iterator",data := .fields #[.ref l,.int 0 0]}).push {cls := .type "list",data := .seq ([]:List XR).toArray}).get? b=some o:=λb o e=>U3 _ (U3 _ e);have nS:(s.heap.push {cls := .type "list_iterator",data := .fields #[.ref l,.int 0 0]}).objs.size=s.heap.objs.size+1:=by simp[Uc]
 have C:CmpIn prog w A.in1 [s.heap.objs.size] (s.heap.push {cls := .type "list_iterator",data := .fields #[.ref l,.int 0 0]}).objs.size (λi v=>items[i]?=some v) bt G:=⟨λh h' g k=>hkeep h h' g λb o hb e=>k b o (by simp;exact UF hb) (by rw[nS];exact UF (V7 hb)) e,hcmp⟩
 have old:∀(h:Heap),(∀ b o,b∉[s.heap.objs.size]->b≠(s.heap.push {cls := .type "list_iterator",data := .fields #[.ref l,.int 0 0]}).objs.size->((s.heap.push {cls := .type "list_iterator",data := .fields #[.ref l,.int 0 0]}).push {cls := .type "list",data := .seq ([]:List XR).toArray}).get? b=some o->h.get? b=some o)->∀ b o,s.heap.get? b=some o->h.get? b=some o:=λh k b o e=>k b o (by simp;exact UF (U5 e)) (by rw[nS];have:=U5 e;exact UF (V7 this)) (k1 b o e);refine XT ⟨Xw F.plain_min_loop _,DM (d:=d) W C ?_ ?_ (hkeep _ _ hG λb o _ e=>k1 b o e) (U8 _ rfl) (λhz h' tk k=>h0 hz h' tk (old h' k)) (λhz v h' tk hv k=>hR hz v h' tk hv (old h' k))⟩
 ·rw[nS];simp only[UH,Vd,or_false,not_or];exact⟨Nat.succ_ne_self _,λz=>absurd hlt (by rw[<-z];exact WG (Vc _))⟩
 ·exact⟨⟨_,U3 _ (U8 _ rfl),rfl,rfl⟩,hl.at λo e=>k1 _ _ e⟩
end
section
variable{X:Cx}
noncomputable def LO(X:Cx)(f:XR)(ks:List Str)(r:List V->List V->Hp->VK->Prop):Prop:=
 ∀(pq:List (XU×Obj)) (s:XS) (σ:St) (H:Hp) (vs zs:List V) (us ws:List XR) (Q:VK),Inv X pq σ H s->Vals vs us->Vals zs ws->r vs zs H Q->XW (XX X.prog X.w) X.A (call f us (ks.zip ws)) (EP X pq σ Q) X.xe s
noncomputable def Tp(r:List V->List V->Hp->VK->Prop)(t tk:TA):TE:=λσ H Q=>t σ H λvs H1=>tk σ H1 λzs H2=>r vs zs H2 Q
theorem JM{id:String}{ks:List Str}{r:List V->List V->Hp->VK->Prop}{x:Str}{p pos:Pos}{e:Expr}{es:List Expr}{kws:List Keyword}{t tk:TA}(hc:LO X (.builtin id) ks r)(hg:Gl X x)(hm:X.mg x=none)(hv:Xb x=some (.builtin id))(ha:PA X (e::es) t)(hkw:PK X kws tk)
 (hks:(YU pos (YB kws X.env)).filterMap (·.1)=ks:=by rfl) (hn:x≠"__name__":=by decide) (hdb:(x == ("__debug__":Str))=false:=by decide)
 (he:backTo pos (Xa (e::es) X.env)=(false,eval e X.env)::backTo pos (Xa es X.env):=by rfl) (hpl:(backTo pos (Xa (e::es) X.env)).any (·.1)=false:=by rfl)
 (hall:(YU pos (YB kws X.env)).all (·.1.isSome)=true:=by rfl) (hno:(YU pos (YB kws X.env)).any (·.1.isNone)=false:=by rfl):PE X (.Call (.Name x p) (e::es) kws pos) (Tp r t tk):=by
 intro pq s σ H Q I h;refine Xl (v7 I hg hm hv ?_ hn hdb);refine callWith_kw (thn (ha pos pq s σ H _ I h) λus s1 ⟨vs,H1,I1,r1,q1⟩=>thn (hkw pos pq s1 σ H1 _ I1 q1) λws s2 ⟨zs,H2,I2,r2,q2⟩=>?_) he hpl hall hno;rw[hks];exact hc pq s2 σ H2 vs zs us ws Q I2 r1 r2 q2
noncomputable def Nd(H:Hp)(vs:List V)(ps:List (Int×Int)):Prop:=vs.length=ps.length/\∀(i:Nat) (p:Int×Int),ps[i]?=some p->∃ q,vs[i]?=some (.ref q)/\H q=some (.tup [.int p.1,.int p.2])
noncomputable def lt2(p q:Int×Int):Bool:=HT.lexLt [p.1,p.2] [q.1,q.2]
noncomputable def Sa:List V->List V->Hp->VK->Prop:=λxs zs H Q=>∃ l vs ps,xs=[.ref l]/\zs=[.non]/\H l=some (.lst vs)/\Nd H vs ps/\(ps=[]->Q .non H)/\
 ∀(i:Nat) p q,ps[i]?=some p->vs[i]?=some (.ref q)->i=argBest (λa b=>lt2 (ps.getD a (0,0)) (ps.getD b (0,0))) (ps.length - 1)->0<ps.length->Q (.ref q) H
theorem JN(hc:X.calm=true)(hu:X.A.units+1<cLine):LO X (.builtin "min") ["default"] Sa:=by
 intro pq s σ H xs zs us ws Q I r rz h;obtain⟨l,vs,ps,rfl,rfl,hl,⟨hlen,hps⟩,q0,q1⟩:=h;obtain⟨u,rfl,ru⟩:=AB r;cases ru;obtain⟨z,rfl,rz'⟩:=AB rz;cases rz';obtain⟨its,rv,pl,hz⟩:=I.list (SqL.of hl);have hl2:=rv.length
 have tup:∀(i:Nat) (v:XR),its.toArray[i]?=some v->∃ q p,v = .ref q/\ps[i]?=some p/\vs[i]?=some (.ref q)/\H q=some (.tup [.int p.1,.int p.2])/\∃ ti:List XR,IsTup s.heap q ti.toArray/\IntsAre ti [p.1,p.2]:=λi v hv=>by
  have hv':its[i]?=some v:=by simpa using hv
  have hi:i<ps.length:=by have:=(gM hv').1;omega
  obtain⟨q,e1,e2⟩:=hps i ps[i] (by simp[hi]);obtain⟨u',eu,ru'⟩:=rv.get e1;rw[hv']at eu;cases eu;cases ru';obtain⟨ti,rt,pt,_⟩:=I.tuple (SqT.of e2);exact⟨q,ps[i],rfl,by simp[hi],e1,e2,ti,pt,DO rt⟩
 refine EF (I.ok.hd hc) pl.isList (λa b=>lt2 (ps.getD a (0,0)) (ps.getD b (0,0))) (λh=>∀(i:Nat) (v:XR),its.toArray[i]?=some v->∃ q p,v = .ref q/\q<s.heap.objs.size/\ps[i]?=some p/\∃ ti:List XR,IsTup h q ti.toArray/\IntsAre ti [p.1,p.2]) ?_ ?_ ?_ ?_ ?_
 ·intro i v hv;obtain⟨q,p,e1,e2,_,_,ti,e3,e4⟩:=tup i v hv;obtain⟨o,ho,_⟩:=e3;exact⟨q,p,e1,U5 ho,e2,ti,⟨o,ho,by assumption⟩,e4⟩
 ·intro h h' g k i v hv;obtain⟨q,p,e1,e2,e3,ti,⟨o,ho,hr⟩,e5⟩:=g i v hv;exact⟨q,p,e1,e2,e3,ti,⟨o,k q o e2 ho,hr⟩,e5⟩
 ·intro s' g i j vi vj Q' E' hi hj q;obtain⟨qi,pi,rfl,_,ei,ti,ti1,ti2⟩:=g i vi hi;obtain⟨qj,pj,rfl,_,ej,tj,tj1,tj2⟩:=g j vj hj;refine HT.lt_tupInts ti1 tj1 (by simpa using ti2) (by simpa using tj2) (show X.A.units+1<cLine from hu) ?_;have e1:ps.getD i (0,0)=pi:=by simp[VV,ei]
  have e2:ps.getD j (0,0)=pj:=by simp[VV,ej]
  rw[e1,e2]at q;exact q
 ·intro hz' h' tk k
  have:ps=[]:=by
   cases ps with
   | nil=>rfl
   | cons p r=>rw[U6]at hz';simp at hlen;omega
  exact⟨.non,H,I.kept (t':=tk) k,rfl,q0 this⟩
 ·intro hp v h' tk hv k;obtain⟨q,p,rfl,e2,e3,e4,_⟩:=tup _ v hv;have hsz:its.toArray.size=ps.length:=by rw[U6];omega
  rw[hsz]at e2 e3 hp;exact⟨.ref q,H,I.kept (t':=tk) k,rfl,q1 _ p q e2 e3 rfl hp⟩
end
section
variable{prog:XZ}{w:Xd}{κ:Type}[DecidableEq κ]{knd:HeapKind prog w κ}{A:Xg}{E:XR->XS->Prop}{s:XS}
theorem GT{d a:XU}{o:Obj}{es:Array ZJ}{ep:Nat}{xs:List (κ×XU×XR)}{k:κ}{v:XR}(hkey:knd.is s.heap k a)(ho:s.heap.get? d=some o)(hc:o.ExactDict)(hd:o.data = .dict es ep)(he:es.toList=xs.map (ZS knd))(his:∀ x∈xs,knd.is s.heap x.1 x.2.1)(hn:(xs.map (·.1)).Nodup)
 (hno:atKey xs k=none) (hnot:k∉xs.map (·.1)):(s.heap.update d (Obj.mapDictKeys (·.push ⟨knd.hash k,.ref a,v⟩))).DictOfH knd d (storedH xs k a v):=by
 have same:UY d s.heap (s.heap.update d (Obj.mapDictKeys (·.push ⟨knd.hash k,.ref a,v⟩))):=UY.update ..;rw[storedH_new hno];refine⟨_,_,ep+1,Ub _ ho (Obj.isFreed_of_dict (Obj.data_mapDictKeys hd _)),hc.mapDictKeys _,Obj.data_mapDictKeys hd _,by simp[he,ZS],λx hx=>?_,?_⟩
 ·have hx':x∈xs\/x=(k,a,v):=by simpa using hx
  rcases hx' with hx' | rfl
  ·exact knd.keeps (his x hx') ho hd same
  ·exact knd.keeps hkey ho hd same
 ·rw[UQ];exact VY.mpr ⟨hn,by simp,λx hx y hy z=>hnot (by simp at hy;subst hy;rw[<-z];exact hx)⟩
theorem LP{d a:XU}{xs:List (κ×XU×XR)}{k:κ}{v:XR}{Q:XR->XS->Prop}(hu:knd.room A)(hkey:knd.is s.heap k a)(hm:s.heap.DictOfH knd d xs)
 (h1:∀ p,atKey xs k=some p->∀ tk,Q p.2 {s with toks:=tk})
 (h2:atKey xs k=none->∀ h' tk,h'.DictOfH knd d (storedH xs k a v)->UY d s.heap h'->Q v {s with heap:=h',toks:=tk}) (hsz:xs.length<=XY):XW (XX prog w) A (Z1 d (.ref a) v) Q E s:=by
 obtain⟨o,es,ep,ho,hc,hd,he,his,hn⟩:=id hm;unfold Z1
 try with_reducible refine Xn ?_
 refine XQ (knd.pyHash hu hkey (XQ (wpAny_dictFind_heap (s:={s with toks:=s.toks+knd.draws k}) hu hkey ho hd he his hn (λhno=>?_) (λj p hj=>?_))))
 ·have e0:=atKey_none_of_get hno;refine XQ (Y5 (XQ (wpAny_updateDictKeys (hz:=by have e:=size_of_entries he;omega) (s:={s with toks:=s.toks+knd.draws k}) ho hd (XT ?_))));exact h2 e0 _ _ (GT hkey ho hc hd he his hn e0 (not_mem_keys_of_get hno)) (UY.update ..)
 ·refine XQ (wpAny_dictEntries (s:={s with toks:=s.toks+knd.draws k}) ho hd ?_);rw[entry_at he j,hj];exact XQ (Y5 (XT (h1 p (atKey_of_get hn hj) _)))
theorem Ci(d a:XU)(hd:(d == Xs)=false)(v:XR):
 MeetsIn prog w (Builtin.«dict.setdefault» ⟨[.ref d,.ref a,v],[]⟩) (λA R s=>knd.room A.in1/\∃ k xs,knd.is s.heap k a/\s.heap.DictOfH knd d xs/\xs.length<=XY/\s.TypeIs (.ref d) "dict"/\
  (∀ p,atKey xs k=some p->∀ tk,R (.ok (.ret p.2)) {s with toks:=tk})/\
  (atKey xs k=none->∀ h' tk,h'.DictOfH knd d (storedH xs k a v)->UY d s.heap h'->R (.ok (.ret v)) {s with heap:=h',toks:=tk})):=
 .of_wp λA R s ⟨hu,k,xs,hkey,hm,hz,ht,h1,h2⟩=>by
  unfold Builtin.«dict.setdefault»;refine XQ ?_;unfold Builtin.Dict.keyAndDefault;refine XQ (wpAny_notOrdered_dict ht ?_);refine XT ?_;show XW _ _ (if (d == Xs)=true then _ else (Z1 d (.ref a) v >>= _)) _ _ s;rw[hd];rw[iG UB];exact XQ (LP hu hkey hm (λp e tk=>XT ⟨p.2,rfl,h1 p e tk⟩) (λe h' tk m' b'=>XT ⟨v,rfl,h2 e h' tk m' b'⟩) hz)
end
section
variable{X:Cx}{o e f:Expr}{apos cpos:Pos}{td ty tx:TE}
noncomputable def Sb(td ty tx:TE):TE:=λσ H Q=>td σ H λx H1=>∃ a,x = .ref a/\IsD H1 a/\ty σ H1 λy H2=>tx σ H2 λz H3=>∃ kvs k b,y = .ref b/\H3 a=some (.dT kvs)/\H3 b=some (.tup (k.map kV))/\kvs.length<XY/\
 (∀ v,A7 kvs k=some v->Q v H3)/\(A7 kvs k=none->Q z (upd H3 a (.dT (AU kvs k z))))
theorem Nf(hu:X.A.units+1<cLine)(ho:PE X o td)(he:PE X e ty)(hf:PE X f tx)(m:M2 X o "setdefault" apos e f cpos):PE X (.Call (.Attribute o "setdefault" apos) [e,f] [] cpos) (Sb td ty tx):=by
 intro pq s σ H Q I h;refine wpAny_Call_method m.base m.few m.line PySem.F.plainAttrs_dict PySem.F.slot_dict_setdefault PySem.F.type_dict_setdefault (thn (ho pq s σ H _ I h) λu s1 ⟨x,H1,I1,rx,a,ex,d,q1⟩=>?_);subst ex;obtain rfl:u=Value.ref a:=rx;obtain⟨t1,t2,_⟩:=QL I1 d;refine⟨t1,t2,?_⟩;rw[m.trees]
 refine Calls.callWith_builtin rfl (Calls.evalArgs_plain (Calls.spliced_cons (thn (he pq s1 σ H1 _ I1 q1) λiv s2 ⟨y,H2,I2,ry,q2⟩=>
  Calls.spliced_cons (thn (hf pq s2 σ H2 _ I2 q2) λfv s3 ⟨z,H3,I3,rz,kvs,k,b,ey,ha,hb,hz,qs,qn⟩=>Calls.spliced_nil ?_))))
 subst ey;cases ry;obtain⟨hl,hd,xs,rel,dd⟩:=P4 I3.hok ha;have hxl:xs.length<=XY:=by rw[<-Paired.length rel];exact hl
 refine ZH PySem.F.slot_dict_setdefault dd.typeIs PySem.F.entry_dict_setdefault (PySem.F.args_dict_setdefault_3 _ _ _) (Ci (knd:=Ye (j3 X.prog X.w)) a b hd fv) ⟨YH hu,k,xs,Cd I3.hok hb,dd,hxl,dd.typeIs,λp e tk=>?_,λe h' tk dd' hs=>?_⟩
 ·have rv:=rel.val k;rw[e]at rv;cases hv:A7 kvs k with
  | none=>rw[hv]at rv;exact rv.elim
  | some v=>rw[hv]at rv;exact⟨v,H3,I3.tok tk,rv,qs v hv⟩
 ·have hv:A7 kvs k=none:=by
   have rv:=rel.val k;rw[e]at rv;cases hv:A7 kvs k with
   | none=>rfl
   | some v=>rw[hv]at rv;exact rv.elim
  refine⟨z,_,?_,rz,qn hv⟩;obtain⟨q,es,ep,hq,h2,h3,h4,_,h5⟩:=dd';have hl2:(AU kvs k z).length<=XY:=by have:=Av kvs k z;omega
  refine E6 I3 (by rw[ha];exact True.intro) hs ⟨q,hq⟩ ⟨hl2,hd,_,(rel.put k hb rz).keeps λc ys ec=>?_,q,es,ep,hq,h2,h3,h4,h5⟩;rw[e8 (K0 ec ha (λz=>nomatch z))];exact ec
end
end L2
namespace Rf
open PySem L2
mutual
inductive Tg where
 | nm (i:Nat) | tup (ts:Tgs)
inductive Tgs where
 | nil | cons (t:Tg) (ts:Tgs)
end
mutual
inductive Ex where
 | var (i:Nat) | c (x:SV) | op (o:Yf) (a b:Ex) | neg (a:Ex) | cmp (o:CmpOp) (a b:Ex) | chn (o p:CmpOp) (a b c:Ex)
 | and (a b:Ex) | or (a b:Ex) | not (a:Ex) | ife (t a b:Ex) | tup (es:Exs) | lst (es:Exs) | ix (a b:Ex) | slc (a:Ex) (lo hi:Eo)
 | call (f:Nat) (es:Exs) | bi (b:BI) (es:Exs) | mt (m:MT) (a:Ex) (es:Exs) | comp (own cn:List Str) (js:List Nat) (g:Tg) (it:Itb) (t:Eo) (e:Ex) | tyc (t:TyN) | lrng1 (a:Ex) | mind (a d:Ex) | dnewp | setd (d e v:Ex) | dvals (a:Ex) | dcopy (a:Ex) | lenset (a:Ex) | srtset (a:Ex) | setl (a:Ex) | eqt0 (a b:Ex) | dnew | din (n:Bool) (a b:Ex) | no
inductive Exs where
 | nil | cons (e:Ex) (es:Exs)
inductive Eo where
 | no | yes (e:Ex)
inductive Itb where
 | seq (e:Ex) | rng1 (a:Ex) | rng2 (a b:Ex) | enum (e:Ex) | itm (e:Ex) | zipE (a b:Ex)
end
inductive Stm where
 | asg (t:Tg) (e:Ex) | par (i j:Nat) (a b:Ex) | put (o i e:Ex) | dput (o i e:Ex) | expr (e:Ex) | iff (t:Ex) (a b:List Stm) | loop (g:Tg) (it:Itb) (b:List Stm) | whl (t:Ex) (b:List Stm)
 | ret (e:Ex) | no
noncomputable def sOp:Yf->S2
 | .Add=>GP
 | .Sub=>Ba λi j => .int (i - j)
 | .Mult=>LA
 | .FloorDiv=>GQ Rn λi j => .int (i / j)
 | .Mod=>GQ (λ_ j=>0<j) λi j => .int (i % j)
 | .Pow=>GQ Ro λi j => .int (i ^ j.toNat)
 | _=>λ_ _ _ _=>False
noncomputable def Ac:CmpOp->S2
 | .Eq=>sEq
 | .NotEq=>sNe
 | .Lt=>Ba λi j => .bl (decide (i<j))
 | .LtE=>Ba λi j => .bl (decide (i<=j))
 | .Gt=>Ba λi j => .bl (decide (j<i))
 | .GtE=>Ba λi j => .bl (decide (j<=i))
 | .In=>sIn false
 | .NotIn=>sIn true
 | .Is=>LB false
 | .IsNot=>LB true
noncomputable def LQ:S1
 | .int i,S,Q=>Q (.int (-i)) S
 | _,_,_=>False
noncomputable def Qd:SV->Sto->Option Bool
 | .bl b,_=>some b
 | .loc k,S=>match S[k]? with | some (.lst xs)=>some (!xs.isEmpty) | _=>none
 | _,_=>none
noncomputable def Qf(w:WE):WT:=λρ S Q=>w ρ S λx S'=>∃ b,Qd x S'=some b/\Q b S'
noncomputable def LR(a b:WE):WE:=λρ S Q=>a ρ S λx S1=>∃ c,x = .bl c/\if c=true then b ρ S1 Q else Q (.bl false) S1
noncomputable def wOr(a b:WE):WE:=λρ S Q=>a ρ S λx S1=>∃ c,x = .bl c/\if c=true then Q (.bl true) S1 else b ρ S1 Q
noncomputable def Ng(a:WE):WE:=λρ S Q=>a ρ S λx S1=>∃ c,x = .bl c/\Q (.bl (!c)) S1
noncomputable def Cj(a b:WT):WT:=λρ S Q=>a ρ S λc S1=>if c=true then b ρ S1 Q else Q false S1
noncomputable def GU(a b:WT):WT:=λρ S Q=>a ρ S λc S1=>if c=true then Q true S1 else b ρ S1 Q
noncomputable def Hq(a:WT):WT:=λρ S Q=>a ρ S λc S1=>Q (!c) S1
noncomputable def Nh(t:WT)(a b:WE):WE:=λρ S Q=>t ρ S λc S1=>if c=true then a ρ S1 Q else b ρ S1 Q
noncomputable def LS(s s':S2)(a b c:WE):WE:=λρ S Q=>a ρ S λx S1=>b ρ S1 λy S2=>s x y S2 λz S3=>∃ k,z = .bl k/\if k=true then c ρ S3 λu S4=>s' y u S4 Q else Q (.bl false) S3
noncomputable abbrev WO:=EnvS->Sto->(Option Int->Sto->Prop)->Prop
noncomputable def Qg:WO:=λ_ S Q=>Q none S
noncomputable def LU(w:WE):WO:=λρ S Q=>w ρ S λx S1=>∃ i,x = .int i/\Q (some i) S1
noncomputable def Ck(xs:List SV)(lo hi:Option Int):List SV:=(xs.drop (HT.sIx xs.length 0 lo)).take (HT.sIx xs.length xs.length hi - HT.sIx xs.length 0 lo)
noncomputable def LV:SV->Option Int->Option Int->Sto->QE->Prop
 | .loc k,lo,hi,S,Q=>∃ xs,S[k]?=some (.lst xs)/\Q (.loc S.length) (S++[.lst (Ck xs lo hi)])
 | .tup xs,lo,hi,S,Q=>Q (.tup (Ck xs lo hi)) S
 | _,_,_,_,_=>False
noncomputable def Qh(a:WE)(lo hi:WO):WE:=λρ S Q=>a ρ S λx S1=>lo ρ S1 λl S2=>hi ρ S2 λh S3=>LV x l h S3 Q
noncomputable abbrev WI:=EnvS->Sto->((Sto->Prop)->List SV->Sto->Prop)->Prop
noncomputable def keepS:SV->Sto->Sto->Prop
 | .loc k,S,S'=>S'[k]?=S[k]?
 | _,_,_=>True
noncomputable def PF(w:WE):WI:=λρ S R=>w ρ S λx S1=>∃ xs,seqS x S1=some xs/\R (keepS x S1) xs S1
noncomputable def Al(lo hi:Int):List SV:=(U7 (hi - lo).toNat).map λ(i:Nat) => .int (lo+i)
noncomputable def LW(w:WE):WI:=λρ S R=>w ρ S λx S1=>∃ j,x = .int j/\(-(2 ^ 62)<=j/\j<2 ^ 62)/\R (λ_=>True) (Al 0 j) S1
noncomputable def LX(w u:WE):WI:=λρ S R=>w ρ S λx S1=>u ρ S1 λy S2=>∃ i j,x = .int i/\y = .int j/\(-(2 ^ 62)<=i/\i<2 ^ 62 /\ -(2 ^ 62)<=j/\j<2 ^ 62)/\R (λ_=>True) (Al i j) S2
noncomputable def Ay(xs:List SV):List SV:=(U7 xs.length).zipWith (λ(i:Nat) x => .tup [.int i,x]) xs
noncomputable def LY(w:WE):WI:=λρ S R=>w ρ S λx S1=>∃ xs,seqS x S1=some xs/\R (keepS x S1) (Ay xs) S1
noncomputable def GV(xs ys:List SV):List SV:=xs.zipWith (λx y => .tup [x,y]) ys
noncomputable def GW(a:WE):WE:=λρ S Q=>a ρ S λx S1=>∃ j,x = .int j/\(-(2 ^ 62)<=j/\j<=100000)/\Q (.loc S1.length) (S1++[.lst (Al 0 j)])
noncomputable def LZ(a d:WE):WE:=λρ S Q=>a ρ S λx S1=>d ρ S1 λy S2=>∃ k ps,x = .loc k/\y = .non/\S2[k]?=some (.lst (ps.map λp:Int×Int=>SV.tup [.int p.1,.int p.2]))/\(ps=[]->Q .non S2)/\∀ p∈ps,Q (.tup [.int p.1,.int p.2]) S2
noncomputable def dpv(kvs:List ((Int×Int)×Int))(k:Int×Int):Option Int:=(kvs.find? λp=>decide (p.1=k)).map (·.2)
noncomputable def La(d e v:WE):WE:=λρ S Q=>d ρ S λx S1=>∃ k kv0,x = .loc k/\S1[k]?=some (.dtp kv0)/\e ρ S1 λy S2=>v ρ S2 λz S3=>∃ i j m kvs,y = .tup [.int i,.int j]/\z = .int m/\S3[k]?=some (.dtp kvs)/\kvs.length<big/\
 (∀ n,dpv kvs (i,j)=some n->Q (.int n) S3)/\(dpv kvs (i,j)=none->Q (.int m) (S3.set k (.dtp (kvs++[((i,j),m)]))))
noncomputable def EG(a:WE):WE:=λρ S Q=>a ρ S λx S1=>∃ xs ns,x ≠ .tup xs/\seqS x S1=some xs/\CA xs=some ns/\ns.length<=900/\Q (.int (n8 ns).length) S1
noncomputable def EH(a:WE):WE:=λρ S Q=>a ρ S λx S1=>∃ xs ns,seqS x S1=some xs/\CA xs=some ns/\ns.length<64/\Q (.loc S1.length) (S1++[.lst ((srt (n8 ns)).map SV.int)])
noncomputable def Lb(a:WE):WE:=λρ S Q=>a ρ S λx S1=>∃ xs ns,seqS x S1=some xs/\CA xs=some ns/\ns.length<=900/\Q (.loc S1.length) (S1++[.iset (n8 ns)])
noncomputable def CC(kvs:List (Int×SV))(i:Int):Option SV:=(kvs.find? λp=>decide (p.1=i)).map (·.2)
noncomputable def Cl(kvs:List (Int×SV))(i:Int)(x:SV):List (Int×SV):=if (kvs.any λp=>decide (p.1=i))=true then kvs.map (λp=>if p.1=i then (p.1,x) else p) else kvs++[(i,x)]
noncomputable def Br:SV->Sto->Option (List (Int×SV))
 | .loc k,S=>match S[k]? with | some (.dct kvs)=>some kvs | some (.dcf _ _ kvs)=>some kvs | _=>none
 | _,_=>none
noncomputable def JO(neg:Bool):S2:=λy x S Q=>∃ kvs i,Br x S=some kvs/\y = .int i/\Q (.bl (if neg then !(CC kvs i).isSome else (CC kvs i).isSome)) S
noncomputable def F3:S2:=λx y S Q=>∃ xs,x = .tup xs/\y = .tup []/\Q (.bl xs.isEmpty) S
noncomputable def GX(a:WE):WE:=λρ S Q=>a ρ S λx S1=>∃ kvs,Br x S1=some kvs/\Q (.loc S1.length) (S1++[.lst (kvs.map (·.2))])
noncomputable def GY(a:WE):WE:=λρ S Q=>a ρ S λx S1=>∃ kvs,Br x S1=some kvs/\Q (.loc S1.length) (S1++[.dct kvs])
noncomputable def PH(w:WE):WI:=λρ S R=>w ρ S λx S1=>∃ k kvs,x = .loc k/\S1[k]?=some (.dct kvs)/\∀ o ks,R (λS'=>S'[k]?=some (.dcf o ks kvs)) (kvs.map λp => .tup [.int p.1,p.2]) (S1.set k (.dcf o ks kvs))
noncomputable def Lc(a b:WE):WI:=λρ S R=>a ρ S λx S1=>b ρ S1 λy S2=>∃ k xs ys,x = .loc k/\S2[k]?=some (.lst xs)/\y = .tup ys/\xs.length=ys.length/\R (keepS x S2) (GV xs ys) S2
noncomputable def GZ:WE:=λ_ S Q=>Q (.loc S.length) (S++[.dtp []])
noncomputable def Ld:WE:=λ_ S Q=>Q (.loc S.length) (S++[.dct []])
noncomputable def Hr:SV->SV->SV->Sto->(Sto->Prop)->Prop:=λx y v S Q=>∃ k i kvs,x = .loc k/\y = .int i/\(S[k]?=some (.dct kvs)\/∃ o ks,S[k]?=some (.dcf o ks kvs))/\kvs.length<big/\Q (S.set k (.dct (Cl kvs i v)))
noncomputable def wMt(m:MT)(a:WE)(b:WA):WE:=λρ S Q=>a ρ S λx S1=>(∃ k xs,x = .loc k/\S1[k]?=some (.lst xs))/\b ρ S1 λxs S2=>sMt m x xs S2 Q
mutual
noncomputable def wTg:Tg->SV->EnvS->(EnvS->Prop)->Prop
 | .nm i,x,ρ,Q=>Q (ρ.set i (some x))
 | .tup ts,.tup xs,ρ,Q=>AG ts xs ρ Q
 | .tup _,_,_,_=>False
noncomputable def AG:Tgs->List SV->EnvS->(EnvS->Prop)->Prop
 | .nil,[],ρ,Q=>Q ρ
 | .cons t ts,x::xs,ρ,Q=>wTg t x ρ λρ'=>AG ts xs ρ' Q
 | _,_,_,_=>False
end
noncomputable def F4(k:Nat)(js:List Nat)(ρ:EnvS):EnvS:=UO k none++js.map λj=>(ρ[j]?).join
noncomputable def m8(keep:Sto->Prop)(g:Tg)(t:WT)(e:WE)(ρ:EnvS)(Q:List SV->Sto->Prop):List SV->List SV->Sto->Prop
 | [],ys,S=>keep S/\Q ys S
 | x::xs,ys,S=>keep S/\wTg g x ρ λρ2=>t ρ2 S λb S1=>if b=true then e ρ2 S1 λy S2=>ys.length<big/\m8 keep g t e ρ Q xs (ys++[y]) S2 else m8 keep g t e ρ Q xs ys S1
noncomputable def Hs(k:Nat)(js:List Nat)(g:Tg)(i:WI)(t:WT)(e:WE):WE:=λρ S Q=>i ρ S λkeep xs S1=>m8 keep g t e (F4 k js ρ) (λys S2=>Q (.loc S2.length) (S2++[.lst ys])) xs [] S1
noncomputable def tt1(w:WE):WE×WT:=(w,Qf w)
noncomputable def wBl(w:WE):WT:=λρ S Q=>w ρ S λx S'=>∃ b,x = .bl b/\Q b S'
noncomputable def tt2(w:WE):WE×WT:=(w,wBl w)
noncomputable def Sc:WT:=λ_ S Q=>Q true S
mutual
noncomputable def wEx(Δ:Nat->Sn):Ex->WE×WT
 | .var i=>tt1 (QR i)
 | .c x=>tt1 (wC x)
 | .op o a b=>tt1 (w2 (sOp o) (wEx Δ a).1 (wEx Δ b).1)
 | .neg a=>tt1 (w1 LQ (wEx Δ a).1)
 | .cmp o a b=>tt2 (w2 (Ac o) (wEx Δ a).1 (wEx Δ b).1)
 | .chn o p a b c=>tt2 (LS (Ac o) (Ac p) (wEx Δ a).1 (wEx Δ b).1 (wEx Δ c).1)
 | .and a b=>(LR (wEx Δ a).1 (wEx Δ b).1,Cj (wEx Δ a).2 (wEx Δ b).2)
 | .or a b=>(wOr (wEx Δ a).1 (wEx Δ b).1,GU (wEx Δ a).2 (wEx Δ b).2)
 | .not a=>(Ng (wEx Δ a).1,Hq (wEx Δ a).2)
 | .ife t a b=>(Nh (wEx Δ t).2 (wEx Δ a).1 (wEx Δ b).1,λ_ _ _=>False)
 | .tup es=>tt1 (wn NO (EI Δ es))
 | .lst es=>tt1 (wn NP (EI Δ es))
 | .ix a b=>tt1 (w2 sIx (wEx Δ a).1 (wEx Δ b).1)
 | .slc a lo hi=>tt1 (Qh (wEx Δ a).1 (wEo Δ lo).1 (wEo Δ hi).1)
 | .call f es=>tt1 (wn (Δ f) (EI Δ es))
 | .bi b es=>tt1 (wn (sBi b) (EI Δ es))
 | .mt m a es=>tt1 (wMt m (wEx Δ a).1 (EI Δ es))
 | .comp own _ js g it t e=>tt1 (Hs own.length js g (Ni Δ it) (wEo Δ t).2 (wEx Δ e).1)
 | .tyc t=>tt1 (wC (.ty t))
 | .lrng1 a=>tt1 (GW (wEx Δ a).1)
 | .dvals a=>tt1 (GX (wEx Δ a).1)
 | .dcopy a=>tt1 (GY (wEx Δ a).1)
 | .lenset a=>tt1 (EG (wEx Δ a).1)
 | .srtset a=>tt1 (EH (wEx Δ a).1)
 | .setl a=>tt1 (Lb (wEx Δ a).1)
 | .eqt0 a b=>tt2 (w2 F3 (wEx Δ a).1 (wEx Δ b).1)
 | .dnew=>tt1 Ld
 | .dnewp=>tt1 GZ
 | .setd d e v=>tt1 (La (wEx Δ d).1 (wEx Δ e).1 (wEx Δ v).1)
 | .mind a d=>tt1 (LZ (wEx Δ a).1 (wEx Δ d).1)
 | .din n a b=>tt2 (w2 (JO n) (wEx Δ a).1 (wEx Δ b).1)
 | .no=>(λ_ _ _=>False,λ_ _ _=>False)
noncomputable def EI(Δ:Nat->Sn):Exs->WA
 | .nil=>Di
 | .cons e es=>Ce (wEx Δ e).1 (EI Δ es)
noncomputable def wEo(Δ:Nat->Sn):Eo->WO×WT
 | .no=>(Qg,Sc)
 | .yes e=>(LU (wEx Δ e).1,(wEx Δ e).2)
noncomputable def Ni(Δ:Nat->Sn):Itb->WI
 | .seq e=>PF (wEx Δ e).1
 | .rng1 a=>LW (wEx Δ a).1
 | .rng2 a b=>LX (wEx Δ a).1 (wEx Δ b).1
 | .enum e=>LY (wEx Δ e).1
 | .itm e=>PH (wEx Δ e).1
 | .zipE a b=>Lc (wEx Δ a).1 (wEx Δ b).1
end
structure EndsS where
 nx:EnvS->Sto->Prop
 rt:SV->Sto->Prop
 bk:EnvS->Sto->Prop:=λ_ _=>False
 ct:EnvS->Sto->Prop:=λ_ _=>False
noncomputable abbrev WS:=EndsS->EnvS->Sto->Prop
noncomputable def JP:SV->SV->SV->Sto->(Sto->Prop)->Prop
 | .loc k,.int i,v,S,Q=>∃ xs j,S[k]?=some (.lst xs)/\ixN xs.length i=some j/\Q (S.set k (.lst (xs.set j v)))
 | _,_,_,_,_=>False
noncomputable def p0(keep:Sto->Prop)(g:Tg)(b:WS)(D:EndsS):List SV->EnvS->Sto->Prop
 | [],ρ,S=>keep S/\D.nx ρ S
 | x::xs,ρ,S=>keep S/\wTg g x ρ λρ2=>b {D with nx:=p0 keep g b D xs,ct:=p0 keep g b D xs,bk:=D.nx} ρ2 S
noncomputable def Qi(t:WT)(b:WS):WS:=λD ρ S=>∃ W:Nat->EnvS->Sto->Prop,(∃ m,W m ρ S)/\∀ m ρ S,W m ρ S->t ρ S λc S1=>if c=true then
 b {D with nx:=λρ' S'=>∃ m',m'<m/\W m' ρ' S',ct:=λρ' S'=>∃ m',m'<m/\W m' ρ' S',bk:=D.nx} ρ S1 else D.nx ρ S1
mutual
noncomputable def wSt(Δ:Nat->Sn):Stm->WS
 | .asg t e=>λD ρ S=>(wEx Δ e).1 ρ S λx S1=>wTg t x ρ λρ'=>D.nx ρ' S1
 | .par i j a b=>λD ρ S=>(wEx Δ a).1 ρ S λx S1=>(wEx Δ b).1 ρ S1 λy S2=>D.nx ((ρ.set i (some x)).set j (some y)) S2
 | .put o i e=>λD ρ S=>(wEx Δ e).1 ρ S λv S1=>(wEx Δ o).1 ρ S1 λx S2=>(wEx Δ i).1 ρ S2 λy S3=>JP x y v S3 λS4=>D.nx ρ S4
 | .dput o i e=>λD ρ S=>(wEx Δ e).1 ρ S λv S1=>(wEx Δ o).1 ρ S1 λx S2=>(wEx Δ i).1 ρ S2 λy S3=>Hr x y v S3 λS4=>D.nx ρ S4
 | .expr e=>λD ρ S=>(wEx Δ e).1 ρ S λ_ S1=>D.nx ρ S1
 | .iff t a b=>λD ρ S=>(wEx Δ t).2 ρ S λc S1=>if c=true then wSs Δ a D ρ S1 else wSs Δ b D ρ S1
 | .loop g it b=>λD ρ S=>Ni Δ it ρ S λkeep xs S1=>p0 keep g (wSs Δ b) D xs ρ S1
 | .whl t b=>Qi (wEx Δ t).2 (wSs Δ b)
 | .ret e=>λD ρ S=>(wEx Δ e).1 ρ S D.rt
 | .no=>λ_ _ _=>False
noncomputable def wSs(Δ:Nat->Sn):List Stm->WS
 | []=>λD ρ S=>D.nx ρ S
 | s::ss=>λD ρ S=>wSt Δ s {D with nx:=wSs Δ ss D} ρ S
end
theorem n9{α:Type}{P:Prop}{x:α}(h:(none:Option α)=some x):P:=nomatch h
noncomputable def F5(scope sc:Xf):Xf:={scope with names:=scope.names.map λ(n,k)=>if (k == .free&&sc.kind == .function&&sc.names.lookup n == some .cell) then (n,.cell) else (n,k)}
noncomputable def e6:Expr->Bool
 | .Starred ..=>false
 | _=>true
theorem f9{e:Expr}{es:List Expr}{env:Env}(h:e6 e=true):Xa (e::es) env=(false,eval e env)::Xa es env:=by
 cases e<;>first | rfl | cases h
theorem Bb{env:Env}{pos:Pos}:∀{es:List Expr},es.all e6=true->(backTo pos (Xa es env)).any (·.1)=false
 | [],_=>rfl
 | e::es,h=>by
   rw[V2,U2]at h;rw[f9 h.1];exact Bb (es:=es) h.2
theorem Dj{env:Env}{pos:Pos}:∀{es:List Expr},es.all e6=true->(backTo pos (Xa es env)).all (λx=>!x.1)=true
 | [],_=>rfl
 | e::es,h=>by
   rw[V2,U2]at h;rw[f9 h.1];exact Dj (es:=es) h.2
noncomputable def glo(sc:Xf)(x:Str):Bool:=sc.names.lookup x == some .globalImplicit&&!(x == ("__name__":Str))&&!(x == ("__debug__":Str))
noncomputable def vis(sc:Xf)(x:Str):Bool:=sc.names.lookup x == some .local||sc.names.lookup x == some .cell||sc.names.lookup x == some .free
noncomputable def loc(sc:Xf)(x:Str):Bool:=sc.names.lookup x == some .local||sc.names.lookup x == some .cell
noncomputable def Qj:SV->Const->Bool
 | .non,.none=>true
 | .bl a,.bool b=>a == b
 | .int i,.int j=>decide (i=j)
 | .str x,.str y=>decide (x=y)
 | _,_=>false
noncomputable def Ad:Expr->Bool
 | .Slice ..=>false
 | _=>true
noncomputable def u8:Expr->Bool
 | .Set ..=>false
 | _=>true
noncomputable def Lf:Expr->Bool
 | .UnaryOp .Not _ _=>false
 | .BoolOp ..=>false
 | .IfExp ..=>false
 | .Compare ..=>false
 | _=>true
noncomputable def u9:Expr->Bool
 | .Call (.Name _ _) [] [] _=>false
 | _=>true
noncomputable def Bc:Expr->Option Str
 | .Name x _=>some x
 | _=>none
noncomputable def Lg:Expr->Option Const
 | .Constant k _ _=>some k
 | _=>none
noncomputable def Sd:Expr->Option (Expr×Yf×Expr)
 | .BinOp a o b _=>some (a,o,b)
 | _=>none
noncomputable def vUn:Expr->Option (UnaryOp×Expr)
 | .UnaryOp o a _=>some (o,a)
 | _=>none
noncomputable def Lh:Expr->Option (Expr×List CmpOp×List Expr)
 | .Compare a os bs _=>some (a,os,bs)
 | _=>none
noncomputable def Li:Expr->Option (BoolOp×List Expr×Pos)
 | .BoolOp o vs p=>some (o,vs,p)
 | _=>none
noncomputable def Se:Expr->Option (Expr×Expr×Expr)
 | .IfExp t a b _=>some (t,a,b)
 | _=>none
noncomputable def CD:Expr->Option (List Expr)
 | .Tuple es _ _=>some es
 | _=>none
noncomputable def Sf:Expr->Option (List Expr)
 | .List es _=>some es
 | _=>none
noncomputable def Lj:Expr->Option (Expr×Expr)
 | .Subscript a b _=>some (a,b)
 | _=>none
noncomputable def Sg:Expr->Option (Option Expr×Option Expr×Option Expr)
 | .Slice l h s _=>some (l,h,s)
 | _=>none
noncomputable def Cm:Expr->Option (Expr×List Expr×List Keyword)
 | .Call f as ks _=>some (f,as,ks)
 | _=>none
noncomputable def Ga:Expr->Nat
 | .Call _ _ _ p=>p.line
 | _=>0
noncomputable def Lk:Expr->Option (Expr×Str×Nat)
 | .Attribute o n p=>some (o,n,p.endLine)
 | _=>none
noncomputable def Ll:Expr->Option (Expr×List Comprehension×Xf)
 | .ListComp e gs s _=>some (e,gs,s)
 | _=>none
noncomputable def Lm:Expr->Option (List (Option Expr)×List Expr)
 | .Dict ks vs _=>some (ks,vs)
 | _=>none
theorem F6{r:Expr}{x:List (Option Expr)×List Expr}(h:Lm r=some x):∃ p,r = .Dict x.1 x.2 p:=by cases r<;>first | (cases h;exact⟨_,rfl⟩) | exact n9 h
theorem Az{r:Expr}{x:Str}(h:Bc r=some x):∃ p,r = .Name x p:=by cases r<;>first | (cases h;exact⟨_,rfl⟩) | exact n9 h
theorem JQ{r:Expr}{x:Const}(h:Lg r=some x):∃ j p,r = .Constant x j p:=by cases r<;>first | (cases h;exact⟨_,_,rfl⟩) | exact n9 h
theorem Nj{r:Expr}{x:Expr×Yf×Expr}(h:Sd r=some x):∃ p,r = .BinOp x.1 x.2.1 x.2.2 p:=by cases r<;>first | (cases h;exact⟨_,rfl⟩) | exact n9 h
theorem Ln{r:Expr}{x:UnaryOp×Expr}(h:vUn r=some x):∃ p,r = .UnaryOp x.1 x.2 p:=by cases r<;>first | (cases h;exact⟨_,rfl⟩) | exact n9 h
theorem CK{r:Expr}{x:Expr×List CmpOp×List Expr}(h:Lh r=some x):∃ p,r = .Compare x.1 x.2.1 x.2.2 p:=by cases r<;>first | (cases h;exact⟨_,rfl⟩) | exact n9 h
theorem F7{r:Expr}{x:BoolOp×List Expr×Pos}(h:Li r=some x):r = .BoolOp x.1 x.2.1 x.2.2:=by cases r<;>first | (cases h;exact rfl) | exact n9 h
theorem Nk{r:Expr}{x:Expr×Expr×Expr}(h:Se r=some x):∃ p,r = .IfExp x.1 x.2.1 x.2.2 p:=by cases r<;>first | (cases h;exact⟨_,rfl⟩) | exact n9 h
theorem AK{r:Expr}{x:List Expr}(h:CD r=some x):∃ j p,r = .Tuple x j p:=by cases r<;>first | (cases h;exact⟨_,_,rfl⟩) | exact n9 h
theorem Nl{r:Expr}{x:List Expr}(h:Sf r=some x):∃ p,r = .List x p:=by cases r<;>first | (cases h;exact⟨_,rfl⟩) | exact n9 h
theorem CL{r:Expr}{x:Expr×Expr}(h:Lj r=some x):∃ p,r = .Subscript x.1 x.2 p:=by cases r<;>first | (cases h;exact⟨_,rfl⟩) | exact n9 h
theorem Nm{r:Expr}{x:Option Expr×Option Expr×Option Expr}(h:Sg r=some x):∃ p,r = .Slice x.1 x.2.1 x.2.2 p:=by cases r<;>first | (cases h;exact⟨_,rfl⟩) | exact n9 h
theorem Cn{r:Expr}{x:Expr×List Expr×List Keyword}(h:Cm r=some x):∃ p,r = .Call x.1 x.2.1 x.2.2 p/\Ga r=p.line:=by cases r<;>first | (cases h;exact⟨_,rfl,rfl⟩) | exact n9 h
theorem Lo{r:Expr}{x:Expr×Str×Nat}(h:Lk r=some x):∃ p,r = .Attribute x.1 x.2.1 p/\x.2.2=p.endLine:=by cases r<;>first | (cases h;exact⟨_,rfl,rfl⟩) | exact n9 h
theorem F8{r:Expr}{x:Expr×List Comprehension×Xf}(h:Ll r=some x):∃ p,r = .ListComp x.1 x.2.1 x.2.2 p:=by cases r<;>first | (cases h;exact⟨_,rfl⟩) | exact n9 h
theorem c6{α:Type}{o:Option α}{p:α->Bool}(h:o.any p=true):∃ x,o=some x/\p x=true:=by
 cases o with
 | none=>cases h
 | some x=>exact⟨x,rfl,h⟩
theorem AL{α:Type}{l:List α}{x:α}(h:l.head?=some x):l=x::l.tail:=by
 cases l with
 | nil=>cases h
 | cons y r=>cases h;rfl
noncomputable def l1{α:Type}:List α->Option α
 | [x]=>some x
 | _=>none
noncomputable def l2{α:Type}:List α->Option (α×α)
 | [x,y]=>some (x,y)
 | _=>none
theorem m7{α:Type}{l:List α}{x:α}(h:l1 l=some x):l=[x]:=by
 match l,h with
 | [y],h=>cases h;rfl
theorem Dk{α:Type}{l:List α}{x:α×α}(h:l2 l=some x):l=[x.1,x.2]:=by
 match l,h with
 | [y,z],h=>cases h;rfl
noncomputable def l3{α:Type}:List α->Option (α×α×α)
 | [x,y,z]=>some (x,y,z)
 | _=>none
noncomputable def Qk(r:Expr):Option (Str×List Expr×Keyword):=(Cm r).bind λc=>match c.2.2 with
 | [kw]=>(Bc c.1).map λx=>(x,c.2.1,kw)
 | _=>none
theorem Nn{r:Expr}{x:Str×List Expr×Keyword}(h:Qk r=some x):∃ p q,r = .Call (.Name x.1 p) x.2.1 [x.2.2] q:=by
 unfold Qk at h;cases hc:Cm r with
 | none=>rw[hc]at h;cases h
 | some c=>
   rw[hc]at h;obtain⟨q,e,_⟩:=Cn hc;obtain⟨f,as,ks⟩:=c
   match ks,h with
   | [kw],h=>
     replace h:(Bc f).map (λx=>(x,as,kw))=some x:=h;cases hn:Bc f with
     | none=>rw[hn]at h;cases h
     | some nm=>
       rw[hn]at h;cases h;obtain⟨p,e2⟩:=Az hn;exact⟨p,q,by rw[e,e2]⟩
   | [],h=>cases h
   | _::_::_,h=>cases h
noncomputable def vFn(r:Expr):Option (Str×List Expr):=(Cm r).bind λc=>if c.2.2.isEmpty then (Bc c.1).map λx=>(x,c.2.1) else none
theorem t3{r:Expr}{x:Str×List Expr}(h:vFn r=some x):∃ p q,r = .Call (.Name x.1 p) x.2 [] q:=by
 unfold vFn at h;cases hc:Cm r with
 | none=>rw[hc]at h;cases h
 | some c=>
   rw[hc]at h;obtain⟨q,e,_⟩:=Cn hc;simp only[WH]at h;by_cases hk:c.2.2.isEmpty=true
   ·rw[iP hk]at h;cases hn:Bc c.1 with
    | none=>rw[hn]at h;cases h
    | some y=>
      rw[hn]at h;cases h;obtain⟨p,ep⟩:=Az hn;rw[e,ep,Ud.mp hk];exact⟨p,q,rfl⟩
   ·rw[iG hk]at h;cases h
noncomputable def vMt(r:Expr):Option (Expr×Str×List Expr):=(Cm r).bind λc=>if c.2.2.isEmpty then (Lk c.1).bind λa=>if a.2.2 == Ga r then some (a.1,a.2.1,c.2.1) else none else none
theorem EJ{r:Expr}{x:Expr×Str×List Expr}(h:vMt r=some x):∃ ap cp,r = .Call (.Attribute x.1 x.2.1 ap) x.2.2 [] cp/\(ap.endLine == cp.line)=true:=by
 unfold vMt at h;cases hc:Cm r with
 | none=>rw[hc]at h;cases h
 | some c=>
   rw[hc]at h;obtain⟨q,e,el⟩:=Cn hc;simp only[WH]at h;by_cases hk:c.2.2.isEmpty=true
   ·rw[iP hk]at h;cases hn:Lk c.1 with
    | none=>rw[hn]at h;cases h
    | some y=>
      rw[hn]at h;simp only[WH]at h;obtain⟨p,ep,el2⟩:=Lo hn;by_cases hl:(y.2.2 == Ga r)=true
      ·rw[iP hl]at h;cases h;refine⟨p,q,?_,?_⟩
       ·rw[e,ep,Ud.mp hk]
       ·rw[<-el2,<-el];exact hl
      ·rw[iG hl]at h;cases h
   ·rw[iG hk]at h;cases h
mutual
noncomputable def B0(k:Nat)(N:List Str)(sc:Xf):Tg->Expr->Bool
 | .nm i,r=>(Bc r).any λx=>decide (i<k)&&decide (N[i]?=some x)&&loc sc x
 | .tup ts,r=>(CD r).any λes=>AD k N sc ts es
noncomputable def AD(k:Nat)(N:List Str)(sc:Xf):Tgs->List Expr->Bool
 | .nil,r=>r.isEmpty
 | .cons t ts,r=>(r.head?).any λe=>B0 k N sc t e&&e6 e&&AD k N sc ts r.tail
end
noncomputable def nmB(N:List Str)(sc:Xf)(i:Nat)(x:Str):Bool:=decide (N[i]?=some x)&&vis sc x&&!(x == ("__debug__":Str))&&!(x == ("__classdict__":Str))
mutual
noncomputable def i6(T:List Str)(N:List Str)(sc:Xf):Ex->Expr->Bool
 | .var i,r=>(Bc r).any λx=>nmB N sc i x
 | .c x,r=>(Lg r).any λk=>Qj x k
 | .op o a b,r=>(Sd r).any λv=>decide (o=v.2.1)&&i6 T N sc a v.1&&i6 T N sc b v.2.2
 | .neg a,r=>(vUn r).any λv=>decide (v.1 = .USub)&&i6 T N sc a v.2
 | .cmp o a b,r=>(Lh r).any λv=>(l1 v.2.2).any λrb=>decide (v.2.1=[o])&&i6 T N sc a v.1&&i6 T N sc b rb&&u8 rb
 | .chn o p a b c,r=>(Lh r).any λv=>(l2 v.2.2).any λrs=>decide (v.2.1=[o,p])&&i6 T N sc a v.1&&i6 T N sc b rs.1&&i6 T N sc c rs.2&&u8 rs.2
 | .and a b,r=>(Li r).any λv=>decide (v.1 = .And)&&(v.2.1.head?).any λx=>i6 T N sc a x&&(match l1 v.2.1.tail with | some y=>i6 T N sc b y | none=>decide (2<=v.2.1.tail.length)&&i6 T N sc b (.BoolOp .And v.2.1.tail v.2.2))
 | .or a b,r=>(Li r).any λv=>decide (v.1 = .Or)&&(v.2.1.head?).any λx=>i6 T N sc a x&&(match l1 v.2.1.tail with | some y=>i6 T N sc b y | none=>decide (2<=v.2.1.tail.length)&&i6 T N sc b (.BoolOp .Or v.2.1.tail v.2.2))
 | .not a,r=>(vUn r).any λv=>decide (v.1 = .Not)&&i6 T N sc a v.2
 | .ife t a b,r=>(Se r).any λv=>i6 T N sc t v.1&&i6 T N sc a v.2.1&&i6 T N sc b v.2.2
 | .tup es,r=>(CD r).any λrs=>Ae T N sc es rs
 | .lst es,r=>(Sf r).any λrs=>Ae T N sc es rs
 | .ix a b,r=>(Lj r).any λv=>i6 T N sc a v.1&&i6 T N sc b v.2&&Ad v.2
 | .slc a lo hi,r=>(Lj r).any λv=>(Sg v.2).any λs=>i6 T N sc a v.1&&Lp T N sc lo s.1&&Lp T N sc hi s.2.1&&s.2.2.isNone
 | .call f es,r=>(vFn r).any λv=>decide (T[f]?=some v.1)&&glo sc v.1&&Ae T N sc es v.2&&!v.2.isEmpty
 | .bi b es,r=>(vFn r).any λv=>decide (b.name=v.1)&&glo sc v.1&&Ae T N sc es v.2&&!v.2.isEmpty
 | .mt m a es,r=>(vMt r).any λv=>decide (v.2.1=m.name)&&u9 v.1&&decide (v.2.2.length<29)&&i6 T N sc a v.1&&Ae T N sc es v.2.2
 | .comp own cn js g it t e,r=>(Ll r).any λv=>(l1 v.2.1).any λc=>decide (c.is_async=0)&&v8 sc v.2.2 own cn N js&&B0 own.length (own++cn) (F5 v.2.2 sc) g c.target&&No T N sc it c.target c.iter&&u8 c.iter&&F9 T (own++cn) (F5 v.2.2 sc) t c.ifs&&i6 T (own++cn) (F5 v.2.2 sc) e v.1
 | .tyc t,r=>(Bc r).any λx=>decide (x=Str.ofString t.nm)&&glo sc x&&decide (t ≠ .none)
 | .lrng1 a,r=>(vFn r).any λv=>(l1 v.2).any λz=>(vFn z).any λu=>(l1 u.2).any λra=>decide (v.1=("list":Str))&&decide (u.1=("range":Str))&&glo sc v.1&&glo sc u.1&&i6 T N sc a ra&&e6 ra
 | .mind a d,r=>(Qk r).any λv=>(l1 v.2.1).any λra=>decide (v.1=("min":Str))&&glo sc v.1&&i6 T N sc a ra&&i6 T N sc d v.2.2.value&&e6 ra&&decide (v.2.2.arg=some ("default":Str))
 | .setd d e v,r=>(vMt r).any λu=>(l2 u.2.2).any λra=>decide (u.2.1=("setdefault":Str))&&u9 u.1&&i6 T N sc d u.1&&i6 T N sc e ra.1&&e6 ra.1&&i6 T N sc v ra.2&&e6 ra.2
 | .dnewp,r=>(Lm r).any λv=>v.1.isEmpty&&v.2.isEmpty
 | .dvals a,r=>(vFn r).any λv=>(l1 v.2).any λz=>(vMt z).any λu=>decide (v.1=("list":Str))&&glo sc v.1&&decide (u.2.1=("values":Str))&&u.2.2.isEmpty&&u9 u.1&&i6 T N sc a u.1
 | .dcopy a,r=>(vFn r).any λv=>(l1 v.2).any λra=>decide (v.1=("dict":Str))&&glo sc v.1&&i6 T N sc a ra&&e6 ra
 | .lenset a,r=>(vFn r).any λv=>(l1 v.2).any λz=>(vFn z).any λu=>(l1 u.2).any λra=>decide (v.1=("len":Str))&&decide (u.1=("set":Str))&&glo sc v.1&&glo sc u.1&&i6 T N sc a ra&&e6 ra
 | .srtset a,r=>(vFn r).any λv=>(l1 v.2).any λz=>(vFn z).any λu=>(l1 u.2).any λra=>decide (v.1=("sorted":Str))&&decide (u.1=("set":Str))&&glo sc v.1&&glo sc u.1&&i6 T N sc a ra&&e6 ra
 | .setl a,r=>(vFn r).any λv=>(l1 v.2).any λra=>decide (v.1=("set":Str))&&glo sc v.1&&i6 T N sc a ra&&e6 ra
 | .eqt0 a b,r=>(Lh r).any λv=>(l1 v.2.2).any λrb=>decide (v.2.1=[.Eq])&&i6 T N sc a v.1&&i6 T N sc b rb&&u8 rb
 | .dnew,r=>(Lm r).any λv=>v.1.isEmpty&&v.2.isEmpty
 | .din n a b,r=>(Lh r).any λv=>(l1 v.2.2).any λrb=>decide (v.2.1=[if n then .NotIn else .In])&&i6 T N sc a v.1&&i6 T N sc b rb&&u8 rb
 | .no,_=>true
noncomputable def Ae(T:List Str)(N:List Str)(sc:Xf):Exs->List Expr->Bool
 | .nil,r=>r.isEmpty
 | .cons e es,r=>(r.head?).any λx=>i6 T N sc e x&&e6 x&&Ae T N sc es r.tail
noncomputable def Lp(T:List Str)(N:List Str)(sc:Xf):Eo->Option Expr->Bool
 | .no,r=>r.isNone
 | .yes e,r=>r.any λx=>i6 T N sc e x
noncomputable def F9(T:List Str)(N:List Str)(sc:Xf):Eo->List Expr->Bool
 | .no,r=>r.isEmpty
 | .yes e,r=>(l1 r).any λx=>i6 T N sc e x
noncomputable def No(T:List Str)(N:List Str)(sc:Xf):Itb->Expr->Expr->Bool
 | .seq e,_,r=>i6 T N sc e r
 | .rng1 a,_,r=>(vFn r).any λv=>(l1 v.2).any λra=>decide (v.1=("range":Str))&&glo sc v.1&&i6 T N sc a ra&&e6 ra
 | .rng2 a b,_,r=>(vFn r).any λv=>(l2 v.2).any λra=>decide (v.1=("range":Str))&&glo sc v.1&&i6 T N sc a ra.1&&e6 ra.1&&i6 T N sc b ra.2&&e6 ra.2
 | .enum e,tg,r=>(CD tg).isSome&&(vFn r).any λv=>(l1 v.2).any λa=>decide (v.1=("enumerate":Str))&&glo sc v.1&&i6 T N sc e a&&e6 a
 | .itm e,tg,r=>(CD tg).isSome&&(vMt r).any λu=>decide (u.2.1=("items":Str))&&u.2.2.isEmpty&&u9 u.1&&i6 T N sc e u.1
 | .zipE a b,tg,r=>(CD tg).isSome&&(vFn r).any λv=>(l2 v.2).any λra=>decide (v.1=("zip":Str))&&glo sc v.1&&i6 T N sc a ra.1&&e6 ra.1&&i6 T N sc b ra.2&&e6 ra.2
end
noncomputable def spS(K:U1)(w:Sn):Sp:=λvs H Q _=>∃ as S xs,Ok K as H S/\RlAll K as H vs xs/\w xs S (Post K as H Q)
structure Cal(P:XZ)(w:Xd)(K:U1)(mg:Str->Option XR)(base:Heap)(k:Nat)(x:Str)(ps:List Str)(sp:Sp):Prop where
 ex:∃ f fd,FnOk P w K mg base CX0 k f fd ps sp/\mg x=some (.ref f)/\PySem.W.keepIn K (.ref f)=true/\Binds K fd ps []
structure Cok(T:List Str)(Δ:Nat->Sn)(X:Cx)(k:Nat)(N:List Str)(sc:Xf):Prop where
 hN:X.N=N
 hs:X.env.scope=sc
 nd:N.Nodup
 calm:X.calm=true
 fn:∀ i x,i<k->N[i]?=some x->sc.names.lookup x=some .cell->X.fn x=true
 un:X.A.units+102<cLine
 bl:∀ b:BI,X.mg b.name=none
 rng:X.mg "range"=none
 enm:X.mg "enumerate"=none
 rvs:X.mg "reversed"=none
 zip:X.mg "zip"=none
 st0:X.mg "set"=none
 dc0:X.mg "dict"=none
 ty:∀ t:TyN,t ≠ .none->X.mg (Str.ofString t.nm)=none
 gd:X.A.guards=some []
 call:∀ f x,T[f]?=some x->∃ k ps,Cal X.prog X.w X.K X.mg X.base k x ps (spS X.K (Δ f))/\Room k X.A
 mono:∀ f,MonoN (Δ f)
structure Good(X:Cx)(r:Expr)(w:WE×WT):Prop where
 pe:PE X r (lift X.K w.1)
 pt:PT X r (liftT X.K w.2)
 m:Mono w.1
 mt:MonoT w.2
 pw:∀ op vs p,r = .BoolOp op vs p->PW X r (liftT X.K w.2)
section
variable{X:Cx}{r:Expr}{w:WE}
theorem MonoT.tru(m:Mono w):MonoT (Qf w):=λρ S P P' i h=>m _ _ _ _ (λx S' ⟨b,e,q⟩=>⟨b,e,i _ _ q⟩) h
theorem MonoT.bl(m:Mono w):MonoT (wBl w):=λρ S P P' i h=>m _ _ _ _ (λx S' ⟨b,e,q⟩=>⟨b,e,i _ _ q⟩) h
theorem Ql{K:U1}{as:List XU}{H:Hp}{S:Sto}{x:SV}{v:V}{b:Bool}(ok:Ok K as H S)(r:Rl K as H v x)(e:Qd x S=some b):N4 K v H b:=by
 cases x with
 | bl c=>cases e;rw[rl_bl.mp r];exact rfl
 | loc k=>
   unfold Qd at e;cases hs:S[k]? with
   | none=>simp only[hs]at e;cases e
   | some o=>
     cases o with
     | lst xs=>
       simp only[hs]at e;cases e;obtain⟨a,vs,rfl,_,ha,rr⟩:=l8 ok r hs;refine .inl ⟨vs,SqL.of ha,?_⟩;have:=rr.length;cases vs<;>cases xs<;>first | rfl | (simp at this)
     | iset _=>simp only[hs]at e;cases e
     | dtp _=>simp only[hs]at e;cases e
     | dct _=>simp only[hs]at e;cases e
     | dcf _ _ _=>simp only[hs]at e;cases e
 | _=>cases e
theorem DP{env:Env}(h:Lf r=true):∀ whole,isTrue r env whole=(do let v <- whole;standAt r.pos;holding [v] (truthy v)):=by
 intro whole;cases r<;>first | rfl | (cases h;done) | (rename_i o _ _;cases o<;>first | rfl | cases h)
theorem Np{K:U1}(m:Mono w):∀ σ H Q,liftT K (Qf w) σ H Q->lift K w σ H λx H'=>∃ k,N4 K x H' k/\Q k H':=by
 rintro σ H Q ⟨as,ρ,S,ok,en,h⟩;exact⟨as,ρ,S,ok,en,m _ _ _ _ (λx S' ⟨b,e,q⟩ as' H' v g ok' r=>⟨b,Ql ok' r e,q as' H' g ok'⟩) h⟩
theorem Co{K:U1}(m:Mono w):∀ σ H Q,liftT K (wBl w) σ H Q->lift K w σ H λx H'=>∃ k,x = .bl k/\Q k H':=by
 rintro σ H Q ⟨as,ρ,S,ok,en,h⟩;exact⟨as,ρ,S,ok,en,m _ _ _ _ (λx S' ⟨b,e,q⟩ as' H' v g ok' r=>⟨b,by subst e;exact rl_bl.mp r,q as' H' g ok'⟩) h⟩
theorem Good.one(hp:PE X r (lift X.K w))(m:Mono w)(h:Lf r=true):Good X r (tt1 w) where
 pe:=hp
 pt:=BJ _ (KN hp (DP h)) (Np m)
 m:=m
 mt := .tru m
 pw:=λop vs p e=>by rw[e]at h;cases h
theorem Lq{X:Cx}{r:Expr}:PE X r (lift X.K λ_ _ _=>False):=λ_ _ _ _ _ _ h=>let ⟨_,_,_,_,_,z⟩:=h;z.elim
theorem FA{X:Cx}{r:Expr}:PT X r (liftT X.K λ_ _ _=>False):=λ_ _ _ _ _ _ h=>let ⟨_,_,_,_,_,z⟩:=h;z.elim
theorem Lr{X:Cx}{r:Expr}:PW X r (liftT X.K λ_ _ _=>False):=λ_ _ _ _ _ _ _ h=>let ⟨_,_,_,_,_,z⟩:=h;z.elim
theorem Good.never:Good X r (λ_ _ _=>False,λ_ _ _=>False):=⟨Lq,FA,λ_ _ _ _ _ h=>h,λ_ _ _ _ _ h=>h,λ_ _ _ _=>Lr⟩
end
theorem Ht{o:Yf}:Mono2 (sOp o):=by
 unfold sOp;split<;>first | exact .add | exact .int0 | exact .mul | exact .int | exact λ_ _ _ _ _ _ h=>h
theorem y6{o:CmpOp}:Mono2 (Ac o):=by
 unfold Ac;split<;>first | exact .eq | exact .ne | exact .int0 | exact .in' | exact .isN
section
variable{X:Cx}
theorem Ls{o:Yf}{ra rb:Expr}{p:Pos}{wa wb:WE}(ha:PE X ra (lift X.K wa))(hb:PE X rb (lift X.K wb))(ma:Mono wa)(mb:Mono wb):PE X (.BinOp ra o rb p) (lift X.K (w2 (sOp o) wa wb)):=by
 have go:∀{s:S2} {rr:R2},Mono2 s->OpR X (YE o) rr->Aw X.K s rr->PE X (.BinOp ra o rb p) (lift X.K (w2 s wa wb)):=λms ho sim=>g9 _ (Rj ho ha hb) (w5 sim ms ma mb);have no:PE X (.BinOp ra o rb p) (lift X.K (w2 (λ_ _ _ _=>False) wa wb)):=go (λ_ _ _ _ _ _ h=>h) (rr:=λ_ _ _ _=>False) (λ_ _ _ _ _ _ _ _ _ _ _ _ h=>h.elim) (λ_ _ _ _ _ _ _ _ _ _ _ h=>h);cases o with
 | Add=>exact go .add NU NV
 | Sub=>exact go .int0 Pw (Ax λ_ _ _ _=>rl_int.mpr rfl)
 | Mult=>exact go .mul (op_mul.or QC) NW
 | FloorDiv=>exact go .int N3 (E8 λ_ _ _ _=>rl_int.mpr rfl)
 | Mod=>exact go .int Px (E8 λ_ _ _ _=>rl_int.mpr rfl)
 | Pow=>exact go .int Py (E8 λ_ _ _ _=>rl_int.mpr rfl)
 | _=>exact no
theorem Cp(o:CmpOp)(hu:X.A.units<cLine):∃ rr:R2,OpR X (Xe o) rr/\Aw X.K (Ac o) rr:=by
 cases o with
 | Eq=>exact⟨_,op_eq.or ((QH hu).or (NS hu)),QV⟩
 | NotEq=>exact⟨_,op_ne.or (QI hu),QW⟩
 | Lt=>exact⟨_,Rp,Ax λ_ _ _ _=>rl_bl.mpr rfl⟩
 | LtE=>exact⟨_,Rq,Ax λ_ _ _ _=>rl_bl.mpr rfl⟩
 | Gt=>exact⟨_,Rr,Ax λ_ _ _ _=>rl_bl.mpr rfl⟩
 | GtE=>exact⟨_,Rs,Ax λ_ _ _ _=>rl_bl.mpr rfl⟩
 | Is=>exact⟨_,Q1,NY⟩
 | IsNot=>exact⟨_,op_notN.or J7,LF⟩
 | In=>exact⟨_,QY,LD⟩
 | NotIn=>exact⟨_,JJ,LD⟩
theorem v0{o:CmpOp}{r:Expr}(h:u8 r=true):YO o r=false:=by
 cases r<;>first | rfl | cases h
theorem JR{o:CmpOp}{ra rb:Expr}{p:Pos}{wa wb:WE}(hu:X.A.units<cLine)(ha:PE X ra (lift X.K wa))(hb:PE X rb (lift X.K wb))(ma:Mono wa)(mb:Mono wb)(hn:u8 rb=true):Good X (.Compare ra [o] [rb] p) (tt2 (w2 (Ac o) wa wb)):=by
 obtain⟨rr,ho,sim⟩:=Cp (X:=X) o hu;have m:Mono (w2 (Ac o) wa wb) := .two y6 ma mb
 exact{pe:=g9 _ (HW ho ha hb (v0 hn)) (w5 sim y6 ma mb)
       pt:=BJ _ (HX ho ha hb (v0 hn)) λσ H Q h=>w5 sim y6 ma mb σ H _ (Co m σ H Q h)
       m:=m
       mt := .bl m
       pw:=λ_ _ _ e=>by cases e}
theorem FB{o p:CmpOp}{a b c:WE}(ma:Mono a)(mb:Mono b)(mc:Mono c):Mono (LS (Ac o) (Ac p) a b c):=λρ S P P' i h=>ma _ _ _ _ (λx S1 h=>mb _ _ _ _ (λy S2 h=>y6 _ _ _ _ _ (λz S3 ⟨k,e,q⟩=>⟨k,e,by
 cases k with
 | true=>rw[iP rfl]at q ⊢;exact mc _ _ _ _ (λu S4 h=>y6 _ _ _ _ _ i h) q
 | false=>rw[iG UB]at q ⊢;exact i _ _ q⟩) h) h) h
theorem Hu{K:U1}{o p:CmpOp}{r r':R2}{a b c:WE}(s1:Aw K (Ac o) r)(s2:Aw K (Ac p) r')(ma:Mono a)(mb:Mono b)(mc:Mono c):∀ σ H Q,lift K (LS (Ac o) (Ac p) a b c) σ H Q->G7 r r' (lift K a) (lift K b) (lift K c) σ H Q:=by
 rintro σ H Q ⟨as,ρ,S,ok,en,h⟩;refine⟨as,ρ,S,ok,en,ma _ _ _ _ (λx S1 h as1 H1 v g1 ok1 rv=>?_) h⟩;refine⟨as1,ρ,S1,ok1,en.mono g1.pre (g1.ku ok),mb _ _ _ _ (λy S2 h as2 H2 u g2 ok2 ru=>?_) h⟩;refine s1 as2 H2 S2 x y v u _ ok2 (Rl.mono g2.pre (g2.ku ok1) x v rv) ru (y6 _ _ _ _ _ (λz S3 ⟨k,e,q⟩ as3 H3 t g3 ok3 rt=>?_) h);subst e;refine⟨k,rl_bl.mp rt,?_⟩;cases k with
 | true=>
   rw[iP rfl]at q ⊢;refine⟨as3,ρ,S3,ok3,(en.mono g1.pre (g1.ku ok)).mono (g2.trans g3).pre ((g2.trans g3).ku ok1),mc _ _ _ _ (λn S4 h as4 H4 m g4 ok4 rm=>?_) q⟩;exact s2 as4 H4 S4 y n u m Q ok4 (Rl.mono (g3.trans g4).pre ((g3.trans g4).ku ok2) y u ru) rm (y6 _ _ _ _ _ (λf S5 hf=>hf.mono (((g1.trans g2).trans g3).trans g4)) h)
 | false=>
   rw[iG UB]at q ⊢;exact q as3 H3 _ ((g1.trans g2).trans g3) ok3 (rl_bl.mpr rfl)
theorem JS{o q:CmpOp}{ra rb rc:Expr}{p:Pos}{wa wb wc:WE}(hu:X.A.units<cLine)(ha:PE X ra (lift X.K wa))(hb:PE X rb (lift X.K wb))(hc:PE X rc (lift X.K wc))(ma:Mono wa)(mb:Mono wb)(mc:Mono wc)(hn:u8 rc=true):Good X (.Compare ra [o,q] [rb,rc] p) (tt2 (LS (Ac o) (Ac q) wa wb wc)):=by
 obtain⟨r1,ho,sim⟩:=Cp (X:=X) o hu;obtain⟨r2,hq,sim2⟩:=Cp (X:=X) q hu;have m:Mono (LS (Ac o) (Ac q) wa wb wc):=FB ma mb mc;have hm:Zj [o,q] [rb,rc]=false:=v0 hn
 exact{pe:=g9 _ (KL ho hq ha hb hc hm) (Hu sim sim2 ma mb mc)
       pt:=BJ _ (KM ho hq ha hb hc hm) λσ H Q h=>Hu sim sim2 ma mb mc σ H _ (Co m σ H Q h)
       m:=m
       mt := .bl m
       pw:=λ_ _ _ e=>by cases e}
end
section
variable{K:U1}
theorem k9{c:Bool}{A B A' B':Prop}(ha:A->A')(hb:B->B')(h:if c=true then A else B):if c=true then A' else B':=by
 cases c with
 | true=>rw[iP rfl]at h ⊢;exact ha h
 | false=>rw[iG UB]at h ⊢;exact hb h
theorem Mono.and{a b:WE}(ma:Mono a)(mb:Mono b):Mono (LR a b):=λρ S P P' i h=>ma _ _ _ _ (λx S1 ⟨c,e,q⟩=>⟨c,e,k9 (mb _ _ _ _ i) (i _ _) q⟩) h
theorem Mono.or{a b:WE}(ma:Mono a)(mb:Mono b):Mono (wOr a b):=λρ S P P' i h=>ma _ _ _ _ (λx S1 ⟨c,e,q⟩=>⟨c,e,k9 (i _ _) (mb _ _ _ _ i) q⟩) h
theorem Mono.not{a:WE}(ma:Mono a):Mono (Ng a):=λρ S P P' i h=>ma _ _ _ _ (λx S1 ⟨c,e,q⟩=>⟨c,e,i _ _ q⟩) h
theorem MonoT.and{a b:WT}(ma:MonoT a)(mb:MonoT b):MonoT (Cj a b):=λρ S P P' i h=>ma _ _ _ _ (λx S1 q=>k9 (mb _ _ _ _ i) (i _ _) q) h
theorem MonoT.or{a b:WT}(ma:MonoT a)(mb:MonoT b):MonoT (GU a b):=λρ S P P' i h=>ma _ _ _ _ (λx S1 q=>k9 (i _ _) (mb _ _ _ _ i) q) h
theorem MonoT.not{a:WT}(ma:MonoT a):MonoT (Hq a):=λρ S P P' i h=>ma _ _ _ _ (λx S1 q=>i _ _ q) h
theorem Mono.ifE{t:WT}{a b:WE}(mt:MonoT t)(ma:Mono a)(mb:Mono b):Mono (Nh t a b):=λρ S P P' i h=>mt _ _ _ _ (λx S1 q=>k9 (ma _ _ _ _ i) (mb _ _ _ _ i) q) h
theorem Post.at{as as1:List XU}{H H1:Hp}{Q:VK}{x:SV}{S:Sto}{v:V}(h:Post K as H Q x S)(g:Go as H as1 H1)(ok:Ok K as1 H1 S)(r:Rl K as1 H1 v x):Q v H1:=h as1 H1 v g ok r
theorem Hv{a b:WE}(ma:Mono a)(mb:Mono b):∀ σ H Q,lift K (LR a b) σ H Q->Ou (lift K a) (lift K b) σ H Q:=by
 rintro σ H Q ⟨as,ρ,S,ok,en,h⟩;refine⟨as,ρ,S,ok,en,ma _ _ _ _ (λx S1 ⟨c,e,q⟩ as1 H1 v g1 ok1 rv=>?_) h⟩;subst e;refine⟨c,rl_bl.mp rv,k9 (λq=>?_) (λq=>q.at g1 ok1 (rl_bl.mpr rfl)) q⟩;exact⟨as1,ρ,S1,ok1,en.mono g1.pre (g1.ku ok),mb _ _ _ _ (λy S2 h=>h.mono g1) q⟩
theorem Lu{a b:WE}(ma:Mono a)(mb:Mono b):∀ σ H Q,lift K (wOr a b) σ H Q->RV (lift K a) (lift K b) σ H Q:=by
 rintro σ H Q ⟨as,ρ,S,ok,en,h⟩;refine⟨as,ρ,S,ok,en,ma _ _ _ _ (λx S1 ⟨c,e,q⟩ as1 H1 v g1 ok1 rv=>?_) h⟩;subst e;refine⟨c,rl_bl.mp rv,k9 (λq=>q.at g1 ok1 (rl_bl.mpr rfl)) (λq=>?_) q⟩;exact⟨as1,ρ,S1,ok1,en.mono g1.pre (g1.ku ok),mb _ _ _ _ (λy S2 h=>h.mono g1) q⟩
theorem Nq{a:WE}(ma:Mono a):∀ σ H Q,lift K (Ng a) σ H Q->Ov (lift K a) σ H Q:=by
 rintro σ H Q ⟨as,ρ,S,ok,en,h⟩;refine⟨as,ρ,S,ok,en,ma _ _ _ _ (λx S1 ⟨c,e,q⟩ as1 H1 v g1 ok1 rv=>?_) h⟩;subst e;exact⟨c,rl_bl.mp rv,q.at g1 ok1 (rl_bl.mpr rfl)⟩
theorem PostT.mono{as as1:List XU}{H H1:Hp}{Q:Bool->Hp->Prop}{x:Bool}{S:Sto}(h:PostT K as H Q x S)(g:Go as H as1 H1):PostT K as1 H1 Q x S:=λas' H' g'=>h as' H' (g.trans g')
theorem FC{a b:WT}(ma:MonoT a)(mb:MonoT b):∀ σ H Q,liftT K (Cj a b) σ H Q->RT (liftT K a) (liftT K b) σ H Q:=by
 rintro σ H Q ⟨as,ρ,S,ok,en,h⟩;refine⟨as,ρ,S,ok,en,ma _ _ _ _ (λc S1 q as1 H1 g1 ok1=>?_) h⟩;refine k9 (λq=>?_) (λq=>q as1 H1 g1 ok1) q;exact⟨as1,ρ,S1,ok1,en.mono g1.pre (g1.ku ok),mb _ _ _ _ (λy S2 h=>h.mono g1) q⟩
theorem Hw{a b:WT}(ma:MonoT a)(mb:MonoT b):∀ σ H Q,liftT K (GU a b) σ H Q->tOr (liftT K a) (liftT K b) σ H Q:=by
 rintro σ H Q ⟨as,ρ,S,ok,en,h⟩;refine⟨as,ρ,S,ok,en,ma _ _ _ _ (λc S1 q as1 H1 g1 ok1=>?_) h⟩;refine k9 (λq=>q as1 H1 g1 ok1) (λq=>?_) q;exact⟨as1,ρ,S1,ok1,en.mono g1.pre (g1.ku ok),mb _ _ _ _ (λy S2 h=>h.mono g1) q⟩
theorem Lv{a:WT}(ma:MonoT a):∀ σ H Q,liftT K (Hq a) σ H Q->RU (liftT K a) σ H Q:=by
 rintro σ H Q ⟨as,ρ,S,ok,en,h⟩;exact⟨as,ρ,S,ok,en,ma _ _ _ _ (λc S1 q as1 H1 g1 ok1=>q as1 H1 g1 ok1) h⟩
theorem Nr{t:WT}{a b:WE}(mt:MonoT t)(ma:Mono a)(mb:Mono b):∀ σ H Q,lift K (Nh t a b) σ H Q->tIf (liftT K t) (lift K a) (lift K b) σ H Q:=by
 rintro σ H Q ⟨as,ρ,S,ok,en,h⟩;refine⟨as,ρ,S,ok,en,mt _ _ _ _ (λc S1 q as1 H1 g1 ok1=>?_) h⟩;refine k9 (λq=>?_) (λq=>?_) q
 ·exact⟨as1,ρ,S1,ok1,en.mono g1.pre (g1.ku ok),ma _ _ _ _ (λy S2 h=>h.mono g1) q⟩
 ·exact⟨as1,ρ,S1,ok1,en.mono g1.pre (g1.ku ok),mb _ _ _ _ (λy S2 h=>h.mono g1) q⟩
end
section
variable{X:Cx}
theorem EK{e:Expr}{t:TT}(t':TT)(h:PW X e t)(imp:∀ σ H Q,t' σ H Q->t σ H Q):PW X e t':=λwh pq s σ H Q I hw=>h wh pq s σ H Q I (imp σ H Q hw)
theorem Gb{x y:Expr}{p:Pos}{a b:WE×WT}(ha:Good X x a)(hb:Good X y b):Good X (.BoolOp .And [x,y] p) (LR a.1 b.1,Cj a.2 b.2):=
 have pw:PW X (.BoolOp .And [x,y] p) (liftT X.K (Cj a.2 b.2)):=EK _ (K4 ha.pt (Mx hb.pt)) (FC ha.mt hb.mt)
 {pe:=g9 _ (KB ha.pe (KA hb.pe)) (Hv ha.m hb.m),pt:=pw.pt,m := .and ha.m hb.m,mt := .and ha.mt hb.mt,pw:=λ_ _ _ _=>pw}
theorem Gc{x y z:Expr}{zs:List Expr}{p:Pos}{a b:WE×WT}(ha:Good X x a)(hb:Good X (.BoolOp .And (y::z::zs) p) b):Good X (.BoolOp .And (x::y::z::zs) p) (LR a.1 b.1,Cj a.2 b.2):=
 have pw:PW X (.BoolOp .And (x::y::z::zs) p) (liftT X.K (Cj a.2 b.2)):=EK _ (K4 ha.pt (hb.pw _ _ _ rfl)) (FC ha.mt hb.mt)
 {pe:=g9 _ (KB ha.pe hb.pe) (Hv ha.m hb.m),pt:=pw.pt,m := .and ha.m hb.m,mt := .and ha.mt hb.mt,pw:=λ_ _ _ _=>pw}
theorem JT{x y:Expr}{p:Pos}{a b:WE×WT}(ha:Good X x a)(hb:Good X y b):Good X (.BoolOp .Or [x,y] p) (wOr a.1 b.1,GU a.2 b.2):=
 have pw:PW X (.BoolOp .Or [x,y] p) (liftT X.K (GU a.2 b.2)):=EK _ (Ot ha.pt (Pl hb.pt)) (Hw ha.mt hb.mt)
 {pe:=g9 _ (Ow ha.pe (KA hb.pe)) (Lu ha.m hb.m),pt:=pw.pt,m := .or ha.m hb.m,mt := .or ha.mt hb.mt,pw:=λ_ _ _ _=>pw}
theorem JU{x y z:Expr}{zs:List Expr}{p:Pos}{a b:WE×WT}(ha:Good X x a)(hb:Good X (.BoolOp .Or (y::z::zs) p) b):Good X (.BoolOp .Or (x::y::z::zs) p) (wOr a.1 b.1,GU a.2 b.2):=
 have pw:PW X (.BoolOp .Or (x::y::z::zs) p) (liftT X.K (GU a.2 b.2)):=EK _ (Ot ha.pt (hb.pw _ _ _ rfl)) (Hw ha.mt hb.mt)
 {pe:=g9 _ (Ow ha.pe hb.pe) (Lu ha.m hb.m),pt:=pw.pt,m := .or ha.m hb.m,mt := .or ha.mt hb.mt,pw:=λ_ _ _ _=>pw}
theorem JV{x:Expr}{p:Pos}{a:WE×WT}(ha:Good X x a):Good X (.UnaryOp .Not x p) (Ng a.1,Hq a.2) where
 pe:=g9 _ (Pn ha.pe) (Nq ha.m)
 pt:=BJ _ (Pm ha.pt) (Lv ha.mt)
 m := .not ha.m
 mt := .not ha.mt
 pw:=λ_ _ _ e=>by cases e
theorem JW{t x y:Expr}{p:Pos}{c a b:WE×WT}(hc:Good X t c)(ha:Good X x a)(hb:Good X y b):Good X (.IfExp t x y p) (Nh c.2 a.1 b.1,λ_ _ _=>False) where
 pe:=g9 _ (KC hc.pt ha.pe hb.pe) (Nr hc.mt ha.m hb.m)
 pt:=FA
 m := .ifE hc.mt ha.m hb.m
 mt:=λ_ _ _ _ _ h=>h
 pw:=λ_ _ _ e=>by cases e
theorem Qm{i:Nat}{x:Str}{p:Pos}{N:List Str}{sc:Xf}{T:List Str}{Δ:Nat->Sn}{k:Nat}(C:Cok T Δ X k N sc)(hi:N[i]?=some x)(hv:vis sc x=true)(h1:(x == ("__debug__":Str))=false)(h2:(x == ("__classdict__":Str))=false):PE X (.Name x p) (Mu i):=by
 have hv':Vis X.env.scope x:=by
  rw[C.hs];unfold vis at hv;simp only[Uh,bQ]at hv;rcases hv with(hv | hv) | hv
  ·exact .inl hv
  ·exact .inr (.inl hv)
  ·exact .inr (.inr hv)
 exact Ph (i:=i) (by rw[C.hN];exact hi) hv' h1 h2
theorem Nt{x:SV}{k:Const}{j:Nat}{p:Pos}(h:Qj x k=true):Good X (.Constant k j p) (tt1 (wC x)):=by
 refine .one ?_ .c rfl;unfold Qj at h;split at h
 ·exact g9 _ Pj (Ez λ_ _=>rl_non.mpr rfl)
 ·rw[bQ]at h;subst h;exact g9 _ RS (Ez λ_ _=>rl_bl.mpr rfl)
 ·have h:=of_decide_eq_true h;subst h;exact g9 _ Pi (Ez λ_ _=>rl_int.mpr rfl)
 ·have h:=of_decide_eq_true h;subst h;exact g9 _ Pk (Ez λ_ _=>rl_str.mpr rfl)
 ·cases h
theorem Cq:Ey LQ:=λx S P P' i h=>by
 unfold LQ at h ⊢;split at h
 ·exact i _ _ h
 ·exact h.elim
theorem JX{x:Expr}{p:Pos}{a:WE×WT}(ha:Good X x a):Good X (.UnaryOp .USub x p) (tt1 (w1 LQ a.1)):=by
 refine .one (g9 _ (Rk Pz ha.pe) (QQ (λas H S x v Q ok r h=>?_) Cq ha.m)) (.one Cq ha.m) rfl;unfold LQ at h;split at h
 ·exact⟨_,rl_int.mp r,h.here ok (rl_int.mpr rfl)⟩
 ·exact h.elim
theorem Ge{b:Expr}(h:Ad b=true):Hc b:=λo i=>by cases b<;>first | rfl | cases h
theorem Lw{x y:Expr}{p:Pos}{a b:WE×WT}(ha:Good X x a)(hb:Good X y b)(h:Ad y=true):Good X (.Subscript x y p) (tt1 (w2 sIx a.1 b.1)):=
 .one (g9 _ (Ry (ix_list.or Q9) ha.pe hb.pe (Ge h)) (w5 QZ .ix ha.m hb.m)) (.two .ix ha.m hb.m) rfl
noncomputable def Sh(K:U1)(as:List XU)(H:Hp)(Q:Option Int->Hp->Prop):Option Int->Sto->Prop:=λb S'=>∀ as' H',Go as H as' H'->Ok K as' H' S'->Q b H'
noncomputable def FD(K:U1)(w:WO):St->Hp->(Option Int->Hp->Prop)->Prop:=λσ H Q=>∃ as ρ S,Ok K as H S/\EnvOk K as H σ ρ/\w ρ S (Sh K as H Q)
noncomputable def MonoO(w:WO):Prop:=∀ ρ S (P P':Option Int->Sto->Prop),(∀ x S',P x S'->P' x S')->w ρ S P->w ρ S P'
theorem MonoO.no:MonoO Qg:=λ_ _ _ _ i h=>i _ _ h
theorem MonoO.yes{w:WE}(m:Mono w):MonoO (LU w):=λ_ _ _ _ i h=>m _ _ _ _ (λx S1 ⟨k,e,q⟩=>⟨k,e,i _ _ q⟩) h
theorem Si:PO X none (FD X.K Qg):=λpq s σ H Q I ⟨as,ρ,S,ok,en,h⟩=>N8 pq s σ H Q I (h as H (Go.refl _ _) ok)
theorem Qn{x:Expr}{a:WE×WT}(ha:Good X x a):PO X (some x) (FD X.K (LU a.1)):=λpq s σ H Q I ⟨as,ρ,S,ok,en,h⟩=>
 N9 ha.pe pq s σ H Q I ⟨as,ρ,S,ok,en,ha.m _ _ _ _ (λy S1 ⟨k,e,q⟩ as1 H1 v g1 ok1 rv=>⟨k,by subst e;exact rl_int.mp rv,q as1 H1 g1 ok1⟩) h⟩
theorem RlAll.cut{K:U1}{as:List XU}{H:Hp}{xs:List SV}{vs:List V}(h:RlAll K as H vs xs)(lo hi:Option Int):RlAll K as H (Es vs lo hi) (Ck xs lo hi):=by
 unfold Es Ck;rw[h.length];exact(h.drop _).take _
theorem Cr{x:SV}{lo hi:Option Int}{S:Sto}{P P':QE}(i:∀ x S',P x S'->P' x S')(h:LV x lo hi S P):LV x lo hi S P':=by
 unfold LV at h ⊢;split at h
 ·obtain⟨xs,a,b⟩:=h;exact⟨xs,a,i _ _ b⟩
 ·exact i _ _ h
 ·exact h.elim
theorem Nu{K:U1}{as:List XU}{H:Hp}{S:Sto}{Q:VK}{x:SV}{v:V}{l k:Option Int}(ok:Ok K as H S)(r:Rl K as H v x)(h:LV x l k S (Post K as H Q)):S8 K v l k H Q\/Rx K v l k H Q\/SG K v l k H Q:=by
 cases x with
 | loc j=>
   obtain⟨xs,h1,h2⟩:=h;obtain⟨b,vs,rfl,_,hb,rr⟩:=l8 ok r h1;exact .inl ⟨b,vs,rfl,SqL.of hb,w9 ok (rr.cut l k) h2⟩
 | tup xs=>
   obtain⟨b,vs,rfl,hb,rr⟩:=rl_tup.mp r;by_cases hw:HT.sIx vs.length 0 l=0/\HT.sIx vs.length vs.length k=vs.length
   ·refine .inr (.inr ⟨b,vs,rfl,SqT.of hb,hw,?_⟩)
    have e:Ck xs l k=xs:=by
     unfold Ck;rw[<-rr.length,hw.1,hw.2,rr.length];simp
    have h':Post K as H Q (.tup (Ck xs l k)) S:=h;rw[e]at h';exact h'.here ok r
   ·exact .inr (.inl ⟨b,vs,rfl,SqT.of hb,hw,BY ok (rr.cut l k) h⟩)
 | _=>exact False.elim h
theorem JY{x:Expr}{rl rh:Option Expr}{p p2:Pos}{a:WE×WT}{lo hi:WO}(ha:Good X x a)(hl:PO X rl (FD X.K lo))(hh:PO X rh (FD X.K hi))(ml:MonoO lo)(mh:MonoO hi):Good X (.Subscript x (.Slice rl rh none p2) p) (tt1 (Qh a.1 lo hi)):=by
 refine .one (g9 _ (KS (sl_list.or (sl_tup.or NH)) ha.pe hl hh) ?_) (λρ S P P' i h=>ha.m _ _ _ _ (λx S1 h=>ml _ _ _ _ (λl S2 h=>mh _ _ _ _ (λk S3 h=>Cr i h) h) h) h) rfl;rintro σ H Q ⟨as,ρ,S,ok,en,h⟩;refine⟨as,ρ,S,ok,en,ha.m _ _ _ _ (λx S1 h as1 H1 v g1 ok1 rv=>?_) h⟩;refine⟨as1,ρ,S1,ok1,en.mono g1.pre (g1.ku ok),ml _ _ _ _ (λl S2 h as2 H2 g2 ok2=>?_) h⟩;refine⟨as2,ρ,S2,ok2,(en.mono g1.pre (g1.ku ok)).mono g2.pre (g2.ku ok1),mh _ _ _ _ (λk S3 h as3 H3 g3 ok3=>?_) h⟩;have rv3:=Rl.mono (g2.trans g3).pre ((g2.trans g3).ku ok1) x v rv;have g:=(g1.trans g2).trans g3;exact Nu ok3 rv3 (Cr (λ_ _ h=>h.mono g) h)
end
end Rf
namespace L2
open PySem PySem.Spec PyProof.Rows
section
variable{prog:XZ}{w:Xd}{A:Xg}{R:Result->XS->Prop}{I:XU}{fp wr:List XU}{G:Array Yv->Array Yv->Prop}{n:Nat}{P:Nat->XR->Prop}{St:Nat->XS->Prop}
noncomputable def TupsAt(prog:XZ)(w:Xd)(h:Heap)(n:Nat)(ta:Nat->XU)(kv:Nat->Key×XR):Prop:=∀ i,i<n->∃ key,(j3 prog w).is (kv i).1 key=true/\h.IsTuple (ta i) #[key,(kv i).2]
theorem TupsAt.keep{h h':Heap}{ta:Nat->XU}{kv:Nat->Key×XR}(t:TupsAt prog w h n ta kv)(k:∀ i o,i<n->h.get? (ta i)=some o->h'.get? (ta i)=some o):TupsAt prog w h' n ta kv:=λi hi=>by
 obtain⟨key,hk,o,ho,r⟩:=t i hi;exact⟨key,hk,o,k i o hi ho,r⟩
end
section
variable{X:Cx}
noncomputable def JZ(K:U1)(te:TE):TE:=λσ H Q=>te σ H λx H1=>∃(p:XU) (ns:List Int),x = .ref p/\(SqL K H1 p (ns.map V.int)\/SqT K H1 p (ns.map V.int))/\ns.length<64/\∀ l,H1 l=none->Q (.ref l) (upd H1 l (.lst ((srt (n8 ns)).map V.int)))
theorem FF{e:Expr}{te:TE}{p1 p2 pos1 pos2:Pos}(hc:X.calm=true)(hl:Gl X "sorted")(hml:X.mg "sorted"=none)(hs:Gl X "set")(hms:X.mg "set"=none)(he:PE X e te)
 (h1:Xa [e] X.env=(false,eval e X.env)::Xa [] X.env:=by rfl)
 (h2:Xa [.Call (.Name "set" p2) [e] [] pos2] X.env=(false,eval (.Call (.Name "set" p2) [e] [] pos2) X.env)::Xa [] X.env:=by rfl)
 (h3:(backTo pos1 (Xa [] X.env)).any (·.1)=false:=by rfl) (h4:(backTo pos2 (Xa [] X.env)).any (·.1)=false:=by rfl):
 PE X (.Call (.Name "sorted" p1) [.Call (.Name "set" p2) [e] [] pos2] [] pos1) (JZ X.K te):=by
 intro pq s σ H Q I h;refine Xl (v7 I hl hml JD ?_ (by decide) (by decide));refine PyProof.Rows.callWith_builtin1 ?_ h2 h3;rw[h2];show XW _ _ (spliced ((false,eval (.Call (.Name "set" p2) [e] [] pos2) X.env)::backTo pos1 (Xa [] X.env))) _ _ s;refine Calls.spliced_cons ?_;refine Xl (v7 I hs hms b_set ?_ (by decide) (by decide));refine PyProof.Rows.callWith_type1 ?_ h1 h4;rw[h1];show XW _ _ (spliced ((false,eval e X.env)::backTo pos2 (Xa [] X.env))) _ _ s;refine Calls.spliced_cons (thn (he pq s σ H _ I h) λu s1 ⟨x,H1,I1,rx,p,ns,ex,hq,hb,q1⟩=>Calls.spliced_nil ?_);subst ex;cases rx;cases hq
 case' inl hq=>
  obtain⟨its,r',pl,hz⟩:=I1.list hq;have hlen:=r'.length;rw[U4]at hlen;refine P6 (items:=its.toArray) (ns:=ns) (I1.ok.hd hc) pl.isList (by simpa using n0 r') (by simp only[U6];show its.length+1<4096;omega) λh' tk hX hk=>?_
 case' inr hq=>
  obtain⟨its,r',pl,hz⟩:=I1.tuple hq;have hlen:=r'.length;rw[U4]at hlen;refine L8 (items:=its.toArray) (ns:=ns) (I1.ok.hd hc) pl (by simpa using n0 r') (by simp only[U6];show its.length+1<4096;omega) λh' tk hX hk=>?_
 all_goals
  refine Calls.spliced_nil ?_;have k1:∀ b o,s1.heap.get? b=some o->h'.get? b=some o:=λb o e=>hk b o (U5 e) e;have I2:Inv X pq σ H1 {s1 with heap:=h',toks:=tk}:=I1.kept k1
  have hX:SetX X.prog X.w h' s1.heap.objs.size (n8 ns):=by
   have e:its.toArray.size=ns.length:=by rw[U6,hlen]
   rw[e]at hX;exact hX
  refine NL (s:={s1 with heap:=h',toks:=tk}) (I1.ok.hd hc) hX (VL (YZ _ _) hb) λh3 tk3 d l out e k3 hz3 hl3 ho3=>?_;refine⟨.ref l,_,(I2.dr d).laid (h':=h3) (a:=l) (o := .lst ((srt (n8 ns)).map V.int)) (t':=tk3) k3 hz3 (show ObjOk X.prog X.w _ _ _ (.lst ((srt (n8 ns)).map V.int)) from ⟨?_,out.toList,e,Dd ho3,by simpa using hl3⟩),rfl,q1 l ((I2.dr d).hok.fresh hz3)⟩;rw[U4,(Cb _).length_eq];exact Vb (Iz (UR (YZ _ _) (by omega)))
end
noncomputable def Kpt(hb h:Heap):Prop:=∀ b o,hb.get? b=some o->h.get? b=some o
structure Sk(hb h:Heap)(a k:XU)(ks xs:Array XR)(e:Nat):Prop where
 a0:hb.get? a=none
 k0:hb.get? k=none
 ne:k≠a
 kp:Kpt hb h
 kk:∃ n,h.get? k=some (seqObj "list" ks n)
 aa:h.get? a=some (seqObj "list" xs e)
theorem Sk.grow{hb h h':Heap}{a k:XU}{ks xs:Array XR}{e:Nat}(S:Sk hb h a k ks xs e)(K:Kpt h h'):Sk hb h' a k ks xs e:=
 ⟨S.a0,S.k0,S.ne,λb o q=>K _ _ (S.kp b o q),S.kk.elim λn q=>⟨n,K _ _ q⟩,K _ _ S.aa⟩
theorem KV.at{κ:Type}{ks:List (κ×V)}{vs:List (κ×XR)}(r:KV ks vs):∀{i:Nat} {p:κ×V},ks[i]?=some p->∃ v,vs[i]?=some (p.1,v)/\RelV p.2 v:=by
 intro i
 induction r generalizing i with
 | nil=>exact λh=>by simp at h
 | @cons a b _ _ h _ ih=>
   intro p hp;cases i with
   | zero=>cases hp;exact⟨b.2,by rw[h.1];rfl,h.2⟩
   | succ i=>exact ih hp
noncomputable def Iti(d:XU)(o:Obj)(ks:List (Key×V)):It:=
 ⟨λi H=>i<ks.length/\H d=some (.frz o (.dK ks)),λi H x H'=>∃(q:XU) (p:Key×V),H q=none/\x = .ref q/\ks[i]?=some p/\H'=upd H q (.tup [kV p.1,p.2]),λi H=>ks.length<=i/\H d=some (.frz o (.dK ks))⟩
theorem Nv{P:XZ}{w:Xd}{K:U1}{elts:List Expr}{kx:Nat}{tp:Pos}(it d:XU)(o:Obj)(ks:List (Key×V)){es0:Array ZJ}{ep:Nat}(hd:o.data = .dict es0 ep):Turn P w K (.Tuple elts kx tp) (Iti d o ks) [it] it (λi h=>∃ ok ov,IsItemIter h it d i ks.length ep ok ov) where
 mem:=UA.mpr rfl
 obj:=λi h st b hb=>by
  obtain⟨ok,ov,z⟩:=st;rw[UA.mp hb];exact⟨_,z,λv q=>by cases q⟩
 keep:=λi h h' st k=>by
  obtain⟨ok,ov,z⟩:=st;exact⟨ok,ov,k it (UA.mpr rfl) _ z⟩
 item:=by
  intro X hP hw hK hc i pq s σ H E I hf st hg;subst hP hw hK;obtain⟨ok,ov,hit⟩:=st;obtain⟨vs,kv,dm⟩:=LL hd I.hok hg.2;have hl:ks.length=vs.length:=kv.length;have hk:=UI hg.1;generalize ks[i]'hg.1=p at hk;obtain⟨u,hu,ru⟩:=KV.at kv hk;have hlt:it<s.heap.objs.size:=U5 hit;refine wpAny_pyNext_items_item (by rw[<-hl];exact hit) dm hu λkey h' hkey hout hT hsz kp=>⟨_,rfl,?_⟩
  have I1:Inv X pq σ (upd H s.heap.objs.size (.tup [kV p.1,p.2])) {s with heap:=h'}:=
   I.turnLay (t':=s.toks) (ch:=[it]) (λb o hb q=>kp b o (λz=>hb (UA.mpr z)) q) hf ⟨E3,[key,u],.cons (SZ hkey) (.cons ru .nil),⟨_,hT,rfl,_,rfl⟩⟩
  have hfp:∀ b∈[it],FpOk X pq (upd H s.heap.objs.size (.tup [kV p.1,p.2])) b:=λb hb=>by
   obtain⟨f0,f1⟩:=hf b hb;exact⟨by rw[e8 (by rw[UA.mp hb];exact UF hlt)];exact f0,f1⟩
  refine wpAny_letOwnedTupleGo_items hout λh2 he2 hs2=>?_
  have I2:Inv X pq σ (upd H s.heap.objs.size (.tup [kV p.1,p.2])) {s with heap:=h2}:=
   Inv.turnedL (s:={s with heap:=h'}) (t':=s.toks) (ch:=[it]) I1 (λb o hb q=>(hs2.2 b (λz=>hb (UA.mpr z))).trans q) hfp
  exact⟨.ref s.heap.objs.size,_,I2,rfl,⟨_,_,I.fresh,rfl,hk,rfl⟩,⟨_,_,by rw[hl];exact he2⟩,λb hb=>(hfp b hb).1⟩
 done:=by
   intro X hP hw hK hc i pq s σ H E I hf st hg;subst hP hw hK;obtain⟨ok,ov,hit⟩:=st;obtain⟨vs,kv,dm⟩:=LL hd I.hok hg.2;have hl:ks.length=vs.length:=kv.length;exact wpAny_pyNext_items_end (I.ok.hd hc) (by rw[<-hl];exact hit) dm (Vn (by rw[<-hl];exact hg.1)) λh' eb=>⟨rfl,I.turnedL (t':=s.toks) (ch:=[it]) (λb o hb q=>eb b o (λz=>hb (UA.mpr z)) q) hf⟩
 self:=λ_ _ _ _ _ st h=>by
  obtain⟨ok,ov,hit⟩:=st;exact PySem.W.kcp_self hit h
section
variable{X:Cx}{o:Expr}{apos cpos pos p:Pos}{td:TE}
noncomputable def Qo(td:TE):TI:=λσ H R=>td σ H λx H1=>∃ a ks,x = .ref a/\((H1 a=some (.dK ks)/\∀ o,R (Iti a o ks) (upd H1 a (.frz o (.dK ks))))\/∃ o,H1 a=some (.frz o (.dK ks))/\R (Iti a o ks) H1)
theorem Lx{elts:List Expr}{kx:Nat}{tp:Pos}(ho:PE X o td)(hbase:Y9 o "items" X.env (eval o X.env)=eval o X.env:=by rfl)(hline:(apos.endLine == cpos.line)=true:=by rfl):
 PI X (.Tuple elts kx tp) (.Call (.Attribute o "items" apos) [] [] cpos) (Qo td):=by
 intro pq s σ H R I h;refine YJ hbase hline (thn (ho pq s σ H _ I h) λv s1 ⟨x,H1,I1,r1,a,ks,e,q⟩=>?_);subst e;cases r1
 have go:∀(H2:Hp) (ob:Obj),Inv X pq σ H2 s1->H2 a=some (.frz ob (.dK ks))->R (Iti a ob ks) H2->MethodOn X.prog X.w X.A "items" cpos (.ref a) [] (λv s1=>XW (XX X.prog X.w) X.A (pyIter v) (PIE X pq σ (.Tuple elts kx tp) R) X.xe s1) X.xe s1:=λH2 ob I2 e2 q=>by
  obtain⟨hob,len,nsys,vs,kv,o',es,ep,ho',ex,dat,keys,prs,nd⟩:=(show ObjOk X.prog X.w H2 s1.heap a (.frz ob (.dK ks)) from I2.hok a _ e2)
  rw[hob]at ho';cases ho';have hl:ks.length=vs.length:=kv.length;refine⟨"dict","dict.items",PySem.F.plainAttrs_dict,PySem.F.slot_dict_items,PySem.F.type_dict_items,⟨ob,hob,ex.1⟩,λb eb=>by cases eb;exact⟨ob,hob,ex.2.1⟩,Calls.callWith_builtin rfl (PySem.evalArgs_none ?_)⟩;refine ZH PySem.F.slot_dict_items ⟨ob,hob,ex.1⟩ PySem.F.entry_dict_items (PySem.F.args_dict_items_1 _) (meets_dict_items (j3 X.prog X.w) a nsys) ⟨⟨vs,ob,es,ep,hob,ex,dat,keys,prs,nd⟩,?_⟩;have I3:Inv X pq σ H2 {s1 with heap:=s1.heap.push {cls := .type "dict_items",data := .fields #[.ref a]}}:=I2.kept (t':=s1.toks) λb ob q=>U3 _ q;refine wpAny_pyIter_items ⟨_,U8 _ rfl,rfl,rfl⟩ (⟨ob,es,U3 _ hob,ex,dat,keys,prs,nd⟩:XO (j3 X.prog X.w) _ a vs ep) ?_;refine⟨_,[_],_,_,_,rfl,I3.kept (t':=s1.toks) λb o e=>U3 _ e,Nv _ a ob ks dat,⟨_,_,by rw[hl];exact U8 _ rfl⟩,λb hb=>?_,q⟩;rw[UA.mp hb];exact I3.fpOk (U9 _) (I3.hok.fresh (U9 _))
 rcases q with⟨hq,q⟩ | ⟨ob,hq,q⟩
 ·obtain⟨_,_,_,_,ob,_,_,hob,_⟩:=(show ObjOk X.prog X.w H1 s1.heap a (.dK ks) from I1.hok a _ hq)
  exact go _ ob (I1.freeze hq hob) g8 (q ob)
 ·exact go _ ob I1 hq q
noncomputable def Qp(td:TE):TE:=λσ H Q=>td σ H λx H1=>∃ a ks,x = .ref a/\Rd H1 a (.dK ks)/\∀ p,H1 p=none->Q (.ref p) (upd H1 p (.lst (ks.map (·.2))))
theorem Nx{κ:Type}{ks:List (κ×V)}{vs:List (κ×XR)}(r:KV ks vs):Vals (ks.map (·.2)) (vs.map (·.2)):=by
 induction r with
 | nil=>exact .nil
 | cons h _ ih=>exact .cons h.2 ih
theorem Ly(hc:X.calm=true)(hg:Gl X "list")(hm:X.mg "list"=none)(hv:Xb "list"=some (.type "list"))(ho:PE X o td)
 (hbase:Y9 o "values" X.env (eval o X.env)=eval o X.env:=by rfl) (hline:(apos.endLine == cpos.line)=true:=by rfl)
 (he:Xa [.Call (.Attribute o "values" apos) [] [] cpos] X.env=[(false,eval (.Call (.Attribute o "values" apos) [] [] cpos) X.env)]:=by rfl):
 PE X (.Call (.Name "list" p) [.Call (.Attribute o "values" apos) [] [] cpos] [] pos) (Qp td):=by
 intro pq s σ H Q I h;refine Xl (v7 I hg hm hv ?_);refine PyProof.Rows.callWith_type1 (rest:=[]) ?_ he rfl;rw[he];refine Calls.spliced_cons ?_;refine YJ hbase hline (thn (ho pq s σ H _ I h) λv s1 ⟨x,H1,I1,r1,a,ks,e,hd,q⟩=>?_);subst e;cases r1;obtain⟨hz,hsm,vs,kv,ob,es,ep,hob,hex,dat,keys,prs,nd⟩:=Dg I1.hok hd;have hl:ks.length=vs.length:=KV.length kv;refine⟨"dict","dict.values",PySem.F.plainAttrs_dict,PySem.F.slot_dict_values,PySem.F.type_dict_values,⟨ob,hob,hex.1⟩,λb eb=>by cases eb;exact⟨ob,hob,hex.2.1⟩,Calls.callWith_builtin rfl (PySem.evalArgs_none ?_)⟩;refine ZH PySem.F.slot_dict_values ⟨ob,hob,hex.1⟩ PySem.F.entry_dict_values (PySem.F.args_dict_values_1 _) (meets_dict_values (j3 X.prog X.w) a hsm) ⟨⟨vs,ob,es,ep,hob,hex,dat,keys,prs,nd⟩,?_⟩;refine Calls.spliced_nil ?_;have dm:XO (j3 X.prog X.w) (s1.heap.push {cls := .type "dict_values",data := .fields #[.ref a]}) a vs ep:=⟨ob,es,U3 _ hob,hex,dat,keys,prs,nd⟩
 refine PySem.W.kdl_call (A:=X.A) (PySem.W.kdl_values (knd:=j3 X.prog X.w) (kvs:=vs) (ep:=ep)) (I1.ok.hd hc) ⟨⟨_,U8 _ rfl,rfl,rfl⟩,dm⟩ (by rw[<-hl];exact hz) λh' tk acc c k hS hacc=>?_;have I2:Inv X pq σ H1 {s1 with heap:=s1.heap.push {cls := .type "dict_values",data := .fields #[.ref a]}}:=I1.kept (t':=s1.toks) λb ob q=>U3 _ q;have ea:acc.toList=vs.map (·.2):=PySem.W.kdl_vals_eq acc.toList (by rw[Ur];exact hacc.1) λj v e=>hacc.2 j v (by rw[<-Uz];exact e);exact⟨.ref _,upd H1 _ (.lst (ks.map (·.2))),I2.laid (t':=tk) (o := .lst (ks.map (·.2))) k (U9 _) ⟨by rw[U4];exact hz,acc.toList,c,by rw[ea];exact Nx kv,by rw[Array.toArray_toList];exact hS⟩,rfl,q _ (I2.hok.fresh (U9 _))⟩
theorem Gf:CallR X (.type "dict") (λxs H Q=>∃(a:XU) (ks:List (Key×V)),xs=[.ref a]/\Rd H a (.dK ks)/\∀ l,H l=none->Q (.ref l) (upd H l (.dK ks))):=by
 intro pq s σ H xs us Q I r h;obtain⟨a,ks,rfl,hd,q⟩:=h;obtain⟨u,rfl,rx⟩:=AB r;cases rx;obtain⟨hz,hsm,vs,kv,dm⟩:=Dg I.hok hd;refine kt_call_dict hsm dm (by rw[<-KV.length kv];exact hz) λh' dm' sb=>?_;exact⟨.ref s.heap.objs.size,_,I.laid (h':=h') (t':=s.toks) (λb o e=>(sb.2 b (UF (U5 e))).trans (U3 _ e)) (U9 _) (Ko hz (beq_eq_false_iff_ne.mpr (Ne.symm (UF I.big))) kv dm'),rfl,q _ (I.hok.fresh (U9 _))⟩
end
end L2
namespace Rf
open PySem L2
structure GoodA(X:Cx)(rs:List Expr)(w:WA):Prop where
 pa:PA X rs (liftA X.K w)
 m:MonoA w
section
variable{X:Cx}
theorem Ja:GoodA X [] Di:=⟨NM,.nil⟩
theorem Gg{x:Expr}{xs:List Expr}{a:WE×WT}{b:WA}(ha:Good X x a)(hb:GoodA X xs b)(hs:e6 x=true):GoodA X (x::xs) (Ce a.1 b):=⟨L7 ha.m hb.m ha.pe hb.pa (f9 hs),.cons ha.m hb.m⟩
theorem Jb{rs:List Expr}{j:Nat}{p:Pos}{w:WA}(h:GoodA X rs w):Good X (.Tuple rs j p) (tt1 (wn NO w)) := .one (g9 _ (Q4 h.pa) (NQ h.m)) (.n .tup h.m) rfl
theorem Jc{rs:List Expr}{p:Pos}{w:WA}(h:GoodA X rs w):Good X (.List rs p) (tt1 (wn NP w)) := .one (g9 _ (Q5 h.pa) (NR h.m)) (.n .lst h.m) rfl
theorem Lz{K:U1}{s:Sn}{w:WA}(ms:MonoN s)(m:MonoA w):∀ σ H Q,lift K (wn s w) σ H Q->Oz (spS K s) [] E0 (liftA K w) σ H Q:=by
 rintro σ H Q ⟨as,ρ,S,ok,en,h⟩;refine⟨as,ρ,S,ok,en,m _ _ _ _ (λxs S1 hs as1 H1 vs g1 ok1 rv=>?_) h⟩;show spS K s (vs++[]) H1 Q E0;rw[V8];exact⟨as1,S1,xs,ok1,rv,ms _ _ _ _ (λz S3 hz=>hz.mono g1) hs⟩
theorem Gh{T:List Str}{Δ:Nat->Sn}{k f:Nat}{N:List Str}{sc:Xf}{x:Str}{y:Expr}{ys:List Expr}{p q:Pos}{w:WA}(C:Cok T Δ X k N sc)(hf:T[f]?=some x)(hg:glo sc x=true)(h:GoodA X (y::ys) w)(hy:e6 y=true)(hs:ys.all e6=true):Good X (.Call (.Name x p) (y::ys) [] q) (tt1 (wn (Δ f) w)):=by
 obtain⟨d,ps,hC,hr⟩:=C.call f x hf;obtain⟨fa,fd,F,hm,hk,hb⟩:=hC.ex;unfold glo at hg;simp only[U2,bQ,UN]at hg;have gl:Gl X x:=by show X.env.scope.names.lookup x=_;rw[C.hs];exact hg.1.1
 exact .one (g9 _ (N5 F hr gl hm hk hb .nil SB h.pa hg.2 (f9 hy) (Bb hs)) (Lz (C.mono f) h.m)) (.n (C.mono f) h.m) rfl
theorem Sj:Xb "abs"=some (.builtin "abs"):=by decide +kernel
theorem PJ:Xb "min"=some (.builtin "min"):=by decide +kernel
theorem Sl:Xb "max"=some (.builtin "max"):=by decide +kernel
theorem Sm:Xb "len"=some (.builtin "len"):=by decide +kernel
theorem So:Xb "all"=some (.builtin "all"):=by decide +kernel
theorem PL:Xb "int"=some (.type "int"):=by decide +kernel
theorem EL:Xb "list"=some (.type "list"):=by decide +kernel
theorem Sq:Xb "isinstance"=some (.builtin "isinstance"):=by decide +kernel
theorem PM:Xb "str"=some (.type "str"):=by decide +kernel
theorem Qq:Xb "bool"=some (.type "bool"):=by decide +kernel
theorem Ny:Xb "range"=some (.type "range"):=by decide +kernel
theorem b_set:Xb "set"=some (.type "set"):=by decide +kernel
theorem Hx:Xb "tuple"=some (.type "tuple"):=by decide +kernel
theorem Qr:Xb "repr"=some (.builtin "repr"):=by decide +kernel
theorem M0{T:List Str}{Δ:Nat->Sn}{k:Nat}{N:List Str}{sc:Xf}{b:BI}{y:Expr}{ys:List Expr}{p q:Pos}{w:WA}(C:Cok T Δ X k N sc)(hg:glo sc b.name=true)(h:GoodA X (y::ys) w)(hy:e6 y=true)(hs:ys.all e6=true):Good X (.Call (.Name b.name p) (y::ys) [] q) (tt1 (wn (sBi b) w)):=by
 unfold glo at hg;simp only[U2,bQ,UN]at hg;have gl:Gl X b.name:=by show X.env.scope.names.lookup b.name=_;rw[C.hs];exact hg.1.1
 have hm:=C.bl b;have e1:=f9 (es:=ys) (env:=X.env) hy;have e2:=Bb (env:=X.env) (pos:=q) hs;refine .one (g9 (t:=tCB (rBi X.K b) (liftA X.K w)) _ ?_ (SS Qc .bi h.m)) (.n .bi h.m) rfl;cases b with
 | len=>exact t7 E1 gl hm Sm h.pa (by decide) hg.2 e1 e2
 | abs=>exact t7 KO gl hm Sj h.pa (by decide) hg.2 e1 e2
 | min=>exact t7 (Ip C.calm) gl hm PJ h.pa (by decide) hg.2 e1 e2
 | max=>exact t7 (Io C.calm) gl hm Sl h.pa (by decide) hg.2 e1 e2
 | int=>exact t6 Iq gl hm PL h.pa (by decide) hg.2 e1 e2
 | list=>exact t6 E2 gl hm EL h.pa (by decide) hg.2 e1 e2
 | tuple=>exact t6 DH gl hm Hx h.pa (by decide) hg.2 e1 e2
 | all=>exact t7 (J3 C.calm) gl hm So h.pa (by decide) hg.2 e1 e2
 | any=>exact t7 (JE C.calm) gl hm SN h.pa (by decide) hg.2 e1 e2
 | sorted=>exact t7 (λ_ _ _ _ _ _ _ _ _ h=>False.elim h) gl hm Kl h.pa (by decide) hg.2 e1 e2
 | isi=>exact t7 (call_isi1.or J2) gl hm Sq h.pa (by decide) hg.2 e1 e2
 | repr=>exact t7 (GO C.gd (VL (Vs (by decide) _) C.un)) gl hm Qr h.pa (by decide) hg.2 e1 e2
 | str=>exact t6 (λ_ _ _ _ _ _ _ _ _ h=>False.elim h) gl hm PM h.pa (by decide) hg.2 e1 e2
theorem Mono.mt{m:MT}{a:WE}{b:WA}(ma:Mono a)(mb:MonoA b):Mono (wMt m a b):=λρ S P P' i h=>ma _ _ _ _ (λx S1 ⟨e,h⟩=>⟨e,mb _ _ _ _ (λxs S2 h=>EB _ _ _ _ i h) h⟩) h
theorem p8{ro:Expr}{nm:Str}{env:Env}{wh:Sem XR}(h:u9 ro=true):Y9 ro nm env wh=wh:=by
 unfold Y9;split
 ·cases h
 ·rfl
theorem M1{K:U1}{as:List XU}{H:Hp}{S:Sto}{k:Nat}{v:V}{xs:List SV}(ok:Ok K as H S)(r:Rl K as H v (.loc k))(hs:S[k]?=some (.lst xs)):tyV K "list" v H:=by
 obtain⟨a,vs,rfl,_,h1,_⟩:=l8 ok r hs;exact .inl ⟨rfl,_,SqL.of h1⟩
theorem Qs{K:U1}{m:MT}{a:WE}{b:WA}(ma:Mono a)(mb:MonoA b):∀ σ H Q,lift K (wMt m a b) σ H Q->tBM K "list" (rMt m) (lift K a) (liftA K b) σ H Q:=by
 rintro σ H Q ⟨as,ρ,S,ok,en,h⟩;refine⟨as,ρ,S,ok,en,ma _ _ _ _ (λx S1 ⟨⟨j,zs,e,hz⟩,h⟩ as1 H1 v g1 ok1 rv=>?_) h⟩;subst e;refine⟨M1 ok1 rv hz,as1,ρ,S1,ok1,en.mono g1.pre (g1.ku ok),mb _ _ _ _ (λxs S2 h as2 H2 vs g2 ok2 rs=>?_) h⟩;exact LK ok2 (Rl.mono g2.pre (g2.ku ok1) _ v rv) rs (EB _ _ _ _ (λz S3 hz=>hz.mono (g1.trans g2)) h)
theorem Nz{K:U1}{m:MT}{a:WE}(ma:Mono a):∀ σ H Q,lift K (wMt m a Di) σ H Q->QA K "list" (rMt m) (lift K a) σ H Q:=by
 rintro σ H Q ⟨as,ρ,S,ok,en,h⟩;refine⟨as,ρ,S,ok,en,ma _ _ _ _ (λx S1 ⟨⟨j,zs,e,hz⟩,h⟩ as1 H1 v g1 ok1 rv=>?_) h⟩;subst e;exact⟨M1 ok1 rv hz,LK ok1 rv .nil (EB _ _ _ _ (λz S3 hz=>hz.mono g1) h)⟩
theorem M3{m:MT}{ro y:Expr}{ys:List Expr}{ap cp:Pos}{a:WE×WT}{b:WA}(ha:Good X ro a)(hb:GoodA X (y::ys) b)(hn:u9 ro=true)(hl:(ap.endLine == cp.line)=true)(hk:(y::ys).length<29)(hy:e6 y=true)(hs:ys.all e6=true):Good X (.Call (.Attribute ro m.name ap) (y::ys) [] cp) (tt1 (wMt m a.1 b)):=by
 have e1:=f9 (es:=ys) (env:=X.env) hy;have e2:=Bb (env:=X.env) (pos:=cp) hs
 have e3:((backTo cp (Xa (y::ys) X.env)).all (λx=>!x.1)&&(YU cp (YB [] X.env)).all (λx=>x.1.isSome)
  && decide ((y::ys).length+([]:List Keyword).length+(if ([]:List Keyword).isEmpty then 0 else 1)<30))=true:=by
  rw[Dj (by rw[V2,hy,hs];rfl)];simp only[XA,U2,dQ];exact⟨rfl,by show(y::ys).length+0+0<30;omega⟩
 refine .one (g9 (t:=tBM X.K "list" (rMt m) (lift X.K a.1) (liftA X.K b)) _ ?_ (Qs ha.m hb.m)) (.mt ha.m hb.m) rfl;cases m with
 | append=>exact Kc PySem.F.plainAttrs_list PySem.F.slot_list_append PySem.F.type_list_append Bj ha.pe hb.pa (p8 hn) e3 hl e1 e2
 | extend=>exact Kc PySem.F.plainAttrs_list PySem.F.slot_list_extend PySem.F.type_list_extend Da ha.pe hb.pa (p8 hn) e3 hl e1 e2
 | insert=>exact Kc PySem.F.plainAttrs_list PySem.F.slot_list_insert PySem.F.type_list_insert Dc ha.pe hb.pa (p8 hn) e3 hl e1 e2
theorem Jd{m:MT}{ro:Expr}{ap cp:Pos}{a:WE×WT}(ha:Good X ro a)(hn:u9 ro=true)(hl:(ap.endLine == cp.line)=true):Good X (.Call (.Attribute ro m.name ap) [] [] cp) (tt1 (wMt m a.1 Di)):=by
 refine .one (g9 (t:=QA X.K "list" (rMt m) (lift X.K a.1)) _ ?_ (Nz ha.m)) (.mt ha.m .nil) rfl;cases m with
 | append=>exact GG PySem.F.plainAttrs_list PySem.F.slot_list_append PySem.F.type_list_append Bj ha.pe (p8 hn) hl
 | extend=>exact GG PySem.F.plainAttrs_list PySem.F.slot_list_extend PySem.F.type_list_extend Da ha.pe (p8 hn) hl
 | insert=>exact GG PySem.F.plainAttrs_list PySem.F.slot_list_insert PySem.F.type_list_insert Dc ha.pe (p8 hn) hl
theorem Je{T:List Str}{Δ:Nat->Sn}{k:Nat}{N:List Str}{sc:Xf}{t:TyN}{p:Pos}(C:Cok T Δ X k N sc)(hg:glo sc (Str.ofString t.nm)=true)(ht:t ≠ .none):Good X (.Name (Str.ofString t.nm) p) (tt1 (wC (.ty t))):=by
 unfold glo at hg;simp only[U2,bQ,UN]at hg;have gl:Gl X (Str.ofString t.nm):=by show X.env.scope.names.lookup _=_;rw[C.hs];exact hg.1.1
 have b:Xb (Str.ofString t.nm)=some (.type t.nm):=by cases t<;>first | exact PL | exact Qq | exact PM | exact EL | exact Hx | exact absurd rfl ht
 exact .one (g9 _ (Mw (v := .ty t.nm) gl (C.ty t ht) b rfl (by cases t<;>first | decide | exact absurd rfl ht) hg.2) (Ez λ_ _=>rl_ty.mpr rfl)) .c rfl
theorem Qt{K:U1}{as:List XU}{H:Hp}{lo hi:Int}:RlAll K as H (J5 lo (hi - lo).toNat) (Al lo hi):=by
 unfold J5 Al
 induction U7 (hi - lo).toNat with
 | nil=>exact .nil
 | cons i r ih=>exact .cons (rl_int.mpr rfl) ih
theorem Cs{a:WE}(m:Mono a):Mono (GW a):=λρ S P P' i h=>m _ _ _ _ (λx S1 ⟨j,e,z,q⟩=>⟨j,e,z,i _ _ q⟩) h
theorem FG{T:List Str}{Δ:Nat->Sn}{k:Nat}{N:List Str}{sc:Xf}{r:Expr}{p p2 q q2:Pos}{a:WE×WT}(C:Cok T Δ X k N sc)(hg:glo sc "list"=true)(hg2:glo sc "range"=true)(ha:Good X r a)(hs:e6 r=true):Good X (.Call (.Name "list" p) [.Call (.Name "range" p2) [r] [] q2] [] q) (tt1 (GW a.1)):=by
 unfold glo at hg hg2;simp only[U2,bQ,UN]at hg hg2;have gl:Gl X "list":=by show X.env.scope.names.lookup ("list":Str)=_;rw[C.hs];exact hg.1.1
 have gr:Gl X "range":=by show X.env.scope.names.lookup ("range":Str)=_;rw[C.hs];exact hg2.1.1
 have e1:=t6 (p:=p2) (pos:=q2) J4 gr C.rng Ny (l9 ha.pe AC (f9 hs)) (by decide) hg2.2 (f9 hs) rfl;refine .one (g9 _ (t6 (p:=p) (pos:=q) (E4 C.calm) gl (C.bl .list) EL (l9 e1 AC rfl) (by decide) hg.2 rfl rfl) ?_) (Cs ha.m) rfl;rintro σ H Q ⟨as,ρ,S,ok,en,h⟩;refine⟨as,ρ,S,ok,en,ha.m _ _ _ _ (λx S1 ⟨j,e,z,q⟩ as1 H1 v g1 ok1 rv=>?_) h⟩;subst e;refine⟨j,by rw[rl_int.mp rv],λp hp=>⟨p,0,j,rfl,g8,by decide,by decide,z.1,by omega,by omega,?_⟩⟩;exact w9 (ok1.new hp) Qt (q.mono (g1.trans (Go.new hp)))
theorem C5{a:WE}(m:Mono a):Mono (EG a):=λρ S P P' i h=>m _ _ _ _ (λx S1 ⟨xs,ns,a,b,c,d,q⟩=>⟨xs,ns,a,b,c,d,i _ _ q⟩) h
theorem C6{a:WE}(m:Mono a):Mono (EH a):=λρ S P P' i h=>m _ _ _ _ (λx S1 ⟨xs,ns,b,c,d,q⟩=>⟨xs,ns,b,c,d,i _ _ q⟩) h
theorem Dl{a:WE}(m:Mono a):Mono (Lb a):=λρ S P P' i h=>m _ _ _ _ (λx S1 ⟨xs,ns,b,c,d,q⟩=>⟨xs,ns,b,c,d,i _ _ q⟩) h
theorem RlD.length{K:U1}{as:List XU}{H:Hp}:∀{kvs:List (Int×SV)} {ks:List (Key×V)},RlD K as H ks kvs->ks.length=kvs.length
 | [],_,h=>by rw[show _=[] from h];rfl
 | p::r,_,⟨v,t,e,_,h⟩=>by rw[e,Uq,Uq,RlD.length h]
theorem RlAll.perm{K:U1}{as:List XU}{H:Hp}{ws ws':List V}(p:ws'.Perm ws):∀{xs:List SV},RlAll K as H ws xs->∃ xs',RlAll K as H ws' xs'/\xs'.Perm xs:=by
 induction p with
 | nil=>exact λ{xs} r=>⟨xs,r,.refl _⟩
 | cons v _ ih=>
   intro xs r;cases xs with
   | nil=>exact absurd (show _::_=[] from r) (WJ _ _)
   | cons x xs=>
     obtain⟨_,_,e,r1,r2⟩:=r;cases e;obtain⟨xs',r',p'⟩:=ih r2;exact⟨x::xs',⟨_,_,rfl,r1,r'⟩,.cons _ p'⟩
 | swap u v l=>
   intro xs r;cases xs with
   | nil=>exact absurd (show _::_=[] from r) (WJ _ _)
   | cons x xs=>
     obtain⟨_,_,e,r1,r2⟩:=r;cases e;cases xs with
     | nil=>exact absurd (show _::_=[] from r2) (WJ _ _)
     | cons y xs=>
       obtain⟨_,_,e,r3,r4⟩:=r2;cases e;exact⟨y::x::xs,⟨_,_,rfl,r3,_,_,rfl,r1,r4⟩,.swap ..⟩
 | trans _ _ ih1 ih2=>
   intro xs r;obtain⟨x2,r2,p2⟩:=ih2 r;obtain⟨x1,r1,p1⟩:=ih1 r2;exact⟨x1,r1,p1.trans p2⟩
theorem EM{T:List Str}{Δ:Nat->Sn}{k:Nat}{N:List Str}{sc:Xf}{r:Expr}{p p2 q q2:Pos}{a:WE×WT}(C:Cok T Δ X k N sc)(hg:glo sc "len"=true)(hg2:glo sc "set"=true)(ha:Good X r a)(hs:e6 r=true):Good X (.Call (.Name "len" p) [.Call (.Name "set" p2) [r] [] q2] [] q) (tt1 (EG a.1)):=by
 unfold glo at hg hg2;simp only[U2,bQ,UN]at hg hg2;have gl:Gl X "len":=by show X.env.scope.names.lookup ("len":Str)=_;rw[C.hs];exact hg.1.1
 have gr:Gl X "set":=by show X.env.scope.names.lookup ("set":Str)=_;rw[C.hs];exact hg2.1.1
 refine .one (g9 _ (J8 C.calm gl (C.bl .len) gr C.st0 ha.pe (f9 hs) rfl rfl rfl) ?_) (C5 ha.m) rfl;rintro σ H Q ⟨as,ρ,S,ok,en,h⟩;refine⟨as,ρ,S,ok,en,ha.m _ _ _ _ (λx S1 ⟨xs,ns,h0,h1,h2,h3,q⟩ as1 H1 v g1 ok1 rv=>?_) h⟩;obtain⟨a,us,rfl,hq,rr⟩:=A8 ok1 rv h0 h1;rw[CJ h2 rr]at hq;exact⟨a,ns,rfl,hq,by unfold Xx;omega,q as1 H1 _ g1 ok1 (rl_int.mpr rfl)⟩
theorem EN{T:List Str}{Δ:Nat->Sn}{k:Nat}{N:List Str}{sc:Xf}{r:Expr}{p p2 q q2:Pos}{a:WE×WT}(C:Cok T Δ X k N sc)(hg:glo sc "sorted"=true)(hg2:glo sc "set"=true)(ha:Good X r a)(hs:e6 r=true):Good X (.Call (.Name "sorted" p) [.Call (.Name "set" p2) [r] [] q2] [] q) (tt1 (EH a.1)):=by
 unfold glo at hg hg2;simp only[U2,bQ,UN]at hg hg2;have gl:Gl X "sorted":=by show X.env.scope.names.lookup ("sorted":Str)=_;rw[C.hs];exact hg.1.1
 have gr:Gl X "set":=by show X.env.scope.names.lookup ("set":Str)=_;rw[C.hs];exact hg2.1.1
 refine .one (g9 _ (FF C.calm gl (C.bl .sorted) gr C.st0 ha.pe (f9 hs) rfl rfl rfl) ?_) (C6 ha.m) rfl;rintro σ H Q ⟨as,ρ,S,ok,en,h⟩;refine⟨as,ρ,S,ok,en,ha.m _ _ _ _ (λx S1 ⟨xs,ns,h1,h2,h3,q⟩ as1 H1 v g1 ok1 rv=>?_) h⟩;obtain⟨a,us,rfl,hq,rr⟩:=Bq ok1 rv h1;rw[CJ h2 rr]at hq;exact⟨a,ns,rfl,hq,h3,w9 ok1 RlAll.ints (q.mono g1)⟩
theorem Gi{T:List Str}{Δ:Nat->Sn}{k:Nat}{N:List Str}{sc:Xf}{r:Expr}{p q:Pos}{a:WE×WT}(C:Cok T Δ X k N sc)(hg:glo sc "set"=true)(ha:Good X r a)(hs:e6 r=true):Good X (.Call (.Name "set" p) [r] [] q) (tt1 (Lb a.1)):=by
 unfold glo at hg;simp only[U2,bQ,UN]at hg;have gl:Gl X "set":=by show X.env.scope.names.lookup ("set":Str)=_;rw[C.hs];exact hg.1.1
 refine .one (g9 _ (t6 (JF C.calm) gl C.st0 b_set (l9 ha.pe AC (f9 hs)) (by decide) hg.2 (f9 hs) rfl) ?_) (Dl ha.m) rfl;rintro σ H Q ⟨as,ρ,S,ok,en,h⟩;refine⟨as,ρ,S,ok,en,ha.m _ _ _ _ (λx S1 ⟨xs,ns,h1,h2,h3,q⟩ as1 H1 v g1 ok1 rv=>?_) h⟩;obtain⟨a,us,rfl,hq,rr⟩:=Bq ok1 rv h1;rw[CJ h2 rr]at hq;refine⟨a,ns,rfl,hq,h3,λl hl=>?_⟩;have ok2:Ok X.K (as1++[l]) (upd H1 l (.set (λk=>decide (k∈ns)) (BE ns).length)) (S1++[.iset (n8 ns)]):=ok1.pushO hl ⟨_,g8,λk=>by rw[decide_eq_decide];exact(BZ ns k).symm⟩;exact q _ _ _ (g1.trans (Go.push hl)) ok2 (rl_loc.mpr ⟨l,by rw[<-ok1.len];exact UX,rfl⟩)
end
section
variable{K:U1}{as:List XU}{H:Hp}{S:Sto}
theorem RlD.get:∀{kvs:List (Int×SV)} {ks:List (Key×V)} {i:Nat} {p:Int×SV},RlD K as H ks kvs->kvs[i]?=some p->∃ v,ks[i]?=some (.inl p.1,v)
 | q::r,_,0,p,⟨v,t,e,_,_⟩,hp=>by cases hp;subst e;exact⟨v,rfl⟩
 | q::r,_,i+1,p,⟨v,t,e,_,h⟩,hp=>by
   subst e;obtain⟨u,hu⟩:=RlD.get (i:=i) h (show r[i]?=some p from hp);exact⟨u,hu⟩
theorem RlD.val:∀{kvs:List (Int×SV)} {ks:List (Key×V)},RlD K as H ks kvs->∀ i,(∃ x v,CC kvs i=some x/\A7 ks (.inl i)=some v/\Rl K as H v x)\/(CC kvs i=none/\A7 ks (.inl i)=none)
 | [],_,h,i=>by rw[show _=[] from h];exact .inr ⟨rfl,rfl⟩
 | p::r,_,⟨v,t,e,h1,h2⟩,i=>by
   subst e;by_cases hp:p.1=i
   ·refine .inl ⟨p.2,v,?_,?_,h1⟩
    ·unfold CC;rw[WQ (by simp[hp])];rfl
    ·unfold A7;rw[WQ (by simp[hp])];rfl
   ·have e1:CC (p::r) i=CC r i:=by unfold CC;rw[WR (by simp[hp])]
    have e2:A7 ((Sum.inl p.1,v)::t) (Sum.inl i)=A7 t (Sum.inl i):=by unfold A7;rw[WR (by simp[hp])]
    rw[e1,e2];exact RlD.val h2 i
theorem RlD.any:∀{kvs:List (Int×SV)} {ks:List (Key×V)},RlD K as H ks kvs->∀ i,(ks.any λkv=>decide (kv.1=Sum.inl i))=kvs.any λp=>decide (p.1=i)
 | [],_,h,i=>by rw[show _=[] from h];rfl
 | p::r,_,⟨v,t,e,h1,h2⟩,i=>by
   subst e;rw[VB,VB,RlD.any h2 i]
   congr 1
   simp
theorem RlD.set{v:V}{x:SV}(rv:Rl K as H v x):∀{kvs:List (Int×SV)} {ks:List (Key×V)},RlD K as H ks kvs->∀ i,RlD K as H (ks.map λkv=>if kv.1=Sum.inl i then (kv.1,v) else kv) (kvs.map λp=>if p.1=i then (p.1,x) else p)
 | [],_,h,i=>by rw[show _=[] from h];rfl
 | p::r,_,⟨u,t,e,h1,h2⟩,i=>by
   subst e;rw[UT,UT];by_cases hp:p.1=i
   ·rw[iP hp,iP (by rw[hp])];exact⟨v,_,rfl,rv,RlD.set rv h2 i⟩
   ·rw[iG hp,iG (λz=>hp (Sum.inl.inj z))];exact⟨u,_,rfl,h1,RlD.set rv h2 i⟩
theorem RlD.snoc{v:V}{x:SV}(rv:Rl K as H v x)(i:Int):∀{kvs:List (Int×SV)} {ks:List (Key×V)},RlD K as H ks kvs->RlD K as H (ks++[(Sum.inl i,v)]) (kvs++[(i,x)])
 | [],_,h=>by rw[show _=[] from h];exact⟨v,[],rfl,rv,rfl⟩
 | p::r,_,⟨u,t,e,h1,h2⟩=>by subst e;exact⟨u,_,rfl,h1,RlD.snoc rv i h2⟩
theorem RlD.put{kvs:List (Int×SV)}{ks:List (Key×V)}{v:V}{x:SV}(h:RlD K as H ks kvs)(rv:Rl K as H v x)(i:Int):RlD K as H (AU ks (Sum.inl i) v) (Cl kvs i x):=by
 unfold AU Cl;rw[h.any i];by_cases z:(kvs.any λp=>decide (p.1=i))=true
 ·rw[iP z,iP z];exact h.set rv i
 ·rw[iG z,iG z];exact h.snoc rv i
theorem Gj{x:SV}{v:V}{kvs:List (Int×SV)}(ok:Ok K as H S)(r:Rl K as H v x)(h:Br x S=some kvs):∃ a k ks,x = .loc k/\v = .ref a/\as[k]?=some a/\Rd H a (.dK ks)/\RlD K as H ks kvs:=by
 cases x with
 | loc k=>
   obtain⟨a,ea,rfl⟩:=rl_loc.mp r;unfold Br at h;cases hs:S[k]? with
   | none=>simp only[hs]at h;cases h
   | some o=>
     have ro:=ok.obj k o a hs ea;cases o with
     | lst _=>simp only[hs]at h;cases h
     | iset _=>simp only[hs]at h;cases h
     | dtp _=>simp only[hs]at h;cases h
     | dct kv=>simp only[hs]at h;cases h;obtain⟨ks,h1,h2⟩:=ro;exact⟨a,k,ks,rfl,rfl,ea,.inl h1,h2⟩
     | dcf o ks kv=>simp only[hs]at h;cases h;exact⟨a,k,ks,rfl,rfl,ea,.inr ⟨o,ro.1⟩,ro.2⟩
 | _=>cases h
theorem Af{n:Bool}:Mono2 (JO n):=λx y S P P' i ⟨kvs,j,a,b,q⟩=>⟨kvs,j,a,b,i _ _ q⟩
theorem CM{n:Bool}:Aw K (JO n) (λy x H Q=>∃ a o,x = .ref a/\Kn H a y o/\Q (.bl (if n then !o.isSome else o.isSome)) H):=λas H S y x u v Q ok ry rx h=>by
 obtain⟨kvs,i,h1,rfl,q⟩:=h;obtain⟨a,k,ks,rfl,rfl,ea,rd,rr⟩:=Gj ok rx h1;rw[rl_int]at ry;subst ry
 have e:(A7 ks (Sum.inl i)).isSome=(CC kvs i).isSome:=by
  rcases rr.val i with⟨x',v',e1,e2,r'⟩ | ⟨e1,e2⟩<;>rw[e1,e2]<;>rfl
 refine⟨a,_,rfl,.inl ⟨ks,.inl i,rd,rfl,rfl⟩,?_⟩;rw[e];exact q.here ok (rl_bl.mpr rfl)
end
section
variable{X:Cx}
theorem Bs:Mono Ld:=λρ S P P' i h=>i _ _ h
theorem Gk{p:Pos}:Good X (.Dict [] [] p) (tt1 Ld):=
 .one (g9 _ Ks (λσ H Q ⟨as,ρ,S,ok,en,h⟩=>λl hl=>h _ _ _ (Go.push hl) (ok.pushO hl ⟨[],g8,rfl⟩) (rl_loc.mpr ⟨l,by rw[<-ok.len];exact UX,rfl⟩))) Bs rfl
theorem Qu:Xb "dict"=some (.type "dict"):=by decide +kernel
theorem Jf{n:Bool}{x y:Expr}{p:Pos}{a b:WE×WT}(hu:X.A.units+1<cLine)(ha:Good X x a)(hb:Good X y b)(h:u8 y=true):Good X (.Compare x [if n then .NotIn else .In] [y] p) (tt2 (w2 (JO n) a.1 b.1)):=by
 have m:Mono (w2 (JO n) a.1 b.1) := .two Af ha.m hb.m;cases n with
 | false=>exact{pe:=g9 _ (K2 (Kp hu ha.pe hb.pe) (v0 h)) (w5 CM Af ha.m hb.m)
                pt:=BJ _ (K3 (Kp hu ha.pe hb.pe) (v0 h)) λσ H Q h=>w5 CM Af ha.m hb.m σ H _ (Co m σ H Q h)
                m:=m
                mt := .bl m
                pw:=λ_ _ _ e=>by cases e}
 | true=>exact{pe:=g9 _ (K2 (Dh hu ha.pe hb.pe) (v0 h)) (w5 CM Af ha.m hb.m)
               pt:=BJ _ (K3 (Dh hu ha.pe hb.pe) (v0 h)) λσ H Q h=>w5 CM Af ha.m hb.m σ H _ (Co m σ H Q h)
               m:=m
               mt := .bl m
               pw:=λ_ _ _ e=>by cases e}
end
section
variable{K:U1}{as:List XU}{H:Hp}{S:Sto}
theorem B5:Mono2 F3:=λx y S P P' i ⟨xs,a,b,q⟩=>⟨xs,a,b,i _ _ q⟩
theorem FH:Aw K F3 (λx y H Q=>∃ a b xs,x = .ref a/\y = .ref b/\SqT K H a xs/\SqT K H b []/\Q (.bl xs.isEmpty) H):=λas H S x y v u Q ok rx ry h=>by
 obtain⟨xs,rfl,rfl,q⟩:=h;obtain⟨a,vs,rfl,hv,rv⟩:=rl_tup.mp rx;obtain⟨b,ws,rfl,hw,rw'⟩:=rl_tup.mp ry;obtain rfl:=rla_nil.mp rw';have e:vs.isEmpty=xs.isEmpty:=by have:=rv.length;cases vs<;>cases xs<;>first | rfl | (simp at this)
 refine⟨a,b,vs,rfl,rfl,SqT.of hv,SqT.of hw,?_⟩;rw[e];exact q.here ok (rl_bl.mpr rfl)
end
section
variable{X:Cx}
theorem Gm{ra rb:Expr}{p:Pos}{wa wb:WE}(hu:X.A.units+1<cLine)(ha:PE X ra (lift X.K wa))(hb:PE X rb (lift X.K wb))(ma:Mono wa)(mb:Mono wb)(hn:u8 rb=true):Good X (.Compare ra [.Eq] [rb] p) (tt2 (w2 F3 wa wb)):=by
 have m:Mono (w2 F3 wa wb) := .two B5 ma mb
 exact{pe:=g9 _ (HW (Hk (by omega)) ha hb (v0 hn)) (w5 FH B5 ma mb)
       pt:=BJ _ (HX (Hk (by omega)) ha hb (v0 hn)) λσ H Q h=>w5 FH B5 ma mb σ H _ (Co m σ H Q h)
       m:=m
       mt := .bl m
       pw:=λ_ _ _ e=>by cases e}
end
theorem Ct{a:WE}(m:Mono a):Mono (GX a):=λρ S P P' i h=>m _ _ _ _ (λx S1 ⟨kvs,b,q⟩=>⟨kvs,b,i _ _ q⟩) h
theorem Cu{a:WE}(m:Mono a):Mono (GY a):=λρ S P P' i h=>m _ _ _ _ (λx S1 ⟨kvs,b,q⟩=>⟨kvs,b,i _ _ q⟩) h
theorem RlD.vals{K:U1}{as:List XU}{H:Hp}:∀{kvs:List (Int×SV)} {ks:List (Key×V)},RlD K as H ks kvs->RlAll K as H (ks.map (·.2)) (kvs.map (·.2))
 | [],_,h=>by rw[show _=[] from h];rfl
 | p::r,_,⟨v,t,e,a,h⟩=>by rw[e];exact⟨v,_,rfl,a,RlD.vals h⟩
theorem RlD.at{K:U1}{as:List XU}{H:Hp}:∀{kvs:List (Int×SV)} {ks:List (Key×V)} {i:Nat} {p:Int×SV},RlD K as H ks kvs->kvs[i]?=some p->∃ v,ks[i]?=some (.inl p.1,v)/\Rl K as H v p.2
 | [],_,i,p,_,hp=>by simp at hp
 | p::r,_,0,_,⟨v,t,e,a,h⟩,hp=>by cases hp;exact⟨v,by rw[e];rfl,a⟩
 | p::r,_,i+1,_,⟨v,t,e,a,h⟩,hp=>by
   obtain⟨u,hu,ru⟩:=RlD.at (i:=i) h hp;exact⟨u,by rw[e];exact hu,ru⟩
theorem FI{X:Cx}{T:List Str}{Δ:Nat->Sn}{k:Nat}{N:List Str}{sc:Xf}{r:Expr}{p q ap cp:Pos}{a:WE×WT}(C:Cok T Δ X k N sc)(hg:glo sc "list"=true)(ha:Good X r a)(hn:u9 r=true)(hl:(ap.endLine == cp.line)=true):Good X (.Call (.Name "list" p) [.Call (.Attribute r "values" ap) [] [] cp] [] q) (tt1 (GX a.1)):=by
 unfold glo at hg;simp only[U2,bQ,UN]at hg;have gl:Gl X "list":=by show X.env.scope.names.lookup ("list":Str)=_;rw[C.hs];exact hg.1.1
 refine .one (g9 _ (Ly C.calm gl (C.bl .list) EL ha.pe (p8 hn) hl rfl) ?_) (Ct ha.m) rfl;rintro σ H Q ⟨as,ρ,S,ok,en,h⟩;refine⟨as,ρ,S,ok,en,ha.m _ _ _ _ (λx S1 ⟨kvs,h1,q⟩ as1 H1 v g1 ok1 rv=>?_) h⟩;obtain⟨a,k,ks,rfl,rfl,ea,rd,rr⟩:=Gj ok1 rv h1;exact⟨a,ks,rfl,rd,w9 ok1 (RlD.vals rr) (q.mono g1)⟩
theorem FJ{X:Cx}{T:List Str}{Δ:Nat->Sn}{k:Nat}{N:List Str}{sc:Xf}{r:Expr}{p q:Pos}{a:WE×WT}(C:Cok T Δ X k N sc)(hg:glo sc "dict"=true)(ha:Good X r a)(hs:e6 r=true):Good X (.Call (.Name "dict" p) [r] [] q) (tt1 (GY a.1)):=by
 unfold glo at hg;simp only[U2,bQ,UN]at hg;have gl:Gl X "dict":=by show X.env.scope.names.lookup ("dict":Str)=_;rw[C.hs];exact hg.1.1
 refine .one (g9 _ (t6 Gf gl C.dc0 Qu (l9 ha.pe AC (f9 hs)) (by decide) hg.2 (f9 hs) rfl) ?_) (Cu ha.m) rfl;rintro σ H Q ⟨as,ρ,S,ok,en,h⟩;refine⟨as,ρ,S,ok,en,ha.m _ _ _ _ (λx S1 ⟨kvs,h1,q⟩ as1 H1 v g1 ok1 rv=>?_) h⟩;obtain⟨a,k,ks,rfl,rfl,ea,rd,rr⟩:=Gj ok1 rv h1;exact⟨a,ks,rfl,rd,λl hl=>q _ _ _ (g1.trans (Go.push hl)) (ok1.pushO hl ⟨_,g8,RlD.mono (VN _ _) (n6 hl) kvs ks rr⟩) (rl_loc.mpr ⟨l,by rw[<-ok1.len];exact UX,rfl⟩)⟩
theorem Dm{a d:WE}(m:Mono a)(m':Mono d):Mono (LZ a d):=λρ S P P' i h=>m _ _ _ _ (λx S1 h=>m' _ _ _ _ (λy S2 ⟨k,ps,a,b,c,q0,q⟩=>⟨k,ps,a,b,c,λe=>i _ _ (q0 e),λp hp=>i _ _ (q p hp)⟩) h) h
theorem Do{d e v:WE}(m:Mono d)(m1:Mono e)(m2:Mono v):Mono (La d e v):=λρ S P P' i h=>m _ _ _ _ (λx S1 ⟨k,kv0,a,b,h⟩=>⟨k,kv0,a,b,m1 _ _ _ _ (λy S2 h=>m2 _ _ _ _ (λz S3 ⟨i1,j,m,kvs,a,b,c,d,q0,q1⟩=>⟨i1,j,m,kvs,a,b,c,d,λn e=>i _ _ (q0 n e),λe=>i _ _ (q1 e)⟩) h) h⟩) h
theorem BM:Mono GZ:=λρ S P P' i h=>i _ _ h
theorem FK{X:Cx}{p:Pos}:Good X (.Dict [] [] p) (tt1 GZ):=
 .one (g9 _ Kt (λσ H Q ⟨as,ρ,S,ok,en,h⟩=>λl hl=>h _ _ _ (Go.push hl) (ok.pushO hl (show RlO _ _ _ _ (.dtp []) from g8)) (rl_loc.mpr ⟨l,by rw[<-ok.len];exact UX,rfl⟩))) BM rfl
theorem EO(k:Int×Int):∀ kvs:List ((Int×Int)×Int),A7 (dtV kvs) [.inl k.1,.inl k.2]=(dpv kvs k).map V.int
 | []=>rfl
 | p::r=>by
   have ih:=EO k r;by_cases e:p.1=k
   ·rw[show dtV (p::r)=([.inl p.1.1,.inl p.1.2],V.int p.2)::dtV r from rfl,BV (by rw[e])];unfold dpv;rw[Uw,decide_eq_true e];rfl
   ·rw[show dtV (p::r)=([.inl p.1.1,.inl p.1.2],V.int p.2)::dtV r from rfl,BW (λz=>e (by
     have z:([.inl p.1.1,.inl p.1.2]:List Key)=[.inl k.1,.inl k.2]:=z;injection z with z1 z2;injection z2 with z2 _;injection z1 with z1;injection z2 with z2;exact Prod.ext z1 z2)),ih]
    unfold dpv;rw[Uw,decide_eq_false e]
theorem Gn{X:Cx}{ro r r2:Expr}{ap cp:Pos}{d e v:WE×WT}(hu:X.A.units+1<cLine)(hd:Good X ro d)(he:Good X r e)(hv:Good X r2 v)(hn:u9 ro=true)(hl:(ap.endLine == cp.line)=true)(hs:e6 r=true)(hs2:e6 r2=true):Good X (.Call (.Attribute ro "setdefault" ap) [r,r2] [] cp) (tt1 (La d.1 e.1 v.1)):=by
 refine .one (g9 _ (Nf hu hd.pe he.pe hv.pe ⟨p8 hn,by rw[f9 hs,f9 hs2];rfl,hl,by rw[f9 hs,f9 hs2];rfl⟩) ?_) (Do hd.m he.m hv.m) rfl;rintro σ H Q ⟨as,ρ,S,ok,en,h⟩;refine⟨as,ρ,S,ok,en,hd.m _ _ _ _ (λx S1 ⟨k,kv0,e0,hk,h⟩ as1 H1 w g1 ok1 rw1=>?_) h⟩;subst e0;obtain⟨a,ea,rfl⟩:=rl_loc.mp rw1;have h1:H1 a=some (.dT (dtV kv0)):=ok1.obj k _ a hk ea;have en1:=en.mono g1.pre (g1.ku ok);refine⟨a,rfl,.inr ⟨_,.inl h1⟩,as1,ρ,S1,ok1,en1,he.m _ _ _ _ (λy S2 h as2 H2 w2 g2 ok2 rw2=>?_) h⟩;refine⟨as2,ρ,S2,ok2,en1.mono g2.pre (g2.ku ok1),hv.m _ _ _ _ (λz S3 ⟨i,j,m,kvs,e1,e2,hk3,hb,q0,q1⟩ as3 H3 w3 g3 ok3 rw3=>?_) h⟩;subst e1;subst e2;have ea3:=E5 g3.pre (E5 g2.pre ea);have h3:H3 a=some (.dT (dtV kvs)):=ok3.obj k _ a hk3 ea3;obtain⟨p,vs,rfl,hp,rp⟩:=rl_tup.mp (Rl.mono g3.pre (g3.ku ok2) _ _ rw2);obtain⟨u1,u2,rfl,r1,r2⟩:=JL rp;rw[rl_int]at r1 r2 rw3;subst r1;subst r2;subst rw3;have G:=g1.trans (g2.trans g3);have len:(dtV kvs).length=kvs.length:=U4 ..;refine⟨dtV kvs,[.inl i,.inl j],p,rfl,h3,hp,by rw[len];exact UP hb (Aa (U9 _)),λu hu'=>?_,λhu'=>?_⟩
 ·rw[EO (i,j)]at hu';obtain⟨n,hn',rfl⟩:=Vl.mp hu';exact q0 n hn' as3 H3 _ G ok3 (rl_int.mpr rfl)
 ·have hu2:=hu';rw[EO (i,j)]at hu';have e:dpv kvs (i,j)=none:=WU.mp hu';rw[Km _ hu2]
  obtain⟨ok4,ku⟩:=ok3.writeO (x := .dtp (kvs++[((i,j),m)])) (u := .dT (dtV kvs++[([.inl i,.inl j],V.int m)])) hk3 ea3 (λ_=>by
   show upd _ _ _ a=some (.dT (dtV (kvs++[((i,j),m)])));rw[g8];unfold dtV;rw[UQ];rfl)
  exact q1 e as3 _ _ (G.trans (Go.write (UC ea3))) ok4 (rl_int.mpr rfl)
theorem Gp{X:Cx}{T:List Str}{Δ:Nat->Sn}{k:Nat}{N:List Str}{sc:Xf}{r u:Expr}{p q kp:Pos}{a d:WE×WT}(hu:X.A.units+1<cLine)(C:Cok T Δ X k N sc)(hg:glo sc "min"=true)(ha:Good X r a)(hd:Good X u d)(hs:e6 r=true):Good X (.Call (.Name "min" p) [r] [⟨some "default",u,kp⟩] q) (tt1 (LZ a.1 d.1)):=by
 unfold glo at hg;simp only[U2,bQ,UN]at hg;have gl:Gl X "min":=by show X.env.scope.names.lookup ("min":Str)=_;rw[C.hs];exact hg.1.1
 refine .one (g9 _ (JM (JN C.calm hu) gl (C.bl .min) PJ (l9 ha.pe AC (f9 hs)) (N6 hd.pe Q7) rfl (by decide) hg.2 (by rw[f9 hs];rfl) (by rw[f9 hs];rfl) rfl rfl) ?_) (Dm ha.m hd.m) rfl;rintro σ H Q ⟨as,ρ,S,ok,en,h⟩;refine⟨as,ρ,S,ok,en,ha.m _ _ _ _ (λx S1 h as1 H1 v g1 ok1 rv=>?_) h⟩;have en1:=en.mono g1.pre (g1.ku ok);refine⟨as1,ρ,S1,ok1,en1,hd.m _ _ _ _ (λy S2 ⟨k,ps,e0,e1,h1,q0,q⟩ as2 H2 v2 g2 ok2 rv2=>?_) h⟩;subst e0;subst e1;rw[rl_non]at rv2;obtain⟨a,us,ev,ea,ha,rr⟩:=l8 ok2 (Rl.mono g2.pre (g2.ku ok1) _ _ rv) h1;have G:=g1.trans g2;refine⟨a,us,ps,by rw[ev],by rw[rv2],ha,⟨by rw[rr.length,U4],λi p hp=>?_⟩,λe=>q0 e as2 H2 _ G ok2 (rl_non.mpr rfl),λi p q' hp hq' _ _=>?_⟩
 ·obtain⟨v,hv,rv⟩:=rr.get (show(ps.map λp:Int×Int=>SV.tup [.int p.1,.int p.2])[i]?=some (SV.tup [.int p.1,.int p.2]) by rw[UJ,hp];rfl);obtain⟨t,vs,rfl,ht,rt⟩:=rl_tup.mp rv;obtain⟨u1,u2,rfl,r1,r2⟩:=JL rt;rw[rl_int]at r1 r2;subst r1;subst r2;exact⟨t,hv,ht⟩
 ·obtain⟨v,hv,rv⟩:=rr.get (show(ps.map λp:Int×Int=>SV.tup [.int p.1,.int p.2])[i]?=some (SV.tup [.int p.1,.int p.2]) by rw[UJ,hp];rfl);rw[hq']at hv;cases hv;exact q p (UC hp) as2 H2 _ G ok2 rv
end Rf
namespace PySem
structure ZipFar(z TI TO i1 i2:XU)(f1 f2:List XU):Prop where
 iz:TI≠z/\TO≠z/\i1≠z/\i2≠z
 im:TI≠TO/\TI≠i1/\TI≠i2/\TO≠i1/\TO≠i2/\i1≠i2
 g1:∀ c∈f1,c≠z/\c≠TO/\c≠i2
 g2:∀ c∈f2,c≠z/\c≠TO/\c≠i1
section
variable{prog:XZ}{w:Xd}{A:Xg}{E:XR->XS->Prop}{s:XS}
theorem EQ{z TI TO i1 i2:XU}{f1 f2:List XU}{n1 n2 k:Nat}{P1 P2:Nat->XR->Prop}{S1 S2:Nat->Heap->Prop}{Q:XR->XS->Prop}
 (W1:Draws prog w A i1 f1 n1 P1 S1) (W2:Draws prog w A i2 f2 n2 P2 S2) (Fa:ZipFar z TI TO i1 i2 f1 f2) (hz:IsZip s.heap z TI TO .none) (hI:IsPair s.heap TI (.ref i1) (.ref i2)) (hO:∃ a b,IsPair s.heap TO a b)
 (t1:S1 k s.heap) (t2:S2 k s.heap) (l1:k<n1) (l2:k<n2)
 (hQ:∀ x y h' tk,P1 k x->P2 k y->IsZip h' z TI TO (rawInt s.heap.objs.size)->(∃ a b,IsPair h' TO a b)->S1 (k+1) h'->S2 (k+1) h'->IsPair h' s.heap.objs.size x y->h'.objs.size=s.heap.objs.size+1->
   (∀ c o,c≠z->c≠TO->c≠i1->c≠i2->s.heap.get? c=some o->h'.get? c=some o)->Q (.ref s.heap.objs.size) {s with heap:=h',toks:=tk}):
 XW (XX prog w) A (Builtin.«zip.__next__» ⟨[.ref z],[]⟩) (λfin s'=>∃ v,fin = .done (.ret v)/\Q v s') E s:=by
 obtain⟨a,b,hO⟩:=hO;obtain⟨z1,z2,z3,z4⟩:=Fa.iz;obtain⟨m1,m2,m3,m4,m5,m6⟩:=Fa.im;have get2:∀{R:XR->XS->Prop},R (.bool false) s->XW (XX prog w) A (field (.ref z) 2) R E s:=λq=>Xo hz rfl (x := .bool false) rfl q;show XW _ _ (field (.ref z) 2 >>= _) _ _ _;refine XQ (get2 ?_);show XW _ _ (field (.ref z) 3 >>= _) _ _ _;refine XQ (Xo hz rfl (x := .ref TI) rfl (XQ (Xm hI rfl ?_)));show XW _ _ (Builtin.SmallTypes.ownedTupleIsFree (.ref z) >>= _) _ _ _;refine XQ ?_;unfold Builtin.SmallTypes.ownedTupleIsFree;refine XQ (Xo hz rfl (x := .none) rfl (XT ?_));simp only[if_true];refine XQ (Y5 (XQ (Xo hz rfl (x := .ref TO) rfl (XQ (Y7 hz (by simp) λha za ka=>XQ ?_)))));replace za:IsZip ha z TI TO .ellipsis:=za;simp only[Wu,Wy,WV,Wa];refine XQ (XQ (Z6 ?_));show XW _ _ (Builtin.SmallTypes.nextOf (.ref i1) >>= _) _ _ _;have t1a:S1 k ha:=W1.frame _ _ _ t1 λc hc o e=>ka.extBut _ _ (Fa.g1 c hc).1 e;refine XQ (W1.item k {s with heap:=ha} _ _ l1 t1a λx hb tb px t1b kb=>XT ?_);have Ob:IsPair hb TO a b:=kb.extBut _ _ m4 (ka.extBut _ _ z2 hO);refine XQ (Xm Ob rfl (XQ (Z2 Ob λhc Oc kc=>?_)));replace Oc:IsPair hc TO x b:=Oc;refine XQ (YK (XT ?_));refine XQ (XQ (Z6 ?_));show XW _ _ (Builtin.SmallTypes.nextOf (.ref i2) >>= _) _ _ _;have t2c:S2 k hc:=W2.frame _ _ _ t2 λc hm o e=>kc.extBut _ _ (Fa.g2 c hm).2.1 (kb.extBut _ _ (Fa.g2 c hm).2.2 (ka.extBut _ _ (Fa.g2 c hm).1 e));refine XQ (W2.item k {s with heap:=hc,toks:=tb} _ _ l2 t2c λy hd td py t2d kd=>XT ?_);have Od:IsPair hd TO x b:=kd.extBut _ _ m5 Oc;refine XQ (Xm Od rfl (XQ (Z2 Od λhe Oe ke=>?_)));replace Oe:IsPair he TO x y:=Oe;refine XQ (YK (XT (XT ?_)));refine XQ (Xm Oe rfl (XQ (Zh ?_)));have hsz:he.objs.size=s.heap.objs.size:=by rw[ke.1,kd.1,kc.1,kb.1,ka.1]
 have ze:IsZip he z TI TO .ellipsis:=ke.extBut _ _ z2.symm (kd.extBut _ _ z4.symm (kc.extBut _ _ z2.symm (kb.extBut _ _ z3.symm za)));have kk:∀ c o,c≠z->c≠TO->c≠i1->c≠i2->s.heap.get? c=some o->he.get? c=some o:=λc o c1 c2 c3 c4 e=>ke.extBut _ _ c2 (kd.extBut _ _ c4 (kc.extBut _ _ c2 (kb.extBut _ _ c3 (ka.extBut _ _ c1 e))));have lz:z<he.objs.size:=U5 ze;show XW _ _ (Builtin.SmallTypes.ownedTupleHandOut (.ref z) (.ref he.objs.size) >>= _) _ _ _;refine XQ ?_;unfold Builtin.SmallTypes.ownedTupleHandOut;have zf:IsZip (he.push {cls := .type "tuple",data := .seq #[x,y]}) z TI TO .ellipsis:=U3 _ ze;refine XQ (Y7 zf (by simp) λhf zf' kf=>?_);replace zf':IsZip hf z TI TO (rawInt he.objs.size):=zf';refine Y7 zf' (by simp) λhg zg kg=>?_;replace zg:IsZip hg z TI TO (rawInt he.objs.size):=zg;have up:∀ c o,c≠z->he.get? c=some o->hg.get? c=some o:=λc o c1 e=>kg.extBut _ _ c1 (kf.extBut _ _ c1 (U3 _ e));have Tg:IsPair hg he.objs.size x y:=kg.extBut _ _ (Vt lz) (kf.extBut _ _ (Vt lz) (U8 _ rfl));have sg:hg.objs.size=he.objs.size+1:=by rw[kg.1,kf.1,Uc]
 rw[hsz]at zg Tg sg;refine XT ⟨_,rfl,?_⟩;show Q (.ref he.objs.size) _;rw[hsz]
 refine hQ x y hg td px py zg ⟨x,y,up _ _ z2 Oe⟩ (W1.frame _ _ _ t1b λc hm o e=>up c o (Fa.g1 c hm).1 (ke.extBut _ _ (Fa.g1 c hm).2.1 (kd.extBut _ _ (Fa.g1 c hm).2.2 (kc.extBut _ _ (Fa.g1 c hm).2.1 e))))
  (W2.frame _ _ _ t2d λc hm o e=>up c o (Fa.g2 c hm).1 (ke.extBut _ _ (Fa.g2 c hm).2.1 e)) Tg sg λc o c1 c2 c3 c4 e=>up c o c1 (kk c o c1 c2 c3 c4 e)
theorem FL{z TI TO i1 i2:XU}{f1:List XU}{n1:Nat}{P1:Nat->XR->Prop}{S1:Nat->Heap->Prop}{Q:Fin->XS->Prop}
 (W1:Draws prog w A i1 f1 n1 P1 S1) (iz:i1≠z) (g1:∀ c∈f1,c≠z) (hz:IsZip s.heap z TI TO .none) (hI:IsPair s.heap TI (.ref i1) (.ref i2)) (t1:S1 n1 s.heap)
 (hE:∀ h' e,(∀ c o,c≠z->c≠i1->s.heap.get? c=some o->h'.get? c=some o)->(∃ o,h'.get? e=some o/\o.cls = .type "StopIteration")->E (.ref e) {s with heap:=h'}):
 XW (XX prog w) A (Builtin.«zip.__next__» ⟨[.ref z],[]⟩) Q E s:=by
 show XW _ _ (field (.ref z) 2 >>= _) _ _ _;refine XQ (Xo hz rfl (x := .bool false) rfl ?_);show XW _ _ (field (.ref z) 3 >>= _) _ _ _;refine XQ (Xo hz rfl (x := .ref TI) rfl (XQ (Xm hI rfl ?_)));show XW _ _ (Builtin.SmallTypes.ownedTupleIsFree (.ref z) >>= _) _ _ _;refine XQ ?_;unfold Builtin.SmallTypes.ownedTupleIsFree;refine XQ (Xo hz rfl (x := .none) rfl (XT ?_));simp only[if_true];refine XQ (Y5 (XQ (Xo hz rfl (x := .ref TO) rfl (XQ (Y7 hz (by simp) λha za ka=>XQ ?_)))));replace za:IsZip ha z TI TO .ellipsis:=za;simp only[Wu,Wy,WV,Wa];refine XQ (XQ (Z6 ?_));show XW _ _ (Builtin.SmallTypes.nextOf (.ref i1) >>= _) _ _ _;refine XQ (W1.done {s with heap:=ha} _ _ (W1.frame _ _ _ t1 λc hc o e=>ka.extBut _ _ (g1 c hc) e) λhb e kb he=>?_);obtain⟨oe,hoe,hce⟩:=he;have zb:IsZip hb z TI TO .ellipsis:=kb _ _ iz.symm za;have ez:e≠z:=λx=>by subst x;rw[zb]at hoe;cases hoe;simp at hce
 exact Y7 zb (by simp) λhc _ kc=>hE hc e (λc o c1 c3 x=>kc.extBut _ _ c1 (kb _ _ c3 (ka.extBut _ _ c1 x))) ⟨oe,kc.extBut _ _ ez hoe,hce⟩
theorem Bd{z TI TO i1 i2:XU}{f1 f2:List XU}{n1 n2 k:Nat}{P1 P2:Nat->XR->Prop}{S1 S2:Nat->Heap->Prop}{Q:Option XR->XS->Prop}
 (W1:Draws prog w A.in1 i1 f1 n1 P1 S1) (W2:Draws prog w A.in1 i2 f2 n2 P2 S2) (Fa:ZipFar z TI TO i1 i2 f1 f2) (hz:IsZip s.heap z TI TO .none) (hI:IsPair s.heap TI (.ref i1) (.ref i2)) (hO:∃ a b,IsPair s.heap TO a b)
 (t1:S1 k s.heap) (t2:S2 k s.heap) (l1:k<n1) (l2:k<n2)
 (hQ:∀ x y h' tk,P1 k x->P2 k y->IsZip h' z TI TO (rawInt s.heap.objs.size)->(∃ a b,IsPair h' TO a b)->S1 (k+1) h'->S2 (k+1) h'->IsPair h' s.heap.objs.size x y->h'.objs.size=s.heap.objs.size+1->
   (∀ c o,c≠z->c≠TO->c≠i1->c≠i2->s.heap.get? c=some o->h'.get? c=some o)->Q (some (.ref s.heap.objs.size)) {s with heap:=h',toks:=tk}):
 XW (XX prog w) A (pyNext (.ref z)) Q E s:=by
 have hT:s.TypeIs (.ref z) "zip":=⟨_,hz,rfl⟩
 unfold pyNext
 exact XQ (Yd (Xj (name:=Str.ofString "__next__") hT F.slot_zip_next
  (Xk F.slot_zip_next hT F.entry_zip_next (EQ W1 W2 Fa hz hI hO t1 t2 l1 l2 λx y h' tk a1 a2 a3 a4 a5 a6 a7 a8 a9=>XT (hQ x y h' tk a1 a2 a3 a4 a5 a6 a7 a8 a9)) (F.args_zip_next_1 _))))
theorem Bt{z TI TO i1 i2:XU}{f1:List XU}{n1:Nat}{P1:Nat->XR->Prop}{S1:Nat->Heap->Prop}{Q:Option XR->XS->Prop}
 (W1:Draws prog w A.in1 i1 f1 n1 P1 S1) (iz:i1≠z) (g1:∀ c∈f1,c≠z) (hz:IsZip s.heap z TI TO .none) (hI:IsPair s.heap TI (.ref i1) (.ref i2)) (t1:S1 n1 s.heap)
 (hQ:∀ h',(∀ c o,c≠z->c≠i1->s.heap.get? c=some o->h'.get? c=some o)->Q none {s with heap:=h'}):XW (XX prog w) A (pyNext (.ref z)) Q E s:=by
 have hT:s.TypeIs (.ref z) "zip":=⟨_,hz,rfl⟩
 unfold pyNext
 refine XQ (Yd (Xj (name:=Str.ofString "__next__") hT F.slot_zip_next
  (Xk F.slot_zip_next hT F.entry_zip_next (FL W1 iz g1 hz hI t1 λh' e hk he=>?_) (F.args_zip_next_1 _))))
 obtain⟨o,ho,hc⟩:=he;exact XQ (Yk (T:="StopIteration") (b:=true) ⟨o,ho,hc⟩ Zg (XT (hQ _ hk)))
end
noncomputable abbrev O0(l:XU):Obj:={cls := .type "tuple_iterator",data := .fields #[.ref l,.int 0 0]}
end PySem
namespace L2
open PySem PySem.Spec PyProof.Rows
theorem Hy{z TI TO i1 i2 l1 l2:XU}(D:ZipApart z TI TO i1 i2 l1 l2):ZipFar z TI TO i1 i2 [i1,l1] [i2,l2] where
 iz:=⟨D.TIz,D.TOz,D.i1z,D.i2z⟩
 im:=⟨D.TITO,D.TIi1,D.TIi2,D.TOi1,D.TOi2,D.i12⟩
 g1:=λc hc=>by
  rcases UH.mp hc with rfl | hc
  ·exact⟨D.i1z,D.TOi1.symm,D.i12⟩
  ·rw[UA.mp hc];exact⟨D.l1z,D.l1TO,D.l1i2⟩
 g2:=λc hc=>by
  rcases UH.mp hc with rfl | hc
  ·exact⟨D.i2z,D.TOi2.symm,D.i12.symm⟩
  ·rw[UA.mp hc];exact⟨D.l2z,D.l2TO,D.l2i1⟩
end L2
namespace PySem
noncomputable abbrev FM(l:XU):Obj:={cls := .type "list_iterator",data := .fields #[.ref l,.int 0 0]}
noncomputable abbrev zm3(h:Heap)(l1 l2:XU):Heap:=((h.push (FM l1)).push (O0 l2)).push {cls := .type "tuple",data := .seq #[.ref h.objs.size,.ref (h.push (FM l1)).objs.size]}
noncomputable abbrev zm4(h:Heap)(l1 l2:XU):Heap:=(zm3 h l1 l2).push {cls := .type "tuple",data := .seq #[.none,.none]}
noncomputable abbrev zm5(h:Heap)(l1 l2:XU):Heap:=(zm4 h l1 l2).push {cls := .type "zip",data := .fields #[.none,.bool false,.bool false,.ref ((h.push (FM l1)).push (O0 l2)).objs.size,.ref (zm3 h l1 l2).objs.size]}
theorem ER(l1 l2:XU)(xs ys:Array XR):
 Meets (Builtin.«zip.__new__» ⟨[.type "zip",.ref l1,.ref l2],[]⟩) (λ_ R s=>s.heap.IsList l1 xs/\s.heap.IsTuple l2 ys/\
  R (.ok (.ret (.ref (zm4 s.heap l1 l2).objs.size))) {s with heap:=zm5 s.heap l1 l2}):=
 .of_wp λprog w A R s h=>by
  obtain⟨hp,g,d,tk,os⟩:=s;obtain⟨hl1,hl2,h⟩:=h;have hsub:=sub_zip;have hL1:Heap.IsList (Shared.heap ⟨hp,g,d,tk,os⟩) l1 xs:=hl1;have hL2:XE (Shared.heap ⟨hp.push (FM l1),g,d,tk,os⟩) l2 ys:=let ⟨o,e,r⟩:=hl2;⟨o,U3 _ e,r⟩
  wp_walk using Y2 hL1,Xz hL2
  exact⟨_,rfl,h⟩
section
variable{prog:XZ}{w:Xd}{A:Xg}{E:XR->XS->Prop}{s:XS}
theorem DQ{l1 l2:XU}{xs ys:Array XR}{Q:XR->XS->Prop}(hl1:s.heap.IsList l1 xs)(hl2:s.heap.IsTuple l2 ys)
 (h:∀ h',IsZip h' (s.heap.objs.size+4) (s.heap.objs.size+2) (s.heap.objs.size+3) .none->IsPair h' (s.heap.objs.size+2) (.ref s.heap.objs.size) (.ref (s.heap.objs.size+1))->
   (∃ a b,IsPair h' (s.heap.objs.size+3) a b)->h'.IsListIter s.heap.objs.size l1 0->h'.IsTupleIter (s.heap.objs.size+1) l2 0->
   (∀ c o,s.heap.get? c=some o->h'.get? c=some o)->Q (.ref (s.heap.objs.size+4)) {s with heap:=h'}):
 XW (XX prog w) A (call (.type "zip") [.ref l1,.ref l2]) Q E s:=by
 refine callType_new F.called_zip (by decide) (F.typeCall_zip_2 _ _) (F.newCall_zip_2 _ _) (λobj=>F.args_object_init_3 obj _ _) F.entry_zip_new (ER l1 l2 xs ys) ⟨hl1,hl2,?_⟩;have y1:(s.heap.push (FM l1)).objs.size=s.heap.objs.size+1:=Uc ..;have y2:((s.heap.push (FM l1)).push (O0 l2)).objs.size=s.heap.objs.size+2:=by rw[Uc,y1]
 have y3:(zm3 s.heap l1 l2).objs.size=s.heap.objs.size+3:=by rw[Uc,y2]
 have y4:(zm4 s.heap l1 l2).objs.size=s.heap.objs.size+4:=by rw[Uc,y3]
 have up:∀{h0:Heap} {o1:Obj} {c o},h0.get? c=some o->(h0.push o1).get? c=some o:=λe=>U3 _ e;have q5:(zm5 s.heap l1 l2).get? (zm4 s.heap l1 l2).objs.size=some _:=U8 _ rfl;have q4:(zm5 s.heap l1 l2).get? (zm3 s.heap l1 l2).objs.size=some _:=up (U8 _ rfl);have q3:(zm5 s.heap l1 l2).get? ((s.heap.push (FM l1)).push (O0 l2)).objs.size=some _:=up (up (U8 _ rfl));have q2:(zm5 s.heap l1 l2).get? (s.heap.push (FM l1)).objs.size=some _:=up (up (up (U8 _ rfl)));have q1:(zm5 s.heap l1 l2).get? s.heap.objs.size=some _:=up (up (up (up (U8 _ rfl))));show _/\_;rw[y2,y3,y4]at q5;rw[y1,y2]at q3;rw[y3]at q4;rw[y1]at q2;rw[y4];exact⟨⟨_,q5,rfl⟩,h _ q5 q3 ⟨_,_,q4⟩ ⟨_,q1,rfl,rfl⟩ ⟨_,q2,rfl,rfl⟩ λc o x=>up (up (up (up (up x))))⟩
end
end PySem
namespace L2
open PySem PySem.Spec PyProof.Rows
noncomputable def Qv(K:U1)(a b:XU):It:=
 ⟨λi H=>∃ xs ys x y,SqL K H a xs/\SqT K H b ys/\xs[i]?=some x/\ys[i]?=some y,
  λi H x H'=>∃ p v u,H p=none/\x = .ref p/\(∀ xs,SqL K H a xs->xs[i]?=some v)/\(∀ ys,SqT K H b ys->ys[i]?=some u)/\H'=upd H p (.tup [v,u]),
  λi H=>∃ xs,SqL K H a xs/\xs.length=i⟩
theorem Jg{P:XZ}{w:Xd}{K:U1}{elts:List Expr}{kx:Nat}{tp:Pos}(z TI TO i1 i2 l1 l2:XU)(D:ZipApart z TI TO i1 i2 l1 l2):Turn P w K (.Tuple elts kx tp) (Qv K l1 l2) [z,TI,TO,i1,i2] z
 (λi h=>IsZip h z TI TO .none/\IsPair h TI (.ref i1) (.ref i2)/\(∃ a b,IsPair h TO a b)/\h.IsListIter i1 l1 i/\h.IsTupleIter i2 l2 i) where
 mem:=by simp
 obj:=λi h st b hb=>by
  obtain⟨hz,hTI,⟨a',b',hTO⟩,⟨o1,e1,c1,d1⟩,⟨o2,e2,c2,d2⟩⟩:=st;simp only[UH,Vd,or_false]at hb;rcases hb with rfl | rfl | rfl | rfl | rfl
  ·exact⟨_,hz,λv q=>by cases q⟩
  ·exact⟨_,hTI,λv q=>by cases q⟩
  ·exact⟨_,hTO,λv q=>by cases q⟩
  ·exact⟨o1,e1,λv q=>by rw[d1]at q;cases q⟩
  ·exact⟨o2,e2,λv q=>by rw[d2]at q;cases q⟩
 keep:=λi h h' st k=>by
  obtain⟨hz,hTI,⟨a',b',hTO⟩,h1,h2⟩:=st;exact⟨k z (by simp) _ hz,k TI (by simp) _ hTI,⟨a',b',k TO (by simp) _ hTO⟩,h1.at λo q=>k i1 (by simp) o q,h2.at λo q=>k i2 (by simp) o q⟩
 item:=by
  intro X hP hw hK hc i pq s σ H E I hf st hg;subst hP hw hK;obtain⟨xs,ys,x,y,hq1,hq2,hx,hy⟩:=hg;obtain⟨its1,rv1,p1,hz1⟩:=I.list hq1;obtain⟨its2,rv2,p2,hz2⟩:=I.tuple hq2;obtain⟨u1,hu1,ru1⟩:=rv1.get hx;obtain⟨u2,hu2,ru2⟩:=rv2.get hy;obtain⟨hz,hTI,hTO,h1,h2⟩:=st;have hs1:i<its1.toArray.size:=by simpa using (gM hu1).1
  have hs2:i<its2.toArray.size:=by simpa using (gM hu2).1
  refine Bd (Draws.list (prog:=X.prog) (w:=X.w) (A:=X.A.in1) (show X.A.in1.handled=none from I.ok.hd hc) i1 l1 D.l1i1 its1.toArray) (A0 (prog:=X.prog) (w:=X.w) (A:=X.A.in1) (show X.A.in1.handled=none from I.ok.hd hc) i2 l2 D.l2i2 its2.toArray) (Hy D) hz hTI hTO ⟨h1,p1.isList⟩ ⟨h2,p2⟩ hs1 hs2 λv1 v2 h' tk e1 e2 b1 b2 b3 b4 b5 b6 hk=>?_;have e1:v1=u1:=by have:=e1.symm.trans (show its1.toArray[i]?=some u1 by simpa using hu1);cases this;rfl
  have e2:v2=u2:=by have:=e2.symm.trans (show its2.toArray[i]?=some u2 by simpa using hu2);cases this;rfl
  subst e1 e2;refine⟨_,rfl,?_⟩
  have I1:Inv X pq σ (upd H s.heap.objs.size (.tup [x,y])) {s with heap:=h',toks:=tk}:=
   I.turnLay (t':=tk) (ch:=[z,TI,TO,i1,i2]) (λb o hb q=>hk b o (λe=>hb (by simp[e])) (λe=>hb (by simp[e])) (λe=>hb (by simp[e])) (λe=>hb (by simp[e])) q) hf ⟨E3,[v1,v2],.cons ru1 (.cons ru2 .nil),⟨_,b5,rfl,_,rfl⟩⟩
  have lt1:i1<s.heap.objs.size:=by obtain⟨_,q,_⟩:=h1;exact U5 q
  have lt2:i2<s.heap.objs.size:=by obtain⟨_,q,_⟩:=h2;exact U5 q
  obtain⟨a',b',hTO⟩:=hTO
  have hfp1:∀ b∈[z,TI,TO,i1,i2],FpOk X pq (upd H s.heap.objs.size (.tup [x,y])) b:=λb hb=>by
   obtain⟨f0,f1⟩:=hf b hb
   have hbl:b≠s.heap.objs.size:=by
    simp only[UH,Vd,or_false]at hb;rcases hb with rfl | rfl | rfl | rfl | rfl
    ·exact UF (U5 hz)
    ·exact UF (U5 hTI)
    ·exact UF (U5 hTO)
    ·exact UF lt1
    ·exact UF lt2
   exact⟨by rw[e8 hbl];exact f0,f1⟩
  refine wpAny_letOwnedTupleGo_zip b1 λh2' hz' hs'=>?_
  have I2:Inv X pq σ (upd H s.heap.objs.size (.tup [x,y])) {s with heap:=h2',toks:=tk}:=
   Inv.turnedL (s:={s with heap:=h',toks:=tk}) (t':=tk) (ch:=[z,TI,TO,i1,i2]) I1 (λb o hb q=>(hs'.2 b (λe=>hb (by simp[e]))).trans q) hfp1
  obtain⟨a2,b2',b2⟩:=b2
  refine⟨.ref s.heap.objs.size,_,I2,rfl,⟨_,x,y,I.fresh,rfl,λzs hy'=>by rw[I.list_inj hy' hq1];exact hx,λzs hy'=>by rw[I.tuple_inj hy' hq2];exact hy,rfl⟩,
   ⟨hz',hs'.extBut _ _ D.TIz (hk _ _ D.TIz D.TITO D.TIi1 D.TIi2 hTI),⟨_,_,hs'.extBut _ _ D.TOz b2⟩,b3.1.at λo q=>hs'.extBut _ _ D.i1z q,b4.1.at λo q=>hs'.extBut _ _ D.i2z q⟩,λb hb=>(hfp1 b hb).1⟩
 done:=by
   intro X hP hw hK hc i pq s σ H E I hf st hg;subst hP hw hK;obtain⟨xs,hq1,hx⟩:=hg;obtain⟨its1,rv1,p1,hz1⟩:=I.list hq1;obtain⟨hz,hTI,hTO,h1,h2⟩:=st;have hl1:=rv1.length;have hsz:i=its1.toArray.size:=by rw[<-hx,hl1];simp
   subst hsz;refine Bt (Draws.list (prog:=X.prog) (w:=X.w) (A:=X.A.in1) (show X.A.in1.handled=none from I.ok.hd hc) i1 l1 D.l1i1 its1.toArray) D.i1z (λc hc=>((Hy D).g1 c hc).1) hz hTI ⟨h1,p1.isList⟩ λh' hk=>⟨rfl,I.turnedL (t':=s.toks) (ch:=[z,TI,TO,i1,i2]) (λb o hb q=>hk b o (λe=>hb (by simp[e])) (λe=>hb (by simp[e])) q) hf⟩
 self:=λ_ _ _ _ _ st h=>ZO st.1 h
section
variable{X:Cx}
noncomputable def Sr(K:U1)(ta:TA):TI:=λσ H R=>ta σ H λvs H1=>∃ a b,vs=[.ref a,.ref b]/\(∃ xs,SqL K H1 a xs)/\(∃ ys,SqT K H1 b ys)/\R (Qv K a b) H1
theorem O7{a b:Expr}{ta:TA}{p pos:Pos}{elts:List Expr}{kx:Nat}{tp:Pos}(hg:Gl X "zip")(hm:X.mg "zip"=none)(ha:PA X [a,b] ta)(hs:Xa [a,b] X.env=[(false,eval a X.env),(false,eval b X.env)]:=by rfl)
 (hs2:Xa [b] X.env=[(false,eval b X.env)]:=by rfl):PI X (.Tuple elts kx tp) (.Call (.Name "zip" p) [a,b] [] pos) (Sr X.K ta):=by
 intro pq s σ H R I h;refine Call_ (v7 I hg hm Ki (PyProof.Rows.callWith_type1 (thn (ha pos pq s σ H _ I h) λus s1 ⟨vs,H1,I1,r1,q1⟩=>?_) (by rw[hs,hs2]) (by rw[hs2];rfl)));obtain⟨l1,l2,e,⟨xs,hq1⟩,⟨ys,hq2⟩,q⟩:=q1;subst e;obtain⟨u1,u2,rfl,r1',r2'⟩:=Vals.two r1;cases r1';cases r2';obtain⟨its1,rv1,p1,hz1⟩:=I1.list hq1;obtain⟨its2,rv2,p2,hz2⟩:=I1.tuple hq2;have hl1:@LT.lt Nat _ l1 s1.heap.objs.size:=by obtain⟨o,n,e,_⟩:=p1;exact U5 e
 have hl2:@LT.lt Nat _ l2 s1.heap.objs.size:=by obtain⟨o,e,_⟩:=p2;exact U5 e
 refine DQ p1.isList p2 λh' c1 c2 c3 c4 c5 hk=>?_;refine ZO c1 ?_;have I2:Inv X pq σ H1 {s1 with heap:=h'}:=I1.kept (t':=s1.toks) hk;refine⟨s1.heap.objs.size+4,[s1.heap.objs.size+4,s1.heap.objs.size+2,s1.heap.objs.size+3,s1.heap.objs.size,s1.heap.objs.size+1],_,_,H1,rfl,I2,Jg _ _ _ _ _ l1 l2 ?_,⟨c1,c2,c3,c4,c5⟩,λb hb=>?_,q⟩
 ·constructor<;>(show @Ne Nat _ _)<;>omega
 ·have hb2:@LE.le Nat _ s1.heap.objs.size b:=by
   simp only[UH,Vd,or_false]at hb;rcases hb with rfl | rfl | rfl | rfl | rfl
   ·exact VJ _ _
   ·exact VJ _ _
   ·exact VJ _ _
   ·exact U9 _
   ·exact VJ _ _
  exact I1.fpOk hb2 (I1.hok.fresh hb2)
end
end L2
namespace Rf
open PySem L2
noncomputable def Dp(K:U1)(g:Tg):TG:=λv σ H Q=>∃ as ρ S x,Ok K as H S/\EnvOk K as H σ ρ/\Rl K as H v x/\wTg g x ρ λρ'=>∀ σ',EnvOk K as H σ' ρ'->Q σ' H
noncomputable def Qw(K:U1)(g:Tgs):TGs:=λvs σ H Q=>∃ as ρ S xs,Ok K as H S/\EnvOk K as H σ ρ/\RlAll K as H vs xs/\AG g xs ρ λρ'=>∀ σ',EnvOk K as H σ' ρ'->Q σ' H
mutual
theorem p9:∀(g:Tg) {x:SV} {ρ:EnvS} {P P':EnvS->Prop},(∀ r,P r->P' r)->wTg g x ρ P->wTg g x ρ P'
 | .nm i,x,ρ,P,P',h,q=>by unfold wTg at q ⊢;exact h _ q
 | .tup ts,x,ρ,P,P',h,q=>by
   cases x with
   | tup xs=>unfold wTg at q ⊢;exact FN ts h q
   | _=>unfold wTg at q;exact q.elim
theorem FN:∀(g:Tgs) {x:List SV} {ρ:EnvS} {P P':EnvS->Prop},(∀ r,P r->P' r)->AG g x ρ P->AG g x ρ P'
 | .nil,x,ρ,P,P',h,q=>by
   cases x with
   | nil=>unfold AG at q ⊢;exact h _ q
   | cons _ _=>unfold AG at q;exact q.elim
 | .cons t ts,x,ρ,P,P',h,q=>by
   cases x with
   | nil=>unfold AG at q;exact q.elim
   | cons y ys=>unfold AG at q ⊢;exact p9 t (λr q=>FN ts h q) q
end
theorem B1{env:Env}:∀{es:List Expr},es.all e6=true->(Xv es env).length=es.length/\(Xv es env).findIdx? (·.1)=none/\∀ e r,es=e::r->(Xv (e::r) env).map (·.2)=assign e env::(Xv r env).map (·.2)
 | [],_=>⟨rfl,rfl,λe r h=>by cases h⟩
 | e::es,h=>by
   rw[V2,U2]at h;obtain⟨h1,h2,_⟩:=B1 (env:=env) h.2;have:Xv (e::es) env=(false,assign e env)::Xv es env:=by cases e<;>first | rfl | (have:=h.1;cases this)
   rw[this];refine⟨by simp[h1],by rw[List.findIdx?_cons,h2];rfl,λe' r z=>?_⟩;injection z with z1 z2;subst z1 z2;rw[this];rfl
theorem Bu{k:Nat}{N:List Str}{sc:Xf}:∀{g:Tgs} {es:List Expr},AD k N sc g es=true->es.all e6=true
 | .nil,es,h=>by unfold AD at h;rw[Ud]at h;subst h;rfl
 | .cons t ts,es,h=>by
   rw[AD]at h;replace h:=c6 h;obtain⟨e,he,h⟩:=h;simp only[U2]at h;rw[AL he,V2,h.1.2,Bu h.2];rfl
section
variable{X:Cx}{T:List Str}{Δ:Nat->Sn}{k:Nat}{N:List Str}{sc:Xf}
mutual
theorem B2(C:Cok T Δ X k N sc):∀(g:Tg) (r:Expr),B0 k N sc g r=true->PG X r (Dp X.K g)
 | .nm i,r,h=>by
   rw[B0]at h;replace h:=c6 h;obtain⟨x,hx,h⟩:=h;obtain⟨p,rfl⟩:=Az hx
   ·simp only[U2,dQ]at h;obtain⟨⟨h1,h2⟩,h3⟩:=h;unfold loc at h3;simp only[Uh,bQ]at h3;have hl:Loc X.env.scope x:=by rw[C.hs];exact h3
    have hf:X.fn x=true\/X.env.scope.names.lookup x=some .local:=by
     rw[C.hs];rcases h3 with h3 | h3
     ·exact .inr h3
     ·exact .inl (C.fn i x h1 h2 h3)
    have b:=N0 (X:=X) (pos:=p) (i:=i) (by rw[C.hN];exact C.nd) (by rw[C.hN];exact h2) hl hf;intro pq s σ H v u Q I rr hq;obtain⟨as,ρ,S,y,ok,en,rv,q⟩:=hq;unfold wTg at q;exact b pq s σ H v u Q I rr (q _ (en.set rv))
 | .tup ts,r,h=>by
   rw[B0]at h;replace h:=c6 h;obtain⟨es,he,h⟩:=h;obtain⟨j,p,rfl⟩:=AK he
   ·have st:=B1 (env:=X.env) (Bu h);have b:=Pq (X:=X) (k:=j) (pos:=p) C.calm (Dq C ts es h) st.1 st.2.1;intro pq s σ H v u Q I rr hq;refine b pq s σ H v u Q I rr ?_;obtain⟨as,ρ,S,y,ok,en,rv,q⟩:=hq;cases y with
    | tup xs=>
      obtain⟨a,vs,rfl,ha,ra⟩:=rl_tup.mp rv;unfold wTg at q;refine⟨a,vs,rfl,SqT.of ha,?_,as,ρ,S,xs,ok,en,ra,q⟩;rw[ra.length];exact Hz ts es xs h q
    | _=>unfold wTg at q;exact q.elim
theorem Dq(C:Cok T Δ X k N sc):∀(g:Tgs) (es:List Expr),AD k N sc g es=true->PGs X es (Qw X.K g)
 | .nil,es,h=>by
   rw[AD]at h;rw[Ud]at h;subst h;intro pq s σ H vs us Q I rr hq;refine N1 pq s σ H vs us Q I rr ?_;obtain⟨as,ρ,S,xs,ok,en,rv,q⟩:=hq;cases xs with
   | nil=>unfold AG at q;exact⟨rla_nil.mp rv,q _ en⟩
   | cons _ _=>unfold AG at q;exact q.elim
 | .cons t ts,el,h=>by
   have st:=B1 (env:=X.env) (Bu h);rw[AD]at h;replace h:=c6 h;obtain⟨e,he,h⟩:=h;simp only[U2]at h;rw[AL he]at st ⊢;generalize el.tail=es at h st;intro pq s σ H vs us Q I rr hq;refine KF (B2 C t e h.1.1) (Dq C ts es h.2) (st.2.2 _ _ rfl) pq s σ H vs us Q I rr ?_;obtain⟨as,ρ,S,xs,ok,en,rv,q⟩:=hq;cases xs with
   | nil=>unfold AG at q;exact q.elim
   | cons y ys=>
     unfold AG at q;obtain⟨v,r,rfl,r1,r2⟩:=rla_cons.mp rv;exact⟨v,r,rfl,as,ρ,S,y,ok,en,r1,p9 t (λρ' q σ' en'=>⟨as,ρ',S,ys,ok,en',r2,q⟩) q⟩
theorem Hz:∀(g:Tgs) (es:List Expr) (xs:List SV) {ρ:EnvS} {P:EnvS->Prop},AD k N sc g es=true->AG g xs ρ P->xs.length=es.length
 | .nil,es,xs,ρ,P,h,q=>by
   rw[AD]at h;rw[Ud]at h;subst h;cases xs with
   | nil=>rfl
   | cons _ _=>unfold AG at q;exact q.elim
 | .cons t ts,el,xs,ρ,P,h,q=>by
   rw[AD]at h;replace h:=c6 h;obtain⟨e,he,h⟩:=h;simp only[U2]at h;rw[AL he];generalize el.tail=es at h;cases xs with
   | nil=>unfold AG at q;exact q.elim
   | cons y ys=>
     unfold AG at q;obtain⟨ρ',q'⟩:=I0 t q;simp[Hz ts es ys h.2 q']
theorem I0:∀(g:Tg) {x:SV} {ρ:EnvS} {P:EnvS->Prop},wTg g x ρ P->∃ ρ',P ρ'
 | .nm i,x,ρ,P,q=>by unfold wTg at q;exact⟨_,q⟩
 | .tup ts,x,ρ,P,q=>by
   cases x with
   | tup xs=>unfold wTg at q;exact FO ts q
   | _=>unfold wTg at q;exact q.elim
theorem FO:∀(g:Tgs) {xs:List SV} {ρ:EnvS} {P:EnvS->Prop},AG g xs ρ P->∃ ρ',P ρ'
 | .nil,xs,ρ,P,q=>by
   cases xs with
   | nil=>unfold AG at q;exact⟨_,q⟩
   | cons _ _=>unfold AG at q;exact q.elim
 | .cons t ts,xs,ρ,P,q=>by
   cases xs with
   | nil=>unfold AG at q;exact q.elim
   | cons y ys=>
     unfold AG at q;obtain⟨ρ',q'⟩:=I0 t q;exact FO ts q'
end
end
structure Gu(as:List XU)(H:Hp)(as':List XU)(H':Hp):Prop where
 pre:as <+: as'
 kp:KeepU H H'
theorem Gu.ku{K:U1}{as as':List XU}{H H':Hp}{S:Sto}(g:Gu as H as' H')(_:Ok K as H S):KeepU H H':=g.kp
theorem Go.gu{K:U1}{as as':List XU}{H H':Hp}{S:Sto}(g:Go as H as' H')(ok:Ok K as H S):Gu as H as' H':=⟨g.pre,g.ku ok⟩
noncomputable def Walks(K:U1)(as0:List XU)(H0:Hp)(J:It)(keep:Sto->Prop)(xs:List SV):Prop:=∀ as H S,Gu as0 H0 as H->Ok K as H S->keep S->
 (∀(i:Nat) (x:SV),xs[i]?=some x->J.go i H/\∀ v H',J.yld i H v H'->Go as H as H'/\Ok K as H' S/\Rl K as H' v x)/\J.stop xs.length H
noncomputable def Ss(K:U1)(as:List XU)(H:Hp)(R:It->Hp->Prop):(Sto->Prop)->List SV->Sto->Prop:=λkeep xs S1=>∀ as1 H1 J,Go as H as1 H1->Ok K as1 H1 S1->Walks K as1 H1 J keep xs->R J H1
noncomputable def liftI(K:U1)(w:WI):TI:=λσ H R=>∃ as ρ S,Ok K as H S/\EnvOk K as H σ ρ/\w ρ S (Ss K as H R)
noncomputable def MonoI(w:WI):Prop:=∀ ρ S (P P':(Sto->Prop)->List SV->Sto->Prop),(∀ k x S',P k x S'->P' k x S')->w ρ S P->w ρ S P'
structure GoodI(X:Cx)(tg r:Expr)(w:WI):Prop where
 pi:PI X tg r (liftI X.K w)
 m:MonoI w
section
variable{X:Cx}{K:U1}
theorem FP{as0 as:List XU}{H0 H:Hp}{S1 S:Sto}{x:SV}{v:V}{xs:List SV}(ok1:Ok K as0 H0 S1)(r:Rl K as0 H0 v x)(h:seqS x S1=some xs)(g:Gu as0 H0 as H)(ok:Ok K as H S)(kp:keepS x S1 S):Rl K as H v x/\seqS x S=some xs:=by
 refine⟨Rl.mono g.pre (g.ku ok1) x v r,?_⟩;cases x with
 | loc k=>
   have kp:S[k]?=S1[k]?:=kp;unfold seqS at h ⊢;simp only[kp];exact h
 | _=>exact h
theorem Jh{as0:List XU}{H0:Hp}{S1:Sto}{x:SV}{a:XU}{xs:List SV}(ok1:Ok K as0 H0 S1)(r:Rl K as0 H0 (.ref a) x)(n:x ≠ .tup xs)(h:seqS x S1=some xs):Walks K as0 H0 (Itl K a) (keepS x S1) xs:=λas H S g ok kp=>by
 obtain⟨r',h'⟩:=FP ok1 r h g ok kp;obtain⟨b,vs,e,hq,rr⟩:=A8 ok r' n h';cases e;refine⟨λi y hy=>?_,vs,hq,by rw[rr.length];exact U9 _⟩;obtain⟨v,hv,rv⟩:=rr.get hy;refine⟨⟨vs,v,hq,hv⟩,λu H' yl=>?_⟩;obtain⟨e,yl⟩:=yl;subst e;have:=yl vs hq;rw[hv]at this;cases this;exact⟨Go.refl _ _,ok,rv⟩
theorem M4{as0:List XU}{H0:Hp}{S1:Sto}{a:XU}{xs:List SV}(ok1:Ok K as0 H0 S1)(r:Rl K as0 H0 (.ref a) (.tup xs)):Walks K as0 H0 (Itt K a) (keepS (.tup xs) S1) xs:=λas H S g ok kp=>by
 have r':=Rl.mono g.pre (g.ku ok1) _ _ r;obtain⟨b,vs,e,hb,rr⟩:=rl_tup.mp r';cases e;refine⟨λi y hy=>?_,vs,SqT.of hb,by rw[rr.length];exact U9 _⟩;obtain⟨v,hv,rv⟩:=rr.get hy;refine⟨⟨vs,v,SqT.of hb,hv⟩,λu H' yl=>?_⟩;obtain⟨e,yl⟩:=yl;subst e;have:=yl vs (SqT.of hb);rw[hv]at this;cases this;exact⟨Go.refl _ _,ok,rv⟩
theorem FQ{as0:List XU}{H0:Hp}{lo hi:Int}:Walks K as0 H0 (Itr lo (hi - lo).toNat) (λ_=>True) (Al lo hi):=λas H S g ok _=>by
 have hl:(Al lo hi).length=(hi - lo).toNat:=by unfold Al;simp
 refine⟨λi y hy=>?_,by show(hi - lo).toNat<=(Al lo hi).length;rw[hl];exact U9 _⟩;have hi':i<(hi - lo).toNat:=by rw[<-hl];exact(gM hy).1
 refine⟨hi',λu H' yl=>?_⟩;obtain⟨e,rfl⟩:=yl;subst e
 have:y = .int (lo+i):=by
  unfold Al at hy;rw[UJ,Vf hi']at hy;exact(oj hy).symm
 subst this;exact⟨Go.refl _ _,ok,rl_int.mpr rfl⟩
theorem FR{xs:List SV}{i:Nat}{y:SV}(h:(Ay xs)[i]?=some y):∃ x,xs[i]?=some x/\y = .tup [.int i,x]:=by
 unfold Ay at h;rw[Vo]at h;cases h1:(U7 xs.length)[i]? with
 | none=>rw[h1]at h;cases h
 | some j=>
   cases h2:xs[i]? with
   | none=>rw[h1,h2]at h;cases h
   | some x=>
     rw[h1,h2]at h;have hi:=(gM h2).1;rw[Vf hi]at h1;cases h1;cases h;exact⟨x,rfl,rfl⟩
theorem FS{xs:List SV}:(Ay xs).length=xs.length:=by unfold Ay;simp
theorem Gq{as0:List XU}{H0:Hp}{S1:Sto}{x:SV}{a:XU}{xs:List SV}(ok1:Ok K as0 H0 S1)(r:Rl K as0 H0 (.ref a) x)(n:x ≠ .tup xs)(h:seqS x S1=some xs):Walks K as0 H0 (QF K a) (keepS x S1) (Ay xs):=λas H S g ok kp=>by
 obtain⟨r',h'⟩:=FP ok1 r h g ok kp;obtain⟨b,vs,e,hq,rr⟩:=A8 ok r' n h';cases e;refine⟨λi y hy=>?_,vs,hq,by rw[rr.length,FS]⟩;obtain⟨z,hz,rfl⟩:=FR hy;obtain⟨v,hv,rv⟩:=rr.get hz;refine⟨⟨vs,v,hq,hv⟩,λu H' yl=>?_⟩;obtain⟨p,w,hp,rfl,yl,rfl⟩:=yl;have:=yl vs hq;rw[hv]at this;cases this;exact⟨Go.new hp,ok.new hp,rl_tup.mpr ⟨p,_,rfl,g8,.cons (rl_int.mpr rfl) (.cons (Rl.mono (UW _) (n6 hp) z v rv) .nil)⟩⟩
theorem Gr{as0:List XU}{H0:Hp}{S1:Sto}{a:XU}{xs:List SV}(ok1:Ok K as0 H0 S1)(r:Rl K as0 H0 (.ref a) (.tup xs)):Walks K as0 H0 (QG K a) (keepS (.tup xs) S1) (Ay xs):=λas H S g ok kp=>by
 have r':=Rl.mono g.pre (g.ku ok1) _ _ r;obtain⟨b,vs,e,hb,rr⟩:=rl_tup.mp r';cases e;refine⟨λi y hy=>?_,vs,SqT.of hb,by rw[rr.length,FS]⟩;obtain⟨z,hz,rfl⟩:=FR hy;obtain⟨v,hv,rv⟩:=rr.get hz;refine⟨⟨vs,v,SqT.of hb,hv⟩,λu H' yl=>?_⟩;obtain⟨p,w,hp,rfl,yl,rfl⟩:=yl;have:=yl vs (SqT.of hb);rw[hv]at this;cases this;exact⟨Go.new hp,ok.new hp,rl_tup.mpr ⟨p,_,rfl,g8,.cons (rl_int.mpr rfl) (.cons (Rl.mono (UW _) (n6 hp) z v rv) .nil)⟩⟩
theorem Bv{tg l:Expr}{w:TI}(w':TI)(h:PI X tg l w)(imp:∀ σ H R,w' σ H R->w σ H R):PI X tg l w':=λpq s σ H R I hw=>h pq s σ H R I (imp σ H R hw)
noncomputable def Tq(K:U1)(tl:TE):TI:=λσ H R=>tl σ H λx H1=>∃ a,x = .ref a/\(((∃ xs,SqL K H1 a xs)/\R (Itl K a) H1)\/((∃ xs,SqT K H1 a xs)/\R (Itt K a) H1))
theorem Qx{tg l:Expr}{tl:TE}(hl:PE X l tl):PI X tg l (Tq X.K tl):=by
 intro pq s σ H R I h;refine thn (hl pq s σ H _ I h) λv s1 ⟨x,H1,I1,r1,q1⟩=>?_;obtain⟨a,e,q⟩:=q1;subst e;cases r1;have I2:∀{ob:Obj},Inv X pq σ H1 {s1 with heap:=s1.heap.push ob}:=I1.kept (t':=s1.toks) λb o e=>U3 _ e
 have fp:∀ b∈[s1.heap.objs.size],FpOk X pq H1 b:=λb hb=>by
  rw[UA.mp hb];exact I1.fpOk (U9 _) (I1.hok.fresh (U9 _))
 rcases q with⟨⟨xs,hq⟩,q⟩ | ⟨⟨xs,hq⟩,q⟩
 ·obtain⟨its,rv,p,hz⟩:=I1.list hq;exact Y2 p.isList ⟨s1.heap.objs.size,[s1.heap.objs.size],_,_,H1,rfl,I2,Ij a _,⟨_,U8 _ rfl,rfl,rfl⟩,fp,q⟩
 ·obtain⟨its,rv,p,hz⟩:=I1.tuple hq;exact Xz (show s1.heap.IsTuple a its.toArray from p) ⟨s1.heap.objs.size,[s1.heap.objs.size],_,_,H1,rfl,I2,Fz a _,⟨_,U8 _ rfl,rfl,rfl⟩,fp,q⟩
theorem Ji{tg r:Expr}{a:WE×WT}(ha:Good X r a):GoodI X tg r (PF a.1) where
 m:=λρ S P P' i h=>ha.m _ _ _ _ (λx S1 ⟨xs,e,q⟩=>⟨xs,e,i _ _ _ q⟩) h
 pi:=Bv _ (Qx ha.pe) (by
  rintro σ H R ⟨as,ρ,S,ok,en,h⟩;refine⟨as,ρ,S,ok,en,ha.m _ _ _ _ (λx S1 ⟨xs,e,q⟩ as1 H1 v g1 ok1 rv=>?_) h⟩;by_cases ht:x = .tup xs
  ·subst ht;obtain⟨p,vs,rfl,hp,rr⟩:=rl_tup.mp rv;exact⟨p,rfl,.inr ⟨⟨vs,SqT.of hp⟩,q as1 H1 _ g1 ok1 (M4 ok1 rv)⟩⟩
  ·obtain⟨p,vs,rfl,hq,rr⟩:=A8 ok1 rv ht e;exact⟨p,rfl,.inl ⟨⟨vs,hq⟩,q as1 H1 _ g1 ok1 (Jh ok1 rv ht e)⟩⟩)
theorem Gs{T:List Str}{Δ:Nat->Sn}{k:Nat}{N:List Str}{sc:Xf}{elts:List Expr}{kx:Nat}{tp p q:Pos}{r:Expr}{a:WE×WT}(C:Cok T Δ X k N sc)(hg:glo sc "enumerate"=true)(ha:Good X r a)(hs:e6 r=true):GoodI X (.Tuple elts kx tp) (.Call (.Name "enumerate" p) [r] [] q) (LY a.1) where
 m:=λρ S P P' i h=>ha.m _ _ _ _ (λx S1 ⟨xs,e,q⟩=>⟨xs,e,i _ _ _ q⟩) h
 pi:=by
  unfold glo at hg;simp only[U2,bQ,UN]at hg;have gl:Gl X "enumerate":=by show X.env.scope.names.lookup ("enumerate":Str)=_;rw[C.hs];exact hg.1.1
  refine Bv _ (ND gl C.enm (l9 ha.pe AC (f9 hs)) (f9 hs)) ?_;rintro σ H R ⟨as,ρ,S,ok,en,h⟩;refine⟨as,ρ,S,ok,en,ha.m _ _ _ _ (λx S1 ⟨xs,e,q⟩ as1 H1 v g1 ok1 rv=>?_) h⟩;by_cases ht:x = .tup xs
  ·subst ht;obtain⟨p,vs,rfl,hp,rr⟩:=rl_tup.mp rv;exact⟨p,rfl,.inr ⟨⟨vs,SqT.of hp⟩,q as1 H1 _ g1 ok1 (Gr ok1 rv)⟩⟩
  ·obtain⟨p,vs,rfl,hq,rr⟩:=A8 ok1 rv ht e;exact⟨p,rfl,.inl ⟨⟨vs,hq⟩,q as1 H1 _ g1 ok1 (Gq ok1 rv ht e)⟩⟩
theorem Gv{T:List Str}{Δ:Nat->Sn}{k:Nat}{N:List Str}{sc:Xf}{tg r:Expr}{p q:Pos}{a:WE×WT}(C:Cok T Δ X k N sc)(hg:glo sc "range"=true)(ha:Good X r a)(hs:e6 r=true):GoodI X tg (.Call (.Name "range" p) [r] [] q) (LW a.1) where
 m:=λρ S P P' i h=>ha.m _ _ _ _ (λx S1 ⟨j,e,z,q⟩=>⟨j,e,z,i _ _ _ q⟩) h
 pi:=by
  unfold glo at hg;simp only[U2,bQ,UN]at hg;have gl:Gl X "range":=by show X.env.scope.names.lookup ("range":Str)=_;rw[C.hs];exact hg.1.1
  refine Bv _ (Ik gl C.rng (l9 ha.pe AC (f9 hs)) (f9 hs)) ?_;rintro σ H R ⟨as,ρ,S,ok,en,h⟩;refine⟨as,ρ,S,ok,en,ha.m _ _ _ _ (λx S1 ⟨j,e,z,q⟩ as1 H1 v g1 ok1 rv=>?_) h⟩;subst e;refine⟨j,by rw[rl_int.mp rv],z.1,z.2,?_⟩;have:=q as1 H1 (Itr 0 (j - 0).toNat) g1 ok1 FQ
  rwa [Int.sub_zero]at this
theorem Gx{T:List Str}{Δ:Nat->Sn}{k:Nat}{N:List Str}{sc:Xf}{tg r r2:Expr}{p q:Pos}{a b:WE×WT}(C:Cok T Δ X k N sc)(hg:glo sc "range"=true)(ha:Good X r a)(hb:Good X r2 b)(hs:e6 r=true)(hs2:e6 r2=true):GoodI X tg (.Call (.Name "range" p) [r,r2] [] q) (LX a.1 b.1) where
 m:=λρ S P P' i h=>ha.m _ _ _ _ (λx S1 h=>hb.m _ _ _ _ (λy S2 ⟨l,j,e,e2,z,q⟩=>⟨l,j,e,e2,z,i _ _ _ q⟩) h) h
 pi:=by
  unfold glo at hg;simp only[U2,bQ,UN]at hg;have gl:Gl X "range":=by show X.env.scope.names.lookup ("range":Str)=_;rw[C.hs];exact hg.1.1
  refine Bv _ (Il gl C.rng (l9 ha.pe (l9 hb.pe AC (f9 hs2)) (f9 hs)) (by rw[f9 hs,f9 hs2];rfl) (f9 hs2)) ?_;rintro σ H R ⟨as,ρ,S,ok,en,h⟩;refine⟨as,ρ,S,ok,en,ha.m _ _ _ _ (λx S1 h as1 H1 v g1 ok1 rv=>?_) h⟩;refine⟨as1,ρ,S1,ok1,en.mono g1.pre (g1.ku ok),hb.m _ _ _ _ (λy S2 ⟨l,j,e,e2,z,q⟩ as2 H2 u g2 ok2 ru=>?_) h⟩;subst e e2;exact⟨l,j,by rw[rl_int.mp rv,rl_int.mp ru],z,q as2 H2 _ (g1.trans g2) ok2 FQ⟩
theorem M5{as1:List XU}{H1:Hp}{a:XU}{k:Nat}{o:Obj}{ks:List (Key×V)}{kvs:List (Int×SV)}(ea:as1[k]?=some a):Walks K as1 H1 (Iti a o ks) (λS'=>S'[k]?=some (.dcf o ks kvs)) (kvs.map λp=>SV.tup [.int p.1,p.2]):=λas H S g ok kp=>by
 have ea':as[k]?=some a:=by
  obtain⟨t,rfl⟩:=g.pre;rw[UM ((gM ea).1)];exact ea
 obtain⟨h1,h2⟩:=(show RlO K as H a (.dcf o ks kvs) from ok.obj k _ a kp ea')
 refine⟨λi x hx=>?_,by rw[h2.length,U4];exact U9 _,h1⟩;rw[UJ]at hx;obtain⟨p,hp,rfl⟩:=Vl.mp hx;obtain⟨v,hv,rv⟩:=RlD.at h2 hp;refine⟨⟨(gM hv).1,h1⟩,λu H' yl=>?_⟩;obtain⟨q,p',hq,rfl,hp',rfl⟩:=yl;rw[hv]at hp';cases hp';exact⟨Go.new hq,ok.new hq,rl_tup.mpr ⟨q,_,rfl,g8,.cons (rl_int.mpr rfl) (.cons (Rl.mono (UW _) (n6 hq) _ v rv) .nil)⟩⟩
theorem Jj{elts:List Expr}{kx:Nat}{tp ap cp:Pos}{r:Expr}{a:WE×WT}(ha:Good X r a)(hn:u9 r=true)(hl:(ap.endLine == cp.line)=true):GoodI X (.Tuple elts kx tp) (.Call (.Attribute r "items" ap) [] [] cp) (PH a.1) where
 m:=λρ S P P' i h=>ha.m _ _ _ _ (λx S1 ⟨k,kvs,e,hk,q⟩=>⟨k,kvs,e,hk,λo ks=>i _ _ _ (q o ks)⟩) h
 pi:=Bv _ (Lx ha.pe (p8 hn) hl) (by
  rintro σ H R ⟨as,ρ,S,ok,en,h⟩;refine⟨as,ρ,S,ok,en,ha.m _ _ _ _ (λx S1 ⟨k,kvs,e,hk,q⟩ as1 H1 v g1 ok1 rv=>?_) h⟩;subst e;obtain⟨a,ea,rfl⟩:=rl_loc.mp rv;obtain⟨ks,h1,h2⟩:=ok1.obj k _ a hk ea;refine⟨a,ks,rfl,.inl ⟨h1,λo=>?_⟩⟩;obtain⟨ok2,ku⟩:=ok1.writeO (x := .dcf o ks kvs) (u := .frz o (.dK ks)) hk ea (λku=>⟨g8,RlD.mono (UW _) ku kvs ks h2⟩);exact q o ks as1 _ (Iti a o ks) (g1.trans (Go.write (UC ea))) ok2 (M5 ea))
theorem ES{xs ys:List SV}{i:Nat}{z:SV}(h:(GV xs ys)[i]?=some z):∃ x y,xs[i]?=some x/\ys[i]?=some y/\z = .tup [x,y]:=by
 unfold GV at h;rw[Vo]at h;cases h1:xs[i]? with
 | none=>rw[h1]at h;cases h
 | some x=>
   cases h2:ys[i]? with
   | none=>rw[h1,h2]at h;cases h
   | some y=>
     rw[h1,h2]at h;cases h;exact⟨x,y,rfl,rfl,rfl⟩
theorem ET{xs ys:List SV}(h:xs.length=ys.length):(GV xs ys).length=xs.length:=by unfold GV;simp[h]
theorem Jk{as0:List XU}{H0:Hp}{S1:Sto}{k:Nat}{a b:XU}{xs ys:List SV}(ok1:Ok K as0 H0 S1)(rx:Rl K as0 H0 (.ref a) (.loc k))(h:S1[k]?=some (.lst xs))(ry:Rl K as0 H0 (.ref b) (.tup ys))(hl:xs.length=ys.length):Walks K as0 H0 (Qv K a b) (keepS (.loc k) S1) (GV xs ys):=λas H S g ok kp=>by
 obtain⟨_,vs,e,ea,hb,rr⟩:=l8 ok (Rl.mono g.pre (g.ku ok1) _ _ rx) (show S[k]?=some (.lst xs) from (show S[k]?=S1[k]? from kp).trans h);cases e;obtain⟨_,us,e,hb2,rr2⟩:=rl_tup.mp (Rl.mono g.pre (g.ku ok1) _ _ ry);cases e;have hq:SqL K H a vs:=SqL.of hb;have hq2:SqT K H b us:=SqT.of hb2;refine⟨λi z hz=>?_,vs,hq,by rw[rr.length,ET hl]⟩;obtain⟨p,q,hp,hq',rfl⟩:=ES hz;obtain⟨v,hv,rv⟩:=rr.get hp;obtain⟨u,hu,ru⟩:=rr2.get hq';refine⟨⟨vs,us,v,u,hq,hq2,hv,hu⟩,λw H' yl=>?_⟩;obtain⟨n,v',u',hn,rfl,y1,y2,rfl⟩:=yl;have e1:=y1 vs hq;have e2:=y2 us hq2;rw[hv]at e1;cases e1;rw[hu]at e2;cases e2;exact⟨Go.new hn,ok.new hn,rl_tup.mpr ⟨n,_,rfl,g8,.cons (Rl.mono (UW _) (n6 hn) p v rv) (.cons (Rl.mono (UW _) (n6 hn) q u ru) .nil)⟩⟩
theorem Gy{T:List Str}{Δ:Nat->Sn}{k:Nat}{N:List Str}{sc:Xf}{elts:List Expr}{kx:Nat}{tp p q:Pos}{r r2:Expr}{a b:WE×WT}(C:Cok T Δ X k N sc)(hg:glo sc "zip"=true)(ha:Good X r a)(hb:Good X r2 b)(hs:e6 r=true)(hs2:e6 r2=true):GoodI X (.Tuple elts kx tp) (.Call (.Name "zip" p) [r,r2] [] q) (Lc a.1 b.1) where
 m:=λρ S P P' i h=>ha.m _ _ _ _ (λx S1 h=>hb.m _ _ _ _ (λy S2 ⟨k,xs,ys,e,z,e2,l,q⟩=>⟨k,xs,ys,e,z,e2,l,i _ _ _ q⟩) h) h
 pi:=by
  unfold glo at hg;simp only[U2,bQ,UN]at hg;have gl:Gl X "zip":=by show X.env.scope.names.lookup ("zip":Str)=_;rw[C.hs];exact hg.1.1
  refine Bv _ (O7 gl C.zip (l9 ha.pe (l9 hb.pe AC (f9 hs2)) (f9 hs)) (by rw[f9 hs,f9 hs2];rfl) (f9 hs2)) ?_;rintro σ H R ⟨as,ρ,S,ok,en,h⟩;refine⟨as,ρ,S,ok,en,ha.m _ _ _ _ (λx S1 h as1 H1 v g1 ok1 rv=>?_) h⟩;refine⟨as1,ρ,S1,ok1,en.mono g1.pre (g1.ku ok),hb.m _ _ _ _ (λy S2 ⟨k,xs,ys,e,z,e2,l,q⟩ as2 H2 u g2 ok2 ru=>?_) h⟩;subst e;subst e2;have rv2:=Rl.mono g2.pre (g2.ku ok1) _ _ rv;obtain⟨a,us,rfl,ea,hq,rr⟩:=l8 ok2 rv2 z;obtain⟨b,ws,rfl,hb,rr2⟩:=rl_tup.mp ru;exact⟨a,b,rfl,⟨us,SqL.of hq⟩,⟨ws,SqT.of hb⟩,q as2 H2 _ (g1.trans g2) ok2 (Jk ok2 rv2 z ru l)⟩
end
end Rf
namespace L2
open PySem PySem.Spec PyProof.Rows
noncomputable def SetXO(prog:XZ)(w:Xd)(o:Obj)(L:List Int):Prop:=
 ∃ es ep t,o.ExactSet/\o.data = .set es ep t/\ElemsOf (intKind prog w) es.toList/\es.size<Xx/\t.fits es.size=true/\Tab w t/\(es.toList.map λe=>numOf e.2).Perm L
theorem SetXO.at{prog:XZ}{w:Xd}{o:Obj}{L:List Int}{h:Heap}{a:XU}(x:SetXO prog w o L)(e:h.get? a=some o):SetX prog w h a L:=let ⟨es,ep,t,r⟩:=x;⟨o,es,ep,t,e,r⟩
theorem SetX.obj{prog:XZ}{w:Xd}{L:List Int}{h:Heap}{a:XU}(x:SetX prog w h a L):∃ o,h.get? a=some o/\SetXO prog w o L:=let ⟨o,es,ep,t,e,r⟩:=x;⟨o,e,es,ep,t,r⟩
noncomputable def hoS(o:Obj)(L:List Int):HO := .frz o (.set (λk=>decide (k∈L)) L.length)
end L2
namespace Rf
open PySem L2
theorem Jl{α:Type}{o:Option (Option α)}{x:α}(h:o.join=some x):o=some (some x):=by
 cases o with
 | none=>cases h
 | some o=>cases o with
   | none=>cases h
   | some y=>cases h;rfl
theorem EnvOk.cap{K:U1}{as:List XU}{H:Hp}{σ:St}{ρ:EnvS}(h:EnvOk K as H σ ρ)(k:Nat)(js:List Nat):EnvOk K as H (Ap k js σ) (F4 k js ρ):=by
 refine⟨by unfold Ap F4;simp,λi x e=>?_⟩;unfold F4 at e;unfold Ap;by_cases hi:i<k
 ·rw[UM (by simpa using hi),V3,iP hi]at e;cases e
 ·rw[Uj (by simpa using hi),Vm,UJ]at e;rw[Uj (by simpa using hi),Vm,UJ];cases hj:js[i - k]? with
  | none=>rw[hj]at e;cases e
  | some j=>
    rw[hj]at e;have e':(ρ[j]?).join=some x:=oj e;obtain⟨v,hv,rv⟩:=h.2 j x (Jl e');exact⟨v,by simp only[VF];rw[hv];rfl,rv⟩
theorem Ok.adopt{K:U1}{as:List XU}{H:Hp}{S:Sto}{D:XU}{vs:List V}{xs:List SV}(h:Ok K as H S)(n:D∉as)(hD:H D=some (.lst vs))(r:RlAll K as H vs xs):Ok K (as++[D]) H (S++[.lst xs]):=by
 have pre:as <+: as++[D]:=VN _ _;refine⟨by rw[UD,UD,h.len];rfl,?_,λk o a e ea=>?_⟩
 ·rw[VY];refine⟨h.nd,by simp,λa ha b hb=>?_⟩;rw[UA.mp hb];intro z;subst z;exact n ha
 ·by_cases hk:k<S.length
  ·rw[UM hk]at e;rw[UM (by rw[h.len];exact hk)]at ea;exact(h.obj k o a e ea).mono pre (KeepU.refl _) λ_ z=>z
  ·have hk':k=S.length:=by
    have:=(gM e).1;rw[UD,Ul]at this;omega
   subst hk';rw[UX]at e;rw[<-h.len,UX]at ea;cases e;cases ea;exact⟨vs,hD,RlAll.mono pre (KeepU.refl _) xs vs r⟩
theorem BN{keep:Sto->Prop}{g:Tg}{t:WT}{e:WE}{ρ:EnvS}(mt:MonoT t)(me:Mono e){Q Q':List SV->Sto->Prop}(i:∀ ys S,Q ys S->Q' ys S):∀(xs ys:List SV) (S:Sto),m8 keep g t e ρ Q xs ys S->m8 keep g t e ρ Q' xs ys S
 | [],ys,S,h=>by unfold m8 at h ⊢;exact⟨h.1,i _ _ h.2⟩
 | x::xs,ys,S,h=>by
   unfold m8 at h ⊢;refine⟨h.1,p9 g (λρ2 q=>mt _ _ _ _ (λb S1 q=>k9 (λq=>me _ _ _ _ (λy S2 q=>⟨q.1,BN mt me i xs _ _ q.2⟩) q) (λq=>BN mt me i xs _ _ q) q) q) h.2⟩
theorem Mono.comp{k:Nat}{js:List Nat}{g:Tg}{i:WI}{t:WT}{e:WE}(mi:MonoI i)(mt:MonoT t)(me:Mono e):Mono (Hs k js g i t e):=λρ S P P' im h=>mi _ _ _ _ (λkeep xs S1 h=>BN mt me (λys S2 q=>im _ _ q) xs [] S1 h) h
theorem FT{K:U1}{k:Nat}{js:List Nat}{g:Tg}{i:WI}{t:WT}{e:WE}(mi:MonoI i)(mt:MonoT t)(me:Mono e):∀ σ H Q,lift K (Hs k js g i t e) σ H Q->Kh (liftI K i) (Dp K g) (liftT K t) (lift K e) k js σ H Q:=by
 rintro σ H Q ⟨as,ρ,S,ok,en,h⟩;refine⟨as,ρ,S,ok,en,mi _ _ _ _ (λkeep xs S1 h as1 H1 J g1 ok1 W=>?_) h⟩;intro D hD;have Dn:D∉as1:=ok1.free hD
 refine⟨λi m vs H2=>m=xs.length - i/\i<=xs.length/\∃ as2 S2 ys,Go as1 H1 as2 H2/\Ok K as2 H2 S2/\D∉as2/\H2 D=some (.lst vs)/\RlAll K as2 H2 vs ys/\
  m8 keep g t e (F4 k js ρ) (λys S2=>Post K as H Q (.loc S2.length) (S2++[.lst ys])) (xs.drop i) ys S2,⟨xs.length,by simp,VT _,as1,S1,[],Go.new hD,ok1.new hD,Dn,g8,.nil,h⟩,?_⟩
 rintro i m vs H2 ⟨rfl,hi,as2,S2,ys,g2,ok2,n2,d2,rs,h⟩;by_cases hlt:i<xs.length
 ·right;rw[Vz hlt]at h;unfold m8 at h;obtain⟨kp,h⟩:=h;obtain⟨w1,_⟩:=W as2 H2 S2 (g2.gu ok1) ok2 kp;obtain⟨go,yl⟩:=w1 i xs[i] (UI hlt)
  refine⟨go,λvs' H'=>∃ as2 S2 ys,Go as1 H1 as2 H'/\Ok K as2 H' S2/\D∉as2/\H' D=some (.lst vs')/\RlAll K as2 H' vs' ys/\
   m8 keep g t e (F4 k js ρ) (λys S2=>Post K as H Q (.loc S2.length) (S2++[.lst ys])) (xs.drop (i+1)) ys S2,λvs' H' z=>⟨xs.length - (i+1),by omega,rfl,hlt,z⟩,λx H3 y3=>?_⟩
  obtain⟨g3,ok3,rx⟩:=yl x H3 y3;have en3:EnvOk K as2 H3 (Ap k js σ) (F4 k js ρ):=((en.mono g1.pre (g1.ku ok)).mono (g2.trans g3).pre ((g2.trans g3).ku ok1)).cap k js;have rs3:=RlAll.mono g3.pre (g3.ku ok2) ys vs rs;obtain⟨d3,n3⟩:=g3.keep D _ d2 n2;refine⟨as2,F4 k js ρ,S2,_,ok3,en3,rx,p9 g (λρ2 q σ2 en2=>?_) h⟩;refine⟨as2,ρ2,S2,ok3,en2,mt _ _ _ _ (λb S4 q as4 H4 g4 ok4=>?_) q⟩;obtain⟨d4,n4⟩:=g4.keep D _ d3 n3;have rs4:=RlAll.mono g4.pre (g4.ku ok3) ys vs rs3;refine k9 (λq=>?_) (λq=>?_) q
  ·refine⟨as4,ρ2,S4,ok4,en2.mono g4.pre (g4.ku ok3),me _ _ _ _ (λy S5 q as5 H5 v g5 ok5 rv=>?_) q⟩;obtain⟨d5,n5⟩:=g5.keep D _ d4 n4;have rs5:=RlAll.mono g5.pre (g5.ku ok4) ys vs rs4;refine⟨d5,by rw[rs.length];exact Cf q.1,as5,S5,ys++[y],?_,ok5.other d5 n5,n5,g8,?_,q.2⟩
   ·refine⟨(((g2.trans g3).trans g4).trans g5).pre,λb o hb nb=>?_⟩;obtain⟨z1,z2⟩:=(((g2.trans g3).trans g4).trans g5).keep b o hb nb;exact⟨by rw[e8 (i5 hb hD)];exact z1,z2⟩
   ·exact RlAll.mono (UW _) (Bo d5 rfl) _ _ (rs5.append (.cons rv .nil))
  ·exact⟨as4,S4,ys,(g2.trans g3).trans g4,ok4,n4,d4,rs4,q⟩
 ·left;have hi':i=xs.length:=by omega
  subst hi';rw[Wv]at h;unfold m8 at h;obtain⟨kp,h⟩:=h;obtain⟨_,w2⟩:=W as2 H2 S2 (g2.gu ok1) ok2 kp;refine⟨w2,h (as2++[D]) H2 (.ref D) ?_ (ok2.adopt n2 d2 rs) (rl_loc.mpr ⟨D,by rw[<-ok2.len,UX],rfl⟩)⟩;refine⟨(g1.pre.trans g2.pre).trans (VN _ _),λb o hb nb=>?_⟩;obtain⟨h1,n1⟩:=g1.keep b o hb nb;obtain⟨h2,n2'⟩:=g2.keep b o h1 n1;refine⟨h2,?_⟩;rw[UV,UA];rintro(z | z)
  ·exact n2' z
  ·exact i5 h1 hD z
theorem Dr(ns:List Int)(i:Int):n8 (ns++[i])=PyProof.Rows.step_dedup (n8 ns) i:=by
 unfold n8;rw[UD,Ul,PyProof.Rows.firstMet_succ];have e1:(ns++[i]).getD ns.length 0=i:=by simp
 have e2:PyProof.Rows.firstMet (λj=>(ns++[i]).getD j 0) ns.length=PyProof.Rows.firstMet (λj=>ns.getD j 0) ns.length:=by
  unfold PyProof.Rows.firstMet
  congr 1
  refine List.map_congr_left λj hj=>?_;have hj:=Ua.mp hj;simp[UM hj]
 rw[e1,e2]
theorem FU{scope sc:Xf}{x:Str}(h:scope.names.lookup x=some .local):(F5 scope sc).names.lookup x=some .local:=by
 have go:∀ l:List (Str×Xt),l.lookup x=some .local->(l.map λ(n,k)=>if (k == .free&&sc.kind == .function&&sc.names.lookup n == some .cell) then (n,.cell) else (n,k)).lookup x=some .local:=by
  intro l
  induction l with
  | nil=>intro h;cases h
  | cons a r ih=>
    obtain⟨n,k⟩:=a;intro h;rw[V4]at h;rw[UT];cases hb:x == n with
    | true=>
      rw[hb]at h;have:k = .local:=oj h;subst this;show WZ x ((n,NameKind.local)::_)=_;rw[V4,hb]
    | false=>
      rw[hb]at h
      have e:∀ k',WZ x ((n,k')::(r.map λ(n,k)=>if (k == .free&&sc.kind == .function&&sc.names.lookup n == some .cell) then (n,.cell) else (n,k)))=some .local:=λk'=>by
       rw[V4,hb];exact ih h
      show WZ x ((if (k == .free&&sc.kind == .function&&sc.names.lookup n == some .cell)=true then (n,NameKind.cell) else (n,k))::_)=_;split<;>exact e _
 exact go _ h
theorem Cok.comp{T:List Str}{Δ:Nat->Sn}{X:Cx}{k:Nat}{N:List Str}{sc scope:Xf}{own cn:List Str}{js:List Nat}(C:Cok T Δ X k N sc)(hok:v8 sc scope own cn N js=true)(s2:XS)(H2:Hp)(cs:List (Str×XU))(A:XU)(fp:List XU):Cok T Δ (j4 X scope (own++cn) s2 H2 cs A fp) own.length (own++cn) (F5 scope sc) where
 hN:=rfl
 hs:=by rw[<-C.hs];rfl
 nd:=by
  unfold v8 at hok;simp only[U2,dQ]at hok;exact hok.1.2
 calm:=C.calm
 fn:=λi x hi hx hc=>by
  unfold v8 at hok;simp only[U2,dQ,US,Uh]at hok
  have hm:x∈own:=by
   rw[UM hi]at hx;exact UC hx
  show(scope.names.lookup x == some .cell)=true;rcases hok.1.1.1.2 x hm with h | h
  ·rw[FU h]at hc;cases hc
  ·rw[h];rfl
 un:=C.un
 bl:=C.bl
 rng:=C.rng
 enm:=C.enm
 rvs:=C.rvs
 zip:=C.zip
 st0:=C.st0
 dc0:=C.dc0
 ty:=C.ty
 gd:=C.gd
 call:=C.call
 mono:=C.mono
theorem AV{r:Expr}(h:u8 r=true){env:Env}:∀ x,YL r env x=pure x:=λx=>by cases r<;>first | rfl | cases h
theorem B6{T N:List Str}{sc:Xf}:∀{es:Exs} {rs:List Expr},Ae T N sc es rs=true->rs.all e6=true
 | .nil,rs,h=>by unfold Ae at h;rw[Ud]at h;subst h;rfl
 | .cons e es,rs,h=>by
   unfold Ae at h;replace h:=c6 h;obtain⟨x,hx,h⟩:=h;simp only[U2]at h;rw[AL hx,V2,h.1.2,B6 h.2];rfl
theorem Qy{X:Cx}{i:Nat}{x:Str}{p:Pos}{N:List Str}{sc:Xf}{T:List Str}{Δ:Nat->Sn}{k:Nat}(C:Cok T Δ X k N sc)(h:nmB N sc i x=true):PE X (.Name x p) (Mu i):=by
 unfold nmB at h;simp only[U2,dQ,UN]at h;exact Qm C h.1.1.1 h.1.1.2 h.1.2 h.2
theorem IA{α:Type}{l:List α}(h:(!l.isEmpty)=true):∃ y ys,l=y::ys:=by
 cases l with
 | nil=>cases h
 | cons y ys=>exact⟨y,ys,rfl⟩
theorem Qz{X:Cx}{c:Expr}{a:WE×WT}(h:Good X c a):DK X [c] (liftT X.K a.2):=Kf h.pt
theorem M6{X:Cx}:DK X [] (liftT X.K Sc):=λpq s σ H Q I hw=>Ke pq s σ H Q I (let ⟨as,ρ,S,ok,en,h⟩:=hw;h as H (Go.refl _ _) ok)
theorem Gz{T:List Str}{Δ:Nat->Sn}{X:Cx}{k:Nat}{N:List Str}{sc scope:Xf}{own cn:List Str}{js:List Nat}{tg ri re:Expr}{ifs:List Expr}{p:Pos}{g:Tg}{i:WI}{t:WT}{e:WE×WT}(C:Cok T Δ X k N sc)(hok:v8 sc scope own cn N js=true)(hi:GoodI X tg ri i)
 (hg:∀ s2 H2 cs A fp,PG (j4 X scope (own++cn) s2 H2 cs A fp) tg (Dp X.K g)) (ht:∀ s2 H2 cs A fp,DK (j4 X scope (own++cn) s2 H2 cs A fp) ifs (liftT X.K t)) (mt:MonoT t) (he:∀ s2 H2 cs A fp,PE (j4 X scope (own++cn) s2 H2 cs A fp) re (lift X.K e.1)) (me:Mono e.1) (hn:u8 ri=true):
 Good X (.ListComp re [⟨tg,ri,ifs,0⟩] scope p) (tt1 (Hs own.length js g i t e.1)):=
 .one (g9 _ (NC own cn js hi.pi hg ht he C.calm (by rw[C.hs,C.hN];exact hok) (AV hn)) (FT hi.m mt me)) (.comp hi.m mt me) rfl
mutual
theorem c8{T:List Str}{Δ:Nat->Sn}:∀(e:Ex) (r:Expr) {X:Cx} {k:Nat} {N:List Str} {sc:Xf},Cok T Δ X k N sc->i6 T N sc e r=true->Good X r (wEx Δ e)
 | .var i,r,X,k,N,sc,C,h=>by
   replace h:=c6 h;obtain⟨x,hx,h⟩:=h;obtain⟨p,rfl⟩:=Az hx;exact .one (g9 _ (Qy C h) NN) .var rfl
 | .c x,r,X,k,N,sc,C,h=>by
   replace h:=c6 h;obtain⟨x,hx,h⟩:=h;obtain⟨j,p,rfl⟩:=JQ hx;exact Nt h
 | .op o a b,r,X,k,N,sc,C,h=>by
   replace h:=c6 h;obtain⟨v,hv,h⟩:=h;obtain⟨p,rfl⟩:=Nj hv;simp only[U2,dQ]at h;have ga:=c8 a _ C h.1.2;have gb:=c8 b _ C h.2;rw[<-h.1.1];exact .one (Ls ga.pe gb.pe ga.m gb.m) (.two Ht ga.m gb.m) rfl
 | .neg a,r,X,k,N,sc,C,h=>by
   replace h:=c6 h;obtain⟨v,hv,h⟩:=h;obtain⟨p,rfl⟩:=Ln hv;simp only[U2,dQ]at h;rw[h.1];exact JX (c8 a _ C h.2)
 | .cmp o a b,r,X,k,N,sc,C,h=>by
   replace h:=c6 h;obtain⟨v,hv,h⟩:=h;replace h:=c6 h;obtain⟨rb,hb,h⟩:=h;obtain⟨p,rfl⟩:=CK hv;simp only[U2,dQ]at h;obtain⟨⟨⟨h0,h1⟩,h2⟩,h3⟩:=h;rw[h0,m7 hb];have ga:=c8 a _ C h1;have gb:=c8 b _ C h2;have:=C.un;exact JR (by omega) ga.pe gb.pe ga.m gb.m h3
 | .chn o p a b c,r,X,k,N,sc,C,h=>by
   replace h:=c6 h;obtain⟨v,hv,h⟩:=h;replace h:=c6 h;obtain⟨rs,hb,h⟩:=h;obtain⟨p,rfl⟩:=CK hv;simp only[U2,dQ]at h;obtain⟨⟨⟨⟨h0,h1⟩,h2⟩,h3⟩,h4⟩:=h;rw[h0,Dk hb];have ga:=c8 a _ C h1;have gb:=c8 b _ C h2;have gc:=c8 c _ C h3;have:=C.un;exact JS (by omega) ga.pe gb.pe gc.pe ga.m gb.m gc.m h4
 | .and a b,r,X,k,N,sc,C,h=>by
   replace h:=c6 h;obtain⟨v,hv,h⟩:=h;have e:=F7 hv;subst e;rw[U2,dQ]at h;obtain⟨h0,h⟩:=h;replace h:=c6 h;obtain⟨x,hx,h⟩:=h;rw[U2]at h;have ga:=c8 a _ C h.1;rw[h0,AL hx];have h2:=h.2;generalize v.2.1.tail=tl at h2;cases hl:l1 tl with
   | some y=>
     rw[hl]at h2;rw[m7 hl];exact Gb ga (c8 b _ C h2)
   | none=>
     rw[hl]at h2;rw[U2,dQ]at h2;have gb:=c8 b _ C h2.2
     match tl,h2,gb with
     | y::z::zs,h2,gb=>exact Gc ga gb
     | [],h2,_=>exact absurd h2.1 (by simp)
     | [_],h2,_=>exact absurd h2.1 (by simp)
 | .or a b,r,X,k,N,sc,C,h=>by
   replace h:=c6 h;obtain⟨v,hv,h⟩:=h;have e:=F7 hv;subst e;rw[U2,dQ]at h;obtain⟨h0,h⟩:=h;replace h:=c6 h;obtain⟨x,hx,h⟩:=h;rw[U2]at h;have ga:=c8 a _ C h.1;rw[h0,AL hx];have h2:=h.2;generalize v.2.1.tail=tl at h2;cases hl:l1 tl with
   | some y=>
     rw[hl]at h2;rw[m7 hl];exact JT ga (c8 b _ C h2)
   | none=>
     rw[hl]at h2;rw[U2,dQ]at h2;have gb:=c8 b _ C h2.2
     match tl,h2,gb with
     | y::z::zs,h2,gb=>exact JU ga gb
     | [],h2,_=>exact absurd h2.1 (by simp)
     | [_],h2,_=>exact absurd h2.1 (by simp)
 | .not a,r,X,k,N,sc,C,h=>by
   replace h:=c6 h;obtain⟨v,hv,h⟩:=h;obtain⟨p,rfl⟩:=Ln hv;simp only[U2,dQ]at h;rw[h.1];exact JV (c8 a _ C h.2)
 | .ife t a b,r,X,k,N,sc,C,h=>by
   replace h:=c6 h;obtain⟨v,hv,h⟩:=h;obtain⟨p,rfl⟩:=Nk hv;simp only[U2]at h;exact JW (c8 t _ C h.1.1) (c8 a _ C h.1.2) (c8 b _ C h.2)
 | .tup es,r,X,k,N,sc,C,h=>by
   replace h:=c6 h;obtain⟨v,hv,h⟩:=h;obtain⟨j,p,rfl⟩:=AK hv;exact Jb (A9 es _ C h)
 | .lst es,r,X,k,N,sc,C,h=>by
   replace h:=c6 h;obtain⟨v,hv,h⟩:=h;obtain⟨p,rfl⟩:=Nl hv;exact Jc (A9 es _ C h)
 | .ix a b,r,X,k,N,sc,C,h=>by
   replace h:=c6 h;obtain⟨v,hv,h⟩:=h;obtain⟨p,rfl⟩:=CL hv;simp only[U2]at h;exact Lw (c8 a _ C h.1.1) (c8 b _ C h.1.2) h.2
 | .slc a lo hi,r,X,k,N,sc,C,h=>by
   replace h:=c6 h;obtain⟨v,hv,h⟩:=h;replace h:=c6 h;obtain⟨w,hw,h⟩:=h;obtain⟨p,rfl⟩:=CL hv;obtain⟨p2,ew⟩:=Nm hw;simp only[U2]at h;have hl:=FV lo _ C h.1.1.2;have hh:=FV hi _ C h.1.2;rw[ew,W0.mp h.2];exact JY (c8 a _ C h.1.1.1) hl.1 hh.1 hl.2 hh.2
 | .call f es,r,X,k,N,sc,C,h=>by
   replace h:=c6 h;obtain⟨v,hv,h⟩:=h;obtain⟨p,q,rfl⟩:=t3 hv;simp only[U2,dQ]at h;obtain⟨⟨⟨h1,h2⟩,h3⟩,h4⟩:=h;obtain⟨y,ys,e⟩:=IA h4;have st:=B6 h3;have g:=A9 es _ C h3;rw[e]at st g ⊢;rw[V2,U2]at st;exact Gh C h1 h2 g st.1 st.2
 | .bi b es,r,X,k,N,sc,C,h=>by
   replace h:=c6 h;obtain⟨v,hv,h⟩:=h;obtain⟨p,q,rfl⟩:=t3 hv;simp only[U2,dQ]at h;obtain⟨⟨⟨h1,h2⟩,h3⟩,h4⟩:=h;obtain⟨y,ys,e⟩:=IA h4;have st:=B6 h3;have g:=A9 es _ C h3;rw[e]at st g ⊢;rw[V2,U2]at st;rw[<-h1]at h2 ⊢;exact M0 C h2 g st.1 st.2
 | .mt m a es,r,X,k,N,sc,C,h=>by
   replace h:=c6 h;obtain⟨v,hv,h⟩:=h;obtain⟨ap,cp,rfl,hl⟩:=EJ hv;simp only[U2,dQ]at h;obtain⟨⟨⟨⟨h0,h1⟩,h3⟩,h4⟩,h5⟩:=h;have st:=B6 h5;have ga:=c8 a _ C h4;have gs:=A9 es _ C h5;rw[h0];generalize v.2.2=args at h3 h5 st gs ⊢;cases args with
   | nil=>
     cases es with
     | nil=>exact Jd ga h1 hl
     | cons _ _=>rw[Ae]at h5;cases h5
   | cons y ys=>
     rw[V2,U2]at st;exact M3 ga gs h1 hl h3 st.1 st.2
 | .comp own cn js g it t e,r,X,k,N,sc,C,h=>by
   replace h:=c6 h;obtain⟨v,hv,h⟩:=h;replace h:=c6 h;obtain⟨c,hc,h⟩:=h;obtain⟨p,rfl⟩:=F8 hv;simp only[U2,dQ]at h;obtain⟨⟨⟨⟨⟨⟨h0,h1⟩,h2⟩,h3⟩,h4⟩,h5⟩,h6⟩:=h;have hI:=Bw it _ _ C h3;have hT:=λs2 H2 cs A fp=>FW t _ (C.comp h1 s2 H2 cs A fp) h5;have hE:=λs2 H2 cs A fp=>c8 e _ (C.comp h1 s2 H2 cs A fp) h6;rw[m7 hc];obtain⟨tg,ri,ifs,az⟩:=c;have h0:az=0:=h0;subst h0;exact Gz C h1 hI (λs2 H2 cs A fp=>B2 (C.comp h1 s2 H2 cs A fp) g _ h2) (λs2 H2 cs A fp=>(hT s2 H2 cs A fp).1) (hT X.s₀ X.H₀ [] 0 []).2 (λs2 H2 cs A fp=>(hE s2 H2 cs A fp).pe) (hE X.s₀ X.H₀ [] 0 []).m h4
 | .tyc t,r,X,k,N,sc,C,h=>by
   replace h:=c6 h;obtain⟨x,hx,h⟩:=h;obtain⟨p,rfl⟩:=Az hx;simp only[U2,dQ]at h;obtain⟨⟨rfl,h1⟩,h2⟩:=h;exact Je C h1 h2
 | .lrng1 a,r,X,k,N,sc,C,h=>by
   replace h:=c6 h;obtain⟨v,hv,h⟩:=h;replace h:=c6 h;obtain⟨z,hz,h⟩:=h;replace h:=c6 h;obtain⟨u,hu,h⟩:=h;replace h:=c6 h;obtain⟨ra,hra,h⟩:=h;obtain⟨p,q,rfl⟩:=t3 hv;obtain⟨p2,q2,rfl⟩:=t3 hu;simp only[U2,dQ]at h;obtain⟨⟨⟨⟨⟨e1,e2⟩,h1⟩,h2⟩,h3⟩,h4⟩:=h;rw[m7 hz,m7 hra,e1,e2];rw[e1]at h1;rw[e2]at h2;exact FG C h1 h2 (c8 a _ C h3) h4
 | .dnewp,r,X,k,N,sc,C,h=>by
   replace h:=c6 h;obtain⟨v,hv,h⟩:=h;obtain⟨p,rfl⟩:=F6 hv;simp only[U2,Ud]at h;rw[h.1,h.2];exact FK
 | .setd d e v,r,X,k,N,sc,C,h=>by
   replace h:=c6 h;obtain⟨u,hu,h⟩:=h;replace h:=c6 h;obtain⟨ra,hra,h⟩:=h;obtain⟨ap,cp,rfl,hl⟩:=EJ hu;simp only[U2,dQ]at h;obtain⟨⟨⟨⟨⟨⟨e1,h1⟩,h2⟩,h3⟩,h4⟩,h5⟩,h6⟩:=h;rw[Dk hra,e1];exact Gn (VL (Vs (by decide) _) C.un) (c8 d _ C h2) (c8 e _ C h3) (c8 v _ C h5) h1 hl h4 h6
 | .mind a d,r,X,k,N,sc,C,h=>by
   replace h:=c6 h;obtain⟨⟨x,as,kw⟩,hv,h⟩:=h;replace h:=c6 h;obtain⟨ra,hra,h⟩:=h;obtain⟨p,q,rfl⟩:=Nn hv;obtain⟨ka,kv,kp⟩:=kw;simp only[U2,dQ]at h;obtain⟨⟨⟨⟨⟨e1,h1⟩,h3⟩,h5⟩,h4⟩,e2⟩:=h;subst e1;subst e2;rw[m7 hra];exact Gp (VL (Vs (by decide) _) C.un) C h1 (c8 a _ C h3) (c8 d _ C h5) h4
 | .dvals a,r,X,k,N,sc,C,h=>by
   replace h:=c6 h;obtain⟨v,hv,h⟩:=h;replace h:=c6 h;obtain⟨z,hz,h⟩:=h;replace h:=c6 h;obtain⟨u,hu,h⟩:=h;obtain⟨p,q,rfl⟩:=t3 hv;obtain⟨ap,cp,rfl,hl⟩:=EJ hu;simp only[U2,dQ,Ud]at h;obtain⟨⟨⟨⟨⟨e1,h1⟩,e2⟩,e3⟩,h4⟩,h5⟩:=h;rw[e1]at h1;rw[m7 hz,e1,e2,e3];exact FI C h1 (c8 a _ C h5) h4 hl
 | .dcopy a,r,X,k,N,sc,C,h=>by
   replace h:=c6 h;obtain⟨v,hv,h⟩:=h;replace h:=c6 h;obtain⟨ra,hra,h⟩:=h;obtain⟨p,q,rfl⟩:=t3 hv;simp only[U2,dQ]at h;obtain⟨⟨⟨e1,h1⟩,h3⟩,h4⟩:=h;rw[e1]at h1;rw[m7 hra,e1];exact FJ C h1 (c8 a _ C h3) h4
 | .lenset a,r,X,k,N,sc,C,h=>by
   replace h:=c6 h;obtain⟨v,hv,h⟩:=h;replace h:=c6 h;obtain⟨z,hz,h⟩:=h;replace h:=c6 h;obtain⟨u,hu,h⟩:=h;replace h:=c6 h;obtain⟨ra,hra,h⟩:=h;obtain⟨p,q,rfl⟩:=t3 hv;obtain⟨p2,q2,rfl⟩:=t3 hu;simp only[U2,dQ]at h;obtain⟨⟨⟨⟨⟨e1,e2⟩,h1⟩,h2⟩,h3⟩,h4⟩:=h;rw[e1]at h1;rw[e2]at h2;rw[m7 hz,m7 hra,e1,e2];exact EM C h1 h2 (c8 a _ C h3) h4
 | .srtset a,r,X,k,N,sc,C,h=>by
   replace h:=c6 h;obtain⟨v,hv,h⟩:=h;replace h:=c6 h;obtain⟨z,hz,h⟩:=h;replace h:=c6 h;obtain⟨u,hu,h⟩:=h;replace h:=c6 h;obtain⟨ra,hra,h⟩:=h;obtain⟨p,q,rfl⟩:=t3 hv;obtain⟨p2,q2,rfl⟩:=t3 hu;simp only[U2,dQ]at h;obtain⟨⟨⟨⟨⟨e1,e2⟩,h1⟩,h2⟩,h3⟩,h4⟩:=h;rw[e1]at h1;rw[e2]at h2;rw[m7 hz,m7 hra,e1,e2];exact EN C h1 h2 (c8 a _ C h3) h4
 | .setl a,r,X,k,N,sc,C,h=>by
   replace h:=c6 h;obtain⟨v,hv,h⟩:=h;replace h:=c6 h;obtain⟨ra,hra,h⟩:=h;obtain⟨p,q,rfl⟩:=t3 hv;simp only[U2,dQ]at h;obtain⟨⟨⟨e1,h1⟩,h3⟩,h4⟩:=h;rw[e1]at h1;rw[m7 hra,e1];exact Gi C h1 (c8 a _ C h3) h4
 | .eqt0 a b,r,X,k,N,sc,C,h=>by
   replace h:=c6 h;obtain⟨v,hv,h⟩:=h;replace h:=c6 h;obtain⟨rb,hb,h⟩:=h;obtain⟨p,rfl⟩:=CK hv;simp only[U2,dQ]at h;obtain⟨⟨⟨h0,h1⟩,h2⟩,h3⟩:=h;rw[h0,m7 hb];have ga:=c8 a _ C h1;have gb:=c8 b _ C h2;have:=C.un;exact Gm (by omega) ga.pe gb.pe ga.m gb.m h3
 | .dnew,r,X,k,N,sc,C,h=>by
   replace h:=c6 h;obtain⟨v,hv,h⟩:=h;obtain⟨p,rfl⟩:=F6 hv;simp only[U2,Ud]at h;rw[h.1,h.2];exact Gk
 | .din n a b,r,X,k,N,sc,C,h=>by
   replace h:=c6 h;obtain⟨v,hv,h⟩:=h;replace h:=c6 h;obtain⟨rb,hb,h⟩:=h;obtain⟨p,rfl⟩:=CK hv;simp only[U2,dQ]at h;obtain⟨⟨⟨h0,h1⟩,h2⟩,h3⟩:=h;rw[h0,m7 hb];have:=C.un;exact Jf (by omega) (c8 a _ C h1) (c8 b _ C h2) h3
 | .no,r,X,k,N,sc,C,h => .never
theorem A9{T:List Str}{Δ:Nat->Sn}:∀(es:Exs) (rs:List Expr) {X:Cx} {k:Nat} {N:List Str} {sc:Xf},Cok T Δ X k N sc->Ae T N sc es rs=true->GoodA X rs (EI Δ es)
 | .nil,rs,X,k,N,sc,C,h=>by
   rw[Ae,Ud]at h;subst h;exact Ja
 | .cons e es,rs,X,k,N,sc,C,h=>by
   rw[Ae]at h;replace h:=c6 h;obtain⟨x,hx,h⟩:=h;simp only[U2]at h;rw[AL hx];exact Gg (c8 e _ C h.1.1) (A9 es _ C h.2) h.1.2
theorem FV{T:List Str}{Δ:Nat->Sn}:∀(o:Eo) (r:Option Expr) {X:Cx} {k:Nat} {N:List Str} {sc:Xf},Cok T Δ X k N sc->Lp T N sc o r=true->PO X r (FD X.K (wEo Δ o).1)/\MonoO (wEo Δ o).1
 | .no,r,X,k,N,sc,C,h=>by
   rw[Lp]at h;rw[W0.mp h];exact⟨Si,.no⟩
 | .yes e,r,X,k,N,sc,C,h=>by
   rw[Lp]at h;replace h:=c6 h;obtain⟨x,hx,h⟩:=h;subst hx;exact⟨Qn (c8 e _ C h),.yes (c8 e _ C h).m⟩
theorem FW{T:List Str}{Δ:Nat->Sn}:∀(o:Eo) (rs:List Expr) {X:Cx} {k:Nat} {N:List Str} {sc:Xf},Cok T Δ X k N sc->F9 T N sc o rs=true->DK X rs (liftT X.K (wEo Δ o).2)/\MonoT (wEo Δ o).2
 | .no,rs,X,k,N,sc,C,h=>by
   rw[F9,Ud]at h;subst h;exact⟨M6,λ_ _ _ _ i q=>i _ _ q⟩
 | .yes e,rs,X,k,N,sc,C,h=>by
   rw[F9]at h;replace h:=c6 h;obtain⟨x,hx,h⟩:=h;rw[m7 hx];exact⟨Qz (c8 e _ C h),(c8 e _ C h).mt⟩
theorem Bw{T:List Str}{Δ:Nat->Sn}:∀(it:Itb) (tg r:Expr) {X:Cx} {k:Nat} {N:List Str} {sc:Xf},Cok T Δ X k N sc->No T N sc it tg r=true->GoodI X tg r (Ni Δ it)
 | .seq e,tg,r,X,k,N,sc,C,h=>by
   exact Ji (c8 e _ C h)
 | .rng1 a,tg,r,X,k,N,sc,C,h=>by
   replace h:=c6 h;obtain⟨v,hv,h⟩:=h;replace h:=c6 h;obtain⟨ra,hra,h⟩:=h;obtain⟨p,q,rfl⟩:=t3 hv;simp only[U2,dQ]at h;obtain⟨⟨⟨e1,h1⟩,h2⟩,h3⟩:=h;rw[e1]at h1;rw[m7 hra,e1];exact Gv C h1 (c8 a _ C h2) h3
 | .rng2 a b,tg,r,X,k,N,sc,C,h=>by
   replace h:=c6 h;obtain⟨v,hv,h⟩:=h;replace h:=c6 h;obtain⟨ra,hra,h⟩:=h;obtain⟨p,q,rfl⟩:=t3 hv;simp only[U2,dQ]at h;obtain⟨⟨⟨⟨⟨e1,h1⟩,h2⟩,h3⟩,h4⟩,h5⟩:=h;rw[e1]at h1;rw[Dk hra,e1];exact Gx C h1 (c8 a _ C h2) (c8 b _ C h4) h3 h5
 | .enum e,tg,r,X,k,N,sc,C,h=>by
   replace h:((CD tg).isSome&&(vFn r).any λv=>(l1 v.2).any λa=>decide (v.1=("enumerate":Str))&&glo sc v.1&&i6 T N sc e a&&e6 a)=true:=h;rw[U2]at h;obtain⟨ht,h⟩:=h;obtain⟨es,he⟩:=V1.mp ht;obtain⟨j,tp,rfl⟩:=AK he;replace h:=c6 h;obtain⟨v,hv,h⟩:=h;replace h:=c6 h;obtain⟨ra,hra,h⟩:=h;obtain⟨p,q,rfl⟩:=t3 hv;simp only[U2,dQ]at h;obtain⟨⟨⟨e1,h1⟩,h2⟩,h3⟩:=h;rw[e1]at h1;rw[m7 hra,e1];exact Gs C h1 (c8 e _ C h2) h3
 | .itm e,tg,r,X,k,N,sc,C,h=>by
   replace h:((CD tg).isSome&&(vMt r).any λu=>decide (u.2.1=("items":Str))&&u.2.2.isEmpty&&u9 u.1&&i6 T N sc e u.1)=true:=h;rw[U2]at h;obtain⟨ht,h⟩:=h;obtain⟨es,he⟩:=V1.mp ht;obtain⟨j,tp,rfl⟩:=AK he;replace h:=c6 h;obtain⟨u,hu,h⟩:=h;obtain⟨ap,cp,rfl,hl⟩:=EJ hu;simp only[U2,dQ,Ud]at h;obtain⟨⟨⟨e2,e3⟩,h4⟩,h5⟩:=h;rw[e2,e3];exact Jj (c8 e _ C h5) h4 hl
 | .zipE a b,tg,r,X,k,N,sc,C,h=>by
   replace h:((CD tg).isSome&&(vFn r).any λv=>(l2 v.2).any λra=>decide (v.1=("zip":Str))&&glo sc v.1&&i6 T N sc a ra.1&&e6 ra.1&&i6 T N sc b ra.2&&e6 ra.2)=true:=h;rw[U2]at h;obtain⟨ht,h⟩:=h;obtain⟨es,he⟩:=V1.mp ht;obtain⟨j,tp,rfl⟩:=AK he;replace h:=c6 h;obtain⟨v,hv,h⟩:=h;replace h:=c6 h;obtain⟨ra,hra,h⟩:=h;obtain⟨p,q,rfl⟩:=t3 hv;simp only[U2,dQ]at h;obtain⟨⟨⟨⟨⟨e1,h1⟩,h2⟩,h3⟩,h4⟩,h5⟩:=h;rw[e1]at h1;rw[Dk hra,e1];exact Gy C h1 (c8 a _ C h2) (c8 b _ C h4) h3 h5
end
noncomputable def Cv:Expr->Option Xf
 | .ListComp _ _ s _=>some s
 | .SetComp _ _ s _=>some s
 | .DictComp _ _ _ s _=>some s
 | _=>none
noncomputable def Ds(sc:Xf)(e:Expr)(x:Str)(px:Pos):Bool:=match Cv e with
 | none=>false
 | some s=>sc.names.lookup x == some .local&&px.line == e.pos.line&&!(s.names.any λ(n,k)=>n == x&&(k == .local||k == .cell))
theorem IB{env:Env}{e:Expr}{x:Str}{px:Pos}{l:Nat}(hk:env.scope.kind = .function):Y6 e (some (.Name x px)) l env=pure (Ds env.scope e x px):=by
 have hb:env.blockKind = .function:=by unfold Env.blockKind;rw[hk];rfl
 unfold Y6 Ds Cv
 cases e<;>first
  | rfl
  | (show(pure _:Sem Bool)=_;rw[hb];rfl)
noncomputable def M7:Expr->Bool
 | .Tuple ..=>false
 | _=>true
noncomputable def O8(sc:Xf)(x y:Str)(px py:Pos):Bool:=sc.names.lookup x == some .local&&sc.names.lookup y == some .local&&px.line == py.line&&!(x == y)
noncomputable def Cw:Expr->Option (Str×Pos)
 | .Name x p=>some (x,p)
 | _=>none
theorem Bx{r:Expr}{x:Str×Pos}(h:Cw r=some x):r = .Name x.1 x.2:=by cases r<;>first | (cases h;rfl) | exact n9 h
noncomputable def M8:Stmt->Option (List Expr×Expr)
 | .Assign ts e _=>some (ts,e)
 | _=>none
noncomputable def Su:Stmt->Option Expr
 | .Expr e _=>some e
 | _=>none
noncomputable def Sv:Stmt->Option (Expr×List Stmt×List Stmt)
 | .If t a b _=>some (t,a,b)
 | _=>none
noncomputable def Sw:Stmt->Option (Expr×Expr×List Stmt×List Stmt)
 | .For g i b o _=>some (g,i,b,o)
 | _=>none
noncomputable def Sx:Stmt->Option (Expr×List Stmt×List Stmt)
 | .While t b o _=>some (t,b,o)
 | _=>none
noncomputable def Sy:Stmt->Option (Option Expr)
 | .Return e _=>some e
 | _=>none
theorem CN{r:Stmt}{x:List Expr×Expr}(h:M8 r=some x):∃ p,r = .Assign x.1 x.2 p:=by cases r<;>first | (cases h;exact⟨_,rfl⟩) | exact n9 h
theorem O9{r:Stmt}{x:Expr}(h:Su r=some x):∃ p,r = .Expr x p:=by cases r<;>first | (cases h;exact⟨_,rfl⟩) | exact n9 h
theorem OA{r:Stmt}{x:Expr×List Stmt×List Stmt}(h:Sv r=some x):∃ p,r = .If x.1 x.2.1 x.2.2 p:=by cases r<;>first | (cases h;exact⟨_,rfl⟩) | exact n9 h
theorem OB{r:Stmt}{x:Expr×Expr×List Stmt×List Stmt}(h:Sw r=some x):∃ p,r = .For x.1 x.2.1 x.2.2.1 x.2.2.2 p:=by cases r<;>first | (cases h;exact⟨_,rfl⟩) | exact n9 h
theorem OC{r:Stmt}{x:Expr×List Stmt×List Stmt}(h:Sx r=some x):∃ p,r = .While x.1 x.2.1 x.2.2 p:=by cases r<;>first | (cases h;exact⟨_,rfl⟩) | exact n9 h
theorem OD{r:Stmt}{x:Option Expr}(h:Sy r=some x):∃ p,r = .Return x p:=by cases r<;>first | (cases h;exact⟨_,rfl⟩) | exact n9 h
noncomputable def R0(e:Expr):Bool:=(Ll e).any λv=>(l1 v.2.1).isSome
noncomputable def T7(e:Expr):Bool:=false
noncomputable def R1(sc:Xf)(rt re:Expr):Bool:=match Cw rt with
 | some x=>!Ds sc re x.1 x.2||R0 re||T7 re
 | none=>(CD rt).isSome&&M7 re
mutual
noncomputable def T8(T:List Str)(N:List Str)(sc:Xf):Stm->Stmt->Bool
 | .asg t e,r=>(M8 r).any λv=>(l1 v.1).any λrt=>B0 N.length N sc t rt&&i6 T N sc e v.2&&e6 rt&&R1 sc rt v.2
 | .par i j a b,r=>(M8 r).any λv=>(l1 v.1).any λrt=>(CD rt).any λts=>(l2 ts).any λnn=>(CD v.2).any λvs=>(l2 vs).any λab=>(Cw nn.1).any λx=>(Cw nn.2).any λy=>
    decide (N[i]?=some x.1)&&decide (N[j]?=some y.1)&&decide (i≠j)&&O8 sc x.1 y.1 x.2 y.2&&i6 T N sc a ab.1&&i6 T N sc b ab.2&&e6 ab.1&&e6 ab.2&&!([ab.1,ab.2].all (foldedForSure 8))&&!([ab.1,ab.2].all (Zi 8))
 | .put o i e,r=>(M8 r).any λv=>(l1 v.1).any λrt=>(Lj rt).any λoi=>i6 T N sc o oi.1&&i6 T N sc i oi.2&&i6 T N sc e v.2&&Ad oi.2
 | .dput o i e,r=>(M8 r).any λv=>(l1 v.1).any λrt=>(Lj rt).any λoi=>i6 T N sc o oi.1&&i6 T N sc i oi.2&&i6 T N sc e v.2&&Ad oi.2
 | .expr e,r=>(Su r).any λre=>i6 T N sc e re&&(Cv re).isNone
 | .iff t a b,r=>(Sv r).any λv=>i6 T N sc t v.1&&Be T N sc a v.2.1&&Be T N sc b v.2.2
 | .loop g it b,r=>(Sw r).any λv=>B0 N.length N sc g v.1&&No T N sc it v.1 v.2.1&&u8 v.2.1&&Be T N sc b v.2.2.1&&v.2.2.2.isEmpty
 | .whl t b,r=>(Sx r).any λv=>i6 T N sc t v.1&&Be T N sc b v.2.1&&v.2.2.isEmpty
 | .ret e,r=>(Sy r).any λo=>o.any λre=>i6 T N sc e re
 | .no,_=>true
noncomputable def Be(T:List Str)(N:List Str)(sc:Xf):List Stm->List Stmt->Bool
 | [],r=>r.isEmpty
 | s::ss,r=>(r.head?).any λx=>T8 T N sc s x&&Be T N sc ss r.tail
end
noncomputable def FX(K:U1)(as:List XU)(H:Hp)(D:Ends):EndsS where
 nx:=λρ' S'=>∀ as' H' σ',Go as H as' H'->Ok K as' H' S'->EnvOk K as' H' σ' ρ'->D.nx σ' H'
 rt:=Post K as H D.rt
 bk:=λρ' S'=>∀ as' H' σ',Go as H as' H'->Ok K as' H' S'->EnvOk K as' H' σ' ρ'->D.bk σ' H'
 ct:=λρ' S'=>∀ as' H' σ',Go as H as' H'->Ok K as' H' S'->EnvOk K as' H' σ' ρ'->D.ct σ' H'
noncomputable def liftS(K:U1)(w:WS):TS:=λD σ H=>∃ as ρ S,Ok K as H S/\EnvOk K as H σ ρ/\w (FX K as H D) ρ S
structure Le(D D':EndsS):Prop where
 nx:∀ ρ S,D.nx ρ S->D'.nx ρ S
 rt:∀ x S,D.rt x S->D'.rt x S
 bk:∀ ρ S,D.bk ρ S->D'.bk ρ S
 ct:∀ ρ S,D.ct ρ S->D'.ct ρ S
noncomputable def MonoS(w:WS):Prop:=∀ D D' ρ S,Le D D'->w D ρ S->w D' ρ S
theorem MonoS.go{w:WS}(m:MonoS w){D D':EndsS}{ρ:EnvS}{S:Sto}(h:w D ρ S)(l:Le D D'):w D' ρ S:=m D D' ρ S l h
theorem Le.go{K:U1}{as as':List XU}{H H':Hp}{D:Ends}(g:Go as H as' H'):Le (FX K as H D) (FX K as' H' D) where
 nx:=λρ S h as2 H2 σ2 g2=>h as2 H2 σ2 (g.trans g2)
 rt:=λx S h=>Post.mono h g
 bk:=λρ S h as2 H2 σ2 g2=>h as2 H2 σ2 (g.trans g2)
 ct:=λρ S h as2 H2 σ2 g2=>h as2 H2 σ2 (g.trans g2)
structure GoodS(X:Cx)(r:Stmt)(w:WS):Prop where
 ps:PS X r (liftS X.K w)
 m:MonoS w
structure GoodSs(X:Cx)(r:List Stmt)(w:WS):Prop where
 ps:PSs X r (liftS X.K w)
 m:MonoS w
theorem v4{X:Cx}{st:Stmt}{t:TS}(t':TS)(h:PS X st t)(imp:∀ D σ H,t' D σ H->t D σ H):PS X st t':=λpq s σ H D I hw=>h pq s σ H D I (imp D σ H hw)
theorem FY{X:Cx}{st:List Stmt}{t:TS}(t':TS)(h:PSs X st t)(imp:∀ D σ H,t' D σ H->t D σ H):PSs X st t':=λpq s σ H D I hw=>h pq s σ H D I (imp D σ H hw)
section
variable{X:Cx}
theorem HA:GoodSs X [] (λD ρ S=>D.nx ρ S):=⟨FY _ My λD σ H ⟨as,ρ,S,ok,en,h⟩=>h as H σ (Go.refl _ _) ok en,λD D' ρ S l h=>l.nx _ _ h⟩
theorem FZ{s:Stmt}{ss:List Stmt}{w u:WS}(h1:GoodS X s w)(h2:GoodSs X ss u):GoodSs X (s::ss) (λD ρ S=>w {D with nx:=u D} ρ S) where
 ps:=FY _ (KD h1.ps h2.ps) (by
  rintro D σ H ⟨as,ρ,S,ok,en,h⟩;refine⟨as,ρ,S,ok,en,h1.m.go h ⟨λρ' S' q as' H' σ' g ok' en'=>?_,λ_ _ h=>h,λ_ _ h=>h,λ_ _ h=>h⟩⟩;exact⟨as',ρ',S',ok',en',h2.m _ _ _ _ (Le.go g) q⟩)
 m:=λD D' ρ S l h=>h1.m.go (D:={D with nx:=u D}) h ⟨λρ' S' q=>h2.m _ _ _ _ l q,l.rt,l.bk,l.ct⟩
theorem OE{K:U1}{g:Tg}{w:WE}(m:Mono w):∀ D σ H,liftS K (λD ρ S=>w ρ S λx S1=>wTg g x ρ λρ'=>D.nx ρ' S1) D σ H->Ii (lift K w) (Dp K g) D σ H:=by
 rintro D σ H ⟨as,ρ,S,ok,en,h⟩;refine⟨as,ρ,S,ok,en,m _ _ _ _ (λx S1 q as1 H1 v g1 ok1 rv=>?_) h⟩;exact⟨as1,ρ,S1,x,ok1,en.mono g1.pre (g1.ku ok),rv,p9 g (λρ' q σ' en'=>q as1 H1 σ' g1 ok1 en') q⟩
theorem Fb{K:U1}{i:Nat}{w:WE}(m:Mono w):∀ D σ H,liftS K (λD ρ S=>w ρ S λx S1=>wTg (.nm i) x ρ λρ'=>D.nx ρ' S1) D σ H->Ii (lift K w) (HR i) D σ H:=by
 rintro D σ H ⟨as,ρ,S,ok,en,h⟩;refine⟨as,ρ,S,ok,en,m _ _ _ _ (λx S1 q as1 H1 v g1 ok1 rv=>?_) h⟩;unfold wTg at q;exact q as1 H1 _ g1 ok1 ((en.mono g1.pre (g1.ku ok)).set rv)
theorem Fc{g:Tg}{w:WE}(m:Mono w):MonoS (λD ρ S=>w ρ S λx S1=>wTg g x ρ λρ'=>D.nx ρ' S1):=λD D' ρ S l h=>m _ _ _ _ (λx S1 q=>p9 g (λρ' q=>l.nx _ _ q) q) h
theorem R3{K:U1}{t:WT}{a b:WS}(mt:MonoT t)(ma:MonoS a)(mb:MonoS b):∀ D σ H,liftS K (λD ρ S=>t ρ S λc S1=>if c=true then a D ρ S1 else b D ρ S1) D σ H->RY (liftT K t) (liftS K a) (liftS K b) D σ H:=by
 rintro D σ H ⟨as,ρ,S,ok,en,h⟩;refine⟨as,ρ,S,ok,en,mt _ _ _ _ (λc S1 q as1 H1 g1 ok1=>?_) h⟩;refine k9 (λq=>?_) (λq=>?_) q
 ·exact⟨as1,ρ,S1,ok1,en.mono g1.pre (g1.ku ok),ma _ _ _ _ (Le.go g1) q⟩
 ·exact⟨as1,ρ,S1,ok1,en.mono g1.pre (g1.ku ok),mb _ _ _ _ (Le.go g1) q⟩
theorem B7{keep:Sto->Prop}{g:Tg}{b:WS}(mb:MonoS b):∀(xs:List SV) {D D':EndsS},Le D D'->∀ ρ S,p0 keep g b D xs ρ S->p0 keep g b D' xs ρ S
 | [],D,D',l,ρ,S,h=>by unfold p0 at h ⊢;exact⟨h.1,l.nx _ _ h.2⟩
 | x::xs,D,D',l,ρ,S,h=>by
   unfold p0 at h ⊢;exact⟨h.1,p9 g (λρ2 q=>mb.go (D:={D with nx:=p0 keep g b D xs,ct:=p0 keep g b D xs,bk:=D.nx}) q ⟨B7 mb xs l,l.rt,l.nx,B7 mb xs l⟩) h.2⟩
theorem OF{K:U1}{g:Tg}{i:WI}{b:WS}(mi:MonoI i)(mb:MonoS b):∀ D σ H,liftS K (λD ρ S=>i ρ S λkeep xs S1=>p0 keep g b D xs ρ S1) D σ H->Ri (liftI K i) (Dp K g) (liftS K b) D σ H:=by
 rintro D σ H ⟨as,ρ,S,ok,en,h⟩;refine⟨as,ρ,S,ok,en,mi _ _ _ _ (λkeep xs S1 h as1 H1 J g1 ok1 W=>?_) h⟩
 refine⟨λi m σ2 H2=>m=xs.length - i/\i<=xs.length/\∃ as2 ρ2 S2,Go as1 H1 as2 H2/\Ok K as2 H2 S2/\EnvOk K as2 H2 σ2 ρ2/\p0 keep g b (FX K as H D) (xs.drop i) ρ2 S2,
  ⟨xs.length,by simp,VT _,as1,ρ,S1,Go.refl _ _,ok1,en.mono g1.pre (g1.ku ok),h⟩,?_⟩
 rintro i m σ2 H2 ⟨rfl,hi,as2,ρ2,S2,g2,ok2,en2,h⟩;by_cases hlt:i<xs.length
 ·right;rw[Vz hlt]at h;unfold p0 at h;obtain⟨kp,h⟩:=h;obtain⟨w1,_⟩:=W as2 H2 S2 (g2.gu ok1) ok2 kp;obtain⟨go,yl⟩:=w1 i xs[i] (UI hlt);refine⟨go,λσ' H'=>∃ as2 ρ2 S2,Go as1 H1 as2 H'/\Ok K as2 H' S2/\EnvOk K as2 H' σ' ρ2/\p0 keep g b (FX K as H D) (xs.drop (i+1)) ρ2 S2,λσ' H' z=>⟨xs.length - (i+1),by omega,rfl,hlt,z⟩,λx H3 y3=>?_⟩;obtain⟨g3,ok3,rx⟩:=yl x H3 y3;refine⟨as2,ρ2,S2,_,ok3,en2.mono g3.pre (g3.ku ok2),rx,p9 g (λρ3 q σ3 en3=>?_) h⟩;have g03:=(g1.trans g2).trans g3;refine⟨as2,ρ3,S2,ok3,en3,mb.go q ⟨λρ' S' q as' H' σ' g' ok' en'=>?_,λx S h=>Post.mono h g03,λρ' S' q as' H' σ' g' ok' en'=>q as' H' σ' (g03.trans g') ok' en',λρ' S' q as' H' σ' g' ok' en'=>?_⟩⟩
  ·exact⟨as',ρ',S',(g2.trans g3).trans g',ok',en',q⟩
  ·exact⟨as',ρ',S',(g2.trans g3).trans g',ok',en',q⟩
 ·left;have hi':i=xs.length:=by omega
  subst hi';rw[Wv]at h;unfold p0 at h;obtain⟨kp,h⟩:=h;obtain⟨_,w2⟩:=W as2 H2 S2 (g2.gu ok1) ok2 kp;exact⟨w2,h as2 H2 σ2 (g1.trans g2) ok2 en2⟩
theorem Fd{t:WT}{b:WS}(mt:MonoT t)(mb:MonoS b):MonoS (Qi t b):=λD D' ρ S l ⟨W,w0,h⟩=>⟨W,w0,λm ρ S w=>mt _ _ _ _ (λc S1 q=>k9 (λq=>mb.go (D:={D with nx:=λρ' S'=>∃ m',m'<m/\W m' ρ' S',ct:=λρ' S'=>∃ m',m'<m/\W m' ρ' S',bk:=D.nx}) q ⟨λ_ _ h=>h,l.rt,l.nx,λ_ _ h=>h⟩) (λq=>l.nx _ _ q) q) (h m ρ S w)⟩
theorem OG{K:U1}{t:WT}{b:WS}(mt:MonoT t)(mb:MonoS b):∀ D σ H,liftS K (Qi t b) D σ H->KH (liftT K t) (liftS K b) D σ H:=by
 rintro D σ H ⟨as,ρ,S,ok,en,W,⟨m0,w0⟩,h⟩;refine⟨λm σ1 H1=>∃ as1 ρ1 S1,Go as H as1 H1/\Ok K as1 H1 S1/\EnvOk K as1 H1 σ1 ρ1/\W m ρ1 S1,⟨m0,as,ρ,S,Go.refl _ _,ok,en,w0⟩,?_⟩;rintro m σ1 H1 ⟨as1,ρ1,S1,g1,ok1,en1,w1⟩;refine⟨as1,ρ1,S1,ok1,en1,mt _ _ _ _ (λc S2 q as2 H2 g2 ok2=>?_) (h m ρ1 S1 w1)⟩;refine k9 (λq=>?_) (λq=>q as2 H2 σ1 (g1.trans g2) ok2 (en1.mono g2.pre (g2.ku ok1))) q;refine⟨λσ' H'=>∃ m',m'<m/\∃ as1 ρ1 S1,Go as H as1 H'/\Ok K as1 H' S1/\EnvOk K as1 H' σ' ρ1/\W m' ρ1 S1,λσ' H' z=>z,?_⟩;refine⟨as2,ρ1,S2,ok2,en1.mono g2.pre (g2.ku ok1),mb.go q ⟨λρ' S' ⟨m',hm,w'⟩ as' H' σ' g' ok' en'=>?_,λx S h=>Post.mono h (g1.trans g2),λρ' S' q as' H' σ' g' ok' en'=>q as' H' σ' ((g1.trans g2).trans g') ok' en',λρ' S' ⟨m',hm,w'⟩ as' H' σ' g' ok' en'=>?_⟩⟩
 ·exact⟨m',hm,as',ρ',S',(g1.trans g2).trans g',ok',en',w'⟩
 ·exact⟨m',hm,as',ρ',S',(g1.trans g2).trans g',ok',en',w'⟩
theorem OH{K:U1}{i j:Nat}{a b:WE}(ma:Mono a)(mb:Mono b):∀ D σ H,liftS K (λD ρ S=>a ρ S λx S1=>b ρ S1 λy S2=>D.nx ((ρ.set i (some x)).set j (some y)) S2) D σ H->Re i j (Ep (lift K a) (Ep (lift K b) Q3)) D σ H:=by
 rintro D σ H ⟨as,ρ,S,ok,en,h⟩;refine⟨as,ρ,S,ok,en,ma _ _ _ _ (λx S1 q as1 H1 v g1 ok1 rv=>?_) h⟩;refine⟨as1,ρ,S1,ok1,en.mono g1.pre (g1.ku ok),mb _ _ _ _ (λy S2 q as2 H2 u g2 ok2 ru=>?_) q⟩;refine⟨v,u,rfl,q as2 H2 _ (g1.trans g2) ok2 ?_⟩;exact(((en.mono g1.pre (g1.ku ok)).mono g2.pre (g2.ku ok1)).set (Rl.mono g2.pre (g2.ku ok1) x v rv)).set ru
theorem Cy{x y v:SV}{S:Sto}{P P':Sto->Prop}(i:∀ S,P S->P' S)(h:JP x y v S P):JP x y v S P':=by
 unfold JP at h ⊢;split at h
 ·obtain⟨xs,j,a,b,c⟩:=h;exact⟨xs,j,a,b,i _ c⟩
 ·exact h.elim
theorem OI{K:U1}{as:List XU}{H:Hp}{S:Sto}{x y z:SV}{o i v:V}{Q:Hp->Prop}(ok:Ok K as H S)(ro:Rl K as H o x)(ri:Rl K as H i y)(rv:Rl K as H v z)(h:JP x y z S λS'=>∀ H',Go as H as H'->Ok K as H' S'->Q H'):KU o i v H Q:=by
 cases x with
 | loc k=>
   cases y with
   | int n=>
     obtain⟨xs,j,h1,h2,h3⟩:=h;obtain⟨a,vs,rfl,ea,ha,ra⟩:=l8 ok ro h1;rw[rl_int]at ri;subst ri;refine⟨a,vs,n,j,rfl,rfl,ha,by rw[ra.length];exact h2,h3 _ (Go.write (UC ea)) (ok.write h1 ea (ra.set rv j)).1⟩
   | _=>exact False.elim h
 | _=>exact False.elim h
theorem OJ{K:U1}{o i e:WE}(mo:Mono o)(mi:Mono i)(me:Mono e):∀ D σ H,liftS K (λD ρ S=>e ρ S λv S1=>o ρ S1 λx S2=>i ρ S2 λy S3=>JP x y v S3 λS4=>D.nx ρ S4) D σ H->Ii (lift K e) (Rc (lift K o) (lift K i) KU) D σ H:=by
 rintro D σ H ⟨as,ρ,S,ok,en,h⟩;refine⟨as,ρ,S,ok,en,me _ _ _ _ (λz S1 q as1 H1 v g1 ok1 rv=>?_) h⟩;have en1:=en.mono g1.pre (g1.ku ok);refine⟨as1,ρ,S1,ok1,en1,mo _ _ _ _ (λx S2 q as2 H2 u g2 ok2 ru=>?_) q⟩;have en2:=en1.mono g2.pre (g2.ku ok1);refine⟨as2,ρ,S2,ok2,en2,mi _ _ _ _ (λy S3 q as3 H3 t g3 ok3 rt=>?_) q⟩;have en3:=en2.mono g3.pre (g3.ku ok2);refine OI ok3 (Rl.mono g3.pre (g3.ku ok2) x u ru) rt (Rl.mono (g2.trans g3).pre ((g2.trans g3).ku ok1) z v rv) (Cy (λS4 q H4 g4 ok4=>?_) q);exact q as3 H4 σ (((g1.trans g2).trans g3).trans g4) ok4 (en3.mono g4.pre (g4.ku ok3))
theorem OK{n j:Nat}(h:j<n):ixN n (j:Int)=some j:=by
 unfold ixN;rw[iP (by omega),iP (by omega)];simp
theorem Dt{x y v:SV}{S:Sto}{Q Q':Sto->Prop}(i:∀ S',Q S'->Q' S')(h:Hr x y v S Q):Hr x y v S Q':=let ⟨k,j,kvs,a,b,c,d,q⟩:=h;⟨k,j,kvs,a,b,c,d,i _ q⟩
theorem M9{K:U1}{o i e:WE}(mo:Mono o)(mi:Mono i)(me:Mono e):∀ D σ H,liftS K (λD ρ S=>e ρ S λv S1=>o ρ S1 λx S2=>i ρ S2 λy S3=>Hr x y v S3 λS4=>D.nx ρ S4) D σ H->LM (lift K o) (lift K i) (lift K e) D σ H:=by
 rintro D σ H ⟨as,ρ,S,ok,en,h⟩;refine⟨as,ρ,S,ok,en,me _ _ _ _ (λz S1 q as1 H1 v g1 ok1 rv=>?_) h⟩;have en1:=en.mono g1.pre (g1.ku ok);refine⟨as1,ρ,S1,ok1,en1,mo _ _ _ _ (λx S2 q as2 H2 u g2 ok2 ru=>?_) q⟩;have en2:=en1.mono g2.pre (g2.ku ok1);refine⟨as2,ρ,S2,ok2,en2,mi _ _ _ _ (λy S3 q as3 H3 t g3 ok3 rt=>?_) q⟩;have en3:=en2.mono g3.pre (g3.ku ok2);have ru':=Rl.mono g3.pre (g3.ku ok2) x u ru;have rv':=Rl.mono (g2.trans g3).pre ((g2.trans g3).ku ok1) z v rv;obtain⟨k,j,kvs,rfl,rfl,hk,hb,q⟩:=q;obtain⟨a,ea,rfl⟩:=rl_loc.mp ru';rw[rl_int]at rt;subst rt;rcases hk with hk | ⟨o',ks,hk⟩
 ·obtain⟨ks,h1,h2⟩:=ok3.obj k _ a hk ea;obtain⟨ok4,ku⟩:=ok3.writeO (x := .dct (Cl kvs j z)) (u := .dK (AU ks (Sum.inl j) v)) hk ea (λku=>⟨_,g8,RlD.mono (UW _) ku _ _ (h2.put rv' j)⟩);refine⟨a,H3,_,rfl,.inl rfl,.inl ⟨ks,.inl j,h1,rfl,by rw[h2.length];exact Cf hb,rfl⟩,?_⟩;exact q as3 _ σ (((g1.trans g2).trans g3).trans (Go.write (UC ea))) ok4 (en3.mono (UW _) ku)
 ·obtain⟨h1,h2⟩:=(show RlO K as3 H3 a (.dcf o' ks kvs) from ok3.obj k _ a hk ea)
  obtain⟨ok4,ku⟩:=ok3.writeO (x := .dct (Cl kvs j z)) (u := .dK (AU ks (Sum.inl j) v)) hk ea (λku=>⟨_,g8,RlD.mono (UW _) ku _ _ (h2.put rv' j)⟩)
  have e:upd (upd H3 a (.dK ks)) a (.dK (AU ks (Sum.inl j) v))=upd H3 a (.dK (AU ks (Sum.inl j) v)):=by
   funext b
   by_cases hb:b=a
   ·rw[hb,g8,g8]
   ·rw[e8 hb,e8 hb,e8 hb]
  refine⟨a,upd H3 a (.dK ks),upd H3 a (.dK (AU ks (Sum.inl j) v)),rfl,.inr ⟨a,o',ks,h1,rfl⟩,.inl ⟨ks,.inl j,g8,rfl,by rw[h2.length];exact Cf hb,e.symm⟩,?_⟩;exact q as3 _ σ (((g1.trans g2).trans g3).trans (Go.write (UC ea))) ok4 (en3.mono (UW _) ku)
end
theorem MA{env:Env}{es:List Expr}{k:Nat}{p:Pos}{e:Expr}{l:Nat}:YD [.Tuple es k p] e l env=pure false:=by
 unfold YD Y6;cases e<;>rfl
theorem R4{env:Env}{o i:Expr}{p:Pos}{e:Expr}{l:Nat}:YD [.Subscript o i p] e l env=pure false:=by
 unfold YD Y6;cases e<;>rfl
theorem R5{env:Env}{es:List Expr}{k:Nat}{p:Pos}{e:Expr}(h:M7 e=true):Y4 [.Tuple es k p] e env=pure none:=by
 unfold Y4;cases e<;>first | rfl | cases h
theorem R6{env:Env}{o i:Expr}{p:Pos}{e:Expr}:Y4 [.Subscript o i p] e env=pure none:=by
 unfold Y4;cases e<;>rfl
theorem R7{env:Env}{x y:Str}{px py pt pt2:Pos}{k k2:Nat}{a b:Expr}(hk:env.scope.kind = .function)(h:O8 env.scope x y px py=true)(ha:e6 a=true)(hb:e6 b=true)(h1:([a,b].all (foldedForSure 8))=false)(h2:([a,b].all (Zi 8))=false):
 Y4 [.Tuple [.Name x px,.Name y py] k pt] (.Tuple [a,b] k2 pt2) env=pure (some [x,y]):=by
 have hbk:env.blockKind = .function:=by unfold Env.blockKind;rw[hk];rfl
 unfold O8 at h;simp only[U2,bQ,UN,beq_eq_false_iff_ne]at h;obtain⟨⟨⟨hx,hy⟩,hl⟩,hne⟩:=h;have kx:env.kindOf x=some .local:=hx;have ky:env.kindOf y=some .local:=hy
 have ed:([x,y]:List Str).eraseDups.length=2:=by
  have:(y == x)=false:=by rw[beq_eq_false_iff_ne];exact λz=>hne z.symm
  rw[List.eraseDups_cons,Ww,this];rfl
 unfold Y4;simp only[Uq,V9,hbk,h1,h2,List.head?_cons,VF,WB,Expr.pos,Ve,List.filterMap_nil,kx,ky,hl];refine(iG (by decide)).trans ((iG (λz=>?_)).trans ?_)
 ·simp only[VB,XJ,Wf,Uh]at z;rcases z with z | z
  ·cases a<;>first | (cases z;done) | cases ha
  ·cases b<;>first | (cases z;done) | cases hb
 ·rw[show(some NameKind.local == some NameKind.local&&py.line == py.line)=true by simp];simp only[if_true];refine(iG (by rw[ed];simp)).trans ?_;refine(iG (by simp)).trans ((iG (by simp)).trans rfl)
theorem Fe{t:WT}{a b:WS}(mt:MonoT t)(ma:MonoS a)(mb:MonoS b):MonoS (λD ρ S=>t ρ S λc S1=>if c=true then a D ρ S1 else b D ρ S1):=λD D' ρ S l h=>mt _ _ _ _ (λc S1 q=>k9 (λq=>ma.go q l) (λq=>mb.go q l) q) h
section
variable{T:List Str}{Δ:Nat->Sn}{X:Cx}{N:List Str}{sc:Xf}
theorem PN{env:Env}{e:Expr}(h:e6 e=true):(Xv [e] env).map (·.2)=[assign e env]:=by cases e<;>first | rfl | cases h
theorem HB{env:Env}{o i:Expr}{p:Pos}(h:Ad i=true):∀ v,assign (.Subscript o i p) env v=(do
 let ov <- holding [v] (eval o env)
 let iv <- holding [v,ov] (eval i env)
 standAt p
 holding [v,ov,iv] (setItem ov iv v)
 release [v,ov,iv] []):=λv=>by cases i<;>first | rfl | cases h
theorem Jm(C:Cok T Δ X N.length N sc)(hk:sc.kind = .function){t:Tg}{e:Ex}{rt re:Expr}{pos:Pos}(h1:B0 N.length N sc t rt=true)(h2:i6 T N sc e re=true)(h3:e6 rt=true)(h4:R1 sc rt re=true):PS X (.Assign [rt] re pos) (liftS X.K λD ρ S=>(wEx Δ e).1 ρ S λx S1=>wTg t x ρ λρ'=>D.nx ρ' S1):=by
 have ge:=c8 e re C h2;unfold R1 at h4;cases hv:Cw rt with
 | none=>
   rw[hv]at h4;rw[U2]at h4;obtain⟨es,hes⟩:=V1.mp h4.1;obtain⟨j,p,rfl⟩:=AK hes;exact v4 _ (KG ge.pe (B2 C t _ h1) MA (R5 h4.2) (PN rfl)) (OE ge.m)
 | some xp=>
   rw[hv]at h4;have e0:=Bx hv;obtain⟨x,px⟩:=xp;subst e0;cases t with
   | tup ts=>rw[B0]at h1;cases h1
   | nm i=>
     rw[B0]at h1;have h1:(decide (i<N.length)&&decide (N[i]?=some x)&&loc sc x)=true:=h1;simp only[U2,dQ]at h1;obtain⟨⟨hi,hx⟩,hl⟩:=h1;unfold loc at hl;simp only[Uh,bQ]at hl;have hND:X.N.Nodup:=by rw[C.hN];exact C.nd
     have hNi:X.N[i]?=some x:=by rw[C.hN];exact hx
     have hloc:Loc X.env.scope x:=by rw[C.hs];exact hl
     have hf:X.fn x=true\/X.env.scope.names.lookup x=some .local:=by
      rw[C.hs];rcases hl with hl | hl
      ·exact .inr hl
      ·exact .inl (C.fn i x hi hx hl)
     have hke:X.env.scope.kind = .function:=by rw[C.hs];exact hk
     cases hsw:Ds sc re x px with
     | false=>exact v4 _ (Ps hND hNi hloc ge.pe (by rw[IB hke,C.hs,hsw]) hf) (Fb ge.m)
     | true=>
       have h4:(!Ds sc re x px||R0 re||T7 re)=true:=h4;rw[hsw,Bool.not_true,X9,Uh]at h4;rcases h4 with h4 | h4
       ·unfold R0 at h4;obtain⟨v,hv',h4⟩:=c6 h4;obtain⟨gen,hgen⟩:=V1.mp h4;obtain⟨p',rfl⟩:=F8 hv';rw[m7 hgen]at h2 ge hsw ⊢
        have hxl:X.env.scope.names.lookup x=some .local:=by
         rw[C.hs];unfold Ds Cv at hsw;simp only[U2,bQ]at hsw;exact hsw.1.1
        have hs1:Y6 (.ListComp v.1 [gen] v.2.2 p') (some (.Name x px)) pos.line X.env=pure true:=by rw[IB hke,C.hs,hsw]
        cases e with
        | comp own cn js g it t' e'=>
          obtain⟨tg,ri,ifs,az⟩:=gen;have h2:(decide (az=0)&&v8 sc v.2.2 own cn N js&&B0 own.length (own++cn) (F5 v.2.2 sc) g tg&&No T N sc it tg ri&&u8 ri&&F9 T (own++cn) (F5 v.2.2 sc) t' ifs&&i6 T (own++cn) (F5 v.2.2 sc) e' v.1)=true:=h2;simp only[U2,dQ]at h2;obtain⟨⟨⟨⟨⟨⟨k0,k1⟩,k2⟩,k3⟩,k4⟩,k5⟩,k6⟩:=h2;subst k0;have hI:=Bw it _ _ C k3;have hT:=λs2 H2 cs A fp=>FW t' _ (C.comp k1 s2 H2 cs A fp) k5;have hE:=λs2 H2 cs A fp=>c8 e' _ (C.comp k1 s2 H2 cs A fp) k6;have mt:=(hT X.s₀ X.H₀ [] 0 []).2;have me:=(hE X.s₀ X.H₀ [] 0 []).m;have b:=GJ (i:=i) (g:=Dp X.K g) (tt:=liftT X.K (wEo Δ t').2) (te:=lift X.K (wEx Δ e').1) own cn js hND hNi hxl hI.pi (λs2 H2 cs A fp=>B2 (C.comp k1 s2 H2 cs A fp) g _ k2) (λs2 H2 cs A fp=>(hT s2 H2 cs A fp).1) (λs2 H2 cs A fp=>(hE s2 H2 cs A fp).pe) C.calm (by rw[C.hs,C.hN];exact k1) hs1 (AV k4);refine v4 _ b λD σ H h=>?_;have:=Fb ge.m D σ H h;exact FT hI.m mt me σ H _ this
        | no=>exact λ_ _ _ _ _ _ h=>let ⟨_,_,_,_,_,z⟩:=h;z.elim
        | _=>exact absurd h2 nofun
       ·exact WK (show false=true from h4)
mutual
theorem MB(C:Cok T Δ X N.length N sc)(hp:ZI (XX X.prog X.w) X.A X.env X.xe)(hk:sc.kind = .function):∀(s:Stm) (r:Stmt),T8 T N sc s r=true->GoodS X r (wSt Δ s)
 | .asg t e,r,h=>by
   replace h:=c6 h;obtain⟨v,hv,h⟩:=h;replace h:=c6 h;obtain⟨rt,hrt,h⟩:=h;obtain⟨pos,rfl⟩:=CN hv;simp only[U2]at h;obtain⟨⟨⟨h1,h2⟩,h3⟩,h4⟩:=h;rw[m7 hrt];exact⟨Jm C hk h1 h2 h3 h4,Fc (c8 e _ C h2).m⟩
 | .par i j a b,r,h=>by
   replace h:=c6 h;obtain⟨v,hv,h⟩:=h;replace h:=c6 h;obtain⟨rt,hrt,h⟩:=h;replace h:=c6 h;obtain⟨ts,hts,h⟩:=h;replace h:=c6 h;obtain⟨nn,hnn,h⟩:=h;replace h:=c6 h;obtain⟨vs,hvs,h⟩:=h;replace h:=c6 h;obtain⟨ab,hab,h⟩:=h;replace h:=c6 h;obtain⟨x,hx',h⟩:=h;replace h:=c6 h;obtain⟨y,hy',h⟩:=h;obtain⟨pos,rfl⟩:=CN hv;simp only[U2,dQ,UN]at h;obtain⟨⟨⟨⟨⟨⟨⟨⟨⟨hx,hy⟩,hij⟩,hpar⟩,h1⟩,h2⟩,h3⟩,h4⟩,h5⟩,h6⟩:=h;obtain⟨j1,p1,e1⟩:=AK hts;obtain⟨j2,p2,e2⟩:=AK hvs;rw[m7 hrt,e1,Dk hnn,e2,Dk hab,Bx hx',Bx hy'];have ga:=c8 a _ C h1;have gb:=c8 b _ C h2;have hp2:=hpar;unfold O8 at hp2;simp only[U2,bQ]at hp2;have hke:X.env.scope.kind = .function:=by rw[C.hs];exact hk
   refine⟨v4 _ (Pt (i:=i) (j:=j) C.calm (by rw[C.hN];exact C.nd) (by rw[C.hN];exact hx) (by rw[C.hN];exact hy) hij (by rw[C.hs];exact hp2.1.1.1) (by rw[C.hs];exact hp2.1.1.2) (l9 ga.pe (l9 gb.pe AC (f9 h4)) (f9 h3)) (R7 hke (by rw[C.hs];exact hpar) h3 h4 h5 h6) MA) (OH ga.m gb.m),?_⟩;exact λD D' ρ S l h=>ga.m _ _ _ _ (λx S1 q=>gb.m _ _ _ _ (λy S2 q=>l.nx _ _ q) q) h
 | .put o i e,r,h=>by
   replace h:=c6 h;obtain⟨v,hv,h⟩:=h;replace h:=c6 h;obtain⟨rt,hrt,h⟩:=h;replace h:=c6 h;obtain⟨oi,hoi,h⟩:=h;obtain⟨pos,rfl⟩:=CN hv;obtain⟨p2,e2⟩:=CL hoi;simp only[U2]at h;rw[m7 hrt,e2];have go:=c8 o _ C h.1.1.1;have gi:=c8 i _ C h.1.1.2;have ge:=c8 e _ C h.1.2;refine⟨v4 _ (KG ge.pe (Pr go.pe gi.pe KW (HB h.2)) R4 R6 (PN rfl)) (OJ go.m gi.m ge.m),?_⟩;exact λD D' ρ S l h=>ge.m _ _ _ _ (λv S1 q=>go.m _ _ _ _ (λx S2 q=>gi.m _ _ _ _ (λy S3 q=>Cy (λS4 q=>l.nx _ _ q) q) q) q) h
 | .dput o i e,r,h=>by
   replace h:=c6 h;obtain⟨v,hv,h⟩:=h;replace h:=c6 h;obtain⟨rt,hrt,h⟩:=h;replace h:=c6 h;obtain⟨oi,hoi,h⟩:=h;obtain⟨pos,rfl⟩:=CN hv;obtain⟨p2,e2⟩:=CL hoi;simp only[U2]at h;rw[m7 hrt,e2];have go:=c8 o _ C h.1.1.1;have gi:=c8 i _ C h.1.1.2;have ge:=c8 e _ C h.1.2;have:=C.un;refine⟨v4 _ (LN (by omega) go.pe gi.pe ge.pe (by unfold Y6;cases v.2<;>rfl)) (M9 go.m gi.m ge.m),?_⟩;exact λD D' ρ S l h=>ge.m _ _ _ _ (λv S1 q=>go.m _ _ _ _ (λx S2 q=>gi.m _ _ _ _ (λy S3 q=>Dt (λS4 q=>l.nx _ _ q) q) q) q) h
 | .expr e,r,h=>by
   replace h:=c6 h;obtain⟨re,hre,h⟩:=h;obtain⟨pos,rfl⟩:=O9 hre;simp only[U2]at h;have ge:=c8 e _ C h.1
   have hs:Y6 re none pos.line X.env=pure false:=by
    have:=h.2;unfold Y6;cases re<;>first | rfl | (unfold Cv at this;cases this)
   refine⟨v4 _ (Mz ge.pe hs) ?_,λD D' ρ S l h=>ge.m _ _ _ _ (λx S1 q=>l.nx _ _ q) h⟩;rintro D σ H ⟨as,ρ,S,ok,en,h⟩;exact⟨as,ρ,S,ok,en,ge.m _ _ _ _ (λx S1 q as1 H1 v g1 ok1 rv=>q as1 H1 σ g1 ok1 (en.mono g1.pre (g1.ku ok))) h⟩
 | .iff t a b,r,h=>by
   replace h:=c6 h;obtain⟨v,hv,h⟩:=h;obtain⟨pos,rfl⟩:=OA hv;simp only[U2]at h;have gt:=c8 t _ C h.1.1;have ga:=Ag C hp hk a _ h.1.2;have gb:=Ag C hp hk b _ h.2;exact⟨v4 _ (RZ gt.pt ga.ps gb.ps) (R3 gt.mt ga.m gb.m),Fe gt.mt ga.m gb.m⟩
 | .loop g it b,r,h=>by
   replace h:=c6 h;obtain⟨v,hv,h⟩:=h;obtain⟨pos,rfl⟩:=OB hv;simp only[U2,Ud]at h;obtain⟨⟨⟨⟨h1,h2⟩,h3⟩,h4⟩,h5⟩:=h;rw[h5];have gi:=Bw it _ _ C h2;have gb:=Ag C hp hk b _ h4;refine⟨v4 _ (Pu hp C.calm gi.pi (B2 C g _ h1) gb.ps (AV h3)) (OF gi.m gb.m),?_⟩;exact λD D' ρ S l h=>gi.m _ _ _ _ (λkeep xs S1 q=>B7 gb.m xs l _ _ q) h
 | .whl t b,r,h=>by
   replace h:=c6 h;obtain⟨v,hv,h⟩:=h;obtain⟨pos,rfl⟩:=OC hv;simp only[U2,Ud]at h;rw[h.2];have gt:=c8 t _ C h.1.1;have gb:=Ag C hp hk b _ h.1.2;exact⟨v4 _ (KI hp gt.pt gb.ps) (OG gt.mt gb.m),Fd gt.mt gb.m⟩
 | .ret e,r,h=>by
   replace h:=c6 h;obtain⟨o,ho,h⟩:=h;replace h:=c6 h;obtain⟨re,hre,h⟩:=h;obtain⟨pos,rfl⟩:=OD ho;rw[hre];have ge:=c8 e _ C h;exact⟨v4 _ (Po ge.pe) λD σ H ⟨as,ρ,S,ok,en,h⟩=>⟨as,ρ,S,ok,en,h⟩,λD D' ρ S l h=>ge.m _ _ _ _ l.rt h⟩
 | .no,r,h=>⟨λ_ _ _ _ _ _ h=>let ⟨_,_,_,_,_,z⟩:=h;z.elim,λ_ _ _ _ _ h=>h⟩
theorem Ag(C:Cok T Δ X N.length N sc)(hp:ZI (XX X.prog X.w) X.A X.env X.xe)(hk:sc.kind = .function):∀(s:List Stm) (r:List Stmt),Be T N sc s r=true->GoodSs X r (wSs Δ s)
 | [],r,h=>by
   rw[Be,Ud]at h;subst h;exact HA
 | s::ss,r,h=>by
   rw[Be]at h;replace h:=c6 h;obtain⟨x,hx,h⟩:=h;rw[U2]at h;rw[AL hx];have:=FZ (MB C hp hk s x h.1) (Ag C hp hk ss _ h.2);rw[wSs];exact this
end
end
mutual
theorem c7{Δ:Nat->Sn}(hΔ:∀ f,MonoN (Δ f)):∀(e:Ex),Mono (wEx Δ e).1/\MonoT (wEx Δ e).2
 | .var i=>⟨.var,.tru .var⟩
 | .c x=>⟨.c,.tru .c⟩
 | .op o a b=>have m:Mono _ := .two (s:=sOp o) Ht (c7 hΔ a).1 (c7 hΔ b).1;⟨m,.tru m⟩
 | .neg a=>have m:Mono _ := .one Cq (c7 hΔ a).1;⟨m,.tru m⟩
 | .cmp o a b=>have m:Mono _ := .two (s:=Ac o) y6 (c7 hΔ a).1 (c7 hΔ b).1;⟨m,.bl m⟩
 | .chn o p a b c=>have m:=FB (o:=o) (p:=p) (c7 hΔ a).1 (c7 hΔ b).1 (c7 hΔ c).1;⟨m,.bl m⟩
 | .and a b=>⟨.and (c7 hΔ a).1 (c7 hΔ b).1,.and (c7 hΔ a).2 (c7 hΔ b).2⟩
 | .or a b=>⟨.or (c7 hΔ a).1 (c7 hΔ b).1,.or (c7 hΔ a).2 (c7 hΔ b).2⟩
 | .not a=>⟨.not (c7 hΔ a).1,.not (c7 hΔ a).2⟩
 | .ife t a b=>⟨.ifE (c7 hΔ t).2 (c7 hΔ a).1 (c7 hΔ b).1,λ_ _ _ _ _ h=>h⟩
 | .tup es=>have m:Mono _ := .n .tup (Ai hΔ es);⟨m,.tru m⟩
 | .lst es=>have m:Mono _ := .n .lst (Ai hΔ es);⟨m,.tru m⟩
 | .ix a b=>have m:Mono _ := .two .ix (c7 hΔ a).1 (c7 hΔ b).1;⟨m,.tru m⟩
 | .slc a lo hi=>have m:Mono _:=(λρ S P P' i h=>(c7 hΔ a).1 _ _ _ _ (λx S1 h=>(j5 hΔ lo).1 _ _ _ _ (λl S2 h=>(j5 hΔ hi).1 _ _ _ _ (λk S3 h=>Cr i h) h) h) h:Mono (Qh _ _ _));⟨m,.tru m⟩
 | .call f es=>have m:Mono _ := .n (hΔ f) (Ai hΔ es);⟨m,.tru m⟩
 | .bi b es=>have m:Mono _ := .n (s:=sBi b) .bi (Ai hΔ es);⟨m,.tru m⟩
 | .mt m' a es=>have m:Mono _:=Mono.mt (m:=m') (c7 hΔ a).1 (Ai hΔ es);⟨m,.tru m⟩
 | .comp own cn js g it t e=>have m:Mono _:=Mono.comp (k:=own.length) (js:=js) (g:=g) (Ff hΔ it) (j5 hΔ t).2 (c7 hΔ e).1;⟨m,.tru m⟩
 | .tyc t=>⟨.c,.tru .c⟩
 | .lrng1 a=>have m:=Cs (c7 hΔ a).1;⟨m,.tru m⟩
 | .dnewp=>⟨BM,.tru BM⟩
 | .setd d e v=>have m:=Do (c7 hΔ d).1 (c7 hΔ e).1 (c7 hΔ v).1;⟨m,.tru m⟩
 | .mind a d=>have m:=Dm (c7 hΔ a).1 (c7 hΔ d).1;⟨m,.tru m⟩
 | .dvals a=>have m:=Ct (c7 hΔ a).1;⟨m,.tru m⟩
 | .dcopy a=>have m:=Cu (c7 hΔ a).1;⟨m,.tru m⟩
 | .lenset a=>have m:=C5 (c7 hΔ a).1;⟨m,.tru m⟩
 | .srtset a=>have m:=C6 (c7 hΔ a).1;⟨m,.tru m⟩
 | .setl a=>have m:=Dl (c7 hΔ a).1;⟨m,.tru m⟩
 | .eqt0 a b=>have m:Mono _ := .two B5 (c7 hΔ a).1 (c7 hΔ b).1;⟨m,.bl m⟩
 | .dnew=>⟨Bs,.tru Bs⟩
 | .din n a b=>have m:Mono _ := .two (s:=JO n) Af (c7 hΔ a).1 (c7 hΔ b).1;⟨m,.bl m⟩
 | .no=>⟨λ_ _ _ _ _ h=>h,λ_ _ _ _ _ h=>h⟩
theorem Ai{Δ:Nat->Sn}(hΔ:∀ f,MonoN (Δ f)):∀(es:Exs),MonoA (EI Δ es)
 | .nil => .nil
 | .cons e es => .cons (c7 hΔ e).1 (Ai hΔ es)
theorem j5{Δ:Nat->Sn}(hΔ:∀ f,MonoN (Δ f)):∀(o:Eo),MonoO (wEo Δ o).1/\MonoT (wEo Δ o).2
 | .no=>⟨.no,λ_ _ _ _ i q=>i _ _ q⟩
 | .yes e=>⟨.yes (c7 hΔ e).1,(c7 hΔ e).2⟩
theorem Ff{Δ:Nat->Sn}(hΔ:∀ f,MonoN (Δ f)):∀(it:Itb),MonoI (Ni Δ it)
 | .seq e=>λρ S P P' i h=>(c7 hΔ e).1 _ _ _ _ (λx S1 ⟨xs,e,q⟩=>⟨xs,e,i _ _ _ q⟩) h
 | .rng1 a=>λρ S P P' i h=>(c7 hΔ a).1 _ _ _ _ (λx S1 ⟨j,e,z,q⟩=>⟨j,e,z,i _ _ _ q⟩) h
 | .rng2 a b=>λρ S P P' i h=>(c7 hΔ a).1 _ _ _ _ (λx S1 h=>(c7 hΔ b).1 _ _ _ _ (λy S2 ⟨l,j,e,e2,z,q⟩=>⟨l,j,e,e2,z,i _ _ _ q⟩) h) h
 | .itm e=>λρ S P P' i h=>(c7 hΔ e).1 _ _ _ _ (λx S1 ⟨k,kvs,e,hk,q⟩=>⟨k,kvs,e,hk,λo ks=>i _ _ _ (q o ks)⟩) h
 | .zipE a b=>λρ S P P' i h=>(c7 hΔ a).1 _ _ _ _ (λx S1 h=>(c7 hΔ b).1 _ _ _ _ (λy S2 ⟨k,xs,ys,e,z,e2,l,q⟩=>⟨k,xs,ys,e,z,e2,l,i _ _ _ q⟩) h) h
 | .enum e=>λρ S P P' i h=>(c7 hΔ e).1 _ _ _ _ (λx S1 ⟨xs,e,q⟩=>⟨xs,e,i _ _ _ q⟩) h
end
mutual
theorem OL{Δ:Nat->Sn}(hΔ:∀ f,MonoN (Δ f)):∀(s:Stm),MonoS (wSt Δ s)
 | .asg t e=>by exact Fc (c7 hΔ e).1
 | .par i j a b=>by exact λD D' ρ S l h=>(c7 hΔ a).1 _ _ _ _ (λx S1 q=>(c7 hΔ b).1 _ _ _ _ (λy S2 q=>l.nx _ _ q) q) h
 | .put o i e=>by exact λD D' ρ S l h=>(c7 hΔ e).1 _ _ _ _ (λv S1 q=>(c7 hΔ o).1 _ _ _ _ (λx S2 q=>(c7 hΔ i).1 _ _ _ _ (λy S3 q=>Cy (λS4 q=>l.nx _ _ q) q) q) q) h
 | .dput o i e=>by exact λD D' ρ S l h=>(c7 hΔ e).1 _ _ _ _ (λv S1 q=>(c7 hΔ o).1 _ _ _ _ (λx S2 q=>(c7 hΔ i).1 _ _ _ _ (λy S3 q=>Dt (λS4 q=>l.nx _ _ q) q) q) q) h
 | .expr e=>by exact λD D' ρ S l h=>(c7 hΔ e).1 _ _ _ _ (λx S1 q=>l.nx _ _ q) h
 | .iff t a b=>by exact Fe (c7 hΔ t).2 (j6 hΔ a) (j6 hΔ b)
 | .loop g it b=>by exact λD D' ρ S l h=>Ff hΔ it _ _ _ _ (λkeep xs S1 q=>B7 (j6 hΔ b) xs l _ _ q) h
 | .whl t b=>by exact Fd (c7 hΔ t).2 (j6 hΔ b)
 | .ret e=>by exact λD D' ρ S l h=>(c7 hΔ e).1 _ _ _ _ l.rt h
 | .no=>by exact λD D' ρ S l h=>h
theorem j6{Δ:Nat->Sn}(hΔ:∀ f,MonoN (Δ f)):∀(s:List Stm),MonoS (wSs Δ s)
 | []=>by exact λD D' ρ S l h=>l.nx _ _ h
 | s::ss=>by exact λD D' ρ S l h=>(OL hΔ s).go (D:={D with nx:=wSs Δ ss D}) h ⟨λρ' S' q=>(j6 hΔ ss) _ _ _ _ l q,l.rt,l.bk,l.ct⟩
end
theorem MC{P:List XR->Prop}{n:Nat}(h:∀ a us,us.length=n->P (a::us)):∀ us:List XR,us.length=n+1->P us
 | a::us,e=>h a us (Nat.succ.inj e)
theorem DR{P:List XR->Prop}(h:∀ a,P [a]):∀ us:List XR,us.length=1->P us:=MC λa us e=>List.length_eq_zero_iff.mp e▸h a
theorem AH{P:List XR->Prop}(h:∀ a b,P [a,b]):∀ us:List XR,us.length=2->P us:=MC λa=>DR (P:=λus=>P (a::us)) (h a)
theorem DS{P:List XR->Prop}(h:∀ a b c,P [a,b,c]):∀ us:List XR,us.length=3->P us:=MC λa=>AH (P:=λus=>P (a::us)) (h a)
theorem R8{P:List XR->Prop}(h:∀ a b c d,P [a,b,c,d]):∀ us:List XR,us.length=4->P us:=MC λa=>DS (P:=λus=>P (a::us)) (h a)
theorem T9{P:List XR->Prop}(h:∀ a b c d e,P [a,b,c,d,e]):∀ us:List XR,us.length=5->P us:=MC λa=>R8 (P:=λus=>P (a::us)) (h a)
structure Df where
 name:Str
 st:Stmt
 ps:List Str
 N:List Str
 body:List Stm
noncomputable def j8(Q:QE):EndsS:=⟨λ_ S'=>Q .non S',Q,λ_ _=>False,λ_ _=>False⟩
noncomputable def MD(n:Nat)(xs:List SV):EnvS:=xs.map some++UO (n - xs.length) none
noncomputable def g0(Δ:Nat->Sn)(D:Df):Sn:=λxs S Q=>xs.length=D.ps.length/\wSs Δ D.body (j8 Q) (MD D.N.length xs) S
noncomputable def W(prog:List Df):Nat->Nat->Sn
 | 0,_=>λ_ _ _=>False
 | d+1,f=>match prog[f]? with
   | some D=>g0 (W prog d) D
   | none=>λ_ _ _=>False
theorem ME{Δ:Nat->Sn}(hΔ:∀ f,MonoN (Δ f))(D:Df):MonoN (g0 Δ D):=λxs S P P' i h=>⟨h.1,(j6 hΔ D.body).go h.2 ⟨λ_ _ q=>i _ _ q,i,λ_ _ q=>q,λ_ _ q=>q⟩⟩
theorem Cz{prog:List Df}:∀(d f:Nat),MonoN (W prog d f)
 | 0,f=>λ_ _ _ _ _ h=>h
 | d+1,f=>by
   unfold W;split
   ·exact ME (Cz d) _
   ·exact λ_ _ _ _ _ h=>h
noncomputable def fnB(N ps:List Str)(sc:Xf):Bool:=decide (sc.kind = .function)&&!sc.isCoroutine&&!sc.isGenerator&&decide N.Nodup&&decide (N.take ps.length=ps)&&ps.all (loc sc)&&sc.names.all (λy=>!decide (y.2 = .free))
theorem R9{N ps:List Str}{sc:Xf}(h:fnB N ps sc=true):FnScope N ps sc:=by
 unfold fnB at h;simp only[U2,dQ,UN,US,decide_eq_false_iff_not]at h;obtain⟨⟨⟨⟨⟨⟨h1,h2⟩,h3⟩,h4⟩,h5⟩,h6⟩,h7⟩:=h;refine⟨h1,h2,h3,h4,h5,λx hx=>?_,h7⟩;have:=h6 x hx;unfold loc at this;simpa using this
noncomputable def OM(T:List Str)(D:Df):Bool:=fnB D.N D.ps (defScope D.st)&&Be T D.N (defScope D.st) D.body (defBody D.st)
structure Bl(mg:Str->Option XR):Prop where
 bl:∀ b:BI,mg b.name=none
 rng:mg "range"=none
 enm:mg "enumerate"=none
 rvs:mg "reversed"=none
 zip:mg "zip"=none
 st0:mg "set"=none
 dc0:mg "dict"=none
 ty:∀ t:TyN,t ≠ .none->mg (Str.ofString t.nm)=none
section
variable{P:XZ}{w:Xd}{K:U1}{mg:Str->Option XR}{base:Heap}
theorem Jn{as:List XU}{H:Hp}{N:List Str}{vs:List V}{xs:List SV}(r:RlAll K as H vs xs):EnvOk K as H (L2.start N vs) (MD N.length xs):=by
 unfold L2.start MD;rw[<-r.length];refine⟨by simp[r.length],λi x e=>?_⟩;by_cases hi:i<vs.length
 ·rw[UM (by rw[U4,<-r.length];exact hi),UJ]at e;rw[UM (by simpa using hi),UJ];cases hx:xs[i]? with
  | none=>rw[hx]at e;cases e
  | some y=>
    rw[hx]at e;have:y=x:=by simpa using e
    subst this;obtain⟨v,hv,rv⟩:=r.get hx;exact⟨v,by rw[hv];rfl,rv⟩
 ·rw[Uj (by rw[U4,<-r.length];omega),V3]at e;split at e<;>cases e
theorem MF{T:List Str}{Δ:Nat->Sn}{D:Df}{f:XU}{fd:Y8}{k:Nat}(F:Fun K D.name D.name D.st f fd)(hc:OM T D=true)(B:Bl mg)(hcall:∀ f x,T[f]?=some x->∃ ps,Cal P w K mg base k x ps (spS K (Δ f)))(hΔ:∀ f,MonoN (Δ f)):FnOk P w K mg base CX0 (k+1) f fd D.ps (spS K (g0 Δ D)):=by
 unfold OM at hc;rw[U2]at hc;have S:=R9 hc.1;refine F.ok S (λvs H Q E h=>?_) (λcdv A outer s H vs Q E hr h=>?_)
 ·obtain⟨as,S,xs,ok,r,hl,_⟩:=h;rw[r.length];exact hl
 ·have C:Cok T Δ (GA CX0 P w K mg base D.N D.name (defScope D.st) f cdv A outer s H E).nox D.N.length D.N (defScope D.st):={
   hN:=rfl,hs:=rfl,nd:=S.nd,calm:=rfl,fn:=λ_ _ _ _ _=>rfl
   un:=by have:=hr.un;show(A.deeper _).units+102<cLine;omega
   bl:=B.bl,rng:=B.rng,enm:=B.enm,rvs:=B.rvs,zip:=B.zip,st0:=B.st0,dc0:=B.dc0,ty:=B.ty,gd:=hr.gd
   call:=λg x hx=>let ⟨ps,c⟩:=hcall g x hx;⟨k,ps,c,hr⟩
   mono:=hΔ}
  refine⟨_,(Ag C PassesOwn.never S.kind D.body _ hc.2).ps,?_⟩;obtain⟨as,S,xs,ok,r,hl,h⟩:=h;refine⟨as,_,S,ok,Jn r,(j6 hΔ D.body).go h ⟨λρ' S' q as' H' σ' g ok' en'=>q as' H' _ g ok' (rl_non.mpr rfl),λx S' q=>q,λ_ _ q=>q.elim,λ_ _ q=>q.elim⟩⟩
structure PIn(K:U1)(mg:Str->Option XR)(D:Df):Prop where
 ex:∃ f fd,Fun K D.name D.name D.st f fd/\mg D.name=some (.ref f)/\PySem.W.keepIn K (.ref f)=true/\Binds K fd D.ps []
theorem IC{prog:List Df}(hc:prog.all (OM (prog.map (·.name)))=true)(B:Bl mg)(hin:∀ D∈prog,PIn K mg D):∀(d f:Nat) (D:Df),prog[f]?=some D->Cal P w K mg base d D.name D.ps (spS K (W prog d f))
 | 0,f,D,hf=>by
   obtain⟨fa,fd,F,hm,hk,hb⟩:=(hin D (UC hf)).ex;refine⟨fa,fd,⟨λvs H Q E h=>?_,λA outer s H args us vs Q E hr he hbn hv h=>?_⟩,hm,hk,hb⟩
   ·obtain⟨_,_,_,_,_,z⟩:=h;exact z.elim
   ·obtain⟨_,_,_,_,_,z⟩:=h;exact z.elim
 | d+1,f,D,hf=>by
   obtain⟨fa,fd,F,hm,hk,hb⟩:=(hin D (UC hf)).ex;have h1:=US.mp hc D (UC hf)
   have:=MF (Δ:=W prog d) (P:=P) (w:=w) (base:=base) (k:=d) F h1 B (λg x hx=>by
    rw[UJ]at hx;cases hg:prog[g]? with
    | none=>rw[hg]at hx;cases hx
    | some D'=>
      rw[hg]at hx;have:D'.name=x:=by simpa using hx
      subst this;exact⟨D'.ps,IC hc B hin d g D' hg⟩) (Cz d)
   have e:W prog (d+1) f=g0 (W prog d) D:=by rw[W,hf]
   rw[e];exact⟨fa,fd,this,hm,hk,hb⟩
theorem RA{prog:List Df}{d f:Nat}{H:Hp}{a:XU}{ns:List Int}(main:W prog d f [.ro (ns.map SV.int)] [] λx _=>x = .bl true)(hO:NB H)(hS:SqL K H a (ns.map V.int)):spS K (W prog d f) [.ref a] H (λv _=>v = .bl true) λ_ _ _=>False:=by
 have hz:FzL K H a (ns.map V.int):=by
  rcases hS with(h | ⟨o,h⟩) | h
  ·rcases hO a with z | ⟨o,xs,z⟩<;>rw[h]at z<;>cases z
  ·exact .inl ⟨o,h⟩
  ·exact .inr h
 refine⟨[],[],_,⟨rfl,Vv,λk o a e=>by simp at e⟩,.cons (rl_ro.mpr ⟨a,_,rfl,hz,RlAll.ints⟩) .nil,Cz d f _ _ _ _ (λx S' e as' H' v g ok r=>?_) main⟩;subst e;exact rl_bl.mp r
end
theorem e7{k:Nat}{S:Sto}{xs:List SV}(h:S[k]?=some (.lst xs)):seqS (.loc k) S=some xs:=by simp only[seqS,h]
theorem Fg{k:Nat}{S:Sto}{ms:List Int}(h:S[k]?=some (.iset ms)):AJ (.loc k) S=some ms:=by simp only[AJ,h]
theorem Bf{k:Nat}{S:Sto}{xs:List SV}(h:S[k]?=some (.lst xs)):AJ (.loc k) S=none:=by simp only[AJ,h]
theorem BO{k:Nat}{S:Sto}{xs:List SV}(h:S[k]?=some (.lst xs)):tyS (.loc k) S=some .list:=by simp only[tyS,h]
theorem ifT{b:Bool}{A B:Prop}(h:b=true)(a:A):if b=true then A else B:=by rw[iP h];exact a
theorem ifF{b:Bool}{A B:Prop}(h:b=false)(a:B):if b=true then A else B:=by rw[iG (by rw[h];decide)];exact a
theorem ifD{c A B:Prop}[Decidable c](h1:c->A)(h2:¬ c->B):if decide c=true then A else B:=by
 by_cases h:c
 ·rw[iP (decide_eq_true h)];exact h1 h
 ·rw[iG (by simpa using h)];exact h2 h
theorem ifB{b:Bool}{A B:Prop}(h1:b=true->A)(h2:b=false->B):if b=true then A else B:=by
 cases b with
 | true=>rw[iP rfl];exact h1 rfl
 | false=>rw[iG (by decide)];exact h2 rfl
theorem EU{S:Sto}{k:Nat}{o u:SO}(h:S[k]?=some o):(S.set k u)[k]?=some u:=UZ ((gM h).1)
theorem Ao{S:Sto}{k j:Nat}{u:SO}(h:k≠j):(S.set k u)[j]?=S[j]?:=VC h
theorem c9{S:Sto}{o:SO}:(S++[o])[S.length]?=some o:=UX
theorem t5{S:Sto}{o u:SO}{k:Nat}(h:S[k]?=some u):(S++[o])[k]?=some u:=by
 rw[UM ((gM h).1)];exact h
theorem ID{S:Sto}{o:SO}{k:Nat}(h:S[k]?=some o):k<S.length:=(gM h).1
structure TapeS(S:Sto)(t:Nat):Prop where
 ex:∃ a b:Int,S[t]?=some (.lst [.int a,.int b])/\0<=a/\0<=b/\b<2147483647
structure On(t:Nat)(S S':Sto):Prop where
 len:S.length<=S'.length
 keep:∀ k o,k≠t->S[k]?=some o->S'[k]?=some o
theorem On.refl(t:Nat)(S:Sto):On t S S:=⟨U9 _,λ_ _ _ h=>h⟩
theorem On.trans{t:Nat}{S S' S'':Sto}(a:On t S S')(b:On t S' S''):On t S S'':=⟨UR a.len b.len,λk o n h=>b.keep k o n (a.keep k o n h)⟩
theorem On.push{t:Nat}{S S':Sto}{o:SO}(a:On t S S'):On t S (S'++[o]):=⟨by rw[UD];have:=a.len;omega,λk u n h=>t5 (a.keep k u n h)⟩
theorem On.tape{t:Nat}{S S':Sto}{o:SO}(a:On t S S'):On t S (S'.set t o):=⟨by rw[Us];exact a.len,λk u n h=>by rw[Ao (Ne.symm n)];exact a.keep k u n h⟩
theorem On.new{t k:Nat}{S S':Sto}{o:SO}(a:On t S S')(h:S.length<=k):On t S (S'.set k o):=⟨by rw[Us];exact a.len,λj u n hj=>by
 rw[Ao (λz=>by have:=ID hj;omega)];exact a.keep j u n hj⟩
theorem TapeS.push{S:Sto}{t:Nat}{o:SO}(h:TapeS S t):TapeS (S++[o]) t:=let ⟨a,b,e,z⟩:=h.ex;⟨a,b,t5 e,z⟩
theorem TapeS.other{S:Sto}{t k:Nat}{o:SO}(h:TapeS S t)(n:k≠t):TapeS (S.set k o) t:=let ⟨a,b,e,z⟩:=h.ex;⟨a,b,by rw[Ao n];exact e,z⟩
theorem TapeS.lt{S:Sto}{t:Nat}(h:TapeS S t):t<S.length:=let ⟨_,_,e,_⟩:=h.ex;ID e
theorem AE{keep:Sto->Prop}{g:Tg}{b:WS}{D:EndsS}(mb:MonoS b)(I:Nat->EnvS->Sto->Prop){xs:List SV}{ρ:EnvS}{S:Sto}(h0:I 0 ρ S)(hk:∀ i ρ S,I i ρ S->keep S)
 (hs:∀ i x ρ S,xs[i]?=some x->I i ρ S->wTg g x ρ λρ2=>b {D with nx:=I (i+1),ct:=I (i+1),bk:=D.nx} ρ2 S) (hd:∀ ρ S,I xs.length ρ S->D.nx ρ S):p0 keep g b D xs ρ S:=by
 have go:∀(ys:List SV) (i:Nat) (ρ:EnvS) (S:Sto),xs.drop i=ys->i<=xs.length->I i ρ S->p0 keep g b D ys ρ S:=by
  intro ys
  induction ys with
  | nil=>
    intro i ρ S e hi h
    have:i=xs.length:=by
     have:=congrArg WX e;rw[VU,V9]at this;omega
    subst this;unfold p0;exact⟨hk _ _ _ h,hd _ _ h⟩
  | cons y ys ih=>
    intro i ρ S e hi h
    have hy:xs[i]?=some y:=by
     rw[<-Wz,e];rfl
    have hlt:=(gM hy).1;have e2:xs.drop (i+1)=ys:=by rw[<-X7,e];rfl
    unfold p0;refine⟨hk _ _ _ h,p9 g (λρ2 q=>?_) (hs i y ρ S hy h)⟩;exact mb.go (D:={D with nx:=I (i+1),ct:=I (i+1),bk:=D.nx}) q ⟨λρ' S' z=>ih (i+1) ρ' S' e2 hlt z,λ_ _ z=>z,λ_ _ z=>z,λρ' S' z=>ih (i+1) ρ' S' e2 hlt z⟩
 exact go xs 0 ρ S rfl (VT _) h0
theorem B8{keep:Sto->Prop}{g:Tg}{b:WS}{D:EndsS}(mb:MonoS b)(I:Nat->EnvS->Sto->Prop){xs:List SV}{ρ:EnvS}{S:Sto}(h0:I 0 ρ S)(hk:∀ i ρ S,I i ρ S->keep S)
 (hs:∀ i x ρ S (E:EndsS),(∀ ρ S,I (i+1) ρ S->E.nx ρ S)->(∀ y S,D.rt y S->E.rt y S)->xs[i]?=some x->I i ρ S->wTg g x ρ λρ2=>b E ρ2 S) (hd:∀ ρ S,I xs.length ρ S->D.nx ρ S):p0 keep g b D xs ρ S:=
 AE mb I h0 hk (λi x ρ S hx hI=>hs i x ρ S {D with nx:=I (i+1),ct:=I (i+1),bk:=D.nx} (λ_ _ h=>h) (λ_ _ h=>h) hx hI) hd
theorem i7{keep:Sto->Prop}{g:Tg}{t:WT}{e:WE}{ρ:EnvS}{Q:List SV->Sto->Prop}(mt:MonoT t)(me:Mono e)(I:Nat->List SV->Sto->Prop){xs:List SV}{S:Sto}(h0:I 0 [] S)(hk:∀ i ys S,I i ys S->keep S)
 (hs:∀ i x ys S,xs[i]?=some x->I i ys S->wTg g x ρ λρ2=>t ρ2 S λb S1=>if b=true then e ρ2 S1 λy S2=>ys.length<big/\I (i+1) (ys++[y]) S2 else I (i+1) ys S1) (hd:∀ ys S,I xs.length ys S->Q ys S):m8 keep g t e ρ Q xs [] S:=by
 have go:∀(zs:List SV) (i:Nat) (ys:List SV) (S:Sto),xs.drop i=zs->i<=xs.length->I i ys S->m8 keep g t e ρ Q zs ys S:=by
  intro zs
  induction zs with
  | nil=>
    intro i ys S e' hi h
    have:i=xs.length:=by
     have:=congrArg WX e';rw[VU,V9]at this;omega
    subst this;unfold m8;exact⟨hk _ _ _ h,hd _ _ h⟩
  | cons y zs ih=>
    intro i ys S e' hi h;have hy:xs[i]?=some y:=by rw[<-Wz,e'];rfl
    have hlt:=(gM hy).1;have e2:xs.drop (i+1)=zs:=by rw[<-X7,e'];rfl
    unfold m8;refine⟨hk _ _ _ h,p9 g (λρ2 q=>mt _ _ _ _ (λb S1 q=>k9 (λq=>me _ _ _ _ (λv S2 q=>⟨q.1,ih (i+1) _ S2 e2 hlt q.2⟩) q) (λq=>ih (i+1) _ S1 e2 hlt q) q) q) (hs i y ys S hy h)⟩
 exact go xs 0 [] S rfl (VT _) h0
theorem r6{lo hi:Int}{i:Nat}{x:SV}(h:(Al lo hi)[i]?=some x):x = .int (lo+i)/\lo+i<hi:=by
 unfold Al at h
 have hi':i<(hi - lo).toNat:=by
  have:=(gM h).1;simpa using this
 rw[UJ,Vf hi']at h;exact⟨(oj h).symm,by omega⟩
theorem l6{lo hi:Int}:(Al lo hi).length=(hi - lo).toNat:=by unfold Al;simp
noncomputable def pairS(e:Nat×Nat):SV := .tup [.int e.1,.int e.2]
noncomputable def PP:List Stm:=[(.asg (.nm 2) (.c (.int 0))),(.iff (.cmp .Lt (.var 1) (.bi .len (.cons (.var 0) .nil))) [(.asg (.nm 2) (.ix (.var 0) (.var 1)))] []),(.asg (.nm 3) (.op .Mult (.bi .abs (.cons (.var 2) .nil)) (.bi .int (.cons (.cmp .GtE (.bi .abs (.cons (.var 2) .nil)) (.op .Pow (.c (.int 10)) (.c (.int 18)))) .nil)))),(.ret (.lst (.cons (.var 3) (.cons (.op .Mod (.op .Mult (.op .Mod (.op .Add (.op .Add (.var 2) (.op .Mult (.c (.int 7919)) (.var 1))) (.c (.int 1))) (.c (.int 2147483647))) (.c (.int 48271))) (.c (.int 2147483647))) .nil))))]
noncomputable def PR:List Stm:=[(.iff (.cmp .Gt (.ix (.var 0) (.c (.int 0))) (.c (.int 0))) [(.asg (.nm 2) (.op .Mod (.ix (.var 0) (.c (.int 0))) (.var 1))),(.put (.var 0) (.c (.int 0)) (.op .FloorDiv (.ix (.var 0) (.c (.int 0))) (.var 1))),(.ret (.var 2))] []),(.put (.var 0) (.c (.int 1)) (.op .Mod (.op .Add (.op .Mult (.ix (.var 0) (.c (.int 1))) (.c (.int 48271))) (.c (.int 12345))) (.c (.int 2147483647)))),(.asg (.nm 3) (.op .Mod (.op .Mult (.ix (.var 0) (.c (.int 1))) (.op .Add (.op .Mod (.ix (.var 0) (.c (.int 1))) (.c (.int 1009))) (.c (.int 3)))) (.c (.int 2147483629)))),(.ret (.op .Mod (.op .Mod (.op .Mult (.var 3) (.op .Add (.op .Mod (.var 3) (.c (.int 997))) (.c (.int 5)))) (.c (.int 998244353))) (.var 1)))]
noncomputable def l4(s:Sn):Prop:=∀{t:Nat} {m:Int} {S:Sto} {Q:QE},TapeS S t->0<m->m<1073741824->(∀(r:Int) (S':Sto),0<=r->r<m->TapeS S' t->On t S S'->S'.length=S.length->Q (.int r) S')->s [.loc t,.int m] S Q
noncomputable def MG(s:Sn):Prop:=∀{ns:List Int} {k:Nat} {S:Sto} {Q:QE},ns.length<=63->k<=1000->(∀ a b:Int,0<=a->0<=b->b<2147483647->Q (.loc S.length) (S++[.lst [.int a,.int b]]))->s [.ro (ns.map SV.int),.int k] S Q
theorem b01(b:Bool):-(2 ^ 64)<(if b=true then (1:Int) else 0)/\(if b=true then (1:Int) else 0)<2 ^ 64:=by cases b<;>decide
theorem b00(b:Bool):0<=(if b=true then (1:Int) else 0):=by cases b<;>decide
theorem ON{Δ:Nat->Sn}{D:Df}(hb:D.body=PR)(hN:D.N.length=4)(hp:D.ps.length=2):l4 (g0 Δ D):=by
 intro t m S Q T h0 h1 q;obtain⟨a,b,hS,ha,hb0,hb1⟩:=T.ex;unfold g0;rw[hb,hN];refine⟨hp.symm,?_⟩;have go:∀ r a' b':Int,0<=r->r<m->0<=a'->0<=b'->b'<2147483647->Q (.int r) (S.set t (.lst [.int a',.int b'])):=λr a' b' r0 r1 a0 b0 b1=>q r _ r0 r1 ⟨a',b',EU hS,a0,b0,b1⟩ (On.refl t S).tape (by rw[Us]);refine⟨_,rfl,_,_,e7 hS,rfl,_,rfl,ifD (λh=>?_) (λh=>?_)⟩
 ·refine⟨_,rfl,_,_,e7 hS,rfl,_,rfl,h0,?_⟩;refine⟨_,rfl,_,_,e7 hS,rfl,_,rfl,⟨h0,h1⟩,_,rfl,_,_,hS,rfl,_,rfl,?_⟩;exact go _ _ _ (VX _ (by omega)) (VO _ h0) (Int.ediv_nonneg ha (by omega)) hb0 hb1
 ·refine⟨_,rfl,_,_,e7 hS,rfl,.inr (by decide),show(0:Int)<2147483647 by decide,_,rfl,_,_,hS,rfl,?_⟩;have e0:0<=(b * 48271+12345) % 2147483647:=VX _ (by decide);have e1:(b * 48271+12345) % 2147483647<2147483647:=VO _ (by decide);have hS1:(S.set t (.lst [.int a,.int ((b * 48271+12345) % 2147483647)]))[t]?=some (.lst [.int a,.int ((b * 48271+12345) % 2147483647)]):=EU hS;refine⟨_,rfl,_,_,e7 hS1,rfl,_,rfl,_,_,e7 hS1,rfl,show(0:Int)<1009 by decide,.inl ⟨by omega,by omega⟩,show(0:Int)<2147483629 by decide,?_⟩;have f0:0<=((b * 48271+12345) % 2147483647 * ((b * 48271+12345) % 2147483647 % 1009+3)) % 2147483629:=VX _ (by decide);have f1:((b * 48271+12345) % 2147483647 * ((b * 48271+12345) % 2147483647 % 1009+3)) % 2147483629<2147483629:=VO _ (by decide);refine⟨_,rfl,_,rfl,show(0:Int)<997 by decide,.inl ⟨by omega,by omega⟩,show(0:Int)<998244353 by decide,_,rfl,h0,?_⟩;exact go _ _ _ (VX _ (by omega)) (VO _ h0) ha e0 e1
theorem OO{Δ:Nat->Sn}{D:Df}(hb:D.body=PP)(hN:D.N.length=4)(hp:D.ps.length=2):MG (g0 Δ D):=by
 intro ns k S Q hl hk q;unfold g0;rw[hb,hN];refine⟨hp.symm,?_⟩
 have fin:∀ c:Int,wSs Δ [(.asg (.nm 3) (.op .Mult (.bi .abs (.cons (.var 2) .nil)) (.bi .int (.cons (.cmp .GtE (.bi .abs (.cons (.var 2) .nil)) (.op .Pow (.c (.int 10)) (.c (.int 18)))) .nil)))),(.ret (.lst (.cons (.var 3) (.cons (.op .Mod (.op .Mult (.op .Mod (.op .Add (.op .Add (.var 2) (.op .Mult (.c (.int 7919)) (.var 1))) (.c (.int 1))) (.c (.int 2147483647))) (.c (.int 48271))) (.c (.int 2147483647))) .nil))))] (j8 Q) [some (.ro (ns.map SV.int)),some (.int k),some (.int c),none] S:=λc=>by
  refine⟨_,rfl,_,rfl,⟨by decide,by decide,by decide⟩,.inr (b01 _),?_⟩;refine⟨_,rfl,_,rfl,_,rfl,.inl ⟨by decide,by decide⟩,show(0:Int)<2147483647 by decide,.inr ⟨by decide,by decide⟩,show(0:Int)<2147483647 by decide,by show 2<=big;decide,?_⟩;refine q _ _ (Int.mul_nonneg (by split<;>omega) (b00 _)) (VX _ (by decide)) (VO _ (by decide))
 refine⟨_,rfl,_,rfl,_,rfl,_,rfl,ifD (λh=>?_) (λh=>fin 0)⟩
 have hk':k<ns.length:=by
  have:((ns.map SV.int).length:Int)=ns.length:=by rw[U4]
  omega
 refine⟨_,rfl,_,rfl,_,_,rfl,j0 (v := .int ns[k]) (by rw[UJ,UI hk'];rfl),?_⟩;exact fin _
noncomputable def q1(kd:Nat):Stm:=(.asg (.nm 2) (.call kd (.cons (.var 0) (.cons (.c (.int 8)) .nil))))
noncomputable def q2(kd:Nat):Stm:=(.asg (.nm 3) (.ix (.lst (.cons (.call kd (.cons (.var 0) (.cons (.c (.int 7)) .nil))) (.cons (.op .Add (.c (.int 7)) (.call kd (.cons (.var 0) (.cons (.c (.int 6)) .nil)))) .nil))) (.bi .int (.cons (.var 1) .nil))))
noncomputable def q3(kd:Nat):Stm:=(.asg (.nm 4) (.lst .nil))
noncomputable def q4(kd:Nat):Stm:=(.iff (.and (.cmp .Lt (.var 2) (.c (.int 3))) (.cmp .Gt (.var 3) (.c (.int 1)))) [(.loop (.nm 5) (.rng1 (.call kd (.cons (.var 0) (.cons (.op .Add (.op .Mult (.c (.int 2)) (.var 3)) (.c (.int 1))) .nil)))) [(.asg (.nm 6) (.call kd (.cons (.var 0) (.cons (.var 3) .nil)))),(.expr (.mt .append (.var 4) (.cons (.tup (.cons (.var 6) (.cons (.op .Mod (.op .Add (.op .Add (.var 6) (.c (.int 1))) (.call kd (.cons (.var 0) (.cons (.op .Sub (.var 3) (.c (.int 1))) .nil)))) (.var 3)) .nil))) .nil)))])] [])
noncomputable def q5(kd:Nat):Stm:=(.iff (.and (.cmp .Eq (.var 2) (.c (.int 3))) (.cmp .Gt (.var 3) (.c (.int 2)))) [(.asg (.nm 4) (.op .Add (.comp ["_law_k"] ["_law_many"] [3] (.nm 0) (.rng1 (.var 3)) .no (.tup (.cons (.var 0) (.cons (.op .Mod (.op .Add (.var 0) (.c (.int 1))) (.var 1)) .nil)))) (.lst (.cons (.tup (.cons (.c (.int 0)) (.cons (.op .Add (.call kd (.cons (.var 0) (.cons (.op .Sub (.var 3) (.c (.int 1))) .nil))) (.c (.int 1))) .nil))) .nil))))] [])
noncomputable def q6(kd:Nat):Stm:=(.iff (.and (.cmp .Eq (.var 2) (.c (.int 4))) (.cmp .Gt (.var 3) (.c (.int 1)))) [(.asg (.nm 4) (.comp ["_law_k"] [] [] (.nm 0) (.rng2 (.c (.int 1)) (.var 3)) .no (.tup (.cons (.c (.int 0)) (.cons (.var 0) .nil)))))] [])
noncomputable def q7(kd:Nat):Stm:=(.iff (.cmp .Eq (.var 2) (.c (.int 5))) [(.asg (.nm 3) (.bi .min (.cons (.var 3) (.cons (.op .Add (.c (.int 5)) (.bi .int (.cons (.var 1) .nil))) .nil)))),(.loop (.nm 7) (.rng1 (.var 3)) [(.expr (.mt .extend (.var 4) (.cons (.comp ["_law_j"] ["_law_k"] [7] (.nm 0) (.rng1 (.var 7)) .no (.tup (.cons (.var 0) (.cons (.var 1) .nil)))) .nil)))])] [])
noncomputable def q8(kd:Nat):Stm:=(.iff (.cmp .Eq (.var 2) (.c (.int 6))) [(.asg (.nm 8) (.op .Add (.c (.int 1)) (.op .FloorDiv (.var 3) (.c (.int 2))))),(.loop (.nm 7) (.rng1 (.var 8)) [(.expr (.mt .extend (.var 4) (.cons (.comp ["_law_j"] ["_law_tape_here","_law_k"] [0,7] (.nm 0) (.rng2 (.var 8) (.var 3)) (.yes (.cmp .Gt (.call kd (.cons (.var 1) (.cons (.c (.int 3)) .nil))) (.c (.int 0)))) (.tup (.cons (.var 2) (.cons (.var 0) .nil)))) .nil)))])] [])
noncomputable def q9(kd:Nat):Stm:=(.iff (.cmp .Eq (.var 2) (.c (.int 7))) [(.asg (.nm 3) (.op .Add (.c (.int 3)) (.op .FloorDiv (.var 3) (.c (.int 3))))),(.loop (.nm 7) (.rng1 (.c (.int 3))) [(.expr (.mt .extend (.var 4) (.cons (.op .Mult (.lst (.cons (.tup (.cons (.var 7) (.cons (.op .Mod (.op .Add (.var 7) (.c (.int 1))) (.c (.int 3))) .nil))) .nil)) (.op .Add (.c (.int 1)) (.call kd (.cons (.var 0) (.cons (.c (.int 3)) .nil))))) .nil)))])] [])
noncomputable def q10(kd:Nat):Stm:=(.ret (.tup (.cons (.var 3) (.cons (.var 4) .nil))))
noncomputable def q7l(kd:Nat):Stm:=(.loop (.nm 7) (.rng1 (.var 3)) [(.expr (.mt .extend (.var 4) (.cons (.comp ["_law_j"] ["_law_k"] [7] (.nm 0) (.rng1 (.var 7)) .no (.tup (.cons (.var 0) (.cons (.var 1) .nil)))) .nil)))])
noncomputable def q8l(kd:Nat):Stm:=(.loop (.nm 7) (.rng1 (.var 8)) [(.expr (.mt .extend (.var 4) (.cons (.comp ["_law_j"] ["_law_tape_here","_law_k"] [0,7] (.nm 0) (.rng2 (.var 8) (.var 3)) (.yes (.cmp .Gt (.call kd (.cons (.var 1) (.cons (.c (.int 3)) .nil))) (.c (.int 0)))) (.tup (.cons (.var 2) (.cons (.var 0) .nil)))) .nil)))])
noncomputable def q9l(kd:Nat):Stm:=(.loop (.nm 7) (.rng1 (.c (.int 3))) [(.expr (.mt .extend (.var 4) (.cons (.op .Mult (.lst (.cons (.tup (.cons (.var 7) (.cons (.op .Mod (.op .Add (.var 7) (.c (.int 1))) (.c (.int 3))) .nil))) .nil)) (.op .Add (.c (.int 1)) (.call kd (.cons (.var 0) (.cons (.c (.int 3)) .nil))))) .nil)))])
noncomputable def MH(kd:Nat):List Stm:=[q1 kd,q2 kd,q3 kd,q4 kd,q5 kd,q6 kd,q7 kd,q8 kd,q9 kd,q10 kd]
structure Prs(n:Nat)(es:EE):Prop where
 en:∀ e∈es,e.1<n/\e.2<n/\e.1≠e.2
 len:es.length<=36
 few:n<=12
noncomputable def EV(s:Sn):Prop:=∀{t:Nat} {g:Bool} {S:Sto} {Q:QE},TapeS S t->(∀(n:Nat) (es:EE) (l:Nat) (S':Sto),Prs n es->S'[l]?=some (.lst (es.map pairS))->S.length<=l->TapeS S' t->On t S S'->Q (.tup [.int n,.loc l]) S')->s [.loc t,.bl g] S Q
structure Ah(t:Nat)(S0 S:Sto)(l:Nat)(es:EE):Prop where
 tape:TapeS S t
 on:On t S0 S
 at':S[l]?=some (.lst (es.map pairS))
 new:S0.length<=l
 t0:t<S0.length
theorem Ah.ne{t l:Nat}{S0 S:Sto}{es:EE}(h:Ah t S0 S l es):l≠t:=by have:=h.new;have:=h.t0;omega
theorem Ah.draw{t l:Nat}{S0 S S':Sto}{es:EE}(h:Ah t S0 S l es)(T:TapeS S' t)(O:On t S S'):Ah t S0 S' l es:=⟨T,h.on.trans O,O.keep _ _ h.ne h.at',h.new,h.t0⟩
theorem Ah.push{t l:Nat}{S0 S:Sto}{es:EE}{o:SO}(h:Ah t S0 S l es):Ah t S0 (S++[o]) l es:=⟨h.tape.push,h.on.push,t5 h.at',h.new,h.t0⟩
theorem Ah.put{t l:Nat}{S0 S:Sto}{es fs:EE}(h:Ah t S0 S l es):Ah t S0 (S.set l (.lst (fs.map pairS))) l fs:=⟨h.tape.other h.ne,h.on.new h.new,EU h.at',h.new,h.t0⟩
theorem Fh(es:EE)(e:Nat×Nat):es.map pairS++[.tup [.int e.1,.int e.2]]=(es++[e]).map pairS:=by rw[UQ];rfl
section
variable{Δ:Nat->Sn}{kd:Nat}
theorem Tr(hΔ:∀ f,MonoN (Δ f))(hd:l4 (Δ kd)){t l n:Nat}{way:Int}{S0 S:Sto}{D:EndsS}{g:SV}{o5 o6 o7 o8:Option SV}(A:Ah t S0 S l [])(hn:n<=12)
 (q:∀(es:EE) (S':Sto) (o5 o6:Option SV),Prs n es->Ah t S0 S' l es->D.nx [some (.loc t),some g,some (.int way),some (.int n),some (.loc l),o5,o6,o7,o8] S'):
 wSt Δ (q4 kd) D [some (.loc t),some g,some (.int way),some (.int n),some (.loc l),o5,o6,o7,o8] S:=by
 have stay:=q [] S o5 o6 ⟨(λ_ h=>nomatch h),by simp,hn⟩ A;refine⟨_,rfl,_,rfl,ifD (λh1=>?_) (λh1=>ifF rfl stay)⟩;refine⟨_,rfl,_,rfl,ifD (λh2=>?_) (λh2=>stay)⟩;have h2:1<n:=by omega
 refine⟨_,rfl,_,rfl,.inl ⟨by decide,by decide⟩,hd A.tape (by omega) (by omega) λr S1 r0 r1 T1 O1 _=>⟨r,rfl,⟨by omega,by omega⟩,?_⟩⟩;have A1:=A.draw T1 O1
 refine AE (j6 hΔ _) (λi ρ S2=>∃(es:EE) (o5 o6:Option SV),ρ=[some (.loc t),some g,some (.int way),some (.int n),some (.loc l),o5,o6,o7,o8]/\Ah t S0 S2 l es/\(∀ e∈es,e.1<n/\e.2<n/\e.1≠e.2)/\es.length=i)
  ⟨[],o5,o6,rfl,A1,(λ_ h=>nomatch h),rfl⟩ (λ_ _ _ _=>trivial) ?_ ?_
 ·rintro i x ρ S2 hx ⟨es,p5,p6,rfl,A2,he,hl⟩;obtain⟨rfl,hi⟩:=r6 hx;refine⟨_,rfl,_,rfl,hd A2.tape (by omega) (by omega) λa S3 a0 a1 T3 O3 _=>?_⟩;have A3:=A2.draw T3 O3;refine⟨_,rfl,⟨l,_,rfl,A3.at'⟩,?_⟩;refine⟨_,rfl,_,rfl,_,rfl,_,rfl,hd A3.tape (by omega) (by omega) λb S4 b0 b1 T4 O4 _=>?_⟩;have A4:=A3.draw T4 O4;refine⟨_,rfl,show(0:Int)<n by omega,by show 2<=big;decide,⟨_,A4.at',by rw[U4];show es.length<100000;omega,?_⟩⟩;have e1:((a.toNat:Nat):Int)=a:=Vg a0;have m0:0<=(a+1+b) % n:=VX _ (by omega);have m1:(a+1+b) % n<n:=VO _ (by omega);have e2:(((a+1+b) % n).toNat:Int)=(a+1+b) % n:=Vg m0
  have hne:a≠(a+1+b) % n:=by
   by_cases hb:a+1+b<n
   ·rw[Wr (by omega) hb];omega
   ·rw[<-Int.sub_emod_right,Wr (by omega) (by omega)];omega
  have ea:=Fh es (a.toNat,((a+1+b) % n).toNat);simp only[e1,e2]at ea;refine⟨es++[(a.toNat,((a+1+b) % n).toNat)],_,_,rfl,?_,λe h=>?_,by rw[UD,hl];rfl⟩
  ·have:=A4.put (fs:=es++[(a.toNat,((a+1+b) % n).toNat)]);rw[<-ea]at this;exact this
  ·rcases UV.mp h with h | h
   ·exact he e h
   ·rw[UA.mp h];exact⟨by show a.toNat<n;omega,by show((a+1+b) % n).toNat<n;omega,by show a.toNat≠((a+1+b) % n).toNat;omega⟩
 ·rintro ρ S2 ⟨es,p5,p6,rfl,A2,he,hl⟩;rw[l6]at hl;exact q es S2 p5 p6 ⟨he,by omega,hn⟩ A2
noncomputable abbrev PQ(t:Nat)(g:SV)(way:Int)(S0:Sto)(D:EndsS):Prop:=∀(n:Nat) (es:EE) (l:Nat) (S':Sto) (o5 o6 o7 o8:Option SV),Prs n es->Ah t S0 S' l es->D.nx [some (.loc t),some g,some (.int way),some (.int n),some (.loc l),o5,o6,o7,o8] S'
theorem EW{n:Nat}(h:n<=12):Prs n []:=⟨(λ_ h=>nomatch h),by simp,h⟩
theorem Tt(hΔ:∀ f,MonoN (Δ f))(hd:l4 (Δ kd)){t l n:Nat}{S0 S:Sto}{D:EndsS}{g:SV}{o5 o6 o7 o8:Option SV}(A:Ah t S0 S l [])(hn:n<=12)(q:PQ t g 3 S0 D):
 wSt Δ (q5 kd) D [some (.loc t),some g,some (.int 3),some (.int n),some (.loc l),o5,o6,o7,o8] S:=by
 have stay:=q n [] l S o5 o6 o7 o8 (EW hn) A;refine⟨_,rfl,_,rfl,ifT rfl ?_⟩;refine⟨_,rfl,_,rfl,ifD (λh2=>?_) (λh2=>stay)⟩;have h2:2<n:=by omega
 refine⟨_,rfl,n,rfl,⟨by omega,by omega⟩,?_⟩;refine i7 (j5 hΔ _).2 (c7 hΔ _).1 (λi ys S2=>S2=S/\ys=((U7 i).map λj=>(j,(j+1) % n)).map pairS) ⟨rfl,rfl⟩ (λ_ _ _ _=>trivial) ?_ ?_
 ·rintro i x ys S2 hx ⟨rfl,rfl⟩;obtain⟨rfl,hi⟩:=r6 hx;refine⟨_,rfl,_,rfl,_,rfl,show(0:Int)<n by omega,by show 2<=big;decide,by simp;show i<100000;omega,rfl,?_⟩;rw[VG,UQ,UQ];simp[pairS]
 ·rintro ys S2 ⟨rfl,rfl⟩;rw[l6];refine⟨_,rfl,_,rfl,hd (A.push (o := .lst (((U7 ((n:Int) - 0).toNat).map λj=>(j,(j+1) % n)).map pairS))).tape (by omega) (by omega) λr S3 r0 r1 T3 O3 L3=>?_⟩;have A3:=(A.push (o := .lst (((U7 ((n:Int) - 0).toNat).map λj=>(j,(j+1) % n)).map pairS))).draw T3 O3;refine⟨by show 2<=big;decide,by show 1<=big;decide,?_⟩;have hS:=A.t0;have hon:=A.on.len;have at1:S3[S2.length]?=some (.lst (((U7 ((n:Int) - 0).toNat).map λj=>(j,(j+1) % n)).map pairS)):=O3.keep _ _ (by omega) c9;refine⟨_,_,t5 at1,c9,by simp;show _<=100000;omega,?_⟩;have en:((n:Int) - 0).toNat=n:=by omega
  rw[en];have e1:((r.toNat:Nat):Int)=r:=Vg r0;have ea:=Fh ((U7 n).map λj=>(j,(j+1) % n)) (0,r.toNat+1);have e2:((r.toNat+1:Nat):Int)=r+1:=by omega
  simp only[e2]at ea;refine q n ((U7 n).map (λj=>(j,(j+1) % n))++[(0,r.toNat+1)]) _ _ _ _ _ _ ⟨λe h=>?_,by simp;omega,hn⟩ ⟨A3.tape.push.push,A3.on.push.push,?_,?_,A.t0⟩
  ·rcases UV.mp h with h | h
   ·obtain⟨j,hj,rfl⟩:=Um.mp h;have hj:=Ua.mp hj;refine⟨hj,X6 _ (by omega),?_⟩;by_cases hz:j+1<n
    ·show j≠(j+1) % n;rw[Nat.mod_eq_of_lt hz];omega
    ·have:j+1=n:=by omega
     show j≠(j+1) % n;rw[this,Nat.mod_self];omega
   ·rw[UA.mp h];exact⟨by show 0<n;omega,by show r.toNat+1<n;omega,by show 0≠r.toNat+1;omega⟩
  ·rw[<-ea];exact c9
  ·rw[UD];have:=A3.on.len;omega
theorem Tu(hΔ:∀ f,MonoN (Δ f)){t l n:Nat}{S0 S:Sto}{D:EndsS}{g:SV}{o5 o6 o7 o8:Option SV}(A:Ah t S0 S l [])(hn:n<=12)(q:PQ t g 4 S0 D):
 wSt Δ (q6 kd) D [some (.loc t),some g,some (.int 4),some (.int n),some (.loc l),o5,o6,o7,o8] S:=by
 have stay:=q n [] l S o5 o6 o7 o8 (EW hn) A;refine⟨_,rfl,_,rfl,ifT rfl ?_⟩;refine⟨_,rfl,_,rfl,ifD (λh2=>?_) (λh2=>stay)⟩;have h2:1<n:=by omega
 refine⟨_,rfl,1,n,rfl,rfl,⟨by decide,by decide,by omega,by omega⟩,?_⟩;refine i7 (j5 hΔ _).2 (c7 hΔ _).1 (λi ys S2=>S2=S/\ys=((U7 i).map λj=>(0,j+1)).map pairS) ⟨rfl,rfl⟩ (λ_ _ _ _=>trivial) ?_ ?_
 ·rintro i x ys S2 hx ⟨rfl,rfl⟩;obtain⟨rfl,hi⟩:=r6 hx;refine⟨_,rfl,by show 2<=big;decide,by simp;show i<100000;omega,rfl,?_⟩;rw[VG,UQ,UQ];simp[pairS,Int.add_comm]
 ·rintro ys S2 ⟨rfl,rfl⟩;rw[l6];refine q n _ _ _ _ _ _ _ ⟨λe h=>?_,by simp;omega,hn⟩ ⟨A.tape.push,A.on.push,c9,A.on.len,A.t0⟩;obtain⟨j,hj,rfl⟩:=Um.mp h;have hj:=Ua.mp hj;exact⟨by show 0<n;omega,by show j+1<n;omega,by show 0≠j+1;omega⟩
theorem Ah.ext{t l j:Nat}{S0 S:Sto}{es fs:EE}(h:Ah t S0 S l es)(hj:S[j]?=some (.lst (fs.map pairS))):Ah t S0 (S.set l (.lst (es.map pairS++fs.map pairS))) l (es++fs):=by
 rw[<-UQ];exact h.put
theorem Tv(hΔ:∀ f,MonoN (Δ f)){t l n:Nat}{b:Bool}{S0 S:Sto}{D:EndsS}{o5 o6 o7 o8:Option SV}(A:Ah t S0 S l [])(hn:n<=12)(q:PQ t (.bl b) 5 S0 D):
 wSt Δ (q7 kd) D [some (.loc t),some (.bl b),some (.int 5),some (.int n),some (.loc l),o5,o6,o7,o8] S:=by
 refine⟨_,rfl,_,rfl,ifT rfl ?_⟩
 obtain⟨m,em,hm⟩:∃ m:Nat,(if (5+(if b=true then (1:Int) else 0))<n then (5+(if b=true then (1:Int) else 0)) else (n:Int))=m/\m<=6:=by
  cases b
  ·by_cases h:(5:Int)<n
   ·exact⟨5,by simp[h],by omega⟩
   ·exact⟨n,by simp[h],by omega⟩
  ·by_cases h:(6:Int)<n
   ·exact⟨6,by simp[h],by omega⟩
   ·exact⟨n,by simp[h],by omega⟩
 suffices key:∀ z:Int,z=m->wSs Δ [q7l kd] D [some (.loc t),some (.bl b),some (.int 5),some (.int z),some (.loc l),o5,o6,o7,o8] S from ⟨_,rfl,_,rfl,key _ em⟩
 rintro _ rfl;refine⟨_,rfl,m,rfl,⟨by omega,by omega⟩,?_⟩
 refine AE (j6 hΔ _) (λi ρ S2=>∃(es:EE) (o7:Option SV),ρ=[some (.loc t),some (.bl b),some (.int 5),some (.int m),some (.loc l),o5,o6,o7,o8]/\Ah t S0 S2 l es/\(∀ e∈es,e.1<e.2/\e.2<i)/\es.length<=i * 6)
  ⟨[],o7,rfl,A,(λ_ h=>nomatch h),by simp⟩ (λ_ _ _ _=>trivial) ?_ ?_
 ·rintro i x ρ S2 hx ⟨es,p7,rfl,A2,he,hl⟩;obtain⟨rfl,hi⟩:=r6 hx;refine⟨_,rfl,⟨l,_,rfl,A2.at'⟩,_,rfl,0+(i:Int),rfl,⟨by omega,by omega⟩,?_⟩;refine i7 (j5 hΔ _).2 (c7 hΔ _).1 (λj ys S3=>S3=S2/\ys=((U7 j).map λj=>(j,i)).map pairS) ⟨rfl,rfl⟩ (λ_ _ _ _=>trivial) ?_ ?_
  ·rintro j x ys S3 hx ⟨rfl,rfl⟩;obtain⟨rfl,hj⟩:=r6 hx;refine⟨_,rfl,_,rfl,by show 2<=big;decide,by simp;show j<100000;omega,rfl,?_⟩;rw[VG,UQ,UQ];simp[pairS]
  ·rintro ys S3 ⟨rfl,rfl⟩;rw[l6];have en:(0+(i:Int) - 0).toNat=i:=by omega
   rw[en];have A3:=A2.push (o := .lst (((U7 i).map λj=>(j,i)).map pairS));refine⟨_,_,A3.at',c9,by simp;show _<=100000;omega,?_⟩;refine⟨es++(U7 i).map (λj=>(j,i)),_,rfl,A3.ext (j:=S3.length) c9,λe h=>?_,by simp;omega⟩;rcases UV.mp h with h | h
   ·have:=he e h;omega
   ·obtain⟨j,hj,rfl⟩:=Um.mp h;have hj:=Ua.mp hj;exact⟨hj,by show i<i+1;omega⟩
 ·rintro ρ S2 ⟨es,p7,rfl,A2,he,hl⟩;rw[l6]at he hl;refine q m es l S2 _ _ _ _ ⟨λe h=>?_,by omega,by omega⟩ A2;have:=he e h;omega
theorem Tw(hΔ:∀ f,MonoN (Δ f))(hd:l4 (Δ kd)){t l n:Nat}{S0 S:Sto}{D:EndsS}{g:SV}{o5 o6 o7 o8:Option SV}(A:Ah t S0 S l [])(hn:n<=12)(q:PQ t g 6 S0 D):
 wSt Δ (q8 kd) D [some (.loc t),some g,some (.int 6),some (.int n),some (.loc l),o5,o6,o7,o8] S:=by
 refine⟨_,rfl,_,rfl,ifT rfl ?_⟩;obtain⟨s,es',hs⟩:∃ s:Nat,1+(n:Int) / 2=s/\s=1+n / 2:=⟨1+n / 2,by omega,rfl⟩
 suffices key:∀ z:Int,z=s->wSs Δ [q8l kd] D [some (.loc t),some g,some (.int 6),some (.int n),some (.loc l),o5,o6,o7,some (.int z)] S from ⟨_,rfl,⟨by decide,by decide⟩,key _ es'⟩
 rintro _ rfl;refine⟨_,rfl,s,rfl,⟨by omega,by omega⟩,?_⟩
 refine AE (j6 hΔ _) (λi ρ S2=>∃(es:EE) (o7:Option SV),ρ=[some (.loc t),some g,some (.int 6),some (.int n),some (.loc l),o5,o6,o7,some (.int s)]/\Ah t S0 S2 l es/\(∀ e∈es,e.1<i/\s<=e.2/\e.2<n)/\es.length<=i * (n - s))
  ⟨[],o7,rfl,A,(λ_ h=>nomatch h),by simp⟩ (λ_ _ _ _=>trivial) ?_ ?_
 ·rintro i x ρ S2 hx ⟨es,p7,rfl,A2,he,hl⟩;obtain⟨rfl,hi⟩:=r6 hx;refine⟨_,rfl,⟨l,_,rfl,A2.at'⟩,_,rfl,_,rfl,s,n,rfl,rfl,⟨by omega,by omega,by omega,by omega⟩,?_⟩;refine i7 (j5 hΔ _).2 (c7 hΔ _).1 (λj ys S3=>Ah t S0 S3 l es/\∃ fs:EE,ys=fs.map pairS/\(∀ e∈fs,e.1=i/\s<=e.2/\e.2<n)/\fs.length<=j) ⟨A2,[],rfl,(λ_ h=>nomatch h),U9 _⟩ (λ_ _ _ _=>trivial) ?_ ?_
  ·rintro j x ys S3 hx ⟨A3,fs,rfl,hf,fl⟩;obtain⟨rfl,hj⟩:=r6 hx;refine⟨_,rfl,hd A3.tape (by decide) (by decide) λr S4 r0 r1 T4 O4 _=>⟨_,rfl,?_⟩⟩;have A4:=A3.draw T4 O4;refine ifD (λ_=>?_) (λ_=>⟨A4,fs,rfl,hf,by omega⟩);refine⟨_,rfl,_,rfl,by show 2<=big;decide,by rw[U4];show _<100000;omega,A4,fs++[(i,s+j)],?_,λe h=>?_,by simp;omega⟩
   ·rw[UQ];simp[pairS]
   ·rcases UV.mp h with h | h
    ·exact hf e h
    ·rw[UA.mp h];exact⟨rfl,by show s<=s+j;omega,by show s+j<n;omega⟩
  ·rintro ys S3 ⟨A3,fs,rfl,hf,fl⟩;rw[l6]at fl;have A4:=A3.push (o := .lst (fs.map pairS));have hx6:i * (n - s)<=6 * 12:=X8 (by omega) (by omega);refine⟨_,_,A4.at',c9,by simp;show _<=100000;omega,?_⟩;refine⟨es++fs,_,rfl,A4.ext (j:=S3.length) c9,λe h=>?_,?_⟩
   ·rcases UV.mp h with h | h
    ·have:=he e h;exact⟨by omega,this.2⟩
    ·have:=hf e h;exact⟨by omega,this.2⟩
   ·rw[UD,Wm];omega
 ·rintro ρ S2 ⟨es,p7,rfl,A2,he,hl⟩;rw[l6]at he hl;have e0:((s:Int) - 0).toNat=s:=by omega
  rw[e0]at he hl;have h35:s * (n - s)<=7 * 5:=X8 (by omega) (by omega);refine q n es l S2 _ _ _ _ ⟨λe h=>?_,by omega,hn⟩ A2;have:=he e h;omega
theorem Tx(hΔ:∀ f,MonoN (Δ f))(hd:l4 (Δ kd)){t l n:Nat}{S0 S:Sto}{D:EndsS}{g:SV}{o5 o6 o7 o8:Option SV}(A:Ah t S0 S l [])(hn:n<=12)(q:PQ t g 7 S0 D):
 wSt Δ (q9 kd) D [some (.loc t),some g,some (.int 7),some (.int n),some (.loc l),o5,o6,o7,o8] S:=by
 refine⟨_,rfl,_,rfl,ifT rfl ?_⟩;obtain⟨m,em,hm⟩:∃ m:Nat,3+(n:Int) / 3=m/\m=3+n / 3:=⟨3+n / 3,by omega,rfl⟩
 suffices key:∀ z:Int,z=m->wSs Δ [q9l kd] D [some (.loc t),some g,some (.int 7),some (.int z),some (.loc l),o5,o6,o7,o8] S from ⟨_,rfl,⟨by decide,by decide⟩,key _ em⟩
 rintro _ rfl;refine⟨3,rfl,⟨by decide,by decide⟩,?_⟩
 refine AE (j6 hΔ _) (λi ρ S2=>∃(es:EE) (o7:Option SV),ρ=[some (.loc t),some g,some (.int 7),some (.int m),some (.loc l),o5,o6,o7,o8]/\Ah t S0 S2 l es/\(∀ e∈es,e.1<3/\e.2<3/\e.1≠e.2)/\es.length<=i * 3)
  ⟨[],o7,rfl,A,(λ_ h=>nomatch h),by simp⟩ (λ_ _ _ _=>trivial) ?_ ?_
 ·rintro i x ρ S2 hx ⟨es,p7,rfl,A2,he,hl⟩;obtain⟨rfl,hi⟩:=r6 hx;refine⟨_,rfl,⟨l,_,rfl,A2.at'⟩,_,rfl,_,rfl,show(0:Int)<3 by decide,by show 2<=big;decide,by show 1<=big;decide,?_⟩;have A3:=A2.push (o := .lst [.tup [.int (0+(i:Int)),.int ((0+(i:Int)+1) % 3)]]);refine⟨_,rfl,hd A3.tape (by decide) (by decide) λr S4 r0 r1 T4 O4 L4=>?_⟩;have A4:=A3.draw T4 O4;have ht:=A2.t0;have hlen:=A2.on.len;have at1:S4[S2.length]?=some (.lst [.tup [.int (0+(i:Int)),.int ((0+(i:Int)+1) % 3)]]):=O4.keep _ _ (by omega) c9;refine⟨_,at1,⟨by omega,by omega⟩,by simp;show _<=100000;omega,?_⟩
  have e1:(UO (1+r).toNat [SV.tup [.int (0+(i:Int)),.int ((0+(i:Int)+1) % 3)]]).flatten=(UO (1+r).toNat (i,(i+1) % 3)).map pairS:=by
   induction (1+r).toNat with
   | zero=>rfl
   | succ k ih=>rw[Uu,VE,ih,Uu];simp[pairS]
  rw[e1];have A5:=A4.push (o := .lst ((UO (1+r).toNat (i,(i+1) % 3)).map pairS));refine⟨_,_,A5.at',c9,by simp;show _<=100000;omega,?_⟩;refine⟨es++UO (1+r).toNat (i,(i+1) % 3),_,rfl,A5.ext (j:=S4.length) c9,λe h=>?_,by simp;omega⟩;rcases UV.mp h with h | h
  ·exact he e h
  ·rw[List.eq_of_mem_replicate h];exact⟨by show i<3;omega,by show(i+1) % 3<3;omega,by show i≠(i+1) % 3;omega⟩
 ·rintro ρ S2 ⟨es,p7,rfl,A2,he,hl⟩;rw[l6]at hl;refine q m es l S2 _ _ _ _ ⟨λe h=>?_,by omega,by omega⟩ A2;have:=he e h;omega
theorem TB{t l:Nat}{way n:Int}{S:Sto}{D:EndsS}{g:SV}{o5 o6 o7 o8:Option SV}(h:¬ way<3)(q:D.nx [some (.loc t),some g,some (.int way),some (.int n),some (.loc l),o5,o6,o7,o8] S):wSt Δ (q4 kd) D [some (.loc t),some g,some (.int way),some (.int n),some (.loc l),o5,o6,o7,o8] S:=⟨_,rfl,_,rfl,ifD (λz=>absurd z h) (λ_=>ifF rfl q)⟩
theorem Fi{t l:Nat}{way n:Int}{S:Sto}{D:EndsS}{g:SV}{o5 o6 o7 o8:Option SV}(h:¬ way=3)(q:D.nx [some (.loc t),some g,some (.int way),some (.int n),some (.loc l),o5,o6,o7,o8] S):wSt Δ (q5 kd) D [some (.loc t),some g,some (.int way),some (.int n),some (.loc l),o5,o6,o7,o8] S:=⟨_,rfl,_,rfl,ifD (λz=>absurd z h) (λ_=>ifF rfl q)⟩
theorem Fj{t l:Nat}{way n:Int}{S:Sto}{D:EndsS}{g:SV}{o5 o6 o7 o8:Option SV}(h:¬ way=4)(q:D.nx [some (.loc t),some g,some (.int way),some (.int n),some (.loc l),o5,o6,o7,o8] S):wSt Δ (q6 kd) D [some (.loc t),some g,some (.int way),some (.int n),some (.loc l),o5,o6,o7,o8] S:=⟨_,rfl,_,rfl,ifD (λz=>absurd z h) (λ_=>ifF rfl q)⟩
theorem Fk{t l:Nat}{way n:Int}{S:Sto}{D:EndsS}{g:SV}{o5 o6 o7 o8:Option SV}(h:¬ way=5)(q:D.nx [some (.loc t),some g,some (.int way),some (.int n),some (.loc l),o5,o6,o7,o8] S):wSt Δ (q7 kd) D [some (.loc t),some g,some (.int way),some (.int n),some (.loc l),o5,o6,o7,o8] S:=⟨_,rfl,_,rfl,ifD (λz=>absurd z h) (λ_=>q)⟩
theorem Fl{t l:Nat}{way n:Int}{S:Sto}{D:EndsS}{g:SV}{o5 o6 o7 o8:Option SV}(h:¬ way=6)(q:D.nx [some (.loc t),some g,some (.int way),some (.int n),some (.loc l),o5,o6,o7,o8] S):wSt Δ (q8 kd) D [some (.loc t),some g,some (.int way),some (.int n),some (.loc l),o5,o6,o7,o8] S:=⟨_,rfl,_,rfl,ifD (λz=>absurd z h) (λ_=>q)⟩
theorem Fm{t l:Nat}{way n:Int}{S:Sto}{D:EndsS}{g:SV}{o5 o6 o7 o8:Option SV}(h:¬ way=7)(q:D.nx [some (.loc t),some g,some (.int way),some (.int n),some (.loc l),o5,o6,o7,o8] S):wSt Δ (q9 kd) D [some (.loc t),some g,some (.int way),some (.int n),some (.loc l),o5,o6,o7,o8] S:=⟨_,rfl,_,rfl,ifD (λz=>absurd z h) (λ_=>q)⟩
theorem OP(hΔ:∀ f,MonoN (Δ f))(hd:l4 (Δ kd)){t l n:Nat}{b:Bool}{w:Int}{S0 S:Sto}{Q:QE}(w0:0<=w)(w1:w<8)(A:Ah t S0 S l [])(hn:n<=12)
 (q:∀(n:Nat) (es:EE) (l:Nat) (S':Sto),Prs n es->Ah t S0 S' l es->Q (.tup [.int n,.loc l]) S'):
 wSs Δ [q4 kd,q5 kd,q6 kd,q7 kd,q8 kd,q9 kd,q10 kd] (j8 Q) [some (.loc t),some (.bl b),some (.int w),some (.int n),some (.loc l),none,none,none,none] S:=by
 have fin:∀(n:Nat) (es:EE) (l:Nat) (S':Sto) (o5 o6 o7 o8:Option SV),Prs n es->Ah t S0 S' l es->wSs Δ [q10 kd] (j8 Q) [some (.loc t),some (.bl b),some (.int w),some (.int n),some (.loc l),o5,o6,o7,o8] S':=λn es l S' o5 o6 o7 o8 P A'=>⟨_,rfl,_,rfl,by show 2<=big;decide,q n es l S' P A'⟩
 have nil:=EW hn;by_cases h:w<3
 ·exact Tr hΔ hd A hn λes S' o5 o6 P A'=>Fi (by omega) (Fj (kd:=kd) (by omega) (Fk (kd:=kd) (by omega) (Fl (by omega) (Fm (by omega) (fin n es l S' _ _ _ _ P A')))))
 refine TB h ?_;have:w=3\/w=4\/w=5\/w=6\/w=7:=by omega
 rcases this with rfl | rfl | rfl | rfl | rfl
 ·exact Tt hΔ hd A hn λn es l S' o5 o6 o7 o8 P A'=>Fj (kd:=kd) (by omega) (Fk (kd:=kd) (by omega) (Fl (by omega) (Fm (by omega) (fin n es l S' _ _ _ _ P A'))))
 ·exact Fi (by omega) (Tu (kd:=kd) hΔ A hn λn es l S' o5 o6 o7 o8 P A'=>Fk (kd:=kd) (by omega) (Fl (by omega) (Fm (by omega) (fin n es l S' _ _ _ _ P A'))))
 ·exact Fi (by omega) (Fj (kd:=kd) (by omega) (Tv (kd:=kd) hΔ A hn λn es l S' o5 o6 o7 o8 P A'=>Fl (by omega) (Fm (by omega) (fin n es l S' _ _ _ _ P A'))))
 ·exact Fi (by omega) (Fj (kd:=kd) (by omega) (Fk (kd:=kd) (by omega) (Tw hΔ hd A hn λn es l S' o5 o6 o7 o8 P A'=>Fm (by omega) (fin n es l S' _ _ _ _ P A'))))
 ·exact Fi (by omega) (Fj (kd:=kd) (by omega) (Fk (kd:=kd) (by omega) (Fl (by omega) (Tx hΔ hd A hn λn es l S' o5 o6 o7 o8 P A'=>fin n es l S' _ _ _ _ P A'))))
theorem MI(hΔ:∀ f,MonoN (Δ f))(hd:l4 (Δ kd)){D:Df}(hb:D.body=MH kd)(hN:D.N.length=9)(hp:D.ps.length=2):EV (g0 Δ D):=by
 intro t g S Q T q;unfold g0;rw[hb,hN];refine⟨hp.symm,?_⟩;have t0:=T.lt;refine⟨_,rfl,hd T (by decide) (by decide) λw S1 w0 w1 T1 O1 _=>?_⟩;refine⟨_,rfl,hd T1 (by decide) (by decide) λr1 S2 a0 a1 T2 O2 _=>⟨_,rfl,hd T2 (by decide) (by decide) λr2 S3 b0 b1 T3 O3 _=>⟨by show 2<=big;decide,_,rfl,_,(if g=true then .int (7+r2) else .int r1),e7 c9,?_⟩⟩⟩;have O:=((O1.trans O2).trans O3).push (o := .lst [.int r1,.int (7+r2)])
 have key:∀(z:Int) (n:Nat),z=n->n<=12->wSs Δ [q3 kd,q4 kd,q5 kd,q6 kd,q7 kd,q8 kd,q9 kd,q10 kd] (j8 Q) [some (.loc t),some (.bl g),some (.int w),some (.int z),none,none,none,none,none] (S3++[SO.lst [.int r1,.int (7+r2)]]):=by
  rintro _ n rfl hn;refine⟨by show 0<=big;decide,?_⟩;have A:Ah t S ((S3++[SO.lst [.int r1,.int (7+r2)]])++[SO.lst []]) (S3++[SO.lst [.int r1,.int (7+r2)]]).length []:=⟨T3.push.push,O.push,c9,O.len,t0⟩
  have r:=OP (b:=g) hΔ hd w0 w1 A hn (Q:=Q) λn es l S' P A=>q n es l S' P A.at' A.new A.tape A.on;exact r
 cases g with
 | false=>exact⟨rfl,key r1 r1.toNat (by omega) (by omega)⟩
 | true=>exact⟨rfl,key (7+r2) (7+r2).toNat (by omega) (by omega)⟩
end
noncomputable def u1(kd kp:Nat):Stm:=(.asg (.tup (.cons (.nm 2) (.cons (.nm 3) .nil))) (.call kp (.cons (.var 0) (.cons (.var 1) .nil))))
noncomputable def u3(kd kp:Nat):Stm:=(.iff (.and (.cmp .NotEq (.var 3) (.lst .nil)) (.cmp .Eq (.call kd (.cons (.var 0) (.cons (.c (.int 4)) .nil))) (.c (.int 0)))) [(.asg (.nm 3) (.op .Add (.var 3) (.comp ["_law_turn"] ["_law_pairs","_law_tape_here"] [3,0] (.nm 0) (.rng1 (.op .Add (.c (.int 1)) (.call kd (.cons (.var 0) (.cons (.c (.int 3)) .nil))))) .no (.ix (.var 1) (.call kd (.cons (.var 2) (.cons (.bi .len (.cons (.var 1) .nil)) .nil)))))))] [])
noncomputable def u4(kd kp:Nat):Stm:=(.asg (.nm 4) (.lst .nil))
noncomputable def u5(kd kp:Nat):Stm:=(.loop (.tup (.cons (.nm 5) (.cons (.nm 6) .nil))) (.seq (.var 3)) [(.expr (.mt .insert (.var 4) (.cons (.call kd (.cons (.var 0) (.cons (.op .Add (.bi .len (.cons (.var 4) .nil)) (.c (.int 1))) .nil))) (.cons (.tup (.cons (.bi .min (.cons (.var 5) (.cons (.var 6) .nil))) (.cons (.bi .max (.cons (.var 5) (.cons (.var 6) .nil))) .nil))) .nil))))])
noncomputable def u6(kd kp:Nat):Stm:=(.ret (.tup (.cons (.var 2) (.cons (.bi .tuple (.cons (.var 4) .nil)) .nil))))
noncomputable def i4(n:Nat)(es:EE):SV := .tup [.int n,.tup (es.map pairS)]
structure Web(n:Nat)(es:EE):Prop where
 en:∀ e∈es,e.1<e.2/\e.2<n
 len:es.length<=39
 few:n<=12
noncomputable def MJ(s:Sn):Prop:=∀{t:Nat} {g:Bool} {S:Sto} {Q:QE},TapeS S t->(∀(n:Nat) (es:EE) (S':Sto),Web n es->TapeS S' t->On t S S'->Q (i4 n es) S')->s [.loc t,.bl g] S Q
theorem MK{xs:List SV}:BK xs []=xs.isEmpty:=by cases xs<;>rfl
section
variable{Δ:Nat->Sn}{kd kp:Nat}
theorem D0(hΔ:∀ f,MonoN (Δ f))(hd:l4 (Δ kd)){t n l:Nat}{g:SV}{S0 S:Sto}{es:EE}{Q:QE}{o4 o5 o6:Option SV}(he:∀ e∈es,e.1<n/\e.2<n/\e.1≠e.2)(hl:es.length<=39)(hn:n<=12)(A:Ah t S0 S l es)
 (q:∀(es:EE) (S':Sto),Web n es->TapeS S' t->On t S0 S'->Q (i4 n es) S'):wSs Δ [u4 kd kp,u5 kd kp,u6 kd kp] (j8 Q) [some (.loc t),some g,some (.int n),some (.loc l),o4,o5,o6] S:=by
 refine⟨by show 0<=big;decide,?_⟩;have hlt:=ID A.at';have htl:=A.tape.lt;refine⟨_,rfl,_,e7 A.push.at',?_⟩
 refine AE (j6 hΔ _) (λi ρ S2=>∃(fs:EE) (o5 o6:Option SV),ρ=[some (.loc t),some g,some (.int n),some (.loc l),some (.loc S.length),o5,o6]/\Ah t S0 S2 S.length fs/\S2[l]?=some (.lst (es.map pairS))/\(∀ e∈fs,e.1<e.2/\e.2<n)/\fs.length=i)
  ⟨[],o5,o6,rfl,⟨A.tape.push,A.on.push,c9,A.on.len,A.t0⟩,A.push.at',(λ_ h=>nomatch h),rfl⟩ (λi ρ S2 h=>?_) ?_ ?_
 ·obtain⟨fs,_,_,_,_,h2,_⟩:=h;exact h2.trans A.push.at'.symm
 ·rintro i x ρ S2 hx ⟨fs,p5,p6,rfl,A2,h2,hf,fl⟩;rw[UJ]at hx;cases hei:es[i]? with
  | none=>rw[hei]at hx;cases hx
  | some e=>
    rw[hei]at hx;have hx:pairS e=x:=oj hx;subst hx;have hil:=(gM hei).1;have hee:=he e (UC hei);refine⟨_,rfl,⟨_,_,rfl,A2.at'⟩,_,rfl,_,rfl,_,e7 A2.at',hd A2.tape (by omega) (by rw[U4];omega) λr S3 r0 r1 T3 O3 _=>?_⟩;have A3:=A2.draw T3 O3;rw[U4]at r1;refine⟨_,rfl,_,rfl,_,rfl,_,rfl,by show 2<=big;decide,?_⟩;refine⟨_,A3.at',⟨r0,by rw[U4];omega⟩,by rw[U4];show _<100000;omega,?_⟩
    have key:∀(a b:Nat) (z1 z2:Int),z1=a->z2=b->a<b->b<n->∃(fs':EE) (o5 o6:Option SV),([some (.loc t),some g,some (.int n),some (.loc l),some (.loc S.length),some (.int e.1),some (.int e.2)]:EnvS)=[some (.loc t),some g,some (.int n),some (.loc l),some (.loc S.length),o5,o6]/\Ah t S0 (S3.set S.length (.lst ((fs.map pairS).take r.toNat ++ .tup [.int z1,.int z2]::(fs.map pairS).drop r.toNat))) S.length fs'/\(S3.set S.length (.lst ((fs.map pairS).take r.toNat ++ .tup [.int z1,.int z2]::(fs.map pairS).drop r.toNat)))[l]?=some (.lst (es.map pairS))/\(∀ e∈fs',e.1<e.2/\e.2<n)/\fs'.length=i+1:=by
     rintro a b _ _ rfl rfl hab hbn
     have e1:(fs.map pairS).take r.toNat++SV.tup [.int a,.int b]::(fs.map pairS).drop r.toNat=(fs.take r.toNat++(a,b)::fs.drop r.toNat).map pairS:=by
      rw[UQ,UT,XB,List.map_drop];rfl
     rw[e1];refine⟨_,_,_,rfl,A3.put,?_,λe' h=>?_,?_⟩
     ·rw[Ao (by omega)];exact O3.keep _ _ A.ne h2
     ·rcases UV.mp h with h | h
      ·exact hf e' (Wc h)
      ·rcases UH.mp h with h | h
       ·rw[h];exact⟨hab,hbn⟩
       ·exact hf e' (List.mem_of_mem_drop h)
     ·rw[UD,Uq,Uo,VU];omega
    by_cases hc:e.1<e.2
    ·exact key e.1 e.2 _ _ (by rw[iG (by omega)]) (by rw[iP (by omega)]) hc hee.2.1
    ·exact key e.2 e.1 _ _ (by rw[iP (by omega)]) (by rw[iG (by omega)]) (by omega) hee.1
 ·rintro ρ S2 ⟨fs,p5,p6,rfl,A2,h2,hf,fl⟩;rw[U4]at fl;exact⟨_,rfl,_,rfl,_,e7 A2.at',by show 2<=big;decide,q fs S2 ⟨hf,by omega,hn⟩ A2.tape A2.on⟩
theorem ML(hΔ:∀ f,MonoN (Δ f))(hd:l4 (Δ kd)){t n l:Nat}{g:SV}{S0 S:Sto}{es:EE}{Q:QE}{o4 o5 o6:Option SV}(P:Prs n es)(A:Ah t S0 S l es)
 (q:∀(es:EE) (S':Sto),Web n es->TapeS S' t->On t S0 S'->Q (i4 n es) S'):wSs Δ [u3 kd kp,u4 kd kp,u5 kd kp,u6 kd kp] (j8 Q) [some (.loc t),some g,some (.int n),some (.loc l),o4,o5,o6] S:=by
 refine⟨_,rfl,by show 0<=big;decide,?_⟩;have A1:=A.push (o:=SO.lst []);refine⟨_,_,A1.at',c9,.inr (.inr rfl),_,rfl,?_⟩;rw[MK];refine ifB (λh1=>?_) (λh1=>ifF rfl (D0 hΔ hd P.en (by have:=P.len;omega) P.few A1 q))
 have hpos:0<es.length:=by
  cases es with
  | nil=>cases h1
  | cons _ _=>simp
 refine⟨_,rfl,hd A1.tape (by decide) (by decide) λr S2 r0 r1 T2 O2 _=>⟨_,rfl,?_⟩⟩;have A2:=A1.draw T2 O2;refine ifD (λ_=>?_) (λ_=>D0 hΔ hd P.en (by have:=P.len;omega) P.few A2 q);refine⟨_,rfl,_,rfl,hd A2.tape (by decide) (by decide) λr3 S3 a0 a1 T3 O3 _=>⟨_,rfl,⟨by omega,by omega⟩,?_⟩⟩;have A3:=A2.draw T3 O3;refine i7 (j5 hΔ _).2 (c7 hΔ _).1 (λi ys S4=>Ah t S0 S4 l es/\∃ fs:EE,ys=fs.map pairS/\(∀ e∈fs,e∈es)/\fs.length=i) ⟨A3,[],rfl,(λ_ h=>nomatch h),rfl⟩ (λ_ _ _ _=>trivial) ?_ ?_
 ·rintro i x ys S4 hx ⟨A4,fs,rfl,hf,fl⟩;obtain⟨rfl,hi⟩:=r6 hx;refine⟨_,rfl,_,rfl,_,rfl,_,e7 A4.at',hd A4.tape (by rw[U4];omega) (by rw[U4];have:=P.len;omega) λr5 S5 b0 b1 T5 O5 _=>?_⟩;have A5:=A4.draw T5 O5;rw[U4]at b1;have hr:r5.toNat<es.length:=by omega
  refine⟨_,pairS es[r5.toNat],e7 A5.at',?_,by rw[U4];show _<100000;omega,A5,fs++[es[r5.toNat]],?_,λe h=>?_,by simp[fl]⟩
  ·have:=j0 (xs:=es.map pairS) (j:=r5.toNat) (v:=pairS es[r5.toNat]) (by rw[UJ,UI hr];rfl)
   rwa [Vg b0]at this
  ·rw[UQ];rfl
  ·rcases UV.mp h with h | h
   ·exact hf e h
   ·rw[UA.mp h];exact Ut hr
 ·rintro ys S4 ⟨A4,fs,rfl,hf,fl⟩;rw[l6]at fl;have A5:=A4.push (o := .lst (fs.map pairS));have hPl:=P.len;refine⟨_,_,A5.at',c9,by simp;show _<=100000;omega,?_⟩;rw[<-UQ];refine D0 hΔ hd (es:=es++fs) (λe h=>?_) (by rw[UD];omega) P.few ⟨A5.tape.push,A5.on.push,c9,?_,A.t0⟩ q
  ·rcases UV.mp h with h | h
   ·exact P.en e h
   ·exact P.en e (hf e h)
  ·have:=A5.on.len;exact this
end
noncomputable def EX:List Stm:=[(.ret (.and (.bi .isi (.cons (.var 0) (.cons (.tyc .int) .nil))) (.not (.bi .isi (.cons (.var 0) (.cons (.tyc .bool) .nil))))))]
noncomputable def By(k:Nat):List Stm:=[(.ret (.and (.call k (.cons (.var 1) .nil)) (.chn .LtE .Lt (.c (.int 0)) (.var 1) (.ix (.var 0) (.c (.int 0))))))]
noncomputable def IE(k:Nat):List Stm:=[(.ret (.and (.call k (.cons (.var 1) .nil)) (.chn .LtE .Lt (.c (.int 0)) (.var 1) (.bi .len (.cons (.ix (.var 0) (.c (.int 1))) .nil)))))]
noncomputable def RB(k:Nat):List Stm:=[(.iff (.not (.call k (.cons (.var 0) (.cons (.var 1) .nil)))) [.no] [])]
noncomputable def IF(k:Nat):List Stm:=[(.expr (.call k (.cons (.var 0) (.cons (.var 1) .nil)))),(.ret (.comp ["tie","ends"] ["place"] [1] (.tup (.cons (.nm 0) (.cons (.nm 1) .nil))) (.enum (.ix (.var 0) (.c (.int 1)))) (.yes (.cmp .In (.var 2) (.var 1))) (.var 0)))]
noncomputable def EY(s:Sn):Prop:=∀{i:Int} {S:Sto} {Q:QE},Q (.bl true) S->s [.int i] S Q
noncomputable def BP(s:Sn):Prop:=∀{n p:Nat} {es:EE} {S:Sto} {Q:QE},p<n->Q (.bl true) S->s [i4 n es,.int p] S Q
noncomputable def Am(s:Sn):Prop:=∀{n p:Nat} {es:EE} {S:Sto} {Q:QE},p<n->Q .non S->s [i4 n es,.int p] S Q
noncomputable def BQ(es:EE)(p:Nat)(i:Nat):List Nat:=(U7 i).filter λj=>match es[j]? with | some e=>decide (e.1=p)||decide (e.2=p) | none=>false
noncomputable def f8(xs:List Nat):List SV:=xs.map λ(i:Nat)=>SV.int i
noncomputable def D1(s:Sn):Prop:=∀{n p:Nat} {es:EE} {S:Sto} {Q:QE},es.length<=5000->p<n->Q (.loc S.length) (S++[.lst (f8 (BQ es p es.length))])->s [i4 n es,.int p] S Q
section
variable{Δ:Nat->Sn}
theorem MM{D:Df}(hb:D.body=EX)(hN:D.N.length=1)(hp:D.ps.length=1):EY (g0 Δ D):=by
 intro i S Q q;unfold g0;rw[hb,hN];exact⟨hp.symm,_,rfl,_,nofun,rfl,_,rfl,ifT rfl ⟨_,rfl,_,nofun,rfl,_,rfl,q⟩⟩
theorem Fn{k:Nat}(h0:EY (Δ k)){D:Df}(hb:D.body=By k)(hN:D.N.length=2)(hp:D.ps.length=2):BP (g0 Δ D):=by
 intro n p es S Q h q;unfold g0;rw[hb,hN];refine⟨hp.symm,_,rfl,h0 ⟨_,rfl,ifT rfl ⟨_,rfl,_,rfl,ifT (decide_eq_true (Int.natCast_nonneg p)) ⟨_,rfl,_,_,rfl,rfl,?_⟩⟩⟩⟩;show Q (.bl (decide ((p:Int)<n))) S;rw[decide_eq_true (by omega)];exact q
theorem DT{k:Nat}(h0:BP (Δ k)){D:Df}(hb:D.body=RB k)(hN:D.N.length=2)(hp:D.ps.length=2):Am (g0 Δ D):=by
 intro n p es S Q h q;unfold g0;rw[hb,hN];exact⟨hp.symm,_,rfl,_,rfl,h0 h ⟨_,rfl,ifF rfl q⟩⟩
theorem EZ{xs:List SV}{i:Nat}{x:SV}(h:(Ay xs)[i]?=some x):∃ y,xs[i]?=some y/\x = .tup [.int i,y]:=by
 unfold Ay at h;rw[Vo]at h;cases hy:xs[i]? with
 | none=>rw[hy]at h;revert h;cases(U7 xs.length)[i]?<;>exact nofun
 | some y=>
   have hi:=(gM hy).1;rw[hy,Vf hi]at h;exact⟨y,rfl,(oj h).symm⟩
theorem CO{xs:List SV}:(Ay xs).length=xs.length:=by unfold Ay;simp
theorem B3{es:EE}{i:Nat}{x:SV}(h:(es.map pairS)[i]?=some x):∃ e,es[i]?=some e/\x=pairS e:=by
 rw[UJ]at h;cases he:es[i]? with
 | none=>rw[he]at h;cases h
 | some e=>rw[he]at h;exact⟨e,rfl,(oj h).symm⟩
theorem B9(p:Nat)(e:Nat×Nat):inS (.int p) [.int e.1,.int e.2]=(decide (e.1=p)||decide (e.2=p)):=by
 have k:∀ a:Nat,((a:Int) == (p:Int))=decide (a=p):=λa=>by
  rw[Ug];simp[Ui]
 unfold inS;simp only[VB,XJ,Wf,eqF,k]
theorem C7(es:EE)(p i:Nat){e:Nat×Nat}(h:es[i]?=some e):BQ es p (i+1)=BQ es p i++if (decide (e.1=p)||decide (e.2=p))=true then [i] else []:=by
 unfold BQ;rw[VG,Vj]
 congr 1
 rw[Ww,h];rfl
theorem HC(es:EE)(p i:Nat):(BQ es p i).length<=i:=by
 have:=V0 (λj=>match es[j]? with | some e=>decide (e.1=p)||decide (e.2=p) | none=>false) (U7 i);rw[Uy]at this;exact this
theorem Jo{k:Nat}(hΔ:∀ f,MonoN (Δ f))(h0:Am (Δ k)){D:Df}(hb:D.body=IF k)(hN:D.N.length=2)(hp:D.ps.length=2):D1 (g0 Δ D):=by
 intro n p es S Q hl h q;unfold g0;rw[hb,hN];refine⟨hp.symm,_,rfl,_,rfl,h0 h ⟨_,rfl,_,_,rfl,rfl,_,rfl,?_⟩⟩;refine i7 (j5 hΔ _).2 (c7 hΔ _).1 (λi ys S'=>S'=S/\ys=f8 (BQ es p i)) ⟨rfl,rfl⟩ (λ_ _ _ _=>trivial) ?_ ?_
 ·rintro i x ys S' hx ⟨rfl,rfl⟩;obtain⟨y,hy,rfl⟩:=EZ hx;obtain⟨e,he,rfl⟩:=B3 hy;have hi:=(gM he).1;have ht:=HC es p i;refine⟨_,rfl,_,rfl,rfl,_,rfl,rfl,_,rfl,?_⟩;show if inS (.int p) [.int e.1,.int e.2]=true then _ else _
  rw[B9];refine ifB (λh=>?_) (λh=>?_)
  ·refine⟨_,rfl,by show(f8 _).length<100000;unfold f8;rw[U4];omega,rfl,?_⟩;rw[C7 es p i he,iP h];unfold f8;rw[UQ];rfl
  ·refine⟨rfl,?_⟩;rw[C7 es p i he,iG (by rw[h];decide),V8]
 ·rintro ys S' ⟨rfl,rfl⟩;rw[CO,U4];exact q
end
theorem g7{xs:List Nat}:(f8 xs).length=xs.length:=by unfold f8;rw[U4]
theorem Aj{xs ys:List Nat}:f8 (xs++ys)=f8 xs++f8 ys:=by unfold f8;rw[UQ]
theorem IG(m:Nat):Al 0 (m:Int)=f8 (U7 m):=by
 unfold Al f8;simp
structure Gw(S S':Sto):Prop where
 len:S.length<=S'.length
 keep:∀(k:Nat) (o:SO),S[k]?=some o->S'[k]?=some o
theorem Gw.refl(S:Sto):Gw S S:=⟨U9 _,λ_ _ h=>h⟩
theorem Gw.push{S S':Sto}{o:SO}(h:Gw S S'):Gw S (S'++[o]):=⟨by rw[UD];have:=h.len;omega,λk u z=>t5 (h.keep k u z)⟩
theorem Gw.put{S S':Sto}{o:SO}{k:Nat}(h:Gw S S')(hk:S.length<=k):Gw S (S'.set k o):=⟨by rw[Us];exact h.len,λj u z=>by
 rw[Ao (λe=>by have:=ID z;omega)];exact h.keep j u z⟩
theorem Gw.trans{S S' S'':Sto}(a:Gw S S')(b:Gw S' S''):Gw S S'':=⟨UR a.len b.len,λk o h=>b.keep k o (a.keep k o h)⟩
theorem AA(xs:List Nat):(f8 xs).all u7=true:=by
 unfold f8;rw[XI,US];exact λ_ _=>rfl
end Rf
namespace L2
open PySem PySem.Spec PyProof.Rows
structure Sz(k b:Nat)(d:PyData):Prop where
 dp:d.depth<=k
 bk:d.bulk<=b
 sh:d.showable=true
 lf:d.leavesShort 100=true
theorem Sz.mono{k b k' b':Nat}{d:PyData}(h:Sz k b d)(hk:k<=k')(hb:b<=b'):Sz k' b' d:=⟨UR h.dp hk,UR h.bk hb,h.sh,h.lf⟩
theorem Sz.fit{k b:Nat}{d:PyData}(h:Sz k b d)(hk:k<=40)(hb:b<=100000):Fit d:=⟨h.sh,by
 have:=PyData.shown_le_bulk 100 (by decide) d h.lf;have h2:=h.bk;rw[Yw];omega,UR h.dp hk⟩
structure SzA(k b n:Nat)(ds:List PyData):Prop where
 dp:PyData.depthAll ds<=k
 bk:PyData.bulkAll ds<=n * (b+1)
 sh:PyData.showableAll ds=true
 lf:PyData.leavesShortAll 100 ds=true
theorem SzA.nil{k b:Nat}:SzA k b 0 []:=⟨by simp[PyData.depthAll],by simp[PyData.bulkAll],by simp[PyData.showableAll],by simp[PyData.leavesShortAll]⟩
theorem SzA.cons{k b n:Nat}{d:PyData}{ds:List PyData}(h:Sz k b d)(h':SzA k b n ds):SzA k b (n+1) (d::ds):=by
 refine⟨?_,?_,?_,?_⟩
 ·simp only[PyData.depthAll];have:=h.dp;have:=h'.dp;omega
 ·simp only[PyData.bulkAll];have:=h.bk;have:=h'.bk;rw[Wm];omega
 ·simp only[PyData.showableAll,h.sh,h'.sh];rfl
 ·simp only[PyData.leavesShortAll,h.lf,h'.lf];rfl
theorem SzA.list{k b n:Nat}{ds:List PyData}(h:SzA k b n ds):Sz (k+1) (n * (b+1)) (.list ds):=⟨by simp only[PyData.depth];have:=h.dp;omega,by simp only[PyData.bulk];exact h.bk,by simp only[PyData.showable];exact h.sh,by simp only[PyData.leavesShort];exact h.lf⟩
theorem SzA.tuple{k b n:Nat}{ds:List PyData}(h:SzA k b n ds):Sz (k+1) (n * (b+1)) (.tuple ds):=⟨by simp only[PyData.depth];have:=h.dp;omega,by simp only[PyData.bulk];exact h.bk,by simp only[PyData.showable];exact h.sh,by simp only[PyData.leavesShort];exact h.lf⟩
noncomputable def DN(k b:Nat)(H:Hp)(x:V):Prop:=∃ d,Dat H x d/\Sz k b d
theorem DN.int{k b:Nat}{H:Hp}{i:Int}(h:i.natAbs.log2<90):DN k b H (.int i):=⟨.int i,by unfold Dat;rfl,by simp[PyData.depth],by simp[PyData.bulk],by simp only[PyData.showable,dQ];omega,by
 have:=int_text_length_le (a:=i) (k:=90) (by decide) h;simp only[PyData.leavesShort,PyData.shown];refine decide_eq_true ?_;show(Str.ofString (toString i)).length<=100;rw[PySem.ofString_length];omega⟩
theorem DN.str{k b:Nat}{H:Hp}{x:Str}(h:x.cps.size<=b)(hc:(x.cps.toList.all λc=>decide (c<16 ^ 8))=true):DN k b H (.str x):=⟨.str x,by unfold Dat;rfl,by simp[PyData.depth],by simp only[PyData.bulk];exact h,by simp[PyData.showable],by simp only[PyData.leavesShort];exact hc⟩
end L2
namespace Rf
open PySem L2
noncomputable def l7(es:EE)(t:Nat):Nat×Nat:=es.getD t (0,0)
theorem Bg{es:EE}{t:Nat}(h:t<es.length):es[t]?=some (l7 es t):=by
 unfold l7;rw[UU,UI h];rfl
section
variable{Δ:Nat->Sn}
theorem f6{D:EndsS}{ρ:EnvS}{S:Sto}(h:D.nx ρ S):wSs Δ [] D ρ S:=h
end
end Rf
namespace Hue
section
variable{n:Nat}{es:EE}(hn:∀ e∈es,e.1<n/\e.2<n)
include hn
end
section
variable{n x:Nat}{es:EE}
variable(hn:∀ e∈es,e.1<n/\e.2<n)
include hn
end
end Hue
namespace Rf
open PySem L2
theorem Bh{xs:List Nat}{i:Nat}{x:SV}(h:(f8 xs)[i]?=some x):∃ j,xs[i]?=some j/\x = .int j:=by
 unfold f8 at h;rw[UJ]at h;cases hx:xs[i]? with
 | none=>rw[hx]at h;cases h
 | some j=>rw[hx]at h;exact⟨j,rfl,(oj h).symm⟩
theorem D3(p:Nat)(xs:List Nat):inS (.int p) (f8 xs)=decide (p∈xs):=by
 rw[Ug,dQ];unfold inS f8;rw[XH,Ux];constructor
 ·rintro⟨a,ha,h⟩;have h:((a:Int) == (p:Int))=true:=h;rw[bQ]at h;have:=Ui.mp h;rw[<-this];exact ha
 ·intro h;exact⟨p,h,by show((p:Int) == (p:Int))=true;simp⟩
theorem IH:∀(xs:List Nat),CA (f8 xs)=some (xs.map λ(i:Nat)=>(i:Int))
 | []=>rfl
 | x::xs=>by
   show(CA (f8 xs)).map (((x:Nat):Int)::·)=_;rw[IH xs];rfl
noncomputable def iN(xs:List Nat):List Int:=xs.map λ(i:Nat)=>(i:Int)
theorem TC{l:List Nat}(h:l.Pairwise (·<·)):l.Nodup:=h.imp λh z=>by omega
section
variable{Δ:Nat->Sn}
theorem Ea(xs:List Nat):(iN xs).map SV.int=f8 xs:=by unfold iN f8;rw[Vk];rfl
end
theorem OQ{ns:List Int}(nd:ns.Nodup):n8 ns=ns:=by
 have go:∀ k,k<=ns.length->n8 (ns.take k)=ns.take k:=by
  intro k
  induction k with
  | zero=>intro _;rfl
  | succ k ih=>
    intro hk;have hkl:k<ns.length:=by omega
    rw[Va,UI hkl];show n8 (ns.take k++[ns[k]])=ns.take k++[ns[k]];rw[Dr,ih (by omega)];unfold PyProof.Rows.step_dedup;rw[iG];rw[Ux];rintro⟨x,hx,hb⟩;have hb:x=ns[k]:=by simpa using hb
    obtain⟨j,hj⟩:=Vp hx
    have hjl:j<k:=by
     have:=(gM hj).1;rw[Uo]at this;omega
    rw[W7 hjl]at hj;have:=(Vy.mp nd) j k (by omega) hkl hjl;rw[(gM hj).2]at this;exact this hb
 have:=go ns.length (U9 _)
 rwa [V6]at this
theorem TD{xs:List Nat}(nd:xs.Nodup):(iN xs).Nodup:=by
 unfold iN;exact VZ.mpr (nd.imp λ{a b} h z=>h (Ui.mp z))
theorem RC{xs:List Nat}(h:xs.Pairwise (·<·)):srt (n8 (iN xs))=iN xs:=by
 have nd:=TD (TC h);rw[OQ nd];refine(Kk (List.Perm.refl _) ?_).symm;unfold iN;exact VZ.mpr (h.imp λ{a b} h=>by show(a:Int)<=b;omega)
theorem MN(xs:List Nat):CA (f8 xs)=some (iN xs):=IH xs
inductive Gd(V:Nat->List SV->Prop):Nat->Nat->SV->Prop where
 | non {k b:Nat}:Gd V k b .non
 | bl {k b:Nat} (c:Bool):Gd V k b (.bl c)
 | int {k b:Nat} {i:Int} (h:-1000000000000000000000<=i/\i<=1000000000000000000000):Gd V k b (.int i)
 | str {k b:Nat} {x:Str} (h:Sz 0 10 (.str x)) (hb:10<=b):Gd V k b (.str x)
 | tup {k b c:Nat} {xs:List SV} (h:∀ y∈xs,Gd V k b y) (hl:xs.length<=63) (hc:xs.length * (b+1)<=c):Gd V (k+1) c (.tup xs)
 | lst {k b c l:Nat} {xs:List SV} (hv:V l xs) (h:∀ y∈xs,Gd V k b y) (hl:xs.length<=63) (hc:xs.length * (b+1)<=c):Gd V (k+1) c (.loc l)
theorem Gd.see{V V':Nat->List SV->Prop}(i:∀ l xs,V l xs->V' l xs){k b:Nat}{x:SV}(h:Gd V k b x):Gd V' k b x:=by
 induction h with
 | non=>exact .non
 | bl c=>exact .bl c
 | int h=>exact .int h
 | str h hb=>exact .str h hb
 | tup _ hl hc ih=>exact .tup ih hl hc
 | lst hv _ hl hc ih=>exact .lst (i _ _ hv) ih hl hc
theorem Gd.up{V:Nat->List SV->Prop}{k b k' b':Nat}{x:SV}(h:Gd V k b x)(hk:k<=k')(hb:b<=b'):Gd V k' b' x:=by
 induction h generalizing k' b' with
 | non=>exact .non
 | bl c=>exact .bl c
 | int h=>exact .int h
 | str h h10=>exact .str h (UR h10 hb)
 | tup _ hl hc ih=>
   obtain⟨k',rfl⟩:∃ j,k'=j+1:=⟨k' - 1,by omega⟩
   exact .tup (λy hy=>ih y hy (by omega) (U9 _)) hl (UR hc hb)
 | lst hv _ hl hc ih=>
   obtain⟨k',rfl⟩:∃ j,k'=j+1:=⟨k' - 1,by omega⟩
   exact .lst hv (λy hy=>ih y hy (by omega) (U9 _)) hl (UR hc hb)
noncomputable def VS(S:Sto)(l:Nat)(xs:List SV):Prop:=S[l]?=some (.lst xs)
theorem D4{f:SV->Option PyData}{k b:Nat}:∀{xs:List SV},(∀ y∈xs,∃ d,f y=some d/\Sz k b d)->∃ ds,xs.mapM f=some ds/\SzA k b xs.length ds
 | [],_=>⟨[],rfl,.nil⟩
 | x::xs,h=>by
   obtain⟨d,hd,hz⟩:=h x (UG ..);obtain⟨ds,hs,hzs⟩:=D4 (xs:=xs) λy hy=>h y (UE _ hy);exact⟨d::ds,by rw[Vx,hd,hs];rfl,.cons hz hzs⟩
theorem OR{i:Int}(h0:-1000000000000000000000<=i)(h1:i<=1000000000000000000000):i.natAbs.log2<90:=by
 by_cases z:i.natAbs=0
 ·rw[z];decide
 ·exact(Nat.log2_lt z).mpr (VL (show i.natAbs<=1000000000000000000000 by omega) (by decide))
theorem Ty{k b:Nat}{i:Int}(h:-1000000000000000000000<=i/\i<=1000000000000000000000):Sz k b (.int i):=by
 obtain⟨d,hd,z⟩:=DN.int (k:=k) (b:=b) (H:=λ_=>none) (i:=i) (OR h.1 h.2);unfold Dat at hd;cases d with
 | int j=>cases hd;exact z
 | list _=>obtain⟨_,_,h,_⟩:=hd;cases h
 | tuple _=>obtain⟨_,_,h,_⟩:=hd;cases h
 | dict _=>exact hd.elim
 | _=>cases hd
theorem Gd.dat{S:Sto}{k b:Nat}{x:SV}(h:Gd (VS S) k b x):∀ m,k<=m->∃ d,y0 m S x=some d/\Sz k b d:=by
 induction h with
 | non=>exact λm _=>⟨.none,by cases m<;>rfl,by simp[PyData.depth],by simp[PyData.bulk],by simp[PyData.showable],by simp[PyData.leavesShort]⟩
 | bl c=>exact λm _=>⟨.bool c,by cases m<;>rfl,by simp[PyData.depth],by simp[PyData.bulk],by simp[PyData.showable],by simp[PyData.leavesShort]⟩
 | int h=>exact λm _=>⟨.int _,by cases m<;>rfl,Ty h⟩
 | str h hb=>exact λm _=>⟨.str _,by cases m<;>rfl,h.mono (VT _) hb⟩
 | tup _ _ hc ih=>
   intro m hm;obtain⟨m,rfl⟩:∃ j,m=j+1:=⟨m - 1,by omega⟩
   obtain⟨ds,hs,hz⟩:=D4 λy hy=>ih y hy m (by omega);exact⟨.tuple ds,by show(WL (y0 m S) _).map _=_;rw[hs];rfl,hz.tuple.mono (U9 _) hc⟩
 | lst hv _ _ hc ih=>
   intro m hm;obtain⟨m,rfl⟩:∃ j,m=j+1:=⟨m - 1,by omega⟩
   obtain⟨ds,hs,hz⟩:=D4 λy hy=>ih y hy m (by omega);have hv:S[_]?=some (SO.lst _):=hv;refine⟨.list ds,?_,hz.list.mono (U9 _) hc⟩;show(match S[_]? with | some (SO.lst xs)=>(xs.mapM (y0 m S)).map PyData.list | _=>none)=_;rw[hv];show(WL (y0 m S) _).map _=_;rw[hs];rfl
theorem Gd.kind{S:Sto}{k b:Nat}{x:SV}(h:Gd (VS S) k b x):(∃ t,tyS x S=some t/\t ≠ .list/\t ≠ .tuple/\∀ xs,seqS x S≠some xs)\/(∃ xs,x = .tup xs/\xs.length<=63/\∃ k' b',∀ y∈xs,Gd (VS S) k' b' y)\/∃ l xs,x = .loc l/\S[l]?=some (.lst xs)/\xs.length<=63/\∃ k' b',∀ y∈xs,Gd (VS S) k' b' y:=by
 cases h with
 | non=>exact .inl ⟨_,rfl,nofun,nofun,nofun⟩
 | bl c=>exact .inl ⟨_,rfl,nofun,nofun,nofun⟩
 | int h=>exact .inl ⟨_,rfl,nofun,nofun,nofun⟩
 | str h hb'=>exact .inl ⟨_,rfl,nofun,nofun,nofun⟩
 | tup h hl hc=>exact .inr (.inl ⟨_,rfl,hl,_,_,h⟩)
 | lst hv h hl hc=>exact .inr (.inr ⟨_,_,rfl,hv,hl,_,_,h⟩)
noncomputable def isI:SV->Bool
 | .int _=>true
 | _=>false
section
variable{Δ:Nat->Sn}
noncomputable def CF(s:Sn):Prop:=∀{x:SV} {S:Sto} {k b:Nat} {Q:QE},Gd (VS S) k b x->Q (.bl (isI x)) S->s [x] S Q
theorem II{D:Df}(hb:D.body=EX)(hN:D.N.length=1)(hp:D.ps.length=1):CF (g0 Δ D):=by
 intro x S k b Q h q;unfold g0;rw[hb,hN];cases h with
 | non=>exact⟨hp.symm,_,rfl,_,nofun,rfl,_,rfl,ifF rfl q⟩
 | bl c=>exact⟨hp.symm,_,rfl,_,nofun,rfl,_,rfl,ifT rfl ⟨_,rfl,_,nofun,rfl,_,rfl,q⟩⟩
 | int h=>exact⟨hp.symm,_,rfl,_,nofun,rfl,_,rfl,ifT rfl ⟨_,rfl,_,nofun,rfl,_,rfl,q⟩⟩
 | str h hb'=>exact⟨hp.symm,_,rfl,_,nofun,rfl,_,rfl,ifF rfl q⟩
 | tup h hl hc=>exact⟨hp.symm,_,rfl,_,nofun,rfl,_,rfl,ifF rfl q⟩
 | lst hv h hl hc=>exact⟨hp.symm,_,rfl,_,nofun,BO hv,_,rfl,ifF rfl q⟩
theorem AM(f:Nat->Bool):∀ n:Nat,blS ((U7 n).map λi => .bl (f i))=some ((U7 n).map f):=by
 have go:∀ l:List Nat,blS (l.map λi => .bl (f i))=some (l.map f):=λl=>by
  induction l with
  | nil=>rfl
  | cons a l ih=>rw[UT,UT];simp[blS,ih]
 exact λn=>go _
theorem all_mapF{f:Nat->Bool}{n:Nat}:((U7 n).map f).all id=true↔∀ i,i<n->f i=true:=by
 rw[US];constructor
 ·exact λh i hi=>h _ (Um.mpr ⟨i,Ua.mpr hi,rfl⟩)
 ·rintro h x hx;obtain⟨i,hi,rfl⟩:=Um.mp hx;exact h i (Ua.mp hi)
theorem any_mapF{f:Nat->Bool}{n:Nat}:((U7 n).map f).any id=true↔∃ i,i<n/\f i=true:=by
 rw[Ux];constructor
 ·rintro⟨x,hx,z⟩;obtain⟨i,hi,rfl⟩:=Um.mp hx;exact⟨i,Ua.mp hi,z⟩
 ·rintro⟨i,hi,z⟩;exact⟨_,Um.mpr ⟨i,Ua.mpr hi,rfl⟩,z⟩
theorem y7(hΔ:∀ f,MonoN (Δ f)){e:Ex}{keep:Sto->Prop}{g:Tg}{ρ:EnvS}{Q:List SV->Sto->Prop}(f:Nat->Bool){xs:List SV}{S:Sto}(hl:xs.length<=1000)(hk:∀ S',Gw S S'->keep S')
 (hs:∀(i:Nat) (x:SV) (S':Sto),xs[i]?=some x->Gw S S'->wTg g x ρ λρ2=>(wEx Δ e).1 ρ2 S' λy S2=>y = .bl (f i)/\Gw S S2)
 (q:∀ S',Gw S S'->Q ((U7 xs.length).map λi => .bl (f i)) S'):m8 keep g (wEo Δ .no).2 (wEx Δ e).1 ρ Q xs [] S:=by
 refine i7 (j5 hΔ _).2 (c7 hΔ _).1 (λi ys S'=>Gw S S'/\ys=(U7 i).map λi => .bl (f i)) ⟨Gw.refl S,rfl⟩ (λ_ _ _ h=>hk _ h.1) ?_ ?_
 ·rintro i x ys S' hx ⟨G,rfl⟩;have hi:=(gM hx).1;refine p9 g (λρ2 h=>?_) (hs i x S' hx G);refine(c7 hΔ e).1 _ _ _ _ (λy S2 h=>⟨by rw[U4,Uy];show _<100000;omega,h.2,?_⟩) h;rw[h.1,VG,UQ];rfl
 ·rintro ys S' ⟨G,rfl⟩;exact q S' G
theorem Gd.grow{S S':Sto}{k b:Nat}{x:SV}(h:Gd (VS S) k b x)(G:Gw S S'):Gd (VS S') k b x:=h.see λl xs e=>G.keep l _ e
noncomputable def TF:List Stm:=[(.ret (.bi .isi (.cons (.var 0) (.cons (.tup (.cons (.tyc .list) (.cons (.tyc .tuple) .nil))) .nil))))]
noncomputable def isL:SV->Bool
 | .tup _=>true
 | .loc _=>true
 | _=>false
noncomputable def OS(s:Sn):Prop:=∀{x:SV} {S:Sto} {k b:Nat} {Q:QE},Gd (VS S) k b x->Q (.bl (isL x)) S->s [x] S Q
theorem OT{D:Df}(hb:D.body=TF)(hN:D.N.length=1)(hp:D.ps.length=1):OS (g0 Δ D):=by
 intro x S k b Q h q;unfold g0;rw[hb,hN];have b2:2<=big:=by decide
 cases h with
 | non=>exact⟨hp.symm,_,rfl,b2,_,[.list,.tuple],by decide,rfl,rfl,q⟩
 | bl c=>exact⟨hp.symm,_,rfl,b2,_,[.list,.tuple],by decide,rfl,rfl,q⟩
 | int h=>exact⟨hp.symm,_,rfl,b2,_,[.list,.tuple],by decide,rfl,rfl,q⟩
 | str h hb'=>exact⟨hp.symm,_,rfl,b2,_,[.list,.tuple],by decide,rfl,rfl,q⟩
 | tup h hl hc=>exact⟨hp.symm,_,rfl,b2,_,[.list,.tuple],by decide,rfl,rfl,q⟩
 | lst hv h hl hc=>exact⟨hp.symm,_,rfl,b2,_,[.list,.tuple],by decide,BO hv,rfl,q⟩
noncomputable def bPr:List Stm:=[(.ret (.and (.bi .isi (.cons (.var 0) (.cons (.tyc .tuple) .nil))) (.cmp .Eq (.bi .len (.cons (.var 0) .nil)) (.c (.int 2)))))]
noncomputable def isP:SV->Bool
 | .tup [_,_]=>true
 | _=>false
noncomputable def PrG(s:Sn):Prop:=∀{x:SV} {S:Sto} {k b:Nat} {Q:QE},Gd (VS S) k b x->Q (.bl (isP x)) S->s [x] S Q
theorem Eb{xs:List SV}:decide ((xs.length:Int)=2)=isP (.tup xs):=by
 match xs with
 | []=>rfl
 | [_]=>rfl
 | [_,_]=>rfl
 | _::_::_::xs=>exact decide_eq_false (by simp only[Uq];omega)
theorem RD{D:Df}(hb:D.body=bPr)(hN:D.N.length=1)(hp:D.ps.length=1):PrG (g0 Δ D):=by
 intro x S k b Q h q;unfold g0;rw[hb,hN];cases h with
 | non=>exact⟨hp.symm,_,rfl,_,nofun,rfl,_,rfl,ifF rfl q⟩
 | bl c=>exact⟨hp.symm,_,rfl,_,nofun,rfl,_,rfl,ifF rfl q⟩
 | int h=>exact⟨hp.symm,_,rfl,_,nofun,rfl,_,rfl,ifF rfl q⟩
 | str h hb'=>exact⟨hp.symm,_,rfl,_,nofun,rfl,_,rfl,ifF rfl q⟩
 | @tup k b c xs h hl hc=>
   refine⟨hp.symm,_,rfl,_,nofun,rfl,_,rfl,ifT rfl ⟨_,rfl,_,rfl,?_⟩⟩;have:∀ b,b=isP (.tup xs)->Q (.bl b) S:=by rintro _ rfl;exact q
   exact this _ Eb
 | lst hv h hl hc=>exact⟨hp.symm,_,rfl,_,nofun,BO hv,_,rfl,ifF rfl q⟩
end
structure SeqV(S:Sto)(x:SV)(xs:List SV):Prop where
 seq:∀ S',Gw S S'->seqS x S'=some xs
 keep:∀ S1 S',Gw S S1->Gw S S'->keepS x S1 S'
 len:xs.length<=63
 gd:∃ k b,∀ y∈xs,Gd (VS S) k b y
 ls:isL x=true
theorem Gd.split{S:Sto}{k b:Nat}{x:SV}(h:Gd (VS S) k b x):(isL x=false/\∀ xs,seqS x S≠some xs)\/∃ xs,SeqV S x xs:=by
 cases h with
 | non=>exact .inl ⟨rfl,nofun⟩
 | bl c=>exact .inl ⟨rfl,nofun⟩
 | int h=>exact .inl ⟨rfl,nofun⟩
 | str h hb'=>exact .inl ⟨rfl,nofun⟩
 | tup h hl hc=>exact .inr ⟨_,λ_ _=>rfl,λ_ _ _ _=>trivial,hl,⟨_,_,h⟩,rfl⟩
 | lst hv h hl hc=>exact .inr ⟨_,λS' G=>e7 (G.keep _ _ hv),λS1 S' G1 G=>by
    show S'[_]?=S1[_]?;rw[G.keep _ _ hv,G1.keep _ _ hv],hl,⟨_,_,h⟩,rfl⟩
noncomputable def toI:SV->Int
 | .int i=>i
 | _=>0
theorem ints_of:∀{xs:List SV},(∀ i,i<xs.length->isI (xs.getD i .non)=true)->xs=(xs.map toI).map SV.int
 | [],_=>rfl
 | x::xs,h=>by
   have h0:=h 0 (XM _);have e:=ints_of (xs:=xs) λi hi=>h (i+1) (WM hi);rw[UT,UT,<-e];cases x with
   | int i=>rfl
   | _=>cases h0
theorem MO(is:List Int)(i:Nat)(h:i<(is.map SV.int).length):isI ((is.map SV.int).getD i .non)=true:=by
 rw[UU,UI h,WB,List.getElem_map];rfl
theorem y8:∀{a b:List Int},a.map SV.int=b.map SV.int->a=b
 | [],[],_=>rfl
 | x::xs,y::ys,h=>by
   rw[UT,UT]at h;have h1:=(Wd.inj h).1;cases h1;rw[y8 (Wd.inj h).2]
 | [],_::_,h=>by cases h
 | _::_,[],h=>by cases h
theorem CP:∀(is:List Int),(∀ i,i+1<is.length->is.getD i 0<is.getD (i+1) 0)↔is.Pairwise (·<·)
 | []=>⟨λ_ => .nil,λ_ i h=>absurd h (VA _)⟩
 | [x]=>⟨λ_=>List.pairwise_singleton ..,λ_ i h=>absurd h (by simp)⟩
 | x::y::l=>by
   rw[VM,<-CP (y::l)];constructor
   ·intro h;have t:∀ i,i+1<(y::l).length->(y::l).getD i 0<(y::l).getD (i+1) 0:=λi hi=>h (i+1) (WM hi);refine⟨λz hz=>?_,t⟩;have h0:x<y:=h 0 (by simp);rcases UH.mp hz with rfl | hz
    ·exact h0
    ·exact Int.lt_trans h0 ((VM.mp ((CP (y::l)).mp t)).1 z hz)
   ·rintro⟨h1,h2⟩ i hi;cases i with
    | zero=>exact h1 y (UG ..)
    | succ i=>exact h2 i (Nat.lt_of_succ_lt_succ hi)
section
variable{Δ:Nat->Sn}
noncomputable def rg1(kl kn:Nat):Stm:=(.iff (.or (.not (.call kl (.cons (.var 0) .nil))) (.not (.bi .all (.cons (.comp ["item"] [] [] (.nm 0) (.seq (.var 0)) .no (.call kn (.cons (.var 0) .nil))) .nil)))) [(.ret (.c (.bl false)))] [])
noncomputable def rg2:Stm:=(.ret (.bi .all (.cons (.comp ["at"] ["thing"] [0] (.nm 0) (.rng1 (.op .Sub (.bi .len (.cons (.var 0) .nil)) (.c (.int 1)))) .no (.cmp .Lt (.ix (.var 1) (.var 0)) (.ix (.var 1) (.op .Add (.var 0) (.c (.int 1)))))) .nil)))
noncomputable def MP(kl kn:Nat):List Stm:=[rg1 kl kn,rg2]
noncomputable def RE(s:Sn):Prop:=∀{x:SV} {S:Sto} {k b:Nat} {Q:QE},Gd (VS S) k b x->(∀(r:Bool) (S':Sto),Gw S S'->(r=true↔∃ is:List Int,seqS x S=some (is.map SV.int)/\is.Pairwise (·<·))->Q (.bl r) S')->s [x] S Q
theorem OU(hΔ:∀ f,MonoN (Δ f)){kl kn:Nat}(hl:OS (Δ kl))(hn:CF (Δ kn)){D:Df}(hb:D.body=MP kl kn)(hN:D.N.length=1)(hp:D.ps.length=1):RE (g0 Δ D):=by
 intro x S k b Q h q;unfold g0;rw[hb,hN];refine⟨hp.symm,_,rfl,hl h ?_⟩;rcases h.split with⟨e,no⟩ | ⟨xs,V⟩
 ·rw[e];exact⟨_,rfl,ifT rfl (q false S (Gw.refl S) ⟨nofun,λ⟨is,z,_⟩=>absurd z (no _)⟩)⟩
 rw[V.ls];have s0:=V.seq S (Gw.refl S);have hxl:=V.len;obtain⟨k',b',hg⟩:=V.gd;refine⟨_,rfl,ifF rfl ⟨_,rfl,_,s0,?_⟩⟩;refine y7 hΔ (λi=>isI (xs.getD i .non)) (by omega) (λS' G=>V.keep S S' (Gw.refl S) G) ?_ ?_
 ·intro i y S' hy G;refine⟨_,rfl,hn ((hg y (UC hy)).grow G) ⟨?_,G⟩⟩;rw[UU,hy];rfl
 intro S1 G1;have G2:=G1.push (o:=SO.lst ((U7 xs.length).map λi => .bl (isI (xs.getD i .non))));refine⟨_,_,nofun,e7 c9,AM _ _,_,rfl,?_⟩;generalize S1++[SO.lst ((U7 xs.length).map λi => .bl (isI (xs.getD i .non)))]=S2 at *;by_cases hA:((U7 xs.length).map λi=>isI (xs.getD i .non)).all id=true
 ·rw[hA];refine ifF rfl (f6 ?_);have ex:=ints_of (all_mapF.mp hA);generalize xs.map toI=is at *;subst ex;rw[U4]at hxl;have s2:=V.seq S2 G2;refine⟨_,rfl,_,s2,_,rfl,⟨by rw[U4];omega,by rw[U4];omega⟩,?_⟩;have hr:(Al 0 (((is.map SV.int).length:Int) - 1)).length=is.length - 1:=by rw[l6,U4];omega
  refine y7 hΔ (λi=>decide (is.getD i 0<is.getD (i+1) 0)) (by rw[hr];omega) (λ_ _=>trivial) ?_ ?_
  ·intro i y S' hy G;have hi:i<is.length - 1:=by have:=(gM hy).1;rwa [hr]at this
   obtain⟨rfl,_⟩:=r6 hy;rw[Ws];have e1:∀ j,j<is.length->atI (is.map SV.int) (j:Int)=some (.int (is.getD j 0)):=λj hj=>j0 (by rw[UJ,UU,UI hj];rfl);have s3:=V.seq S' (G2.trans G);refine⟨_,rfl,_,rfl,_,_,s3,e1 i (by omega),_,rfl,_,rfl,_,_,s3,e1 (i+1) (by omega),rfl,G⟩
  ·intro S3 G3;refine⟨_,_,nofun,e7 c9,AM _ _,?_⟩;refine q _ _ (G2.trans G3).push ?_;rw[all_mapF,hr];constructor
   ·exact λz=>⟨is,s0,(CP is).mp λi hi=>of_decide_eq_true (z i (by omega))⟩
   ·rintro⟨js,z,u⟩ i hi;rw[s0]at z;rw[y8 (oj z)];exact decide_eq_true ((CP js).mpr u i (by rw[<-y8 (oj z)];omega))
 ·have hA:((U7 xs.length).map λi=>isI (xs.getD i .non)).all id=false:=by simpa using hA
  rw[hA];refine ifT rfl (q false S2 G2 ⟨nofun,λ⟨is,z,_⟩=>?_⟩);rw[s0]at z;have z:=oj z;subst z;rw[all_mapF.mpr (MO is)]at hA;cases hA
end
theorem Gd.seqEq{S S':Sto}{k b:Nat}{x:SV}(h:Gd (VS S) k b x)(G:Gw S S'):seqS x S'=seqS x S:=by
 cases h with
 | lst hv h hl hc=>rw[e7 hv,e7 (G.keep _ _ hv)]
 | _=>rfl
theorem Bz(A:List Nat):f8 A=(iN A).map SV.int:=(Ea A).symm
theorem iN_up{A:List Nat}:(iN A).Pairwise (·<·)↔A.Pairwise (·<·):=by
 unfold iN;rw[VZ];exact⟨λh=>h.imp λ{a b} h=>by have h:(a:Int)<b:=h;omega,λh=>h.imp λ{a b} h=>by show(a:Int)<b;omega⟩
theorem D5(ns:List Int):(n8 ns).Nodup:=by
 have go:∀(l:List Int) (n:Nat),(n8 (l.take n)).Nodup:=λl n=>by
  induction n with
  | zero=>exact Vv
  | succ n ih=>
    rw[Va];cases h:l[n]? with
    | none=>rw[Option.toList_none,V8];exact ih
    | some i=>
      rw[VW,Dr];unfold PyProof.Rows.step_dedup;split
      ·exact ih
      ·rename_i z;refine VY.mpr ⟨ih,by simp,λa ha b hb y=>?_⟩;rw[UA.mp hb]at y;subst y;exact z (by simpa using ha)
 have:=go ns ns.length
 rwa [V6]at this
theorem Fo{A B:List Nat}(h:f8 A=f8 B):A=B:=by
 rw[Bz,Bz]at h;have h:=y8 h;unfold iN at h
 induction A generalizing B with
 | nil=>cases B with
   | nil=>rfl
   | cons b B=>cases h
 | cons a A ih=>cases B with
   | nil=>cases h
   | cons b B=>
     rw[UT,UT]at h;obtain⟨h1,h2⟩:=Wd.inj h;rw[Ui.mp h1,ih (by unfold iN;rw[h2]) h2]
section
variable{Δ:Nat->Sn}
noncomputable def PU:List Stm:=[(.ret (.or (.cmp .In (.ix (.ix (.ix (.var 0) (.c (.int 1))) (.var 1)) (.c (.int 0))) (.ix (.ix (.var 0) (.c (.int 1))) (.var 2))) (.cmp .In (.ix (.ix (.ix (.var 0) (.c (.int 1))) (.var 1)) (.c (.int 1))) (.ix (.ix (.var 0) (.c (.int 1))) (.var 2)))))]
noncomputable def Shr(es:EE)(t u:Nat):Prop:=∃ p,(p=(l7 es t).1\/p=(l7 es t).2)/\(p=(l7 es u).1\/p=(l7 es u).2)
end
theorem Jp(ns:List Int):(ns.map SV.int).all u7=true:=by
 rw[US];intro x hx;obtain⟨i,_,rfl⟩:=Um.mp hx;rfl
theorem D6:∀{a b:List Int},BK (a.map SV.int) (b.map SV.int)=true↔a=b
 | [],[]=>⟨λ_=>rfl,λ_=>rfl⟩
 | [],_::_=>⟨nofun,nofun⟩
 | _::_,[]=>⟨nofun,nofun⟩
 | x::a,y::b=>by
   have ih:=D6 (a:=a) (b:=b)
   have e:BK ((x::a).map SV.int) ((y::b).map SV.int)=((x == y)&&BK (a.map SV.int) (b.map SV.int)):=by
    show((a.map SV.int).length+1 == (b.map SV.int).length+1&&((x == y)&&_))=((x == y)&&((a.map SV.int).length == (b.map SV.int).length&&_))
    have:((a.map SV.int).length+1 == (b.map SV.int).length+1)=((a.map SV.int).length == (b.map SV.int).length):=by
     rw[Ug,bQ,bQ];omega
    rw[this];cases(x == y)<;>cases((a.map SV.int).length == (b.map SV.int).length)<;>rfl
   rw[e,U2,ih,bQ];exact⟨λ⟨p,q⟩=>by rw[p,q],λh=>⟨(Wd.inj h).1,(Wd.inj h).2⟩⟩
theorem Fp{A:List Nat}:iN A=srt (n8 (iN A))↔A.Pairwise (·<·):=by
 constructor
 ·intro h;have h1:(iN A).Pairwise (·<=·):=by rw[h];exact Kj _
  have h2:(iN A).Nodup:=by rw[h];exact(Cb _).nodup_iff.mpr (D5 _)
  refine iN_up.mp (h1.imp₂ (λa b (x:a<=b) (y:a≠b)=>?_) h2);omega
 ·exact λh=>(RC h).symm
section
variable{Δ:Nat->Sn}
noncomputable def Fq(s:Sn):Prop:=∀{n t u:Nat} {es:EE} {S:Sto} {Q:QE},t<es.length->u<es.length->(∀ v:Bool,(v=true↔Shr es t u)->Q (.bl v) S)->s [i4 n es,.int t,.int u] S Q
theorem MQ{D:Df}(hb:D.body=PU)(hN:D.N.length=3)(hp:D.ps.length=3):Fq (g0 Δ D):=by
 intro n t u es S Q ht hu q;unfold g0;rw[hb,hN];have h1:atI (es.map pairS) (t:Int)=some (pairS (l7 es t)):=j0 (by rw[UJ,Bg ht];rfl);have h2:atI (es.map pairS) (u:Int)=some (pairS (l7 es u)):=j0 (by rw[UJ,Bg hu];rfl);refine⟨hp.symm,_,rfl,_,_,rfl,rfl,_,rfl,_,_,rfl,h1,_,.int ((l7 es t).1:Nat),rfl,rfl,_,rfl,_,_,rfl,rfl,_,rfl,_,_,rfl,h2,rfl,_,rfl,rfl,_,rfl,?_⟩;show if inS (.int (l7 es t).1) [.int (l7 es u).1,.int (l7 es u).2]=true then _ else _
 rw[B9];refine ifB (λz=>q true ⟨λ_=>?_,λ_=>rfl⟩) (λz=>?_)
 ·refine⟨(l7 es t).1,.inl rfl,?_⟩;simp only[Uh,dQ]at z;exact z.imp Eq.symm Eq.symm
 ·refine⟨_,rfl,_,_,rfl,rfl,_,rfl,_,_,rfl,h1,_,.int ((l7 es t).2:Nat),rfl,rfl,_,rfl,_,_,rfl,rfl,_,rfl,_,_,rfl,h2,rfl,_,rfl,rfl,?_⟩;show Q (.bl (inS (.int (l7 es t).2) [.int (l7 es u).1,.int (l7 es u).2])) S;rw[B9];refine q _ ⟨λz=>⟨(l7 es t).2,.inr rfl,?_⟩,?_⟩
  ·simp only[Uh,dQ]at z;exact z.imp Eq.symm Eq.symm
  ·rintro⟨p,rfl | rfl,h⟩
   ·simp only[Vq,decide_eq_false_iff_not]at z;exact absurd (h.imp Eq.symm Eq.symm) (not_or.mpr z)
   ·simp only[Uh,dQ];exact h.imp Eq.symm Eq.symm
end
noncomputable abbrev Way:=EE
noncomputable def arL(es:EE)(ws:Way)(t:Nat):List Nat:=(ws.filter λp=>@decide (Shr es p.1 t) (Classical.propDecidable _)).map (·.2)
noncomputable def AI(ws:Way):Nat:=(n8 (iN (ws.map (·.2)))).length
noncomputable def AF(es:EE)(hues:Nat)(ws:Way)(t:Nat):List Nat:=(U7 (min hues (AI ws+1))).filter λh=>decide (h∉arL es ws t)
noncomputable def opL(es:EE)(K:Nat)(ws:Way)(t:Nat):List Nat:=((U7 K).filter λh=>decide (h∉arL es ws t)).filter λh=>decide (h<=AI ws)
theorem mem_ar{es:EE}{ws:Way}{t h:Nat}:h∈arL es ws t↔∃ k,(k,h)∈ws/\Shr es k t:=by
 unfold arL;rw[Um];constructor
 ·rintro⟨⟨k,h'⟩,m,rfl⟩;obtain⟨m,z⟩:=Vh.mp m;exact⟨k,m,@of_decide_eq_true _ (Classical.propDecidable _) z⟩
 ·rintro⟨k,m,z⟩;exact⟨(k,h),Vh.mpr ⟨m,@decide_eq_true _ (Classical.propDecidable _) z⟩,rfl⟩
theorem mem_tri{es:EE}{hues:Nat}{ws:Way}{t h:Nat}:h∈AF es hues ws t↔h<hues/\h<=AI ws/\h∉arL es ws t:=by
 unfold AF;rw[Vh,Ua,dQ];exact⟨λ⟨a,b⟩=>⟨by omega,by omega,b⟩,λ⟨a,b,c⟩=>⟨by omega,c⟩⟩
theorem HD(ws:Way):AI ws<=ws.length:=by
 have h:=List.Nodup.length_le_of_subset (D5 (iN (ws.map (·.2)))) (l₂:=iN (ws.map (·.2))) λa ha=>(show a∈n8 (iN (ws.map (·.2)))↔a∈iN (ws.map (·.2)) from BZ _ _).mp ha;have e:(iN (ws.map (·.2))).length=ws.length:=by unfold iN;rw[U4,U4]
 unfold AI;omega
theorem Fr{K m M:Nat}{P:Nat->Bool}(h:∀ x,(x<K/\x<=m)↔x<M):((U7 K).filter P).filter (λx=>decide (x<=m))=(U7 M).filter P:=by
 have e:((U7 K).filter P).filter (λx=>decide (x<=m))=((U7 K).filter λx=>decide (x<=m)).filter P:=by
  rw[Wj,Wj];refine List.filter_congr λx _=>?_;rw[Bool.and_comm]
 rw[e]
 congr 1
 have key:∀ K,(U7 K).filter (λx=>decide (x<=m))=U7 (min K (m+1)):=λK=>by
  induction K with
  | zero=>simp
  | succ K ih=>
    rw[VG,Vj,ih];by_cases z:K<=m
    ·rw[show min (K+1) (m+1)=K+1 by omega,show min K (m+1)=K by omega,VG];simp[z]
    ·rw[show min (K+1) (m+1)=m+1 by omega,show min K (m+1)=m+1 by omega];simp[z]
 rw[key]
 congr 1
 have h1:=h (min K (m+1));have h2:=h M;have h3:=h (min K (m+1) - 1);have h4:=h (M - 1);omega
theorem MR{es:EE}{hues n:Nat}{ws:Way}{t:Nat}(hw:ws.length<n):opL es (min hues n) ws t=AF es hues ws t:=by
 have:=HD ws;unfold opL AF;exact Fr λx=>by omega
structure WayOk(es:EE)(hues:Nat)(ws:Way):Prop where
 lt:∀ p∈ws,p.1<es.length/\p.2<hues
 nd:(ws.map (·.1)).Nodup
 pr:∀ p∈ws,∀ q∈ws,p.1≠q.1->Shr es p.1 q.1->p.2≠q.2
theorem WayOk.nil{es:EE}{hues:Nat}:WayOk es hues []:=⟨λ_ h=>(nomatch h),Vv,λ_ h=>(nomatch h)⟩
theorem MS{es:EE}{a b:Nat}(h:Shr es a b):Shr es b a:=let ⟨p,x,y⟩:=h;⟨p,y,x⟩
theorem WayOk.snoc{es:EE}{hues:Nat}{ws:Way}{t h:Nat}(W:WayOk es hues ws)(ht:t<es.length)(hn:t∉ws.map (·.1))(hh:h∈AF es hues ws t):WayOk es hues (ws++[(t,h)]):=by
 obtain⟨h1,h2,h3⟩:=mem_tri.mp hh;refine⟨λp hp=>?_,?_,λp hp q hq ne sh=>?_⟩
 ·rcases UV.mp hp with hp | hp
  ·exact W.lt p hp
  ·rw[UA.mp hp];exact⟨ht,h1⟩
 ·rw[UQ];refine VY.mpr ⟨W.nd,by simp,λa ha b hb e=>?_⟩;rw[UA.mp hb]at e;have e:a=t:=e;exact hn (e▸ha)
 ·rcases UV.mp hp with hp | hp<;>rcases UV.mp hq with hq | hq
  ·exact W.pr p hp q hq ne sh
  ·rw[UA.mp hq]at sh ⊢;exact λe=>h3 (mem_ar.mpr ⟨p.1,by have e:p.2=h:=e;rw[<-e];exact hp,sh⟩)
  ·rw[UA.mp hp]at sh ⊢;exact λe=>h3 (mem_ar.mpr ⟨q.1,by have e:h=q.2:=e;rw[e];exact hq,MS sh⟩)
  ·rw[UA.mp hp,UA.mp hq]at ne;exact absurd rfl ne
theorem WayOk.less{es:EE}{hues:Nat}{ws:Way}{t:Nat}(W:WayOk es hues ws)(ht:t<es.length)(hn:t∉ws.map (·.1)):ws.length<es.length:=by
 have:=List.Nodup.length_le_of_subset (VP.mpr ⟨hn,W.nd⟩) (l₂:=U7 es.length) λa ha=>by
  rcases UH.mp ha with rfl | ha
  ·exact Ua.mpr ht
  ·obtain⟨p,hp,rfl⟩:=Um.mp ha;exact Ua.mpr (W.lt p hp).1
 rw[Uq,U4,Uy]at this;omega
noncomputable def VH(H:Nat->Prop)(S:Sto)(l:Nat)(xs:List SV):Prop:=¬ H l/\S[l]?=some (.lst xs)
structure HG(H:Nat->Prop)(S S':Sto):Prop where
 len:S.length<=S'.length
 keep:∀(k:Nat) (o:SO),¬ H k->S[k]?=some o->S'[k]?=some o
theorem Gw.hg{H:Nat->Prop}{S S':Sto}(G:Gw S S'):HG H S S':=⟨G.len,λk o _ h=>G.keep k o h⟩
theorem On.hg{H:Nat->Prop}{t:Nat}{S S':Sto}(ht:H t)(O:On t S S'):HG H S S':=⟨O.len,λk o n h=>O.keep k o (λe=>n (e▸ht)) h⟩
theorem Gd.hg{H:Nat->Prop}{S S':Sto}{k b:Nat}{x:SV}(h:Gd (VH H S) k b x)(G:HG H S S'):Gd (VH H S') k b x:=h.see λl xs e=>⟨e.1,G.keep l _ e.1 e.2⟩
theorem Gd.bare{H:Nat->Prop}{S:Sto}{k b:Nat}{x:SV}(h:Gd (VH H S) k b x):Gd (VS S) k b x:=h.see λl xs e=>e.2
noncomputable def p4(y:SV):Prop:=∀(V:Nat->List SV->Prop) (k b:Nat),10<=b->Gd V k b y
theorem Jq{x:Str}(h:Sz 0 10 (.str x)):p4 (.str x):=λ_ _ _ hb => .str h hb
noncomputable def Nw(H:Nat->Prop)(S:Sto):Prop:=∀ k,H k->k<S.length
theorem Nw.on{H:Nat->Prop}{S S':Sto}(h:Nw H S)(l:S.length<=S'.length):Nw H S':=λk hk=>UP (h k hk) l
theorem Nw.new{H:Nat->Prop}{S:Sto}(h:Nw H S):¬ H S.length:=λz=>VI _ (h _ z)
section
variable{Δ:Nat->Sn}{H:Nat->Prop}{B:Sto->Prop}{ρ:EnvS}
noncomputable def GE(Δ:Nat->Sn)(H:Nat->Prop)(B:Sto->Prop)(ρ:EnvS)(k b:Nat)(e:Ex):Prop:=∀(S:Sto) (Q:QE),B S->Nw H S->(∀(y:SV) (S':Sto),Gw S S'->Gd (VH H S') k b y->Q y S')->(wEx Δ e).1 ρ S Q
noncomputable def FE(Δ:Nat->Sn)(ρ:EnvS)(e:Ex):Prop:=∀(S:Sto) (Q:QE),(∀ y:SV,p4 y->Q y S)->(wEx Δ e).1 ρ S Q
noncomputable def GEs(Δ:Nat->Sn)(H:Nat->Prop)(B:Sto->Prop)(ρ:EnvS)(k b n:Nat)(es:Exs):Prop:=∀(S:Sto) (Q:List SV->Sto->Prop),B S->Nw H S->(∀(ys:List SV) (S':Sto),Gw S S'->ys.length=n->(∀ y∈ys,Gd (VH H S') k b y)->Q ys S')->EI Δ es ρ S Q
theorem GEs.nil{k b:Nat}:GEs Δ H B ρ k b 0 .nil:=λS Q _ _ q=>q [] S (Gw.refl S) rfl λ_ h=>nomatch h
theorem GEs.cons{k b n:Nat}{e:Ex}{es:Exs}(hB:∀ S S',B S->Gw S S'->B S')(h:GE Δ H B ρ k b e)(hs:GEs Δ H B ρ k b n es):GEs Δ H B ρ k b (n+1) (.cons e es):=λS Q b0 nw q=>
 h S _ b0 nw λy S1 G1 g1=>hs S1 _ (hB _ _ b0 G1) (nw.on G1.len) λys S2 G2 hl hg=>q (y::ys) S2 (G1.trans G2) (by rw[Uq,hl]) λz hz=>by
  rcases UH.mp hz with rfl | hz
  ·exact g1.hg G2.hg
  ·exact hg z hz
theorem FE.ge{k b:Nat}{e:Ex}(h:FE Δ ρ e)(hb:10<=b):GE Δ H B ρ k b e:=λS Q _ _ q=>h S Q λy f=>q y S (Gw.refl S) (f _ _ _ hb)
theorem GE.lst{k b n c:Nat}{es:Exs}(h:GEs Δ H B ρ k b n es)(hn:n<=63)(hc:n * (b+1)<=c):GE Δ H B ρ (k+1) c (.lst es):=λS Q b0 nw q=>
 h S _ b0 nw λys S' G hl hg=>⟨by rw[hl];show n<=100000;omega,q _ _ G.push (.lst ⟨(nw.on G.len).new,c9⟩ (λy hy=>(hg y hy).hg (Gw.refl S').push.hg) (by omega) (by rw[hl];exact hc))⟩
theorem GE.tup{k b n c:Nat}{es:Exs}(h:GEs Δ H B ρ k b n es)(hn:n<=63)(hc:n * (b+1)<=c):GE Δ H B ρ (k+1) c (.tup es):=λS Q b0 nw q=>
 h S _ b0 nw λys S' G hl hg=>⟨by rw[hl];show n<=100000;omega,q _ _ G (.tup hg (by omega) (by rw[hl];exact hc))⟩
end
section
variable{Δ:Nat->Sn}
theorem MU{ρ:EnvS}{v:SV}(h:p4 v):FE Δ ρ (.c v):=λS Q q=>q v h
theorem RF{x:Str}(h:x.cps.size<=10)(hc:(x.cps.toList.all λc=>decide (c<16 ^ 8))=true):Sz 0 10 (.str x):=by
 obtain⟨d,hd,z⟩:=DN.str (k:=0) (b:=10) (H:=λ_=>none) h hc;unfold Dat at hd;cases d with
 | str j=>cases hd;exact z
 | list _=>obtain⟨_,_,h,_⟩:=hd;cases h
 | tuple _=>obtain⟨_,_,h,_⟩:=hd;cases h
 | dict _=>exact hd.elim
 | _=>cases hd
theorem Gw.on{t:Nat}{S S':Sto}(G:Gw S S'):On t S S':=⟨G.len,λk o _ h=>G.keep k o h⟩
theorem Gw.tape{t:Nat}{S S':Sto}(G:Gw S S')(T:TapeS S t):TapeS S' t:=let ⟨a,b,h,c⟩:=T.ex;⟨a,b,G.keep _ _ h,c⟩
end
theorem IJ(es:EE)(ws:Way)(p:Nat×Nat)(t:Nat)(v:Bool)(h:v=true↔Shr es p.1 t):arL es (ws++[p]) t=arL es ws t++if v=true then [p.2] else []:=by
 unfold arL;rw[Vj,UQ]
 congr 1
 cases v with
 | true=>have z:=h.mp rfl;simp[z]
 | false=>have z:¬ Shr es p.1 t:=λy=>absurd (h.mpr y) (by decide);simp[z]
theorem HE(es:EE)(ws:Way)(t:Nat):(arL es ws t).length<=ws.length:=by
 unfold arL;rw[U4];exact V0 ..
theorem Ec{ws:Way}{i:Nat}{x:SV}(h:(ws.map pairS)[i]?=some x):∃ p,ws[i]?=some p/\x=pairS p:=by
 rw[UJ]at h;obtain⟨p,a,b⟩:=Vl.mp h;exact⟨p,a,b.symm⟩
theorem D7{P:Nat->Bool}(xs:List Nat)(i h:Nat)(e:xs[i]?=some h):(xs.take (i+1)).filter P=(xs.take i).filter P++if P h=true then [h] else []:=by
 rw[Va,e,VW,Vj]
 congr 1
 cases z:P h with
 | true=>rw[WD z];rfl
 | false=>rw[WC (by rw[z];decide)];rfl
section
variable{Δ:Nat->Sn}
noncomputable def IK(km:Nat):List Stm:=[(.ret (.comp ["_law_k","_law_hue"] ["_law_web_here","_law_tie"] [0,2] (.tup (.cons (.nm 0) (.cons (.nm 1) .nil))) (.seq (.var 1)) (.yes (.call km (.cons (.var 2) (.cons (.var 0) (.cons (.var 3) .nil))))) (.var 1)))]
noncomputable def D8(s:Sn):Prop:=∀{n w t:Nat} {es:EE} {ws:Way} {S:Sto} {Q:QE},S[w]?=some (.lst (ws.map pairS))->ws.length<=900->(∀ p∈ws,p.1<es.length)->t<es.length->Q (.loc S.length) (S++[.lst (f8 (arL es ws t))])->s [i4 n es,.loc w,.int (t:Nat)] S Q
theorem Jr(hΔ:∀ f,MonoN (Δ f)){km:Nat}(hm:Fq (Δ km)){D:Df}(hb:D.body=IK km)(hN:D.N.length=3)(hp:D.ps.length=3):D8 (g0 Δ D):=by
 intro n w t es ws S Q hw hl tl ht q;unfold g0;rw[hb,hN];refine⟨hp.symm,_,rfl,_,e7 hw,?_⟩;refine i7 (j5 hΔ _).2 (c7 hΔ _).1 (λi ys S'=>S'=S/\ys=f8 (arL es (ws.take i) t)) ⟨rfl,rfl⟩ (λ_ _ _ h=>by rw[h.1];rfl) ?_ ?_
 ·rintro i x ys S' hx ⟨rfl,rfl⟩;obtain⟨p,hp',rfl⟩:=Ec hx;have hi:=(gM hp').1;refine⟨_,rfl,_,rfl,_,rfl,hm (tl p (UC hp')) ht λv e=>⟨_,rfl,?_⟩⟩;have al:=HE es (ws.take i) t;rw[Uo]at al
  have e2:arL es (ws.take (i+1)) t=arL es (ws.take i) t++if v=true then [p.2] else []:=by
   rw[Va,hp',VW];exact IJ es _ p t v e
  cases v with
  | true=>exact ifT rfl ⟨_,rfl,by rw[g7];show _<100000;omega,rfl,by rw[e2,iP rfl,Aj];rfl⟩
  | false=>exact ifF rfl ⟨rfl,by rw[e2,iG (by decide),V8]⟩
 ·rintro ys S' ⟨rfl,rfl⟩;rw[U4,V6];exact q
noncomputable def MV(ka:Nat):List Stm:=[(.asg (.nm 4) (.lenset (.comp ["_law_k","_law_hue"] [] [] (.tup (.cons (.nm 0) (.cons (.nm 1) .nil))) (.seq (.var 2)) .no (.var 1)))),(.ret (.comp ["_law_hue"] ["_law_web_here","_law_way","_law_tie"] [0,2,3] (.nm 0) (.rng1 (.bi .min (.cons (.var 1) (.cons (.op .Add (.var 4) (.c (.int 1))) .nil)))) (.yes (.cmp .NotIn (.var 0) (.call ka (.cons (.var 1) (.cons (.var 2) (.cons (.var 3) .nil)))))) (.var 0)))]
noncomputable def Ed(s:Sn):Prop:=∀{n w t hues:Nat} {es:EE} {ws:Way} {S:Sto} {Q:QE},S[w]?=some (.lst (ws.map pairS))->ws.length<=900->(∀ p∈ws,p.1<es.length)->t<es.length->(∀(l:Nat) (S':Sto),Gw S S'->S.length<=l->S'[l]?=some (.lst (f8 (AF es hues ws t)))->Q (.loc l) S')->s [i4 n es,.int (hues:Nat),.loc w,.int (t:Nat)] S Q
theorem D9(hΔ:∀ f,MonoN (Δ f)){ws:Way}{S:Sto}{keep:Sto->Prop}{j:Nat}{f:Nat×Nat->Nat}{ρ:EnvS}{Q:List SV->Sto->Prop}(hl:ws.length<=900)(hk:keep S)(he:∀ p:Nat×Nat,wTg (.tup (.cons (.nm 0) (.cons (.nm 1) .nil))) (pairS p) ρ λρ2=>ρ2[j]?=some (some (.int (f p))))(q:Q (f8 (ws.map f)) S):
 m8 keep (.tup (.cons (.nm 0) (.cons (.nm 1) .nil))) (wEo Δ .no).2 (wEx Δ (.var j)).1 ρ Q (ws.map pairS) [] S:=by
 refine i7 (j5 hΔ _).2 (c7 hΔ _).1 (λi ys S'=>S'=S/\ys=f8 ((ws.take i).map f)) ⟨rfl,rfl⟩ (λ_ _ _ h=>by rw[h.1];exact hk) ?_ ?_
 ·rintro i x ys S' hx ⟨rfl,rfl⟩;obtain⟨p,hp',rfl⟩:=Ec hx;have hi:=(gM hp').1;refine p9 _ (λρ2 h=>?_) (he p);refine⟨_,h,by rw[g7,U4,Uo];show _<100000;omega,rfl,?_⟩;rw[Va,hp',VW,UQ,Aj];rfl
 ·rintro ys S' ⟨rfl,rfl⟩;rw[U4,V6];exact q
theorem MW(hΔ:∀ f,MonoN (Δ f)){ka:Nat}(ha:D8 (Δ ka)){D:Df}(hb:D.body=MV ka)(hN:D.N.length=5)(hp:D.ps.length=4):Ed (g0 Δ D):=by
 intro n w t hues es ws S Q hw hl tl ht q;unfold g0;rw[hb,hN];refine⟨hp.symm,_,rfl,_,e7 hw,?_⟩;refine D9 hΔ (f:=(·.2)) hl rfl (λp=>rfl) ?_;have G1:Gw S (S++[SO.lst (f8 (ws.map (·.2)))]):=(Gw.refl S).push;have e1:(iN (ws.map (·.2))).length<=900:=by unfold iN;rw[U4,U4];exact hl
 refine⟨_,_,nofun,e7 c9,MN _,e1,?_⟩;have hw1:=G1.keep _ _ hw;show wSs Δ _ _ [some (i4 n es),some (.int (hues:Nat)),some (.loc w),some (.int (t:Nat)),some (.int ((AI ws:Nat):Int))] (S++[SO.lst (f8 (ws.map (·.2)))]);generalize S++[SO.lst (f8 (ws.map (·.2)))]=S1 at *;have ml:=HD ws;have em:(if ((AI ws:Nat):Int)+1<(hues:Nat) then ((AI ws:Nat):Int)+1 else (hues:Nat))=((min hues (AI ws+1):Nat):Int):=by split<;>omega
 refine⟨_,rfl,_,rfl,_,congrArg SV.int em,⟨by omega,by omega⟩,?_⟩;rw[IG];refine i7 (j5 hΔ _).2 (c7 hΔ _).1 (λi ys S'=>Gw S1 S'/\ys=f8 (((U7 (min hues (AI ws+1))).take i).filter λh=>decide (h∉arL es ws t))) ⟨Gw.refl _,rfl⟩ (λ_ _ _ _=>trivial) ?_ ?_
 ·rintro i x ys S' hx ⟨G,rfl⟩;obtain⟨h,hh,rfl⟩:=Bh hx;have hi:=(gM hh).1;rw[Uy]at hi;refine⟨_,rfl,_,rfl,_,rfl,_,rfl,ha (G.keep _ _ hw1) hl tl ht ?_⟩;show match AJ (.loc S'.length) (S'++[SO.lst (f8 (arL es ws t))]) with | some ms=>_ | none=>_
  rw[Bf c9];refine⟨rfl,_,e7 c9,AA _,_,rfl,?_⟩;show if (!inS (.int h) (f8 (arL es ws t)))=true then _ else _
  rw[D3];have e3:=D7 (P:=λh=>decide (h∉arL es ws t)) (U7 (min hues (AI ws+1))) i h hh
  have fl:(((U7 (min hues (AI ws+1))).take i).filter λh=>decide (h∉arL es ws t)).length<=i:=by
   refine UR (V0 ..) ?_;rw[Uo];omega
  by_cases z:h∈arL es ws t
  ·exact ifF (by rw[decide_eq_true z];rfl) ⟨G.push,by rw[e3,iG (by simpa using z),V8]⟩
  ·refine ifT (by rw[decide_eq_false z];rfl) ⟨_,rfl,by rw[g7];show _<100000;omega,G.push,by rw[e3,iP (by simpa using z),Aj];rfl⟩
 ·rintro ys S' ⟨G,rfl⟩;have e4:(f8 (U7 (min hues (AI ws+1)))).length=(U7 (min hues (AI ws+1))).length:=g7;rw[e4,V6];exact q _ _ (G1.trans G).push (G1.trans G).len c9
noncomputable def m9(ws:Way):List (Int×SV):=ws.map λp=>((p.1:Int),SV.int (p.2:Nat))
noncomputable def oh1:Stm:=(.asg (.tup (.cons (.nm 5) (.cons (.nm 6) .nil))) (.ix (.ix (.var 0) (.c (.int 1))) (.var 4)))
noncomputable def oh2:Stm:=(.asg (.nm 7) (.comp ["near","hue"] ["one","web","other"] [5,0,6] (.tup (.cons (.nm 0) (.cons (.nm 1) .nil))) (.itm (.var 3)) (.yes (.or (.cmp .In (.var 2) (.ix (.ix (.var 3) (.c (.int 1))) (.var 0))) (.cmp .In (.var 4) (.ix (.ix (.var 3) (.c (.int 1))) (.var 0))))) (.var 1)))
noncomputable def oh3:Stm:=(.asg (.nm 8) (.comp ["hue"] ["taken"] [7] (.nm 0) (.seq (.ix (.var 1) (.var 4))) (.yes (.cmp .NotIn (.var 0) (.var 1))) (.var 0)))
noncomputable def oh4:Stm:=(.iff (.not (.var 2)) [(.ret (.var 8))] [])
noncomputable def oh5:Stm:=(.asg (.nm 9) (.lenset (.dvals (.var 3))))
noncomputable def oh6:Stm:=(.ret (.comp ["hue"] ["known"] [9] (.nm 0) (.seq (.var 8)) (.yes (.cmp .LtE (.var 0) (.var 1))) (.var 0)))
noncomputable def PV:List Stm:=[oh1,oh2,oh3,oh4,oh5,oh6]
noncomputable def HF(s:Sn):Prop:=∀{n j m k t K:Nat} {es:EE} {ws:Way} {S:Sto} {Q:QE},S[k]?=some (.dct (m9 ws))->S[j]?=some (.lst (UO es.length (.loc m)))->S[m]?=some (.lst (f8 (U7 K)))->ws.length<=900->K<=900->(∀ p∈ws,p.1<es.length)->t<es.length->(∀(l:Nat) (S':Sto),On k S S'->Br (.loc k) S'=some (m9 ws)->l≠k->S'[l]?=some (.lst (f8 (opL es K ws t)))->Q (.loc l) S')->s [i4 n es,.loc j,.bl true,.loc k,.int (t:Nat)] S Q
theorem OV(hΔ:∀ f,MonoN (Δ f)){D:Df}(hb:D.body=PV)(hN:D.N.length=10)(hp:D.ps.length=5):HF (g0 Δ D):=by
 intro n j m k t K es ws S Q hk hj hm hl hK tl ht q;unfold g0;rw[hb,hN];have he:atI (es.map pairS) (t:Int)=some (pairS (l7 es t)):=j0 (by rw[UJ,Bg ht];rfl);have jk:j≠k:=λe=>by rw[e,hk]at hj;cases hj
 have mk:m≠k:=λe=>by rw[e,hk]at hm;cases hm
 have kl:k<S.length:=(gM hk).1;refine⟨hp.symm,_,rfl,_,_,rfl,rfl,_,rfl,_,_,rfl,he,?_⟩;refine⟨_,rfl,k,m9 ws,rfl,hk,λo ks=>?_⟩;have O1:On k S (S.set k (.dcf o ks (m9 ws))):=⟨by rw[Us];exact U9 _,λi u ne h=>by rw[VC (Ne.symm ne)];exact h⟩
 have hk1:(S.set k (.dcf o ks (m9 ws)))[k]?=some (.dcf o ks (m9 ws)):=UZ kl;generalize S.set k (.dcf o ks (m9 ws))=S1 at *;have wl:(m9 ws).map (λp=>SV.tup [.int p.1,p.2])=ws.map pairS:=by unfold m9;rw[Vk];rfl
 rw[wl];refine i7 (j5 hΔ _).2 (c7 hΔ _).1 (λi ys S'=>S'=S1/\ys=f8 (arL es (ws.take i) t)) ⟨rfl,rfl⟩ (λ_ _ _ h=>by rw[h.1];exact hk1) ?_ ?_
 ·rintro i x ys S' hx ⟨rfl,rfl⟩;obtain⟨p,hp',rfl⟩:=Ec hx;have hi:=(gM hp').1;have hpt:=tl p (UC hp');have h2:atI (es.map pairS) (p.1:Int)=some (pairS (l7 es p.1)):=j0 (by rw[UJ,Bg hpt];rfl);have al:=HE es (ws.take i) t;rw[Uo]at al
  have step:∀ v:Bool,(v=true↔Shr es p.1 t)->arL es (ws.take (i+1)) t=arL es (ws.take i) t++if v=true then [p.2] else []:=λv e=>by
   rw[Va,hp',VW];exact IJ es _ p t v e
  have yes:Shr es p.1 t->(wEx Δ (.var 1)).1 [some (.int (p.1:Nat)),some (.int (p.2:Nat)),some (.int ((l7 es t).1:Nat)),some (i4 n es),some (.int ((l7 es t).2:Nat))] S' λy S2=>(f8 (arL es (ws.take i) t)).length<big/\S2=S'/\f8 (arL es (ws.take i) t)++[y]=f8 (arL es (ws.take (i+1)) t):=λsh=>
   ⟨_,rfl,by rw[g7];show _<100000;omega,rfl,by rw[step true ⟨λ_=>sh,λ_=>rfl⟩,iP rfl,Aj];rfl⟩
  refine⟨_,rfl,_,rfl,_,_,rfl,rfl,_,rfl,_,_,rfl,h2,rfl,_,rfl,rfl,_,rfl,?_⟩;show if inS (.int (l7 es t).1) [.int (l7 es p.1).1,.int (l7 es p.1).2]=true then _ else _
  rw[B9];refine ifB (λz=>ifT rfl (yes ?_)) (λz=>?_)
  ·simp only[Uh,dQ]at z;exact⟨(l7 es t).1,z.imp Eq.symm Eq.symm,.inl rfl⟩
  ·refine⟨_,rfl,_,rfl,_,_,rfl,rfl,_,rfl,_,_,rfl,h2,rfl,_,rfl,rfl,_,rfl,?_⟩;show if inS (.int (l7 es t).2) [.int (l7 es p.1).1,.int (l7 es p.1).2]=true then _ else _
   rw[B9];refine ifB (λz2=>yes ?_) (λz2=>⟨rfl,?_⟩)
   ·simp only[Uh,dQ]at z2;exact⟨(l7 es t).2,z2.imp Eq.symm Eq.symm,.inr rfl⟩
   ·rw[step false ⟨nofun,?_⟩,iG (by decide),V8];simp only[Vq,decide_eq_false_iff_not]at z z2;rintro⟨x,hx,rfl | rfl⟩
    ·exact absurd (hx.imp Eq.symm Eq.symm) (not_or.mpr z)
    ·exact absurd (hx.imp Eq.symm Eq.symm) (not_or.mpr z2)
 ·rintro ys S' ⟨rfl,rfl⟩;rw[U4,V6];have al:=HE es ws t;have G2:Gw S' (S'++[SO.lst (f8 (arL es ws t))]):=(Gw.refl S').push;have h7:(S'++[SO.lst (f8 (arL es ws t))])[S'.length]?=some (.lst (f8 (arL es ws t))):=c9;show wSs Δ [oh3,oh4,oh5,oh6] _ [some (i4 n es),some (.loc j),some (.bl true),some (.loc k),some (.int (t:Nat)),some (.int ((l7 es t).1:Nat)),some (.int ((l7 es t).2:Nat)),some (.loc S'.length),none,none] _;have nS:S'.length≠k:=by have:=(gM hk1).1;omega
  generalize S'.length=a at *;generalize S'++[SO.lst (f8 (arL es ws t))]=S2 at *;have hj2:=G2.keep _ _ (O1.keep _ _ jk hj);have hm2:=G2.keep _ _ (O1.keep _ _ mk hm);refine⟨_,rfl,_,rfl,_,.loc m,e7 hj2,j0 (by rw[V3,iP ht]),_,e7 hm2,?_⟩;refine i7 (j5 hΔ _).2 (c7 hΔ _).1 (λi ys S3=>S3=S2/\ys=f8 (((U7 K).take i).filter λh=>decide (h∉arL es ws t))) ⟨rfl,rfl⟩ (λ_ _ _ h=>by rw[h.1];rfl) ?_ ?_
  ·rintro i x ys S3 hx ⟨rfl,rfl⟩;obtain⟨h,hh,rfl⟩:=Bh hx;have hi:=(gM hh).1;rw[Uy]at hi;refine⟨_,rfl,_,rfl,?_⟩;show match AJ (.loc a) S3 with | some ms=>_ | none=>_
   rw[Bf h7];refine⟨rfl,_,e7 h7,AA _,_,rfl,?_⟩;show if (!inS (.int h) (f8 (arL es ws t)))=true then _ else _
   rw[D3];have e3:=D7 (P:=λh=>decide (h∉arL es ws t)) (U7 K) i h hh
   have fl:(((U7 K).take i).filter λh=>decide (h∉arL es ws t)).length<=i:=by
    refine UR (V0 ..) ?_;rw[Uo];omega
   by_cases z:h∈arL es ws t
   ·exact ifF (by rw[decide_eq_true z];rfl) ⟨rfl,by rw[e3,iG (by simpa using z),V8]⟩
   ·exact ifT (by rw[decide_eq_false z];rfl) ⟨_,rfl,by rw[g7];show _<100000;omega,rfl,by rw[e3,iP (by simpa using z),Aj];rfl⟩
  ·rintro ys S3 ⟨rfl,rfl⟩;have e4:(f8 (U7 K)).length=(U7 K).length:=g7;rw[e4,V6];have fl:((U7 K).filter λh=>decide (h∉arL es ws t)).length<=K:=UR (V0 ..) (by rw[Uy];exact U9 _);generalize eF:(U7 K).filter (λh=>decide (h∉arL es ws t))=F at *;have G4:Gw S3 (S3++[SO.lst (f8 F)]):=(Gw.refl S3).push;have h8:(S3++[SO.lst (f8 F)])[S3.length]?=some (.lst (f8 F)):=c9;show wSs Δ [oh4,oh5,oh6] _ [some (i4 n es),some (.loc j),some (.bl true),some (.loc k),some (.int (t:Nat)),some (.int ((l7 es t).1:Nat)),some (.int ((l7 es t).2:Nat)),some (.loc a),some (.loc S3.length),none] _;have nb:S3.length≠k:=by have:=(gM (G2.keep _ _ hk1)).1;omega
   generalize S3.length=b at *;generalize S3++[SO.lst (f8 F)]=S4 at *;have hk4:=G4.keep _ _ (G2.keep _ _ hk1)
   have dk:∀ S5,Gw S4 S5->Br (.loc k) S5=some (m9 ws):=λS5 G=>by
    show(match S5[k]? with | some (SO.dct kvs)=>some kvs | some (SO.dcf _ _ kvs)=>some kvs | _=>none)=_;rw[G.keep _ _ hk4]
   refine⟨_,rfl,_,rfl,ifF rfl (f6 ?_)⟩;have ev:(m9 ws).map (·.2)=f8 (ws.map (·.2)):=by unfold m9 f8;rw[Vk,Vk];rfl
   refine⟨_,rfl,m9 ws,dk S4 (Gw.refl S4),?_⟩;rw[ev];have e1:(iN (ws.map (·.2))).length<=900:=by unfold iN;rw[U4,U4];exact hl
   refine⟨_,_,nofun,e7 c9,MN _,e1,?_⟩;have G5:Gw S4 (S4++[SO.lst (f8 (ws.map (·.2)))]):=(Gw.refl S4).push;show wSs Δ [oh6] _ [some (i4 n es),some (.loc j),some (.bl true),some (.loc k),some (.int (t:Nat)),some (.int ((l7 es t).1:Nat)),some (.int ((l7 es t).2:Nat)),some (.loc a),some (.loc b),some (.int ((AI ws:Nat):Int))] _;generalize S4++[SO.lst (f8 (ws.map (·.2)))]=S5 at *;refine⟨_,rfl,_,e7 (G5.keep _ _ h8),?_⟩;refine i7 (j5 hΔ _).2 (c7 hΔ _).1 (λi ys S6=>S6=S5/\ys=f8 ((F.take i).filter λh=>decide (h<=AI ws))) ⟨rfl,rfl⟩ (λ_ _ _ h=>by rw[h.1];rfl) ?_ ?_
   ·rintro i x ys S6 hx ⟨rfl,rfl⟩;obtain⟨h,hh,rfl⟩:=Bh hx;have hi:=(gM hh).1;have e3:=D7 (P:=λh=>decide (h<=AI ws)) F i h hh
    have fl2:((F.take i).filter λh=>decide (h<=AI ws)).length<=i:=by
     refine UR (V0 ..) ?_;rw[Uo];omega
    refine⟨_,rfl,_,rfl,_,rfl,?_⟩;refine ifD (λz=>?_) (λz=>⟨rfl,?_⟩)
    ·have z:h<=AI ws:=by have z:(h:Int)<=(AI ws:Nat):=z;omega
     exact⟨_,rfl,by rw[g7];show _<100000;omega,rfl,by rw[e3,iP (by simpa using z),Aj];rfl⟩
    ·have z:¬ h<=AI ws:=λy=>z (show(h:Int)<=(AI ws:Nat) by omega);rw[e3,iG (by simpa using z),V8]
   ·rintro ys S6 ⟨rfl,rfl⟩;rw[g7,V6];have kl6:k<S6.length:=by have:=(gM (G5.keep _ _ hk4)).1;exact this
    refine q _ _ (O1.trans ((G2.trans (G4.trans G5)).push).on) (dk _ G5.push) (by omega) ?_;rw[c9,<-eF];rfl
end
theorem IL:∀(ws:Way) (t:Nat),(CC (m9 ws) (t:Int)).isSome=decide (t∈ws.map (·.1))
 | [],t=>rfl
 | a::F,t=>by
   have ih:=IL F t;unfold CC m9 at ih ⊢;rw[UT,Uw];by_cases z:a.1=t
   ·subst z;simp
   ·have z':decide ((a.1:Int)=(t:Int))=false:=decide_eq_false λh=>z (Ui.mp h);rw[z',ih,decide_eq_decide,UT,UH];exact⟨.inr,λh=>h.resolve_left λe=>z e.symm⟩
theorem OW{ws:Way}{t h:Nat}(hn:t∉ws.map (·.1)):Cl (m9 ws) (t:Int) (.int (h:Nat))=m9 (ws++[(t,h)]):=by
 unfold Cl;rw[iG]
 ·unfold m9;rw[UQ];rfl
 ·intro z;rw[Ux]at z;obtain⟨p,hp,e⟩:=z;obtain⟨u,hu,rfl⟩:=Um.mp hp;have e:(u.1:Int)=(t:Int):=of_decide_eq_true e;exact hn (Um.mpr ⟨u,hu,Ui.mp e⟩)
section
variable{Δ:Nat->Sn}
noncomputable def cz1(kp:Nat):Stm:=(.iff (.or (.not (.call kp (.cons (.var 4) .nil))) (.not (.bi .isi (.cons (.ix (.var 4) (.c (.int 1))) (.cons (.tyc .tuple) .nil))))) [(.ret (.c (.bl false)))] [])
noncomputable def cz2:Stm:=(.asg (.tup (.cons (.nm 5) (.cons (.nm 6) .nil))) (.var 4))
noncomputable def cz3(kt:Nat):Stm:=(.iff (.or (.not (.call kt (.cons (.var 0) (.cons (.var 5) .nil)))) (.din false (.var 5) (.var 3))) [(.ret (.c (.bl false)))] [])
noncomputable def cz4(ko:Nat):Stm:=(.asg (.nm 7) (.call ko (.cons (.var 0) (.cons (.var 1) (.cons (.var 2) (.cons (.var 3) (.cons (.var 5) .nil)))))))
noncomputable def cz5:Stm:=(.iff (.cmp .NotEq (.bi .len (.cons (.var 6) .nil)) (.bi .len (.cons (.var 7) .nil))) [(.ret (.c (.bl false)))] [])
noncomputable def cz6(kc:Nat):Stm:=(.loop (.tup (.cons (.nm 8) (.cons (.nm 9) .nil))) (.zipE (.var 7) (.var 6)) [(.asg (.nm 10) (.dcopy (.var 3))),(.dput (.var 10) (.var 5) (.var 8)),(.iff (.not (.call kc (.cons (.var 0) (.cons (.var 1) (.cons (.var 2) (.cons (.var 10) (.cons (.var 9) .nil))))))) [(.ret (.c (.bl false)))] [])])
noncomputable def IM(kp kt ko kc:Nat):List Stm:=[cz1 kp,cz2,cz3 kt,cz4 ko,cz5,cz6 kc,(.ret (.c (.bl true)))]
noncomputable def eKs(j:Nat):Ex := .comp ["_law_k","_law_hue"] [] [] (.tup (.cons (.nm 0) (.cons (.nm 1) .nil))) (.seq (.var j)) .no (.var 0)
theorem TK(hΔ:∀ f,MonoN (Δ f)){j w:Nat}{ρ:EnvS}{ws:Way}{S:Sto}{Q:QE}(hj:ρ[j]?=some (some (.loc w)))(hw:S[w]?=some (.lst (ws.map pairS)))(hl:ws.length<=900)(q:Q (.loc S.length) (S++[.lst (f8 (ws.map (·.1)))])):(wEx Δ (eKs j)).1 ρ S Q:=
 ⟨_,hj,_,e7 hw,D9 hΔ (f:=(·.1)) hl rfl (λp=>rfl) q⟩
noncomputable def tr1:Stm:=(.iff (.or (.not (.bi .isi (.cons (.var 3) (.cons (.tyc .tuple) .nil)))) (.or (.cmp .NotEq (.bi .len (.cons (.var 3) .nil)) (.c (.int 2))) (.not (.bi .isi (.cons (.ix (.var 3) (.c (.int 1))) (.cons (.tyc .tuple) .nil)))))) [(.ret (.c (.bl false)))] [])
noncomputable def tr2:Stm:=(.asg (.nm 4) (.ix (.var 3) (.c (.int 0))))
noncomputable def tr3(kn:Nat):Stm:=(.iff (.or (.not (.call kn (.cons (.var 4) .nil))) (.or (.not (.chn .LtE .Lt (.c (.int 0)) (.var 4) (.bi .len (.cons (.ix (.var 0) (.c (.int 1))) .nil)))) (.cmp .In (.var 4) (eKs 2)))) [(.ret (.c (.bl false)))] [])
noncomputable def tr4(kt:Nat):Stm:=(.asg (.nm 5) (.call kt (.cons (.var 0) (.cons (.var 1) (.cons (.var 2) (.cons (.var 4) .nil))))))
noncomputable def tr5:Stm:=(.iff (.cmp .NotEq (.bi .len (.cons (.ix (.var 3) (.c (.int 1))) .nil)) (.bi .len (.cons (.var 5) .nil))) [(.ret (.c (.bl false)))] [])
theorem OX(es:EE)(hues:Nat)(ws:Way)(t:Nat):(AF es hues ws t).length<=ws.length+1:=by
 unfold AF;have:=HD ws;refine UR (V0 ..) ?_;rw[Uy];omega
theorem MX{w:Nat}{ws:Way}{t h:Nat}{S:Sto}(hw:S[w]?=some (.lst (ws.map pairS))):((S++[SO.lst [.tup [.int (t:Nat),.int (h:Nat)]]])++[SO.lst (ws.map pairS++[.tup [.int (t:Nat),.int (h:Nat)]])])[(S++[SO.lst [.tup [.int (t:Nat),.int (h:Nat)]]]).length]?=some (.lst ((ws++[(t,h)]).map pairS)):=by
 rw[c9,UQ];rfl
end
theorem Js{xs:List SV}{i:Nat}:Ck xs none (some (i:Int))=xs.take i:=by
 unfold Ck;rw[HT.sIx_nat,HT.sIx_none,List.drop_zero,Nat.sub_zero];rcases Nat.le_total i xs.length with z | z
 ·rw[Nat.min_eq_left z]
 ·rw[Nat.min_eq_right z,V6,WN z]
section
variable{Δ:Nat->Sn}
noncomputable def MY(kc:Nat):List Stm:=[(.asg (.nm 3) (.lrng1 (.bi .min (.cons (.var 1) (.cons (.bi .len (.cons (.ix (.var 0) (.c (.int 1))) .nil)) .nil))))),(.ret (.call kc (.cons (.var 0) (.cons (.op .Mult (.lst (.cons (.var 3) .nil)) (.bi .len (.cons (.ix (.var 0) (.c (.int 1))) .nil))) (.cons (.c (.bl true)) (.cons .dnew (.cons (.var 2) .nil)))))))]
noncomputable def MZ(kp ka kb kf:Nat):List Stm:=[(.iff (.not (.call kp (.cons (.var 2) .nil))) [(.ret (.c (.bl false)))] []),(.asg (.tup (.cons (.nm 3) (.cons (.nm 4) .nil))) (.var 2)),(.iff (.cmp .Eq (.var 3) (.c (.str "place"))) [(.ret (.call ka (.cons (.var 0) (.cons (.var 1) (.cons (.var 4) .nil)))))] []),(.iff (.cmp .Eq (.var 3) (.c (.str "set"))) [(.ret (.call kb (.cons (.var 0) (.cons (.var 1) (.cons (.var 4) .nil)))))] []),(.ret (.and (.cmp .Eq (.var 3) (.c (.str "tree"))) (.call kf (.cons (.var 0) (.cons (.var 1) (.cons (.var 4) .nil))))))]
noncomputable def PX(kd kp:Nat):List Stm:=[u1 kd kp,u3 kd kp,u4 kd kp,u5 kd kp,u6 kd kp]
theorem OY(hΔ:∀ f,MonoN (Δ f)){kd kp:Nat}(hd:l4 (Δ kd))(hp:EV (Δ kp)){D:Df}(hb:D.body=PX kd kp)(hN:D.N.length=7)(hps:D.ps.length=2):MJ (g0 Δ D):=by
 intro t g S Q T q;unfold g0;rw[hb,hN];have t0:=T.lt;refine⟨hps.symm,_,rfl,_,rfl,hp T λn es l S1 P h1 hl T1 O1=>?_⟩;exact ML hΔ hd P ⟨T1,O1,h1,hl,t0⟩ λes S' W T' O'=>q n es S' W T' O'
noncomputable def Ma(kd kw:Nat):List Stm:=[(.asg (.nm 2) (.call kw (.cons (.var 0) (.cons (.cmp .Eq (.call kd (.cons (.var 0) (.cons (.c (.int 12)) .nil))) (.c (.int 0))) .nil)))),(.loop (.nm 3) (.rng1 (.call kd (.cons (.var 0) (.cons (.c (.int 4)) .nil)))) [(.iff (.eqt0 (.ix (.var 2) (.c (.int 1))) (.tup .nil)) [(.asg (.nm 2) (.call kw (.cons (.var 0) (.cons (.c (.bl false)) .nil))))] [])]),(.ret (.tup (.cons (.ix (.var 2) (.c (.int 0))) (.cons (.slc (.ix (.var 2) (.c (.int 1))) .no (.yes (.ix (.lst (.cons (.c (.int 9)) (.cons (.c (.int 9)) (.cons (.c (.int 9)) (.cons (.var 1) .nil))))) (.call kd (.cons (.var 0) (.cons (.c (.int 4)) .nil)))))) .nil))))]
noncomputable def IN(s:Sn):Prop:=∀{t most:Nat} {S:Sto} {Q:QE},TapeS S t->most<=100->(∀(n:Nat) (es:EE) (S':Sto),(∀ e∈es,e.1<e.2/\e.2<n)->n<=12->es.length<=39->TapeS S' t->On t S S'->Q (i4 n es) S')->s [.loc t,.int (most:Nat)] S Q
theorem Mb(hΔ:∀ f,MonoN (Δ f)){kd kw:Nat}(hd:l4 (Δ kd))(hw:MJ (Δ kw)){D:Df}(hb:D.body=Ma kd kw)(hN:D.N.length=4)(hp:D.ps.length=2):IN (g0 Δ D):=by
 intro t most S Q T hm q;unfold g0;rw[hb,hN];refine⟨hp.symm,_,rfl,_,rfl,hd T (by decide) (by decide) λr S1 r0 r1 T1 O1 _=>hw T1 λn es S2 W2 T2 O2=>?_⟩;refine⟨_,rfl,hd T2 (by decide) (by decide) λm S3 m0 m1 T3 O3 _=>⟨m,rfl,⟨by omega,by omega⟩,?_⟩⟩;refine B8 (j6 hΔ _) (λi ρ S4=>∃(n:Nat) (es:EE) (o3:Option SV),ρ=[some (.loc t),some (.int (most:Nat)),some (i4 n es),o3]/\Web n es/\TapeS S4 t/\On t S S4) ⟨n,es,_,rfl,W2,T3,O1.trans (O2.trans O3)⟩ (λ_ _ _ _=>trivial) ?_ ?_
 ·rintro i x ρ S4 E hE _ hx ⟨n,es,o3,rfl,W4,T4,O4⟩;refine⟨_,rfl,_,_,rfl,rfl,by show 0<=100000;decide,_,rfl,rfl,_,rfl,?_⟩;refine ifB (λ_=>?_) (λ_=>f6 (hE _ _ ⟨n,es,_,rfl,W4,T4,O4⟩));exact⟨_,rfl,hw T4 λn' es' S5 W5 T5 O5=>f6 (Δ:=Δ) (hE _ _ ⟨n',es',_,rfl,W5,T5,O4.trans O5⟩)⟩
 ·rintro ρ S4 ⟨n,es,o3,rfl,W4,T4,O4⟩;have t4:=T4.lt;refine⟨_,rfl,_,_,rfl,rfl,_,rfl,_,_,rfl,rfl,_,rfl,by show 4<=100000;decide,_,rfl,hd T4.push (by decide) (by decide) λr S5 r0 r1 T5 O5 _=>?_⟩;have h5:S5[S4.length]?=some (.lst [.int 9,.int 9,.int 9,.int (most:Nat)]):=O5.keep _ _ (by omega) c9
  obtain⟨v,hv,ha⟩:∃ v:Nat,v<=100/\atI [SV.int 9,.int 9,.int 9,.int (most:Nat)] r=some (.int (v:Nat)):=by
   have:r=0\/r=1\/r=2\/r=3:=by omega
   rcases this with rfl | rfl | rfl | rfl
   ·exact⟨9,by decide,j0 (j:=0) rfl⟩
   ·exact⟨9,by decide,j0 (j:=1) rfl⟩
   ·exact⟨9,by decide,j0 (j:=2) rfl⟩
   ·exact⟨most,hm,j0 (j:=3) rfl⟩
  refine⟨_,_,e7 h5,ha,_,rfl,by show 2<=100000;decide,?_⟩;have e:Ck (es.map pairS) none (some (v:Int))=(es.take v).map pairS:=by rw[Js,XB]
  show Q (.tup [.int (n:Nat),.tup (Ck (es.map pairS) none (some (v:Int)))]) S5;rw[e];refine q n (es.take v) S5 (λe he=>W4.en e (Wc he)) W4.few (by rw[Uo];have:=W4.len;omega) T5 (O4.trans ((On.refl t S4).push.trans O5))
end
inductive TrP(n:Nat)(O:Way->Nat->List Nat):SV->Way->Prop where
 | nd {t:Nat} {xs:List SV} {ws:Way} (ht:t<n) (hn:t∉ws.map (·.1)) (hl:xs.length=(O ws t).length) (h:∀(i:Nat) (x:SV) (u:Nat),xs[i]?=some x->(O ws t)[i]?=some u->TrP n O x (ws++[(t,u)])):TrP n O (.tup [.int (t:Nat),.tup xs]) ws
theorem TrP.e{n:Nat}{O:Way->Nat->List Nat}{x:SV}{ws:Way}(h:TrP n O x ws):∃(t:Nat) (xs:List SV),x = .tup [.int (t:Nat),.tup xs]/\t<n/\t∉ws.map (·.1)/\xs.length=(O ws t).length/\∀(i:Nat) (x:SV) (u:Nat),xs[i]?=some x->(O ws t)[i]?=some u->TrP n O x (ws++[(t,u)]):=by
 cases h with
 | nd a b c d=>exact⟨_,_,rfl,a,b,c,d⟩
theorem TrP.at{n t:Nat}{O:Way->Nat->List Nat}{xs:List SV}{ws:Way}(h:TrP n O (.tup [.int (t:Nat),.tup xs]) ws):t<n/\t∉ws.map (·.1)/\xs.length=(O ws t).length/\∀(i:Nat) (x:SV) (u:Nat),xs[i]?=some x->(O ws t)[i]?=some u->TrP n O x (ws++[(t,u)]):=by
 obtain⟨u,ys,e,h⟩:=h.e;injection e with e;injection e with e1 e2;injection e2 with e2 _;injection e1 with e1;injection e2 with e2;obtain rfl:=Ui.mp e1;subst e2;exact h
theorem OZ{es:EE}{hues:Nat}{x:SV}{ws:Way}(h:TrP es.length (opL es (min hues es.length)) x ws):WayOk es hues ws->TrP es.length (AF es hues) x ws:=by
 induction h with
 | @nd t xs ws ht hn hl h ih=>
   intro W;have e:=MR (es:=es) (hues:=hues) (t:=t) (W.less ht hn);rw[e]at hl ih;exact .nd ht hn hl λi x u hx hu=>ih i x u hx hu (W.snoc ht hn (UC hu))
theorem Oa{es:EE}{hues:Nat}{x:SV}{ws:Way}(h:TrP es.length (AF es hues) x ws):WayOk es hues ws->TrP es.length (opL es (min hues es.length)) x ws:=by
 induction h with
 | @nd t xs ws ht hn hl h ih=>
   intro W;have e:=MR (es:=es) (hues:=hues) (t:=t) (W.less ht hn);rw[<-e]at hl
   exact .nd ht hn hl λi x u hx hu=>by
    rw[e]at hu;exact ih i x u hx hu (W.snoc ht hn (UC hu))
theorem Gd.onD{S S':Sto}{k:Nat}{kvs:List (Int×SV)}(hk:S[k]?=some (.dct kvs))(O:On k S S'){d b:Nat}{x:SV}(h:Gd (VS S) d b x):Gd (VS S') d b x:=h.see λl xs e=>O.keep l _ (λz=>by
 have e:S[l]?=some (.lst xs):=e;rw[z,hk]at e;cases e) e
noncomputable def inI(m:Nat):SV->Bool
 | .int i=>decide (0<=i)&&decide (i<(m:Nat))
 | _=>false
theorem Mc{m:Nat}{x:SV}(h:inI m x=true):∃ t:Nat,x = .int (t:Nat)/\t<m:=by
 cases x with
 | int i=>
   rw[show inI m (.int i)=(decide (0<=i)&&decide (i<(m:Nat))) from rfl,U2,dQ,dQ]at h;obtain⟨t,rfl⟩:=Uv h.1;exact⟨t,rfl,by omega⟩
 | _=>cases h
theorem Ee{m t:Nat}(h:t<m):inI m (.int (t:Nat))=true:=by
 rw[show inI m (.int (t:Nat))=(decide ((0:Int)<=(t:Nat))&&decide (((t:Nat):Int)<(m:Nat))) from rfl,decide_eq_true (show(0:Int)<=(t:Nat) by omega),decide_eq_true (show((t:Nat):Int)<(m:Nat) by omega)];rfl
section
variable{Δ:Nat->Sn}
noncomputable def HH(s:Sn)(m:Nat->EE->Nat):Prop:=∀{n:Nat} {es:EE} {x:SV} {S:Sto} {k b:Nat} {Q:QE},Gd (VS S) k b x->Q (.bl (inI (m n es) x)) S->s [i4 n es,x] S Q
theorem Of{kn:Nat}(hn:CF (Δ kn)){D:Df}(hb:D.body=By kn)(hN:D.N.length=2)(hp:D.ps.length=2):HH (g0 Δ D) λn _=>n:=by
 intro n es x S k b Q h q;unfold g0;rw[hb,hN];refine⟨hp.symm,_,rfl,hn h ⟨_,rfl,?_⟩⟩;cases x with
 | int i=>
   refine ifT rfl ⟨_,rfl,_,rfl,?_⟩;have q:Q (.bl (decide (0<=i)&&decide (i<(n:Nat)))) S:=q;cases z:decide ((0:Int)<=i) with
   | true=>
     rw[z]at q;exact ifT rfl ⟨_,rfl,_,_,rfl,rfl,q⟩
   | false=>
     rw[z]at q;exact ifF rfl q
 | _=>exact ifF rfl q
theorem Og{kn:Nat}(hn:CF (Δ kn)){D:Df}(hb:D.body=IE kn)(hN:D.N.length=2)(hp:D.ps.length=2):HH (g0 Δ D) λ_ es=>es.length:=by
 intro n es x S k b Q h q;unfold g0;rw[hb,hN];refine⟨hp.symm,_,rfl,hn h ⟨_,rfl,?_⟩⟩;cases x with
 | int i=>
   refine ifT rfl ⟨_,rfl,_,rfl,?_⟩;have q:Q (.bl (decide (0<=i)&&decide (i<(es.length:Nat)))) S:=q;cases z:decide ((0:Int)<=i) with
   | true=>
     rw[z]at q;refine ifT rfl ⟨_,rfl,_,_,rfl,rfl,_,rfl,?_⟩;rw[U4];exact q
   | false=>
     rw[z]at q;exact ifF rfl q
 | _=>exact ifF rfl q
theorem IO{x:SV}(h:isP x=true):∃ a c,x = .tup [a,c]:=by
 unfold isP at h;split at h
 ·exact⟨_,_,rfl⟩
 ·cases h
noncomputable def CQ(s:Sn)(d:Nat):Prop:=∀{n j m k K b:Nat} {es:EE} {ws:Way} {x:SV} {S:Sto} {Q:QE},Gd (VS S) d b x->S[k]?=some (.dct (m9 ws))->S[j]?=some (.lst (UO es.length (.loc m)))->S[m]?=some (.lst (f8 (U7 K)))->ws.length+d<=800->K<=900->(∀ p∈ws,p.1<es.length)->(∀(r:Bool) (S':Sto),On k S S'->Br (.loc k) S'=some (m9 ws)->(r=true↔TrP es.length (opL es K) x ws)->Q (.bl r) S')->s [i4 n es,.loc j,.bl true,.loc k,x] S Q
theorem Ef(hΔ:∀ f,MonoN (Δ f)){kp kt ko kc:Nat}(hpr:PrG (Δ kp))(hti:HH (Δ kt) λ_ es=>es.length)(hop:HF (Δ ko)){D:Df}(hb:D.body=IM kp kt ko kc)(hN:D.N.length=11)(hp:D.ps.length=5){d:Nat}(hc:∀ d',d'<d->CQ (Δ kc) d'):CQ (g0 Δ D) d:=by
 intro n j m k K b es ws x S Q hx hk hj hm hl hK tl q;unfold g0;rw[hb,hN]
 have dk:Br (.loc k) S=some (m9 ws):=by
  show(match S[k]? with | some (SO.dct kvs)=>some kvs | some (SO.dcf _ _ kvs)=>some kvs | _=>none)=_;rw[hk]
 have kl:k<S.length:=(gM hk).1;have no:∀ S',On k S S'->Br (.loc k) S'=some (m9 ws)->¬ TrP es.length (opL es K) x ws->Q (.bl false) S':=λS' O d h=>q false S' O d ⟨nofun,λz=>absurd z h⟩;refine⟨hp.symm,_,rfl,hpr hx ⟨_,rfl,?_⟩⟩;by_cases ip:isP x=true
 case neg=>
  rw[UK.mpr ip];exact ifT rfl (no S (On.refl k S) dk λh=>by obtain⟨t,xs,rfl,_⟩:=h.e;exact ip rfl)
 rw[ip];obtain⟨a,c,rfl⟩:=IO ip;obtain⟨d1,b1,rfl,hg⟩:∃ d1 b1,d=d1+1/\∀ y∈[a,c],Gd (VS S) d1 b1 y:=by cases hx with | tup h hl hc=>exact⟨_,_,rfl,h⟩
 have ga:=hg a (UG ..);have gc:=hg c (UE _ (UG ..));refine ifF rfl ?_;by_cases ct:∃ xs,c = .tup xs
 case neg=>
  obtain⟨ty,e,nt⟩:∃ ty,tyS c S=some ty/\ty ≠ .tuple:=by
   rcases gc.kind with⟨t,e,_,nt,_⟩ | ⟨xs,e,_⟩ | ⟨l,xs,e,hv,_⟩
   ·exact⟨t,e,nt⟩
   ·exact absurd ⟨xs,e⟩ ct
   ·exact⟨.list,by rw[e];exact BO hv,nofun⟩
  refine⟨_,rfl,_,_,rfl,rfl,_,nofun,e,_,rfl,ifT ?_ (no S (On.refl k S) dk λh=>by
   obtain⟨t,xs,e,_⟩:=h.e;injection e with e;injection e with _ e;injection e with e _;exact ct ⟨_,e⟩)⟩
  cases ty<;>first | rfl | exact absurd rfl nt
 obtain⟨xs,rfl⟩:=ct;refine⟨_,rfl,_,_,rfl,rfl,_,nofun,rfl,_,rfl,ifF rfl (f6 ⟨_,rfl,?_⟩)⟩;show wSs Δ [cz3 kt,cz4 ko,cz5,cz6 kc,(.ret (.c (.bl true)))] (j8 Q) [some (i4 n es),some (.loc j),some (.bl true),some (.loc k),some (.tup [a,.tup xs]),some a,some (.tup xs),none,none,none,none] S;refine⟨_,rfl,_,rfl,hti ga ⟨_,rfl,?_⟩⟩;by_cases ia:inI es.length a=true
 case neg=>
  rw[UK.mpr ia]
  exact ifT rfl (no S (On.refl k S) dk λh=>by
   obtain⟨t,ys,e,ht,_⟩:=h.e;injection e with e;injection e with e _;rw[e]at ia;exact ia (Ee ht))
 rw[ia];obtain⟨t,rfl,ht⟩:=Mc ia;refine ifF rfl ⟨_,rfl,_,rfl,m9 ws,t,dk,rfl,_,rfl,?_⟩;show if (CC (m9 ws) (t:Int)).isSome=true then _ else _
 rw[IL];refine ifD (λz=>no S (On.refl k S) dk λh=>h.at.2.1 z) (λz=>f6 ?_);refine⟨_,rfl,_,rfl,_,rfl,_,rfl,_,rfl,hop hk hj hm (by omega) hK tl ht λh S1 O1 d1' nh h1=>?_⟩;show wSs Δ [cz5,cz6 kc,(.ret (.c (.bl true)))] (j8 Q) [some (i4 n es),some (.loc j),some (.bl true),some (.loc k),some (.tup [.int (t:Nat),.tup xs]),some (.int (t:Nat)),some (.tup xs),some (.loc h),none,none,none] S1;refine⟨_,rfl,_,rfl,_,rfl,_,e7 h1,_,rfl,?_⟩;show if (!decide ((xs.length:Int)=((f8 (opL es K ws t)).length:Nat)))=true then _ else _
 rw[g7];by_cases zl:xs.length=(opL es K ws t).length
 case neg=>exact ifT (by rw[decide_eq_false (λy=>zl (Ui.mp y))];rfl) (no S1 O1 d1' λh=>zl h.at.2.2.1)
 refine ifF (by rw[decide_eq_true (show((xs.length:Nat):Int)=((opL es K ws t).length:Nat) by rw[zl])];rfl) (f6 ?_);have jk:j≠k:=λe=>by rw[e,hk]at hj;cases hj
 have mk:m≠k:=λe=>by rw[e,hk]at hm;cases hm
 obtain⟨d2,b2,rfl,hg2⟩:∃ d2 b2,d1=d2+1/\∀ y∈xs,Gd (VS S) d2 b2 y:=by cases gc with | tup h hl hc=>exact⟨_,_,rfl,h⟩
 have tp:TrP es.length (opL es K) (.tup [.int (t:Nat),.tup xs]) ws↔∀(i:Nat) (x:SV) (u:Nat),xs[i]?=some x->(opL es K ws t)[i]?=some u->TrP es.length (opL es K) x (ws++[(t,u)]):=⟨λh=>h.at.2.2.2,λh => .nd ht z zl h⟩
 have q':∀(r:Bool) (S':Sto),On k S S'->Br (.loc k) S'=some (m9 ws)->(r=true↔∀(i:Nat) (x:SV) (u:Nat),xs[i]?=some x->(opL es K ws t)[i]?=some u->TrP es.length (opL es K) x (ws++[(t,u)]))->Q (.bl r) S':=λr S' O d h=>q r S' O d (h.trans tp.symm);clear q tp no;have Oe:opL es K=opL es K:=rfl;generalize hO:opL es K ws t=hs at *;refine⟨_,rfl,_,rfl,h,f8 hs,xs,rfl,h1,rfl,by rw[g7,zl],?_⟩
 refine B8 (j6 hΔ _) (λi ρ S2=>∃ o8 o9 o10:Option SV,ρ=[some (i4 n es),some (.loc j),some (.bl true),some (.loc k),some (.tup [.int (t:Nat),.tup xs]),some (.int (t:Nat)),some (.tup xs),some (.loc h),o8,o9,o10]/\On k S1 S2/\Br (.loc k) S2=some (m9 ws)/\∀(i':Nat) (y:SV) (u:Nat),i'<i->xs[i']?=some y->hs[i']?=some u->TrP es.length (opL es K) y (ws++[(t,u)]))
  ⟨_,_,_,rfl,On.refl k S1,d1',λ_ _ _ h=>absurd h (VA _)⟩ (λ_ _ S2 z=>by obtain⟨_,_,_,_,O,_⟩:=z;show S2[h]?=S1[h]?;rw[O.keep _ _ nh h1,h1]) ?_ ?_
 ·rintro i x ρ S2 E hE hrt hx ⟨o8,o9,o10,rfl,O2,d2',al⟩;obtain⟨y,u,hy,hu,rfl⟩:=ES hx;obtain⟨hue,hh,rfl⟩:=Bh hy;have mu:=UC hu;refine⟨_,rfl,m9 ws,d2',_,rfl,_,rfl,_,rfl,S2.length,t,m9 ws,rfl,rfl,.inl c9,by unfold m9;rw[U4];show _<100000;omega,?_⟩;rw[OW z]
  have e3:(S2++[SO.dct (m9 ws)]).set S2.length (.dct (m9 (ws++[(t,hue)])))=S2++[SO.dct (m9 (ws++[(t,hue)]))]:=by
   rw[List.set_append_right _ _ (U9 _),Nat.sub_self];rfl
  rw[e3];have G3:Gw S2 (S2++[SO.dct (m9 (ws++[(t,hue)]))]):=(Gw.refl S2).push;have gu:=((hg2 u mu).onD hk (O1.trans O2)).grow G3;refine⟨_,rfl,_,rfl,_,rfl,_,rfl,_,rfl,hc d2 (by omega) gu c9 (G3.keep _ _ (O2.keep _ _ jk (O1.keep _ _ jk hj))) (G3.keep _ _ (O2.keep _ _ mk (O1.keep _ _ mk hm))) (by rw[UD,Ul];omega) hK (λp hp=>?_) λv S4 O4 d4 ev=>⟨_,rfl,?_⟩⟩
  ·rcases UV.mp hp with hp | hp
   ·exact tl p hp
   ·rw[UA.mp hp];exact ht
  have G4:Gw S2 S4:=⟨UR G3.len O4.len,λi o ho=>O4.keep _ _ (by have:=(gM ho).1;omega) (G3.keep _ _ ho)⟩
  have d4':Br (.loc k) S4=some (m9 ws):=by
   have d2'':(match S2[k]? with | some (SO.dct kvs)=>some kvs | some (SO.dcf _ _ kvs)=>some kvs | _=>none)=some (m9 ws):=d2';show(match S4[k]? with | some (SO.dct kvs)=>some kvs | some (SO.dcf _ _ kvs)=>some kvs | _=>none)=_;cases e:S2[k]? with
   | none=>rw[e]at d2'';cases d2''
   | some o=>rw[G4.keep _ _ e,<-e];exact d2''
  cases v with
  | false=>exact ifT rfl (hrt _ _ (q' false S4 (O1.trans (O2.trans G4.on)) d4' ⟨nofun,λf=>ev.mpr (f i u hue hu hh)⟩))
  | true=>
    refine ifF rfl (f6 (hE _ _ ⟨_,_,_,rfl,O2.trans G4.on,d4',λi' y' x' hi hT' hx'=>?_⟩));rcases VR i' i with y | y
    ·exact al i' y' x' y hT' hx'
    ·have:i'=i:=by omega
     subst this;rw[hu]at hT';rw[hh]at hx';cases hT';cases hx';exact ev.mp rfl
 ·rintro ρ S2 ⟨o8,o9,o10,rfl,O2,d2',al⟩
  exact q' true S2 (O1.trans O2) d2' ⟨λ_ i y u hy hu=>al i y u (by
   rw[ET (by rw[g7,zl]),g7];exact(gM hu).1) hy hu,λ_=>rfl⟩
noncomputable def isT:SV->Bool
 | .tup _=>true
 | _=>false
theorem DA{x:SV}(h:isT x=true):∃ xs,x = .tup xs:=by
 cases x with
 | tup xs=>exact⟨xs,rfl⟩
 | _=>cases h
theorem Gd.isT{S:Sto}{k b:Nat}{x:SV}(h:Gd (VS S) k b x):∃ t,tyS x S=some t/\E9 t .tuple=isT x:=by
 cases h with
 | lst hv _ _ _=>exact⟨_,BO hv,rfl⟩
 | _=>exact⟨_,rfl,rfl⟩
theorem Gd.el{S:Sto}{k b:Nat}{xs:List SV}(h:Gd (VS S) k b (.tup xs)):∃ k1 b1,k=k1+1/\xs.length<=63/\∀ y∈xs,Gd (VS S) k1 b1 y:=by
 cases h with
 | tup h hl hc=>exact⟨_,_,rfl,hl,h⟩
noncomputable def tq6(kc:Nat):Stm:=(.ret (.bi .all (.cons (.comp ["_law_hue","_law_more"] ["_law_web_here","_law_hues","_law_way","_law_tie"] [0,1,2,4] (.tup (.cons (.nm 0) (.cons (.nm 1) .nil))) (.zipE (.var 5) (.ix (.var 3) (.c (.int 1)))) .no (.call kc (.cons (.var 2) (.cons (.var 3) (.cons (.op .Add (.var 4) (.lst (.cons (.tup (.cons (.var 5) (.cons (.var 0) .nil))) .nil))) (.cons (.var 1) .nil)))))) .nil)))
noncomputable def Md(kn kt kc:Nat):List Stm:=[tr1,tr2,tr3 kn,tr4 kt,tr5,tq6 kc]
noncomputable def IP(s:Sn)(d:Nat):Prop:=∀{n w hues b:Nat} {es:EE} {ws:Way} {x:SV} {S:Sto} {Q:QE},Gd (VS S) d b x->S[w]?=some (.lst (ws.map pairS))->ws.length+d<=800->(∀ p∈ws,p.1<es.length)->(∀(r:Bool) (S':Sto),Gw S S'->(r=true↔TrP es.length (AF es hues) x ws)->Q (.bl r) S')->s [i4 n es,.int (hues:Nat),.loc w,x] S Q
open Classical in
theorem HI(hΔ:∀ f,MonoN (Δ f)){kn kt kc:Nat}(hn:CF (Δ kn))(htr:Ed (Δ kt)){D:Df}(hb:D.body=Md kn kt kc)(hN:D.N.length=6)(hp:D.ps.length=4){d:Nat}(hc:∀ d',d'<d->IP (Δ kc) d'):IP (g0 Δ D) d:=by
 intro n w hues b es ws x S Q hx hw hl tl q;unfold g0;rw[hb,hN];have no:∀ S',Gw S S'->¬ TrP es.length (AF es hues) x ws->Q (.bl false) S':=λS' G h=>q false S' G ⟨nofun,λz=>absurd z h⟩;obtain⟨ty,e1,e2⟩:=hx.isT;refine⟨hp.symm,_,rfl,_,nofun,e1,_,rfl,?_⟩;rw[e2];by_cases it:isT x=true
 case neg=>
  rw[UK.mpr it];exact ifT rfl (no S (Gw.refl S) λh=>by obtain⟨_,_,rfl,_⟩:=h.e;exact it rfl)
 rw[it];obtain⟨ys,rfl⟩:=DA it;refine ifF rfl ⟨_,rfl,_,rfl,_,rfl,?_⟩;show if (!decide ((ys.length:Int)=2))=true then _ else _
 rw[Eb];by_cases ip:isP (.tup ys)=true
 case neg=>
  rw[UK.mpr ip];exact ifT rfl (no S (Gw.refl S) λh=>by obtain⟨_,_,e,_⟩:=h.e;rw[e]at ip;exact ip rfl)
 rw[ip];obtain⟨a,c,e⟩:=IO ip;injection e with e;subst e;obtain⟨d1,b1,rfl,_,hg⟩:=hx.el;have ga:=hg a (UG ..);have gc:=hg c (UE _ (UG ..));obtain⟨ty,e1,e2⟩:=gc.isT;refine ifF rfl ⟨_,rfl,_,_,rfl,rfl,_,nofun,e1,_,rfl,?_⟩;rw[e2];by_cases ic:isT c=true
 case neg=>
  rw[UK.mpr ic]
  exact ifT rfl (no S (Gw.refl S) λh=>by
   obtain⟨_,_,e,_⟩:=h.e;injection e with e;injection e with _ e;injection e with e _;rw[e]at ic;exact ic rfl)
 rw[ic];obtain⟨xs,rfl⟩:=DA ic;refine ifF rfl (f6 ⟨_,rfl,_,_,rfl,rfl,?_⟩);show wSs Δ [tr3 kn,tr4 kt,tr5,tq6 kc] (j8 Q) [some (i4 n es),some (.int (hues:Nat)),some (.loc w),some (.tup [a,.tup xs]),some a,none] S
 have no2:(∀ t:Nat,t<es.length->a ≠ .int (t:Nat))->Q (.bl false) S:=λf=>no S (Gw.refl S) λh=>by
  obtain⟨t,_,e,ht,_⟩:=h.e;injection e with e;injection e with e _;exact f t ht e
 refine⟨_,rfl,hn ga ⟨_,rfl,?_⟩⟩;by_cases ia:isI a=true
 case neg=>
  rw[UK.mpr ia];exact ifT rfl (no2 λt _ e=>by rw[e]at ia;exact ia rfl)
 rw[ia]
 obtain⟨i,rfl⟩:∃ i,a = .int i:=by
  cases a with
  | int i=>exact⟨i,rfl⟩
  | _=>cases ia
 refine ifF rfl ⟨_,rfl,_,rfl,?_⟩;refine ifD (λi0=>⟨_,rfl,_,_,rfl,rfl,_,rfl,_,rfl,?_⟩) (λz=>⟨_,rfl,ifT rfl (no2 λt _ e=>by injection e with e;exact z (by show(0:Int)<=i;omega))⟩);have i0:(0:Int)<=i:=i0;obtain⟨t,rfl⟩:=Uv i0;show if (!decide (((t:Nat):Int)<((es.map pairS).length:Nat)))=true then _ else _
 rw[U4];by_cases ht:t<es.length
 case neg=>exact ifT (by rw[decide_eq_false (by omega)];rfl) (no2 λu hu e=>by injection e with e;omega)
 refine ifF (by rw[decide_eq_true (show((t:Nat):Int)<(es.length:Nat) by omega)];rfl) ⟨_,rfl,TK hΔ rfl hw (by omega) ?_⟩;show match AJ (.loc S.length) (S++[SO.lst (f8 (ws.map (·.1)))]) with | some ms=>_ | none=>_
 rw[Bf c9];refine⟨rfl,_,e7 c9,AA _,_,rfl,?_⟩;show if inS (.int t) (f8 (ws.map (·.1)))=true then _ else _
 rw[D3];have G1:Gw S (S++[SO.lst (f8 (ws.map (·.1)))]):=(Gw.refl S).push;generalize S++[SO.lst (f8 (ws.map (·.1)))]=S1 at *;refine ifD (λz=>no S1 G1 λh=>h.at.2.1 z) (λz=>f6 ?_);refine⟨_,rfl,_,rfl,_,rfl,_,rfl,htr (G1.keep _ _ hw) (by omega) tl ht λa S2 G2 _ h2=>?_⟩;show wSs Δ [tr5,tq6 kc] (j8 Q) [some (i4 n es),some (.int (hues:Nat)),some (.loc w),some (.tup [.int (t:Nat),.tup xs]),some (.int (t:Nat)),some (.loc a)] S2;refine⟨_,rfl,_,_,rfl,rfl,_,rfl,_,rfl,_,e7 h2,_,rfl,?_⟩;show if (!decide ((xs.length:Int)=((f8 (AF es hues ws t)).length:Nat)))=true then _ else _
 rw[g7];have G12:=G1.trans G2;by_cases zl:xs.length=(AF es hues ws t).length
 case neg=>exact ifT (by rw[decide_eq_false (λy=>zl (Ui.mp y))];rfl) (no S2 G12 λh=>zl h.at.2.2.1)
 refine ifF (by rw[decide_eq_true (show((xs.length:Nat):Int)=((AF es hues ws t).length:Nat) by rw[zl])];rfl) (f6 ?_);obtain⟨d2,b2,rfl,_,hg2⟩:=gc.el;have tp:TrP es.length (AF es hues) (.tup [.int (t:Nat),.tup xs]) ws↔∀(i:Nat) (x:SV) (u:Nat),xs[i]?=some x->(AF es hues ws t)[i]?=some u->TrP es.length (AF es hues) x (ws++[(t,u)]):=⟨λh=>h.at.2.2.2,λh => .nd ht z zl h⟩
 have q':∀(r:Bool) (S':Sto),Gw S S'->(r=true↔∀(i:Nat) (x:SV) (u:Nat),xs[i]?=some x->(AF es hues ws t)[i]?=some u->TrP es.length (AF es hues) x (ws++[(t,u)]))->Q (.bl r) S':=λr S' G h=>q r S' G (h.trans tp.symm);clear q tp no no2;have tln:=OX es hues ws t;generalize hO:AF es hues ws t=hs at *;refine⟨_,rfl,_,rfl,_,_,rfl,rfl,a,f8 hs,xs,rfl,h2,rfl,by rw[g7,zl],?_⟩;have zlen:(GV (f8 hs) xs).length=hs.length:=by rw[ET (by rw[g7,zl]),g7]
 refine y7 hΔ (λi=>decide (∀(x:SV) (u:Nat),xs[i]?=some x->hs[i]?=some u->TrP es.length (AF es hues) x (ws++[(t,u)]))) (by rw[zlen];omega) (λS' G=>by show S'[a]?=S2[a]?;rw[G.keep _ _ h2,h2]) ?_ ?_
 ·intro i x S3 hx G3;obtain⟨y,u,hy,hu,rfl⟩:=ES hx;obtain⟨hue,hh,rfl⟩:=Bh hy;have hw3:=G3.keep _ _ (G12.keep _ _ hw);refine⟨_,rfl,_,rfl,_,rfl,_,rfl,_,rfl,by show 2<=100000;decide,by show 1<=100000;decide,_,_,t5 hw3,c9,by rw[U4];show _<=100000;simp;omega,_,rfl,hc d2 (by omega) ((((hg2 u (UC hu)).grow G12).grow G3).grow (Gw.refl S3).push.push) (MX hw3) (by rw[UD,Ul];omega) (λp hp=>?_) λr S4 G4 er=>⟨?_,(G3.push.push).trans G4⟩⟩
  ·rcases UV.mp hp with hp | hp
   ·exact tl p hp
   ·rw[UA.mp hp];exact ht
  ·refine congrArg SV.bl (Ug.mpr (er.trans ?_));rw[dQ];constructor
   ·intro f x' u' e1 e2;rw[hu]at e1;rw[hh]at e2;cases e1;cases e2;exact f
   ·exact λf=>f u hue hu hh
 ·intro S3 G3;refine⟨_,_,nofun,e7 c9,AM _ _,q' _ _ (G12.trans G3).push ?_⟩;rw[all_mapF,zlen];constructor
  ·exact λf i x u hx hu=>of_decide_eq_true (f i (gM hu).1) x u hx hu
  ·exact λf i _=>decide_eq_true λx u hx hu=>f i x u hx hu
end
noncomputable def tmF(f:Nat×Nat->Bool)(es:EE)(j:Nat):Bool:=match es[j]? with | some e=>f e | none=>false
noncomputable def cnE(f:Nat×Nat->Bool)(es:EE):Nat:=(U7 es.length).countP (tmF f es)
noncomputable def atE(p:Nat)(e:Nat×Nat):Bool:=decide (e.1=p)||decide (e.2=p)
noncomputable def inE(A:List Nat)(e:Nat×Nat):Bool:=decide (e.1∈A)&&decide (e.2∈A)
theorem AN{f:Nat×Nat->Bool}{es:EE}{i:Nat}{e:Nat×Nat}(h:es[i]?=some e):(U7 (i+1)).countP (tmF f es)=(U7 i).countP (tmF f es)+if f e=true then 1 else 0:=by
 rw[VG,List.countP_append,List.countP_singleton];unfold tmF;rw[h]
theorem Me{f:Nat×Nat->Bool}{es:EE}(i:Nat):(U7 i).countP (tmF f es)<=i:=by
 have:=List.countP_le_length (p:=tmF f es) (l:=U7 i)
 rwa [Uy]at this
theorem Oh(es:EE)(p:Nat):(BQ es p es.length).length=cnE (atE p) es:=(List.countP_eq_length_filter ..).symm
noncomputable def C0(n:Nat)(es:EE)(hues:Nat)(x:SV):Prop:=∃ p:Nat,x = .int (p:Nat)/\p<n/\hues<cnE (atE p) es
noncomputable def CG(n:Nat)(es:EE)(hues:Nat)(x:SV):Prop:=∃ A:List Nat,x = .tup (f8 A)/\A.Pairwise (·<·)/\(∀ a∈A,a<n)/\3<=A.length/\A.length % 2=1/\hues * (A.length / 2)<cnE (inE A) es
theorem Eg{n:Nat}:∀{xs:List SV},(∀ i,i<xs.length->inI n (xs.getD i .non)=true)->∃ A:List Nat,xs=f8 A/\∀ a∈A,a<n
 | [],_=>⟨[],rfl,λ_ h=>nomatch h⟩
 | x::xs,h=>by
   obtain⟨t,e,ht⟩:=Mc (h 0 (XM _));obtain⟨A,e2,hA⟩:=Eg (xs:=xs) λi hi=>h (i+1) (WM hi);refine⟨t::A,?_,λa ha=>?_⟩
   ·rw[e2];have e:x = .int (t:Nat):=e;rw[e];rfl
   ·rcases UH.mp ha with rfl | ha
    ·exact ht
    ·exact hA a ha
theorem IQ{n:Nat}{A:List Nat}(h:∀ a∈A,a<n)(i:Nat)(hi:i<(f8 A).length):inI n ((f8 A).getD i .non)=true:=by
 rw[g7]at hi;have e:(f8 A)[i]?=some (.int ((A[i]:Nat):Int)):=by unfold f8;rw[UJ,UI hi];rfl
 rw[UU,e];exact Ee (h _ (Ut hi))
section
variable{Δ:Nat->Sn}
noncomputable def IR(k:Nat):List Stm:=[(.ret (.bi .len (.cons (.call k (.cons (.var 0) (.cons (.var 1) .nil))) .nil)))]
noncomputable def C1(s:Sn):Prop:=∀{n p:Nat} {es:EE} {S:Sto} {Q:QE},es.length<=1000->p<n->(∀ S',Gw S S'->Q (.int (cnE (atE p) es:Nat)) S')->s [i4 n es,.int p] S Q
theorem Jt{k:Nat}(h0:D1 (Δ k)){D:Df}(hb:D.body=IR k)(hN:D.N.length=2)(hp:D.ps.length=2):C1 (g0 Δ D):=by
 intro n p es S Q hl h q;unfold g0;rw[hb,hN];refine⟨hp.symm,_,rfl,_,rfl,h0 (by omega) h ⟨_,e7 c9,?_⟩⟩;rw[g7,Oh];exact q _ (Gw.refl S).push
noncomputable def Fs:List Stm:=[(.ret (.bi .len (.cons (.comp ["_law_pair"] ["_law_place"] [1] (.nm 0) (.seq (.ix (.var 0) (.c (.int 1)))) (.yes (.cmp .In (.var 1) (.var 0))) (.var 0)) .nil)))]
theorem HJ(hΔ:∀ f,MonoN (Δ f)){D:Df}(hb:D.body=Fs)(hN:D.N.length=2)(hp:D.ps.length=2):C1 (g0 Δ D):=by
 intro n p es S Q hl h q;unfold g0;rw[hb,hN];refine⟨hp.symm,_,rfl,_,_,rfl,rfl,_,rfl,?_⟩;refine i7 (j5 hΔ _).2 (c7 hΔ _).1 (λi ys S'=>S'=S/\ys.length=(U7 i).countP (tmF (atE p) es)) ⟨rfl,rfl⟩ (λ_ _ _ _=>trivial) ?_ ?_
 ·rintro i x ys S' hx ⟨rfl,hy⟩;obtain⟨e,he,rfl⟩:=B3 hx;have hi:=(gM he).1;have hc:=Me (f:=atE p) (es:=es) i;refine⟨_,rfl,_,rfl,rfl,_,rfl,rfl,_,rfl,?_⟩;show if inS (.int p) [.int e.1,.int e.2]=true then _ else _
  rw[B9];refine ifB (λh=>?_) (λh=>?_)
  ·exact⟨_,rfl,by show _<100000;omega,rfl,by rw[AN he,iP (show atE p e=true from h),UD,hy];rfl⟩
  ·exact⟨rfl,by rw[AN he,iG (by unfold atE;rw[h];decide),hy];rfl⟩
 ·rintro ys S' ⟨rfl,hy⟩;rw[U4]at hy;refine⟨_,e7 c9,?_⟩;rw[hy];exact q _ (Gw.refl S').push
noncomputable def Mf(kh kc:Nat):List Stm:=[(.ret (.and (.call kh (.cons (.var 0) (.cons (.var 2) .nil))) (.cmp .Gt (.call kc (.cons (.var 0) (.cons (.var 2) .nil))) (.var 1))))]
noncomputable def v6(P:Nat->EE->Nat->SV->Prop)(s:Sn):Prop:=∀{n hues k b:Nat} {es:EE} {x:SV} {S:Sto} {Q:QE},(∀ e∈es,e.1<e.2/\e.2<n)->es.length<=60->k<=20->Gd (VS S) k b x->(∀(r:Bool) (S':Sto),Gw S S'->(r=true↔P n es hues x)->Q (.bl r) S')->s [i4 n es,.int (hues:Nat),x] S Q
theorem Mg(a b:Nat):decide ((a:Int)>(b:Int))=true↔b<a:=by rw[dQ];omega
theorem Mh{kh kc:Nat}(hh:HH (Δ kh) λn _=>n)(hc:C1 (Δ kc)){D:Df}(hb:D.body=Mf kh kc)(hN:D.N.length=3)(hp:D.ps.length=3):v6 C0 (g0 Δ D):=by
 intro n hues k b es x S Q _ hl _ hx q;unfold g0;rw[hb,hN];refine⟨hp.symm,_,rfl,_,rfl,hh hx ⟨_,rfl,?_⟩⟩;by_cases z:inI n x=true
 ·rw[z];obtain⟨p,rfl,hp⟩:=Mc z;refine ifT rfl ⟨_,rfl,_,rfl,hc (by omega) hp λS' G=>⟨_,rfl,q _ S' G ?_⟩⟩;rw[Mg];exact⟨λh=>⟨p,rfl,hp,h⟩,λ⟨p',e,_,h⟩=>by injection e with e;rw[Ui.mp e];exact h⟩
 ·rw[UK.mpr z];exact ifF rfl (q false S (Gw.refl S) ⟨nofun,λ⟨p,e,h,_⟩=>by rw[e]at z;exact absurd (Ee h) z⟩)
noncomputable def IS:List Stm:=[(.asg (.nm 2) (.setl (.var 1))),(.ret (.comp ["tie","one","other"] ["among"] [2] (.tup (.cons (.nm 0) (.cons (.tup (.cons (.nm 1) (.cons (.nm 2) .nil))) .nil))) (.enum (.ix (.var 0) (.c (.int 1)))) (.yes (.and (.cmp .In (.var 1) (.var 3)) (.cmp .In (.var 2) (.var 3)))) (.var 0)))]
noncomputable def DB(s:Sn):Prop:=∀{n:Nat} {es:EE} {A:List Nat} {S:Sto} {Q:QE},es.length<=1000->A.length<=63->(∀(l:Nat) (ys:List SV) (S':Sto),Gw S S'->S'[l]?=some (.lst ys)->ys.length=cnE (inE A) es->Q (.loc l) S')->s [i4 n es,.tup (f8 A)] S Q
theorem Ft(A:List Nat):CA (f8 A)=some (iN A):=by
 induction A with
 | nil=>rfl
 | cons a A ih=>
   show(CA (f8 A)).map ((a:Int)::·)=_;rw[ih];rfl
theorem IT(A:List Nat)(a:Nat):decide ((a:Int)∈n8 (iN A))=decide (a∈A):=by
 rw[decide_eq_decide];refine(show(a:Int)∈n8 (iN A)↔(a:Int)∈iN A from BZ _ _).trans ?_;unfold iN;rw[Um];exact⟨λ⟨x,hx,e⟩=>by rw[<-Ui.mp e];exact hx,λh=>⟨a,h,rfl⟩⟩
theorem Ju(hΔ:∀ f,MonoN (Δ f)){D:Df}(hb:D.body=IS)(hN:D.N.length=3)(hp:D.ps.length=2):DB (g0 Δ D):=by
 intro n es A S Q hl hA q;unfold g0;rw[hb,hN];refine⟨hp.symm,_,rfl,_,_,rfl,Ft A,by unfold iN;rw[U4];omega,_,rfl,_,_,rfl,rfl,_,rfl,?_⟩;have hs:(S++[SO.iset (n8 (iN A))])[S.length]?=some (.iset (n8 (iN A))):=c9;have G1:Gw S (S++[SO.iset (n8 (iN A))]):=(Gw.refl S).push;dsimp only[List.set];generalize S.length=m at *;generalize S++[SO.iset (n8 (iN A))]=S1 at *;refine i7 (j5 hΔ _).2 (c7 hΔ _).1 (λi ys S'=>S'=S1/\ys.length=(U7 i).countP (tmF (inE A) es)) ⟨rfl,rfl⟩ (λ_ _ _ _=>trivial) ?_ ?_
 ·rintro i x ys S' hx ⟨rfl,hy⟩;obtain⟨y,hy',rfl⟩:=EZ hx;obtain⟨e,he,rfl⟩:=B3 hy';have hi:=(gM he).1;have hc:=Me (f:=inE A) (es:=es) i;refine⟨_,rfl,_,rfl,?_⟩;show match AJ (.loc m) S' with | some ms=>_ | none=>_
  rw[Fg hs];refine⟨_,rfl,rfl,_,rfl,?_⟩;show if decide ((e.1:Int)∈n8 (iN A))=true then _ else _
  rw[IT];refine ifD (λz1=>⟨_,rfl,_,rfl,?_⟩) (λz1=>ifF rfl ⟨rfl,by rw[AN he,iG (by unfold inE;rw[decide_eq_false z1,Vu];decide),hy];rfl⟩);show match AJ (.loc m) S' with | some ms=>_ | none=>_
  rw[Fg hs];refine⟨_,rfl,rfl,_,rfl,?_⟩;show if decide ((e.2:Int)∈n8 (iN A))=true then _ else _
  rw[IT];refine ifD (λz2=>⟨_,rfl,by show _<100000;omega,rfl,by rw[AN he,iP (by unfold inE;rw[decide_eq_true z1,decide_eq_true z2];rfl),UD,hy];rfl⟩) (λz2=>⟨rfl,by rw[AN he,iG (by unfold inE;rw[decide_eq_false z2,WY];decide),hy];rfl⟩)
 ·rintro ys S' ⟨rfl,hy⟩;rw[CO,U4]at hy;exact q _ ys _ G1.push c9 hy
noncomputable def fs1(kr kh:Nat):Stm:=(.iff (.or (.not (.bi .isi (.cons (.var 2) (.cons (.tyc .tuple) .nil)))) (.or (.not (.call kr (.cons (.var 2) .nil))) (.not (.bi .all (.cons (.comp ["place"] ["web"] [0] (.nm 0) (.seq (.var 2)) .no (.call kh (.cons (.var 1) (.cons (.var 0) .nil)))) .nil))))) [(.ret (.c (.bl false)))] [])
noncomputable def fs2:Stm:=(.iff (.or (.cmp .Lt (.bi .len (.cons (.var 2) .nil)) (.c (.int 3))) (.cmp .Eq (.op .Mod (.bi .len (.cons (.var 2) .nil)) (.c (.int 2))) (.c (.int 0)))) [(.ret (.c (.bl false)))] [])
noncomputable def fs3(kw:Nat):Stm:=(.ret (.cmp .Gt (.bi .len (.cons (.call kw (.cons (.var 0) (.cons (.var 2) .nil))) .nil)) (.op .Mult (.var 1) (.op .FloorDiv (.bi .len (.cons (.var 2) .nil)) (.c (.int 2))))))
noncomputable def Mi(kr kh kw:Nat):List Stm:=[fs1 kr kh,fs2,fs3 kw]
theorem Mj(hΔ:∀ f,MonoN (Δ f)){kr kh kw:Nat}(hr:RE (Δ kr))(hh:HH (Δ kh) λn _=>n)(hw:DB (Δ kw)){D:Df}(hb:D.body=Mi kr kh kw)(hN:D.N.length=3)(hp:D.ps.length=3):v6 CG (g0 Δ D):=by
 intro n hues k b es x S Q _ hel _ hx q;unfold g0;rw[hb,hN];have no:∀ S',Gw S S'->¬ CG n es hues x->Q (.bl false) S':=λS' G h=>q false S' G ⟨nofun,λz=>absurd z h⟩;obtain⟨ty,e1,e2⟩:=hx.isT;refine⟨hp.symm,_,rfl,_,nofun,e1,_,rfl,?_⟩;rw[e2];by_cases it:isT x=true
 case neg=>
  rw[UK.mpr it];exact ifT rfl (no S (Gw.refl S) λ⟨A,e,_⟩=>by rw[e]at it;exact it rfl)
 rw[it];obtain⟨xs,rfl⟩:=DA it;obtain⟨k1,b1,rfl,hxl,hg⟩:=hx.el;refine ifF rfl ⟨_,rfl,hr hx λr S1 G1 er=>⟨_,rfl,?_⟩⟩;cases r with
 | false=>
   refine ifT rfl (no S1 G1 λ⟨A,e,pw,_⟩=>WK (er.mpr ⟨iN A,?_,?_⟩))
   ·injection e with e;rw[e,<-Ea];rfl
   ·unfold iN;rw[VZ];exact pw.imp λh=>by omega
 | true=>
 obtain⟨is,e,pw⟩:=er.mp rfl;have e:xs=is.map SV.int:=oj e;refine ifF rfl ⟨_,rfl,_,rfl,?_⟩;refine y7 hΔ (λi=>inI n (xs.getD i .non)) (by omega) (λ_ _=>trivial) ?_ ?_
 ·intro i y S' hy G;refine⟨_,rfl,_,rfl,hh (((hg y (UC hy)).grow G1).grow G) ⟨?_,G⟩⟩;rw[UU,hy];rfl
 intro S2 G2;have G3:=(G1.trans G2).push (o:=SO.lst ((U7 xs.length).map λi => .bl (inI n (xs.getD i .non))));refine⟨_,_,nofun,e7 c9,AM _ _,_,rfl,?_⟩;generalize S2++[SO.lst ((U7 xs.length).map λi => .bl (inI n (xs.getD i .non)))]=S3 at *;by_cases hA:((U7 xs.length).map λi=>inI n (xs.getD i .non)).all id=true
 case neg=>
  rw[UK.mpr hA];exact ifT rfl (no S3 G3 λ⟨A,e,_,h,_⟩=>hA (by injection e with e;rw[e];exact all_mapF.mpr (IQ h)))
 rw[hA];obtain⟨A,rfl,hAn⟩:=Eg (all_mapF.mp hA)
 have pA:A.Pairwise (·<·):=by
  rw[<-Ea]at e;have e:=y8 e;rw[<-e]at pw;unfold iN at pw;rw[VZ]at pw;exact pw.imp λh=>by omega
 rw[g7]at hxl;refine ifF rfl (f6 ?_);show wSs Δ [fs2,fs3 kw] (j8 Q) [some (i4 n es),some (.int (hues:Nat)),some (.tup (f8 A))] S3;have sp:CG n es hues (.tup (f8 A))↔3<=A.length/\A.length % 2=1/\hues * (A.length / 2)<cnE (inE A) es:=⟨λ⟨B,e,_,_,h⟩=>by injection e with e;rw[Fo e];exact h,λh=>⟨A,rfl,pA,hAn,h⟩⟩
 refine⟨_,rfl,_,rfl,_,rfl,?_⟩;show if decide (((f8 A).length:Int)<3)=true then _ else _
 rw[g7];refine ifD (λz=>no S3 G3 λh=>by have:=(sp.mp h).1;omega) (λz3=>⟨_,rfl,_,rfl,by show(0:Int)<2;decide,_,rfl,?_⟩);show if decide (((f8 A).length:Int) % 2=0)=true then _ else _
 rw[g7];refine ifD (λz=>no S3 G3 λh=>by have:=(sp.mp h).2.1;omega) (λz2=>f6 ?_);refine⟨_,rfl,_,rfl,hw (by omega) hxl λl ys S4 G4 hl hy=>⟨_,e7 hl,_,rfl,_,rfl,_,rfl,⟨by decide,by decide⟩,?_⟩⟩;refine⟨.inr (by rw[g7];exact⟨by omega,by omega⟩),?_⟩;show Q (.bl (decide ((ys.length:Int)>(hues:Nat) * (((f8 A).length:Int) / 2)))) S4;rw[g7,hy];refine q _ S4 (G3.trans G4) ?_;rw[sp,dQ];have e:((hues * (A.length / 2):Nat):Int)=(hues:Int) * ((A.length:Int) / 2):=by rw[X0,Int.natCast_ediv];rfl
 constructor
 ·exact λh=>⟨by omega,by omega,by omega⟩
 ·exact λh=>by have:=h.2.2;omega
noncomputable def ls1:Stm:=(.iff (.or (.not (.bi .isi (.cons (.var 2) (.cons (.tyc .tuple) .nil)))) (.or (.cmp .Lt (.bi .len (.cons (.var 2) .nil)) (.c (.int 3))) (.cmp .Eq (.op .Mod (.bi .len (.cons (.var 2) .nil)) (.c (.int 2))) (.c (.int 0))))) [(.ret (.c (.bl false)))] [])
noncomputable def ls2(kn:Nat):Stm:=(.iff (.not (.bi .all (.cons (.comp ["_law_place"] ["_law_web_here"] [0] (.nm 0) (.seq (.var 2)) .no (.and (.call kn (.cons (.var 0) .nil)) (.chn .LtE .Lt (.c (.int 0)) (.var 0) (.ix (.var 1) (.c (.int 0)))))) .nil))) [(.ret (.c (.bl false)))] [])
noncomputable def ls3:Stm:=(.iff (.cmp .NotEq (.bi .list (.cons (.var 2) .nil)) (.srtset (.var 2))) [(.ret (.c (.bl false)))] [])
noncomputable def ls4:Stm:=(.asg (.nm 3) (.comp ["_law_pair"] ["_law_places"] [2] (.nm 0) (.seq (.ix (.var 0) (.c (.int 1)))) (.yes (.and (.cmp .In (.ix (.var 0) (.c (.int 0))) (.var 1)) (.cmp .In (.ix (.var 0) (.c (.int 1))) (.var 1)))) (.var 0)))
noncomputable def ls5:Stm:=(.ret (.cmp .Gt (.bi .len (.cons (.var 3) .nil)) (.op .Mult (.var 1) (.op .FloorDiv (.op .Sub (.bi .len (.cons (.var 2) .nil)) (.c (.int 1))) (.c (.int 2))))))
noncomputable def PY(kn:Nat):List Stm:=[ls1,ls2 kn,ls3,ls4,ls5]
theorem Oi(hΔ:∀ f,MonoN (Δ f)){kn:Nat}(hn:CF (Δ kn)){D:Df}(hb:D.body=PY kn)(hN:D.N.length=4)(hp:D.ps.length=3):v6 CG (g0 Δ D):=by
 intro n hues k b es x S Q _ hel _ hx q;unfold g0;rw[hb,hN];have no:∀ S',Gw S S'->¬ CG n es hues x->Q (.bl false) S':=λS' G h=>q false S' G ⟨nofun,λz=>absurd z h⟩;obtain⟨ty,e1,e2⟩:=hx.isT;refine⟨hp.symm,_,rfl,_,nofun,e1,_,rfl,?_⟩;rw[e2];by_cases it:isT x=true
 case neg=>
  rw[UK.mpr it];exact ifT rfl (no S (Gw.refl S) λ⟨A,e,_⟩=>by rw[e]at it;exact it rfl)
 rw[it];obtain⟨xs,rfl⟩:=DA it;obtain⟨k1,b1,rfl,hxl,hg⟩:=hx.el;have len:∀ A,SV.tup xs = .tup (f8 A)->xs.length=A.length:=λA e=>by injection e with e;rw[e,g7]
 refine ifF rfl ⟨_,rfl,_,rfl,_,rfl,?_⟩;show if decide ((xs.length:Int)<3)=true then _ else _
 refine ifD (λz=>no S (Gw.refl S) λ⟨A,e,_,_,h,_⟩=>by have:=len A e;omega) (λz3=>⟨_,rfl,_,rfl,by show(0:Int)<2;decide,_,rfl,?_⟩);show if decide ((xs.length:Int) % 2=0)=true then _ else _
 refine ifD (λz=>no S (Gw.refl S) λ⟨A,e,_,_,_,h,_⟩=>by have:=len A e;omega) (λz2=>f6 ?_);refine⟨_,rfl,_,rfl,?_⟩;refine y7 hΔ (λi=>inI n (xs.getD i .non)) (by omega) (λ_ _=>trivial) ?_ ?_
 ·intro i y S' hy G;have ey:xs.getD i .non=y:=by rw[UU,hy];rfl
  rw[ey];refine⟨_,rfl,hn ((hg y (UC hy)).grow G) ⟨_,rfl,?_⟩⟩;cases y with
  | int i=>
    refine ifT rfl ⟨_,rfl,_,rfl,?_⟩;refine ifD (λz=>⟨_,rfl,_,_,rfl,rfl,?_,G⟩) (λz=>⟨?_,G⟩)
    ·show SV.bl (decide (i<(n:Nat))) = .bl (decide ((0:Int)<=i)&&decide (i<(n:Nat)));rw[decide_eq_true (show(0:Int)<=i from z),XA]
    ·show SV.bl false = .bl (decide ((0:Int)<=i)&&decide (i<(n:Nat)));rw[decide_eq_false (show ¬ (0:Int)<=i from z),Vu]
  | _=>exact ifF rfl ⟨rfl,G⟩
 intro S2 G2;have G3:=G2.push (o:=SO.lst ((U7 xs.length).map λi => .bl (inI n (xs.getD i .non))));refine⟨_,_,nofun,e7 c9,AM _ _,_,rfl,?_⟩;generalize S2++[SO.lst ((U7 xs.length).map λi => .bl (inI n (xs.getD i .non)))]=S3 at *;by_cases hA:((U7 xs.length).map λi=>inI n (xs.getD i .non)).all id=true
 case neg=>
  rw[UK.mpr hA];exact ifT rfl (no S3 G3 λ⟨A,e,_,h,_⟩=>hA (by injection e with e;rw[e];exact all_mapF.mpr (IQ h)))
 rw[hA];obtain⟨A,rfl,hAn⟩:=Eg (all_mapF.mp hA);rw[g7]at hxl z3 z2;refine ifF rfl (f6 ?_);show wSs Δ [ls3,ls4,ls5] (j8 Q) [some (i4 n es),some (.int (hues:Nat)),some (.tup (f8 A)),none] S3;have sp:CG n es hues (.tup (f8 A))↔A.Pairwise (·<·)/\hues * (A.length / 2)<cnE (inE A) es:=⟨λ⟨B,e,p,_,_,_,h⟩=>by injection e with e;rw[Fo e];exact⟨p,h⟩,λh=>⟨A,rfl,h.1,hAn,by omega,by omega,h.2⟩⟩
 refine⟨_,rfl,_,rfl,_,rfl,_,_,rfl,Ft A,by unfold iN;rw[U4];omega,?_⟩;refine⟨_,_,t5 c9,c9,.inl ⟨AA _,Jp _⟩,_,rfl,?_⟩;have G4:=G3.push (o:=SO.lst (f8 A)) |>.push (o:=SO.lst ((srt (n8 (iN A))).map SV.int))
 generalize (S3++[SO.lst (f8 A)])++[SO.lst ((srt (n8 (iN A))).map SV.int)]=S4 at *;show if (!BK (f8 A) ((srt (n8 (iN A))).map SV.int))=true then _ else _
 rw[show BK (f8 A) ((srt (n8 (iN A))).map SV.int)=BK ((iN A).map SV.int) ((srt (n8 (iN A))).map SV.int) from by rw[Bz A]];by_cases pA:BK ((iN A).map SV.int) ((srt (n8 (iN A))).map SV.int)=true
 case neg=>
  rw[UK.mpr pA];rw[D6,Fp]at pA;exact ifT rfl (no S4 G4 λh=>pA (sp.mp h).1)
 rw[pA];rw[D6,Fp]at pA;refine ifF rfl (f6 ?_);refine⟨_,rfl,_,_,rfl,rfl,_,rfl,?_⟩;refine i7 (j5 hΔ _).2 (c7 hΔ _).1 (λi ys S'=>S'=S4/\ys.length=(U7 i).countP (tmF (inE A) es)) ⟨rfl,rfl⟩ (λ_ _ _ _=>trivial) ?_ ?_
 ·rintro i x ys S' hx ⟨rfl,hy⟩;obtain⟨e,he,rfl⟩:=B3 hx;have hi:=(gM he).1;have hc:=Me (f:=inE A) (es:=es) i;refine⟨_,rfl,_,_,rfl,rfl,_,rfl,rfl,_,rfl,AA _,_,rfl,?_⟩;show if inS (.int e.1) (f8 A)=true then _ else _
  rw[D3];refine ifD (λz1=>⟨_,rfl,_,_,rfl,rfl,_,rfl,rfl,_,rfl,AA _,_,rfl,?_⟩) (λz1=>ifF rfl ⟨rfl,by rw[AN he,iG (by unfold inE;rw[decide_eq_false z1,Vu];decide),hy];rfl⟩);show if inS (.int e.2) (f8 A)=true then _ else _
  rw[D3];refine ifD (λz2=>⟨_,rfl,by show _<100000;omega,rfl,by rw[AN he,iP (by unfold inE;rw[decide_eq_true z1,decide_eq_true z2];rfl),UD,hy];rfl⟩) (λz2=>⟨rfl,by rw[AN he,iG (by unfold inE;rw[decide_eq_false z2,WY];decide),hy];rfl⟩)
 ·rintro ys S' ⟨rfl,hy⟩;rw[U4]at hy;have hy:ys.length=cnE (inE A) es:=hy;refine⟨_,rfl,_,e7 c9,_,rfl,_,rfl,_,rfl,⟨by decide,by decide⟩,.inr (by rw[g7];exact⟨by omega,by omega⟩),?_⟩;show Q (.bl (decide ((ys.length:Int)>(hues:Nat) * ((((f8 A).length:Int) - 1) / 2)))) _;rw[g7,hy];refine q _ _ G4.push ?_;rw[sp,dQ]
  have e:((hues * (A.length / 2):Nat):Int)=(hues:Int) * (((A.length:Int) - 1) / 2):=by
   have h2:((A.length:Int) - 1) / 2=((A.length / 2:Nat):Int):=by omega
   rw[h2,X0]
  exact⟨λh=>⟨pA,by omega⟩,λh=>by have:=h.2;omega⟩
end
noncomputable def Fu(n:Nat)(es:EE)(hues:Nat)(x:SV):Prop:=TrP es.length (AF es hues) x []
noncomputable def C2(n:Nat)(es:EE)(hues:Nat)(x:SV):Prop:=∃ w y,x = .tup [w,y]/\((w = .str "place"/\C0 n es hues y)\/(w = .str "set"/\CG n es hues y)\/(w = .str "tree"/\Fu n es hues y))
noncomputable def isW(t:Str):SV->Bool
 | .str s=>decide (s=t)
 | _=>false
theorem Du{t:Str}{x:SV}(h:isW t x=true):x = .str t:=by
 cases x with
 | str s=>rw[of_decide_eq_true (show decide (s=t)=true from h)]
 | _=>cases h
theorem RG{S:Sto}{k b:Nat}{w:SV}{t:Str}{Q:QE}(h:Gd (VS S) k b w)(q:Q (.bl (isW t w)) S):sEq w (.str t) S Q:=by
 cases h with
 | lst hv _ _ _=>exact⟨⟨_,hv⟩,q⟩
 | _=>exact q
section
variable{Δ:Nat->Sn}
theorem BA{S:Sto}{k b:Nat}{w:SV}{t:Str}{ρ:EnvS}{Q:QE}(h:Gd (VS S) k b w)(q:Q (.bl (isW t w)) S):(λx S1=>(wEx Δ (.c (.str t))).1 ρ S1 λy S2=>Ac .Eq x y S2 Q) w S:=RG h q
theorem Mk{kc:Nat}(hc:∀ d,d<=20->CQ (Δ kc) d){D:Df}(hb:D.body=MY kc)(hN:D.N.length=4)(hp:D.ps.length=3):v6 Fu (g0 Δ D):=by
 intro n hues k b es x S Q _ hel hk hx q;unfold g0;rw[hb,hN];have ee:(es.map pairS).length=es.length:=U4 ..;have em:(if ((es.map pairS).length:Int)<(hues:Nat) then ((es.map pairS).length:Int) else (hues:Nat))=((min hues es.length:Nat):Int):=by rw[ee];split<;>omega
 refine⟨hp.symm,_,rfl,_,rfl,_,_,rfl,rfl,_,rfl,_,congrArg SV.int em,⟨by omega,by omega⟩,?_⟩;rw[IG];have G1:Gw S (S++[SO.lst (f8 (U7 (min hues es.length)))]):=(Gw.refl S).push;have h1:(S++[SO.lst (f8 (U7 (min hues es.length)))])[S.length]?=some (.lst (f8 (U7 (min hues es.length)))):=c9;show wSs Δ _ _ [some (i4 n es),some (.int (hues:Nat)),some x,some (.loc S.length)] _;generalize S.length=m at *;generalize S++[SO.lst (f8 (U7 (min hues es.length)))]=S1 at *;refine⟨_,rfl,_,rfl,by show 1<=100000;decide,_,rfl,_,_,rfl,rfl,_,rfl,[.loc m],c9,⟨by rw[ee];omega,by rw[ee];omega⟩,by rw[ee];show 1 * _<=100000;omega,?_⟩;rw[ee,VD,List.flatten_replicate_singleton];have G3:Gw S (((S1++[SO.lst [SV.loc m]])++[SO.lst (UO es.length (SV.loc m))])++[SO.dct []]):=G1.push.push.push;refine⟨_,rfl,hc k hk (hx.grow G3) (ws:=[]) (K:=min hues es.length) c9 (t5 c9) (t5 (t5 (t5 h1))) (by rw[V9];omega) (by omega) (λ_ h=>nomatch h) λr S' O d er=>?_⟩;refine q r S' ⟨UR G3.len O.len,λi o ho=>O.keep _ _ ?_ (G3.keep _ _ ho)⟩ (er.trans ⟨λh=>OZ h WayOk.nil,λh=>Oa h WayOk.nil⟩);have a:=(gM ho).1;have b:=(G1.push (o:=SO.lst [SV.loc m])).push (o:=SO.lst (UO es.length (SV.loc m))) |>.len
 exact UF (UP a b)
theorem AO{n hues:Nat}{es:EE}{w y:SV}{P:Prop}(h:((w = .str "place"/\C0 n es hues y)\/(w = .str "set"/\CG n es hues y)\/(w = .str "tree"/\Fu n es hues y))↔P):C2 n es hues (.tup [w,y])↔P:=by
 refine Iff.trans ⟨λ⟨w',y',e,h⟩=>?_,λh=>⟨w,y,rfl,h⟩⟩ h;injection e with e;injection e with e1 e;injection e with e2 _;rw[e1,e2];exact h
theorem A6{a b:Str}(h:decide (a=b)=false){P:Prop}(e:SV.str a=SV.str b):P:=by
 injection e with e;exact absurd e (of_decide_eq_false h)
theorem Oj{kp ka kb kf:Nat}(hpr:PrG (Δ kp))(ha:v6 C0 (Δ ka))(hs:v6 CG (Δ kb))(hf:v6 Fu (Δ kf)){D:Df}(hb:D.body=MZ kp ka kb kf)(hN:D.N.length=5)(hp:D.ps.length=3):v6 C2 (g0 Δ D):=by
 intro n hues k b es x S Q W hel hk hx q;unfold g0;rw[hb,hN];refine⟨hp.symm,_,rfl,hpr hx ⟨_,rfl,?_⟩⟩;by_cases ip:isP x=true
 case neg=>
  rw[UK.mpr ip];exact ifT rfl (q false S (Gw.refl S) ⟨nofun,λ⟨w,y,e,_⟩=>by rw[e]at ip;exact absurd rfl ip⟩)
 rw[ip];obtain⟨w,y,rfl⟩:=IO ip;obtain⟨k1,b1,rfl,_,hg⟩:=hx.el;have gw:=hg w (UG ..);have gy:=hg y (UE _ (UG ..));refine ifF rfl (f6 ⟨_,rfl,⟨_,rfl,?_⟩⟩);refine BA gw ⟨_,rfl,?_⟩;by_cases i1:isW "place" w=true
 ·rw[i1];obtain rfl:=Du i1;refine ifT rfl ⟨_,rfl,_,rfl,_,rfl,ha W hel (by omega) gy λr S' G er=>q r S' G (er.trans (AO ?_).symm)⟩;exact⟨λh=>h.elim (λh=>h.2) λh=>h.elim (λh=>A6 (by decide) h.1) λh=>A6 (by decide) h.1,λh => .inl ⟨rfl,h⟩⟩
 rw[UK.mpr i1];refine ifF rfl (f6 ⟨_,rfl,BA gw ⟨_,rfl,?_⟩⟩);by_cases i2:isW "set" w=true
 ·rw[i2];obtain rfl:=Du i2;refine ifT rfl ⟨_,rfl,_,rfl,_,rfl,hs W hel (by omega) gy λr S' G er=>q r S' G (er.trans (AO ?_).symm)⟩;exact⟨λh=>h.elim (λh=>A6 (by decide) h.1) λh=>h.elim (λh=>h.2) λh=>A6 (by decide) h.1,λh => .inr (.inl ⟨rfl,h⟩)⟩
 rw[UK.mpr i2];refine ifF rfl (f6 ⟨_,rfl,BA gw ⟨_,rfl,?_⟩⟩);by_cases i3:isW "tree" w=true
 ·rw[i3];obtain rfl:=Du i3;refine ifT rfl ⟨_,rfl,_,rfl,_,rfl,hf W hel (by omega) gy λr S' G er=>q r S' G (er.trans (AO ?_).symm)⟩;exact⟨λh=>h.elim (λh=>A6 (by decide) h.1) λh=>h.elim (λh=>A6 (by decide) h.1) λh=>h.2,λh => .inr (.inr ⟨rfl,h⟩)⟩
 rw[UK.mpr i3];exact ifF rfl (q false S (Gw.refl S) ⟨nofun,λh=>((AO Iff.rfl).mp h).elim (λh=>by rw[h.1]at i1;exact absurd rfl i1) λh=>h.elim (λh=>by rw[h.1]at i2;exact absurd rfl i2) λh=>by rw[h.1]at i3;exact absurd rfl i3⟩)
noncomputable def tk1:Stm:=(.iff (.or (.not (.bi .isi (.cons (.var 2) (.cons (.tyc .tuple) .nil)))) (.cmp .NotEq (.bi .len (.cons (.var 2) .nil)) (.c (.int 2)))) [(.ret (.c (.bl false)))] [])
noncomputable def tk2:Stm:=(.asg (.tup (.cons (.nm 3) (.cons (.nm 4) .nil))) (.var 2))
noncomputable def tk3(kn kc:Nat):Stm:=(.iff (.cmp .Eq (.var 3) (.c (.str "place"))) [(.ret (.and (.call kn (.cons (.var 4) .nil)) (.and (.chn .LtE .Lt (.c (.int 0)) (.var 4) (.ix (.var 0) (.c (.int 0)))) (.cmp .Gt (.call kc (.cons (.var 0) (.cons (.var 4) .nil))) (.var 1)))))] [])
noncomputable def tk4(kb:Nat):Stm:=(.iff (.cmp .Eq (.var 3) (.c (.str "set"))) [(.ret (.call kb (.cons (.var 0) (.cons (.var 1) (.cons (.var 4) .nil)))))] [])
noncomputable def tk5(kf:Nat):Stm:=(.ret (.and (.cmp .Eq (.var 3) (.c (.str "tree"))) (.call kf (.cons (.var 0) (.cons (.var 1) (.cons (.lst .nil) (.cons (.var 4) .nil)))))))
noncomputable def IU(kn kc kb kf:Nat):List Stm:=[tk1,tk2,tk3 kn kc,tk4 kb,tk5 kf]
theorem Jv{kn kc kb kf:Nat}(hn:CF (Δ kn))(hc:C1 (Δ kc))(hs:v6 CG (Δ kb))(hf:∀ d,d<=20->IP (Δ kf) d){D:Df}(hb:D.body=IU kn kc kb kf)(hN:D.N.length=5)(hp:D.ps.length=3):v6 C2 (g0 Δ D):=by
 intro n hues k b es x S Q W hel hk hx q;unfold g0;rw[hb,hN];have no:¬ C2 n es hues x->Q (.bl false) S:=λh=>q false S (Gw.refl S) ⟨nofun,λz=>absurd z h⟩;obtain⟨ty,e1,e2⟩:=hx.isT;refine⟨hp.symm,_,rfl,_,nofun,e1,_,rfl,?_⟩;rw[e2];by_cases it:isT x=true
 case neg=>
  rw[UK.mpr it];exact ifT rfl (no λ⟨_,_,e,_⟩=>by rw[e]at it;exact it rfl)
 rw[it];obtain⟨ys,rfl⟩:=DA it;refine ifF rfl ⟨_,rfl,_,rfl,_,rfl,?_⟩;show if (!decide ((ys.length:Int)=2))=true then _ else _
 rw[Eb];by_cases ip:isP (.tup ys)=true
 case neg=>
  rw[UK.mpr ip];exact ifT rfl (no λ⟨_,_,e,_⟩=>by rw[e]at ip;exact ip rfl)
 rw[ip];obtain⟨w,y,e⟩:=IO ip;injection e with e;subst e;obtain⟨k1,b1,rfl,_,hg⟩:=hx.el;have gw:=hg w (UG ..);have gy:=hg y (UE _ (UG ..));refine ifF rfl (f6 ⟨_,rfl,?_⟩);show wSs Δ [tk3 kn kc,tk4 kb,tk5 kf] (j8 Q) [some (i4 n es),some (.int (hues:Nat)),some (.tup [w,y]),some w,some y] S;refine⟨_,rfl,BA gw ⟨_,rfl,?_⟩⟩;by_cases i1:isW "place" w=true
 ·rw[i1];obtain rfl:=Du i1;have fp:C2 n es hues (.tup [.str "place",y])↔C0 n es hues y:=AO ⟨λh=>h.elim (λh=>h.2) λh=>h.elim (λh=>A6 (by decide) h.1) λh=>A6 (by decide) h.1,λh => .inl ⟨rfl,h⟩⟩;refine ifT rfl ⟨_,rfl,hn gy ⟨_,rfl,?_⟩⟩;cases y with
  | int i=>
    refine ifT rfl ⟨_,rfl,_,rfl,?_⟩;refine ifD (λz=>⟨_,rfl,_,_,rfl,rfl,_,rfl,?_⟩) (λz=>⟨_,rfl,ifF rfl (no λh=>by obtain⟨p,e,_⟩:=fp.mp h;injection e with e;exact z (by show(0:Int)<=i;omega))⟩);obtain⟨p,rfl⟩:=Uv (show(0:Int)<=i from z);refine ifD (λz2=>?_) (λz2=>no λh=>by obtain⟨p',e,h,_⟩:=fp.mp h;injection e with e;exact z2 (by show((p:Nat):Int)<(n:Nat);omega));have z2:((p:Nat):Int)<(n:Nat):=z2;refine⟨_,rfl,_,rfl,hc (by omega) (by omega) λS' G=>⟨_,rfl,q _ S' G ?_⟩⟩;rw[fp,Mg];exact⟨λh=>⟨p,rfl,by omega,h⟩,λ⟨p',e,_,h⟩=>by injection e with e;rw[Ui.mp e];exact h⟩
  | _=>exact ifF rfl (no λh=>by obtain⟨p,e,_⟩:=fp.mp h;cases e)
 rw[UK.mpr i1];refine ifF rfl (f6 ⟨_,rfl,BA gw ⟨_,rfl,?_⟩⟩);by_cases i2:isW "set" w=true
 ·rw[i2];obtain rfl:=Du i2;refine ifT rfl ⟨_,rfl,_,rfl,_,rfl,hs W hel (by omega) gy λr S' G er=>q r S' G (er.trans (AO ?_).symm)⟩;exact⟨λh=>h.elim (λh=>A6 (by decide) h.1) λh=>h.elim (λh=>h.2) λh=>A6 (by decide) h.1,λh => .inr (.inl ⟨rfl,h⟩)⟩
 rw[UK.mpr i2];refine ifF rfl (f6 ⟨_,rfl,BA gw ⟨_,rfl,?_⟩⟩);by_cases i3:isW "tree" w=true
 ·rw[i3];obtain rfl:=Du i3;refine ifT rfl ⟨_,rfl,_,rfl,by show 0<=100000;decide,_,rfl,hf _ (by omega) (gy.grow (Gw.refl S).push) (ws:=[]) c9 (by rw[V9];omega) (λ_ h=>nomatch h) λr S' G er=>q r S' ((Gw.refl S).push.trans G) (er.trans (AO ?_).symm)⟩;exact⟨λh=>h.elim (λh=>A6 (by decide) h.1) λh=>h.elim (λh=>A6 (by decide) h.1) λh=>h.2,λh => .inr (.inr ⟨rfl,h⟩)⟩
 rw[UK.mpr i3];exact ifF rfl (no λh=>((AO Iff.rfl).mp h).elim (λh=>by rw[h.1]at i1;exact absurd rfl i1) λh=>h.elim (λh=>by rw[h.1]at i2;exact absurd rfl i2) λh=>by rw[h.1]at i3;exact absurd rfl i3)
end
noncomputable def TL:SV->Bool
 | .int i=>decide (0<=i)
 | _=>false
noncomputable def PropS(es:EE)(xs:List SV)(m:Nat):Prop:=∀(i j:Nat) (h:Int),i<j->j<m->xs[i]?=some (.int h)->xs[j]?=some (.int h)->¬ Shr es i j
noncomputable def endE(es:EE)(t p:Nat):Prop:=p=(l7 es t).1\/p=(l7 es t).2
structure DictI(es:EE)(xs:List SV)(i:Nat)(kvs:List ((Int×Int)×Int)):Prop where
 sound:∀(p:Nat) (h n:Int),dpv kvs (((p:Nat):Int),h)=some n->∃ t:Nat,n=(t:Nat)/\t<i/\xs[t]?=some (.int h)/\endE es t p
 full:∀(t p:Nat) (h:Int),t<i->xs[t]?=some (.int h)->endE es t p->∃ n,dpv kvs (((p:Nat):Int),h)=some n
theorem IV{kvs:List ((Int×Int)×Int)}{k k':Int×Int}{m:Int}(h:dpv kvs k=none):dpv (kvs++[(k,m)]) k'=if k'=k then some m else dpv kvs k':=by
 unfold dpv at h ⊢;rw[List.find?_append];by_cases e:k'=k
 ·subst e;rw[iP rfl];have h':=WU.mp h;rw[h',Option.none_or,Uw,decide_eq_true rfl];rfl
 ·rw[iG e,Uw,decide_eq_false (λz=>e z.symm),List.find?_nil,Option.or_none]
structure DJ(es:EE)(xs:List SV)(i:Nat)(h:Int)(P:Nat->Prop)(kvs:List ((Int×Int)×Int))(ps:List (Int×Int)):Prop where
 sound:∀(p:Nat) (g n:Int),dpv kvs (((p:Nat):Int),g)=some n->∃ t:Nat,n=(t:Nat)/\(t<i\/(t=i/\P p))/\xs[t]?=some (.int g)/\endE es t p
 full:∀(t p:Nat) (g:Int),(t<i\/(t=i/\P p))->xs[t]?=some (.int g)->endE es t p->∃ n,dpv kvs (((p:Nat):Int),g)=some n
 cl:ps=[]↔PropS es xs i/\∀ t p:Nat,t<i->xs[t]?=some (.int h)->P p->¬ endE es t p
theorem DJ.first{es:EE}{xs:List SV}{i:Nat}{h:Int}{kvs:List ((Int×Int)×Int)}{ps:List (Int×Int)}(D:DictI es xs i kvs)(c:ps=[]↔PropS es xs i):DJ es xs i h (λ_=>False) kvs ps:=
 ⟨λp g n e=>let ⟨t,a,b,c⟩:=D.sound p g n e;⟨t,a,.inl b,c⟩,λt p g ht hx he=>D.full t p g (ht.elim id λz=>z.2.elim) hx he,c.trans ⟨λa=>⟨a,λ_ _ _ _ z=>z.elim⟩,λa=>a.1⟩⟩
theorem DJ.found{es:EE}{xs:List SV}{i p:Nat}{h c:Int}{P:Nat->Prop}{kvs:List ((Int×Int)×Int)}{ps:List (Int×Int)}(J:DJ es xs i h P kvs ps)(hxi:xs[i]?=some (.int h))(nP:¬ P p)(hc:dpv kvs (((p:Nat):Int),h)=some c):c≠(i:Nat)/\DJ es xs i h (λq=>P q\/q=p) kvs (ps++[(c,((i:Nat):Int))]):=by
 obtain⟨t,rfl,ht,hx,he⟩:=J.sound p h c hc;have ht:t<i:=ht.elim id λz=>absurd z.2 nP;refine⟨λz=>by omega,λq g n e=>?_,λu q g hu hx' he'=>?_,⟨λz=>absurd z (by simp),λz=>absurd he (z.2 t p ht hx (.inr rfl))⟩⟩
 ·obtain⟨u,a,b,d⟩:=J.sound q g n e;exact⟨u,a,b.imp id λz=>⟨z.1,.inl z.2⟩,d⟩
 ·rcases hu with hu | ⟨rfl,hu | rfl⟩
  ·exact J.full u q g (.inl hu) hx' he'
  ·exact J.full u q g (.inr ⟨rfl,hu⟩) hx' he'
  ·rw[hxi]at hx';cases hx';exact⟨_,hc⟩
theorem DJ.new{es:EE}{xs:List SV}{i p:Nat}{h:Int}{P:Nat->Prop}{kvs:List ((Int×Int)×Int)}{ps:List (Int×Int)}(J:DJ es xs i h P kvs ps)(hxi:xs[i]?=some (.int h))(hp:endE es i p)(hc:dpv kvs (((p:Nat):Int),h)=none):DJ es xs i h (λq=>P q\/q=p) (kvs++[((((p:Nat):Int),h),((i:Nat):Int))]) ps:=by
 refine⟨λq g n e=>?_,λu q g hu hx' he'=>?_,J.cl.trans ⟨λz=>⟨z.1,λt q ht hx hq he=>?_⟩,λz=>⟨z.1,λt q ht hx hq he=>z.2 t q ht hx (.inl hq) he⟩⟩⟩
 ·rw[IV hc]at e;by_cases z:(((q:Nat):Int),g)=(((p:Nat):Int),h)
  ·rw[iP z]at e;injection z with z1 z2;cases e;rw[Ui.mp z1,z2];exact⟨i,rfl,.inr ⟨rfl,.inr rfl⟩,hxi,hp⟩
  ·rw[iG z]at e;obtain⟨u,a,b,d⟩:=J.sound q g n e;exact⟨u,a,b.imp id λz=>⟨z.1,.inl z.2⟩,d⟩
 ·rw[IV hc];by_cases z:(((q:Nat):Int),g)=(((p:Nat):Int),h)
  ·rw[iP z];exact⟨_,rfl⟩
  ·rw[iG z];rcases hu with hu | ⟨rfl,hu | rfl⟩
   ·exact J.full u q g (.inl hu) hx' he'
   ·exact J.full u q g (.inr ⟨rfl,hu⟩) hx' he'
   ·rw[hxi]at hx';cases hx';exact absurd rfl z
 ·rcases hq with hq | rfl
  ·exact z.2 t q ht hx hq he
  ·obtain⟨n,e⟩:=J.full t q h (.inl ht) hx he;rw[hc]at e;cases e
theorem DJ.last{es:EE}{xs:List SV}{i:Nat}{h:Int}{P:Nat->Prop}{kvs:List ((Int×Int)×Int)}{ps:List (Int×Int)}(J:DJ es xs i h P kvs ps)(hxi:xs[i]?=some (.int h))(hP:∀ p,endE es i p↔P p):DictI es xs (i+1) kvs/\(ps=[]↔PropS es xs (i+1)):=by
 refine⟨⟨λp g n e=>?_,λt p g ht hx he=>J.full t p g ?_ hx he⟩,J.cl.trans ⟨λz a b g hab hb ha hb' sh=>?_,λz=>⟨λa b g hab hb=>z a b g hab (by omega),λt p ht hx hp he=>z t i h ht (Vc _) hx hxi ⟨p,he,(hP p).mpr hp⟩⟩⟩⟩
 ·obtain⟨t,a,b,d⟩:=J.sound p g n e;exact⟨t,a,by omega,d⟩
 ·rcases VR t i with z | z
  ·exact .inl z
  ·have:t=i:=by omega
   subst this;exact .inr ⟨rfl,(hP p).mp he⟩
 ·rcases VR b i with y | y
  ·exact z.1 a b g hab y ha hb' sh
  ·have:b=i:=by omega
   subst this;rw[hxi]at hb';cases hb';obtain⟨p,e1,e2⟩:=sh;exact z.2 a p hab ha ((hP p).mp e2) e1
theorem DictI.skip{es:EE}{xs:List SV}{i:Nat}{kvs:List ((Int×Int)×Int)}{ps:List (Int×Int)}(D:DictI es xs i kvs)(c:ps=[]↔PropS es xs i)(hxi:xs[i]?=some .non):DictI es xs (i+1) kvs/\(ps=[]↔PropS es xs (i+1)):=by
 have lt:∀(t:Nat) (g:Int),t<i+1->xs[t]?=some (.int g)->t<i:=λt g ht hx=>by
  rcases VR t i with z | z
  ·exact z
  ·have:t=i:=by omega
   subst this;rw[hxi]at hx;cases hx
 exact⟨⟨λp g n e=>let ⟨t,a,b,d⟩:=D.sound p g n e;⟨t,a,by omega,d⟩,λt p g ht hx he=>D.full t p g (lt t g ht hx) hx he⟩,c.trans ⟨λz a b g hab hb ha hb'=>z a b g hab (lt b g hb hb') ha hb',λz a b g hab hb=>z a b g hab (by omega)⟩⟩
section
variable{Δ:Nat->Sn}
noncomputable def kq3:Stm:=(.loop (.nm 7) (.seq (.var 5)) [(.asg (.nm 8) (.setd (.var 2) (.tup (.cons (.var 7) (.cons (.var 6) .nil))) (.var 4))),(.iff (.cmp .NotEq (.var 8) (.var 4)) [(.expr (.mt .append (.var 3) (.cons (.tup (.cons (.var 8) (.cons (.var 4) .nil))) .nil)))] [])])
noncomputable def kq2:Stm:=(.loop (.tup (.cons (.nm 4) (.cons (.nm 5) .nil))) (.enum (.ix (.var 0) (.c (.int 1)))) [(.asg (.nm 6) (.ix (.var 1) (.var 4))),(.iff (.cmp .IsNot (.var 6) (.c .non)) [kq3] [])])
noncomputable def Ml:List Stm:=[(.asg (.nm 2) .dnewp),(.asg (.nm 3) (.lst .nil)),kq2,(.ret (.mind (.var 3) (.c .non)))]
noncomputable def psS(ps:List (Int×Int)):List SV:=ps.map λp:Int×Int=>SV.tup [.int p.1,.int p.2]
theorem Dv{n m l i p:Nat}{h:Int}{es:EE}{x:SV}{kvs:List ((Int×Int)×Int)}{ps:List (Int×Int)}{S:Sto}{D:EndsS}{o5 o8:Option SV}(hm:S[m]?=some (.dtp kvs))(hl:S[l]?=some (.lst (psS ps)))(hk:kvs.length<1000)(hp:ps.length<1000)
 (q0:∀ c:Int,dpv kvs (((p:Nat):Int),h)=some c->c=(i:Nat)->D.nx [some (i4 n es),some x,some (.loc m),some (.loc l),some (.int (i:Nat)),o5,some (.int h),some (.int (p:Nat)),some (.int c)] S)
 (q1:∀ c:Int,dpv kvs (((p:Nat):Int),h)=some c->c≠(i:Nat)->D.nx [some (i4 n es),some x,some (.loc m),some (.loc l),some (.int (i:Nat)),o5,some (.int h),some (.int (p:Nat)),some (.int c)] (S.set l (.lst (psS (ps++[(c,((i:Nat):Int))])))))
 (q2:dpv kvs (((p:Nat):Int),h)=none->D.nx [some (i4 n es),some x,some (.loc m),some (.loc l),some (.int (i:Nat)),o5,some (.int h),some (.int (p:Nat)),some (.int (i:Nat))] (S.set m (.dtp (kvs++[((((p:Nat):Int),h),((i:Nat):Int))])))):
 wSs Δ [(.asg (.nm 8) (.setd (.var 2) (.tup (.cons (.var 7) (.cons (.var 6) .nil))) (.var 4))),(.iff (.cmp .NotEq (.var 8) (.var 4)) [(.expr (.mt .append (.var 3) (.cons (.tup (.cons (.var 8) (.cons (.var 4) .nil))) .nil)))] [])] D [some (i4 n es),some x,some (.loc m),some (.loc l),some (.int (i:Nat)),o5,some (.int h),some (.int (p:Nat)),o8] S:=by
 refine⟨_,rfl,m,kvs,rfl,hm,_,rfl,_,rfl,by show 2<=100000;decide,_,rfl,_,_,_,kvs,rfl,rfl,hm,by show _<100000;omega,λc hc=>?_,λhc=>?_⟩
 ·refine⟨_,rfl,_,rfl,_,rfl,?_⟩;show if (!decide (c=((i:Nat):Int)))=true then _ else _
  by_cases z:c=(i:Nat)
  ·exact ifF (by rw[decide_eq_true z];rfl) (f6 (q0 c hc z))
  ·refine ifT (by rw[decide_eq_false z];rfl) ?_;have hl':(psS ps).length<100000:=by unfold psS;rw[U4];omega
   refine⟨_,rfl,⟨l,_,rfl,hl⟩,_,rfl,_,rfl,by show 2<=100000;decide,_,hl,hl',?_⟩;have q:=q1 c hc z;unfold psS at q ⊢;rw[UQ]at q;exact f6 (Δ:=Δ) q
 ·refine⟨_,rfl,_,rfl,_,rfl,?_⟩;show if (!decide (((i:Nat):Int)=((i:Nat):Int)))=true then _ else _
  exact ifF (by rw[decide_eq_true rfl];rfl) (f6 (q2 hc))
noncomputable def HK(s:Sn):Prop:=∀{n:Nat} {es:EE} {x:SV} {xs:List SV} {S:Sto} {Q:QE},(∀ e∈es,e.1<e.2/\e.2<n)->es.length<=60->SeqV S x xs->xs.length=es.length->(∀ y∈xs,y = .non\/∃ h:Int,y = .int h)->(∀(v:SV) (S':Sto),Gw S S'->(C4 v=true↔PropS es xs es.length)->Q v S')->s [i4 n es,x] S Q
theorem Jw(hΔ:∀ f,MonoN (Δ f)){D:Df}(hb:D.body=Ml)(hN:D.N.length=9)(hp:D.ps.length=2):HK (g0 Δ D):=by
 intro n es x xs S Q W hel V hlen hit q;unfold g0;rw[hb,hN];refine⟨hp.symm,by show 0<=100000;decide,_,rfl,_,_,rfl,rfl,_,rfl,?_⟩;have hm0:((S++[SO.dtp []])++[SO.lst []])[S.length]?=some (.dtp []):=t5 c9;have hl0:((S++[SO.dtp []])++[SO.lst []])[(S++[SO.dtp []]).length]?=some (.lst []):=c9;have ll:(S++[SO.dtp []]).length=S.length+1:=by simp
 rw[ll]at hl0;have lw:((S++[SO.dtp []])++[SO.lst []]).length=S.length+2:=by simp
 have G0:Gw S ((S++[SO.dtp []])++[SO.lst []]):=(Gw.refl S).push.push;show p0 _ _ _ _ _ [some (i4 n es),some x,some (.loc S.length),some (.loc (S++[SO.dtp []]).length),none,none,none,none,none] _;rw[ll]
 refine B8 (j6 hΔ _) (λi ρ S2=>∃(o4 o5 o6 o7 o8:Option SV) (kvs:List ((Int×Int)×Int)) (ps:List (Int×Int)),ρ=[some (i4 n es),some x,some (.loc S.length),some (.loc (S.length+1)),o4,o5,o6,o7,o8]/\Gw S S2/\S2[S.length]?=some (.dtp kvs)/\S2[S.length+1]?=some (.lst (psS ps))/\DictI es xs i kvs/\(ps=[]↔PropS es xs i)/\kvs.length<=2 * i/\ps.length<=2 * i)
  ⟨_,_,_,_,_,[],[],rfl,G0,hm0,hl0,⟨λp h n e=>(by cases e),λt p h ht=>absurd ht (VA _)⟩,⟨λ_ i j h _ hj=>absurd hj (VA _),λ_=>rfl⟩,U9 _,U9 _⟩ (λ_ _ _ _=>trivial) ?_ ?_
 ·rintro i z ρ S2 E hE hrt hz ⟨o4,o5,o6,o7,o8,kvs,ps,rfl,G2,hm,hl,DI,PI,hk,hps⟩;obtain⟨y,hy,rfl⟩:=EZ hz;obtain⟨e,he,rfl⟩:=B3 hy;have hi:=(gM he).1;have hv:=UI (show i<xs.length by omega);have mv:=Ut (show i<xs.length by omega);generalize xs[i]=v at *;have lw2:S.length+2<=S2.length:=by have:=(gM hl).1;omega
  refine⟨_,rfl,_,rfl,_,_,V.seq S2 G2,j0 hv,?_⟩
  have te:l7 es i=e:=by
   have:=Bg hi;rw[he]at this;exact(oj this).symm
  have en:∀ p,endE es i p↔(False\/p=e.1)\/p=e.2:=λp=>by unfold endE;rw[te,false_or]
  have ne:e.1≠e.2:=UF (W e (UC he)).1;rcases hit v mv with rfl | ⟨h,rfl⟩
  ·obtain⟨D2,P2⟩:=DI.skip PI hv;exact⟨_,rfl,.inl ⟨rfl,_,rfl,ifF rfl (f6 (hE _ _ ⟨_,_,_,_,_,kvs,ps,rfl,G2,hm,hl,D2,P2,by omega,by omega⟩))⟩⟩
  refine⟨_,rfl,.inl ⟨rfl,_,rfl,ifT rfl ⟨_,rfl,_,rfl,trivial,?_⟩⟩⟩;have J0:=DJ.first (h:=h) DI PI
  have key:∀(kv1:List ((Int×Int)×Int)) (ps1:List (Int×Int)) (S3:Sto) (o8:Option SV),Gw S S3->S3[S.length]?=some (.dtp kv1)->S3[S.length+1]?=some (.lst (psS ps1))->kv1.length<=2 * i+1->ps1.length<=2 * i+1->DJ es xs i h (λq=>False\/q=e.1) kv1 ps1->
   p0 (keepS (pairS e) S2) (.nm 7) (wSs Δ [(.asg (.nm 8) (.setd (.var 2) (.tup (.cons (.var 7) (.cons (.var 6) .nil))) (.var 4))),(.iff (.cmp .NotEq (.var 8) (.var 4)) [(.expr (.mt .append (.var 3) (.cons (.tup (.cons (.var 8) (.cons (.var 4) .nil))) .nil)))] [])]) {nx:=wSs Δ [] E,rt:=E.rt,bk:=E.bk,ct:=E.ct} [.int (e.2:Nat)] [some (i4 n es),some x,some (.loc S.length),some (.loc (S.length+1)),some (.int (i:Nat)),some (pairS e),some (.int h),some (.int (e.1:Nat)),o8] S3:=by
   intro kv1 ps1 S3 o8 G3 m3 l3 k3 p3 J;refine⟨trivial,?_⟩;refine Dv m3 l3 (by omega) (by omega) (λc hc z=>absurd z (J.found hv (by rintro(z | z);exact z;exact ne z.symm) hc).1) (λc hc z=>?_) (λhc=>?_)
   ·obtain⟨D2,P2⟩:=(J.found hv (by rintro(z | z);exact z;exact ne z.symm) hc).2.last hv en;exact⟨trivial,f6 (Δ:=Δ) (hE _ _ ⟨_,_,_,_,_,kv1,_,rfl,G3.put (by omega),by rw[Ao (by omega)];exact m3,UZ (by have:=(gM l3).1;omega),D2,P2,by omega,by rw[UD,Ul];omega⟩)⟩
   ·obtain⟨D2,P2⟩:=(J.new hv ((en e.2).mpr (.inr rfl)) hc).last hv en;exact⟨trivial,f6 (Δ:=Δ) (hE _ _ ⟨_,_,_,_,_,_,ps1,rfl,G3.put (by omega),UZ (by have:=(gM m3).1;omega),by rw[Ao (by omega)];exact l3,D2,P2,by rw[UD,Ul];omega,by omega⟩)⟩
  refine Dv hm hl (by omega) (by omega) (λc hc z=>absurd z (J0.found hv id hc).1) (λc hc z=>?_) (λhc=>?_)
  ·exact key kvs _ _ _ (G2.put (by omega)) (by rw[Ao (by omega)];exact hm) (UZ (by omega)) (by omega) (by rw[UD,Ul];omega) (J0.found hv id hc).2
  ·exact key _ ps _ _ (G2.put (by omega)) (UZ (by omega)) (by rw[Ao (by omega)];exact hl) (by rw[UD,Ul];omega) (by omega) (J0.new hv ((en e.1).mpr (.inl (.inr rfl))) hc)
 ·rintro ρ S2 ⟨o4,o5,o6,o7,o8,kvs,ps,rfl,G2,hm,hl,DI,PI,hk,hps⟩;rw[CO,U4]at PI;refine⟨_,rfl,S.length+1,ps,rfl,rfl,hl,λe=>q .non S2 G2 ⟨λ_=>PI.mp e,λ_=>rfl⟩,λp hp=>q _ S2 G2 ⟨nofun,λh=>?_⟩⟩;rw[PI.mpr h]at hp;cases hp
end
noncomputable def okH(y:SV):Bool:=C4 y||TL y
theorem DC{y:SV}(h:okH y=true):y = .non\/∃ g:Int,y = .int g/\0<=g:=by
 cases y with
 | non=>exact .inl rfl
 | int i=>exact .inr ⟨i,rfl,of_decide_eq_true h⟩
 | _=>cases h
noncomputable def HuP(es:EE)(xs:List SV):Prop:=xs.length=es.length/\(∀ y∈xs,okH y=true)/\PropS es xs es.length
theorem all_at{f:SV->Bool}{xs:List SV}:(∀ i,i<xs.length->f (xs.getD i .non)=true)↔∀ y∈xs,f y=true:=by
 constructor
 ·intro h y hy;obtain⟨i,hi,rfl⟩:=We hy;have:=h i hi
  rwa [UU,UI hi]at this
 ·intro h i hi;rw[UU,UI hi];exact h _ (Ut hi)
section
variable{Δ:Nat->Sn}
noncomputable def PZ(kn:Nat):List Stm:=[(.ret (.and (.call kn (.cons (.var 0) .nil)) (.cmp .GtE (.var 0) (.c (.int 0)))))]
noncomputable def RH(s:Sn):Prop:=∀{x:SV} {S:Sto} {k b:Nat} {Q:QE},Gd (VS S) k b x->Q (.bl (TL x)) S->s [x] S Q
theorem Ol{kn:Nat}(hn:CF (Δ kn)){D:Df}(hb:D.body=PZ kn)(hN:D.N.length=1)(hp:D.ps.length=1):RH (g0 Δ D):=by
 intro x S k b Q h q;unfold g0;rw[hb,hN];refine⟨hp.symm,_,rfl,hn h ⟨_,rfl,?_⟩⟩;cases x with
 | int i=>exact ifT rfl ⟨_,rfl,q⟩
 | _=>exact ifF rfl q
noncomputable def hg1(kl:Nat):Stm:=(.iff (.or (.not (.call kl (.cons (.var 1) .nil))) (.cmp .NotEq (.bi .len (.cons (.var 1) .nil)) (.bi .len (.cons (.ix (.var 0) (.c (.int 1))) .nil)))) [(.ret (.c (.bl false)))] [])
noncomputable def hg2(kh:Nat):Stm:=(.iff (.not (.bi .all (.cons (.comp ["item"] [] [] (.nm 0) (.seq (.var 1)) .no (.or (.cmp .Is (.var 0) (.c .non)) (.call kh (.cons (.var 0) .nil)))) .nil))) [(.ret (.c (.bl false)))] [])
noncomputable def hg3(kc:Nat):Stm:=(.ret (.cmp .Is (.call kc (.cons (.var 0) (.cons (.var 1) .nil))) (.c .non)))
noncomputable def IW(kl kh kc:Nat):List Stm:=[hg1 kl,hg2 kh,hg3 kc]
noncomputable def BB(s:Sn):Prop:=∀{n k b:Nat} {es:EE} {x:SV} {S:Sto} {Q:QE},(∀ e∈es,e.1<e.2/\e.2<n)->es.length<=60->Gd (VS S) k b x->(∀(r:Bool) (S':Sto),Gw S S'->(r=true↔∃ xs,seqS x S=some xs/\HuP es xs)->Q (.bl r) S')->s [i4 n es,x] S Q
theorem HL(hΔ:∀ f,MonoN (Δ f)){kl kh kc:Nat}(hl:OS (Δ kl))(hh:RH (Δ kh))(hc:HK (Δ kc)){D:Df}(hb:D.body=IW kl kh kc)(hN:D.N.length=2)(hp:D.ps.length=2):BB (g0 Δ D):=by
 intro n k b es x S Q W hel hx q;unfold g0;rw[hb,hN];refine⟨hp.symm,_,rfl,hl hx ?_⟩;rcases hx.split with⟨e,no⟩ | ⟨xs,V⟩
 ·rw[e];exact⟨_,rfl,ifT rfl (q false S (Gw.refl S) ⟨nofun,λ⟨xs,z,_⟩=>absurd z (no _)⟩)⟩
 rw[V.ls];have s0:=V.seq S (Gw.refl S);have hxl:=V.len;obtain⟨k',b',hg⟩:=V.gd;have no:∀ S',Gw S S'->¬ HuP es xs->Q (.bl false) S':=λS' G h=>q false S' G ⟨nofun,λ⟨ys,e,z⟩=>by rw[s0]at e;cases e;exact absurd z h⟩;refine⟨_,rfl,ifF rfl ⟨_,rfl,_,s0,_,rfl,_,_,rfl,rfl,_,rfl,_,rfl,?_⟩⟩;show if (!decide ((xs.length:Int)=((es.map pairS).length:Nat)))=true then _ else _
 rw[U4];by_cases zl:xs.length=es.length
 case neg=>exact ifT (by rw[decide_eq_false (λy=>zl (Ui.mp y))];rfl) (no S (Gw.refl S) λh=>zl h.1)
 refine ifF (by rw[decide_eq_true (show((xs.length:Nat):Int)=(es.length:Nat) by rw[zl])];rfl) (f6 ?_);refine⟨_,rfl,_,s0,?_⟩;refine y7 hΔ (λi=>okH (xs.getD i .non)) (by omega) (λS' G=>V.keep S S' (Gw.refl S) G) ?_ ?_
 ·intro i y S' hy G;have ey:xs.getD i .non=y:=by rw[UU,hy];rfl
  rw[ey];refine⟨_,rfl,.inl ⟨rfl,_,rfl,?_⟩⟩;cases y with
  | non=>exact ifT rfl ⟨rfl,G⟩
  | _=>exact ifF rfl ⟨_,rfl,hh ((hg _ (UC hy)).grow G) ⟨rfl,G⟩⟩
 intro S2 G2;have G3:=G2.push (o:=SO.lst ((U7 xs.length).map λi => .bl (okH (xs.getD i .non))));refine⟨_,_,nofun,e7 c9,AM _ _,_,rfl,?_⟩;generalize S2++[SO.lst ((U7 xs.length).map λi => .bl (okH (xs.getD i .non)))]=S3 at *;by_cases hA:((U7 xs.length).map λi=>okH (xs.getD i .non)).all id=true
 case neg=>
  rw[UK.mpr hA];exact ifT rfl (no S3 G3 λh=>hA (all_mapF.mpr (all_at.mpr h.2.1)))
 rw[hA];have ok:=all_at.mp (all_mapF.mp hA);refine ifF rfl (f6 ?_);refine⟨_,rfl,_,rfl,hc W hel ⟨λS' G=>V.seq S' (G3.trans G),λS1 S' G1 G=>V.keep S1 S' (G3.trans G1) (G3.trans G),hxl,⟨k',b',λy hy=>(hg y hy).grow G3⟩,V.ls⟩ zl (λy hy=>(DC (ok y hy)).imp id λ⟨g,e,_⟩=>⟨g,e⟩) λv S' G ev => .inl ⟨rfl,q _ S' (G3.trans G) ?_⟩⟩;show C4 v=true↔_;rw[ev];exact⟨λh=>⟨xs,s0,zl,ok,h⟩,λ⟨ys,e,h⟩=>by rw[s0]at e;cases e;exact h.2.2⟩
noncomputable def IY(kh:Nat):List Stm:=[(.ret (.and (.call kh (.cons (.var 0) (.cons (.var 1) .nil))) (.cmp .NotIn (.c .non) (.var 1))))]
noncomputable def HM(s:Sn):Prop:=∀{n k b:Nat} {es:EE} {x:SV} {S:Sto} {Q:QE},(∀ e∈es,e.1<e.2/\e.2<n)->es.length<=60->Gd (VS S) k b x->(∀(r:Bool) (S':Sto),Gw S S'->(r=true↔∃ xs,seqS x S=some xs/\HuP es xs/\SV.non∉xs)->Q (.bl r) S')->s [i4 n es,x] S Q
theorem Mm{xs:List SV}(h:∀ y∈xs,okH y=true):xs.all u7=true:=US.mpr λy hy=>by
 rcases DC (h y hy) with rfl | ⟨g,rfl,_⟩<;>rfl
theorem RI{xs:List SV}(h:∀ y∈xs,okH y=true):inS .non xs=true↔SV.non∈xs:=by
 unfold inS;rw[Ux];constructor
 ·rintro⟨y,hy,e⟩;rcases DC (h y hy) with rfl | ⟨g,rfl,_⟩
  ·exact hy
  ·cases e
 ·exact λh=>⟨_,h,rfl⟩
theorem Jx{kh:Nat}(hh:BB (Δ kh)){D:Df}(hb:D.body=IY kh)(hN:D.N.length=2)(hp:D.ps.length=2):HM (g0 Δ D):=by
 intro n k b es x S Q W hel hx q;unfold g0;rw[hb,hN];refine⟨hp.symm,_,rfl,_,rfl,hh W hel hx λr S1 G1 er=>⟨_,rfl,?_⟩⟩;cases r with
 | false=>exact ifF rfl (q false S1 G1 ⟨nofun,λ⟨xs,e,h,_⟩=>er.mpr ⟨xs,e,h⟩⟩)
 | true=>
   obtain⟨xs,s0,hu⟩:=er.mp rfl
   have V:∀ S',Gw S S'->seqS x S'=some xs/\AJ x S'=none:=λS' G=>by
    cases hx with
    | tup _ _ _=>exact⟨s0,rfl⟩
    | lst hv _ _ _=>
      have e:xs=_:=oj (s0.symm.trans (e7 hv));subst e;exact⟨e7 (G.keep _ _ hv),Bf (G.keep _ _ hv)⟩
    | _=>cases s0
   refine ifT rfl ⟨_,rfl,?_⟩;show match AJ x S1 with | some ms=>_ | none=>_
   rw[(V S1 G1).2];refine⟨rfl,xs,(V S1 G1).1,Mm hu.2.1,q _ S1 G1 ?_⟩;show(!inS .non xs)=true↔_;rw[UN,<-Bool.not_eq_true,RI hu.2.1];exact⟨λh=>⟨xs,s0,hu,h⟩,λ⟨ys,e,_,h⟩=>by rw[s0]at e;cases e;exact h⟩
noncomputable def lh1:Stm:=(.iff (.or (.not (.bi .isi (.cons (.var 1) (.cons (.tup (.cons (.tyc .list) (.cons (.tyc .tuple) .nil))) .nil)))) (.cmp .NotEq (.bi .len (.cons (.var 1) .nil)) (.bi .len (.cons (.ix (.var 0) (.c (.int 1))) .nil)))) [(.ret (.c (.bl false)))] [])
noncomputable def lh2:Stm:=(.iff (.and (.cmp .IsNot (.var 3) (.c .non)) (.or (.not (.bi .isi (.cons (.var 3) (.cons (.tyc .int) .nil)))) (.or (.bi .isi (.cons (.var 3) (.cons (.tyc .bool) .nil))) (.cmp .Lt (.var 3) (.c (.int 0)))))) [(.ret (.c (.bl false)))] [])
noncomputable def lh3(km:Nat):Stm:=(.loop (.nm 4) (.rng1 (.var 2)) [(.iff (.and (.cmp .IsNot (.var 3) (.c .non)) (.and (.cmp .Eq (.ix (.var 1) (.var 4)) (.var 3)) (.call km (.cons (.var 0) (.cons (.var 4) (.cons (.var 2) .nil)))))) [(.ret (.c (.bl false)))] [])])
noncomputable def Fv(km:Nat):List Stm:=[lh1,(.loop (.tup (.cons (.nm 2) (.cons (.nm 3) .nil))) (.enum (.var 1)) [lh2,lh3 km]),(.ret (.c (.bl true)))]
theorem Gd.isLs{S:Sto}{k b:Nat}{x:SV}(h:Gd (VS S) k b x):∃ t,tyS x S=some t/\[TyN.list,.tuple].any (E9 t)=isL x:=by
 cases h with
 | lst hv _ _ _=>exact⟨_,BO hv,rfl⟩
 | _=>exact⟨_,rfl,rfl⟩
theorem RJ{n i:Nat}{es:EE}{x y:SV}{S:Sto}{k b:Nat}{D:EndsS}{o4:Option SV}(hy:Gd (VS S) k b y)(q1:okH y=true->D.nx [some (i4 n es),some x,some (.int (i:Nat)),some y,o4] S)(q0:okH y=false->D.rt (.bl false) S):
 wSt Δ lh2 D [some (i4 n es),some x,some (.int (i:Nat)),some y,o4] S:=by
 refine⟨_,rfl,.inl ⟨rfl,_,rfl,?_⟩⟩;cases hy with
 | non=>exact ifF rfl (ifF rfl (f6 (Δ:=Δ) (q1 rfl)))
 | bl c=>exact ifT rfl ⟨_,rfl,_,nofun,rfl,_,rfl,ifF rfl ⟨_,rfl,_,nofun,rfl,_,rfl,ifT rfl (q0 rfl)⟩⟩
 | @int _ _ g h=>
   refine ifT rfl ⟨_,rfl,_,nofun,rfl,_,rfl,ifF rfl ⟨_,rfl,_,nofun,rfl,_,rfl,ifF rfl ⟨_,rfl,_,rfl,?_⟩⟩⟩;refine ifD (λz=>q0 (decide_eq_false (show ¬ (0:Int)<=g from by have z:g<0:=z;omega))) (λz=>f6 (Δ:=Δ) (q1 (decide_eq_true (show(0:Int)<=g from by have z:¬ g<0:=z;omega))))
 | str h hb'=>exact ifT rfl ⟨_,rfl,_,nofun,rfl,_,rfl,ifT rfl (q0 rfl)⟩
 | tup h hl hc=>exact ifT rfl ⟨_,rfl,_,nofun,rfl,_,rfl,ifT rfl (q0 rfl)⟩
 | lst hv h hl hc=>exact ifT rfl ⟨_,rfl,_,nofun,BO hv,_,rfl,ifT rfl (q0 rfl)⟩
theorem RK(hΔ:∀ f,MonoN (Δ f)){km:Nat}(hm:Fq (Δ km)){n i:Nat}{es:EE}{x y:SV}{xs:List SV}{S:Sto}{D:EndsS}{o4:Option SV}(s0:seqS x S=some xs)(hi:i<es.length)(hl:xs.length=es.length)(hel:es.length<=60)(hy:xs[i]?=some y)(oy:okH y=true)(ok:∀(j:Nat) (z:SV),j<i->xs[j]?=some z->okH z=true)
 (q1:∀ o4:Option SV,(∀(j:Nat) (g:Int),j<i->xs[j]?=some (.int g)->y = .int g->¬ Shr es j i)->D.nx [some (i4 n es),some x,some (.int (i:Nat)),some y,o4] S) (q0:∀(j:Nat) (g:Int),j<i->xs[j]?=some (.int g)->y = .int g->Shr es j i->D.rt (.bl false) S):
 wSt Δ (lh3 km) D [some (i4 n es),some x,some (.int (i:Nat)),some y,o4] S:=by
 refine⟨_,rfl,((i:Nat):Int),rfl,⟨by omega,by omega⟩,?_⟩;refine B8 (j6 hΔ _) (λk ρ S2=>∃ o4:Option SV,ρ=[some (i4 n es),some x,some (.int (i:Nat)),some y,o4]/\S2=S/\∀(j:Nat) (g:Int),j<k->xs[j]?=some (.int g)->y = .int g->¬ Shr es j i) ⟨_,rfl,rfl,λj g hj=>absurd hj (VA _)⟩ (λ_ _ _ _=>trivial) ?_ ?_
 ·rintro k z ρ S2 E hE hrt hz ⟨o4,rfl,rfl,al⟩;have hk:k<i:=by have:=(gM hz).1;rw[l6]at this;omega
  obtain⟨rfl,_⟩:=r6 hz;rw[Ws];have hv:=UI (show k<xs.length by omega);have ov:=ok k _ hk hv;generalize xs[k]=v at *
  have next:(∀ g:Int,v = .int g->y = .int g->¬ Shr es k i)->∀(j:Nat) (g:Int),j<k+1->xs[j]?=some (.int g)->y = .int g->¬ Shr es j i:=λf j g hj hx e=>by
   rcases VR j k with w | w
   ·exact al j g w hx e
   ·have:j=k:=by omega
    subst this;rw[hv]at hx;cases hx;exact f g rfl e
  refine⟨_,rfl,.inl ⟨rfl,_,rfl,?_⟩⟩;rcases DC oy with rfl | ⟨g,rfl,_⟩
  ·exact ifF rfl (ifF rfl (f6 (Δ:=Δ) (hE _ _ ⟨_,rfl,rfl,next λg _ e=>by cases e⟩)))
  refine ifT rfl ⟨_,rfl,_,rfl,_,_,s0,j0 hv,_,rfl,?_⟩;rcases DC ov with rfl | ⟨g',rfl,_⟩
  ·exact⟨_,rfl,ifF rfl (ifF rfl (f6 (Δ:=Δ) (hE _ _ ⟨_,rfl,rfl,next λg e _=>by cases e⟩)))⟩
  refine⟨_,rfl,?_⟩;show if decide (g'=g)=true then _ else _
  refine ifD (λe=>?_) (λe=>ifF rfl (f6 (Δ:=Δ) (hE _ _ ⟨_,rfl,rfl,next λg1 e1 e2=>by injection e1 with e1;injection e2 with e2;exact absurd (e1.trans e2.symm) e⟩)));have e:g'=g:=e;subst e;refine⟨_,rfl,_,rfl,_,rfl,hm (by omega) hi λv ev=>⟨_,rfl,?_⟩⟩;cases v with
  | true=>exact ifT rfl (hrt _ _ (q0 k g' hk hv rfl (ev.mp rfl)))
  | false=>exact ifF rfl (f6 (Δ:=Δ) (hE _ _ ⟨_,rfl,rfl,next λg1 _ _ sh=>WK (ev.mpr sh)⟩))
 ·rintro ρ S2 ⟨o4,rfl,rfl,al⟩;have e:(Al 0 ((i:Nat):Int)).length=i:=by rw[l6];omega
  rw[e]at al;exact q1 o4 al
theorem HN(hΔ:∀ f,MonoN (Δ f)){km:Nat}(hm:Fq (Δ km)){D:Df}(hb:D.body=Fv km)(hN:D.N.length=5)(hp:D.ps.length=2):BB (g0 Δ D):=by
 intro n k b es x S Q W hel hx q;unfold g0;rw[hb,hN];obtain⟨ty,e1,e2⟩:=hx.isLs;refine⟨hp.symm,_,rfl,by show 2<=100000;decide,_,[.list,.tuple],by decide,e1,rfl,_,rfl,?_⟩;rw[e2];rcases hx.split with⟨e,no⟩ | ⟨xs,V⟩
 ·rw[e];exact ifT rfl (q false S (Gw.refl S) ⟨nofun,λ⟨xs,z,_⟩=>absurd z (no _)⟩)
 rw[V.ls];have s0:=V.seq S (Gw.refl S);have hxl:=V.len;obtain⟨k',b',hg⟩:=V.gd;have no:¬ HuP es xs->Q (.bl false) S:=λh=>q false S (Gw.refl S) ⟨nofun,λ⟨ys,e,z⟩=>by rw[s0]at e;cases e;exact absurd z h⟩;refine ifF rfl ⟨_,rfl,_,s0,_,rfl,_,_,rfl,rfl,_,rfl,_,rfl,?_⟩;show if (!decide ((xs.length:Int)=((es.map pairS).length:Nat)))=true then _ else _
 rw[U4];by_cases zl:xs.length=es.length
 case neg=>exact ifT (by rw[decide_eq_false (λy=>zl (Ui.mp y))];rfl) (no λh=>zl h.1)
 refine ifF (by rw[decide_eq_true (show((xs.length:Nat):Int)=(es.length:Nat) by rw[zl])];rfl) (f6 ?_);refine⟨_,rfl,_,s0,?_⟩;refine B8 (j6 hΔ _) (λi ρ S2=>∃ o2 o3 o4:Option SV,ρ=[some (i4 n es),some x,o2,o3,o4]/\S2=S/\(∀(j:Nat) (z:SV),j<i->xs[j]?=some z->okH z=true)/\PropS es xs i) ⟨_,_,_,rfl,rfl,λj z hj=>absurd hj (VA _),λa b g _ hb=>absurd hb (VA _)⟩ (λ_ _ S2 z=>by obtain⟨_,_,_,_,rfl,_⟩:=z;exact V.keep S2 S2 (Gw.refl _) (Gw.refl _)) ?_ ?_
 ·rintro i z ρ S2 E hE hrt hz ⟨o2,o3,o4,rfl,rfl,ok,pr⟩;obtain⟨y,hy,rfl⟩:=EZ hz;have hi:i<es.length:=by rw[<-zl];exact(gM hy).1
  refine RJ (hg y (UC hy)) (λoy=>?_) (λoy=>hrt _ _ (no λh=>by rw[h.2.1 y (UC hy)]at oy;cases oy));refine RK hΔ hm s0 hi zl hel hy oy ok (λo4 al=>f6 (Δ:=Δ) (hE _ _ ⟨_,_,_,rfl,rfl,λj z hj hz2=>?_,λa b g hab hb ha hb'=>?_⟩)) (λj g hj hx e sh=>hrt _ _ (no λh=>h.2.2 j i g hj hi hx (by rw[hy,e]) sh))
  ·rcases VR j i with w | w
   ·exact ok j z w hz2
   ·have:j=i:=by omega
    subst this;rw[hy]at hz2;cases hz2;exact oy
  ·rcases VR b i with w | w
   ·exact pr a b g hab w ha hb'
   ·have:b=i:=by omega
    subst this;rw[hy]at hb';exact al a g hab ha (oj hb')
 ·rintro ρ S2 ⟨o2,o3,o4,rfl,rfl,ok,pr⟩;rw[CO]at ok pr;refine q true S2 (Gw.refl _) ⟨λ_=>⟨xs,s0,zl,λy hy=>?_,by rw[<-zl];exact pr⟩,λ_=>rfl⟩;obtain⟨j,hj,rfl⟩:=We hy;exact ok j _ hj (UI hj)
end
noncomputable def ltH(m:Int):SV->Bool
 | .int g=>decide (g<m)
 | _=>false
noncomputable def Mn:SV->Bool
 | .tup [_,_,_]=>true
 | _=>false
theorem Dw{xs:List SV}:decide ((xs.length:Int)=3)=Mn (.tup xs):=by
 match xs with
 | []=>rfl
 | [_]=>rfl
 | [_,_]=>rfl
 | [_,_,_]=>rfl
 | _::_::_::_::xs=>exact decide_eq_false (by simp only[Uq];omega)
theorem Mo{xs:List SV}(h:Mn (.tup xs)=true):∃ a b c,xs=[a,b,c]:=by
 unfold Mn at h;split at h
 ·rename_i e;cases e;exact⟨_,_,_,rfl⟩
 ·cases h
noncomputable def Eh(n:Nat)(es:EE)(S:Sto)(x:SV):Prop:=∃(m:Int) (hu pa:SV) (xs:List SV),x = .tup [.int m,hu,pa]/\0<=m/\seqS hu S=some xs/\HuP es xs/\(∀ y∈xs,ltH m y=true)/\((m=0/\pa = .non)\/(0<m/\C2 n es (m - 1).toNat pa))
theorem An{n:Nat}{es:EE}{S:Sto}{a hu pa:SV}(h:Eh n es S (.tup [a,hu,pa])):∃(m:Int) (xs:List SV),a = .int m/\0<=m/\seqS hu S=some xs/\HuP es xs/\(∀ y∈xs,ltH m y=true)/\((m=0/\pa = .non)\/(0<m/\C2 n es (m - 1).toNat pa)):=by
 obtain⟨m,hu',pa',xs,e,h⟩:=h;injection e with e;injection e with e1 e;injection e with e2 e;injection e with e3 _;subst e2;subst e3;exact⟨m,xs,e1,h⟩
theorem Gd.stay{S S':Sto}{k b:Nat}{x:SV}{xs:List SV}(h:Gd (VS S) k b x)(G:Gw S S')(e:seqS x S=some xs):seqS x S'=some xs/\(∀ S1,Gw S S1->keepS x S' S1)/\xs.length<=63:=by
 rcases h.split with⟨_,no⟩ | ⟨ys,V⟩
 ·exact absurd e (no _)
 ·have s:=V.seq S (Gw.refl S);rw[e]at s;cases s;exact⟨V.seq S' G,λS1 G1=>V.keep S' S1 G G1,V.len⟩
section
variable{Δ:Nat->Sn}
noncomputable def IZ(kh:Nat):List Stm:=[(.iff (.not (.call kh (.cons (.var 0) (.cons (.var 1) .nil)))) [(.ret (.c (.bl false)))] []),(.ret (.bi .all (.cons (.comp ["_law_hue"] ["_law_number"] [2] (.nm 0) (.seq (.var 1)) .no (.and (.cmp .IsNot (.var 0) (.c .non)) (.cmp .Lt (.var 0) (.var 1)))) .nil)))]
noncomputable def Ei(s:Sn):Prop:=∀{n k b:Nat} {m:Int} {es:EE} {x:SV} {S:Sto} {Q:QE},(∀ e∈es,e.1<e.2/\e.2<n)->es.length<=60->Gd (VS S) k b x->(∀(r:Bool) (S':Sto),Gw S S'->(r=true↔∃ xs,seqS x S=some xs/\HuP es xs/\∀ y∈xs,ltH m y=true)->Q (.bl r) S')->s [i4 n es,x,.int m] S Q
theorem Jy(hΔ:∀ f,MonoN (Δ f)){kh:Nat}(hh:BB (Δ kh)){D:Df}(hb:D.body=IZ kh)(hN:D.N.length=3)(hp:D.ps.length=3):Ei (g0 Δ D):=by
 intro n k b m es x S Q W hel hx q;unfold g0;rw[hb,hN];refine⟨hp.symm,_,rfl,_,rfl,hh W hel hx λr S1 G1 er=>⟨_,rfl,?_⟩⟩;cases r with
 | false=>exact ifT rfl (q false S1 G1 ⟨nofun,λ⟨xs,e,h,_⟩=>absurd (er.mpr ⟨xs,e,h⟩) nofun⟩)
 | true=>
   obtain⟨xs,s0,hu⟩:=er.mp rfl;obtain⟨s1,kp,hxl⟩:=hx.stay G1 s0;refine ifF rfl (f6 ⟨_,rfl,_,s1,?_⟩);refine y7 hΔ (λi=>ltH m (xs.getD i .non)) (by omega) (λS' G=>kp S' (G1.trans G)) ?_ ?_
   ·intro i y S' hy G;have ey:xs.getD i .non=y:=by rw[UU,hy];rfl
    rw[ey];refine⟨_,rfl,.inl ⟨rfl,_,rfl,?_⟩⟩;rcases DC (hu.2.1 y (UC hy)) with rfl | ⟨g,rfl,_⟩
    ·exact ifF rfl ⟨rfl,G⟩
    ·exact ifT rfl ⟨_,rfl,_,rfl,rfl,G⟩
   ·intro S2 G2;refine⟨_,_,nofun,e7 c9,AM _ _,q _ _ (G1.trans G2).push ?_⟩;rw[all_mapF,all_at];exact⟨λh=>⟨xs,s0,hu,h⟩,λ⟨ys,e,_,h⟩=>by rw[s0]at e;cases e;exact h⟩
noncomputable def Om(s:Sn):Prop:=∀{n k b:Nat} {es:EE} {x:SV} {S:Sto} {Q:QE},(∀ e∈es,e.1<e.2/\e.2<n)->es.length<=60->k<=20->Gd (VS S) k b x->(∀(r:Bool) (S':Sto),Gw S S'->(r=true↔Eh n es S x)->Q (.bl r) S')->s [i4 n es,x] S Q
noncomputable def fr1(kn:Nat):Stm:=(.iff (.or (.not (.bi .isi (.cons (.var 1) (.cons (.tyc .tuple) .nil)))) (.or (.cmp .NotEq (.bi .len (.cons (.var 1) .nil)) (.c (.int 3))) (.or (.not (.call kn (.cons (.ix (.var 1) (.c (.int 0))) .nil))) (.cmp .Lt (.ix (.var 1) (.c (.int 0))) (.c (.int 0)))))) [(.ret (.c (.bl false)))] [])
noncomputable def fr2(kw:Nat):Stm:=(.iff (.not (.call kw (.cons (.var 0) (.cons (.ix (.var 1) (.c (.int 1))) (.cons (.ix (.var 1) (.c (.int 0))) .nil))))) [(.ret (.c (.bl false)))] [])
noncomputable def fr3(kt:Nat):Stm:=(.ret (.ife (.cmp .Eq (.ix (.var 1) (.c (.int 0))) (.c (.int 0))) (.cmp .Is (.ix (.var 1) (.c (.int 2))) (.c .non)) (.call kt (.cons (.var 0) (.cons (.op .Sub (.ix (.var 1) (.c (.int 0))) (.c (.int 1))) (.cons (.ix (.var 1) (.c (.int 2))) .nil))))))
noncomputable def Pa(kn kw kt:Nat):List Stm:=[fr1 kn,fr2 kw,fr3 kt]
theorem Oo{kn kw kt:Nat}(hn:CF (Δ kn))(hw:Ei (Δ kw))(ht:v6 C2 (Δ kt)){D:Df}(hb:D.body=Pa kn kw kt)(hN:D.N.length=2)(hp:D.ps.length=2):Om (g0 Δ D):=by
 intro n k b es x S Q W hel hk hx q;unfold g0;rw[hb,hN];have no:∀ S',Gw S S'->¬ Eh n es S x->Q (.bl false) S':=λS' G h=>q false S' G ⟨nofun,λz=>absurd z h⟩;obtain⟨ty,e1,e2⟩:=hx.isT;refine⟨hp.symm,_,rfl,_,nofun,e1,_,rfl,?_⟩;rw[e2];by_cases it:isT x=true
 case neg=>
  rw[UK.mpr it];exact ifT rfl (no S (Gw.refl S) λ⟨_,_,_,_,e,_⟩=>by rw[e]at it;exact it rfl)
 rw[it];obtain⟨ys,rfl⟩:=DA it;refine ifF rfl ⟨_,rfl,_,rfl,_,rfl,?_⟩;show if (!decide ((ys.length:Int)=3))=true then _ else _
 rw[Dw];by_cases ip:Mn (.tup ys)=true
 case neg=>
  rw[UK.mpr ip];exact ifT rfl (no S (Gw.refl S) λ⟨_,_,_,_,e,_⟩=>by rw[e]at ip;exact ip rfl)
 rw[ip];obtain⟨a,hu,pa,rfl⟩:=Mo ip;obtain⟨k1,b1,rfl,_,hg⟩:=hx.el;have ga:=hg a (UG ..);have gh:=hg hu (UE _ (UG ..));have gp:=hg pa (UE _ (UE _ (UG ..)));refine ifF rfl ⟨_,rfl,_,_,rfl,rfl,hn ga ⟨_,rfl,?_⟩⟩;by_cases ia:isI a=true
 case neg=>
  rw[UK.mpr ia];exact ifT rfl (no S (Gw.refl S) λh=>by obtain⟨m,_,e,_⟩:=An h;rw[e]at ia;exact ia rfl)
 rw[ia]
 obtain⟨m,rfl⟩:∃ i,a = .int i:=by
  cases a with
  | int i=>exact⟨i,rfl⟩
  | _=>cases ia
 refine ifF rfl ⟨_,rfl,_,_,rfl,rfl,_,rfl,?_⟩;refine ifD (λz=>no S (Gw.refl S) λh=>by obtain⟨m',_,e,h0,_⟩:=An h;injection e with e;have z:m<0:=z;omega) (λz=>f6 ?_);have z:¬ m<0:=z;refine⟨_,rfl,_,rfl,_,_,rfl,rfl,_,rfl,_,_,rfl,rfl,hw W hel gh λr S1 G1 er=>⟨_,rfl,?_⟩⟩;cases r with
 | false=>exact ifT rfl (no S1 G1 λh=>by obtain⟨m',xs,e,h0,s,hp,lt,_⟩:=An h;injection e with e;subst e;exact absurd (er.mpr ⟨xs,s,hp,lt⟩) nofun)
 | true=>
   obtain⟨xs,s0,hH,lt⟩:=er.mp rfl;refine ifF rfl (f6 ?_);have fi:Eh n es S (.tup [.int m,hu,pa])↔(m=0/\pa = .non)\/(0<m/\C2 n es (m - 1).toNat pa):=⟨λh=>by obtain⟨m',_,e,_,_,_,_,h⟩:=An h;injection e with e;subst e;exact h,λh=>⟨m,hu,pa,xs,rfl,by omega,s0,hH,lt,h⟩⟩
   refine⟨_,rfl,_,_,rfl,rfl,_,rfl,?_⟩;refine ifD (λz0=>?_) (λz0=>?_)
   ·have z0:m=0:=z0;subst z0;refine⟨_,rfl,_,_,rfl,rfl,.inl ⟨rfl,q _ S1 G1 ?_⟩⟩;rw[fi];show C4 pa=true↔_;exact⟨λh => .inl ⟨rfl,by cases pa<;>first | rfl | cases h⟩,λh=>h.elim (λh=>by rw[h.2];rfl) λh=>absurd h.1 (by omega)⟩
   ·have z0:¬ m=0:=z0;obtain⟨c,rfl⟩:∃ c:Nat,m=(c:Nat)+1:=⟨(m - 1).toNat,by omega⟩
    have e:((c:Nat):Int)+1 - 1=(c:Nat):=by omega
    rw[e,VD]at fi;refine⟨_,rfl,_,rfl,_,_,rfl,rfl,_,rfl,_,_,rfl,rfl,?_⟩
    have fin:∀ z:Int,z=(c:Nat)->Δ kt [i4 n es,.int z,pa] S1 Q:=by
     rintro _ rfl;refine ht W hel (by omega) (gp.grow G1) λr S2 G2 er=>q r S2 (G1.trans G2) (er.trans (fi.trans ⟨λh=>h.elim (λh=>absurd h.1 z0) λh=>h.2,λh => .inr ⟨by omega,h⟩⟩).symm)
    exact fin _ e
noncomputable def fw1:Stm:=(.iff (.or (.not (.bi .isi (.cons (.var 1) (.cons (.tyc .tuple) .nil)))) (.cmp .NotEq (.bi .len (.cons (.var 1) .nil)) (.c (.int 3)))) [(.ret (.c (.bl false)))] [])
noncomputable def fw2:Stm:=(.asg (.tup (.cons (.nm 2) (.cons (.nm 3) (.cons (.nm 4) .nil)))) (.var 1))
noncomputable def fw3(kn:Nat):Stm:=(.iff (.or (.not (.call kn (.cons (.var 2) .nil))) (.cmp .Lt (.var 2) (.c (.int 0)))) [(.ret (.c (.bl false)))] [])
noncomputable def fw4(kw:Nat):Stm:=(.iff (.or (.not (.call kw (.cons (.var 0) (.cons (.var 3) .nil)))) (.bi .any (.cons (.comp ["hue"] ["number"] [2] (.nm 0) (.seq (.var 3)) .no (.cmp .GtE (.var 0) (.var 1))) .nil))) [(.ret (.c (.bl false)))] [])
noncomputable def fw5:Stm:=(.iff (.cmp .Eq (.var 2) (.c (.int 0))) [(.ret (.cmp .Is (.var 4) (.c .non)))] [])
noncomputable def fw6(kf:Nat):Stm:=(.ret (.call kf (.cons (.var 0) (.cons (.op .Sub (.var 2) (.c (.int 1))) (.cons (.var 4) .nil)))))
noncomputable def TM(kn kw kf:Nat):List Stm:=[fw1,fw2,fw3 kn,fw4 kw,fw5,fw6 kf]
theorem RL(hΔ:∀ f,MonoN (Δ f)){kn kw kf:Nat}(hn:CF (Δ kn))(hw:HM (Δ kw))(hf:v6 C2 (Δ kf)){D:Df}(hb:D.body=TM kn kw kf)(hN:D.N.length=5)(hp:D.ps.length=2):Om (g0 Δ D):=by
 intro n k b es x S Q W hel hk hx q;unfold g0;rw[hb,hN];have no:∀ S',Gw S S'->¬ Eh n es S x->Q (.bl false) S':=λS' G h=>q false S' G ⟨nofun,λz=>absurd z h⟩;obtain⟨ty,e1,e2⟩:=hx.isT;refine⟨hp.symm,_,rfl,_,nofun,e1,_,rfl,?_⟩;rw[e2];by_cases it:isT x=true
 case neg=>
  rw[UK.mpr it];exact ifT rfl (no S (Gw.refl S) λ⟨_,_,_,_,e,_⟩=>by rw[e]at it;exact it rfl)
 rw[it];obtain⟨ys,rfl⟩:=DA it;refine ifF rfl ⟨_,rfl,_,rfl,_,rfl,?_⟩;show if (!decide ((ys.length:Int)=3))=true then _ else _
 rw[Dw];by_cases ip:Mn (.tup ys)=true
 case neg=>
  rw[UK.mpr ip];exact ifT rfl (no S (Gw.refl S) λ⟨_,_,_,_,e,_⟩=>by rw[e]at ip;exact ip rfl)
 rw[ip];obtain⟨a,hu,pa,rfl⟩:=Mo ip;obtain⟨k1,b1,rfl,_,hg⟩:=hx.el;have ga:=hg a (UG ..);have gh:=hg hu (UE _ (UG ..));have gp:=hg pa (UE _ (UE _ (UG ..)));refine ifF rfl (f6 ⟨_,rfl,?_⟩);show wSs Δ [fw3 kn,fw4 kw,fw5,fw6 kf] (j8 Q) [some (i4 n es),some (.tup [a,hu,pa]),some a,some hu,some pa] S;refine⟨_,rfl,hn ga ⟨_,rfl,?_⟩⟩;by_cases ia:isI a=true
 case neg=>
  rw[UK.mpr ia];exact ifT rfl (no S (Gw.refl S) λh=>by obtain⟨m,_,e,_⟩:=An h;rw[e]at ia;exact ia rfl)
 rw[ia]
 obtain⟨m,rfl⟩:∃ i,a = .int i:=by
  cases a with
  | int i=>exact⟨i,rfl⟩
  | _=>cases ia
 refine ifF rfl ⟨_,rfl,_,rfl,?_⟩;refine ifD (λz=>no S (Gw.refl S) λh=>by obtain⟨m',_,e,h0,_⟩:=An h;injection e with e;have z:m<0:=z;omega) (λz=>f6 ?_);have z:¬ m<0:=z;refine⟨_,rfl,_,rfl,hw W hel gh λr S1 G1 er=>⟨_,rfl,?_⟩⟩;have nonlt:∀{xs:List SV},(∀ y∈xs,ltH m y=true)->SV.non∉xs:=λh hm=>by cases h _ hm
 cases r with
 | false=>exact ifT rfl (no S1 G1 λh=>by obtain⟨m',xs,e,h0,s,hp,lt,_⟩:=An h;injection e with e;subst e;exact absurd (er.mpr ⟨xs,s,hp,nonlt lt⟩) nofun)
 | true=>
   obtain⟨xs,s0,hH,nn⟩:=er.mp rfl;obtain⟨s1,kp,hxl⟩:=gh.stay G1 s0;refine ifF rfl ⟨_,rfl,_,s1,?_⟩;refine y7 hΔ (λi=>!ltH m (xs.getD i .non)) (by omega) (λS' G=>kp S' (G1.trans G)) ?_ ?_
   ·intro i y S' hy G;have ey:xs.getD i .non=y:=by rw[UU,hy];rfl
    rw[ey];have my:=UC hy;rcases DC (hH.2.1 y my) with rfl | ⟨g,rfl,_⟩
    ·exact absurd my nn
    ·refine⟨_,rfl,_,rfl,?_,G⟩;show SV.bl (decide (m<=g)) = .bl (!decide (g<m))
     congr 1
     by_cases c:g<m
     ·rw[decide_eq_true c,decide_eq_false (by omega)];rfl
     ·rw[decide_eq_false c,decide_eq_true (by omega)];rfl
   intro S2 G2;have G3:=(G1.trans G2).push (o:=SO.lst ((U7 xs.length).map λi => .bl (!ltH m (xs.getD i .non))));refine⟨_,_,nofun,e7 c9,AM _ _,_,rfl,?_⟩;generalize S2++[SO.lst ((U7 xs.length).map λi => .bl (!ltH m (xs.getD i .non)))]=S3 at *;by_cases hA:((U7 xs.length).map λi=>!ltH m (xs.getD i .non)).any id=true
   ·rw[hA];obtain⟨i,hi,hlt⟩:=any_mapF.mp hA
    exact ifT rfl (no S3 G3 λh=>by
     obtain⟨m',ys,e,h0,s,hp,lt,_⟩:=An h;injection e with e;subst e;rw[s0]at s;cases s;rw[all_at.mpr lt i hi]at hlt;cases hlt)
   rw[UK.mpr hA]
   have lt:∀ y∈xs,ltH m y=true:=all_at.mp λi hi=>by
    cases c:ltH m (xs.getD i .non) with
    | true=>rfl
    | false=>exact absurd (any_mapF.mpr ⟨i,hi,by rw[c];rfl⟩) hA
   refine ifF rfl (f6 ?_);have fi:Eh n es S (.tup [.int m,hu,pa])↔(m=0/\pa = .non)\/(0<m/\C2 n es (m - 1).toNat pa):=⟨λh=>by obtain⟨m',_,e,_,_,_,_,h⟩:=An h;injection e with e;subst e;exact h,λh=>⟨m,hu,pa,xs,rfl,by omega,s0,hH,lt,h⟩⟩
   refine⟨_,rfl,_,rfl,?_⟩;refine ifD (λz0=>?_) (λz0=>f6 ?_)
   ·have z0:m=0:=z0;subst z0;refine⟨_,rfl,.inl ⟨rfl,q _ S3 G3 ?_⟩⟩;rw[fi];show C4 pa=true↔_;exact⟨λh => .inl ⟨rfl,by cases pa<;>first | rfl | cases h⟩,λh=>h.elim (λh=>by rw[h.2];rfl) λh=>absurd h.1 (by omega)⟩
   ·have z0:¬ m=0:=z0;obtain⟨c,rfl⟩:∃ c:Nat,m=(c:Nat)+1:=⟨(m - 1).toNat,by omega⟩
    have e:((c:Nat):Int)+1 - 1=(c:Nat):=by omega
    rw[e,VD]at fi;refine⟨_,rfl,_,rfl,_,rfl,?_⟩
    have fin:∀ z:Int,z=(c:Nat)->Δ kf [i4 n es,.int z,pa] S3 Q:=by
     rintro _ rfl;exact hf W hel (by omega) (gp.grow G3) λr S4 G4 er=>q r S4 (G3.trans G4) (er.trans (fi.trans ⟨λh=>h.elim (λh=>absurd h.1 z0) λh=>h.2,λh => .inr ⟨by omega,h⟩⟩).symm)
    exact fin _ e
end
section
variable{Δ:Nat->Sn}{t l bl a km v:Nat}{H:Nat->Prop}{L:List Nat}{o4:Option SV}
theorem RM{B:Sto->Prop}{ρ:EnvS}{k b n j:Nat}{es:Exs}{rest:List Stm}{D:EndsS}{S:Sto}(h:GEs Δ H B ρ k b n es)(b0:B S)(nw:Nw H S)(hn:n<=1000)(q:∀(ys:List SV) (S':Sto),Gw S S'->ys.length=n->(∀ y∈ys,Gd (VH H S') k b y)->wSs Δ rest D (ρ.set j (some (.loc S'.length))) (S'++[.lst ys])):wSs Δ (.asg (.nm j) (.lst es)::rest) D ρ S:=
 h S _ b0 nw λys S' G hl hg=>⟨by rw[hl];show n<=100000;omega,q ys S' G hl hg⟩
theorem Op{B:Sto->Prop}{ρ:EnvS}{k b n j k0:Nat}{ys:List SV}{es:Exs}{rest:List Stm}{D:EndsS}{S:Sto}(h:GEs Δ H B ρ k b n es)(b0:B S)(nw:Nw H S)(hv:∀(S:Sto) (Q:QE),Q (.loc k0) S->(wEx Δ (.var j)).1 ρ S Q)(hk:S[k0]?=some (.lst ys))(hn:ys.length+n<=1000)(q:∀(zs:List SV) (S':Sto),Gw S S'->zs.length=n->(∀ y∈zs,Gd (VH H S') k b y)->wSs Δ rest D (ρ.set j (some (.loc (S'++[SO.lst zs]).length))) (S'++[.lst zs]++[.lst (ys++zs)])):wSs Δ (.asg (.nm j) (.op .Add (.var j) (.lst es))::rest) D ρ S:=by
 show w2 GP (wEx Δ (.var j)).1 (wEx Δ (.lst es)).1 ρ S _;exact hv S _ (h S _ b0 nw λzs S' G hl hg=>⟨by rw[hl];show n<=100000;omega,ys,zs,t5 (G.keep _ _ hk),c9,by rw[hl];show _<=100000;omega,q zs S' G hl hg⟩)
end
section
variable{Δ:Nat->Sn}
noncomputable def od1:Exs:=(.cons (.c .non) (.cons (.c (.bl true)) (.cons (.c (.bl false)) (.cons (.c (.int 0)) (.cons (.c (.int 1)) (.cons (.neg (.c (.int 1))) (.cons (.c (.int 7)) (.cons (.c (.str "")) (.cons (.c (.str "place")) (.cons (.c (.str "set")) (.cons (.c (.str "tree")) (.cons (.tup .nil) (.cons (.lst .nil) (.cons (.tup (.cons (.c (.int 0)) .nil)) (.cons (.lst (.cons (.c (.int 0)) .nil)) (.cons (.tup (.cons (.c (.int 0)) (.cons (.tup .nil) .nil))) (.cons (.tup (.cons (.c (.int 0)) (.cons (.c (.int 1)) (.cons (.c (.int 2)) .nil)))) (.cons (.c (.str "0")) .nil))))))))))))))))))
noncomputable def od2:Exs:=(.cons (.tup (.cons (.c (.str "place")) .nil)) (.cons (.tup (.cons (.c (.str "place")) (.cons (.c (.int 0)) (.cons (.c (.int 0)) .nil)))) (.cons (.tup (.cons (.c (.str "set")) (.cons (.tup .nil) .nil))) (.cons (.tup (.cons (.c (.str "set")) (.cons (.tup (.cons (.c (.int 0)) (.cons (.c (.int 1)) .nil))) .nil))) (.cons (.tup (.cons (.c (.str "tree")) (.cons (.tup .nil) .nil))) (.cons (.tup (.cons (.c (.str "tree")) (.cons (.tup (.cons (.c (.int 0)) .nil)) .nil))) .nil))))))
noncomputable def od3:Exs:=(.cons (.tup (.cons (.c (.str "tree")) (.cons (.lst (.cons (.c (.int 0)) (.cons (.tup .nil) .nil))) .nil))) (.cons (.tup (.cons (.c .non) (.cons (.c .non) .nil))) .nil))
noncomputable def Pb(kd:Nat):List Stm:=[(.asg (.nm 1) (.lst od1)),(.asg (.nm 1) (.op .Add (.var 1) (.lst od2))),(.ret (.ix (.op .Add (.var 1) (.lst od3)) (.call kd (.cons (.var 0) (.cons (.c (.int 26)) .nil)))))]
section
variable{H:Nat->Prop}{B:Sto->Prop}{ρ:EnvS}
theorem flI(i:Int)(h:-1000000000000000000000<=i/\i<=1000000000000000000000):p4 (.int i):=λ_ _ _ _ => .int h
theorem flW{x:Str}(h:x.cps.size<=10)(hc:(x.cps.toList.all λc=>decide (c<16 ^ 8))=true):p4 (.str x):=Jq (RF h hc)
theorem TN(hB:∀ S S',B S->Gw S S'->B S'):GEs Δ H B ρ 3 60 18 od1:=by
 have c:∀{k b:Nat} {u:SV},p4 u->10<=b->GE Δ H B ρ k b (.c u):=λh hb=>(MU h).ge hb;have c3:∀{u:SV},p4 u->GE Δ H B ρ 3 60 (.c u):=λh=>c h (by decide);have f0:=flI 0 (by decide);have f1:=flI 1 (by decide);have f2:=flI 2 (by decide);have ng:GE Δ H B ρ 3 60 (.neg (.c (.int 1))):=FE.ge (λS Q q=>q _ λ_ _ _ _ => .int ⟨by decide,by decide⟩) (by decide);have e0:∀{k b:Nat},GE Δ H B ρ (k+1) b (.tup .nil):=GE.tup (b:=0) GEs.nil (by decide) (by omega);have l0:GE Δ H B ρ 3 60 (.lst .nil):=GE.lst (k:=2) (b:=0) GEs.nil (by decide) (by decide);refine GEs.cons hB (c3 λ_ _ _ _ => .non) (GEs.cons hB (c3 λ_ _ _ _ => .bl true) (GEs.cons hB (c3 λ_ _ _ _ => .bl false) (GEs.cons hB (c3 f0) (GEs.cons hB (c3 f1) (GEs.cons hB ng (GEs.cons hB (c3 (flI 7 (by decide))) (GEs.cons hB (c3 (flW (by decide) (by decide))) (GEs.cons hB (c3 (flW (by decide) (by decide))) (GEs.cons hB (c3 (flW (by decide) (by decide))) (GEs.cons hB (c3 (flW (by decide) (by decide))) ?_))))))))));refine GEs.cons hB e0 (GEs.cons hB l0 (GEs.cons hB (GE.tup (b:=10) (GEs.cons hB (c f0 (by decide)) GEs.nil) (by decide) (by decide)) (GEs.cons hB (GE.lst (b:=10) (GEs.cons hB (c f0 (by decide)) GEs.nil) (by decide) (by decide)) ?_)));exact GEs.cons hB (GE.tup (k:=2) (b:=10) (GEs.cons hB (c f0 (by decide)) (GEs.cons hB e0 GEs.nil)) (by decide) (by decide)) (GEs.cons hB (GE.tup (b:=10) (GEs.cons hB (c f0 (by decide)) (GEs.cons hB (c f1 (by decide)) (GEs.cons hB (c f2 (by decide)) GEs.nil))) (by decide) (by decide)) (GEs.cons hB (c3 (flW (by decide) (by decide))) GEs.nil))
theorem TQ(hB:∀ S S',B S->Gw S S'->B S'):GEs Δ H B ρ 3 60 6 od2:=by
 have c:∀{k b:Nat} {u:SV},p4 u->10<=b->GE Δ H B ρ k b (.c u):=λh hb=>(MU h).ge hb;have f0:=flI 0 (by decide);have f1:=flI 1 (by decide);have fp:p4 (.str "place"):=flW (by decide) (by decide);have fs:p4 (.str "set"):=flW (by decide) (by decide);have ft:p4 (.str "tree"):=flW (by decide) (by decide);have e0:∀{k b:Nat},GE Δ H B ρ (k+1) b (.tup .nil):=GE.tup (b:=0) GEs.nil (by decide) (by omega);refine GEs.cons hB (GE.tup (b:=10) (GEs.cons hB (c fp (by decide)) GEs.nil) (by decide) (by decide)) (GEs.cons hB (GE.tup (b:=10) (GEs.cons hB (c fp (by decide)) (GEs.cons hB (c f0 (by decide)) (GEs.cons hB (c f0 (by decide)) GEs.nil))) (by decide) (by decide)) (GEs.cons hB (GE.tup (k:=2) (b:=10) (GEs.cons hB (c fs (by decide)) (GEs.cons hB e0 GEs.nil)) (by decide) (by decide)) ?_));refine GEs.cons hB (GE.tup (k:=2) (b:=22) (GEs.cons hB (c fs (by decide)) (GEs.cons hB (GE.tup (k:=1) (b:=10) (GEs.cons hB (c f0 (by decide)) (GEs.cons hB (c f1 (by decide)) GEs.nil)) (by decide) (by decide)) GEs.nil)) (by decide) (by decide)) (GEs.cons hB (GE.tup (k:=2) (b:=10) (GEs.cons hB (c ft (by decide)) (GEs.cons hB e0 GEs.nil)) (by decide) (by decide)) ?_);exact GEs.cons hB (GE.tup (k:=2) (b:=22) (GEs.cons hB (c ft (by decide)) (GEs.cons hB (GE.tup (k:=1) (b:=10) (GEs.cons hB (c f0 (by decide)) GEs.nil) (by decide) (by decide)) GEs.nil)) (by decide) (by decide)) GEs.nil
theorem TR(hB:∀ S S',B S->Gw S S'->B S'):GEs Δ H B ρ 3 60 2 od3:=by
 have c:∀{k b:Nat} {u:SV},p4 u->10<=b->GE Δ H B ρ k b (.c u):=λh hb=>(MU h).ge hb;have f0:=flI 0 (by decide);have fn:p4 .non:=λ_ _ _ _ => .non;have ft:p4 (.str "tree"):=flW (by decide) (by decide);have e0:∀{k b:Nat},GE Δ H B ρ (k+1) b (.tup .nil):=GE.tup (b:=0) GEs.nil (by decide) (by omega);exact GEs.cons hB (GE.tup (k:=2) (b:=22) (GEs.cons hB (c ft (by decide)) (GEs.cons hB (GE.lst (k:=1) (b:=10) (GEs.cons hB (c f0 (by decide)) (GEs.cons hB e0 GEs.nil)) (by decide) (by decide)) GEs.nil)) (by decide) (by decide)) (GEs.cons hB (GE.tup (k:=2) (b:=10) (GEs.cons hB (c fn (by decide)) (GEs.cons hB (c fn (by decide)) GEs.nil)) (by decide) (by decide)) GEs.nil)
end
theorem Mp{H:Nat->Prop}{B:Sto->Prop}{ρ:EnvS}{k b n:Nat}{es:Exs}{S:Sto}{K:QE}(h:GEs Δ H B ρ k b n es)(b0:B S)(nw:Nw H S)(hn:n<=1000)(q:∀(ys:List SV) (S':Sto),Gw S S'->ys.length=n->(∀ y∈ys,Gd (VH H S') k b y)->K (.loc S'.length) (S'++[.lst ys])):(wEx Δ (.lst es)).1 ρ S K:=
 h S _ b0 nw λys S' G hl hg=>⟨by rw[hl];show n<=100000;omega,q ys S' G hl hg⟩
noncomputable def Ej(s:Nat->Sto->QE->Prop)(k b:Nat):Prop:=∀{t:Nat} {H:Nat->Prop} {S:Sto} {Q:QE},H t->Nw H S->TapeS S t->(∀(y:SV) (S':Sto),TapeS S' t->On t S S'->Gd (VH H S') k b y->Q y S')->s t S Q
noncomputable def Oq(s:Sn):Prop:=Ej (λt=>s [.loc t]) 3 60
theorem Os{kd:Nat}(hd:l4 (Δ kd)){D:Df}(hb:D.body=Pb kd)(hN:D.N.length=2)(hp:D.ps.length=1):Oq (g0 Δ D):=by
 intro t H S Q h0 nw T q;show g0 Δ D [.loc t] S Q;unfold g0;rw[hb,hN];refine⟨hp.symm,?_⟩;show wSs Δ [(.asg (.nm 1) (.lst od1)),(.asg (.nm 1) (.op .Add (.var 1) (.lst od2))),(.ret (.ix (.op .Add (.var 1) (.lst od3)) (.call kd (.cons (.var 0) (.cons (.c (.int 26)) .nil)))))] (j8 Q) [some (.loc t),none] S;refine RM (H:=H) (B:=λ_=>True) (TN λ_ _ _ _=>trivial) trivial nw (by decide) λys S1 G1 yl yg=>?_;have nw1:=nw.on (G1.push (o:=SO.lst ys)).len;refine Op (H:=H) (B:=λ_=>True) (TQ λ_ _ _ _=>trivial) trivial nw1 (λS Q q=>⟨_,rfl,q⟩) c9 (by omega) λzs S2 G2 zl zg=>?_;have G3:Gw S (S2++[SO.lst zs]++[SO.lst (ys++zs)]):=(G1.push.trans G2).push.push;have h3:(S2++[SO.lst zs]++[SO.lst (ys++zs)])[(S2++[SO.lst zs]).length]?=some (.lst (ys++zs)):=c9;have g3:∀ y∈ys++zs,Gd (VH H (S2++[SO.lst zs]++[SO.lst (ys++zs)])) 3 60 y:=λy hy=>(UV.mp hy).elim (λh=>(yg y h).hg (((Gw.refl S1).push.trans G2).push.push).hg) λh=>(zg y h).hg ((Gw.refl S2).push.push).hg;have l3:(ys++zs).length=24:=by rw[UD,yl,zl]
 generalize (S2++[SO.lst zs]).length=m at *;generalize S2++[SO.lst zs]++[SO.lst (ys++zs)]=S3 at *;generalize ys++zs=us at *;have T3:=G3.tape T;have nw3:=nw.on G3.len;show w2 sIx (w2 GP (wEx Δ (.var 1)).1 (wEx Δ (.lst od3)).1) (wEx Δ (.call kd (.cons (.var 0) (.cons (.c (.int 26)) .nil)))).1 [some (.loc t),some (.loc m)] S3 Q;refine⟨_,rfl,?_⟩;show(wEx Δ (.lst od3)).1 [some (.loc t),some (.loc m)] S3 _;refine Mp (H:=H) (B:=λ_=>True) (TR λ_ _ _ _=>trivial) trivial nw3 (by decide) λvs S4 G4 vl vg=>⟨us,vs,t5 (G4.keep _ _ h3),c9,by rw[vl,l3];show 24+2<=100000;decide,?_⟩
 have G5:Gw S3 (S4++[SO.lst vs]++[SO.lst (us++vs)]):=G4.push.push;have h5:(S4++[SO.lst vs]++[SO.lst (us++vs)])[(S4++[SO.lst vs]).length]?=some (.lst (us++vs)):=c9;have g5:∀ y∈us++vs,Gd (VH H (S4++[SO.lst vs]++[SO.lst (us++vs)])) 3 60 y:=λy hy=>(UV.mp hy).elim (λh=>(g3 y h).hg G5.hg) λh=>(vg y h).hg ((Gw.refl S4).push.push).hg;have l5:(us++vs).length=26:=by rw[UD,vl,l3]
 have tl:t<(S4++[SO.lst vs]).length:=UP T3.lt (by rw[UD];exact UR G4.len (VJ _ _));generalize (S4++[SO.lst vs]).length=m' at *;generalize S4++[SO.lst vs]++[SO.lst (us++vs)]=S5 at *;generalize us++vs=ws at *;refine⟨_,rfl,hd (G5.tape T3) (by decide) (by decide) λr S6 r0 r1 T6 O6 _=>?_⟩;obtain⟨a,rfl⟩:=Uv r0;have ha:a<ws.length:=by omega
 exact⟨ws,ws[a],e7 (O6.keep _ _ (by omega) h5),j0 (UI ha),q _ S6 T6 ((G3.trans G5).on.trans O6) ((g5 _ (Ut ha)).hg (O6.hg h0))⟩
end
noncomputable def bb:Nat->Nat
 | 0=>60
 | d+1=>3 * (bb d+1)
theorem Pc:∀ d,60<=bb d
 | 0=>U9 _
 | d+1=>by have:=Pc d;unfold bb;omega
section
variable{Δ:Nat->Sn}
noncomputable def tg1(kd:Nat):Stm:=(.asg (.nm 2) (.call kd (.cons (.var 0) (.cons (.c (.int 6)) .nil))))
noncomputable def tg2(kd ko:Nat):Stm:=(.ret (.ix (.lst (.cons (.call ko (.cons (.var 0) .nil)) (.cons (.call kd (.cons (.var 0) (.cons (.c (.int 6)) .nil))) .nil))) (.call kd (.cons (.var 0) (.cons (.c (.int 2)) .nil)))))
noncomputable def tg3(kd ko:Nat):Stm:=(.iff (.or (.cmp .Eq (.var 1) (.c (.int 0))) (.cmp .Lt (.var 2) (.c (.int 2)))) [tg2 kd ko] [])
noncomputable def tg4(kd kt:Nat):Stm:=(.asg (.nm 3) (.comp ["_law_turn"] ["_law_tape_here","_law_deep"] [0,1] (.nm 0) (.rng1 (.call kd (.cons (.var 0) (.cons (.c (.int 4)) .nil)))) .no (.call kt (.cons (.var 1) (.cons (.op .Sub (.var 2) (.c (.int 1))) .nil)))))
noncomputable def tg5:Stm:=(.ret (.ife (.cmp .Eq (.var 2) (.c (.int 2))) (.var 3) (.bi .tuple (.cons (.var 3) .nil))))
noncomputable def Ia(kd ko kt:Nat):List Stm:=[tg1 kd,tg3 kd ko,tg4 kd kt,tg5]
noncomputable def BR(s:Sn)(d:Nat):Prop:=Ej (λt=>s [.loc t,.int (d:Nat)]) (3+d) (bb d)
theorem RN{kd ko:Nat}(hd:l4 (Δ kd))(ho:Oq (Δ ko)){t:Nat}{H:Nat->Prop}{o1 o2 o3:Option SV}{S:Sto}{D:EndsS}(h0:H t)(nw:Nw H S)(T:TapeS S t)(q:∀(y:SV) (S':Sto),TapeS S' t->On t S S'->Gd (VH H S') 3 60 y->D.rt y S'):wSs Δ [tg2 kd ko] D [some (.loc t),o1,o2,o3] S:=by
 refine⟨_,rfl,ho h0 nw T λy S1 T1 O1 g1=>⟨_,rfl,hd T1 (by decide) (by decide) λr S2 r0 r1 T2 O2 _=>⟨by show 2<=100000;decide,?_⟩⟩⟩;have g2:=(g1.hg (O2.hg h0)).hg ((Gw.refl S2).push (o:=SO.lst [y,.int r])).hg;have h2:(S2++[SO.lst [y,.int r]])[S2.length]?=some (.lst [y,.int r]):=c9;have O3:On t S (S2++[SO.lst [y,.int r]]):=(O1.trans O2).push;have tl:=T2.lt;have T3:=T2.push (o:=SO.lst [y,.int r]);generalize S2.length=m at *;generalize S2++[SO.lst [y,.int r]]=S3 at *;refine⟨_,rfl,hd T3 (by decide) (by decide) λa S4 a0 a1 T4 O4 _=>?_⟩;have h4:=O4.keep _ _ (by omega) h2;have:a=0\/a=1:=by omega
 rcases this with rfl | rfl
 ·exact⟨_,_,e7 h4,j0 (j:=0) rfl,q _ S4 T4 (O3.trans O4) (g2.hg (O4.hg h0))⟩
 ·exact⟨_,_,e7 h4,j0 (j:=1) rfl,q _ S4 T4 (O3.trans O4) (.int ⟨by omega,by omega⟩)⟩
theorem C8(hΔ:∀ f,MonoN (Δ f)){kd ko kt d:Nat}(hd:l4 (Δ kd))(ho:Oq (Δ ko))(ht:∀ d',d=d'+1->BR (Δ kt) d'){D:Df}(hb:D.body=Ia kd ko kt)(hN:D.N.length=4)(hp:D.ps.length=2):BR (g0 Δ D) d:=by
 intro t H S Q h0 nw T q;show g0 Δ D [.loc t,.int (d:Nat)] S Q;unfold g0;rw[hb,hN];refine⟨hp.symm,_,rfl,hd T (by decide) (by decide) λw S1 w0 w1 T1 O1 _=>?_⟩;have flat:wSs Δ [tg2 kd ko] (j8 Q) [some (.loc t),some (.int (d:Nat)),some (.int w),none] S1:=RN hd ho h0 (nw.on O1.len) T1 λy S2 T2 O2 g2=>q y S2 T2 (O1.trans O2) (g2.up (by omega) (Pc d));show wSs Δ [tg3 kd ko,tg4 kd kt,tg5] (j8 Q) [some (.loc t),some (.int (d:Nat)),some (.int w),none] S1;refine⟨_,rfl,_,rfl,?_⟩;refine ifD (λ_=>flat) (λz=>⟨_,rfl,_,rfl,ifD (λ_=>flat) (λz2=>f6 ?_)⟩);have z:¬ ((d:Nat):Int)=0:=z;obtain⟨e,rfl⟩:∃ e,d=e+1:=⟨d - 1,by omega⟩
 clear flat;refine⟨_,rfl,hd T1 (by decide) (by decide) λc S2 c0 c1 T2 O2 _=>⟨c,rfl,⟨by omega,by omega⟩,?_⟩⟩;refine i7 (j5 hΔ _).2 (c7 hΔ _).1 (λi ys S3=>TapeS S3 t/\On t S2 S3/\ys.length=i/\∀ y∈ys,Gd (VH H S3) (3+e) (bb e) y) ⟨T2,On.refl t S2,rfl,λ_ h=>nomatch h⟩ (λ_ _ _ _=>trivial) ?_ ?_
 ·rintro i x ys S3 hx ⟨T3,O3,hl,hg⟩;have hi:i<4:=by have:=(gM hx).1;rw[l6]at this;omega
  have fin:∀ z:Int,z=(e:Nat)->Δ kt [.loc t,.int z] S3 (λy S2'=>ys.length<big/\TapeS S2' t/\On t S2 S2'/\(ys++[y]).length=i+1/\∀ y'∈ys++[y],Gd (VH H S2') (3+e) (bb e) y'):=by
   rintro _ rfl;refine ht e rfl h0 (nw.on (O1.trans (O2.trans O3)).len) T3 λy S4 T4 O4 g4=>⟨by show _<100000;omega,T4,O3.trans O4,by rw[UD,hl];rfl,λy' hy'=>?_⟩
   rcases UV.mp hy' with h | h
   ·exact(hg y' h).hg (O4.hg h0)
   ·rw[UA.mp h];exact g4
  exact⟨_,rfl,_,rfl,fin _ (by show((e+1:Nat):Int) - 1=_;omega)⟩
 ·rintro ys S3 ⟨T3,O3,hl,hg⟩;rw[l6]at hl;have hl3:ys.length<=3:=by omega
  have nm:¬ H S3.length:=(nw.on (O1.trans (O2.trans O3)).len).new;have hg:=λy hy=>(hg y hy).hg ((Gw.refl S3).push (o:=SO.lst ys)).hg;have h3:(S3++[SO.lst ys])[S3.length]?=some (.lst ys):=c9;have O4:On t S (S3++[SO.lst ys]):=(O1.trans (O2.trans O3)).push;have tl:=T3.lt;have T4:=T3.push (o:=SO.lst ys);generalize S3.length=m at *;generalize S3++[SO.lst ys]=S4 at *;have hb3:ys.length * (bb e+1)<=bb (e+1):=by show _<=3 * (bb e+1);exact Nat.mul_le_mul_right _ hl3
  refine⟨_,rfl,_,rfl,?_⟩;refine ifD (λ_=>⟨_,rfl,q _ S4 T4 O4 ?_⟩) (λ_=>⟨_,rfl,_,e7 h3,q _ S4 T4 O4 ?_⟩)
  ·exact .lst (k:=3+e) (b:=bb e) ⟨nm,h3⟩ hg (by omega) hb3
  ·exact .tup (k:=3+e) (b:=bb e) hg (by omega) hb3
noncomputable def pq1:Exs:=(.cons (.c (.str "place")) (.cons (.c (.str "set")) (.cons (.c (.str "tree")) (.cons (.c (.str "tree")) (.cons (.c (.str "set")) (.cons (.c .non) (.cons (.c (.str "place ")) .nil)))))))
noncomputable def pq2(kd:Nat):Stm:=(.asg (.nm 1) (.ix (.lst pq1) (.call kd (.cons (.var 0) (.cons (.c (.int 7)) .nil)))))
noncomputable def pq3(kt:Nat):Stm:=(.ret (.tup (.cons (.var 1) (.cons (.call kt (.cons (.var 0) (.cons (.c (.int 4)) .nil))) .nil))))
noncomputable def Ib(kd kt:Nat):List Stm:=[pq2 kd,pq3 kt]
noncomputable def HP(s:Sn):Prop:=Ej (λt=>s [.loc t]) 8 9962
theorem Ic{kd n j:Nat}{z:Int}{es:Exs}{t:Nat}{H:Nat->Prop}{ρ:EnvS}{S:Sto}{K:QE}(ht0:H t)(nw:Nw H S)(hd:l4 (Δ kd))(h:GEs Δ H (λ_=>True) ρ 0 10 n es)(hρ:ρ[j]?=some (some (.loc t)))(T:TapeS S t)(hn:n<=100)(hz:z=(n:Nat))(h0:0<n)(q:∀(y:SV) (S':Sto),TapeS S' t->On t S S'->Gd (VH H S') 0 10 y->K y S'):(wEx Δ (.ix (.lst es) (.call kd (.cons (.var j) (.cons (.c (.int z)) .nil))))).1 ρ S K:=by
 show(wEx Δ (.lst es)).1 ρ S _;refine Mp h trivial nw (by omega) λys S1 G1 hl hg=>?_;have T1:=G1.tape T;have tl:=T1.lt;refine⟨_,hρ,hd T1.push (by omega) (by omega) λa S2 a0 a1 T2 O2 _=>?_⟩;obtain⟨i,rfl⟩:=Uv a0;have hi:i<ys.length:=by omega
 exact⟨ys,ys[i],e7 (O2.keep _ _ (by omega) c9),j0 (UI hi),q _ S2 T2 ((G1.push).on.trans O2) (((hg _ (Ut hi)).hg ((Gw.refl S1).push).hg).hg (O2.hg ht0))⟩
theorem bb2:bb 2=552:=by simp only[bb]
theorem bb3:bb 3=1659:=by simp only[bb]
theorem bb4:bb 4=4980:=by simp only[bb]
theorem Jz{kd kt:Nat}(hd:l4 (Δ kd))(ht:BR (Δ kt) 4){D:Df}(hb:D.body=Ib kd kt)(hN:D.N.length=2)(hp:D.ps.length=1):HP (g0 Δ D):=by
 intro t H S Q h0 nw T q;show g0 Δ D [.loc t] S Q;unfold g0;rw[hb,hN];refine⟨hp.symm,?_⟩;have hB:∀ S S':Sto,(λ_:Sto=>True) S->Gw S S'->(λ_:Sto=>True) S':=λ_ _ _ _=>trivial;have c:∀{ρ:EnvS} {u:SV},p4 u->GE Δ H (λ_=>True) ρ 0 10 (.c u):=λh=>(MU h).ge (by decide);have fp:p4 (.str "place"):=flW (by decide) (by decide);have fs:p4 (.str "set"):=flW (by decide) (by decide);have ft:p4 (.str "tree"):=flW (by decide) (by decide);have f7:p4 (.str "place "):=flW (by decide) (by decide);have fn:p4 .non:=λ_ _ _ _ => .non;have hq:GEs Δ H (λ_=>True) [some (.loc t),none] 0 10 7 pq1:=GEs.cons hB (c fp) (GEs.cons hB (c fs) (GEs.cons hB (c ft) (GEs.cons hB (c ft) (GEs.cons hB (c fs) (GEs.cons hB (c fn) (GEs.cons hB (c f7) GEs.nil))))));show(wEx Δ (.ix (.lst pq1) (.call kd (.cons (.var 0) (.cons (.c (.int 7)) .nil))))).1 [some (.loc t),none] S _;refine Ic h0 nw hd hq rfl T (by decide) rfl (by decide) λw S1 T1 O1 g1=>?_;refine⟨_,rfl,_,rfl,ht h0 (nw.on O1.len) T1 λy S2 T2 O2 g2=>⟨by show 2<=100000;decide,q _ S2 T2 (O1.trans O2) (.tup (k:=7) (b:=4980) (λz hz=>?_) (by show 2<=63;decide) (by show 2 * (4980+1)<=9962;omega))⟩⟩;rcases UH.mp hz with rfl | hz
 ·exact(g1.hg (O2.hg h0)).up (by omega) (by omega)
 ·rw[UA.mp hz];exact g2.up (by omega) (Wn bb4)
noncomputable def aq0:Exs:=(.cons (.c (.int 0)) (.cons (.c (.int 1)) (.cons (.c (.int 2)) (.cons (.c (.int 3)) (.cons (.c .non) (.cons (.c (.bl true)) (.cons (.c (.str "0")) .nil)))))))
noncomputable def aq1(kd:Nat):Stm:=(.asg (.nm 2) (.comp ["_law_tie"] ["_law_tape_here"] [0] (.nm 0) (.rng1 (.bi .len (.cons (.ix (.var 1) (.c (.int 1))) .nil))) .no (.ix (.lst aq0) (.call kd (.cons (.var 1) (.cons (.c (.int 7)) .nil))))))
noncomputable def aq2(kd kp kt:Nat):Stm:=(.asg (.nm 3) (.lst (.cons (.call kd (.cons (.var 0) (.cons (.c (.int 6)) .nil))) (.cons (.var 2) (.cons (.ix (.lst (.cons (.call kp (.cons (.var 0) .nil)) (.cons (.c .non) (.cons (.call kt (.cons (.var 0) (.cons (.c (.int 2)) .nil))) .nil)))) (.call kd (.cons (.var 0) (.cons (.c (.int 3)) .nil)))) .nil)))))
noncomputable def aq3(kd:Nat):Stm:=(.asg (.nm 4) (.call kd (.cons (.var 0) (.cons (.c (.int 9)) .nil))))
noncomputable def aq4(kt:Nat):Stm:=(.iff (.cmp .Lt (.var 4) (.c (.int 3))) [(.put (.var 3) (.var 4) (.call kt (.cons (.var 0) (.cons (.c (.int 3)) .nil))))] [])
noncomputable def aq5:Stm:=(.ret (.ife (.cmp .Eq (.var 4) (.c (.int 3))) (.var 3) (.bi .tuple (.cons (.var 3) .nil))))
noncomputable def Fw(kd kp kt:Nat):List Stm:=[aq1 kd,aq2 kd kp kt,aq3 kd,aq4 kt,aq5]
theorem RO(hΔ:∀ f,MonoN (Δ f)){kd t n:Nat}{es:EE}{S:Sto}{D:EndsS}{rest:List Stm}(hd:l4 (Δ kd))(hel:es.length<=60)(T:TapeS S t)(q:∀(l:Nat) (ys:List SV) (S':Sto),TapeS S' t->On t S S'->l≠t->S'[l]?=some (.lst ys)->ys.length<=60->(∀ y∈ys,Gd (VH (λk=>k=t) S') 0 10 y)->wSs Δ rest D [some (.loc t),some (i4 n es),some (.loc l),none,none] S'):wSs Δ (aq1 kd::rest) D [some (.loc t),some (i4 n es),none,none,none] S:=by
 have hB:∀ S S':Sto,(λ_:Sto=>True) S->Gw S S'->(λ_:Sto=>True) S':=λ_ _ _ _=>trivial;have c:∀{ρ:EnvS} {u:SV},p4 u->GE Δ (λk=>k=t) (λ_=>True) ρ 0 10 (.c u):=λh=>(MU h).ge (by decide);have hq:∀ ρ:EnvS,GEs Δ (λk=>k=t) (λ_=>True) ρ 0 10 7 aq0:=λρ=>GEs.cons hB (c (flI 0 (by decide))) (GEs.cons hB (c (flI 1 (by decide))) (GEs.cons hB (c (flI 2 (by decide))) (GEs.cons hB (c (flI 3 (by decide))) (GEs.cons hB (c λ_ _ _ _ => .non) (GEs.cons hB (c λ_ _ _ _ => .bl true) (GEs.cons hB (c (flW (by decide) (by decide))) GEs.nil))))));refine⟨_,rfl,_,_,rfl,rfl,_,rfl,_,rfl,⟨by rw[U4];omega,by rw[U4];omega⟩,?_⟩;have hr:(Al 0 ((es.map pairS).length:Int)).length=es.length:=by rw[l6,U4];omega
 refine i7 (j5 hΔ _).2 (c7 hΔ _).1 (λi ys S3=>TapeS S3 t/\On t S S3/\ys.length=i/\∀ y∈ys,Gd (VH (λk=>k=t) S3) 0 10 y) ⟨T,On.refl t S,rfl,λ_ h=>nomatch h⟩ (λ_ _ _ _=>trivial) ?_ ?_
 ·rintro i x ys S3 hx ⟨T3,O3,hl,hg⟩;have hi:i<es.length:=by have:=(gM hx).1;rw[hr]at this;exact this
  show(wEx Δ (.ix (.lst aq0) (.call kd (.cons (.var 1) (.cons (.c (.int 7)) .nil))))).1 [some x,some (.loc t)] S3 _;refine Ic (H:=λk=>k=t) rfl (λk hk=>by rw[hk];exact T3.lt) hd (hq _) rfl T3 (by decide) rfl (by decide) λy S4 T4 O4 g4=>⟨by show _<100000;omega,T4,O3.trans O4,by rw[UD,hl];rfl,λy' hy'=>?_⟩
  rcases UV.mp hy' with h | h
  ·exact(hg y' h).hg (O4.hg rfl)
  ·rw[UA.mp h];exact g4
 ·rintro ys S3 ⟨T3,O3,hl,hg⟩;rw[hr]at hl;have tl:=T3.lt;exact q S3.length ys _ T3.push O3.push (by omega) c9 (by omega) λy hy=>(hg y hy).hg ((Gw.refl S3).push).hg
noncomputable def Id(s:Sn):Prop:=∀{t n:Nat} {es:EE} {S:Sto} {Q:QE},es.length<=60->TapeS S t->(∀(y:SV) (S':Sto),TapeS S' t->On t S S'->Gd (VH (λk=>k=t) S') 9 29889 y->Q y S')->s [.loc t,i4 n es] S Q
theorem Gd.off{t M k b:Nat}{S:Sto}{x:SV}(h:Gd (VH (λk=>k=t) S) k b x)(hM:S.length<=M):Gd (VH (λk=>k=t\/k=M) S) k b x:=h.see λl xs e=>⟨λz=>z.elim e.1 λz=>by
 have:=(gM e.2).1;omega,e.2⟩
theorem Gd.on'{t M k b:Nat}{S:Sto}{x:SV}(h:Gd (VH (λk=>k=t\/k=M) S) k b x):Gd (VH (λk=>k=t) S) k b x:=h.see λl xs e=>⟨λz=>e.1 (.inl z),e.2⟩
theorem RP{kd kt t n l M:Nat}{es:EE}{xs:List SV}{S:Sto}{Q:QE}(hd:l4 (Δ kd))(ht:BR (Δ kt) 3)(T:TapeS S t)(hM:S[M]?=some (.lst xs))(tM:t≠M)(hl:xs.length=3)(hg:∀ y∈xs,Gd (VH (λk=>k=t\/k=M) S) 8 9962 y)(q:∀(y:SV) (S':Sto),TapeS S' t->(∀(k:Nat) (o:SO),k≠t->k≠M->S[k]?=some o->S'[k]?=some o)->S.length<=S'.length->Gd (VH (λk=>k=t) S') 9 29889 y->Q y S'):wSs Δ [aq3 kd,aq4 kt,aq5] (j8 Q) [some (.loc t),some (i4 n es),some (.loc l),some (.loc M),none] S:=by
 refine⟨_,rfl,hd T (by decide) (by decide) λw S1 w0 w1 T1 O1 _=>?_⟩;show wSs Δ [aq4 kt,aq5] (j8 Q) [some (.loc t),some (i4 n es),some (.loc l),some (.loc M),some (.int w)] S1
 have fin:∀(ys:List SV) (S2:Sto),TapeS S2 t->(∀(k:Nat) (o:SO),k≠t->k≠M->S[k]?=some o->S2[k]?=some o)->S.length<=S2.length->S2[M]?=some (.lst ys)->ys.length=3->(∀ y∈ys,Gd (VH (λk=>k=t\/k=M) S2) 8 9962 y)->wSs Δ [aq5] (j8 Q) [some (.loc t),some (i4 n es),some (.loc l),some (.loc M),some (.int w)] S2:=by
  intro ys S2 T2 k2 len2 h2 l2 g2;have g2:=λy hy=>(g2 y hy).on';have hc:ys.length * (9962+1)<=29889:=by rw[l2];omega
  refine⟨_,rfl,_,rfl,?_⟩;refine ifD (λ_=>⟨_,rfl,q _ S2 T2 k2 len2 (.lst (k:=8) (b:=9962) ⟨λz=>tM z.symm,h2⟩ g2 (by omega) hc)⟩) (λ_=>⟨_,rfl,_,e7 h2,q _ S2 T2 k2 len2 (.tup (k:=8) (b:=9962) g2 (by omega) hc)⟩)
 have g1:=λy hy=>(hg y hy).hg (O1.hg (H:=λk=>k=t\/k=M) (.inl rfl));have h1:=O1.keep _ _ (λe=>tM e.symm) hM;refine⟨_,rfl,_,rfl,?_⟩;refine ifD (λz=>?_) (λ_=>f6 (fin xs S1 T1 (λk o n1 _ h=>O1.keep k o n1 h) O1.len h1 hl g1));obtain⟨a,rfl⟩:=Uv w0;have z:((a:Nat):Int)<3:=z;refine⟨_,rfl,ht (H:=λk=>k=t\/k=M) (.inl rfl) (λk hk=>hk.elim (λe=>by rw[e];exact T1.lt) λe=>by rw[e];exact(gM h1).1) T1 λv S2 T2 O2 gv=>⟨_,rfl,_,rfl,?_⟩⟩;have h2:=O2.keep _ _ (λe=>tM e.symm) h1;have ml:M<S1.length:=(gM h1).1;refine⟨xs,a,h2,OK (by omega),?_⟩
 have key:wSs Δ [aq5] (j8 Q) [some (.loc t),some (i4 n es),some (.loc l),some (.loc M),some (.int (a:Nat))] (S2.set M (.lst (xs.set a v))):=by
  have ml2:M<S2.length:=(gM h2).1;have HGs:HG (λk=>k=t\/k=M) S2 (S2.set M (.lst (xs.set a v))):=⟨by rw[Us];exact U9 _,λk o nk h=>by rw[Ao (λe=>nk (.inr e.symm))];exact h⟩
  refine fin (xs.set a v) _ ?_ (λk o n1 n2 h=>?_) (by rw[Us];exact UR O1.len O2.len) (UZ ml2) (by rw[Us];exact hl) λy hy=>?_
  ·obtain⟨p1,p2,h,c⟩:=T2.ex;exact⟨p1,p2,by rw[Ao (λe=>tM e.symm)];exact h,c⟩
  ·rw[Ao (λe=>n2 e.symm)];exact O2.keep k o n1 (O1.keep k o n1 h)
  ·rcases List.mem_or_eq_of_mem_set hy with h | h
   ·exact((g1 y h).hg (O2.hg (H:=λk=>k=t\/k=M) (.inl rfl))).hg HGs
   ·rw[h];exact(gv.hg HGs).up (by omega) (by rw[bb3];omega)
 exact f6 (Δ:=Δ) key
theorem HQ(hΔ:∀ f,MonoN (Δ f)){kd kp kt:Nat}(hd:l4 (Δ kd))(hp':HP (Δ kp))(h2:BR (Δ kt) 2)(h3:BR (Δ kt) 3){D:Df}(hb:D.body=Fw kd kp kt)(hN:D.N.length=5)(hp:D.ps.length=2):Id (g0 Δ D):=by
 intro t n es S Q hel T q;unfold g0;rw[hb,hN];refine⟨hp.symm,?_⟩;refine RO hΔ hd hel T λl ys S1 T1 O1 lt hl yl yg=>?_;have nw:∀{S':Sto},TapeS S' t->Nw (λk=>k=t) S':=λT k hk=>by rw[hk];exact T.lt
 refine⟨_,rfl,hd T1 (by decide) (by decide) λr S2 r0 r1 T2 O2 _=>⟨_,rfl,?_⟩⟩;refine⟨_,rfl,hp' (H:=λk=>k=t) rfl (nw T2) T2 λp S3 T3 O3 g3=>⟨_,rfl,h2 (H:=λk=>k=t) rfl (nw T3) T3 λv S4 T4 O4 g4=>⟨by show 3<=100000;decide,?_⟩⟩⟩;have g3':=g3.hg (O4.hg (H:=λk=>k=t) rfl);have h5:(S4++[SO.lst [p,.non,v]])[S4.length]?=some (.lst [p,.non,v]):=c9;have tl:=T4.lt;have G5:=(Gw.refl S4).push (o:=SO.lst [p,.non,v]);have T5:=T4.push (o:=SO.lst [p,.non,v]);generalize S4.length=m at *;generalize S4++[SO.lst [p,.non,v]]=S5 at *;refine⟨_,rfl,hd T5 (by decide) (by decide) λa S6 a0 a1 T6 O6 _=>?_⟩;have h6:=O6.keep _ _ (by omega) h5
 obtain⟨u,hu,gu⟩:∃ u,atI [p,.non,v] a=some u/\Gd (VH (λk=>k=t) S6) 8 9962 u:=by
  have:a=0\/a=1\/a=2:=by omega
  rcases this with rfl | rfl | rfl
  ·exact⟨_,j0 (j:=0) rfl,(g3'.hg G5.hg).hg (O6.hg rfl)⟩
  ·exact⟨_,j0 (j:=1) rfl,.non⟩
  ·exact⟨_,j0 (j:=2) rfl,(((g4.hg G5.hg).hg (O6.hg rfl))).up (by omega) (by rw[bb2];omega)⟩
 refine⟨_,_,e7 h6,hu,by show 3<=100000;decide,?_⟩;have O16:On t S1 S6:=O2.trans (O3.trans (O4.trans (G5.on.trans O6)));have gl:Gd (VH (λk=>k=t) S6) 8 9962 (.loc l):=(Gd.lst (k:=0) (b:=10) (c:=660) ⟨lt,O16.keep _ _ lt hl⟩ (λy hy=>(yg y hy).hg (O16.hg rfl)) (by omega) (by omega)).up (by omega) (by omega);have gr:Gd (VH (λk=>k=t) S6) 8 9962 (.int r) := .int ⟨by omega,by omega⟩;refine RP hd h3 T6.push c9 (by have:=T6.lt;omega) rfl (λy hy=>?_) λy S' T' k' len' g'=>q y S' T' ⟨?_,λk o nk h=>?_⟩ g'
 ·have w:∀{z:SV},Gd (VH (λk=>k=t) S6) 8 9962 z->Gd (VH (λk=>k=t\/k=S6.length) (S6++[SO.lst [.int r,.loc l,u]])) 8 9962 z:=λh=>(h.off (M:=S6.length) (U9 _)).hg ((Gw.refl S6).push).hg;rcases UH.mp hy with rfl | hy
  ·exact w gr
  ·rcases UH.mp hy with rfl | hy
   ·exact w gl
   ·rw[UA.mp hy];exact w gu
 ·exact UR (O1.trans O16).push.len len'
 ·have h6:=(O1.trans O16).keep k o nk h;exact k' k o nk (UF (gM h6).1) (t5 h6)
end
end Rf
namespace Hue
open PySem L2 Rf
noncomputable def top(i:Nat):Stmt:=PySem.Challenge.pw_huedties_k41_things_of_any_make.main.body.getD i (.Pass ⟨0,0,0,0⟩)
noncomputable def b0:List Stm:=EX
noncomputable def d0:Df:=⟨"is_number",top 1,["thing"],["thing"],b0⟩
noncomputable def b1:List Stm:=TF
noncomputable def d1:Df:=⟨"is_listed",top 2,["thing"],["thing"],b1⟩
noncomputable def b2:List Stm:=bPr
noncomputable def d2:Df:=⟨"is_pair",top 3,["thing"],["thing"],b2⟩
noncomputable def b3:List Stm:=MP 1 0
noncomputable def d3:Df:=⟨"is_rising",top 4,["thing"],["thing"],b3⟩
noncomputable def b4:List Stm:=By 0
noncomputable def d4:Df:=⟨"has_place",top 9,["web","place"],["web","place"],b4⟩
noncomputable def b5:List Stm:=IE 0
noncomputable def d5:Df:=⟨"has_tie",top 10,["web","tie"],["web","tie"],b5⟩
noncomputable def b6:List Stm:=[(.iff (.not (.call 4 (.cons (.var 0) (.cons (.var 1) .nil)))) [.no] [])]
noncomputable def d6:Df:=⟨"check_place",top 11,["web","place"],["web","place"],b6⟩
noncomputable def b7:List Stm:=IF 6
noncomputable def d7:Df:=⟨"ties_at",top 12,["web","place"],["web","place"],b7⟩
noncomputable def b8:List Stm:=IR 7
noncomputable def d8:Df:=⟨"count_at",top 13,["web","place"],["web","place"],b8⟩
noncomputable def b9:List Stm:=IS
noncomputable def d9:Df:=⟨"within",top 14,["web","places"],["web","places","among"],b9⟩
noncomputable def b10:List Stm:=PZ 0
noncomputable def d10:Df:=⟨"is_hue",top 16,["thing"],["thing"],b10⟩
noncomputable def b11:List Stm:=IW 1 10 13
noncomputable def d11:Df:=⟨"is_hueing",top 17,["web","thing"],["web","thing"],b11⟩
noncomputable def b12:List Stm:=IY 11
noncomputable def d12:Df:=⟨"is_whole",top 18,["web","thing"],["web","thing"],b12⟩
noncomputable def b13:List Stm:=Ml
noncomputable def d13:Df:=⟨"clash_of",top 19,["web","row"],["web","row","first","clashes","tie","ends","hue","place","earlier"],b13⟩
noncomputable def b14:List Stm:=PV
noncomputable def d14:Df:=⟨"open_hues",top 21,["web","lists","alike","way","tie"],["web","lists","alike","way","tie","one","other","taken","free","known"],b14⟩
noncomputable def b15:List Stm:=IM 2 5 14 15
noncomputable def d15:Df:=⟨"closes",top 22,["web","lists","alike","way","tree"],["web","lists","alike","way","tree","tie","trees","hues","hue","later","longer"],b15⟩
noncomputable def b16:List Stm:=Mf 4 8
noncomputable def d16:Df:=⟨"is_full_place",top 24,["web","hues","place"],["web","hues","place"],b16⟩
noncomputable def b17:List Stm:=Mi 3 4 9
noncomputable def d17:Df:=⟨"is_full_set",top 25,["web","hues","places"],["web","hues","places"],b17⟩
noncomputable def b18:List Stm:=MY 15
noncomputable def d18:Df:=⟨"is_full_tree",top 26,["web","hues","tree"],["web","hues","tree","known"],b18⟩
noncomputable def b19:List Stm:=MZ 2 16 17 18
noncomputable def d19:Df:=⟨"shows_fewer",top 27,["web","hues","paper"],["web","hues","paper","word","thing"],b19⟩
noncomputable def b20:List Stm:=TM 0 12 19
noncomputable def d20:Df:=⟨"shows_fewest",top 28,["web","thing"],["web","thing","number","hueing","paper"],b20⟩
noncomputable def b21:List Stm:=PP
noncomputable def d21:Df:=⟨"_law_tape",top 30,["_law_script","_law_k"],["_law_script","_law_k","_law_cell","_law_digits"],b21⟩
noncomputable def b22:List Stm:=PR
noncomputable def d22:Df:=⟨"_law_draw",top 31,["_law_tape_here","_law_many"],["_law_tape_here","_law_many","_law_found","_law_once"],b22⟩
noncomputable def b23:List Stm:=MH 22
noncomputable def d23:Df:=⟨"_law_pairs_by",top 32,["_law_tape_here","_law_great"],["_law_tape_here","_law_great","_law_way","_law_many","_law_found","_law_turn","_law_one","_law_k","_law_sides"],b23⟩
noncomputable def b24:List Stm:=PX 22 23
noncomputable def d24:Df:=⟨"_law_web",top 33,["_law_tape_here","_law_great"],["_law_tape_here","_law_great","_law_many","_law_pairs","_law_ties","_law_one","_law_other"],b24⟩
noncomputable def b25:List Stm:=Ma 22 24
noncomputable def d25:Df:=⟨"_law_small",top 34,["_law_tape_here","_law_most"],["_law_tape_here","_law_most","_law_web_here","_law_turn"],b25⟩
noncomputable def b26:List Stm:=PU
noncomputable def d26:Df:=⟨"_law_meet",top 35,["_law_web_here","_law_one","_law_other"],["_law_web_here","_law_one","_law_other"],b26⟩
noncomputable def b27:List Stm:=EX
noncomputable def d27:Df:=⟨"_law_is_number",top 36,["_law_thing_here"],["_law_thing_here"],b27⟩
noncomputable def b28:List Stm:=IK 26
noncomputable def d28:Df:=⟨"_law_around",top 37,["_law_web_here","_law_way","_law_tie"],["_law_web_here","_law_way","_law_tie"],b28⟩
noncomputable def b29:List Stm:=MV 28
noncomputable def d29:Df:=⟨"_law_tried",top 38,["_law_web_here","_law_hues","_law_way","_law_tie"],["_law_web_here","_law_hues","_law_way","_law_tie","_law_met"],b29⟩
noncomputable def b30:List Stm:=Md 27 29 30
noncomputable def d30:Df:=⟨"_law_tree_right",top 39,["_law_web_here","_law_hues","_law_way","_law_node"],["_law_web_here","_law_hues","_law_way","_law_node","_law_tie","_law_some"],b30⟩
noncomputable def b31:List Stm:=Fs
noncomputable def d31:Df:=⟨"_law_count",top 40,["_law_web_here","_law_place"],["_law_web_here","_law_place"],b31⟩
noncomputable def b32:List Stm:=PY 27
noncomputable def d32:Df:=⟨"_law_set_right",top 41,["_law_web_here","_law_hues","_law_places"],["_law_web_here","_law_hues","_law_places","_law_inside"],b32⟩
noncomputable def b33:List Stm:=IU 27 31 32 30
noncomputable def d33:Df:=⟨"_law_takes",top 42,["_law_web_here","_law_hues","_law_paper"],["_law_web_here","_law_hues","_law_paper","_law_word","_law_thing_here"],b33⟩
noncomputable def b34:List Stm:=Fv 26
noncomputable def d34:Df:=⟨"_law_is_hueing",top 43,["_law_web_here","_law_row"],["_law_web_here","_law_row","_law_tie","_law_hue","_law_k"],b34⟩
noncomputable def b35:List Stm:=IZ 34
noncomputable def d35:Df:=⟨"_law_whole",top 44,["_law_web_here","_law_row","_law_number"],["_law_web_here","_law_row","_law_number"],b35⟩
noncomputable def b36:List Stm:=Pa 27 35 33
noncomputable def d36:Df:=⟨"_law_fewest_right",top 45,["_law_web_here","_law_thing_here"],["_law_web_here","_law_thing_here"],b36⟩
noncomputable def b37:List Stm:=Pb 22
noncomputable def d37:Df:=⟨"_law_odd",top 46,["_law_tape_here"],["_law_tape_here","_law_some"],b37⟩
noncomputable def b38:List Stm:=[(.ret (.and (.bi .isi (.cons (.var 0) (.cons (.tyc .bool) .nil))) (.cmp .Eq (.var 0) (.var 1))))]
noncomputable def d38:Df:=⟨"_law_truth",top 47,["_law_found","_law_due"],["_law_found","_law_due"],b38⟩
noncomputable def b39:List Stm:=Ia 22 37 39
noncomputable def d39:Df:=⟨"_law_thing",top 48,["_law_tape_here","_law_deep"],["_law_tape_here","_law_deep","_law_way","_law_some"],b39⟩
noncomputable def b40:List Stm:=Ib 22 39
noncomputable def d40:Df:=⟨"_law_paper_like",top 49,["_law_tape_here"],["_law_tape_here","_law_word"],b40⟩
noncomputable def b41:List Stm:=Fw 22 40 39
noncomputable def d41:Df:=⟨"_law_answer_like",top 50,["_law_tape_here","_law_web_here"],["_law_tape_here","_law_web_here","_law_row","_law_some","_law_at"],b41⟩
noncomputable def b42:List Stm:=[(.loop (.nm 1) (.rng1 (.bi .max (.cons (.c (.int 2)) (.cons (.bi .min (.cons (.bi .len (.cons (.var 0) .nil)) (.cons (.c (.int 4)) .nil))) .nil)))) [(.asg (.nm 2) (.call 21 (.cons (.var 0) (.cons (.var 1) .nil)))),(.asg (.nm 3) (.call 25 (.cons (.var 2) (.cons (.c (.int 9)) .nil)))),(.loop (.nm 4) (.rng1 (.c (.int 12))) [(.asg (.nm 5) (.ix (.lst (.cons (.call 39 (.cons (.var 2) (.cons (.c (.int 5)) .nil))) (.cons (.call 40 (.cons (.var 2) .nil)) .nil))) (.call 22 (.cons (.var 2) (.cons (.c (.int 2)) .nil))))),(.asg (.nm 6) (.call 22 (.cons (.var 2) (.cons (.c (.int 5)) .nil)))),(.asg (.nm 7) (.bi .repr (.cons (.var 5) .nil))),(.par 8 9 (.call 19 (.cons (.var 3) (.cons (.var 6) (.cons (.var 5) .nil)))) (.call 33 (.cons (.var 3) (.cons (.var 6) (.cons (.var 5) .nil))))),(.iff (.or (.not (.call 38 (.cons (.var 8) (.cons (.var 9) .nil)))) (.cmp .NotEq (.bi .repr (.cons (.var 5) .nil)) (.var 7))) [(.ret (.c (.bl false)))] []),(.asg (.nm 10) (.ix (.lst (.cons (.var 5) (.cons (.call 41 (.cons (.var 2) (.cons (.var 3) .nil))) .nil))) (.call 22 (.cons (.var 2) (.cons (.c (.int 2)) .nil))))),(.asg (.nm 7) (.bi .repr (.cons (.var 10) .nil))),(.par 8 9 (.call 20 (.cons (.var 3) (.cons (.var 10) .nil))) (.call 36 (.cons (.var 3) (.cons (.var 10) .nil)))),(.iff (.or (.not (.call 38 (.cons (.var 8) (.cons (.var 9) .nil)))) (.cmp .NotEq (.bi .repr (.cons (.var 10) .nil)) (.var 7))) [(.ret (.c (.bl false)))] [])])]),(.ret (.c (.bl true)))]
noncomputable def d42:Df:=⟨"law",top 51,["_law_script"],["_law_script","_law_k","_law_tape_here","_law_web_here","_law_turn","_law_paper","_law_hues","_law_seen","_law_found","_law_due","_law_thing_here"],b42⟩
noncomputable def prog:List Df:=[d0,d1,d2,d3,d4,d5,d6,d7,d8,d9,d10,d11,d12,d13,d14,d15,d16,d17,d18,d19,d20,d21,d22,d23,d24,d25,d26,d27,d28,d29,d30,d31,d32,d33,d34,d35,d36,d37,d38,d39,d40,d41,d42]
theorem Fx:prog.all (OM (prog.map (·.name)))=true:=by decide +kernel
theorem DD{f g:SV->Option PyData}:∀{xs:List SV},(∀ y∈xs,f y=g y)->xs.mapM f=xs.mapM g
 | [],_=>rfl
 | x::xs,h=>by rw[Vx,Vx,h x (UG ..),DD λy hy=>h y (UE _ hy)]
theorem Mq{S S':Sto}{k b:Nat}{x:SV}(h:Gd (VS S) k b x)(G:Gw S S'):∀ m,y0 m S' x=y0 m S x:=by
 induction h with
 | non=>intro m;cases m<;>rfl
 | bl c=>intro m;cases m<;>rfl
 | int h=>intro m;cases m<;>rfl
 | str h hb=>intro m;cases m<;>rfl
 | tup _ _ _ ih=>
   intro m;cases m with
   | zero=>rfl
   | succ m=>
     show(WL (y0 m S') _).map _=(WL (y0 m S) _).map _;rw[DD λy hy=>ih y hy m]
 | @lst k b c l xs hv _ _ _ ih=>
   intro m;cases m with
   | zero=>rfl
   | succ m=>
     have h1:S[l]?=some (SO.lst xs):=hv;show(match S'[l]? with | some (SO.lst xs)=>(xs.mapM (y0 m S')).map PyData.list | _=>none)=(match S[l]? with | some (SO.lst xs)=>(xs.mapM (y0 m S)).map PyData.list | _=>none)
     rw[h1,G.keep _ _ h1];show(WL (y0 m S') xs).map _=(WL (y0 m S) xs).map _;rw[DD λy hy=>ih y hy m]
theorem hW(d:Nat):∀ f,MonoN (W prog d f):=Cz d
theorem s0(d:Nat):CF (W prog (d+1) 0):=II (Δ:=W prog d) (D:=d0) rfl rfl rfl
theorem s0'(d:Nat):EY (W prog (d+1) 0):=MM (Δ:=W prog d) (D:=d0) rfl rfl rfl
theorem s1(d:Nat):OS (W prog (d+1) 1):=OT (Δ:=W prog d) (D:=d1) rfl rfl rfl
theorem s2(d:Nat):PrG (W prog (d+1) 2):=RD (Δ:=W prog d) (D:=d2) rfl rfl rfl
theorem s3(d:Nat):RE (W prog (d+2) 3):=OU (Δ:=W prog (d+1)) (D:=d3) (hW _) (s1 d) (s0 d) rfl rfl rfl
theorem s4(d:Nat):HH (W prog (d+2) 4) (λn _=>n):=Of (Δ:=W prog (d+1)) (D:=d4) (s0 d) rfl rfl rfl
theorem s4'(d:Nat):BP (W prog (d+2) 4):=Fn (Δ:=W prog (d+1)) (D:=d4) (s0' d) rfl rfl rfl
theorem s5(d:Nat):HH (W prog (d+2) 5) (λ_ es=>es.length):=Og (Δ:=W prog (d+1)) (D:=d5) (s0 d) rfl rfl rfl
theorem s6(d:Nat):Am (W prog (d+3) 6):=DT (Δ:=W prog (d+2)) (D:=d6) (s4' d) rfl rfl rfl
theorem s7(d:Nat):D1 (W prog (d+4) 7):=Jo (Δ:=W prog (d+3)) (D:=d7) (hW _) (s6 d) rfl rfl rfl
theorem s8(d:Nat):C1 (W prog (d+5) 8):=Jt (Δ:=W prog (d+4)) (D:=d8) (s7 d) rfl rfl rfl
theorem s9(d:Nat):DB (W prog (d+1) 9):=Ju (Δ:=W prog d) (D:=d9) (hW _) rfl rfl rfl
theorem s10(d:Nat):RH (W prog (d+2) 10):=Ol (Δ:=W prog (d+1)) (D:=d10) (s0 d) rfl rfl rfl
theorem s13(d:Nat):HK (W prog (d+1) 13):=Jw (Δ:=W prog d) (D:=d13) (hW _) rfl rfl rfl
theorem s11(d:Nat):BB (W prog (d+3) 11):=HL (Δ:=W prog (d+2)) (D:=d11) (hW _) (s1 (d+1)) (s10 d) (s13 (d+1)) rfl rfl rfl
theorem s12(d:Nat):HM (W prog (d+4) 12):=Jx (Δ:=W prog (d+3)) (D:=d12) (s11 d) rfl rfl rfl
theorem s14(d:Nat):HF (W prog (d+1) 14):=OV (Δ:=W prog d) (D:=d14) (hW _) rfl rfl rfl
theorem s15:∀(e d:Nat),CQ (W prog (d+e+3) 15) e
 | e,d=>Ef (Δ:=W prog (d+e+2)) (D:=d15) (hW _) (s2 (d+e+1)) (s5 (d+e)) (s14 (d+e+1)) rfl rfl rfl λe' h=>by
   have z:d+e+2=(d+(e - e' - 1))+e'+3:=by omega
   rw[z];exact @s15 e' (d+(e - e' - 1))
theorem s16(d:Nat):v6 C0 (W prog (d+6) 16):=Mh (Δ:=W prog (d+5)) (D:=d16) (s4 (d+3)) (s8 d) rfl rfl rfl
theorem s17(d:Nat):v6 CG (W prog (d+3) 17):=Mj (Δ:=W prog (d+2)) (D:=d17) (hW _) (s3 d) (s4 d) (s9 (d+1)) rfl rfl rfl
theorem s18(d:Nat):v6 Fu (W prog (d+24) 18):=Mk (Δ:=W prog (d+23)) (D:=d18) (λe h=>by
 have z:d+23=(d+(20 - e))+e+3:=by omega
 rw[z];exact @s15 e (d+(20 - e))) rfl rfl rfl
theorem s19(d:Nat):v6 C2 (W prog (d+25) 19):=Oj (Δ:=W prog (d+24)) (D:=d19) (s2 (d+23)) (s16 (d+18)) (s17 (d+21)) (s18 d) rfl rfl rfl
theorem s20(d:Nat):Om (W prog (d+26) 20):=RL (Δ:=W prog (d+25)) (D:=d20) (hW _) (s0 (d+24)) (s12 (d+21)) (s19 d) rfl rfl rfl
theorem s21(d:Nat):MG (W prog (d+1) 21):=OO (Δ:=W prog d) (D:=d21) rfl rfl rfl
theorem s22(d:Nat):l4 (W prog (d+1) 22):=ON (Δ:=W prog d) (D:=d22) rfl rfl rfl
theorem s23(d:Nat):EV (W prog (d+2) 23):=MI (Δ:=W prog (d+1)) (D:=d23) (hW _) (s22 d) rfl rfl rfl
theorem s24(d:Nat):MJ (W prog (d+3) 24):=OY (Δ:=W prog (d+2)) (D:=d24) (hW _) (s22 (d+1)) (s23 d) rfl rfl rfl
theorem s25(d:Nat):IN (W prog (d+4) 25):=Mb (Δ:=W prog (d+3)) (D:=d25) (hW _) (s22 (d+2)) (s24 d) rfl rfl rfl
theorem s26(d:Nat):Fq (W prog (d+1) 26):=MQ (Δ:=W prog d) (D:=d26) rfl rfl rfl
theorem s27(d:Nat):CF (W prog (d+1) 27):=II (Δ:=W prog d) (D:=d27) rfl rfl rfl
theorem s28(d:Nat):D8 (W prog (d+2) 28):=Jr (Δ:=W prog (d+1)) (D:=d28) (hW _) (s26 d) rfl rfl rfl
theorem s29(d:Nat):Ed (W prog (d+3) 29):=MW (Δ:=W prog (d+2)) (D:=d29) (hW _) (s28 d) rfl rfl rfl
theorem s30:∀(e d:Nat),IP (W prog (d+e+4) 30) e
 | e,d=>HI (Δ:=W prog (d+e+3)) (D:=d30) (hW _) (s27 (d+e+2)) (s29 (d+e)) rfl rfl rfl λe' h=>by
   have z:d+e+3=(d+(e - e' - 1))+e'+4:=by omega
   rw[z];exact @s30 e' (d+(e - e' - 1))
theorem s31(d:Nat):C1 (W prog (d+1) 31):=HJ (Δ:=W prog d) (D:=d31) (hW _) rfl rfl rfl
theorem s32(d:Nat):v6 CG (W prog (d+2) 32):=Oi (Δ:=W prog (d+1)) (D:=d32) (hW _) (s27 d) rfl rfl rfl
theorem s33(d:Nat):v6 C2 (W prog (d+25) 33):=Jv (Δ:=W prog (d+24)) (D:=d33) (s27 (d+23)) (s31 (d+23)) (s32 (d+22)) (λe h=>by
 have z:d+24=(d+(20 - e))+e+4:=by omega
 rw[z];exact @s30 e (d+(20 - e))) rfl rfl rfl
theorem s34(d:Nat):BB (W prog (d+2) 34):=HN (Δ:=W prog (d+1)) (D:=d34) (hW _) (s26 d) rfl rfl rfl
theorem s35(d:Nat):Ei (W prog (d+3) 35):=Jy (Δ:=W prog (d+2)) (D:=d35) (hW _) (s34 d) rfl rfl rfl
theorem s36(d:Nat):Om (W prog (d+26) 36):=Oo (Δ:=W prog (d+25)) (D:=d36) (s27 (d+24)) (s35 (d+22)) (s33 d) rfl rfl rfl
theorem s37(d:Nat):Oq (W prog (d+2) 37):=Os (Δ:=W prog (d+1)) (D:=d37) (s22 d) rfl rfl rfl
theorem s38(d:Nat){b:Bool}{S:Sto}{Q:QE}(q:Q (.bl true) S):W prog (d+1) 38 [.bl b,.bl b] S Q:=by
 show g0 (W prog d) d38 _ _ _;refine⟨rfl,_,rfl,_,nofun,rfl,_,rfl,ifT rfl ⟨_,rfl,_,rfl,?_⟩⟩;show Q (.bl (decide (b=b))) S;rw[decide_eq_true rfl];exact q
theorem s39(d:Nat):∀ e:Nat,BR (W prog (d+e+3) 39) e
 | 0=>C8 (Δ:=W prog (d+2)) (D:=d39) (hW _) (s22 (d+1)) (s37 d) (λe h=>absurd h (by omega)) rfl rfl rfl
 | e+1=>C8 (Δ:=W prog (d+e+3)) (D:=d39) (hW _) (s22 (d+e+2)) (s37 (d+e+1)) (λe' h=>by
   have:e'=e:=by omega
   rw[this];exact @s39 d e) rfl rfl rfl
theorem s40(d:Nat):HP (W prog (d+8) 40):=Jz (Δ:=W prog (d+7)) (D:=d40) (s22 (d+6)) (s39 d 4) rfl rfl rfl
theorem s41(d:Nat):Id (W prog (d+9) 41):=HQ (Δ:=W prog (d+8)) (D:=d41) (hW _) (s22 (d+7)) (s40 d) (s39 (d+3) 2) (s39 (d+2) 3) rfl rfl rfl
theorem bb5:bb 5=14943:=by simp only[bb]
noncomputable def K7(j:Nat):Stm:=(.asg (.nm 7) (.bi .repr (.cons (.var j) .nil)))
noncomputable def K9(j:Nat):Stm:=(.iff (.or (.not (.call 38 (.cons (.var 8) (.cons (.var 9) .nil)))) (.cmp .NotEq (.bi .repr (.cons (.var j) .nil)) (.var 7))) [(.ret (.c (.bl false)))] [])
noncomputable def K8:Stm:=(.par 8 9 (.call 19 (.cons (.var 3) (.cons (.var 6) (.cons (.var 5) .nil)))) (.call 33 (.cons (.var 3) (.cons (.var 6) (.cons (.var 5) .nil)))))
noncomputable def K8':Stm:=(.par 8 9 (.call 20 (.cons (.var 3) (.cons (.var 10) .nil))) (.call 36 (.cons (.var 3) (.cons (.var 10) .nil))))
noncomputable def K5:Stm:=(.asg (.nm 5) (.ix (.lst (.cons (.call 39 (.cons (.var 2) (.cons (.c (.int 5)) .nil))) (.cons (.call 40 (.cons (.var 2) .nil)) .nil))) (.call 22 (.cons (.var 2) (.cons (.c (.int 2)) .nil)))))
noncomputable def K6:Stm:=(.asg (.nm 6) (.call 22 (.cons (.var 2) (.cons (.c (.int 5)) .nil))))
noncomputable def Ka:Stm:=(.asg (.nm 10) (.ix (.lst (.cons (.var 5) (.cons (.call 41 (.cons (.var 2) (.cons (.var 3) .nil))) .nil))) (.call 22 (.cons (.var 2) (.cons (.c (.int 2)) .nil)))))
theorem Tz{n hues k b:Nat}{es:EE}{x:SV}{S:Sto}{D:EndsS}{rest:List Stm}{o0 o1 o2 o4 o7 o8 o9 o10:Option SV}(hu:∀ e∈es,e.1<e.2/\e.2<n)(hel:es.length<=60)(hk:k<=20)(hb:b<=100000)(g:Gd (VS S) k b x)(q:∀(o7 o8 o9:Option SV) (S':Sto),Gw S S'->wSs (W prog 26) rest D [o0,o1,o2,some (i4 n es),o4,some x,some (.int (hues:Nat)),o7,o8,o9,o10] S'):
 wSs (W prog 26) (K7 5::K8::K9 5::rest) D [o0,o1,o2,some (i4 n es),o4,some x,some (.int (hues:Nat)),o7,o8,o9,o10] S:=by
 obtain⟨d,hd,z⟩:=g.dat 20 hk;have ft:=z.fit (by omega) hb;refine⟨_,rfl,d,hd,ft,?_⟩;show wSs (W prog 26) (K8::K9 5::rest) D [o0,o1,o2,some (i4 n es),o4,some x,some (.int (hues:Nat)),some (.str d.shown),o8,o9,o10] S;refine⟨_,rfl,_,rfl,_,rfl,s19 1 hu hel hk g λr S1 G1 e1=>⟨_,rfl,_,rfl,_,rfl,s33 1 hu hel hk (g.grow G1) λr' S2 G2 e2=>?_⟩⟩;have er:r'=r:=Ug.mpr (e2.trans e1.symm);subst er;show wSs (W prog 26) (K9 5::rest) D [o0,o1,o2,some (i4 n es),o4,some x,some (.int (hues:Nat)),some (.str d.shown),some (.bl r'),some (.bl r'),o10] S2;have key:=q (some (.str d.shown)) (some (.bl r')) (some (.bl r')) S2 (G1.trans G2);refine⟨_,rfl,_,rfl,s38 25 ⟨_,rfl,ifF rfl ⟨_,rfl,d,(Mq g (G1.trans G2) 20).trans hd,ft,_,rfl,_,rfl,ifF ?_ (f6 key)⟩⟩⟩;simp
theorem Mr{S S':Sto}{k b n:Nat}{es:EE}{x:SV}(g:Gd (VS S) k b x)(G:Gw S S'):Eh n es S' x↔Eh n es S x:=by
 have go:∀(m:Int) (hu pa:SV),x = .tup [.int m,hu,pa]->seqS hu S'=seqS hu S:=λm hu pa e=>by
  subst e;obtain⟨_,_,_,_,h⟩:=g.el;exact(h hu (by simp)).seqEq G
 unfold Eh;constructor
 ·rintro⟨m,hu,pa,xs,e,h0,h1,h⟩;exact⟨m,hu,pa,xs,e,h0,(go m hu pa e)▸h1,h⟩
 ·rintro⟨m,hu,pa,xs,e,h0,h1,h⟩;exact⟨m,hu,pa,xs,e,h0,(go m hu pa e).trans h1,h⟩
theorem U0{n k b:Nat}{es:EE}{x:SV}{S:Sto}{D:EndsS}{rest:List Stm}{o0 o1 o2 o4 o5 o6 o7 o8 o9:Option SV}(hu:∀ e∈es,e.1<e.2/\e.2<n)(hel:es.length<=60)(hk:k<=20)(hb:b<=100000)(g:Gd (VS S) k b x)(q:∀(o7 o8 o9:Option SV) (S':Sto),Gw S S'->wSs (W prog 26) rest D [o0,o1,o2,some (i4 n es),o4,o5,o6,o7,o8,o9,some x] S'):
 wSs (W prog 26) (K7 10::K8'::K9 10::rest) D [o0,o1,o2,some (i4 n es),o4,o5,o6,o7,o8,o9,some x] S:=by
 obtain⟨d,hd,z⟩:=g.dat 20 hk;have ft:=z.fit (by omega) hb;refine⟨_,rfl,d,hd,ft,?_⟩;show wSs (W prog 26) (K8'::K9 10::rest) D [o0,o1,o2,some (i4 n es),o4,o5,o6,some (.str d.shown),o8,o9,some x] S;refine⟨_,rfl,_,rfl,s20 0 hu hel hk g λr S1 G1 e1=>⟨_,rfl,_,rfl,s36 0 hu hel hk (g.grow G1) λr' S2 G2 e2=>?_⟩⟩;have er:r'=r:=Ug.mpr (e2.trans ((Mr g G1).trans e1.symm));subst er;show wSs (W prog 26) (K9 10::rest) D [o0,o1,o2,some (i4 n es),o4,o5,o6,some (.str d.shown),some (.bl r'),some (.bl r'),some x] S2;have key:=q (some (.str d.shown)) (some (.bl r')) (some (.bl r')) S2 (G1.trans G2);refine⟨_,rfl,_,rfl,s38 25 ⟨_,rfl,ifF rfl ⟨_,rfl,d,(Mq g (G1.trans G2) 20).trans hd,ft,_,rfl,_,rfl,ifF ?_ (f6 key)⟩⟩⟩;simp
theorem nwT{t:Nat}{S:Sto}(T:TapeS S t):Nw (λk=>k=t) S:=λk hk=>by rw[hk];exact T.lt
theorem TU{t:Nat}{S:Sto}{D:EndsS}{rest:List Stm}{o0 o1 o3 o4 o5 o6 o7 o8 o9 o10:Option SV}(T:TapeS S t)(q:∀(x:SV) (S':Sto),TapeS S' t->Gd (VH (λk=>k=t) S') 8 14943 x->wSs (W prog 26) rest D [o0,o1,some (.loc t),o3,o4,some x,o6,o7,o8,o9,o10] S'):wSs (W prog 26) (K5::rest) D [o0,o1,some (.loc t),o3,o4,o5,o6,o7,o8,o9,o10] S:=by
 refine⟨_,rfl,s39 18 5 (H:=λk=>k=t) rfl (nwT T) T λy S1 T1 O1 g1=>⟨_,rfl,s40 18 (H:=λk=>k=t) rfl (nwT T1) T1 λp S2 T2 O2 g2=>⟨by show 2<=100000;decide,?_⟩⟩⟩;have g1':=((g1.hg (O2.hg (H:=λk=>k=t) rfl)).hg ((Gw.refl S2).push (o:=SO.lst [y,p])).hg)
 have g2':=g2.hg ((Gw.refl S2).push (o:=SO.lst [y,p])).hg;have h2:(S2++[SO.lst [y,p]])[S2.length]?=some (.lst [y,p]):=c9;have tl:=T2.lt;have T3:=T2.push (o:=SO.lst [y,p]);generalize S2.length=m at *;generalize S2++[SO.lst [y,p]]=S3 at *;refine⟨_,rfl,s22 25 T3 (by decide) (by decide) λa S4 a0 a1 T4 O4 _=>?_⟩;have h4:=O4.keep _ _ (by omega) h2
 obtain⟨u,hu,gu⟩:∃ u,atI [y,p] a=some u/\Gd (VH (λk=>k=t) S4) 8 14943 u:=by
  have:a=0\/a=1:=by omega
  rcases this with rfl | rfl
  ·exact⟨_,j0 (j:=0) rfl,(g1'.hg (O4.hg rfl)).up (by omega) (Wn bb5)⟩
  ·exact⟨_,j0 (j:=1) rfl,(g2'.hg (O4.hg rfl)).up (by omega) (by omega)⟩
 exact⟨_,_,e7 h4,hu,q u S4 T4 gu⟩
theorem RQ{t n:Nat}{es:EE}{x:SV}{S:Sto}{D:EndsS}{rest:List Stm}{o0 o1 o4 o6 o7 o8 o9 o10:Option SV}(hel:es.length<=60)(T:TapeS S t)(g:Gd (VH (λk=>k=t) S) 8 14943 x)(q:∀(y:SV) (S':Sto),TapeS S' t->Gd (VH (λk=>k=t) S') 9 29889 y->wSs (W prog 26) rest D [o0,o1,some (.loc t),some (i4 n es),o4,some x,o6,o7,o8,o9,some y] S'):wSs (W prog 26) (Ka::rest) D [o0,o1,some (.loc t),some (i4 n es),o4,some x,o6,o7,o8,o9,o10] S:=by
 refine⟨_,rfl,_,rfl,_,rfl,s41 17 hel T λp S2 T2 O2 g2=>⟨by show 2<=100000;decide,?_⟩⟩;have g1':=((g.hg (O2.hg (H:=λk=>k=t) rfl)).hg ((Gw.refl S2).push (o:=SO.lst [x,p])).hg)
 have g2':=g2.hg ((Gw.refl S2).push (o:=SO.lst [x,p])).hg;have h2:(S2++[SO.lst [x,p]])[S2.length]?=some (.lst [x,p]):=c9;have tl:=T2.lt;have T3:=T2.push (o:=SO.lst [x,p]);generalize S2.length=m at *;generalize S2++[SO.lst [x,p]]=S3 at *;refine⟨_,rfl,s22 25 T3 (by decide) (by decide) λa S4 a0 a1 T4 O4 _=>?_⟩;have h4:=O4.keep _ _ (by omega) h2
 obtain⟨u,hu,gu⟩:∃ u,atI [x,p] a=some u/\Gd (VH (λk=>k=t) S4) 9 29889 u:=by
  have:a=0\/a=1:=by omega
  rcases this with rfl | rfl
  ·exact⟨_,j0 (j:=0) rfl,(g1'.hg (O4.hg rfl)).up (by omega) (by omega)⟩
  ·exact⟨_,j0 (j:=1) rfl,g2'.hg (O4.hg rfl)⟩
 exact⟨_,_,e7 h4,hu,q u S4 T4 gu⟩
theorem Ms{t n:Nat}{es:EE}{S:Sto}{D:EndsS}{o0 o1 o4 o5 o6 o7 o8 o9 o10:Option SV}(hu:∀ e∈es,e.1<e.2/\e.2<n)(hel:es.length<=60)(T:TapeS S t)(q:∀(o5 o6 o7 o8 o9 o10:Option SV) (S':Sto),TapeS S' t->D.nx [o0,o1,some (.loc t),some (i4 n es),o4,o5,o6,o7,o8,o9,o10] S'):wSs (W prog 26) [K5,K6,K7 5,K8,K9 5,Ka,K7 10,K8',K9 10] D [o0,o1,some (.loc t),some (i4 n es),o4,o5,o6,o7,o8,o9,o10] S:=by
 refine TU T λx S1 T1 g1=>?_;refine⟨_,rfl,s22 25 T1 (by decide) (by decide) λa S2 a0 a1 T2 O2 _=>?_⟩;obtain⟨hues,rfl⟩:=Uv a0;show wSs (W prog 26) [K7 5,K8,K9 5,Ka,K7 10,K8',K9 10] D [o0,o1,some (.loc t),some (i4 n es),o4,some x,some (.int (hues:Nat)),o7,o8,o9,o10] S2;have g2:=g1.hg (O2.hg (H:=λk=>k=t) rfl);refine Tz hu hel (by decide) (by decide) g2.bare λo7 o8 o9 S3 G3=>?_;refine RQ hel (G3.tape T2) (g2.hg G3.hg) λy S4 T4 g4=>?_;exact U0 hu hel (by decide) (by decide) g4.bare λo7 o8 o9 S5 G5=>f6 (q _ _ _ _ _ _ S5 (G5.tape T4))
theorem law_main(ns:List Int)(h:ns.length<=63):W prog 27 42 [.ro (ns.map SV.int)] [] λx _=>x = .bl true:=by
 show g0 (W prog 26) d42 _ _ _;refine⟨rfl,_,rfl,_,rfl,?_⟩
 have hj:∃ m:Nat,(if (2:Int)<(if (4:Int)<((ns.map SV.int).length:Int) then 4 else ((ns.map SV.int).length:Int)) then (if (4:Int)<((ns.map SV.int).length:Int) then 4 else ((ns.map SV.int).length:Int)) else 2)=(m:Int)/\m<=4:=by
  rw[U4];refine⟨max 2 (min 4 ns.length),?_,by omega⟩;split<;>split<;>omega
 obtain⟨m,hm,hm9⟩:=hj;refine⟨m,congrArg SV.int hm,⟨by omega,by omega⟩,?_⟩;refine AE (j6 (hW _) _) (λi ρ S'=>∃ o1 o2 o3 o4 o5 o6 o7 o8 o9 o10,ρ=[some (.ro (ns.map SV.int)),o1,o2,o3,o4,o5,o6,o7,o8,o9,o10]) ⟨none,none,none,none,none,none,none,none,none,none,rfl⟩ (λ_ _ _ _=>trivial) ?_ ?_
 ·rintro i x ρ S hx ⟨o1,o2,o3,o4,o5,o6,o7,o8,o9,o10,rfl⟩;obtain⟨rfl,hi⟩:=r6 hx;rw[Ws]at hi ⊢;refine⟨_,rfl,_,rfl,s21 25 h (by omega) λa b ha hb hb2=>?_⟩;have T1:TapeS (S++[SO.lst [.int a,.int b]]) S.length:=⟨a,b,c9,ha,hb,hb2⟩
  refine⟨_,rfl,s25 22 T1 (most:=9) (by decide) λn es S2 hu hn hl T2 O2=>?_⟩;dsimp only[List.set];generalize S.length=p at *;refine⟨12,rfl,⟨by omega,by omega⟩,?_⟩;refine B8 (j6 (hW _) _) (λj ρ S3=>∃ o4 o5 o6 o7 o8 o9 o10,ρ=[some (.ro (ns.map SV.int)),some (.int (i:Nat)),some (.loc p),some (i4 n es),o4,o5,o6,o7,o8,o9,o10]/\TapeS S3 p) ⟨_,_,_,_,_,_,_,rfl,T2⟩ (λ_ _ _ _=>trivial) ?_ ?_
  ·rintro j y ρ S3 E hE _ hy ⟨o4,o5,o6,o7,o8,o9,o10,rfl,T3⟩;exact Ms hu (by omega) T3 λo5 o6 o7 o8 o9 o10 S4 T4=>hE _ _ ⟨_,_,_,_,_,_,_,rfl,T4⟩
  ·rintro ρ S3 ⟨o4,o5,o6,o7,o8,o9,o10,rfl,T3⟩;exact⟨_,_,_,_,_,_,_,_,_,_,rfl⟩
 ·rintro ρ S ⟨o1,o2,o3,o4,o5,o6,o7,o8,o9,o10,rfl⟩;rfl
end Hue
namespace PySem.W.Fast
theorem tw10638152123985170681:True:=⟨⟩
theorem tw5638197175261512598:True:=⟨⟩
theorem tw14688990384926332475:True:=⟨⟩
theorem tw8975782788114832848:True:=⟨⟩
theorem tw3260833167450793955:True:=⟨⟩
theorem tw11858906247079128060:True:=⟨⟩
theorem tw9941689853235467782:True:=⟨⟩
theorem tw14459129734419518017:True:=⟨⟩
theorem tw2950846812751304254:True:=⟨⟩
theorem tw8753296544982156326:True:=⟨⟩
theorem tw6357785731054505828:True:=⟨⟩
theorem tw4597128218463859354:True:=⟨⟩
end PySem.W.Fast
namespace Hue
open PySem L2 Rf
noncomputable def j9(K:U1)(nm:Str)(i:Nat):Prop:=∃(f:XU) (od an:Option XU) (sl:Array (Option XR)) (oc kV dc pm cd ct:XR),PySem.W.nsIn K Xc nm=some (some (.ref f))/\K.lookup f=some ⟨oc,od,.func (PySem.W.fnOf nm nm (defArgs (top i)) (defBody (top i)) (defScope (top i)) .none kV dc pm an cd ct),sl⟩/\PySem.W.codeIn K cd nm=true/\PySem.W.keepIn K (.ref f)=true
theorem lnkK_mk{K:U1}{nm:Str}{i:Nat}{f:XU}{od an:Option XU}{sl:Array (Option XR)}{oc kV dc pm cd ct:XR}(a:PySem.W.nsIn K Xc nm=some (some (.ref f)))(l:K.lookup f=some ⟨oc,od,.func (PySem.W.fnOf nm nm (defArgs (top i)) (defBody (top i)) (defScope (top i)) .none kV dc pm an cd ct),sl⟩)(c:PySem.W.codeIn K cd nm=true)(k:PySem.W.keepIn K (.ref f)=true):j9 K nm i:=⟨f,od,an,sl,oc,kV,dc,pm,cd,ct,a,l,c,k⟩
theorem g6{K:U1}{h:Heap}{mg:Str->Option XR}(X:K.In h)(G:h.Ns Xc mg)(D:Df){i:Nat}(x:j9 K D.name i)(e:D.st=top i)(b:∀(kV doc pm:XR) (an:Option XU) (cdv ct:XR) (us:List XR),us.length=D.ps.length->bindArgs (PySem.W.fnOf D.name D.name (defArgs (top i)) (defBody (top i)) (defScope (top i)) .none kV doc pm an cdv ct) ⟨us,[]⟩=pure (D.ps.zip us)):PIn K mg D:=by
 obtain⟨_,_,_,_,_,_,_,_,_,_,a,l,c,k⟩:=x;exact⟨_,_,e▸GH (st:=top i) l c k,PySem.W.mg_of X G a,k,(GH (st:=top i) l c k).binds (ps:=D.ps) b⟩
theorem i9{P:Df->Prop}{D:Df}{l:List Df}(a:P D)(b:∀ x∈l,P x):∀ x∈D::l,P x:=List.forall_mem_cons.mpr ⟨a,b⟩
theorem all_mk{l:PySem.W.OpenLaw}{w:Xd}{K:U1}{h:Heap}{mg:Str->Option XR}{fa:XU}(X:K.In h)(G:h.Ns Xc mg)(hfa:mg "law"=some (.ref fa))
 (x0:j9 K "is_number" 1)
 (x1:j9 K "is_listed" 2)
 (x2:j9 K "is_pair" 3)
 (x3:j9 K "is_rising" 4)
 (x4:j9 K "has_place" 9)
 (x5:j9 K "has_tie" 10)
 (x6:j9 K "check_place" 11)
 (x7:j9 K "ties_at" 12)
 (x8:j9 K "count_at" 13)
 (x9:j9 K "within" 14)
 (x10:j9 K "is_hue" 16)
 (x11:j9 K "is_hueing" 17)
 (x12:j9 K "is_whole" 18)
 (x13:j9 K "clash_of" 19)
 (x14:j9 K "open_hues" 21)
 (x15:j9 K "closes" 22)
 (x16:j9 K "is_full_place" 24)
 (x17:j9 K "is_full_set" 25)
 (x18:j9 K "is_full_tree" 26)
 (x19:j9 K "shows_fewer" 27)
 (x20:j9 K "shows_fewest" 28)
 (x21:j9 K "_law_tape" 30)
 (x22:j9 K "_law_draw" 31)
 (x23:j9 K "_law_pairs_by" 32)
 (x24:j9 K "_law_web" 33)
 (x25:j9 K "_law_small" 34)
 (x26:j9 K "_law_meet" 35)
 (x27:j9 K "_law_is_number" 36)
 (x28:j9 K "_law_around" 37)
 (x29:j9 K "_law_tried" 38)
 (x30:j9 K "_law_tree_right" 39)
 (x31:j9 K "_law_count" 40)
 (x32:j9 K "_law_set_right" 41)
 (x33:j9 K "_law_takes" 42)
 (x34:j9 K "_law_is_hueing" 43)
 (x35:j9 K "_law_whole" 44)
 (x36:j9 K "_law_fewest_right" 45)
 (x37:j9 K "_law_odd" 46)
 (x38:j9 K "_law_truth" 47)
 (x39:j9 K "_law_thing" 48)
 (x40:j9 K "_law_paper_like" 49)
 (x41:j9 K "_law_answer_like" 50)
 (x42:j9 K "law" 51)
 (z0:PySem.W.nsIn K Xc "len"=some none)
 (z1:PySem.W.nsIn K Xc "abs"=some none)
 (z2:PySem.W.nsIn K Xc "min"=some none)
 (z3:PySem.W.nsIn K Xc "max"=some none)
 (z4:PySem.W.nsIn K Xc "int"=some none)
 (z5:PySem.W.nsIn K Xc "list"=some none)
 (z6:PySem.W.nsIn K Xc "tuple"=some none)
 (z7:PySem.W.nsIn K Xc "all"=some none)
 (z8:PySem.W.nsIn K Xc "any"=some none)
 (z9:PySem.W.nsIn K Xc "sorted"=some none)
 (z10:PySem.W.nsIn K Xc "isinstance"=some none)
 (z11:PySem.W.nsIn K Xc "str"=some none)
 (z12:PySem.W.nsIn K Xc "range"=some none)
 (z13:PySem.W.nsIn K Xc "enumerate"=some none)
 (z14:PySem.W.nsIn K Xc "zip"=some none)
 (z15:PySem.W.nsIn K Xc "set"=some none)
 (z16:PySem.W.nsIn K Xc "bool"=some none)
 (z17:PySem.W.nsIn K Xc "dict"=some none)
 (z18:PySem.W.nsIn K Xc "reversed"=some none)
 (z19:PySem.W.nsIn K Xc "repr"=some none)
 : ∃ fd:Y8,(∀(s:XS) (v:XR),BindsTo s fd ⟨[v],[]⟩ [("_law_script",v)])/\∀ base:Heap,K.In base->base.Ns Xc mg->FnOk l.prog w K mg base CX0 27 fa fd ["_law_script"] (spS K (W prog 27 42)):=by
 have y:=x42;obtain⟨f42,od42,an42,sl42,oc42,kV42,dc42,pm42,cd42,ct42,a42,l42,c42,k42⟩:=x42;have e:=hfa.symm.trans (PySem.W.mg_of X G a42);cases e
 have B:Bl mg:=by
  refine⟨λb=>?_,UL X G z12,UL X G z13,UL X G z18,UL X G z14,UL X G z15,UL X G z17,λt ht=>?_⟩
  ·cases b with
   | len=>exact UL X G z0
   | abs=>exact UL X G z1
   | min=>exact UL X G z2
   | max=>exact UL X G z3
   | int=>exact UL X G z4
   | list=>exact UL X G z5
   | tuple=>exact UL X G z6
   | all=>exact UL X G z7
   | any=>exact UL X G z8
   | sorted=>exact UL X G z9
   | isi=>exact UL X G z10
   | str=>exact UL X G z11
   | repr=>exact UL X G z19
  ·cases t with
   | int=>exact UL X G z4
   | bool=>exact UL X G z16
   | str=>exact UL X G z11
   | list=>exact UL X G z5
   | tuple=>exact UL X G z6
   | none=>exact absurd rfl ht
 have hin:∀ D∈prog,PIn K mg D:=i9 (g6 X G d0 x0 rfl λ_ _ _ _ _ _=>DR λ_=>rfl) (i9 (g6 X G d1 x1 rfl λ_ _ _ _ _ _=>DR λ_=>rfl) (i9 (g6 X G d2 x2 rfl λ_ _ _ _ _ _=>DR λ_=>rfl) (i9 (g6 X G d3 x3 rfl λ_ _ _ _ _ _=>DR λ_=>rfl) (i9 (g6 X G d4 x4 rfl λ_ _ _ _ _ _=>AH λ_ _=>rfl) (i9 (g6 X G d5 x5 rfl λ_ _ _ _ _ _=>AH λ_ _=>rfl) (i9 (g6 X G d6 x6 rfl λ_ _ _ _ _ _=>AH λ_ _=>rfl) (i9 (g6 X G d7 x7 rfl λ_ _ _ _ _ _=>AH λ_ _=>rfl) (i9 (g6 X G d8 x8 rfl λ_ _ _ _ _ _=>AH λ_ _=>rfl) (i9 (g6 X G d9 x9 rfl λ_ _ _ _ _ _=>AH λ_ _=>rfl) (i9 (g6 X G d10 x10 rfl λ_ _ _ _ _ _=>DR λ_=>rfl) (i9 (g6 X G d11 x11 rfl λ_ _ _ _ _ _=>AH λ_ _=>rfl) (i9 (g6 X G d12 x12 rfl λ_ _ _ _ _ _=>AH λ_ _=>rfl) (i9 (g6 X G d13 x13 rfl λ_ _ _ _ _ _=>AH λ_ _=>rfl) (i9 (g6 X G d14 x14 rfl λ_ _ _ _ _ _=>T9 λ_ _ _ _ _=>rfl) (i9 (g6 X G d15 x15 rfl λ_ _ _ _ _ _=>T9 λ_ _ _ _ _=>rfl) (i9 (g6 X G d16 x16 rfl λ_ _ _ _ _ _=>DS λ_ _ _=>rfl) (i9 (g6 X G d17 x17 rfl λ_ _ _ _ _ _=>DS λ_ _ _=>rfl) (i9 (g6 X G d18 x18 rfl λ_ _ _ _ _ _=>DS λ_ _ _=>rfl) (i9 (g6 X G d19 x19 rfl λ_ _ _ _ _ _=>DS λ_ _ _=>rfl) (i9 (g6 X G d20 x20 rfl λ_ _ _ _ _ _=>AH λ_ _=>rfl) (i9 (g6 X G d21 x21 rfl λ_ _ _ _ _ _=>AH λ_ _=>rfl) (i9 (g6 X G d22 x22 rfl λ_ _ _ _ _ _=>AH λ_ _=>rfl) (i9 (g6 X G d23 x23 rfl λ_ _ _ _ _ _=>AH λ_ _=>rfl) (i9 (g6 X G d24 x24 rfl λ_ _ _ _ _ _=>AH λ_ _=>rfl) (i9 (g6 X G d25 x25 rfl λ_ _ _ _ _ _=>AH λ_ _=>rfl) (i9 (g6 X G d26 x26 rfl λ_ _ _ _ _ _=>DS λ_ _ _=>rfl) (i9 (g6 X G d27 x27 rfl λ_ _ _ _ _ _=>DR λ_=>rfl) (i9 (g6 X G d28 x28 rfl λ_ _ _ _ _ _=>DS λ_ _ _=>rfl) (i9 (g6 X G d29 x29 rfl λ_ _ _ _ _ _=>R8 λ_ _ _ _=>rfl) (i9 (g6 X G d30 x30 rfl λ_ _ _ _ _ _=>R8 λ_ _ _ _=>rfl) (i9 (g6 X G d31 x31 rfl λ_ _ _ _ _ _=>AH λ_ _=>rfl) (i9 (g6 X G d32 x32 rfl λ_ _ _ _ _ _=>DS λ_ _ _=>rfl) (i9 (g6 X G d33 x33 rfl λ_ _ _ _ _ _=>DS λ_ _ _=>rfl) (i9 (g6 X G d34 x34 rfl λ_ _ _ _ _ _=>AH λ_ _=>rfl) (i9 (g6 X G d35 x35 rfl λ_ _ _ _ _ _=>DS λ_ _ _=>rfl) (i9 (g6 X G d36 x36 rfl λ_ _ _ _ _ _=>AH λ_ _=>rfl) (i9 (g6 X G d37 x37 rfl λ_ _ _ _ _ _=>DR λ_=>rfl) (i9 (g6 X G d38 x38 rfl λ_ _ _ _ _ _=>AH λ_ _=>rfl) (i9 (g6 X G d39 x39 rfl λ_ _ _ _ _ _=>AH λ_ _=>rfl) (i9 (g6 X G d40 x40 rfl λ_ _ _ _ _ _=>DR λ_=>rfl) (i9 (g6 X G d41 x41 rfl λ_ _ _ _ _ _=>AH λ_ _=>rfl) (i9 (g6 X G d42 y rfl λ_ _ _ _ _ _=>DR λ_=>rfl) (λ_ h=>nomatch h)))))))))))))))))))))))))))))))))))))))))));refine⟨PySem.W.fnOf "law" "law" (defArgs (top 51)) (defBody (top 51)) (defScope (top 51)) .none kV42 dc42 pm42 an42 cd42 ct42,λs v => .of_eq rfl,λbase _ _=>?_⟩
 exact MF (P:=l.prog) (w:=w) (base:=base) (k:=26) (Δ:=W prog 26) (D:=d42) (GH (st:=top 51) l42 c42 k42) (US.mp Fx d42 (UC (show prog[42]?=some d42 from rfl))) B (λg x hx=>by
  rw[UJ]at hx;cases hg:prog[g]? with
  | none=>rw[hg]at hx;cases hx
  | some D'=>
    rw[hg]at hx;have:D'.name=x:=by simpa using hx
    subst this;exact⟨D'.ps,IC Fx B hin 26 g D' hg⟩) (Cz 26)
theorem walkL{l:PySem.W.OpenLaw}{q:XZ}{loose:List Str}{XP:(Str->Option XR)->Heap->Prop}{YP:Xd->Heap->Prop}{d:DefRec}{K:Params->U1}(hn:l.most=some 63)(hdf:d.params.defaults=[])
 (hY:∀(w:Xd) (h:Heap),YP w h->(K w.params).In h)
 (F:∀(w:Xd) (mg:Str->Option XR) (fa:XU) (h:Heap),(K w.params).In h->h.Ns Xc mg->mg d.name=some (.ref fa)->
   ∃ fd:Y8,(∀(s:XS) (u:XR),BindsTo s fd ⟨[u],[]⟩ [("_law_script",u)])/\∀ base:Heap,(K w.params).In base->base.Ns Xc mg->FnOk l.prog w (K w.params) mg base CX0 27 fa fd ["_law_script"] (spS (K w.params) (W prog 27 42))):
 PySem.W.WalkO q loose XP YP l.row.toRowW d [] (λf vs=>PySem.call f vs):=
 L2.walk_of (n:=63) (k:=27) (x:="_law_script") (CX:=λ_=>CX0) (sp:=λw=>spS (K w.params) (W prog 27 42)) hn (by decide) hdf ⟨rfl,by decide,by decide,rfl⟩ hY F (λ_ _ a ns hl hO hS=>RA (law_main ns hl) hO hS) λ_ _ _ _ _ z=>z
end Hue
open PySem PySem.W PyProof.Rows
set_option maxRecDepth 100000 in
set_option maxHeartbeats 0 in
theorem PySem.Challenge.cw_huedties_k41_things_of_any_make_holds : PySem.Challenge.rw_huedties_k41_things_of_any_make.Holds := by
 w_on;o_law;k_head;(case hw=>w_witness2)
 k_fill
 refine Hue.walkL (l:=PySem.Challenge.rw_huedties_k41_things_of_any_make) rfl rfl (λw h Y=>PySem.W.kIn_of Y) ?F
 case F=>
  intro w mg fa h KX G hmg;refine' Hue.all_mk KX G hmg ?_ ?_ ?_ ?_ ?_ ?_ ?_ ?_ ?_ ?_ ?_ ?_ ?_ ?_ ?_ ?_ ?_ ?_ ?_ ?_ ?_ ?_ ?_ ?_ ?_ ?_ ?_ ?_ ?_ ?_ ?_ ?_ ?_ ?_ ?_ ?_ ?_ ?_ ?_ ?_ ?_ ?_ ?_ ?_ ?_ ?_ ?_ ?_ ?_ ?_ ?_ ?_ ?_ ?_ ?_ ?_ ?_ ?_ ?_ ?_ ?_ ?_ ?_
  all_goals first | exact Hue.lnkK_mk (by k_is) (by k_is) (by k_is) (by k_is) | k_is
