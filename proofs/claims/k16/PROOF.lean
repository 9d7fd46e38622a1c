import PyProof.Rows.All
import Wide.All
import OpenK.AllK
import PySem.Challenge.RW_huedties_k16_no_such_rows
set_option Elab.async false
set_option linter.all false
set_option maxRecDepth 100000
open PySem.W renaming Frag->Vn,mg_none_of->W8
open Bool renaming and_eq_true->Vo,false_ne_true->Vz,not_eq_true'->W7,or_eq_true->WK,eq_iff_iff->Wa,false_eq_true->Xo,or_false->Xy,true_or->Y0,or_true->Y1,eq_false_iff->Y8,false_and->YU,and_false->YW,true_and->Yf,false_or->ZM
open List renaming length_map->Vp,getElem?_eq_getElem->Vq,length_append->Vs,getD_eq_getElem?_getD->Vt,size_toArray->Vu,mem_of_getElem?->Vv,range->Vw,getElem?_map->Vx,mem_singleton->W1,mem_cons->W4,mem_cons_of_mem->W5,getElem?_append_left->W6,all_eq_true->W9,map_append->WB,mem_append->WD,mem_cons_self->WG,mem_append_right->WH,mem_range->WJ,replicate->WL,getElem?_set_self->WN,map_cons->WQ,mem_map->WU,prefix_refl->WV,getElem?_concat_length->WW,length_range->WY,getElem?_append_right->We,length_singleton->Wf,length_set->Wg,getElem_mem->Wi,mem_filter->Wj,getElem?_eq_none->Wk,filterMap_cons->Wl,length_take->Wn,find?_cons->Wo,isEmpty_iff->Wp,getElem?_set_ne->Wq,length_cons->Wr,take_length->Wt,replicate_succ->Wu,getElem?_range->Wv,all_cons->Ww,any_cons->Wx,lookup_cons->Wy,take_succ->Wz,append_nil->X0,mem_append_left->X5,getD->X9,map_map->XE,mem_iff_getElem->XF,getElem?_replicate->XH,flatten_cons->XI,of_mem_zip->XJ,mem_map_of_mem->XN,filter_cons->XQ,prefix_append->XS,length_replicate->XT,length_filter_le->XU,length_nil->XW,nodup_append->XZ,getElem?_of_mem->Xa,map_congr_left->Xb,length_drop->Xd,any_eq_true->Xe,filter_append->Xf,nodup_cons->Xh,range_succ->Xi,pairwise_cons->Xq,ext_getElem?->Xs,pairwise_map->Xu,not_mem_nil->Xw,eq_nil_of_length_eq_zero->Xz,length_eraseIdx_of_lt->Y2,find?_eq_none->Y3,drop_eq_getElem_cons->Y4,lookup->Y5,filterMap_cons_none->YA,filterMap_cons_some->YB,cons_ne_nil->YF,getElem?_cons_succ->YG,length_eq_zero_iff->YH,take_of_length_le->YJ,pairwise_lt_range->YK,find?_cons_of_pos->YM,find?_cons_of_neg->YN,count_cons->YQ,filter_map->YR,getElem?_zipWith->YS,length->YV,pairwise_append->YY,mem_of_mem_take->YZ,mem_of_mem_drop->Ya,forall_mem_cons->Yb,getElem_of_mem->Ye,mem_filterMap->Yg,zip_cons_cons->Yh,reverse_cons->Yl,append_assoc->Ym,getElem_drop->Yq,getElem?_inj->Yv,any_map->Yw,all_map->Yx,any_nil->Yy,filter_congr->Z0,ext_getElem->Z4,drop_length->Z5,nodup_range->Z7,filter->ZA,head?_drop->ZC,foldl->ZE,nodup_nil->ZF,tail_drop->ZK,take_zero->ZL,map_take->ZN,map_drop->ZO,zip_map'->ZP,map_nil->ZR
open PySem.Heap renaming get?_push_of_some->Vr,lt_size->Vy,get?_push_size->W2,SameBut->WR,get?_update_self->Wc,get?_update_other->Wh,size_push->Ws,size_update->YE,get?_none_of_le->YT,ExtBut->Z8,update->ZU
open Nat renaming le_refl->W0,ne_of_lt->W3,lt_of_lt_of_le->WC,le_trans->Wd,not_lt_zero->X4,lt_irrefl->X6,lt_succ_of_lt->X7,zero_le->XG,le_of_lt->XO,lt_of_le_of_lt->XR,lt_or_ge->XY,mul_le_mul->Xj,lt_succ_self->Xk,le_add_right->Xl,lt_of_succ_lt_succ->Xv,le_succ->Y6,lt_of_succ_lt->Y9,not_lt_of_gt->YD,zero_add->YL,add_le_add_left->Yd,ne_of_gt->Yk,succ_mul->Yn,le_of_succ_le->Yo,lt_trans->Yp,lt_trichotomy->Yr,lt_of_succ_le->Ys,le_succ_of_le->Yt,le_of_eq->Yu,min_le_right->Z1,le_of_not_lt->Z2,min_eq_right->Z6,min_eq_left->ZD,mod_lt->ZH,le_total->ZT
open Int renaming natCast_inj->WX,emod_lt_of_pos->XA,emod_nonneg->XX,zero_add->Xg,toNat_of_nonneg->Xn,toNat_natCast->Xr,eq_ofNat_of_zero_le->YI,natCast_nonneg->Yj,emod_eq_of_lt->Yz,le_refl->Z9,le_trans->ZS
open Option renaming map_eq_some_iff->WZ,isSome_iff_exists->XC,map_some->XM,isNone_iff_eq_none->Xm,bind_some->Xx,getD_none->YC,map_eq_none_iff->YO,isSome_some->Yi,getD_some->Z3
open Array renaming length_toList->Wm,getElem?_toList->X8,toList_push->Y7,getElem_toList->YX,toList_append->Yc,getD->ZG,size_zip->ZI,Perm->ZJ,toList->ZQ
open PySem renaming wpAny_bind->ZV,Value->ZW,Shared->ZX,Addr->ZY,wpAny_pure->ZZ,mainGlobals->Za,wpAny->Zb,model->Zc,Program->Zd,sizeLine->Ze,World->Zf,starEach->Zg,bootBuiltins->Zh,Scope->Zi,Around->Zj,wpAny_newObj_type->Zk,compareOp->Zl,wpAny_holding->Zm,wpAny_truthy_bool->Zn,codeAny_builtin->Zo,wpAny_callSpecial?_slot->Zq,wpAny_call_entry->Zr,swappedStores->Zs,SetTable->Zt,wpAny_mono->Zu,wpAny_Call_Name_kw->Zv,NameKind->Zw,cellsFrom->Zx,assignEach->Zy,plainId_quiet->Zz,FuncData->A00,wpAny_setField->A01,wpAny_passesOwn->A02,codeAny_mono->A03,wpAny_setState_of->A04,sysModules->A05,ExceptHandler->A06,wpAny_seqItems->A07,wpAny_rule->A08,wpAny_pyIter_tuple->A09,scanBound->A0a,wpAny_loadPart_at->A0b,recursionLimit->A0c,keywordEach->A0d,codeAny_call_builtin->A0e,swapsWith->A0f,wpAny_standAt->A0g,swapsWithSole->A0h,binaryOp->A0i,wpAny_execs_nil->A0k,letOwnedTupleGo->A0l,wpAny_updateSeq->A0m,wpAny_field->A0n,sliceBounds->A0o,wpAny_pyIter_enum->A0p,wpAny_pyIter_list->A0q,wpAny_tryCatch->A0r,call_meets->A0s,attributeBase->A0t,richCompare->A0u,wpAny_letGo->A0v,unbindBehindTheSuite->A0w,wpAny_setEntries_of->A0y,wpAny_typeOf->A0z,Arguments->A0A,builtinsNs->A0B,backToKw->A0D,firstArgMember->A0E,wpAny_letOwnedTupleGo_enum->A0F,foldedSetIterable->A0I,sizeLine_eq->A0J,fits_of_scanBound->A0K,excClassObj->A0L,wpAny_attempt->A0M,Comprehension->A0O,tupleKind->A0P,GenState->A0Q,Operator->A0R,bindArgs->A0S,compEnvC->A0T,seqItems?->A0U,wpAny_pyNext_enum_itemD->A0V,checkBuiltinCall->A0W,wpAny_askSetting->A0X,pickOrder->A0Y,typeIs_int->A10,wpAny_pyNext_enum_endD->A11,pushCells_keeps->A12,codeAny_of_tree->A13,wpAny_ite_split->A14,weight_type_call_type->A15,builtinLookup_eq_fast->A16,wpAny_setFlight_noneW->A17,bindName->A18,wpAny_bindName->A19,newFunctionEnv->A1a,wpAny_of_eq->A1b,relayAll->A1c,wpAny_runValue->A1d,dictSetDefault->A1e,wpAny_isSubtype_exc->A1g,assignInOrder->A1h,behindInMarks->A1i,wpAny_newList->A1j,comprehension->A1k,wpAny_call->A1l,wpAny_evalAll_cons->A1m,closureFor->A1o,isInstance->A1p,wpAny_assign_Name->A1q,wpAny_evalAll_nil->A1s,name_of_addr->A1t,wpAny_sequenceKey->A1u,seqIndex_neg->A1v,wpAny_storeSet_of->A1w,setField->A1x,wpAny_pyIter_slot->A1y,wpAny_execs_cons->A1A,pushCells->A1B,check_set_init_1->A1C,wpAny_isInstance->A1D,updateSeq->A1E,DictEntry->A1F,seqIndex_of->A1G,unsupported->A1H,typeLookup_type->A1I,entryOfKey->A1K,wpAny_Name->A1L,fitsIndex_both->A1N,intKind_is->A1O,isSubtype_type->A1P,entryFor_alias->A1Q,wpAny_fieldsOf->A1R,wpAny_newTuple->A1S,constantsAlone->A1W,PassesOwn->A1X,lastMarks->A1Y,drawOrder->A1Z
open PyProof.Rows renaming firstMet->A0j,get?_update_seq->A0x,assignInOrder_cons->A0C,step_dedup->A0G,firstMet_length_le->A0H,listUpdate_at->A0N,subscriptTail_builtinR->A0Z,entry_tuple_getitem->A1f,args_tuple_getitem->A1n,assignInOrder_nil->A1r,failedOf->A1z,entry_list_sort->A1J,slicePart_none->A1M,slot_list_sort->A1T,SortKind->A1U,general'->A1V
noncomputable abbrev EE:=List (Nat×Nat)
theorem gM{α:Type}{l:List α}{i:Nat}{a:α}(h:l[i]?=some a):∃h:i<l.length,l[i]=a:=List.getElem?_eq_some_iff.mp h
theorem oj{α:Type}{a b:α}(h:some a=some b):a=b:=Option.some.inj h
theorem dQ{p:Prop}[Decidable p]:(decide p=true)=p:=decide_eq_true_eq
theorem iG{c:Prop}{h:Decidable c}(k:¬c){α:Sort u}{t e:α}:ite c t e=e:=if_neg k
theorem iP{c:Prop}{h:Decidable c}(k:c){α:Sort u}{t e:α}:ite c t e=t:=if_pos k
theorem bQ{α:Type u}[BEq α][LawfulBEq α]{a b:α}:a==b↔a=b:=beq_iff_eq
namespace L2
open PySem PySem.Spec PyProof.Rows
noncomputable abbrev Key:=Sum Int Str
noncomputable def E2:Key->ZW->Bool
 | .inl k,v=>Value.isInt k v
 | .inr x,v=>Value.isStrOf x v
noncomputable def VI(w:Zf):Key->Int
 | .inl k=>hashInt k
 | .inr x=>hashStr w x
theorem n0:∀{k:Key} {v:ZW},E2 k v=true->(∃ i t,k=Sum.inl i/\v=Value.int i t)\/(∃ x t,k=Sum.inr x/\v=Value.str x t)
 | .inl i,v,h=>by
   obtain⟨t,e⟩:=Value.isInt_shape (k:=i) (v:=v) h;exact .inl ⟨i,t,rfl,e⟩
 | .inr x,v,h=>by
   obtain⟨t,e⟩:=Value.isStrOf_shape (x:=x) (v:=v) h;exact .inr ⟨x,t,rfl,e⟩
theorem JK(i:Int)(t:Tok):E2 (.inl i) (.int i t)=true:=by simp[E2,Value.isInt]
theorem JL(x:Str)(t:Tok):E2 (.inr x) (.str x t)=true:=by simp[E2,Value.isStrOf]
theorem Qu(a b:Int):decide ((Sum.inl a:Key)=Sum.inl b)=(a == b):=by
 by_cases e:a=b
 ·subst e;simp
 ·have h:¬ (Sum.inl a:Key)=Sum.inl b:=λq=>e (Sum.inl.inj q);rw[decide_eq_false h];exact(beq_eq_false_iff_ne.mpr e).symm
theorem Qv(a b:Str):decide ((Sum.inr a:Key)=Sum.inr b)=decide (a=b):=by
 by_cases e:a=b
 ·subst e;simp
 ·have h:¬ (Sum.inr a:Key)=Sum.inr b:=λq=>e (Sum.inr.inj q);rw[decide_eq_false h,decide_eq_false e]
theorem Qw(a:Int)(b:Str):decide ((Sum.inl a:Key)=Sum.inr b)=false:=decide_eq_false (λq=>nomatch q)
theorem Qx(a:Str)(b:Int):decide ((Sum.inr a:Key)=Sum.inl b)=false:=decide_eq_false (λq=>nomatch q)
noncomputable def v0(prog:Zd)(w:Zf):PySem.KeyKind prog w Key where
 is:=E2
 hash:=VI w
 inj:=λv a b ha hb=>by
  rcases n0 ha with⟨i,t,rfl,rfl⟩ | ⟨x,t,rfl,rfl⟩
  ·rcases n0 hb with⟨j,u,rfl,e⟩ | ⟨y,u,rfl,e⟩
   ·injection e with e1 _;rw[e1]
   ·exact nomatch e
  ·rcases n0 hb with⟨j,u,rfl,e⟩ | ⟨y,u,rfl,e⟩
   ·exact nomatch e
   ·injection e with e1 _;rw[e1]
 byValue:=λk v h=>by
   rcases n0 h with⟨i,t,rfl,rfl⟩ | ⟨x,t,rfl,rfl⟩<;>rfl
 pyHash:=λhv h=>by
  rcases n0 hv with⟨i,t,rfl,rfl⟩ | ⟨x,t,rfl,rfl⟩
  ·exact wpAny_pyHash_int h
  ·exact wpAny_pyHash_str h
 eqBool:=λhu hv h=>by
  rcases n0 hu with⟨i,t,rfl,rfl⟩ | ⟨x,t,rfl,rfl⟩
  ·rcases n0 hv with⟨j,u,rfl,rfl⟩ | ⟨y,u,rfl,rfl⟩
   ·rw[Qu]at h;exact wpAny_eqBool_int h
   ·rw[Qw]at h;exact SeqAt.EqAt.int_str i t y u _ _ _ _ h
  ·rcases n0 hv with⟨j,u,rfl,rfl⟩ | ⟨y,u,rfl,rfl⟩
   ·rw[Qx]at h;exact SeqAt.EqAt.str_int x t j u _ _ _ _ h
   ·rw[Qv]at h;exact wpAny_eqBool_str h
 «strs»:=λk x t v h=>by
  rcases n0 h with⟨i,u,rfl,e⟩ | ⟨y,u,rfl,e⟩
  ·exact nomatch e
  ·injection e with e1 _;subst e1;cases v<;>rfl
theorem FM(prog:Zd)(w:Zf)(i:Int)(t:Tok):(v0 prog w).is (.inl i) (.int i t)=true:=JK i t
theorem FN(prog:Zd)(w:Zf)(x:Str)(t:Tok):(v0 prog w).is (.inr x) (.str x t)=true:=JL x t
inductive V where
 | non | bl (b:Bool) | int (i:Int) | str (x:Str) | byt (b:Array UInt8) | flt (b:UInt64) | ref (a:ZY) | ty (n:String)
 deriving DecidableEq
noncomputable def RelV:V->ZW->Prop
 | .non,u=>u=Value.none
 | .bl b,u=>u=Value.bool b
 | .int i,u=>∃ t,u=Value.int i t
 | .str x,u=>∃ t,u=Value.str x t
 | .byt b,u=>∃ t,u=Value.bytes b t
 | .flt b,u=>∃ t,u=Value.float b t
 | .ref a,u=>u=Value.ref a
 | .ty n,u=>u=Value.type n
noncomputable abbrev Vals:List V->List ZW->Prop:=Paired RelV
theorem Vals.length{xs:List V}{us:List ZW}(r:Vals xs us):xs.length=us.length:=Paired.length r
theorem Vals.get:∀{xs:List V} {us:List ZW} {i:Nat} {x:V},Vals xs us->xs[i]?=some x->∃ u,us[i]?=some u/\RelV x u
 | _,_,_,_,.nil,e=>by simp at e
 | _,_,0,_,.cons r _,e=>by simp at e;subst e;exact⟨_,rfl,r⟩
 | _,_,i+1,x,.cons _ t,e=>by
   obtain⟨u,h1,h2⟩:=Vals.get (i:=i) (x:=x) t (by simpa using e);exact⟨u,by simpa using h1,h2⟩
theorem Vals.set{x:V}{u:ZW}(r:RelV x u):∀{xs:List V} {us:List ZW} (i:Nat),Vals xs us->Vals (xs.set i x) (us.set i u)
 | _,_,_,.nil => .nil
 | _,_,0,.cons _ t => .cons r t
 | _,_,i+1,.cons q t => .cons q (Vals.set r i t)
theorem Vals.append:∀{xs ys:List V} {us ws:List ZW},Vals xs us->Vals ys ws->Vals (xs++ys) (us++ws)
 | _,_,_,_,.nil,s=>s
 | _,_,_,_,.cons r t,s => .cons r (Vals.append t s)
theorem Vals.take:∀{xs:List V} {us:List ZW} (n:Nat),Vals xs us->Vals (xs.take n) (us.take n)
 | _,_,0,_ => .nil
 | _,_,_+1,.nil => .nil
 | _,_,n+1,.cons r t => .cons r (Vals.take n t)
theorem Vals.drop:∀{xs:List V} {us:List ZW} (n:Nat),Vals xs us->Vals (xs.drop n) (us.drop n)
 | _,_,0,r=>r
 | _,_,_+1,.nil => .nil
 | _,_,n+1,.cons _ t=>Vals.drop n t
noncomputable def RelO:Option V->Option ZW->Prop
 | some v,some u=>RelV v u
 | none,none=>True
 | _,_=>False
noncomputable def KV{κ:Type}:List (κ×V)->List (κ×ZW)->Prop:=Paired λ(p:κ×V) (q:κ×ZW)=>p.1=q.1/\RelV p.2 q.2
noncomputable def kV:Key->V
 | .inl i => .int i
 | .inr x => .str x
inductive HO where
 | lst (xs:List V)
 | tup (xs:List V)
 | dK (kvs:List (Key×V)) | dT (kvs:List (List Key×V))
 | set (S:Int->Bool) (n:Nat)
 | ins (C dx:ZY) (fs:List (Str×V))
 | own (x:ZY)
 | xd (fs:List (Str×V))
 | met (f x:ZY)
 | rng (lo hi:Int)
 | frz (o:Obj) (u:HO)
 | tbl (ps:Array ZW)
 | ext (φ:Heap->Prop)
noncomputable abbrev Hp:=ZY->Option HO
noncomputable def upd(H:Hp)(a:ZY)(o:HO):Hp:=λb=>if b=a then some o else H b
theorem j3{H:Hp}{a:ZY}{o:HO}:upd H a o a=some o:=by unfold upd;rw[iP rfl]
theorem c9{H:Hp}{a b:ZY}{o:HO}(h:b≠a):upd H a o b=H b:=by unfold upd;rw[iG h]
theorem Q7{H:Hp}{a b:ZY}{o u:HO}(h:H a=some o)(h':H b=some u)(d:o≠u):a≠b:=by
 intro e;subst e;rw[h]at h';exact d (oj h')
theorem f8{H:Hp}{a b:ZY}{o:HO}(h:H a=some o)(h':H b=none):a≠b:=by
 intro e;subst e;rw[h]at h';cases h'
section
variable(P:Zd)(w:Zf)
noncomputable def ObjOk(H:Hp)(h:Heap)(a:ZY):HO->Prop
 | .lst xs=>xs.length<=Ze/\∃(its:List ZW) (n:Nat),Vals xs its/\h.get? a=some {cls := .type "list",data := .seq its.toArray n}
 | .tup xs=>xs.length<=Ze/\∃ its:List ZW,Vals xs its/\IsTup h a its.toArray
 | .dK kvs=>kvs.length<=Ze/\(a == A05)=false/\∃ vs,KV kvs vs/\h.DictOf (v0 P w) a vs
 | .dT kvs=>kvs.length<=Ze/\(a == A05)=false/\∃ xs:List (List Key×ZY×ZW),
    Paired (λ(p:List Key×V) (q:List Key×ZY×ZW)=>p.1=q.1/\H q.2.1=some (.tup (p.1.map kV))/\RelV p.2 q.2.2) kvs xs/\
    ∃ o es ep,h.get? a=some o/\o.ExactDict/\o.data = .dict es ep/\es.toList=xs.map (A1K (A0P (v0 P w)))/\(xs.map (·.1)).Nodup
 | .set S n=>h.SetOf (intKind P w) a S n
 | .ins C dx fs=>H dx=some (.own a)/\fs.length<=1000/\dx≠a/\h.get? a=some (PySem.W.instObj C dx)/\
    ∃ mA,h.Ns1 dx mA/\(∀ f,RelO (fs.lookup f) (mA f))/\PySem.Within mA (fs.map (·.1))
 | .own _=>∃ o,h.get? a=some o
 | .xd fs=>∃ mA,h.Ns1 a mA/\∀ f,RelO (fs.lookup f) (mA f)
 | .rng lo hi=>∃ t u v,h.get? a=some {cls := .type "range",data := .fields #[.int lo t,.int hi u,.int 1 v]}
 | .frz o u=>h.get? a=some o/\ObjOk H h a u
 | .tbl ps=>h.get? a=some {cls := .none,data := .fields ps}
 | .met f x=>h.get? a=some (PySem.W.methodObj (.ref f) (.ref x))
 | .ext φ=>φ h/\(∃ o,h.get? a=some o)/\∀ h1 h2:Heap,φ h1->(∀ o,h1.get? a=some o->h2.get? a=some o)->φ h2
noncomputable def HOk(H:Hp)(h:Heap):Prop:=∀ a o,H a=some o->ObjOk P w H h a o
end
section
variable{P:Zd}{w:Zf}{H H':Hp}{h h':Heap}{a:ZY}{o:HO}
theorem ObjOk.lt(x:ObjOk P w H h a o):a<h.objs.size:=by
 cases o with
 | lst xs=>obtain⟨_,_,_,_,e⟩:=x;exact Vy e
 | tup xs=>obtain⟨_,_,_,p⟩:=x;exact p.lt
 | dK kvs=>obtain⟨_,_,_,_,o,_,_,e,_⟩:=x;exact Vy e
 | dT kvs=>obtain⟨_,_,_,_,o,_,_,e,_⟩:=x;exact Vy e
 | set S n=>obtain⟨o,_,_,_,e,_⟩:=x;exact Vy e
 | ins C dx fs=>obtain⟨_,_,_,e,_⟩:=x;exact Vy e
 | own y=>obtain⟨_,e⟩:=x;exact Vy e
 | xd fs=>obtain⟨_,⟨_,_,_,e,_⟩,_⟩:=x;exact Vy e
 | rng lo hi=>obtain⟨_,_,_,e⟩:=x;exact Vy e
 | frz ob u=>obtain⟨e,_⟩:=x;exact Vy e
 | tbl ps=>exact Vy (show h.get? a=some _ from x)
 | met f y=>exact Vy (show h.get? a=some _ from x)
 | ext φ=>obtain⟨_,⟨_,e⟩,_⟩:=x;exact Vy e
theorem Paired.mapP{α β:Type}{F G:α->β->Prop}:∀{l₁:List α} {l₂:List β},Paired F l₁ l₂->(∀ a b,F a b->G a b)->Paired G l₁ l₂
 | _,_,.nil,_ => .nil
 | _,_,.cons r t,f => .cons (f _ _ r) (Paired.mapP t f)
theorem ObjOk.stay(x:ObjOk P w H h a o)(k:∀ b u,(b=a\/H b=some (.own a))->h.get? b=some u->h'.get? b=some u)
 (ho:∀ b,H b=some (.own a)->H' b=some (.own a)) (ht:∀ b xs,H b=some (.tup xs)->H' b=some (.tup xs)):ObjOk P w H' h' a o:=by
 induction o with
 | lst xs=>obtain⟨z,its,n,r,e⟩:=x;exact⟨z,its,n,r,k _ _ (.inl rfl) e⟩
 | tup xs=>obtain⟨z,its,r,ob,e,c⟩:=x;exact⟨z,its,r,ob,k _ _ (.inl rfl) e,c⟩
 | dK kvs=>obtain⟨z,y,vs,r,ob,es,ep,e,c⟩:=x;exact⟨z,y,vs,r,ob,es,ep,k _ _ (.inl rfl) e,c⟩
 | dT kvs=>
   obtain⟨z,y,xs,r,ob,es,ep,e,c⟩:=x;exact⟨z,y,xs,Paired.mapP r λp q z=>⟨z.1,ht _ _ z.2.1,z.2.2⟩,ob,es,ep,k _ _ (.inl rfl) e,c⟩
 | set S n=>obtain⟨ob,es,ep,t,e,c⟩:=x;exact⟨ob,es,ep,t,k _ _ (.inl rfl) e,c⟩
 | ins C dx fs=>
   obtain⟨d,z,ne,e,mA,⟨od,es,ep,e2,c⟩,r⟩:=x;exact⟨ho _ d,z,ne,k _ _ (.inl rfl) e,mA,⟨od,es,ep,k _ _ (.inr d) e2,c⟩,r⟩
 | own y=>obtain⟨ob,e⟩:=x;exact⟨ob,k _ _ (.inl rfl) e⟩
 | xd fs=>obtain⟨mA,⟨od,es,ep,e,c⟩,r⟩:=x;exact⟨mA,⟨od,es,ep,k _ _ (.inl rfl) e,c⟩,r⟩
 | rng lo hi=>obtain⟨t,u,v,e⟩:=x;exact⟨t,u,v,k _ _ (.inl rfl) e⟩
 | frz ob u ih=>obtain⟨e,q⟩:=x;exact⟨k _ _ (.inl rfl) e,ih q⟩
 | tbl ps=>
   have e:h.get? a=some {cls := .none,data := .fields ps}:=x;show h'.get? a=some {cls := .none,data := .fields ps};exact k a _ (.inl rfl) e
 | met f y=>
   have e:h.get? a=some (PySem.W.methodObj (.ref f) (.ref y)):=x;show h'.get? a=some (PySem.W.methodObj (.ref f) (.ref y));exact k a _ (.inl rfl) e
 | ext φ=>obtain⟨p,⟨o,e⟩,st⟩:=x;exact⟨st _ _ p λo q=>k _ _ (.inl rfl) q,⟨o,k _ _ (.inl rfl) e⟩,st⟩
theorem HOk.lt(x:HOk P w H h)(e:H a=some o):a<h.objs.size:=(x a o e).lt
theorem HOk.fresh(x:HOk P w H h)(e:h.objs.size<=a):H a=none:=by
 cases q:H a with
 | none=>rfl
 | some u=>exact absurd (WC (x.lt q) e) (X6 _)
theorem HOk.kept(x:HOk P w H h)(k:∀ b u,h.get? b=some u->h'.get? b=some u):HOk P w H h':=λa o e=>
 (x a o e).stay (λb u _ q=>k b u q) (λ_ q=>q) λ_ _ q=>q
theorem HOk.laid(x:HOk P w H h)(k:∀ b u,h.get? b=some u->h'.get? b=some u)(hp:h.objs.size<=a)(new:ObjOk P w (upd H a o) h' a o):HOk P w (upd H a o) h':=λb u e=>by
 have hn:=x.fresh hp;by_cases hb:b=a
 ·subst hb;rw[j3]at e;cases e;exact new
 ·rw[c9 hb]at e;exact(x b u e).stay (λc v _ q=>k c v q) (λc q=>by rw[c9 (f8 q hn)];exact q) λc xs q=>by rw[c9 (f8 q hn)];exact q
end
noncomputable def Rd(H:Hp)(a:ZY)(u:HO):Prop:=H a=some u\/∃ o,H a=some (.frz o u)
theorem Rd.ok{P:Zd}{w:Zf}{H:Hp}{h:Heap}{a:ZY}{u:HO}(r:Rd H a u)(x:HOk P w H h):ObjOk P w H h a u:=by
 rcases r with r | ⟨o,r⟩
 ·exact x a u r
 ·obtain⟨_,q⟩:=x a _ r;exact q
noncomputable def Mut:Option HO->Prop
 | some (.lst _)=>True
 | some (.dK _)=>True
 | some (.dT _)=>True
 | some (.set _ _)=>True
 | some (.ins _ _ _)=>True
 | some (.ext _)=>True
 | _=>False
section
variable{P:Zd}{w:Zf}{H:Hp}{h h':Heap}{x e:ZY}{o':HO}
theorem HOk.write(ok:HOk P w H h)(mu:Mut (H x))(he:e=x\/H e=some (.own x))(k:∀ b u,b≠e->h.get? b=some u->h'.get? b=some u)(heo:∃ u,h'.get? e=some u)
 (new:ObjOk P w (upd H x o') h' x o'):HOk P w (upd H x o') h':=λb u q=>by
 have nown:∀ c y,H c=some (.own y)->c≠x:=λc y r z=>by subst z;rw[r]at mu;exact mu
 have ntup:∀ c xs,H c=some (.tup xs)->c≠x:=λc xs r z=>by subst z;rw[r]at mu;exact mu
 by_cases hb:b=x
 ·subst hb;rw[j3]at q;cases q;exact new
 ·rw[c9 hb]at q;by_cases hbe:b=e
  ·have q':H b=some (.own x):=by
    rcases he with z | z
    ·exact absurd (hbe.trans z) hb
    ·rw[hbe];exact z
   rw[q]at q';cases q';obtain⟨v,hv⟩:=heo;exact⟨v,by rw[hbe];exact hv⟩
  ·refine(ok b u q).stay (λc v hc r=>k c v ?_ r) (λc r=>by rw[c9 (nown c b r)];exact r) λc xs r=>by rw[c9 (ntup c xs r)];exact r
   rcases hc with rfl | hc
   ·exact hbe
   ·rintro rfl;rcases he with z | z
    ·exact nown c b hc z
    ·rw[hc]at z;cases z;exact hb rfl
end
structure Un(fs ex:List ZY)(H H':Hp)(h h':Heap):Prop where
 keep:∀ b o,h.get? b=some o->H b=none->b∉fs->b∉ex->h'.get? b=some o
 slot:∀ b o,h.get? b=some o->H b=none->b∈fs->b∉ex->∃ sl,h'.get? b=some {o with slots:=sl}
 free:∀ b o,h.get? b=some o->H b=none->b∉ex->H' b=none
 there:∀ b o,h.get? b=some o->b∉ex->∃ o',h'.get? b=some o'
 tups:∀ b xs,H b=some (.tup xs)->H' b=some (.tup xs)
 frzs:∀ b o u,H b=some (.frz o (.lst u))->H' b=some (.frz o (.lst u))
 tbls:∀ b ps,H b=some (.tbl ps)->∃ more,H' b=some (.tbl (ps++more))
section
variable{fs fs' ex ex':List ZY}{H H1 H2:Hp}{h h1 h2 h':Heap}{a x e:ZY}{o:HO}
theorem Un.any(u:Un fs ex H H1 h h1){b:ZY}{ob:Obj}(q:h.get? b=some ob)(n:H b=none)(hx:b∉ex):∃ sl,h1.get? b=some {ob with slots:=sl}:=by
 by_cases hb:b∈fs
 ·exact u.slot b ob q n hb hx
 ·exact⟨ob.slots,u.keep b ob q n hb hx⟩
theorem Un.kept(k:∀ b u,h.get? b=some u->h'.get? b=some u):Un fs ex H H h h':=
 ⟨λb ob q _ _ _=>k b ob q,λb ob q _ _ _=>⟨ob.slots,k b ob q⟩,λ_ _ _ n _=>n,λb ob q _=>⟨ob,k b ob q⟩,λ_ _ q=>q,λ_ _ _ q=>q,λ_ ps q=>⟨#[],by rw[q];simp⟩⟩
theorem Un.refl:Un fs ex H H h h:=Un.kept λ_ _ q=>q
theorem Un.laid(k:∀ b u,h.get? b=some u->h'.get? b=some u)(hp:h.objs.size<=a)(hn:H a=none):Un fs ex H (upd H a o) h h' where
 keep:=λb u q _ _ _=>k b u q
 slot:=λb u q _ _ _=>⟨u.slots,k b u q⟩
 free:=λb u q n _=>by rw[c9 (W3 (WC (Vy q) hp))];exact n
 there:=λb u q _=>⟨u,k b u q⟩
 tups:=λb xs q=>by rw[c9 (f8 q hn)];exact q
 frzs:=λb u xs q=>by rw[c9 (f8 q hn)];exact q
 tbls:=λb ps q=>⟨#[],by rw[c9 (f8 q hn),q];simp⟩
theorem Un.write(mu:Mut (H x))(he:e=x\/H e=some (.own x))(k:∀ b u,b≠e->h.get? b=some u->h'.get? b=some u)(heo:∃ u,h'.get? e=some u):Un fs ex H (upd H x o) h h':=by
 have hx:∀ b,H b=none->b≠x:=λb n z=>by subst z;rw[n]at mu;exact mu
 have hb:∀ b,H b=none->b≠e:=λb n z=>by
  subst z;rcases he with r | r
  ·exact hx b n r
  ·rw[n]at r;cases r
 have hm:∀ b u,H b=some u->¬ Mut (some u)->b≠x:=λb u q nm z=>by subst z;rw[q]at mu;exact nm mu
 refine⟨λb u q n _ _=>k b u (hb b n) q,λb u q n _ _=>⟨u.slots,k b u (hb b n) q⟩,λb u q n _=>by rw[c9 (hx b n)];exact n,λb u q _=>?_,
  λb xs q=>by rw[c9 (hm b _ q λz=>z)];exact q,λb u xs q=>by rw[c9 (hm b _ q λz=>z)];exact q,λb ps q=>⟨#[],by rw[c9 (hm b _ q λz=>z),q];simp⟩⟩
 by_cases hbe:b=e
 ·subst hbe;exact heo
 ·exact⟨u,k b u hbe q⟩
end
noncomputable def trk(h:Heap)(H:Hp):List ZY:=(Vw h.objs.size).filter λa=>(H a).isSome
noncomputable def Ee(h:Heap)(H:Hp):Heap:=PySem.W.hideAll h (trk h H)
theorem JM(h:Heap)(H:Hp):(Ee h H).objs.size=h.objs.size:=PySem.W.hideAll_size _ _
theorem Kr{h:Heap}{H:Hp}{b:ZY}{o:Obj}(e:h.get? b=some o)(n:H b=none):(Ee h H).get? b=some o:=
 PySem.W.hideAll_get _ e λhm=>by
  have q:(H b).isSome=true:=(Wj.mp hm).2;rw[n]at q;simp at q
theorem Nz{h:Heap}{H:Hp}{b:ZY}{o:Obj}(e:(Ee h H).get? b=some o):h.get? b=some o/\H b=none:=by
 have e':h.get? b=some o:=PySem.W.of_hideAll (trk h H) e;refine⟨e',?_⟩;cases q:H b with
 | none=>rfl
 | some x=>
   have hm:b∈trk h H:=Wj.mpr ⟨WJ.mpr (Vy e'),by simp[q]⟩;have z:(Ee h H).get? b=none:=PySem.W.hideAll_none (trk h H) hm;rw[z]at e;cases e
noncomputable def BmAt(mg:Str->Option ZW)(h:Heap):Prop:=∃ bm ob,mg "__builtins__"=some (.ref bm)/\bm≠A0B/\h.get? bm=some ob/\ob.cls = .type "module"/\ob.dict=some A0B/\ob.data = .plain
structure Mod(K:Vn)(mg:Str->Option ZW)(base:Heap):Prop where
 kin:K.In base
 glob:base.Ns Za mg
 blt:∃ mb,base.Ns A0B mb/\∀ x:Str,x≠"__name__"->mb x=Zh x
 nolimit:base.NoLimit
 bm:BmAt mg base
structure Cx where
 prog:Zd
 w:Zf
 K:Vn
 mg:Str->Option ZW
 base:Heap
 A:Zj
 N:List Str
 s₀:ZX
 H₀:Hp
 env:Env
 outer:List Env
 stack:List Env
 ex:List ZY
 fn:Str->Bool
 calm:Bool
 pn:List (ZY×Obj)
 xe:ZW->ZX->Prop
noncomputable def frs(l:List Env):List ZY:=l.filterMap (·.frame)
noncomputable abbrev Cx.fs(X:Cx):List ZY:=frs X.outer
noncomputable def Vis(sc:Zi)(x:Str):Prop:=sc.names.lookup x=some .local\/sc.names.lookup x=some .cell\/sc.names.lookup x=some .free
noncomputable def Loc(sc:Zi)(x:Str):Prop:=sc.names.lookup x=some .local\/sc.names.lookup x=some .cell
noncomputable def Look(env:Env)(h:Heap)(m:Str->Option ZW)(x:Str)(u:ZW):Prop:=
 (env.kindOf x=some .local/\m x=some u)\/((env.kindOf x=some .cell\/env.kindOf x=some .free)/\∃ c,env.cells.lookup x=some c/\h.IsCell c (some u))
structure Cx.Ok(X:Cx):Prop where
 mod:Mod X.K X.mg X.base
 kind:X.env.scope.kind = .function
 glob:X.env.globals=Za
 blt:X.env.builtins=A0B
 above:X.s₀.heap.objs.size<=X.env.locals
 inj:∀ x y c,X.env.cells.lookup x=some c->X.env.cells.lookup y=some c->x=y
 has:∀ x,(X.env.kindOf x=some .cell\/X.env.kindOf x=some .free)->∃ c,X.env.cells.lookup x=some c
 cab:∀ x c,X.fn x=true->X.env.cells.lookup x=some c->X.s₀.heap.objs.size<=c
 hd:X.calm=true->X.A.handled=none
 frames:X.A.frames=some X.stack
 stk:X.stack=X.outer\/(X.stack=X.env::X.outer/\X.env.frame=some X.env.locals)
 exf:∀ b∈X.ex,b≠X.env.locals/\∀ x c,X.env.cells.lookup x=some c->c≠b
 bs:∀ b o,X.base.get? b=some o->X.s₀.heap.get? b=some o/\X.H₀ b=none
 bsz:X.base.objs.size<=X.s₀.heap.objs.size
 noex:∀ b o,X.base.get? b=some o->b∉X.ex
 exfs:∀ b∈X.ex,b∉X.fs
 funs:X.s₀.heap.FunFrames X.base X.outer
 frf:∀ b∈X.fs,X.H₀ b=none
structure Inv(X:Cx)(pins:List (ZY×Obj))(σ:List (Option V))(H:Hp)(s:ZX):Prop where
 ok:X.Ok
 os:s.os=X.s₀.os
 bare:AllBare s.gens
 base:Un X.fs X.ex X.H₀ H X.s₀.heap s.heap
 loc:∃ m,s.heap.Ns X.env.locals m/\∀(i:Nat) (x:Str) (v:V),X.N[i]?=some x->σ[i]?=some (some v)->Vis X.env.scope x->∃ u,RelV v u/\Look X.env s.heap m x u
 cell:∀ x c,X.env.cells.lookup x=some c->∃ v,s.heap.IsCell c v
 free:H X.env.locals=none
 freeC:∀ x c,X.env.cells.lookup x=some c->H c=none
 pin:∀ p∈X.pn++pins,s.heap.get? p.1=some p.2/\H p.1=none/\p.1≠X.env.locals/\p.1∉X.fs/\∀ v,p.2.data ≠ .cell v
 hok:HOk X.prog X.w H s.heap
 len:σ.length=X.N.length
section
variable{X:Cx}{pins:List (ZY×Obj)}{σ:List (Option V)}{H H':Hp}{s:ZX}{h':Heap}
theorem Cx.Ok.nofr(ok:X.Ok){b:ZY}{o:Obj}(e:X.base.get? b=some o):b∉X.fs:=λhb=>by
 have:=(ok.funs.mem hb).1;rw[e]at this;cases this
theorem Inv.bs(I:Inv X pins σ H s):∀ b o,X.base.get? b=some o->s.heap.get? b=some o/\H b=none:=λb o e=>
 ⟨I.base.keep b o (I.ok.bs b o e).1 (I.ok.bs b o e).2 (I.ok.nofr e) (I.ok.noex b o e),I.base.free b o (I.ok.bs b o e).1 (I.ok.bs b o e).2 (I.ok.noex b o e)⟩
theorem Inv.bk(I:Inv X pins σ H s):∀ b o,X.base.get? b=some o->s.heap.get? b=some o:=λb o e=>(I.bs b o e).1
theorem Inv.mod(I:Inv X pins σ H s):Mod X.K X.mg X.base:=I.ok.mod
theorem Inv.kIn(I:Inv X pins σ H s):X.K.In s.heap:=I.ok.mod.kin.keeps I.bk
theorem Inv.nolimit(I:Inv X pins σ H s):s.heap.NoLimit:=I.ok.mod.nolimit.keeps I.bk
theorem Inv.fr(I:Inv X pins σ H s):∃ m,Fr X.base X.env.locals s.heap m:=
 let ⟨m,hn,_⟩:=I.loc
 ⟨m,hn,I.bk,Wd I.ok.bsz I.ok.above⟩
theorem Inv.lt(I:Inv X pins σ H s):X.env.locals<s.heap.objs.size:=let ⟨_,hn,_⟩:=I.loc;hn.lt
theorem Inv.sz(I:Inv X pins σ H s):X.s₀.heap.objs.size<=s.heap.objs.size:=Wd I.ok.above (XO I.lt)
theorem Inv.nofs(I:Inv X pins σ H s){a:ZY}(h:s.heap.objs.size<=a):a∉X.fs:=λhb=>by
 obtain⟨_,o,ho,_⟩:=I.ok.funs.mem hb;exact absurd (WC (Vy ho) (Wd I.sz h)) (X6 _)
theorem Inv.cne(I:Inv X pins σ H s):∀ x c,X.env.cells.lookup x=some c->c≠X.env.locals:=λx c e z=>by
 obtain⟨v,o,ho,hd⟩:=I.cell x c e;obtain⟨m,⟨o',es,ep,ho',hd',_⟩,_⟩:=I.loc;rw[z,ho']at ho;cases ho;rw[hd']at hd;cases hd
theorem Inv.funs(I:Inv X pins σ H s):s.heap.FunFrames X.base X.outer:=by
 have all:∀(l:List Env),(∀ b∈frs l,b∈X.fs)->X.s₀.heap.FunFrames X.base l->s.heap.FunFrames X.base l:=by
  intro l
  induction l with
  | nil=>intro _ _;trivial
  | cons env r ih=>
    intro hs hl;obtain⟨hk,⟨L,o,hf,hn,ho,hd⟩,hr⟩:=hl;have hL:L∈X.fs:=hs L (by unfold frs;rw[Wl,hf];exact WG);obtain⟨sl,e⟩:=I.base.slot L o ho (I.ok.frf L hL) hL λz=>I.ok.exfs L z hL;exact⟨hk,⟨L,_,hf,hn,e,hd⟩,ih (λb hb=>hs b (by unfold frs;rw[Wl,hf];exact W5 _ hb)) hr⟩
 exact all X.outer (λ_ hb=>hb) I.ok.funs
theorem Inv.stack(I:Inv X pins σ H s):s.heap.FunFrames X.base X.stack:=by
 rcases I.ok.stk with e | ⟨e,hf⟩
 ·rw[e];exact I.funs
 ·rw[e];obtain⟨m,hn,_⟩:=I.loc;refine .cons (by rw[I.ok.kind];decide) hf hn ?_ I.funs;exact YT (Wd I.ok.bsz I.ok.above)
theorem Inv.stkSub(I:Inv X pins σ H s):∀ b∈frs X.stack,b∈X.env.locals::X.fs:=λb hb=>by
 rcases I.ok.stk with e | ⟨e,hf⟩
 ·rw[e]at hb;exact W5 _ hb
 ·rw[e]at hb;unfold frs at hb;rw[Wl,hf]at hb;exact hb
theorem Inv.stkFree(I:Inv X pins σ H s):∀ b∈frs X.stack,H b=none:=λb hb=>by
 rcases W4.mp (I.stkSub b hb) with e | hb
 ·rw[e];exact I.free
 ·obtain⟨_,o,ho,_⟩:=I.ok.funs.mem hb;exact I.base.free b o ho (I.ok.frf b hb) λz=>I.ok.exfs b z hb
theorem Inv.step{g':Array A0Q}{t':Nat}{d':Drawn}{ch:List ZY}(I:Inv X pins σ H s)
 (hch:∀ b∈ch,(b∈X.ex\/X.s₀.heap.objs.size<=b)/\b≠X.env.locals/\(∀ x c,X.env.cells.lookup x=some c->c≠b)/\∀ p∈X.pn++pins,p.1≠b)
 (keep:∀ b o,b≠X.env.locals->b∉X.fs->b∉ch->s.heap.get? b=some o->H b=none->h'.get? b=some o)
 (slot:∀ b o,b≠X.env.locals->b∈X.fs->b∉ch->s.heap.get? b=some o->H b=none->∃ sl,h'.get? b=some {o with slots:=sl}) (free:∀ b o,b∉ch->s.heap.get? b=some o->H b=none->H' b=none)
 (there:∀ b o,b∉ch->s.heap.get? b=some o->∃ o',h'.get? b=some o')
 (tups:∀ b xs,H b=some (.tup xs)->H' b=some (.tup xs)) (frzs:∀ b o u,H b=some (.frz o (.lst u))->H' b=some (.frz o (.lst u))) (tbls:∀ b ps,H b=some (.tbl ps)->∃ more,H' b=some (.tbl (ps++more)))
 (ns:∀ m,s.heap.Ns X.env.locals m->h'.Ns X.env.locals m) (hok:HOk X.prog X.w H' h') (hg:AllBare g'):
 Inv X pins σ H' {s with heap:=h',gens:=g',drawn:=d',toks:=t'}:=by
 have neL:∀ b o,X.s₀.heap.get? b=some o->b≠X.env.locals:=λb o e=>W3 (WC (Vy e) I.ok.above)
 have neC:∀ b o,X.s₀.heap.get? b=some o->b∉X.ex->b∉ch:=λb o e hx hb=>by
  rcases(hch b hb).1 with z | z
  ·exact hx z
  ·exact absurd (WC (Vy e) z) (X6 _)
 have cellK:∀ x c,X.env.cells.lookup x=some c->∀ v,s.heap.IsCell c v->h'.IsCell c v:=λx c e v ⟨o,ho,hd⟩=>by
  have nch:c∉ch:=λz=>(hch c z).2.2.1 x c e rfl;by_cases hc:c∈X.fs
  ·obtain⟨sl,q⟩:=slot c o (I.cne x c e) hc nch ho (I.freeC x c e);exact⟨_,q,hd⟩
  ·exact⟨o,keep c o (I.cne x c e) hc nch ho (I.freeC x c e),hd⟩
 refine⟨I.ok,I.os,hg,⟨λb o e n hb hx=>?_,λb o e n hb hx=>?_,λb o e n hx=>?_,λb o e hx=>?_,λb xs e=>tups b xs (I.base.tups b xs e),λb o xs e=>frzs b o xs (I.base.frzs b o xs e),λb ps e=>?_⟩,?_,λx c e=>?_,?_,λx c e=>?_,λp hp=>?_,hok,I.len⟩
 ·exact keep b o (neL b o e) hb (neC b o e hx) (I.base.keep b o e n hb hx) (I.base.free b o e n hx)
 ·obtain⟨sl,e1⟩:=I.base.slot b o e n hb hx;obtain⟨sl',e2⟩:=slot b _ (neL b o e) hb (neC b o e hx) e1 (I.base.free b o e n hx);exact⟨sl',e2⟩
 ·obtain⟨o',e1⟩:=I.base.there b o e hx;exact free b o' (neC b o e hx) e1 (I.base.free b o e n hx)
 ·obtain⟨o',e1⟩:=I.base.there b o e hx;exact there b o' (neC b o e hx) e1
 ·obtain⟨m1,e1⟩:=I.base.tbls b ps e;obtain⟨m2,e2⟩:=tbls b _ e1;exact⟨m1++m2,by rw[e2,Array.append_assoc]⟩
 ·obtain⟨m,hn,hl⟩:=I.loc;refine⟨m,ns m hn,λi x v e1 e2 e3=>?_⟩;obtain⟨u,r,l⟩:=hl i x v e1 e2 e3;refine⟨u,r,?_⟩;rcases l with l | ⟨k,c,e,z⟩
  ·exact .inl l
  ·exact .inr ⟨k,c,e,cellK x c e _ z⟩
 ·obtain⟨v,z⟩:=I.cell x c e;exact⟨v,cellK x c e v z⟩
 ·obtain⟨m,⟨o,_,_,ho,_⟩,_⟩:=I.loc;exact free _ o (λz=>(hch _ z).2.1 rfl) ho I.free
 ·obtain⟨v,o,ho,hd⟩:=I.cell x c e;exact free c o (λz=>(hch c z).2.2.1 x c e rfl) ho (I.freeC x c e)
 ·obtain⟨e,n,ne,nf,d⟩:=I.pin p hp;have nch:p.1∉ch:=λz=>(hch p.1 z).2.2.2 p hp rfl;exact⟨keep p.1 p.2 ne nf nch e n,free p.1 p.2 nch e n,ne,nf,d⟩
theorem Inv.un{t':Nat}(I:Inv X pins σ H s)(u:Un X.fs [] H H' s.heap h')(hok:HOk X.prog X.w H' h'):Inv X pins σ H' {s with heap:=h',toks:=t'}:=by
 obtain⟨m,⟨o,es,ep,ho,r⟩,_⟩:=id I.loc;obtain⟨sl,hL⟩:=u.any ho I.free (by simp)
 exact I.step (g':=s.gens) (d':=s.drawn) (ch:=[]) (λ_ z=>nomatch z) (λb o _ hb _ e n=>u.keep b o e n hb (by simp)) (λb o _ hb _ e n=>u.slot b o e n hb (by simp)) (λb o _ e n=>u.free b o e n (by simp)) (λb o _ e=>u.there b o e (by simp)) u.tups u.frzs u.tbls (λm' hm=>by
  obtain⟨o',es',ep',ho',r'⟩:=hm;rw[ho]at ho';cases ho';exact⟨_,es',ep',hL,r'⟩) hok I.bare
theorem Inv.call{g':Array A0Q}{t':Nat}{d':Drawn}{ch:List ZY}(I:Inv X pins σ H s)(u:Un (frs X.stack) ch H H' s.heap h')(hok:HOk X.prog X.w H' h')(hg:AllBare g')
 (hch:∀ b∈ch,(b∈X.ex\/X.s₀.heap.objs.size<=b)/\b≠X.env.locals/\(∀ x c,X.env.cells.lookup x=some c->c≠b)/\∀ p∈X.pn++pins,p.1≠b):
 Inv X pins σ H' {s with heap:=h',gens:=g',drawn:=d',toks:=t'}:=by
 obtain⟨m,⟨o,es,ep,ho,r⟩,_⟩:=id I.loc;obtain⟨sl,hL⟩:=u.any ho I.free λz=>(hch _ z).2.1 rfl
 exact I.step (ch:=ch) hch (λb o hL hb hc e n=>u.keep b o e n (λz=>(W4.mp (I.stkSub b z)).elim hL hb) hc) (λb o _ _ hc e n=>u.any e n hc) (λb o hc e n=>u.free b o e n hc) (λb o hc e=>u.there b o e hc) u.tups u.frzs u.tbls (λm' hm=>by
  obtain⟨o',es',ep',ho',r'⟩:=hm;rw[ho]at ho';cases ho';exact⟨_,es',ep',hL,r'⟩) hok hg
theorem Inv.turned{t':Nat}{it:ZY}(I:Inv X pins σ H s)(k:∀ b o,b≠it->s.heap.get? b=some o->h'.get? b=some o)(hn:H it=none)(hL:it≠X.env.locals)
 (h1:it∈X.ex\/X.s₀.heap.objs.size<=it) (h2:∀ x c,X.env.cells.lookup x=some c->c≠it) (h3:∀ p∈X.pn++pins,p.1≠it):Inv X pins σ H {s with heap:=h',toks:=t'}:=by
 have nit:∀ b u,H b=some u->b≠it:=λb u e z=>by rw[z,hn]at e;cases e
 refine I.step (g':=s.gens) (d':=s.drawn) (ch:=[it]) (λb hb=>?_) (λb o _ _ hc e _=>k b o (λz=>hc (by simp[z])) e) (λb o _ _ hc e _=>⟨o.slots,k b o (λz=>hc (by simp[z])) e⟩) (λ_ _ _ _ n=>n)
  (λb o hc e=>⟨o,k b o (λz=>hc (by simp[z])) e⟩) (λ_ _ e=>e) (λ_ _ _ e=>e) (λb ps e=>⟨#[],by rw[e];simp⟩) (λm hm=>?_) (λb u e=>?_) I.bare
 ·have e:b=it:=by simpa using hb
  subst e;exact⟨h1,hL,h2,h3⟩
 ·obtain⟨o,es,ep,ho,r⟩:=hm;exact⟨o,es,ep,k _ o (Ne.symm hL) ho,r⟩
 ·refine(I.hok b u e).stay (λc v hc q=>k c v ?_ q) (λ_ q=>q) λ_ _ q=>q;rcases hc with z | z
  ·rw[z];exact nit b u e
  ·exact nit c _ z
theorem Inv.tok(I:Inv X pins σ H s)(t:Nat):Inv X pins σ H {s with toks:=t}:=I.un (h':=s.heap) (t':=t) Un.refl I.hok
theorem Inv.kept{t':Nat}(I:Inv X pins σ H s)(k:∀ b u,s.heap.get? b=some u->h'.get? b=some u):Inv X pins σ H {s with heap:=h',toks:=t'}:=I.un (Un.kept k) (I.hok.kept k)
theorem Inv.laid{a:ZY}{o:HO}{t':Nat}(I:Inv X pins σ H s)(k:∀ b u,s.heap.get? b=some u->h'.get? b=some u)(hp:s.heap.objs.size<=a)(new:ObjOk X.prog X.w (upd H a o) h' a o):
 Inv X pins σ (upd H a o) {s with heap:=h',toks:=t'}:=I.un (Un.laid k hp (I.hok.fresh hp)) (I.hok.laid k hp new)
theorem Inv.write{x e:ZY}{o:HO}{t':Nat}(I:Inv X pins σ H s)(mu:Mut (H x))(he:e=x\/H e=some (.own x))(k:∀ b u,b≠e->s.heap.get? b=some u->h'.get? b=some u)(heo:∃ u,h'.get? e=some u)
 (new:ObjOk X.prog X.w (upd H x o) h' x o):Inv X pins σ (upd H x o) {s with heap:=h',toks:=t'}:=I.un (Un.write mu he k heo) (I.hok.write mu he k heo new)
theorem Inv.weak{σ':List (Option V)}(I:Inv X pins σ H s)(hl:σ'.length=σ.length)(w:∀(i:Nat) v,σ'[i]?=some (some v)->σ[i]?=some (some v)):Inv X pins σ' H s:=
 ⟨I.ok,I.os,I.bare,I.base,let ⟨m,hn,hl'⟩:=I.loc;⟨m,hn,λi x v e1 e2 e3=>hl' i x v e1 (w i v e2) e3⟩,I.cell,I.free,I.freeC,I.pin,I.hok,hl.trans I.len⟩
theorem Inv.pins_of{pins':List (ZY×Obj)}(I:Inv X pins σ H s)(h:∀ p∈pins',s.heap.get? p.1=some p.2/\H p.1=none/\p.1≠X.env.locals/\p.1∉X.fs/\∀ v,p.2.data ≠ .cell v):Inv X pins' σ H s:=
 ⟨I.ok,I.os,I.bare,I.base,I.loc,I.cell,I.free,I.freeC,λp hp=>(WD.mp hp).elim (λz=>I.pin p (X5 _ z)) (h p),I.hok,I.len⟩
theorem D0{N:List Str}(hN:N.Nodup){i j:Nat}{x:Str}(a:N[i]?=some x)(b:N[j]?=some x):i=j:=by
 obtain⟨h1,e1⟩:=gM a;obtain⟨h2,e2⟩:=gM b;exact(List.getElem_inj hN).mp (e1.trans e2.symm)
theorem E3{M:Model}{A:Zj}{E:ZW->ZX->Prop}{i:Nat}{x:Str}{v:V}{u:ZW}{Q:Unit->ZX->Prop}(I:Inv X pins σ H s)(hN:X.N.Nodup)(hi:X.N[i]?=some x)(hx:Loc X.env.scope x)(r:RelV v u)
 (h:∀ s',Inv X pins (σ.set i (some v)) H s'->(∃ a,WR a s.heap s'.heap/\(a=X.env.locals\/X.env.cells.lookup x=some a))->Q () s') (hf:X.fn x=true\/X.env.scope.names.lookup x=some .local:=by first | exact .inl rfl | exact .inr rfl | assumption):Zb M A (storeName X.env x u) Q E s:=by
 obtain⟨m,hn,hl⟩:=id I.loc;have hcls:(X.env.scope.kind == .class||(X.env.scope.kind == .module&&X.env.locals != X.env.globals))=false:=by rw[I.ok.kind];rfl
 have hiσ:i<σ.length:=by rw[I.len];exact(gM hi).1
 have cne:=I.cne
 have tracked:∀{a:ZY} {h':Heap},(∃ o,s.heap.get? a=some o/\H a=none)->WR a s.heap h'->HOk X.prog X.w H h':=λ{a h'} ha hs b ob e=>by
  obtain⟨_,_,hfree⟩:=ha;refine(I.hok b ob e).stay (λc w' hc q=>(hs.2 c ?_).trans q) (λ_ q=>q) λ_ _ q=>q;rintro rfl;rcases hc with rfl | hc
  ·rw[hfree]at e;cases e
  ·rw[hfree]at hc;cases hc
 rcases hx with hk | hk
 ·refine wpAny_storeName_local hk hn (λh' hn' hs=>?_) hcls;obtain⟨oL,_,_,hoL,_⟩:=id hn;refine h _ ⟨I.ok,I.os,I.bare,⟨λb o e n hb hx=>?_,λb o e n hb hx=>?_,I.base.free,λb o e hx=>?_,I.base.tups,I.base.frzs,I.base.tbls⟩,⟨_,hn',λj y v' e1 e2 e3=>?_⟩,λy c e=>?_,I.free,I.freeC,λp hp=>?_,tracked ⟨oL,hoL,I.free⟩ hs,by simpa using I.len⟩ ⟨_,hs,.inl rfl⟩
  ·exact(hs.2 b (W3 (WC (Vy e) I.ok.above))).trans (I.base.keep b o e n hb hx)
  ·obtain⟨sl,e1⟩:=I.base.slot b o e n hb hx;exact⟨sl,(hs.2 b (W3 (WC (Vy e) I.ok.above))).trans e1⟩
  ·obtain⟨o',e1⟩:=I.base.there b o e hx;exact⟨o',(hs.2 b (W3 (WC (Vy e) I.ok.above))).trans e1⟩
  ·by_cases hj:j=i
   ·subst hj;rw[hi]at e1;cases e1;rw[WN hiσ]at e2;cases e2;exact⟨u,r,.inl ⟨hk,by simp⟩⟩
   ·rw[Wq (Ne.symm hj)]at e2;obtain⟨u',r',q⟩:=hl j y v' e1 e2 e3;refine⟨u',r',?_⟩;rcases q with⟨k,e⟩ | ⟨k,c,e,z⟩
    ·refine .inl ⟨k,?_⟩;have:y≠x:=λe=>hj (D0 hN e1 (e▸hi));simp[this,e]
    ·exact .inr ⟨k,c,e,z.sameBut hs (cne y c e)⟩
  ·obtain⟨w',z⟩:=I.cell y c e;exact⟨w',z.sameBut hs (cne y c e)⟩
  ·obtain⟨e,n,ne,nf,d⟩:=I.pin p hp;exact⟨(hs.2 p.1 ne).trans e,n,ne,nf,d⟩
 ·have hfn:X.fn x=true:=by
   rcases hf with z | z
   ·exact z
   ·rw[z]at hk;cases hk
  obtain⟨c,hc⟩:=I.ok.has x (.inl hk);obtain⟨w',z⟩:=I.cell x c hc;refine wpAny_storeName_cell I.ok.kind hk hc z (λh' hc' hs=>?_);obtain⟨oc,hoc,hocd⟩:=id z;refine h {s with heap:=h'} ⟨I.ok,I.os,I.bare,⟨λb o e n hb hx=>?_,λb o e n hb hx=>?_,I.base.free,λb o e hx=>?_,I.base.tups,I.base.frzs,I.base.tbls⟩,⟨m,hn.sameBut hs (Ne.symm (cne x c hc)),λj y v' e1 e2 e3=>?_⟩,λy c' e=>?_,I.free,I.freeC,λp hp=>?_,tracked ⟨oc,hoc,I.freeC x c hc⟩ hs,by simpa using I.len⟩ ⟨c,hs,.inr hc⟩
  ·exact(hs.2 b (W3 (WC (Vy e) (I.ok.cab x c hfn hc)))).trans (I.base.keep b o e n hb hx)
  ·obtain⟨sl,e1⟩:=I.base.slot b o e n hb hx;exact⟨sl,(hs.2 b (W3 (WC (Vy e) (I.ok.cab x c hfn hc)))).trans e1⟩
  ·obtain⟨o',e1⟩:=I.base.there b o e hx;exact⟨o',(hs.2 b (W3 (WC (Vy e) (I.ok.cab x c hfn hc)))).trans e1⟩
  ·by_cases hj:j=i
   ·subst hj;rw[hi]at e1;cases e1;rw[WN hiσ]at e2;cases e2;exact⟨u,r,.inr ⟨.inl hk,c,hc,hc'⟩⟩
   ·rw[Wq (Ne.symm hj)]at e2;obtain⟨u',r',q⟩:=hl j y v' e1 e2 e3;refine⟨u',r',?_⟩;rcases q with q | ⟨k,c',e,z'⟩
    ·exact .inl q
    ·refine .inr ⟨k,c',e,z'.sameBut hs ?_⟩;rintro rfl;exact hj (D0 hN e1 (I.ok.inj _ _ _ e hc▸hi))
  ·by_cases hcc:c'=c
   ·subst hcc;exact⟨_,hc'⟩
   ·obtain⟨w2,z2⟩:=I.cell y c' e;exact⟨w2,z2.sameBut hs hcc⟩
  ·obtain⟨e,n,ne,nf,d⟩:=I.pin p hp;refine⟨(hs.2 p.1 ?_).trans e,n,ne,nf,d⟩;intro q;rw[q,hoc]at e;have q':oc=p.2:=oj e;exact d w' (by rw[<-q'];exact hocd)
theorem Ar{M:Model}{A:Zj}{E:ZW->ZX->Prop}{i:Nat}{x:Str}{v:V}{u:ZW}{Q:Unit->ZX->Prop}(I:Inv X pins σ H s)(hN:X.N.Nodup)(hi:X.N[i]?=some x)(hx:Loc X.env.scope x)(r:RelV v u)
 (h:∀ s',Inv X pins (σ.set i (some v)) H s'->Q () s') (hf:X.fn x=true\/X.env.scope.names.lookup x=some .local:=by first | exact .inl rfl | exact .inr rfl | assumption):Zb M A (storeName X.env x u) Q E s:=
 E3 I hN hi hx r (λs' I' _=>h s' I') hf
theorem Inv.call'{s':ZX}{ch:List ZY}(I:Inv X pins σ H s)(ho:s'.os=s.os)(u:Un (frs X.stack) ch H H' s.heap s'.heap)(hok:HOk X.prog X.w H' s'.heap)(hg:AllBare s'.gens)
 (hch:∀ b∈ch,(b∈X.ex\/X.s₀.heap.objs.size<=b)/\b≠X.env.locals/\(∀ x c,X.env.cells.lookup x=some c->c≠b)/\∀ p∈X.pn++pins,p.1≠b):Inv X pins σ H' s':=by
 obtain⟨h',g',d',t',o'⟩:=s';have e:o'=s.os:=ho;subst e;exact I.call (g':=g') (t':=t') (d':=d') u hok hg hch
end
noncomputable abbrev XK:=ZW->Option ZY->Hp->Prop
noncomputable abbrev St:=List (Option V)
noncomputable abbrev VK:=V->Hp->Prop
noncomputable abbrev TE:=St->Hp->VK->Prop
noncomputable abbrev TT:=St->Hp->(Bool->Hp->Prop)->Prop
noncomputable abbrev TA:=St->Hp->(List V->Hp->Prop)->Prop
structure Ends where
 nx:St->Hp->Prop
 rt:VK
 bk:St->Hp->Prop:=λ_ _=>False
 ct:St->Hp->Prop:=λ_ _=>False
noncomputable abbrev TS:=Ends->St->Hp->Prop
noncomputable def EP(X:Cx)(pins:List (ZY×Obj))(σ:St)(Q:VK)(u:ZW)(s':ZX):Prop:=∃ v H',Inv X pins σ H' s'/\RelV v u/\Q v H'
noncomputable def TP(X:Cx)(pins:List (ZY×Obj))(σ:St)(Q:Bool->Hp->Prop)(b:Bool)(s':ZX):Prop:=∃ H',Inv X pins σ H' s'/\Q b H'
noncomputable def AP(X:Cx)(pins:List (ZY×Obj))(σ:St)(Q:List V->Hp->Prop)(us:List ZW)(s':ZX):Prop:=∃ vs H',Inv X pins σ H' s'/\Vals vs us/\Q vs H'
noncomputable def SP(X:Cx)(pins:List (ZY×Obj))(D:Ends)(f:Flow)(s':ZX):Prop:=
 match f with
 | .next=>∃ σ' H',Inv X pins σ' H' s'/\D.nx σ' H'
 | .brk=>∃ σ' H',Inv X pins σ' H' s'/\D.bk σ' H'
 | .cont=>∃ σ' H',Inv X pins σ' H' s'/\D.ct σ' H'
 | .ret u=>∃ v σ' H',Inv X pins σ' H' s'/\RelV v u/\D.rt v H'
noncomputable def PE(X:Cx)(e:Expr)(t:TE):Prop:=
 ∀(pins:List (ZY×Obj)) (s:ZX) (σ:St) (H:Hp) (Q:VK),Inv X pins σ H s->t σ H Q->Zb (Zc X.prog X.w) X.A (eval e X.env) (EP X pins σ Q) X.xe s
noncomputable def PT(X:Cx)(e:Expr)(t:TT):Prop:=
 ∀(pins:List (ZY×Obj)) (s:ZX) (σ:St) (H:Hp) (Q:Bool->Hp->Prop),Inv X pins σ H s->t σ H Q->Zb (Zc X.prog X.w) X.A (isTrue e X.env (eval e X.env)) (TP X pins σ Q) X.xe s
noncomputable def PW(X:Cx)(e:Expr)(t:TT):Prop:=
 ∀(whole:Sem ZW) (pins:List (ZY×Obj)) (s:ZX) (σ:St) (H:Hp) (Q:Bool->Hp->Prop),Inv X pins σ H s->t σ H Q->Zb (Zc X.prog X.w) X.A (isTrue e X.env whole) (TP X pins σ Q) X.xe s
theorem PW.pt{X:Cx}{e:Expr}{t:TT}(h:PW X e t):PT X e t:=h _
noncomputable def PA(X:Cx)(es:List Expr)(t:TA):Prop:=
 ∀(pos:Pos) (pins:List (ZY×Obj)) (s:ZX) (σ:St) (H:Hp) (Q:List V->Hp->Prop),Inv X pins σ H s->t σ H Q->Zb (Zc X.prog X.w) X.A (spliced (backTo pos (Zg es X.env))) (AP X pins σ Q) X.xe s
noncomputable def PS(X:Cx)(st:Stmt)(t:TS):Prop:=
 ∀(pins:List (ZY×Obj)) (s:ZX) (σ:St) (H:Hp) (D:Ends),Inv X pins σ H s->t D σ H->Zb (Zc X.prog X.w) X.A (exec st X.env) (SP X pins D) X.xe s
noncomputable def PSs(X:Cx)(st:List Stmt)(t:TS):Prop:=
 ∀(pins:List (ZY×Obj)) (s:ZX) (σ:St) (H:Hp) (D:Ends),Inv X pins σ H s->t D σ H->Zb (Zc X.prog X.w) X.A (execs st X.env) (SP X pins D) X.xe s
theorem thn{α:Type}{t:Sem α}{Q Q':α->ZX->Prop}{M:Model}{A:Zj}{E:ZW->ZX->Prop}{s:ZX}(h:Zb M A t Q E s)(hQ:∀ a s,Q a s->Q' a s):Zb M A t Q' E s:=Zu h hQ λ_ _ x=>x
section
variable{X:Cx}
noncomputable def Ks(i:Nat):TE:=λσ H Q=>∃ v,σ[i]?=some (some v)/\Q v H
noncomputable def tC(v:V):TE:=λ_ H Q=>Q v H
theorem Kt{i:Nat}{x:Str}{pos:Pos}(hN:X.N[i]?=some x)(hv:Vis X.env.scope x)(hd:(x == ("__debug__":Str))=false:=by decide)(hcd:(x == ("__classdict__":Str))=false:=by decide):PE X (.Name x pos) (Ks i):=by
 intro pins s σ H Q I h;obtain⟨v,e,h⟩:=h;obtain⟨m,hn,hl⟩:=I.loc;obtain⟨u,r,l⟩:=hl i x v hN e hv;have fin:EP X pins σ Q u s:=⟨v,H,I,r,h⟩
 rcases l with⟨hk,hm⟩ | ⟨hk,c,hc,hcell⟩
 ·exact A1L (wpAny_loadName_local I.ok.kind hk hn hm fin) hd
 ·rcases hk with hk | hk
  ·exact A1L (wpAny_loadName_cell I.ok.kind hk hc hcell fin) hd
  ·exact A1L (wpAny_loadName_free I.ok.kind hk hc hcell fin hcd) hd
theorem Qy{i j pos}:PE X (.Constant (.int i) j pos) (tC (.int i)):=λ_ _ _ H _ I h=>wpAny_Constant_int ⟨.int i,H,I.tok _,⟨_,rfl⟩,h⟩
theorem Ti{b j pos}:PE X (.Constant (.bool b) j pos) (tC (.bl b)):=λ_ _ _ H _ I h=>Constant_bool ⟨.bl b,H,I,rfl,h⟩
theorem Qz{j pos}:PE X (.Constant .none j pos) (tC .non):=λ_ _ _ H _ I h=>Constant_none ⟨.non,H,I,rfl,h⟩
theorem R0{x j pos}:PE X (.Constant (.str x) j pos) (tC (.str x)):=λ_ _ _ H _ I h=>Calls.Constant_str ⟨.str x,H,I.tok _,⟨_,rfl⟩,h⟩
noncomputable def Gl(X:Cx)(x:Str):Prop:=X.env.kindOf x=some .globalImplicit
theorem Co{E:ZW->ZX->Prop}{pins:List (ZY×Obj)}{s:ZX}{σ:St}{H:Hp}{x:Str}{u:ZW}{pos:Pos}{Q:ZW->ZX->Prop}(I:Inv X pins σ H s)(hg:Gl X x)(hm:X.mg x=some u)(h:Q u s)
 (hd:(x == ("__debug__":Str))=false:=by decide):Zb (Zc X.prog X.w) X.A (eval (.Name x pos) X.env) Q E s:=
 Calls.Name_function_global I.ok.kind hg (Calls.loadGlobal_global (by rw[I.ok.glob];exact I.mod.glob.keeps I.bk) hm h) hd
theorem Aj{E:ZW->ZX->Prop}{pins:List (ZY×Obj)}{s:ZX}{σ:St}{H:Hp}{x:Str}{u:ZW}{pos:Pos}{Q:ZW->ZX->Prop}(I:Inv X pins σ H s)(hg:Gl X x)(hm:X.mg x=none)(hv:Zh x=some u)(h:Q u s)
 (hn:x≠"__name__":=by decide) (hd:(x == ("__debug__":Str))=false:=by decide):Zb (Zc X.prog X.w) X.A (eval (.Name x pos) X.env) Q E s:=by
 obtain⟨mb,h1,h2⟩:=I.mod.blt;exact Calls.Name_function_global I.ok.kind hg (Calls.loadGlobal_builtin (by rw[I.ok.glob];exact I.mod.glob.keeps I.bk) hm (by rw[I.ok.blt];exact h1.keeps I.bk) ((h2 x hn).trans hv) h) hd
theorem O0{x:Str}{v:V}{u:ZW}{pos:Pos}(hg:Gl X x)(hm:X.mg x=some u)(r:RelV v u)(hd:(x == ("__debug__":Str))=false:=by decide):PE X (.Name x pos) (tC v):=
 λ_ _ _ H _ I h=>Co I hg hm ⟨v,H,I,r,h⟩ hd
theorem IC{x:Str}{v:V}{u:ZW}{pos:Pos}(hg:Gl X x)(hm:X.mg x=none)(hv:Zh x=some u)(r:RelV v u)(hn:x≠"__name__":=by decide)(hd:(x == ("__debug__":Str))=false:=by decide):PE X (.Name x pos) (tC v):=
 λ_ _ _ H _ I h=>Aj I hg hm hv ⟨v,H,I,r,h⟩ hn hd
variable{a b:Expr}{ta tb:TE}{pos:Pos}
variable{tA tB':TT}{rest:List Expr}
noncomputable def Tj(t u:TT):TT:=λσ H Q=>t σ H λc H1=>if c=true then u σ H1 Q else Q false H1
noncomputable def tOr(t u:TT):TT:=λσ H Q=>t σ H λc H1=>if c=true then Q true H1 else u σ H1 Q
noncomputable def Tk(t:TT):TT:=λσ H Q=>t σ H λc H1=>Q (!c) H1
theorem O8(ha:PT X a tA):PW X (.BoolOp .And [a] pos) tA:=by
 intro wh pins s σ H Q I h;refine isTrue_and (thn (ha pins s σ H Q I h) λc s1 e=>?_);cases c with
 | true=>exact isTrue_and_nil e
 | false=>exact e
theorem R1(ha:PT X a tA):PW X (.BoolOp .Or [a] pos) tA:=by
 intro wh pins s σ H Q I h;refine isTrue_or (thn (ha pins s σ H Q I h) λc s1 e=>?_);cases c with
 | false=>exact isTrue_or_nil e
 | true=>exact e
theorem Ku(ha:PT X a tA)(hb:PW X (.BoolOp .And (b::rest) pos) tB'):PW X (.BoolOp .And (a::b::rest) pos) (Tj tA tB'):=by
 intro wh pins s σ H Q I h;refine isTrue_and (thn (ha pins s σ H _ I h) λc s1 ⟨H1,I1,q1⟩=>?_);cases c with
 | true=>exact hb wh pins s1 σ H1 Q I1 q1
 | false=>exact⟨H1,I1,q1⟩
theorem Q8(ha:PT X a tA)(hb:PW X (.BoolOp .Or (b::rest) pos) tB'):PW X (.BoolOp .Or (a::b::rest) pos) (tOr tA tB'):=by
 intro wh pins s σ H Q I h;refine isTrue_or (thn (ha pins s σ H _ I h) λc s1 ⟨H1,I1,q1⟩=>?_);cases c with
 | true=>exact⟨H1,I1,q1⟩
 | false=>exact hb wh pins s1 σ H1 Q I1 q1
theorem R3(ha:PT X a tA):PT X (.UnaryOp .Not a pos) (Tk tA):=by
 intro pins s σ H Q I h;exact isTrue_not (ha pins s σ H (λc H1=>Q (!c) H1) I h)
noncomputable def Q9(ta tb:TE):TE:=λσ H Q=>ta σ H λx H1=>∃ c,x = .bl c/\if c=true then tb σ H1 Q else Q (.bl false) H1
noncomputable def Tl(ta tb:TE):TE:=λσ H Q=>ta σ H λx H1=>∃ c,x = .bl c/\if c=true then Q (.bl true) H1 else tb σ H1 Q
noncomputable def QA(ta:TE):TE:=λσ H Q=>ta σ H λx H1=>∃ c,x = .bl c/\Q (.bl (!c)) H1
theorem Kv{op}{t:TE}(h:PE X a t):PE X (.BoolOp op [a] pos) t:=λpins s σ H Q I hw=>BoolOp_one (h pins s σ H Q I hw)
theorem Kw(ha:PE X a ta)(hb:PE X (.BoolOp .And (b::rest) pos) tb):PE X (.BoolOp .And (a::b::rest) pos) (Q9 ta tb):=by
 intro pins s σ H Q I h;refine BoolOp_and (thn (ha pins s σ H _ I h) λv s1 ⟨x,H1,I1,r1,q1⟩=>?_);obtain⟨c,rfl,q1⟩:=q1;cases r1;refine Zn ?_;cases c with
 | true=>exact hb pins s1 σ H1 Q I1 q1
 | false=>exact⟨.bl false,H1,I1,rfl,q1⟩
theorem QB(ha:PE X a ta)(hb:PE X (.BoolOp .Or (b::rest) pos) tb):PE X (.BoolOp .Or (a::b::rest) pos) (Tl ta tb):=by
 intro pins s σ H Q I h;refine BoolOp_or (thn (ha pins s σ H _ I h) λv s1 ⟨x,H1,I1,r1,q1⟩=>?_);obtain⟨c,rfl,q1⟩:=q1;cases r1;refine Zn ?_;cases c with
 | false=>exact hb pins s1 σ H1 Q I1 q1
 | true=>exact⟨.bl true,H1,I1,rfl,q1⟩
theorem R4(ha:PE X a ta):PE X (.UnaryOp .Not a pos) (QA ta):=by
 intro pins s σ H Q I h;refine UnaryOp_ (thn (ha pins s σ H _ I h) λv s1 ⟨x,H1,I1,r1,q1⟩=>?_);obtain⟨c,rfl,q1⟩:=q1;cases r1;exact not_of (Zn ⟨.bl (!c),H1,I1,rfl,q1⟩)
noncomputable def tIf(t:TT)(ta tb:TE):TE:=λσ H Q=>t σ H λc H1=>if c=true then ta σ H1 Q else tb σ H1 Q
theorem Kx{c:Expr}(hc:PT X c tA)(ha:PE X a ta)(hb:PE X b tb):PE X (.IfExp c a b pos) (tIf tA ta tb):=by
 intro pins s σ H Q I h;refine wpAny_IfExp (thn (hc pins s σ H _ I h) λd s1 ⟨H1,I1,q1⟩=>?_);cases d with
 | true=>exact ha pins s1 σ H1 Q I1 q1
 | false=>exact hb pins s1 σ H1 Q I1 q1
end
noncomputable def SqL(K:Vn)(H:Hp)(a:ZY)(xs:List V):Prop:=
 Rd H a (.lst xs)\/
  ∃(o:Obj) (its:Array ZW) (n:Nat),K.lookup a=some o/\o.cls = .type "list"/\o.dict=none/\o.data = .seq its n/\its.size<=Ze/\Vals xs its.toList
noncomputable def SqT(K:Vn)(H:Hp)(a:ZY)(xs:List V):Prop:=
 Rd H a (.tup xs)\/
  ∃(o:Obj) (its:Array ZW) (n:Nat),K.lookup a=some o/\o.cls = .type "tuple"/\o.data = .seq its n/\its.size<=Ze/\Vals xs its.toList
noncomputable def VJ:ZW->Option V
 | .none=>some .non
 | .bool b=>some (.bl b)
 | .int i _=>some (.int i)
 | .str x _=>some (.str x)
 | .bytes b _=>some (.byt b)
 | .float b _=>some (.flt b)
 | .ref a=>some (.ref a)
 | .type n=>some (.ty n)
 | _=>none
theorem RelV.abs{x:V}{u:ZW}(r:RelV x u):VJ u=some x:=by
 cases x with
 | non=>cases r;rfl
 | bl _=>cases r;rfl
 | int _=>obtain⟨t,rfl⟩:=r;rfl
 | str _=>obtain⟨t,rfl⟩:=r;rfl
 | byt _=>obtain⟨t,rfl⟩:=r;rfl
 | flt _=>obtain⟨t,rfl⟩:=r;rfl
 | ref _=>cases r;rfl
 | ty _=>cases r;rfl
theorem RelV.inj{x y:V}{u:ZW}(r:RelV x u)(q:RelV y u):x=y:=oj (r.abs.symm.trans q.abs)
theorem Vals.inj:∀{xs ys:List V} {us:List ZW},Vals xs us->Vals ys us->xs=ys
 | _,_,_,.nil,.nil=>rfl
 | _,_,_,.cons r t,.cons r' t'=>by rw[r.inj r',Vals.inj t t']
section
variable{X:Cx}{pins:List (ZY×Obj)}{σ:St}{H:Hp}{s:ZX}{a:ZY}{xs ys:List V}
theorem SqL.of{K:Vn}(h:H a=some (.lst xs)):SqL K H a xs := .inl (.inl h)
theorem SqT.of{K:Vn}(h:H a=some (.tup xs)):SqT K H a xs := .inl (.inl h)
theorem Inv.list(I:Inv X pins σ H s)(h:SqL X.K H a xs):∃ its:List ZW,Vals xs its/\PlainL s.heap a its.toArray/\xs.length<=Ze:=by
 rcases h with h | ⟨o,its,n,hk,hc,hd,hs,hz,r⟩
 ·obtain⟨z,its,n,r,e⟩:=h.ok I.hok;exact⟨its,r,⟨_,n,e,rfl,rfl,rfl⟩,z⟩
 ·refine⟨its.toList,r,⟨o,n,I.kIn a o hk,hc,hd,by simpa using hs⟩,?_⟩;have e:=r.length;simp only[Wm]at e;omega
theorem Inv.tuple(I:Inv X pins σ H s)(h:SqT X.K H a xs):∃ its:List ZW,Vals xs its/\IsTup s.heap a its.toArray/\xs.length<=Ze:=by
 rcases h with h | ⟨o,its,n,hk,hc,hs,hz,r⟩
 ·obtain⟨z,its,r,p⟩:=h.ok I.hok;exact⟨its,r,p,z⟩
 ·refine⟨its.toList,r,⟨o,I.kIn a o hk,hc,n,by simpa using hs⟩,?_⟩;have e:=r.length;simp only[Wm]at e;omega
theorem Inv.list_inj(I:Inv X pins σ H s)(h:SqL X.K H a xs)(h':SqL X.K H a ys):xs=ys:=by
 obtain⟨its,r,⟨o,n,e,_,_,d⟩,_⟩:=I.list h;obtain⟨its',r',⟨o',n',e',_,_,d'⟩,_⟩:=I.list h';rw[e]at e';cases e';rw[d]at d';injection d' with d1 _;have:its=its':=by simpa using congrArg ZQ d1
 subst this;exact r.inj r'
theorem Inv.tuple_inj(I:Inv X pins σ H s)(h:SqT X.K H a xs)(h':SqT X.K H a ys):xs=ys:=by
 obtain⟨its,r,⟨o,e,_,n,d⟩,_⟩:=I.tuple h;obtain⟨its',r',⟨o',e',_,n',d'⟩,_⟩:=I.tuple h';rw[e]at e';cases e';rw[d]at d';injection d' with d1 _;have:its=its':=by simpa using congrArg ZQ d1
 subst this;exact r.inj r'
end
noncomputable abbrev Cx.wish(X:Cx)(E:ZW->ZX->Prop):Cx:={X with xe:=E}
noncomputable abbrev Cx.nox(X:Cx):Cx:=X.wish λ_ _=>False
theorem Cx.Ok.wish{X:Cx}(ok:X.Ok)(E:ZW->ZX->Prop):(X.wish E).Ok:=
 ⟨ok.mod,ok.kind,ok.glob,ok.blt,ok.above,ok.inj,ok.has,ok.cab,ok.hd,ok.frames,ok.stk,ok.exf,ok.bs,ok.bsz,ok.noex,ok.exfs,ok.funs,ok.frf⟩
theorem Cx.Ok.unwish{X:Cx}{E:ZW->ZX->Prop}(ok:(X.wish E).Ok):X.Ok:=
 ⟨ok.mod,ok.kind,ok.glob,ok.blt,ok.above,ok.inj,ok.has,ok.cab,ok.hd,ok.frames,ok.stk,ok.exf,ok.bs,ok.bsz,ok.noex,ok.exfs,ok.funs,ok.frf⟩
section
variable{X:Cx}{pins:List (ZY×Obj)}{σ:St}{H:Hp}{s:ZX}{E:ZW->ZX->Prop}
theorem Inv.wish(I:Inv X pins σ H s)(E:ZW->ZX->Prop):Inv (X.wish E) pins σ H s:=⟨I.ok.wish E,I.os,I.bare,I.base,I.loc,I.cell,I.free,I.freeC,I.pin,I.hok,I.len⟩
theorem Inv.unwish(I:Inv (X.wish E) pins σ H s):Inv X pins σ H s:=⟨I.ok.unwish,I.os,I.bare,I.base,I.loc,I.cell,I.free,I.freeC,I.pin,I.hok,I.len⟩
theorem SP.unwish{D:Ends}{f:Flow}{s':ZX}(h:SP (X.wish E) pins D f s'):SP X pins D f s':=by
 cases f with
 | next=>obtain⟨σ',H',I,q⟩:=h;exact⟨σ',H',I.unwish,q⟩
 | brk=>obtain⟨σ',H',I,q⟩:=h;exact⟨σ',H',I.unwish,q⟩
 | cont=>obtain⟨σ',H',I,q⟩:=h;exact⟨σ',H',I.unwish,q⟩
 | ret u=>obtain⟨v,σ',H',I,r,q⟩:=h;exact⟨v,σ',H',I.unwish,r,q⟩
theorem PSs.nox{st:List Stmt}{t:TS}(h:PSs X.nox st t):PSs X st t:=λpins s σ H D I hw=>
 Zu (h pins s σ H D (I.wish _) hw) (λ_ _ q=>q.unwish) λ_ _ z=>False.elim z
end
section
variable{X:Cx}{st:Stmt}{rest:List Stmt}{t u:TS}{e:Expr}{te:TE}{pos:Pos}
noncomputable def Tm:TS:=λD σ H=>D.nx σ H
noncomputable def VL(t u:TS):TS:=λD σ H=>t {D with nx:=u D} σ H
theorem O9:PSs X [] Tm:=λ_ _ σ H _ I h=>A0k ⟨σ,H,I,h⟩
theorem Ky(h1:PS X st t)(h2:PSs X rest u):PSs X (st::rest) (VL t u):=by
 intro pins s σ H D I h;refine A1A (thn (h1 pins s σ H {D with nx:=u D} I h) λf s1 q=>?_);cases f with
 | next=>
   obtain⟨σ',H',I',q⟩:=q;exact h2 pins s1 σ' H' D I' q
 | ret v=>exact q
 | brk=>exact q
 | cont=>exact q
theorem OA(h1:PS X st t):PSs X [st] t:=by
 intro pins s σ H D I h;refine A1A (thn (h1 pins s σ H D I h) λf s1 q=>?_);cases f with
 | next=>exact A0k q
 | ret v=>exact q
 | brk=>exact q
 | cont=>exact q
theorem Inv.quiet{pins:List (ZY×Obj)}{σ:St}{H:Hp}{s:ZX}(I:Inv X pins σ H s):interactive X.env=false:=by simp[interactive,I.ok.kind]
noncomputable def Tn(te:TE):TS:=λD σ H=>te σ H λ_ H1=>D.nx σ H1
theorem ID(he:PE X e te)(hs:A0f e none pos.line X.env=pure false:=by rfl):PS X (.Expr e pos) (Tn te):=by
 intro pins s σ H D I h;exact wpAny_Expr_any (thn (he pins s σ H _ I h) λv s1 ⟨x,H1,I1,r1,q1⟩=>⟨σ,H1,I1,q1⟩) I.quiet hs
noncomputable def VM(te:TE):TS:=λD σ H=>te σ H D.rt
theorem R5(he:PE X e te):PS X (.Return (some e) pos) (VM te):=by
 intro pins s σ H D I h;exact wpAny_Return_some (thn (he pins s σ H _ I h) λv s1 ⟨x,H1,I1,r1,q1⟩=>⟨x,σ,H1,I1,r1,q1⟩)
noncomputable def To(c:TT)(t u:TS):TS:=λD σ H=>c σ H λb H1=>if b=true then t D σ H1 else u D σ H1
theorem Tp{c:Expr}{a b:List Stmt}{tc:TT}(hc:PT X c tc)(ha:PSs X a t)(hb:PSs X b u):PS X (.If c a b pos) (To tc t u):=by
 intro pins s σ H D I h;refine wpAny_If (thn (hc pins s σ H _ I h) λd s1 ⟨H1,I1,q1⟩=>?_);cases d with
 | true=>exact ha pins s1 σ H1 D I1 q1
 | false=>exact hb pins s1 σ H1 D I1 q1
end
noncomputable abbrev TG:=V->St->Hp->(St->Hp->Prop)->Prop
noncomputable abbrev TGs:=List V->St->Hp->(St->Hp->Prop)->Prop
noncomputable def PG(X:Cx)(target:Expr)(t:TG):Prop:=
 ∀(pins:List (ZY×Obj)) (s:ZX) (σ:St) (H:Hp) (v:V) (u:ZW) (Q:St->Hp->Prop),Inv X pins σ H s->RelV v u->t v σ H Q->
  Zb (Zc X.prog X.w) X.A (assign target X.env u) (λ_ s'=>∃ σ' H',Inv X pins σ' H' s'/\Q σ' H') X.xe s
noncomputable def PGs(X:Cx)(ts:List Expr)(t:TGs):Prop:=
 ∀(pins:List (ZY×Obj)) (s:ZX) (σ:St) (H:Hp) (vs:List V) (us:List ZW) (Q:St->Hp->Prop),Inv X pins σ H s->Vals vs us->t vs σ H Q->
  Zb (Zc X.prog X.w) X.A (A1h ((Zy ts X.env).map (·.2)) us) (λ_ s'=>∃ σ' H',Inv X pins σ' H' s'/\Q σ' H') X.xe s
noncomputable abbrev R6:=V->V->V->Hp->(Hp->Prop)->Prop
noncomputable def Tq(X:Cx)(t:R6):Prop:=
 ∀(pins:List (ZY×Obj)) (s:ZX) (σ:St) (H:Hp) (o i v:V) (ov iv u:ZW) (Q:Hp->Prop),Inv X pins σ H s->RelV o ov->RelV i iv->RelV v u->t o i v H Q->
  Zb (Zc X.prog X.w) X.A (setItem ov iv u) (λ_ s'=>∃ H',Inv X pins σ H' s'/\Q H') X.xe s
section
variable{X:Cx}{pos:Pos}
noncomputable def FO(i:Nat):TG:=λv σ H Q=>Q (σ.set i (some v)) H
theorem OB{i:Nat}{x:Str}(hN:X.N.Nodup)(hi:X.N[i]?=some x)(hx:Loc X.env.scope x)(hf:X.fn x=true\/X.env.scope.names.lookup x=some .local:=by first | exact .inl rfl | exact .inr rfl | assumption):PG X (.Name x pos) (FO i):=by
 intro pins s σ H v u Q I r h;exact A1q (Ar I hN hi hx r (λs' I'=>⟨_,H,I',h⟩) hf)
noncomputable def VN:TGs:=λvs σ H Q=>vs=[]/\Q σ H
noncomputable def Tr(t:TG)(u:TGs):TGs:=λvs σ H Q=>∃ v r,vs=v::r/\t v σ H λσ' H'=>u r σ' H' Q
theorem OC:PGs X [] VN:=by
 intro pins s σ H vs us Q I r h;obtain⟨e,h⟩:=h;subst e;cases r;exact A1r ⟨σ,H,I,h⟩
theorem Kz{e:Expr}{es:List Expr}{t:TG}{u:TGs}(h1:PG X e t)(h2:PGs X es u)
 (hs:(Zy (e::es) X.env).map (·.2)=assign e X.env::(Zy es X.env).map (·.2):=by rfl):PGs X (e::es) (Tr t u):=by
 intro pins s σ H vs us Q I r h;obtain⟨v,vr,e1,h⟩:=h;subst e1;cases r with
 | cons r rr=>
   rw[hs];refine A0C (thn (h1 pins s σ H _ _ _ I r h) λ_ s1 ⟨σ1,H1,I1,q1⟩=>?_);exact h2 pins s1 σ1 H1 _ _ Q I1 rr q1
noncomputable def VO(K:Vn)(n:Nat)(t:TGs):TG:=λv σ H Q=>∃ a xs,v = .ref a/\SqT K H a xs/\xs.length=n/\t xs σ H Q
theorem R7{es:List Expr}{k:Nat}{t:TGs}{n:Nat}(hc:X.calm=true)(h:PGs X es t)
 (hn:(Zy es X.env).length=n:=by rfl) (hst:(Zy es X.env).findIdx? (·.1)=none:=by rfl):PG X (.Tuple es k pos) (VO X.K n t):=by
 intro pins s σ H v u Q I r hw;obtain⟨a,xs,e1,hq,hl,hw⟩:=hw;subst e1;cases r;obtain⟨its,rv,ht,hz⟩:=I.tuple hq;refine assign_Tuple_tuple (I.ok.hd hc) ht (by simp[hn,<-hl,rv.length]) hst λh' hx=>?_;have I1:Inv X pins σ H {s with heap:=h'}:=I.kept (t':=s.toks) λb o e=>hx b o (W3 (Vy e)) e;exact h pins _ σ H xs _ Q I1 (by simpa using rv) hw
noncomputable def Tt(to ti:TE)(t:R6):TG:=λv σ H Q=>to σ H λo H1=>ti σ H1 λi H2=>t o i v H2 λH3=>Q σ H3
theorem R8{o i:Expr}{to ti:TE}{t:R6}(ho:PE X o to)(hi:PE X i ti)(hs:Tq X t)
 (ha:∀ v,assign (.Subscript o i pos) X.env v=(do
   let ov <- holding [v] (eval o X.env)
   let iv <- holding [v,ov] (eval i X.env)
   standAt pos
   holding [v,ov,iv] (setItem ov iv v)
   release [v,ov,iv] []):=by intro _;rfl):PG X (.Subscript o i pos) (Tt to ti t):=by
 intro pins s σ H v u Q I r h;rw[ha];refine ZV (Zm (thn (ho pins s σ H _ I h) λov s1 ⟨x,H1,I1,r1,q1⟩=>?_));refine ZV (Zm (thn (hi pins s1 σ H1 _ I1 q1) λiv s2 ⟨y,H2,I2,r2,q2⟩=>?_));refine ZV (A0g (ZV (Zm (thn (hs pins s2 σ H2 x y v ov iv u _ I2 r1 r2 r q2) λ_ s3 ⟨H3,I3,q3⟩=>?_))));exact wpAny_release ⟨σ,H3,I3,q3⟩
noncomputable def Gj(te:TE)(g:TG):TS:=λD σ H=>te σ H λx H1=>g x σ H1 D.nx
theorem L5{tg e:Expr}{te:TE}{g:TG}(he:PE X e te)(hg:PG X tg g)(hs:A0h [tg] e pos.line X.env=pure false:=by rfl)(hw:Zs [tg] e X.env=pure none:=by rfl)
 (h1:(Zy [tg] X.env).map (·.2)=[assign tg X.env]:=by rfl):PS X (.Assign [tg] e pos) (Gj te g):=by
 intro pins s σ H D I h;refine wpAny_Assign_stores (thn (he pins s σ H _ I h) λv s1 ⟨x,H1,I1,r1,q1⟩=>?_) hs hw;rw[h1];exact thn (hg pins s1 σ H1 x v _ I1 r1 q1) λ_ s2 q=>q
theorem L8{i:Nat}{x:Str}{e:Expr}{te:TE}{pos':Pos}(hN:X.N.Nodup)(hi:X.N[i]?=some x)(hx:Loc X.env.scope x)(he:PE X e te)(hs:A0f e (some (.Name x pos')) pos.line X.env=pure false:=by rfl)(hf:X.fn x=true\/X.env.scope.names.lookup x=some .local:=by first | exact .inl rfl | exact .inr rfl | assumption):
 PS X (.Assign [.Name x pos'] e pos) (Gj te (FO i)):=by
 intro pins s σ H D I h;refine wpAny_Assign_Name (thn (he pins s σ H _ I h) λv s1 ⟨y,H1,I1,r1,q1⟩=>?_) hs;exact Ar I1 hN hi hx r1 (λs2 I2=>⟨_,H1,I2,q1⟩) hf
noncomputable def Tu(i j:Nat)(ta:TA):TS:=λD σ H=>ta σ H λvs H1=>∃ v w,vs=[v,w]/\D.nx ((σ.set i (some v)).set j (some w)) H1
theorem R9{i j:Nat}{x y:Str}{a b:Expr}{ta:TA}{px py pt:Pos}{kt k2 pt2}(hc:X.calm=true)(hN:X.N.Nodup)(hi:X.N[i]?=some x)(hj:X.N[j]?=some y)(hij:i≠j)
 (hx:X.env.scope.names.lookup x=some .local) (hy:X.env.scope.names.lookup y=some .local) (ha:PA X [a,b] ta)
 (hw:Zs [.Tuple [.Name x px,.Name y py] kt pt] (.Tuple [a,b] k2 pt2) X.env=pure (some [x,y]))
 (hs:A0h [.Tuple [.Name x px,.Name y py] kt pt] (.Tuple [a,b] k2 pt2) pos.line X.env=pure false:=by rfl):
 PS X (.Assign [.Tuple [.Name x px,.Name y py] kt pt] (.Tuple [a,b] k2 pt2) pos) (Tu i j ta):=by
 intro pins s σ H D I h;rw[exec_Assign_arm];refine ZV (A0g ?_);rw[hs];refine ZV (ZZ ?_);rw[iG (by decide)];refine ZV (Tuple_ (thn (ha _ pins s σ H _ I h) λus s1 ⟨vs,H1,I1,r1,q1⟩=>?_));obtain⟨v,w,e1,q1⟩:=q1;subst e1
 obtain⟨u1,u2,rfl,rv,rw'⟩:∃ u1 u2,us=[u1,u2]/\RelV v u1/\RelV w u2:=by
  cases r1 with
  | cons p q=>
    cases q with
    | cons p' q'=>
      cases q';exact⟨_,_,rfl,p,p'⟩
 refine Zk ?_ (by show 2<=Ze;decide);have I2:Inv X pins σ H1 {s1 with heap:=s1.heap.push {cls := .type "tuple",data := .seq [u1,u2].toArray}}:=I1.kept (t':=s1.toks) λb o e=>Vr _ e;rw[hw];refine ZV (ZZ ?_);show Zb (Zc X.prog X.w) X.A (do rule "assign.swapped-stores";let items <- unpackItems (.ref s1.heap.objs.size) 2 none;A1h [λv=>A18 X.env y v,λv=>A18 X.env x v] items.reverse;pure Flow.next) _ _ _;refine ZV (A08 (ZV (unpackItems_tuple (items:=#[u1,u2]) (I.ok.hd hc) (IsTup.new s1.heap _) λh' hx'=>?_)));have I3:=I2.kept (h':=h') (t':=s1.toks) λb o e=>hx' b o (W3 (Vy e)) e;show Zb _ _ (A1h [λv=>A18 X.env y v,λv=>A18 X.env x v] [u2,u1] >>= λ_=>pure Flow.next) _ _ _;refine ZV (A0C (A19 (Ar I3 hN hj (.inl hy) rw' (λs2 I4=>?_) (.inr hy))));refine A0C (A19 (Ar I4 hN hi (.inl hx) rv (λs3 I5=>A1r (ZZ ?_)) (.inr hx)));rw[List.set_comm _ _ (Ne.symm hij)]at I5;exact⟨_,H1,I5,q1⟩
noncomputable def L9(c:TT)(tb:TS):TS:=λD σ H=>∃ W:Nat->St->Hp->Prop,(∃ m,W m σ H)/\∀ m σ H,W m σ H->
 c σ H λb H1=>if b=true then ∃ N:St->Hp->Prop,(∀ σ' H',N σ' H'->∃ m',m'<m/\W m' σ' H')/\tb {D with nx:=N,ct:=N,bk:=D.nx} σ H1 else D.nx σ H1
theorem LA{c:Expr}{body:List Stmt}{tc:TT}{tb:TS}(hp:A1X (Zc X.prog X.w) X.A X.env X.xe)(hc:PT X c tc)(hb:PSs X body tb):PS X (.While c body [] pos) (L9 tc tb):=by
 intro pins s σ H D I h;obtain⟨W,⟨m0,w0⟩,turn⟩:=h;refine wpAny_While (codeAny_whileLoop (λn s'=>∃ σ' H',Inv X pins σ' H' s'/\W n σ' H') ?_ m0 ⟨σ,H,I,w0⟩);rintro n s1 ⟨σ1,H1,I1,w1⟩;refine A02 hp (thn (hc pins s1 σ1 H1 _ I1 (turn n σ1 H1 w1)) λb s2 ⟨H2,I2,q2⟩=>?_);cases b with
 | true=>
   obtain⟨N,hN,q2⟩:=q2;rw[iP rfl];refine A02 hp (thn (hb pins s2 σ1 H2 _ I2 q2) λf s3 q3=>?_);cases f with
   | next=>
     obtain⟨σ3,H3,I3,n3⟩:=q3;obtain⟨m',hm,w3⟩:=hN σ3 H3 n3;exact⟨m',hm,σ3,H3,I3,w3⟩
   | cont=>
     obtain⟨σ3,H3,I3,n3⟩:=q3;obtain⟨m',hm,w3⟩:=hN σ3 H3 n3;exact⟨m',hm,σ3,H3,I3,w3⟩
   | brk=>exact q3
   | ret v=>exact q3
 | false=>
   rw[iG Vz];exact A0k ⟨σ1,H2,I2,q2⟩
end
structure It where
 go:Nat->Hp->Prop
 yld:Nat->Hp->V->Hp->Prop
 stop:Nat->Hp->Prop
noncomputable def FpOk(X:Cx)(pins:List (ZY×Obj))(H:Hp)(b:ZY):Prop:=
 H b=none/\b≠X.env.locals/\b∉X.fs/\(b∈X.ex\/X.s₀.heap.objs.size<=b)/\(∀ x c,X.env.cells.lookup x=some c->c≠b)/\∀ p∈X.pn++pins,p.1≠b
theorem Inv.fpOk{X:Cx}{pins:List (ZY×Obj)}{σ:St}{H H':Hp}{s:ZX}{b:ZY}(I:Inv X pins σ H s)(hb:s.heap.objs.size<=b)(hn:H' b=none):FpOk X pins H' b:=by
 refine⟨hn,Yk (WC I.lt hb),I.nofs hb,.inr (Wd I.sz hb),λx c e z=>?_,λp hp z=>?_⟩
 ·obtain⟨v,q⟩:=I.cell x c e;exact absurd (WC q.lt (by rw[z];exact hb)) (X6 _)
 ·exact absurd (WC (Vy (I.pin p hp).1) (by rw[z];exact hb)) (X6 _)
structure Turn(P:Zd)(w:Zf)(K:Vn)(tg:Expr)(J:It)(fp:List ZY)(it:ZY)(tn:Nat->Heap->Prop):Prop where
 mem:it∈fp
 obj:∀ i h,tn i h->∀ b∈fp,∃ o,h.get? b=some o/\∀ v,o.data ≠ .cell v
 keep:∀ i h h',tn i h->(∀ b∈fp,∀ o,h.get? b=some o->h'.get? b=some o)->tn i h'
 item:∀(X:Cx),X.prog=P->X.w=w->X.K=K->X.calm=true->∀(i:Nat) (pins:List (ZY×Obj)) (s:ZX) (σ:St) (H:Hp) (E:ZW->ZX->Prop),Inv X pins σ H s->(∀ b∈fp,FpOk X pins H b)->tn i s.heap->J.go i H->
  Zb (Zc P w) X.A (pyNext (.ref it)) (λr s1=>∃ u,r=some u/\
   Zb (Zc P w) X.A (A0l tg (.ref it) u) (λ_ s2=>∃ x H',Inv X pins σ H' s2/\RelV x u/\J.yld i H x H'/\tn (i+1) s2.heap/\∀ b∈fp,H' b=none) E s1) E s
 done:∀(X:Cx),X.prog=P->X.w=w->X.K=K->X.calm=true->∀(i:Nat) (pins:List (ZY×Obj)) (s:ZX) (σ:St) (H:Hp) (E:ZW->ZX->Prop),Inv X pins σ H s->(∀ b∈fp,FpOk X pins H b)->tn i s.heap->J.stop i H->
   Zb (Zc P w) X.A (pyNext (.ref it)) (λr s1=>r=none/\Inv X pins σ H s1) E s
 self:∀(A:Zj) (i:Nat) (s:ZX) (Q:ZW->ZX->Prop) (E:ZW->ZX->Prop),tn i s.heap->Q (.ref it) s->Zb (Zc P w) A (pyIter (.ref it)) Q E s
noncomputable abbrev TI:=St->Hp->(It->Hp->Prop)->Prop
noncomputable def PIE(X:Cx)(pins:List (ZY×Obj))(σ:St)(tg:Expr)(R:It->Hp->Prop)(itv:ZW)(s2:ZX):Prop:=
 ∃(it:ZY) (fp:List ZY) (tn:Nat->Heap->Prop) (J:It) (H':Hp),itv = .ref it/\Inv X pins σ H' s2/\Turn X.prog X.w X.K tg J fp it tn/\tn 0 s2.heap/\(∀ b∈fp,FpOk X pins H' b)/\R J H'
noncomputable def PI(X:Cx)(tg iter:Expr)(wi:TI):Prop:=
 ∀(pins:List (ZY×Obj)) (s:ZX) (σ:St) (H:Hp) (R:It->Hp->Prop),Inv X pins σ H s->wi σ H R->
  Zb (Zc X.prog X.w) X.A (eval iter X.env) (λv s1=>Zb (Zc X.prog X.w) X.A (pyIter v) (PIE X pins σ tg R) X.xe s1) X.xe s
theorem LB{M:Model}{A:Zj}{E:ZW->ZX->Prop}{s:ZX}{tg:Expr}{it:ZY}{u:ZW}{o:Obj}{n:String}{vs:Array ZW}{Q:Unit->ZX->Prop}(ho:s.heap.get? it=some o)(hc:o.cls = .type n)(hd:o.data = .fields vs)
 (hn:["enumerate","zip","dict_itemiterator","dict_reverseitemiterator","odict_iterator","itertools.zip_longest","itertools.pairwise"].contains n=false) (hQ:Q () s):Zb M A (A0l tg (.ref it) u) Q E s:=by
 unfold A0l
 cases tg<;>first
  | exact ZZ hQ
  | (cases u<;>first
      | exact ZZ hQ
      | (refine ZV (wpAny_load ho ?_)
         rw[hc,hd];show Zb M A (if (["enumerate","zip","dict_itemiterator","dict_reverseitemiterator","odict_iterator","itertools.zip_longest","itertools.pairwise"].contains n&&vs[0]? == some (rawInt _))=true then _ else _) Q E s;rw[iG (by intro h;rw[hn,YU]at h;cases h)];exact ZZ hQ))
noncomputable def Itl(K:Vn)(a:ZY):It:=
 ⟨λi H=>∃ xs x,SqL K H a xs/\xs[i]?=some x,λi H x H'=>H'=H/\∀ xs,SqL K H a xs->xs[i]?=some x,λi H=>∃ xs,SqL K H a xs/\xs.length<=i⟩
noncomputable def Itt(K:Vn)(a:ZY):It:=
 ⟨λi H=>∃ xs x,SqT K H a xs/\xs[i]?=some x,λi H x H'=>H'=H/\∀ xs,SqT K H a xs->xs[i]?=some x,λi H=>∃ xs,SqT K H a xs/\xs.length<=i⟩
noncomputable def Itr(lo:Int)(n:Nat):It:=⟨λi _=>i<n,λi H x H'=>H'=H/\x = .int (lo+i),λi _=>n<=i⟩
theorem JN{P:Zd}{w:Zf}{K:Vn}{tg:Expr}(a it:ZY):Turn P w K tg (Itl K a) [it] it (λi h=>h.IsListIter it a i) where
 mem:=by simp
 obj:=λi h st b hb=>by
  have e:b=it:=by simpa using hb
  subst e;obtain⟨o,e,c,d⟩:=st;exact⟨o,e,λv z=>by rw[d]at z;cases z⟩
 keep:=λi h h' st k=>st.at λo e=>k it (by simp) o e
 item:=by
  intro X hP hw hK hc i pins s σ H E I hf st hg;subst hP hw hK;obtain⟨xs,x,hq,hx⟩:=hg;obtain⟨its,rv,p,hz⟩:=I.list hq;obtain⟨u,hu,ru⟩:=rv.get hx;obtain⟨f0,f1,f2,f3,f4,f5⟩:=hf it (by simp);refine wpAny_pyNext_list_item st p.isList (x:=u) (by simpa using hu) λh' st' sb=>?_;have I1:Inv X pins σ H {s with heap:=h'}:=I.turned (t':=s.toks) (λb o hb e=>(sb.2 b hb).trans e) f0 f1 f3 f4 f5;obtain⟨o,e,c,d⟩:=id st';exact⟨u,rfl,LB (s:={s with heap:=h'}) e c d (by decide) ⟨x,H,I1,ru,⟨rfl,λys hy=>by rw[I.list_inj hy hq];exact hx⟩,st',λb hb=>(hf b hb).1⟩⟩
 done:=by
   intro X hP hw hK hc i pins s σ H E I hf st hg;subst hP hw hK;obtain⟨xs,hq,hx⟩:=hg;obtain⟨its,rv,p,hz⟩:=I.list hq;obtain⟨f0,f1,f2,f3,f4,f5⟩:=hf it (by simp);have hl:=rv.length;exact wpAny_pyNext_list_end (I.ok.hd hc) st p.isList (by simp;omega) λh' eb=>⟨rfl,I.turned (t':=s.toks) (λb o hb e=>eb b o hb e) f0 f1 f3 f4 f5⟩
 self:=λ_ _ _ _ _ st h=>wpAny_pyIter_listiter st h
theorem Gk{P:Zd}{w:Zf}{K:Vn}{tg:Expr}(a it:ZY):Turn P w K tg (Itt K a) [it] it (λi h=>h.IsTupleIter it a i) where
 mem:=by simp
 obj:=λi h st b hb=>by
  have e:b=it:=by simpa using hb
  subst e;obtain⟨o,e,c,d⟩:=st;exact⟨o,e,λv z=>by rw[d]at z;cases z⟩
 keep:=λi h h' st k=>st.at λo e=>k it (by simp) o e
 item:=by
  intro X hP hw hK hc i pins s σ H E I hf st hg;subst hP hw hK;obtain⟨xs,x,hq,hx⟩:=hg;obtain⟨its,rv,p,hz⟩:=I.tuple hq;obtain⟨u,hu,ru⟩:=rv.get hx;obtain⟨f0,f1,f2,f3,f4,f5⟩:=hf it (by simp);refine wpAny_pyNext_tuple_item st (show s.heap.IsTuple a its.toArray from p) (x:=u) (by simpa using hu) λh' st' sb=>?_;have I1:Inv X pins σ H {s with heap:=h'}:=I.turned (t':=s.toks) (λb o hb e=>(sb.2 b hb).trans e) f0 f1 f3 f4 f5;obtain⟨o,e,c,d⟩:=id st';exact⟨u,rfl,LB (s:={s with heap:=h'}) e c d (by decide) ⟨x,H,I1,ru,⟨rfl,λys hy=>by rw[I.tuple_inj hy hq];exact hx⟩,st',λb hb=>(hf b hb).1⟩⟩
 done:=by
   intro X hP hw hK hc i pins s σ H E I hf st hg;subst hP hw hK;obtain⟨xs,hq,hx⟩:=hg;obtain⟨its,rv,p,hz⟩:=I.tuple hq;obtain⟨f0,f1,f2,f3,f4,f5⟩:=hf it (by simp);have hl:=rv.length;exact wpAny_pyNext_tuple_end (I.ok.hd hc) st (show s.heap.IsTuple a its.toArray from p) (by simp;omega) λh' eb=>⟨rfl,I.turned (t':=s.toks) (λb o hb e=>eb b o hb e) f0 f1 f3 f4 f5⟩
 self:=λ_ _ _ _ _ st h=>wpAny_pyIter_tupleiter st h
theorem Gm{P:Zd}{w:Zf}{K:Vn}{tg:Expr}(it:ZY)(lo:Int)(n:Nat):Turn P w K tg (Itr lo n) [it] it (λi h=>IsRangeIter h it (lo+(i:Nat) * 1) ((n:Int) - (i:Nat)) 1) where
 mem:=by simp
 obj:=λi h st b hb=>by
  have e:b=it:=by simpa using hb
  subst e
  exact⟨_,st,λv z=>by
   have z':Data.fields _=Data.cell v:=z;cases z'⟩
 keep:=λi h h' st k=>k it (by simp) _ st
 item:=by
  intro X hP hw hK hc i pins s σ H E I hf st hg;subst hP hw hK;obtain⟨f0,f1,f2,f3,f4,f5⟩:=hf it (by simp);have W:=Walks.range (prog:=X.prog) (w:=X.w) (I.ok.hd hc) it lo 1 n;refine W.item i s _ _ hg st λv h' tk hv st' kk=>?_;obtain⟨t,rfl⟩:=hv;have I1:Inv X pins σ H {s with heap:=h',toks:=tk}:=I.turned (λb o hb e=>kk b o (by simpa using hb) e) f0 f1 f3 f4 f5;refine⟨_,rfl,LB (s:={s with heap:=h',toks:=tk}) (n:="range_iterator") st' rfl rfl (by decide) ⟨.int (lo+i),H,I1,⟨t,?_⟩,⟨rfl,rfl⟩,st',λb hb=>(hf b hb).1⟩⟩;rw[Int.mul_one]
 done:=by
   intro X hP hw hK hc i pins s σ H E I hf st hg;subst hP hw hK;obtain⟨f0,f1,f2,f3,f4,f5⟩:=hf it (by simp);exact wpAny_pyNext_range_end (I.ok.hd hc) st (by have:n<=i:=hg;omega) λh' eb=>⟨rfl,I.turned (t':=s.toks) (λb o hb e=>eb b o hb e) f0 f1 f3 f4 f5⟩
 self:=λ_ _ _ _ _ st h=>wpAny_pyIter_rangeiter st h
section
variable{X:Cx}{tg:Expr}
theorem FP{pins:List (ZY×Obj)}{σ:St}{H:Hp}{s:ZX}{R:It->Hp->Prop}{E:ZW->ZX->Prop}{lo hi:Int}{t u v:Tok}{tk:Nat}(I:Inv X pins σ H s)(h1:-(2 ^ 62)<=lo)(h2:lo<2 ^ 62)(h3:-(2 ^ 62)<=hi)(h4:hi<2 ^ 62)
 (q:R (Itr lo (hi - lo).toNat) H):Zb (Zc X.prog X.w) X.A (pyIter (.ref s.heap.objs.size)) (PIE X pins σ tg R) E {s with heap:=s.heap.push {cls := .type "range",data := .fields #[.int lo t,.int hi u,.int 1 v]},toks:=tk}:=by
 refine wpAny_pyIter_range (IsRange.new ..) (small_one h1 h2 h3 h4) ?_;have I1:Inv X pins σ H {s with heap:=s.heap.push {cls := .type "range",data := .fields #[.int lo t,.int hi u,.int 1 v]},toks:=tk}:=I.kept λb o e=>Vr _ e
 refine⟨(s.heap.push {cls := .type "range",data := .fields #[.int lo t,.int hi u,.int 1 v]}).objs.size,[(s.heap.push {cls := .type "range",data := .fields #[.int lo t,.int hi u,.int 1 v]}).objs.size],_,_,H,rfl,
  I1.kept (t':=tk) λb o e=>Vr _ e,Gm _ lo (hi - lo).toNat,?_,λb hb=>?_,q⟩
 ·have e1:lo+((0:Nat):Int) * 1=lo:=by simp
  have e2:(((hi - lo).toNat:Nat):Int) - ((0:Nat):Int)=Builtin.Range.rangeSize lo hi 1:=by rw[rangeSize_one];split<;>omega
  show IsRangeIter _ _ (lo+((0:Nat):Int) * 1) ((((hi - lo).toNat:Nat):Int) - ((0:Nat):Int)) 1;rw[e1,e2];exact W2 _ rfl
 ·have e:b=(s.heap.push {cls := .type "range",data := .fields #[.int lo t,.int hi u,.int 1 v]}).objs.size:=by simpa using hb
  subst e;exact I1.fpOk (W0 _) (I1.hok.fresh (W0 _))
noncomputable def Tv(ta:TA):TI:=λσ H R=>ta σ H λvs H1=>∃ j:Int,vs=[.int j] /\ -(2 ^ 62)<=j/\j<2 ^ 62/\R (Itr 0 j.toNat) H1
noncomputable def Tw(ta:TA):TI:=λσ H R=>ta σ H λvs H1=>∃ i j:Int,vs=[.int i,.int j]/\(-(2 ^ 62)<=i/\i<2 ^ 62 /\ -(2 ^ 62)<=j/\j<2 ^ 62)/\R (Itr i (j - i).toNat) H1
theorem JO{a:Expr}{ta:TA}{p pos:Pos}(hg:Gl X "range")(hm:X.mg "range"=none)(ha:PA X [a] ta)(hs:Zg [a] X.env=[(false,eval a X.env)]:=by rfl):PI X tg (.Call (.Name "range" p) [a] [] pos) (Tv ta):=by
 intro pins s σ H R I h;refine Call_ (Aj I hg hm boot_range (PyProof.Rows.callWith_type1 (thn (ha pos pins s σ H _ I h) λus s1 ⟨vs,H1,I1,r1,q1⟩=>?_) hs rfl));obtain⟨j,e,q1,q2,q⟩:=q1;subst e;cases r1 with
 | cons r rr=>
   cases rr;obtain⟨t,rfl⟩:=r;exact call_range_1 (FP I1 (by omega) (by omega) q1 q2 (by simpa using q))
theorem JP{a b:Expr}{ta:TA}{p pos:Pos}(hg:Gl X "range")(hm:X.mg "range"=none)(ha:PA X [a,b] ta)(hs:Zg [a,b] X.env=[(false,eval a X.env),(false,eval b X.env)]:=by rfl)(hs2:Zg [b] X.env=[(false,eval b X.env)]:=by rfl):
 PI X tg (.Call (.Name "range" p) [a,b] [] pos) (Tw ta):=by
 intro pins s σ H R I h;refine Call_ (Aj I hg hm boot_range (PyProof.Rows.callWith_type1 (thn (ha pos pins s σ H _ I h) λus s1 ⟨vs,H1,I1,r1,q1⟩=>?_) (by rw[hs,hs2]) (by rw[hs2];rfl)));obtain⟨i,j,e,⟨q1,q2,q3,q4⟩,q⟩:=q1;subst e;cases r1 with
 | cons r rr=>
   cases rr with
   | cons r' rr=>
     cases rr;obtain⟨t,rfl⟩:=r;obtain⟨t',rfl⟩:=r';exact call_range_2 (FP I1 q1 q2 q3 q4 q)
noncomputable def Tx(wi:TI)(g:TG)(tb:TS):TS:=λD σ H=>wi σ H λJ H1=>∃ W:Nat->Nat->St->Hp->Prop,(∃ m,W 0 m σ H1)/\∀ i m σ H,W i m σ H->
 (J.stop i H/\D.nx σ H)\/(J.go i H/\∃ N:St->Hp->Prop,(∀ σ' H',N σ' H'->∃ m',m'<m/\W (i+1) m' σ' H')/\∀ x H',J.yld i H x H'->g x σ H' λσ2 H2=>tb {D with nx:=N,ct:=N,bk:=D.nx} σ2 H2)
noncomputable def Br(fp:List ZY)(h:Heap):List (ZY×Obj):=fp.filterMap λb=>(h.get? b).map λo=>(b,o)
theorem B8{fp:List ZY}{h:Heap}{b:ZY}{o:Obj}(hb:b∈fp)(e:h.get? b=some o):(b,o)∈Br fp h:=Yg.mpr ⟨b,hb,by rw[e];rfl⟩
theorem JQ{fp:List ZY}{h:Heap}{p:ZY×Obj}(hp:p∈Br fp h):p.1∈fp/\h.get? p.1=some p.2:=by
 obtain⟨b,hb,e⟩:=Yg.mp hp;cases q:h.get? b with
 | none=>rw[q]at e;cases e
 | some o=>
   rw[q]at e;have e':(b,o)=p:=oj e;subst e';exact⟨hb,q⟩
theorem Inv.pinned{pins:List (ZY×Obj)}{σ:St}{H:Hp}{s:ZX}{fp:List ZY}(I:Inv X pins σ H s)(hf:∀ b∈fp,FpOk X pins H b)(ho:∀ b∈fp,∃ o,s.heap.get? b=some o/\∀ v,o.data ≠ .cell v):Inv X (pins++Br fp s.heap) σ H s:=
 I.pins_of λp hp=>(WD.mp hp).elim (λz=>I.pin p (WH _ z)) λz=>by
  obtain⟨hb,e⟩:=JQ z;obtain⟨f0,f1,f2,_⟩:=hf p.1 hb;obtain⟨o,e',d⟩:=ho p.1 hb;rw[e]at e';cases e';exact⟨e,f0,f1,f2,d⟩
theorem Inv.unpinned{pins pl:List (ZY×Obj)}{σ:St}{H:Hp}{s:ZX}(I:Inv X (pins++pl) σ H s):Inv X pins σ H s:=I.pins_of λp hp=>I.pin p (WH _ (X5 _ hp))
theorem RB{iter:Expr}{body:List Stmt}{wi:TI}{g:TG}{tb:TS}{pos:Pos}(hp:A1X (Zc X.prog X.w) X.A X.env X.xe)(hc:X.calm=true)(hi:PI X tg iter wi)(hg:PG X tg g)(hb:PSs X body tb)
 (hs:∀ x,A0I iter X.env x=pure x:=by intro _;rfl):PS X (.For tg iter body [] pos) (Tx wi g tb):=by
 intro pins s σ H D I h;refine wpAny_For (thn (hi pins s σ H _ I h) λv s1 h1=>thn h1 λitv s2 h2=>?_) hs;obtain⟨it,fp,tn,J,H2,e,I2,T,st2,f2,W,⟨m0,w0⟩,turn⟩:=h2;subst e;have stat:∀{H':Hp},(∀ b∈fp,H' b=none)->∀ b∈fp,FpOk X pins H' b:=λhn b hb=>⟨hn b hb,(f2 b hb).2⟩
 refine codeAny_forLoop_any (λn s'=>∃ i σ' H',Inv X pins σ' H' s'/\tn i s'.heap/\(∀ b∈fp,H' b=none)/\W i n σ' H') ?_ m0 ⟨0,σ,H2,I2,st2,λb hb=>(f2 b hb).1,w0⟩;rintro n s3 ⟨i,σ3,H3,I3,st3,fr3,w3⟩;rcases turn i n σ3 H3 w3 with⟨stop,qn⟩ | ⟨go,N,hN,step⟩
 ·refine A02 hp (thn (T.done X rfl rfl rfl hc i pins s3 σ3 H3 X.xe I3 (stat fr3) st3 stop) λr s4 ⟨hr,I4⟩=>?_);subst hr;exact A0k ⟨σ3,H3,I4,qn⟩
 ·refine A02 hp (thn (T.item X rfl rfl rfl hc i pins s3 σ3 H3 X.xe I3 (stat fr3) st3 go) λr s4 ⟨u,hr,h4⟩=>?_);subst hr;refine A02 hp (thn h4 λ_ s5 ⟨x,H5,I5,r5,y5,st5,fr5⟩=>?_);have I5':=I5.pinned (stat fr5) (T.obj _ _ st5);refine A02 hp (thn (hg _ s5 σ3 H5 x u _ I5' r5 (step x H5 y5)) λ_ s6 ⟨σ6,H6,I6,q6⟩=>?_);refine A02 hp (thn (hb _ s6 σ6 H6 _ I6 q6) λf s7 q7=>?_)
  have again:∀{σ7:St} {H7:Hp},Inv X (pins++Br fp s5.heap) σ7 H7 s7->N σ7 H7->∃ m,m<n/\∃ i σ' H',Inv X pins σ' H' s7/\tn i s7.heap/\(∀ b∈fp,H' b=none)/\W i m σ' H':=λ{σ7 H7} I7 n7=>by
   obtain⟨m',hm,w7⟩:=hN σ7 H7 n7;refine⟨m',hm,i+1,σ7,H7,I7.unpinned,T.keep _ _ _ st5 λb hb o e=>(I7.pin (b,o) (WH _ (WH _ (B8 hb e)))).1,λb hb=>?_,w7⟩;obtain⟨o,e,d⟩:=T.obj _ _ st5 b hb;exact(I7.pin (b,o) (WH _ (WH _ (B8 hb e)))).2.1
  cases f with
  | next=>obtain⟨σ7,H7,I7,n7⟩:=q7;exact again I7 n7
  | cont=>obtain⟨σ7,H7,I7,n7⟩:=q7;exact again I7 n7
  | brk=>obtain⟨σ7,H7,I7,q7⟩:=q7;exact⟨σ7,H7,I7.unpinned,q7⟩
  | ret v=>obtain⟨x7,σ7,H7,I7,r7,q7⟩:=q7;exact⟨x7,σ7,H7,I7.unpinned,r7,q7⟩
end
noncomputable abbrev R2:=V->V->Hp->VK->Prop
noncomputable def OpR(X:Cx)(f:ZW->ZW->Sem ZW)(r:R2):Prop:=
 ∀(pins:List (ZY×Obj)) (s:ZX) (σ:St) (H:Hp) (x y:V) (v u:ZW) (Q:VK),Inv X pins σ H s->RelV x v->RelV y u->r x y H Q->
  Zb (Zc X.prog X.w) X.A (f v u) (EP X pins σ Q) X.xe s
noncomputable def UnR(X:Cx)(f:ZW->Sem ZW)(r:V->Hp->VK->Prop):Prop:=
 ∀(pins:List (ZY×Obj)) (s:ZX) (σ:St) (H:Hp) (x:V) (v:ZW) (Q:VK),Inv X pins σ H s->RelV x v->r x H Q->
  Zb (Zc X.prog X.w) X.A (f v) (EP X pins σ Q) X.xe s
noncomputable def CallR(X:Cx)(f:ZW)(r:List V->Hp->VK->Prop):Prop:=
 ∀(pins:List (ZY×Obj)) (s:ZX) (σ:St) (H:Hp) (xs:List V) (us:List ZW) (Q:VK),Inv X pins σ H s->Vals xs us->r xs H Q->
  Zb (Zc X.prog X.w) X.A (call f us) (EP X pins σ Q) X.xe s
noncomputable def VP(X:Cx)(r:V->Hp->(Bool->Hp->Prop)->Prop):Prop:=
 ∀(pins:List (ZY×Obj)) (s:ZX) (σ:St) (H:Hp) (x:V) (v:ZW) (Q:Bool->Hp->Prop),Inv X pins σ H s->RelV x v->r x H Q->
  Zb (Zc X.prog X.w) X.A (truthy v) (TP X pins σ Q) X.xe s
noncomputable def tOp(r:R2)(ta tb:TE):TE:=λσ H Q=>ta σ H λx H1=>tb σ H1 λy H2=>r x y H2 Q
noncomputable def tUn(r:V->Hp->VK->Prop)(ta:TE):TE:=λσ H Q=>ta σ H λx H1=>r x H1 Q
noncomputable def rI(C:Int->Int->Prop)(g:Int->Int->V):R2:=λx y H Q=>∃ i j,x = .int i/\y = .int j/\C i j/\Q (g i j) H
noncomputable def rI0(g:Int->Int->V):R2:=λx y H Q=>∃ i j,x = .int i/\y = .int j/\Q (g i j) H
noncomputable def rU(g:Int->V):V->Hp->VK->Prop:=λx H Q=>∃ i,x = .int i/\Q (g i) H
section
variable{X:Cx}{a b c:Expr}{ta tb tc:TE}{pos:Pos}
theorem RC(ha:PE X a ta)(hb:PE X b tb){pins:List (ZY×Obj)}{s:ZX}{σ:St}{H:Hp}{R:V->V->Hp->Prop}(I:Inv X pins σ H s)
 (h:ta σ H λx H1=>tb σ H1 λy H2=>R x y H2) {Q:ZW->ZX->Prop} {f:ZW->ZW->Sem ZW}
 (hf:∀ v u s2 x y H2,Inv X pins σ H2 s2->RelV x v->RelV y u->R x y H2->Zb (Zc X.prog X.w) X.A (f v u) Q X.xe s2):
 Zb (Zc X.prog X.w) X.A (eval a X.env) (λv s₁=>Zb (Zc X.prog X.w) X.A (eval b X.env) (λu s₂=>Zb (Zc X.prog X.w) X.A (f v u) Q X.xe s₂) X.xe s₁) X.xe s:=by
 refine thn (ha pins s σ H _ I h) λv s1 ⟨x,H1,I1,r1,q1⟩=>?_;refine thn (hb pins s1 σ H1 _ I1 q1) λu s2 ⟨y,H2,I2,r2,q2⟩=>?_;exact hf v u s2 x y H2 I2 r1 r2 q2
theorem Ty{op:A0R}{r:R2}(ho:OpR X (A0i op) r)(ha:PE X a ta)(hb:PE X b tb):PE X (.BinOp a op b pos) (tOp r ta tb):=by
 intro pins s σ H Q I h;exact wpAny_BinOp (RC ha hb I h λv u s2 x y H2 I2 rx ry q=>ho pins s2 σ H2 x y v u Q I2 rx ry q)
theorem Tz{op:UnaryOp}{r:V->Hp->VK->Prop}(ho:UnR X (unaryOp op) r)(ha:PE X a ta):PE X (.UnaryOp op a pos) (tUn r ta):=by
 intro pins s σ H Q I h;exact UnaryOp_ (thn (ha pins s σ H _ I h) λv s1 ⟨x,H1,I1,r1,q1⟩=>ho pins s1 σ H1 x v Q I1 r1 q1)
theorem opI{f:ZW->ZW->Sem ZW}{C:Int->Int->Prop}{g:Int->Int->Int}
 (rule:∀(i j:Int) (t u:Tok) (s:ZX) (Q:ZW->ZX->Prop) (E:ZW->ZX->Prop),C i j->Q (.int (g i j) s.toks) {s with toks:=s.toks+1}->Zb (Zc X.prog X.w) X.A (f (.int i t) (.int j u)) Q E s):
 OpR X f (rI C λi j => .int (g i j)):=by
 intro pins s σ H x y v u Q I rx ry h;obtain⟨i,j,rfl,rfl,hc,q⟩:=h;obtain⟨t,rfl⟩:=rx;obtain⟨t',rfl⟩:=ry;exact rule i j t t' s _ _ hc ⟨.int (g i j),H,I.tok _,⟨_,rfl⟩,q⟩
theorem U0{f:ZW->ZW->Sem ZW}{g:Int->Int->Int}
 (rule:∀(i j:Int) (t u:Tok) (s:ZX) (Q:ZW->ZX->Prop) (E:ZW->ZX->Prop),Q (.int (g i j) s.toks) {s with toks:=s.toks+1}->Zb (Zc X.prog X.w) X.A (f (.int i t) (.int j u)) Q E s):
 OpR X f (rI0 λi j => .int (g i j)):=by
 intro pins s σ H x y v u Q I rx ry h;obtain⟨i,j,rfl,rfl,q⟩:=h;obtain⟨t,rfl⟩:=rx;obtain⟨t',rfl⟩:=ry;exact rule i j t t' s _ _ ⟨.int (g i j),H,I.tok _,⟨_,rfl⟩,q⟩
theorem OD{f:ZW->ZW->Sem ZW}{g:Int->Int->Bool}
 (rule:∀(i j:Int) (t u:Tok) (s:ZX) (Q:ZW->ZX->Prop) (E:ZW->ZX->Prop),Q (.bool (g i j)) s->Zb (Zc X.prog X.w) X.A (f (.int i t) (.int j u)) Q E s):
 OpR X f (rI0 λi j => .bl (g i j)):=by
 intro pins s σ H x y v u Q I rx ry h;obtain⟨i,j,rfl,rfl,q⟩:=h;obtain⟨t,rfl⟩:=rx;obtain⟨t',rfl⟩:=ry;exact rule i j t t' s _ _ ⟨.bl (g i j),H,I,rfl,q⟩
noncomputable def U1(i j:Int):Prop:=0<j/\j<1073741824
noncomputable def U2(i j:Int):Prop:=0<=j/\j<=1000000/\i.natAbs<2 ^ 64
noncomputable def CMul(i j:Int):Prop:=(-(2 ^ 64)<i/\i<2 ^ 64)\/(-(2 ^ 64)<j/\j<2 ^ 64)
theorem CMul.ok{i j:Int}(h:CMul i j):IntMulOk i j:=by
 rcases h with⟨h1,h2⟩ | ⟨h1,h2⟩
 ·exact .of_left (intBits_le_64 h1 h2)
 ·exact .of_right (intBits_le_64 h1 h2)
theorem op_add:OpR X (A0i .Add) (rI0 λi j => .int (i+j)):=U0 λ_ _ _ _ _ _ _ q=>add_int q
theorem RD:OpR X (A0i .Sub) (rI0 λi j => .int (i - j)):=U0 λ_ _ _ _ _ _ _ q=>sub_int q
theorem op_mul:OpR X (A0i .Mult) (rI CMul λi j => .int (i * j)):=opI λ_ _ _ _ _ _ _ hc q=>mul_int q hc.ok
theorem OE:OpR X (A0i .FloorDiv) (rI U1 λi j => .int (i / j)):=opI λi j _ _ _ _ _ hc q=>by
 have h1:(0:Int)<j:=hc.1;have h2:j<1073741824:=hc.2;exact floordiv_int (by omega) (by rw[Int.fdiv_eq_ediv_of_nonneg i (by omega)];exact q) (.inl (PyProof.noPylong_small (by omega)))
theorem RE:OpR X (A0i .Mod) (rI (λ_ j=>0<j) λi j => .int (i % j)):=opI λi j _ _ _ _ _ hc q=>by
 have h1:(0:Int)<j:=hc;exact mod_int' (by omega) (by rw[Int.fmod_eq_emod_of_nonneg i (by omega)];exact q)
theorem RF:OpR X (A0i .Pow) (rI U2 λi j => .int (i ^ j.toNat)):=opI λ_ _ _ _ _ _ _ hc q=>pow_int_small hc.1 hc.2.1 hc.2.2 q
theorem unI{f:ZW->Sem ZW}{g:Int->Int}
 (rule:∀(i:Int) (t:Tok) (s:ZX) (Q:ZW->ZX->Prop) (E:ZW->ZX->Prop),Q (.int (g i) s.toks) {s with toks:=s.toks+1}->Zb (Zc X.prog X.w) X.A (f (.int i t)) Q E s):
 UnR X f (rU λi => .int (g i)):=by
 intro pins s σ H x v Q I rx h;obtain⟨i,rfl,q⟩:=h;obtain⟨t,rfl⟩:=rx;exact rule i t s _ _ ⟨.int (g i),H,I.tok _,⟨_,rfl⟩,q⟩
theorem RG:UnR X (unaryOp .USub) (rU λi => .int (-i)):=unI λ_ _ _ _ _ q=>neg_int q
end
noncomputable def RH:V->V->Bool
 | .non,.non=>true | .non,.int _=>true | .int _,.non=>true | .non,.bl _=>true | .bl _,.non=>true | .non,.str _=>true | .str _,.non=>true
 | .int _,.int _=>true | .bl _,.bl _=>true | .str _,.str _=>true | .byt _,.byt _=>true
 | .int _,.str _=>true | .str _,.int _=>true | .bl _,.str _=>true | .str _,.bl _=>true
 | _,_=>false
noncomputable def rEq:R2:=λx y H Q=>RH x y=true/\Q (.bl (decide (x=y))) H
noncomputable def rNe:R2:=λx y H Q=>RH x y=true/\Q (.bl (!decide (x=y))) H
theorem IE{i j:Int}:decide (V.int i=V.int j)=(i == j):=by
 rw[Wa];simp
theorem LC{i j:Bool}:decide (V.bl i=V.bl j)=(i == j):=by
 rw[Wa];simp
theorem IF{i j:Str}:decide (V.str i=V.str j)=(i == j):=by
 rw[Wa];simp
theorem IG{i j:Array UInt8}:decide (V.byt i=V.byt j)=(i.toList == j.toList):=by
 rw[Wa];cases i;cases j;simp
section
variable{X:Cx}{a b c:Expr}{ta tb tc:TE}{pos:Pos}
theorem j5{pins:List (ZY×Obj)}{σ:St}{H:Hp}{s:ZX}{Q:VK}{k k':Bool}(I:Inv X pins σ H s)(q:Q (.bl k) H)(e:k=k'):EP X pins σ Q (.bool k') s:=by
 subst e;exact⟨.bl k,H,I,rfl,q⟩
theorem op_eq:OpR X (Zl .Eq) rEq:=by
 intro pins s σ H x y v u Q I rx ry h;obtain⟨hs,q⟩:=h;cases x with
 | non=>
   cases rx;cases y with
   | non=>cases ry;exact PySem.EqNone.eq_none_none (j5 I q (by simp))
   | bl j=>cases ry;exact PySem.EqNone.eq_none_bool (j5 I q (by simp))
   | int j=>obtain⟨t',rfl⟩:=ry;exact PySem.EqNone.eq_none_int (j5 I q (by simp))
   | str j=>obtain⟨t',rfl⟩:=ry;exact PySem.EqNone.eq_none_str (j5 I q (by simp))
   | _=>exact absurd (show false=true from hs) Vz
 | bl i=>
   cases rx;cases y with
   | non=>cases ry;exact PySem.EqNone.eq_bool_none (j5 I q (by simp))
   | bl j=>cases ry;exact eq_bool (j5 I q LC)
   | str j=>obtain⟨t',rfl⟩:=ry;exact PySem.EqMixed.eq_bool_str (j5 I q (by simp))
   | _=>exact absurd (show false=true from hs) Vz
 | int i=>
   obtain⟨t,rfl⟩:=rx;cases y with
   | non=>cases ry;exact PySem.EqNone.eq_int_none (j5 I q (by simp))
   | int j=>obtain⟨t',rfl⟩:=ry;exact eq_int (j5 I q IE)
   | str j=>obtain⟨t',rfl⟩:=ry;exact PySem.EqMixed.eq_int_str (j5 I q (by simp))
   | _=>exact absurd (show false=true from hs) Vz
 | str i=>
   obtain⟨t,rfl⟩:=rx;cases y with
   | non=>cases ry;exact PySem.EqNone.eq_str_none (j5 I q (by simp))
   | bl j=>cases ry;exact PySem.EqMixed.eq_str_bool (j5 I q (by simp))
   | int j=>obtain⟨t',rfl⟩:=ry;exact PySem.EqMixed.eq_str_int (j5 I q (by simp))
   | str j=>obtain⟨t',rfl⟩:=ry;exact eq_str (j5 I q IF)
   | _=>exact absurd (show false=true from hs) Vz
 | byt i=>
   obtain⟨t,rfl⟩:=rx;cases y with
   | byt j=>obtain⟨t',rfl⟩:=ry;exact PySem.W.eq_bytes (j5 I q IG)
   | _=>exact absurd (show false=true from hs) Vz
 | _=>cases y<;>exact absurd (show false=true from hs) Vz
theorem op_ne:OpR X (Zl .NotEq) rNe:=by
 intro pins s σ H x y v u Q I rx ry h;obtain⟨hs,q⟩:=h;cases x with
 | non=>
   cases rx;cases y with
   | non=>cases ry;exact PySem.EqNone.ne_none_none (j5 I q (by simp))
   | bl j=>cases ry;exact PySem.EqNone.ne_none_bool (j5 I q (by simp))
   | int j=>obtain⟨t',rfl⟩:=ry;exact PySem.EqNone.ne_none_int (j5 I q (by simp))
   | str j=>obtain⟨t',rfl⟩:=ry;exact PySem.EqNone.ne_none_str (j5 I q (by simp))
   | _=>exact absurd (show false=true from hs) Vz
 | bl i=>
   cases rx;cases y with
   | non=>cases ry;exact PySem.EqNone.ne_bool_none (j5 I q (by simp))
   | bl j=>cases ry;exact ne_bool (j5 I q (congrArg not LC))
   | str j=>obtain⟨t',rfl⟩:=ry;exact PySem.EqMixed.ne_bool_str (j5 I q (by simp))
   | _=>exact absurd (show false=true from hs) Vz
 | int i=>
   obtain⟨t,rfl⟩:=rx;cases y with
   | non=>cases ry;exact PySem.EqNone.ne_int_none (j5 I q (by simp))
   | int j=>obtain⟨t',rfl⟩:=ry;exact ne_int (j5 I q (congrArg not IE))
   | str j=>obtain⟨t',rfl⟩:=ry;exact PySem.EqMixed.ne_int_str (j5 I q (by simp))
   | _=>exact absurd (show false=true from hs) Vz
 | str i=>
   obtain⟨t,rfl⟩:=rx;cases y with
   | non=>cases ry;exact PySem.EqNone.ne_str_none (j5 I q (by simp))
   | bl j=>cases ry;exact PySem.EqMixed.ne_str_bool (j5 I q (by simp))
   | int j=>obtain⟨t',rfl⟩:=ry;exact PySem.EqMixed.ne_str_int (j5 I q (by simp))
   | str j=>obtain⟨t',rfl⟩:=ry;exact ne_str (j5 I q (congrArg not IF))
   | _=>exact absurd (show false=true from hs) Vz
 | byt i=>
   obtain⟨t,rfl⟩:=rx;cases y with
   | byt j=>obtain⟨t',rfl⟩:=ry;exact PySem.W.ne_bytes (j5 I q (congrArg not IG))
   | _=>exact absurd (show false=true from hs) Vz
 | _=>cases y<;>exact absurd (show false=true from hs) Vz
theorem U3:OpR X (Zl .Lt) (rI0 λi j => .bl (decide (i<j))):=OD λ_ _ _ _ _ _ _ q=>lt_int q
theorem U4:OpR X (Zl .LtE) (rI0 λi j => .bl (decide (i<=j))):=OD λ_ _ _ _ _ _ _ q=>le_int q
theorem U5:OpR X (Zl .Gt) (rI0 λi j => .bl (decide (j<i))):=OD λ_ _ _ _ _ _ _ q=>gt_int q
theorem U6:OpR X (Zl .GtE) (rI0 λi j => .bl (decide (j<=i))):=OD λ_ _ _ _ _ _ _ q=>ge_int q
theorem RJ:OpR X (Zl .Is) (λx y H Q=>y = .non/\Q (.bl (decide (x = .non))) H):=by
 intro pins s σ H x y v u Q I rx ry h;obtain⟨rfl,q⟩:=h;cases ry;refine is_none_gen (j5 I q ?_)
 cases x<;>first
  | (cases rx;rfl)
  | (obtain⟨t,rfl⟩:=rx;rfl)
theorem op_notN:OpR X (Zl .IsNot) (λx y H Q=>y = .non/\Q (.bl (!decide (x = .non))) H):=by
 intro pins s σ H x y v u Q I rx ry h;obtain⟨rfl,q⟩:=h;cases ry;refine isnot_none_gen (j5 I q ?_)
 cases x<;>first
  | (cases rx;rfl)
  | (obtain⟨t,rfl⟩:=rx;rfl)
theorem OpR.or{f:ZW->ZW->Sem ZW}{r r':R2}(h:OpR X f r)(h':OpR X f r'):OpR X f (λx y H Q=>r x y H Q\/r' x y H Q):=by
 intro pins s σ H x y v u Q I rx ry q;rcases q with q | q
 ·exact h pins s σ H x y v u Q I rx ry q
 ·exact h' pins s σ H x y v u Q I rx ry q
theorem OF{op:CmpOp}{r:R2}(ho:OpR X (Zl op) r)(ha:PE X a ta)(hb:PE X b tb)(hm:A1i op b=false):PE X (.Compare a [op] [b] pos) (tOp r ta tb):=by
 intro pins s σ H Q I h;exact wpAny_Compare1 (RC ha hb I h λv u s2 x y H2 I2 rx ry q=>ho pins s2 σ H2 x y v u Q I2 rx ry q) hm
noncomputable def QC(t:TE):TT:=λσ H Q=>t σ H λx H'=>∃ k,x = .bl k/\Q k H'
theorem OG{op:CmpOp}{r:R2}(ho:OpR X (Zl op) r)(ha:PE X a ta)(hb:PE X b tb)(hm:A1i op b=false):PT X (.Compare a [op] [b] pos) (QC (tOp r ta tb)):=by
 intro pins s σ H Q I h
 refine wpAny_isTrue_Compare1 (thn (ha pins s σ H _ I h) λv s1 ⟨x,H1,I1,r1,q1⟩=>thn (hb pins s1 σ H1 _ I1 q1) λu s2 ⟨y,H2,I2,r2,q2⟩=>
  thn (ho pins s2 σ H2 x y v u _ I2 r1 r2 q2) λc s3 ⟨z,H3,I3,r3,k,e,q3⟩=>?_) hm
 subst e;cases r3;exact Zn ⟨H3,I3,q3⟩
noncomputable def Gn(r r':R2)(ta tb tc:TE):TE:=λσ H Q=>ta σ H λx H1=>tb σ H1 λy H2=>r x y H2 λz H3=>∃ k,z = .bl k/\
 (if k=true then tc σ H3 λw' H4=>r' y w' H4 Q else Q (.bl false) H3)
theorem LD{op op':CmpOp}{r r':R2}(ho:OpR X (Zl op) r)(ho':OpR X (Zl op') r')(ha:PE X a ta)(hb:PE X b tb)(hc:PE X c tc)
 (hm:A1Y [op,op'] [b,c]=false:=by with_unfolding_all rfl):PE X (.Compare a [op,op'] [b,c] pos) (Gn r r' ta tb tc):=by
 intro pins s σ H Q I h
 refine Compare_chain (thn (ha pins s σ H _ I h) λv s1 ⟨x,H1,I1,r1,q1⟩=>chain_link (thn (hb pins s1 σ H1 _ I1 q1) λu s2 ⟨y,H2,I2,r2,q2⟩=>
  thn (ho pins s2 σ H2 x y v u _ I2 r1 r2 q2) λd s3 ⟨z,H3,I3,r3,k,e,q3⟩=>?_)) hm
 subst e;cases r3;refine Zn ?_;cases k with
 | false=>exact ite_ff ⟨.bl false,H3,I3,rfl,q3⟩
 | true=>exact ite_tt (chain_last (thn (hc pins s3 σ H3 _ I3 q3) λw' s4 ⟨z',H4,I4,r4,q4⟩=>ho' pins s4 σ H4 y z' u w' Q I4 r2 r4 q4))
theorem LF{op op':CmpOp}{r r':R2}(ho:OpR X (Zl op) r)(ho':OpR X (Zl op') r')(ha:PE X a ta)(hb:PE X b tb)(hc:PE X c tc)
 (hm:A1Y [op,op'] [b,c]=false:=by with_unfolding_all rfl):PT X (.Compare a [op,op'] [b,c] pos) (QC (Gn r r' ta tb tc)):=by
 intro pins s σ H Q I h
 refine isTrue_chain (thn (ha pins s σ H _ I h) λv s1 ⟨x,H1,I1,r1,q1⟩=>test_link (thn (hb pins s1 σ H1 _ I1 q1) λu s2 ⟨y,H2,I2,r2,q2⟩=>
  thn (ho pins s2 σ H2 x y v u _ I2 r1 r2 q2) λd s3 ⟨z,H3,I3,r3,k,e,q3⟩=>?_)) hm
 subst e;cases r3;refine Zn ?_;cases k with
 | false=>
   obtain⟨k',e',q'⟩:=q3;cases e';exact ite_ff ⟨H3,I3,q'⟩
 | true=>
   refine ite_tt (test_last (thn (hc pins s3 σ H3 _ I3 q3) λw' s4 ⟨z',H4,I4,r4,q4⟩=>thn (ho' pins s4 σ H4 y z' u w' _ I4 r2 r4 q4) λd' s5 ⟨z2,H5,I5,r5,k2,e2,q5⟩=>?_));subst e2;cases r5;exact Zn ⟨H5,I5,q5⟩
noncomputable def OH(K:Vn)(x:V)(H:Hp)(k:Bool):Prop:=
 match x with
 | .non=>k=false
 | .bl b=>k=b
 | .int i=>k=(i != 0)
 | .str y=>y.length<=Ze/\k=((y.length:Int) != 0)
 | .byt y=>y.size<=Ze/\k=((y.size:Int) != 0)
 | .ref p=>(∃ xs,SqL K H p xs/\k=!xs.isEmpty)\/(∃ xs,SqT K H p xs/\k=!xs.isEmpty)\/∃ kvs,H p=some (.dK kvs)/\k=!kvs.isEmpty
 | _=>False
theorem Gp{κ:Type}{kvs:List (κ×V)}{vs:List (κ×ZW)}(r:KV kvs vs):(!vs.isEmpty)=!kvs.isEmpty:=by
 cases r<;>rfl
theorem D1{xs:List V}{its:List ZW}(r:Vals xs its):(!its.toArray.isEmpty)=!xs.isEmpty:=by
 cases r<;>simp
theorem Bs:(Ze:Nat)<2 ^ 63:=by rw[A0J];decide
theorem RK:VP X (λx H Q=>∃ k,OH X.K x H k/\Q k H):=by
 intro pins s σ H x v Q I rx h;obtain⟨k,e,q⟩:=h;have hl:=Bs;have hs:Ze=16777216:=A0J;cases x with
 | non=>
   cases rx;have e':k=false:=e;subst e';exact truthy_none ⟨H,I,q⟩
 | bl b=>
   cases rx;have e':k=b:=e;subst e';exact Zn ⟨H,I,q⟩
 | int i=>
   obtain⟨t,rfl⟩:=rx;have e':k=(i != 0):=e;subst e';exact PySem.P.truthy_int ⟨H,I,q⟩
 | str y=>
   obtain⟨t,rfl⟩:=rx;obtain⟨hy,e'⟩:y.length<=Ze/\k=((y.length:Int) != 0):=e;subst e';exact PySem.P.truthy_str (by omega) ⟨H,I.tok _,q⟩
 | byt y=>
   obtain⟨t,rfl⟩:=rx;obtain⟨hy,e'⟩:y.size<=Ze/\k=((y.size:Int) != 0):=e;subst e';exact PySem.W.truthy_bytes (by omega) ⟨H,I.tok _,q⟩
 | ref p=>
   cases rx;have e':(∃ xs,SqL X.K H p xs/\k=!xs.isEmpty)\/(∃ xs,SqT X.K H p xs/\k=!xs.isEmpty)\/∃ kvs,H p=some (.dK kvs)/\k=!kvs.isEmpty:=e;rcases e' with⟨xs,hx,e'⟩ | ⟨xs,hx,e'⟩ | ⟨kvs,hx,e'⟩
   ·subst e';obtain⟨its,r,pl,hz⟩:=I.list hx;have hlen:=r.length;exact wpAny_truthy_list pl.isList (by simp only[Vu];omega) ⟨H,I.tok _,by rw[D1 r];exact q⟩
   ·subst e';obtain⟨its,r,pl,hz⟩:=I.tuple hx;have hlen:=r.length;exact truthy_tuple pl (by simp only[Vu];omega) ⟨H,I.tok _,by rw[D1 r];exact q⟩
   ·subst e';obtain⟨hz,hS,vs,r,m⟩:kvs.length<=Ze/\(p == A05)=false/\∃ vs,KV kvs vs/\s.heap.DictOf (v0 X.prog X.w) p vs:=I.hok p _ hx;have hlen:kvs.length=vs.length:=Paired.length r;exact wpAny_truthy_dict hS m (by omega) ⟨H,I.tok _,by rw[Gp r];exact q⟩
 | _=>exact(show False from e).elim
theorem LG(ha:PE X a ta)(he:∀ whole,isTrue a X.env whole=(do let v <- whole;standAt a.pos;holding [v] (truthy v))):
 PT X a (λσ H Q=>ta σ H λx H'=>∃ k,OH X.K x H' k/\Q k H'):=by
 intro pins s σ H Q I h;exact isTrue_plain (thn (ha pins s σ H _ I h) λv s1 ⟨x,H1,I1,r1,q1⟩=>RK pins s1 σ H1 x v Q I1 r1 q1) (he _)
theorem As{x:V}{us:List ZW}(r:Vals [x] us):∃ u,us=[u]/\RelV x u:=by
 cases r with
 | cons r1 r2=>cases r2;exact⟨_,rfl,r1⟩
theorem QD{x y:V}{us:List ZW}(r:Vals [x,y] us):∃ u w',us=[u,w']/\RelV x u/\RelV y w':=by
 cases r with
 | cons r1 r2=>
   cases r2 with
   | cons r3 r4=>cases r4;exact⟨_,_,rfl,r1,r3⟩
theorem LH:CallR X (.builtin "abs") (λxs H Q=>∃ i,xs=[.int i]/\Q (.int (if i<0 then -i else i)) H):=by
 intro pins s σ H xs us Q I r h;obtain⟨i,rfl,q⟩:=h;obtain⟨u,rfl,t,rfl⟩:=As r;exact call_abs_int λu tk=>⟨.int (if i<0 then -i else i),H,I.tok _,⟨_,rfl⟩,q⟩
theorem JR(hc:X.calm=true):CallR X (.builtin "max") (λxs H Q=>∃ i j,xs=[.int i,.int j]/\Q (.int (if j>i then j else i)) H):=by
 intro pins s σ H xs us Q I r h;obtain⟨i,j,rfl,q⟩:=h;obtain⟨u,w',rfl,⟨t,rfl⟩,⟨t',rfl⟩⟩:=QD r;refine max_two_ints (I.ok.hd hc) λh' tk k=>⟨_,H,I.kept k,?_,q⟩
 by_cases hj:j>i
 ·rw[iP hj,iP hj];exact⟨_,rfl⟩
 ·rw[iG hj,iG hj];exact⟨_,rfl⟩
theorem JS(hc:X.calm=true):CallR X (.builtin "min") (λxs H Q=>∃ i j,xs=[.int i,.int j]/\Q (.int (if j<i then j else i)) H):=by
 intro pins s σ H xs us Q I r h;obtain⟨i,j,rfl,q⟩:=h;obtain⟨u,w',rfl,⟨t,rfl⟩,⟨t',rfl⟩⟩:=QD r;refine min_two_ints (I.ok.hd hc) λh' tk k=>⟨_,H,I.kept k,?_,q⟩
 by_cases hj:j<i
 ·rw[iP hj,iP hj];exact⟨_,rfl⟩
 ·rw[iG hj,iG hj];exact⟨_,rfl⟩
theorem JT:CallR X (.type "int") (λxs H Q=>(∃ i,xs=[.int i]/\Q (.int i) H)\/∃ k,xs=[.bl k]/\Q (.int (if k then 1 else 0)) H):=by
 intro pins s σ H xs us Q I r h;rcases h with⟨i,rfl,q⟩ | ⟨k,rfl,q⟩
 ·obtain⟨u,rfl,t,rfl⟩:=As r;exact call_int_int ⟨.int i,H,I,⟨_,rfl⟩,q⟩
 ·obtain⟨u,rfl,r1⟩:=As r;cases r1;exact call_int_bool ⟨.int (if k then 1 else 0),H,I.tok _,⟨_,rfl⟩,q⟩
end
structure ObjM(h:Heap)(x dx C:ZY)(mA:Str->Option ZW):Prop where
 obj:h.get? x=some (PySem.W.instObj C dx)
 ns:h.Ns1 dx mA
 ne:dx≠x
theorem JU{h:Heap}{dx:ZY}{mA:Str->Option ZW}(n:h.Ns1 dx mA):∃ od,h.get? dx=some od/\∀ name,PySem.W.lookIn name od=some (mA name):=by
 obtain⟨o,es,ep,ho,hd,hk,_,hm⟩:=n;refine⟨o,ho,λname=>?_⟩;have e:=hm name;unfold nsFind findBy at e;rw[<-Array.find?_toList]at e;unfold PySem.W.lookIn;rw[hd];dsimp only;split
 ·rename_i y q;rw[q]at e;exact congrArg some e
 ·rename_i q;rw[q]at e
  have a:es.toList.any (·.refKey)=false:=by
   rw[List.any_eq_false];intro y hy;obtain⟨z,t,hkey⟩:=hk y (Array.mem_toList_iff.mp hy);simp[DictEntry.refKey,hkey]
  have a':¬ es.toList.any (·.refKey)=true:=by rw[a];exact Vz
  rw[iG a'];exact congrArg some e
theorem ObjM.look{h:Heap}{x dx C:ZY}{mA:Str->Option ZW}(I:ObjM h x dx C mA):∃ od,PySem.W.InstAt h x (PySem.W.instObj C dx) C (some od)/\∀ name,PySem.W.lookIn name od=some (mA name):=
 let ⟨od,ho,hl⟩:=JU I.ns
 ⟨od,⟨I.obj,rfl,rfl,ho⟩,hl⟩
section
variable{P:Zd}{w:Zf}{H H':Hp}{h h':Heap}{a C dx:ZY}{fs fs':List (Str×V)}
theorem IH(hok:HOk P w H h)(e:H a=some (.ins C dx fs)):∃ mA,ObjM h a dx C mA/\(∀ f,RelO (fs.lookup f) (mA f))/\PySem.Within mA (fs.map (·.1))/\fs.length<=1000/\H dx=some (.own a):=by
 obtain⟨d,z,ne,ob,mA,n,r,q⟩:=(show ObjOk P w H h a (.ins C dx fs) from hok a _ e)
 exact⟨mA,⟨ob,n,ne⟩,r,q,z,d⟩
end
structure Cls(K:Vn)(C:ZY):Prop where
 pg:PySem.W.plainGet K C Str.empty=true
 hd:PySem.W.hasDictIn K C=true
 po:PySem.W.plainOver K C=true
 sa:PySem.W.findIn K (.ref C) "__setattr__"=some (some (.builtin "object.__setattr__"))
theorem Cls.get{K:Vn}{C:ZY}(c:Cls K C)(f:Str):PySem.W.plainGet K C f=true:=c.pg
section
variable{X:Cx}{pins:List (ZY×Obj)}{σ:St}{H:Hp}{s:ZX}{A:Zj}{E:ZW->ZX->Prop}{Q:ZW->ZX->Prop}{c:ZW}{b:Bool}
inductive TyOf(K:Vn)(H:Hp):V->ZW->Prop where
 | non:TyOf K H .non (.type "NoneType")
 | bl (x:Bool):TyOf K H (.bl x) (.type "bool")
 | int (i:Int):TyOf K H (.int i) (.type "int")
 | str (x:Str):TyOf K H (.str x) (.type "str")
 | flt (x:UInt64):TyOf K H (.flt x) (.type "float")
 | lst {a:ZY} {xs:List V} (e:H a=some (.lst xs)):TyOf K H (.ref a) (.type "list")
 | frz {a:ZY} {o:Obj} {xs:List V} (e:H a=some (.frz o (.lst xs))):TyOf K H (.ref a) (.type "list")
 | tup {a:ZY} {xs:List V} (e:H a=some (.tup xs)):TyOf K H (.ref a) (.type "tuple")
 | dK {a:ZY} {kvs:List (Key×V)} (e:H a=some (.dK kvs)):TyOf K H (.ref a) (.type "dict")
 | dT {a:ZY} {kvs:List (List Key×V)} (e:H a=some (.dT kvs)):TyOf K H (.ref a) (.type "dict")
 | ins {a C dx:ZY} {fs:List (Str×V)} (e:H a=some (.ins C dx fs)) (cl:Cls K C) (ha:PySem.W.findIn K (.ref C) "__class__"=some (some (.builtin "object.__class__")))
    (hn:PySem.W.specialIn K (.builtin "object.__class__") "__get__"=some (some (.builtin "getset_descriptor.__get__"))) (htk:PySem.W.takesIn K (.builtin "object.__class__")=some true)
    (hm:PySem.W.mroIn K C (.type "object")=some true):TyOf K H (.ref a) (.ref C)
theorem E4{x:V}{u t:ZW}(I:Inv X pins σ H s)(rx:RelV x u)(ty:TyOf X.K H x t)(e:PySem.W.kitOne X.K t c=some b)(h:∀ tk,Q (.bool b) {s with toks:=tk}):
 Zb (Zc X.prog X.w) A (call (.builtin "isinstance") [u,c]) Q E s:=by
 cases ty with
 | non=>cases(show u=Value.none from rx);exact PySem.W.kia_one PySem.W.kitx_none I.kIn True.intro e (λz=>nomatch z) h
 | bl y=>cases(show u=Value.bool y from rx);exact PySem.W.kia_one PySem.W.kitx_bool I.kIn True.intro e (λz=>nomatch z) h
 | int i=>obtain⟨t,q⟩:=(show ∃ t,u=Value.int i t from rx);cases q;exact PySem.W.kia_one PySem.W.kitx_int I.kIn True.intro e (λz=>nomatch z) h
 | str y=>obtain⟨t,q⟩:=(show ∃ t,u=Value.str y t from rx);cases q;exact PySem.W.kia_one PySem.W.kitx_str I.kIn True.intro e (λz=>nomatch z) h
 | flt y=>obtain⟨t,q⟩:=(show ∃ t,u=Value.float y t from rx);cases q;exact PySem.W.kia_one PySem.W.kitx_float I.kIn True.intro e (λz=>nomatch z) h
 | @lst a xs ea=>
   cases(show u=Value.ref a from rx);obtain⟨_,_,n,_,h1⟩:=(show ObjOk X.prog X.w H s.heap a (.lst xs) from I.hok a _ ea)
   exact PySem.W.kia_one PySem.W.kitx_list I.kIn ⟨_,h1,rfl⟩ e (λz=>nomatch z) h
 | @frz a ob xs ea=>
   cases(show u=Value.ref a from rx);obtain⟨_,_,_,n,_,h1⟩:=(show ObjOk X.prog X.w H s.heap a (.frz ob (.lst xs)) from I.hok a _ ea)
   exact PySem.W.kia_one PySem.W.kitx_list I.kIn ⟨_,h1,rfl⟩ e (λz=>nomatch z) h
 | @tup a xs ea=>
   cases(show u=Value.ref a from rx);obtain⟨_,_,_,p⟩:=(show ObjOk X.prog X.w H s.heap a (.tup xs) from I.hok a _ ea)
   obtain⟨o,h1,h2,_⟩:=p;exact PySem.W.kia_one PySem.W.kitx_tuple I.kIn ⟨o,h1,h2⟩ e (λz=>nomatch z) h
 | @dK a kvs ea=>
   cases(show u=Value.ref a from rx);obtain⟨_,_,vs,_,p⟩:=(show ObjOk X.prog X.w H s.heap a (.dK kvs) from I.hok a _ ea)
   obtain⟨o,es,ep,h1,h2,_⟩:=p;exact PySem.W.kia_one PySem.W.kitx_dict I.kIn ⟨o,h1,h2.1⟩ e (λz=>nomatch z) h
 | @dT a kvs ea=>
   cases(show u=Value.ref a from rx);obtain⟨_,_,xs,_,o,es,ep,h1,h2,_⟩:=(show ObjOk X.prog X.w H s.heap a (.dT kvs) from I.hok a _ ea)
   exact PySem.W.kia_one PySem.W.kitx_dict I.kIn ⟨o,h1,h2.1⟩ e (λz=>nomatch z) h
 | @ins a C dx fs ea cl ha hn htk hm=>
   cases(show u=Value.ref a from rx);obtain⟨mA,O,_⟩:=IH I.hok ea;obtain⟨od,J,_⟩:=O.look;exact PySem.W.kia_one (PySem.W.kitx_own (cl.get _) cl.hd ha hn htk hm) I.kIn J e (λz=>nomatch z) h
end
structure Room(k:Nat)(A:Zj):Prop where
 hd:A.handled=none
 dp:A.depth+3 * k+5<A0c
 un:A.units+16 * k+200<cLine
 gd:A.guards=some []
theorem Room.deeper{k:Nat}{A:Zj}(r:Room (k+1) A)(env:Env):Room k (A.deeper env):=
 ⟨r.hd,by have:=r.dp;show A.depth+1+3 * k+5<_;omega,by have:=r.un;show A.units+3+16 * k+200<_;omega,r.gd⟩
theorem Room.depth{k:Nat}{A:Zj}(r:Room k A):A.depth<A0c:=by have:=r.dp;omega
noncomputable def RL:TA:=λ_ H Q=>Q [] H
noncomputable def FQ(ta:TE)(tr:TA):TA:=λσ H Q=>ta σ H λx H1=>tr σ H1 λxs H2=>Q (x::xs) H2
section
variable{X:Cx}{e:Expr}{es:List Expr}{te:TE}{t:TA}{pos:Pos}
theorem A6:PA X [] RL:=λ_ _ _ _ H Q I h=>Calls.spliced_nil ⟨[],H,I,.nil,h⟩
theorem m7(ha:PE X e te)(hr:PA X es t)(hs:Zg (e::es) X.env=(false,eval e X.env)::Zg es X.env:=by rfl):PA X (e::es) (FQ te t):=by
 intro pos pins s σ H Q I h;rw[hs];show Zb _ _ (spliced ((false,eval e X.env)::backTo pos (Zg es X.env))) _ _ s;refine Calls.spliced_cons (thn (ha pins s σ H _ I h) λu s1 ⟨x,H1,I1,r1,q1⟩=>?_);exact thn (hr pos pins s1 σ H1 _ I1 q1) λus s2 ⟨xs,H2,I2,r2,q2⟩=>⟨x::xs,H2,I2,.cons r1 r2,q2⟩
noncomputable def U7(t:TA):TE:=λσ H Q=>t σ H λxs H1=>xs.length<=Ze/\∀ p,H1 p=none->Q (.ref p) (upd H1 p (.tup xs))
noncomputable def U8(t:TA):TE:=λσ H Q=>t σ H λxs H1=>xs.length<=Ze/\∀ p,H1 p=none->Q (.ref p) (upd H1 p (.lst xs))
theorem RM{x1}(h:PA X es t):PE X (.Tuple es x1 pos) (U7 t):=by
 intro pins s σ H Q I hq;refine wpAny_Tuple_spliced (thn (h pos pins s σ H _ I hq) λus s1 ⟨xs,H1,I1,r,z,q⟩=>⟨by rw[<-r.length];exact z,?_⟩);have hf:H1 s1.heap.objs.size=none:=I1.hok.fresh (W0 _);refine⟨.ref s1.heap.objs.size,upd H1 s1.heap.objs.size (.tup xs),I1.laid (t':=s1.toks) (λb u e=>Vr _ e) (W0 _) ?_,rfl,q _ hf⟩;exact⟨z,us,r,⟨_,W2 _ rfl,rfl,_,rfl⟩⟩
theorem RN(h:PA X es t):PE X (.List es pos) (U8 t):=by
 intro pins s σ H Q I hq;refine wpAny_List_spliced (thn (h pos pins s σ H _ I hq) λus s1 ⟨xs,H1,I1,r,z,q⟩=>⟨by rw[<-r.length];exact z,?_⟩);have hf:H1 s1.heap.objs.size=none:=I1.hok.fresh (W0 _);refine⟨.ref s1.heap.objs.size,upd H1 s1.heap.objs.size (.lst xs),I1.laid (t':=s1.toks) (λb u e=>Vr _ e) (W0 _) ?_,rfl,q _ hf⟩;exact⟨z,us,0,r,W2 _ rfl⟩
end
noncomputable abbrev Sp:=List V->Hp->VK->XK->Prop
noncomputable abbrev CXT:=List Env->Hp->ZX->XK->ZW->ZX->Prop
structure Env0(P:Zd)(w:Zf)(K:Vn)(mg:Str->Option ZW)(base:Heap)(A:Zj)(outer:List Env)(s:ZX)(H:Hp):Prop where
 frames:A.frames=some outer
 mod:Mod K mg base
 bs:∀ b o,base.get? b=some o->s.heap.get? b=some o/\H b=none
 bsz:base.objs.size<=s.heap.objs.size
 funs:s.heap.FunFrames base outer
 frf:∀ b∈frs outer,H b=none
 hok:HOk P w H s.heap
 bare:AllBare s.gens
noncomputable def CE(outer:List Env)(P:Zd)(w:Zf)(H:Hp)(s:ZX)(Q:VK)(u:ZW)(s':ZX):Prop:=
 ∃ v H',s'.os=s.os/\AllBare s'.gens/\Un (frs outer) [] H H' s.heap s'.heap/\HOk P w H' s'.heap/\RelV v u/\Q v H'
noncomputable def CR(CX:CXT)(outer:List Env)(P:Zd)(w:Zf)(H:Hp)(s:ZX)(Q:VK)(E:XK)(r:Result)(s':ZX):Prop:=
 match r with
 | .ok (.ret u)=>CE outer P w H s Q u s'
 | .ok _=>False
 | .error e=>CX outer H s E e s'
structure FnOk(P:Zd)(w:Zf)(K:Vn)(mg:Str->Option ZW)(base:Heap)(CX:CXT)(k:Nat)(f:ZY)(fd:A00)(ps:List Str)(sp:Sp):Prop where
 len:∀ vs H Q E,sp vs H Q E->vs.length=ps.length
 run:∀(A:Zj) (outer:List Env) (s:ZX) (H:Hp) (args:Args) (us:List ZW) (vs:List V) (Q:VK) (E:XK),Room k A->Env0 P w K mg base A outer s H->BindsTo s fd args (ps.zip us)->Vals vs us->sp vs H Q E->
  codeAny (Zc P w) A (.call (.ref f) args) (CR CX outer P w H s Q E) s
theorem FnOk.imp{P:Zd}{w:Zf}{K:Vn}{mg:Str->Option ZW}{base:Heap}{CX:CXT}{k:Nat}{f:ZY}{fd:A00}{ps:List Str}{sp sp':Sp}(F:FnOk P w K mg base CX k f fd ps sp)
 (h:∀ vs H Q E,sp' vs H Q E->sp vs H Q E):FnOk P w K mg base CX k f fd ps sp':=
 ⟨λvs H Q E q=>F.len vs H Q E (h _ _ _ _ q),λA outer s H args us vs Q E hr he hb hv hs=>F.run A outer s H args us vs Q E hr he hb hv (h _ _ _ _ hs)⟩
section
variable{X:Cx}{pins:List (ZY×Obj)}{σ:St}{H:Hp}{s s':ZX}
theorem Inv.env0(I:Inv X pins σ H s):Env0 X.prog X.w X.K X.mg X.base X.A X.stack s H:=
 ⟨I.ok.frames,I.ok.mod,I.bs,Wd I.ok.bsz I.sz,I.stack,I.stkFree,I.hok,I.bare⟩
theorem Inv.after{Q:VK}{u:ZW}(I:Inv X pins σ H s)(h:CE X.stack X.prog X.w H s Q u s'):EP X pins σ Q u s':=by
 obtain⟨v,H',os,bare,un,hok,r,q⟩:=h;obtain⟨hh,g,d,t,os'⟩:=s';obtain rfl:os'=s.os:=os;exact⟨v,H',I.call (h':=hh) (g':=g) (d':=d) (t':=t) (ch:=[]) un hok bare (λb z=>absurd z (by simp)),r,q⟩
end
noncomputable def LJ(sp:Sp)(dvs:List V)(E:XK)(t:TA):TE:=λσ H Q=>t σ H λvs H1=>sp (vs++dvs) H1 Q E
noncomputable def Binds(K:Vn)(fd:A00)(ps:List Str)(ds:List ZW):Prop:=
 ∀(s:ZX) (us:List ZW),K.In s.heap->(us++ds).length=ps.length->BindsTo s fd ⟨us,[]⟩ (ps.zip (us++ds))
theorem Binds.all{K:Vn}{fd:A00}{ps:List Str}(h:∀ us:List ZW,us.length=ps.length->A0S fd ⟨us,[]⟩=pure (ps.zip us)):Binds K fd ps []:=λs us _ hl=>by
 rw[X0]at hl ⊢;exact .of_eq (h us hl)
noncomputable def Ef(CX:CXT)(X:Cx)(E:XK):Prop:=∀(pins:List (ZY×Obj)) (σ:St) (H:Hp) (s:ZX) (e:ZW) (s':ZX),Inv X pins σ H s->CX X.stack H s E e s'->X.xe e s'
section
variable{X:Cx}{CX:CXT}{k:Nat}{f C:ZY}{fd:A00}{ps:List Str}{sp:Sp}{dvs:List V}{ds:List ZW}{E:XK}{x m:Str}{p pos apos:Pos}{e o:Expr}{es:List Expr}{ta:TE}{t:TA}
theorem RO{pins:List (ZY×Obj)}{σ:St}{H:Hp}{s:ZX}{Q:VK}{us:List ZW}{vs:List V}(F:FnOk X.prog X.w X.K X.mg X.base CX k f fd ps sp)(hr:Room k X.A)(hb:Binds X.K fd ps ds)(hd:Vals dvs ds)(hx:Ef CX X E)
 (I:Inv X pins σ H s) (r:Vals vs us) (h:sp (vs++dvs) H Q E):Zb (Zc X.prog X.w) X.A (call (.ref f) us) (EP X pins σ Q) X.xe s:=by
 have r2:Vals (vs++dvs) (us++ds):=r.append hd;have hl:(us++ds).length=ps.length:=by rw[<-r2.length];exact F.len _ _ _ _ h
 refine A1l (A03 (F.run X.A X.stack s H ⟨us,[]⟩ (us++ds) (vs++dvs) Q E hr I.env0 (hb s us I.kIn hl) r2 h) λr s' hq=>?_);cases r with
 | error e=>exact hx pins σ H s e s' I hq
 | ok fl=>
   cases fl with
   | ret u=>exact I.after hq
   | next=>exact False.elim hq
   | brk=>exact False.elim hq
   | cont=>exact False.elim hq
theorem II(F:FnOk X.prog X.w X.K X.mg X.base CX k f fd ps sp)(hr:Room k X.A)(hg:Gl X x)(hm:X.mg x=some (.ref f))(hk:PySem.W.keepIn X.K (.ref f)=true)(hb:Binds X.K fd ps ds)(hd:Vals dvs ds)(hx:Ef CX X E)
 (ha:PA X (e::es) t) (hdb:(x == ("__debug__":Str))=false:=by decide) (he:Zg (e::es) X.env=(false,eval e X.env)::Zg es X.env:=by rfl) (hpl:(backTo pos (Zg es X.env)).any (·.1)=false:=by rfl):
 PE X (.Call (.Name x p) (e::es) [] pos) (LJ sp dvs E t):=by
 intro pins s σ H Q I h;refine Zv (Co I hg hm ?_ hdb);refine PySem.W.callWith_K (h₀:=X.base) I.ok.mod.kin hk (thn (ha pos pins s σ H _ I h) λus s1 ⟨vs,H1,I1,r,q⟩=>⟨I1.kIn,?_⟩) he hpl;exact RO F hr hb hd hx I1 r q
end
noncomputable def PK(X:Cx)(kws:List Keyword)(t:TA):Prop:=
 ∀(pos:Pos) (pins:List (ZY×Obj)) (s:ZX) (σ:St) (H:Hp) (Q:List V->Hp->Prop),Inv X pins σ H s->t σ H Q->Zb (Zc X.prog X.w) X.A (evalAll ((A0D pos (A0d kws X.env)).map (·.2))) (AP X pins σ Q) X.xe s
section
variable{X:Cx}{CX:CXT}{k:Nat}{f C:ZY}{fd:A00}{ps ks:List Str}{sp:Sp}{E:XK}{x m:Str}{p pos apos kpos:Pos}{e o:Expr}{es:List Expr}{kws:List Keyword}{te ta:TE}{t tk:TA}{nm:Option Str}
theorem RP:PK X [] RL:=λ_ _ _ _ H Q I h=>A1s ⟨[],H,I,.nil,h⟩
theorem OI(ha:PE X e te)(hr:PK X kws t):PK X (⟨nm,e,kpos⟩::kws) (FQ te t):=by
 intro pos pins s σ H Q I h;show Zb _ _ (evalAll ((do let v <- eval e X.env;standAt pos;pure v)::(A0D pos (A0d kws X.env)).map (·.2))) _ _ s;refine A1m (ZV (thn (ha pins s σ H _ I h) λu s1 ⟨x,H1,I1,r1,q1⟩=>ZV (A0g (ZZ ?_))));exact thn (hr pos pins s1 σ H1 _ I1 q1) λus s2 ⟨xs,H2,I2,r2,q2⟩=>⟨x::xs,H2,I2,.cons r1 r2,q2⟩
variable{g:List ZW->List ZW->List ZW}{gV:List V->List V->List V}
end
structure FnScope(N P:List Str)(sc:Zi):Prop where
 kind:sc.kind = .function
 co:sc.isCoroutine=false
 gen:sc.isGenerator=false
 nd:N.Nodup
 pre:N.take P.length=P
 par:∀ x∈P,sc.names.lookup x=some .local\/sc.names.lookup x=some .cell
 nofree:∀ y∈sc.names,y.2 ≠ .free
theorem E5{kindOf:Str->Option Zw}{x:Str}:∀{binds:List (Str×ZW)} {m:Str->Option ZW},(∀ v,(x,v)∉binds)->bindL kindOf binds m x=m x
 | [],_,_=>rfl
 | (n,v)::r,m,h=>by
   unfold bindL;rw[E5 λw hw=>h w (W5 _ hw)];split
   ·have:x≠n:=by rintro rfl;exact h v WG
    simp[this]
   ·rfl
theorem E6{kindOf:Str->Option Zw}{x:Str}:∀{binds:List (Str×ZW)} {m:Str->Option ZW},(∀ v,(x,v)∉binds)->bindC kindOf binds m x=m x
 | [],_,_=>rfl
 | (n,v)::r,m,h=>by
   unfold bindC;rw[E6 λw hw=>h w (W5 _ hw)];split
   ·rfl
   ·have:x≠n:=by rintro rfl;exact h v WG
    simp[this]
theorem E7{kindOf:Str->Option Zw}{x:Str}{v:ZW}:∀{P:List Str} {vs:List ZW} {i:Nat} {m:Str->Option ZW},P.Nodup->P[i]?=some x->vs[i]?=some v->kindOf x=some .local->
 bindL kindOf (P.zip vs) m x=some v
 | [],_,_,_,_,h,_,_=>by simp at h
 | _::_,[],_,_,_,_,h,_=>by simp at h
 | p::P,w::vs,0,m,nd,h1,h2,hk=>by
   simp at h1 h2;subst h1;subst h2;show bindL kindOf ((p,w)::P.zip vs) m p=_;unfold bindL;rw[E5 λv hv=>(Xh.mp nd).1 (XJ hv).1,iP hk];simp
 | p::P,w::vs,i+1,m,nd,h1,h2,hk=>by
   show bindL kindOf ((p,w)::P.zip vs) m x=_;unfold bindL;exact E7 (i:=i) (Xh.mp nd).2 (by simpa using h1) (by simpa using h2) hk
theorem E8{kindOf:Str->Option Zw}{x:Str}{v:ZW}:∀{P:List Str} {vs:List ZW} {i:Nat} {m:Str->Option ZW},P.Nodup->P[i]?=some x->vs[i]?=some v->kindOf x≠some .local->
 bindC kindOf (P.zip vs) m x=some v
 | [],_,_,_,_,h,_,_=>by simp at h
 | _::_,[],_,_,_,_,h,_=>by simp at h
 | p::P,w::vs,0,m,nd,h1,h2,hk=>by
   simp at h1 h2;subst h1;subst h2;show bindC kindOf ((p,w)::P.zip vs) m p=_;unfold bindC;rw[E6 λv hv=>(Xh.mp nd).1 (XJ hv).1,iG hk];simp
 | p::P,w::vs,i+1,m,nd,h1,h2,hk=>by
   show bindC kindOf ((p,w)::P.zip vs) m x=_;unfold bindC;exact E8 (i:=i) (Xh.mp nd).2 (by simpa using h1) (by simpa using h2) hk
noncomputable def start(N:List Str)(vs:List V):St:=vs.map some++WL (N.length - vs.length) none
noncomputable def Do(CX:CXT)(P:Zd)(w:Zf)(K:Vn)(mg:Str->Option ZW)(base:Heap)(N:List Str)(qual:Str)(scope:Zi)(f:ZY)(cd:ZW)(A:Zj)(outer:List Env)(s:ZX)(H:Hp)(E:XK):Cx where
 prog:=P
 w:=w
 K:=K
 mg:=mg
 base:=base
 A:=A.deeper (envOfC qual scope s.heap.objs.size f cd)
 N:=N
 s₀:=s
 H₀:=H
 env:=envOfC qual scope s.heap.objs.size f cd
 outer:=outer
 stack:=envOfC qual scope s.heap.objs.size f cd::outer
 ex:=[]
 calm:=true
 fn:=λ_=>true
 pn:=[]
 xe:=λe s'=>Zb (Zc P w) (A.deeper (envOfC qual scope s.heap.objs.size f cd)) (leaving (envOfC qual scope s.heap.objs.size f cd) e) (λ_ s''=>CX outer H s E e s'') (λe' s''=>CX outer H s E e' s'') s'
theorem FR{sc:Zi}{n:Nat}{x:Str}(h:sc.names.lookup x=some .cell):∃ c,(Zx n sc.names []).lookup x=some c:=by
 have q:=PySem.W.cellsFrom_some sc.names n [] (.inl h);exact XC.mp q
theorem JV{CX:CXT}{P:Zd}{w:Zf}{K:Vn}{mg:Str->Option ZW}{base:Heap}{N ps:List Str}{qual:Str}{scope:Zi}{f:ZY}{cd:ZW}{A:Zj}{outer:List Env}{s s1:ZX}{H:Hp}{E:XK}{us:List ZW}{vs:List V}
 (S:FnScope N ps scope) (hd:A.handled=none) (e0:Env0 P w K mg base A outer s H) (hl:vs.length=ps.length) (r:Vals vs us)
 (x:InCallC s s.heap.objs.size (bindL (envOfC qual scope s.heap.objs.size f cd).kindOf (ps.zip us) λ_=>none) (Zx (s.heap.objs.size+1) scope.names []) (bindC (envOfC qual scope s.heap.objs.size f cd).kindOf (ps.zip us) λ_=>none) s1):
 Inv (Do CX P w K mg base N qual scope f cd A outer s H E) [] (start N vs) H s1:=by
 have hpl:ps.length<=N.length:=by have:=congrArg YV S.pre;rw[Wn]at this;omega
 obtain⟨h1,tk,rfl,hk⟩:=x.done;have noA:∀ b:ZY,b∉(Do CX P w K mg base N qual scope f cd A outer s H E).ex:=λb z=>absurd (show b∈([]:List ZY) from z) (by simp)
 refine⟨⟨e0.mod,S.kind,rfl,rfl,W0 _,λy z c h1 h2=>?_,λy hy=>?_,λy c _ h=>?_,λ_=>hd,Around.frames_deeper e0.frames,.inr ⟨rfl,rfl⟩,λb z=>absurd z (noA b),e0.bs,e0.bsz,λb _ _=>noA b,λb z=>absurd z (noA b),e0.funs,e0.frf⟩,
  rfl,e0.bare,Un.kept hk,⟨_,x.toInCall.ns,λi y v h1 h2 h3=>?_⟩,λy c h=>⟨_,x.cell y c h⟩,e0.hok.fresh (W0 _),λy c h=>?_,λp hp=>absurd (show p∈([]:List (ZY×Obj)) from hp) (by simp),e0.hok.kept hk,?_⟩
 ·exact A1t x.apart (PySem.mem_of_lookup h1) (PySem.mem_of_lookup h2)
 ·have hy:scope.names.lookup y=some .cell\/scope.names.lookup y=some .free:=hy;rcases hy with hy | hy
  ·exact FR hy
  ·exact absurd rfl (S.nofree _ (PySem.mem_of_lookup hy))
 ·exact XO (x.above y c (PySem.mem_of_lookup h))
 ·have hi:i<vs.length:=by
   unfold start at h2;by_cases hi:i<vs.length
   ·exact hi
   ·rw[We (by simpa using hi)]at h2;rw[XH]at h2;split at h2<;>cases h2
  have ha:vs[i]?=some v:=by
   unfold start at h2;rw[W6 (by simpa using hi),Vx]at h2;cases e:vs[i]? with
   | none=>rw[e]at h2;cases h2
   | some a=>rw[e]at h2;cases h2;rfl
  obtain⟨u,hu,rv⟩:=r.get ha
  have hp:ps[i]?=some y:=by
   rw[<-S.pre,List.getElem?_take_of_lt (by omega)];exact h1
  have ndP:ps.Nodup:=by rw[<-S.pre];exact S.nd.sublist (List.take_sublist _ _)
  refine⟨u,rv,?_⟩;rcases S.par y (Vv hp) with k | k
  ·exact .inl ⟨k,E7 ndP hp hu k⟩
  ·obtain⟨c,e⟩:=FR (n:=s.heap.objs.size+1) k;refine .inr ⟨.inl k,c,e,?_⟩;have q:=x.cell y c e;rw[E8 ndP hp hu (by show scope.names.lookup y≠_;rw[k];decide)]at q;exact q
 ·exact e0.hok.fresh (XO (x.above y c (PySem.mem_of_lookup h)))
 ·unfold start;show _=N.length;rw[Vs,Vp,XT];omega
theorem QF{CX:CXT}{P:Zd}{w:Zf}{K:Vn}{mg:Str->Option ZW}{base:Heap}{k:Nat}{f:ZY}{name qual:Str}{params:A0A}{body:List Stmt}{scope:Zi}{dV kV doc pm cdv ct oc:ZW}{an od:Option ZY}
 {osl:Array (Option ZW)} {N ps:List Str} {sp:Sp} (lk:K.lookup f=some ⟨oc,od,.func (PySem.W.fnOf name qual params body scope dV kV doc pm an cdv ct),osl⟩) (hcd:PySem.W.codeIn K cdv qual=true) (S:FnScope N ps scope)
 (len:∀ vs H Q E,sp vs H Q E->vs.length=ps.length)
 (hbody:∀(A:Zj) (outer:List Env) (s:ZX) (H:Hp) (vs:List V) (Q:VK) (E:XK),Room k (A.deeper (envOfC qual scope s.heap.objs.size f cdv))->sp vs H Q E->
   ∃ t,PSs (Do CX P w K mg base N qual scope f cdv A outer s H E) body t/\t {nx:=λ_ H'=>Q .non H',rt:=Q} (start N vs) H):
 FnOk P w K mg base CX (k+1) f (PySem.W.fnOf name qual params body scope dV kV doc pm an cdv ct) ps sp:=by
 refine⟨len,λA outer s H args us vs Q E hr e0 hb r hsp=>?_⟩;have hl:=len _ _ _ _ hsp;have KX:K.In s.heap:=e0.mod.kin.keeps λb o e=>(e0.bs b o e).1;have lim:s.heap.NoLimit:=e0.mod.nolimit.keeps λb o e=>(e0.bs b o e).1
 have hkind:∀ y∈ps.zip us,scope.names.lookup y.1=some .local\/(scope.names.lookup y.1=some .cell/\((Zx (s.heap.objs.size+1) scope.names []).lookup y.1).isSome=true):=λ⟨n,v⟩ hy=>by
  rcases S.par n (XJ hy).1 with q | q
  ·exact .inl q
  ·exact .inr ⟨q,PySem.W.cellsFrom_some _ _ _ (.inl q)⟩
 refine codeAny_call_function hr.depth (KX _ _ lk) rfl S.co S.gen rfl (PySem.W.codeRec_of KX hcd) (hb _ _ _ _ ?_);refine wpAny_newFunctionEnv_cells S.kind hkind λenv he s1 x=>?_;subst he;refine⟨lim.keeps x.toInCall.keep,codeAny_func ?_⟩;obtain⟨t,ht,hq⟩:=hbody A outer s H vs Q E (hr.deeper _) hsp;have I:Inv (Do CX P w K mg base N qual scope f cdv A outer s H E) [] (start N vs) H s1:=JV S hr.hd e0 hl r x;refine Zu (ht [] s1 (start N vs) H _ I hq) (λfl s' hs=>?_) λe s' hs=>hs
 have fin:∀{σ':St} {H':Hp} {v:V} {u:ZW},Inv (Do CX P w K mg base N qual scope f cdv A outer s H E) [] σ' H' s'->RelV v u->Q v H'->CE outer P w H s Q u s':=
  λ{σ' H' v u} J rv q=>⟨v,H',J.os,J.bare,J.base,J.hok,rv,q⟩
 cases fl with
 | ret u=>
   obtain⟨v,σ',H',J,rv,q⟩:=hs;exact fin J rv q
 | next=>
   obtain⟨σ',H',J,q⟩:=hs;exact fin (v:=V.non) (u:=Value.none) J rfl q
 | brk=>
   obtain⟨_,_,_,q⟩:=hs;exact False.elim q
 | cont=>
   obtain⟨_,_,_,q⟩:=hs;exact False.elim q
section
variable{X:Cx}{x:Str}{p pos:Pos}{e:Expr}{es:List Expr}{t:TA}{id T:String}{r:List V->Hp->VK->Prop}
noncomputable def tCB(r:List V->Hp->VK->Prop)(t:TA):TE:=λσ H Q=>t σ H λvs H1=>r vs H1 Q
theorem v5(hc:CallR X (.builtin id) r)(hg:Gl X x)(hm:X.mg x=none)(hv:Zh x=some (.builtin id))(ha:PA X (e::es) t)(hn:x≠"__name__":=by decide)(hdb:(x == ("__debug__":Str))=false:=by decide)
 (he:Zg (e::es) X.env=(false,eval e X.env)::Zg es X.env:=by rfl) (hpl:(backTo pos (Zg es X.env)).any (·.1)=false:=by rfl):PE X (.Call (.Name x p) (e::es) [] pos) (tCB r t):=by
 intro pins s σ H Q I h;refine Zv (Aj I hg hm hv ?_ hn hdb);exact PyProof.Rows.callWith_builtin1 (thn (ha pos pins s σ H _ I h) λus s1 ⟨vs,H1,I1,r1,q1⟩=>hc pins s1 σ H1 vs us Q I1 r1 q1) he hpl
theorem w5(hc:CallR X (.type T) r)(hg:Gl X x)(hm:X.mg x=none)(hv:Zh x=some (.type T))(ha:PA X (e::es) t)(hn:x≠"__name__":=by decide)(hdb:(x == ("__debug__":Str))=false:=by decide)
 (he:Zg (e::es) X.env=(false,eval e X.env)::Zg es X.env:=by rfl) (hpl:(backTo pos (Zg es X.env)).any (·.1)=false:=by rfl):PE X (.Call (.Name x p) (e::es) [] pos) (tCB r t):=by
 intro pins s σ H Q I h;refine Zv (Aj I hg hm hv ?_ hn hdb);exact PyProof.Rows.callWith_type1 (thn (ha pos pins s σ H _ I h) λus s1 ⟨vs,H1,I1,r1,q1⟩=>hc pins s1 σ H1 vs us Q I1 r1 q1) he hpl
end
end L2
namespace HT
open PySem PyProof.Rows
noncomputable def lexLt:List Int->List Int->Bool
 | [],[]=>false
 | [],_::_=>true
 | _::_,[]=>false
 | x::xs,y::ys=>if x=y then lexLt xs ys else decide (x<y)
theorem Gq(x y:Int)(xs ys:List Int):lexLt (x::xs) (y::ys)=if x=y then lexLt xs ys else decide (x<y):=rfl
theorem Dp:lexLt [] []=false:=rfl
theorem D3(y:Int)(ys:List Int):lexLt [] (y::ys)=true:=rfl
theorem D4(x:Int)(xs:List Int):lexLt (x::xs) []=false:=rfl
theorem LK(A:Zj)(s:ZX)(a:Int)(t:Tok)(c:Int)(u:Tok):∃ e,SeqAt.EqAt A s (.int a t) (.int c u) e/\(e=true↔a=c):=
 ⟨(a == c),SeqAt.EqAt.int_int a t c u,by simp⟩
theorem rcLt_int(A:Zj)(s:ZX)(a:Int)(t:Tok)(c:Int)(u:Tok)(prog:Zd)(w:Zf)(E:ZW->ZX->Prop)(Q:ZW->ZX->Prop)(h:Q (.bool (decide (a<c))) s):
 Zb (Zc prog w) A (A0u .Lt (.int a t) (.int c u)) Q E s:=
 (PyProof.Rows.lt_int h:Zb (Zc prog w) A (Zl .Lt (.int a t) (.int c u)) Q E s)
section
open PySem.SeqAt
open PySem.AutoSeq1 (wpAny_loadPart')
open PySem.MeetsSeq PySem.MeetsSeq2 PySem.MeetsSeq3
theorem Dq(l b:ZY)(items items2:Array ZW)(n n2:Nat)(dd dd2:Option ZY)(sl sl2:Array (Option ZW))(ns ms:List Int)(hi:IntsAre items.toList ns)(hj:IntsAre items2.toList ms):
 Meets (Builtin.«tuple.__lt__» ⟨[.ref l,.ref b],[]⟩)
  (λ_ R s=>s.heap.get? l=some {cls := .type "tuple",dict:=dd,data := .seq items n,slots:=sl}/\s.heap.get? b=some {cls := .type "tuple",dict:=dd2,data := .seq items2 n2,slots:=sl2}/\
    R (.ok (.ret (.bool (lexLt ns ms)))) s):=
 .of_wp λprog w A R s h=>by
  obtain⟨hp,g,d,tk,os⟩:=s;obtain⟨hl,hb,h⟩:=h;have f2:=AutoSeq1.sub_tuple_tuple;have z1:items.size=ns.length:=by rw[<-hi.length];simp
  have z2:items2.size=ms.length:=by rw[<-hj.length];simp
  wp_walk using wpAny_loadPart' hl,wpAny_loadPart' hb,wpAny_forIn_list _ (λrest b s'=>b.1=none/\s'=⟨hp,g,d,tk,os⟩/\∃(vs ws:List ZW) (ns' ms':List Int),rest=vs.zip ws/\
   IntsAre vs ns'/\IntsAre ws ms'/\ns'.length+items2.size=ms'.length+items.size/\R (.ok (.ret (.bool (lexLt ns' ms')))) ⟨hp,g,d,tk,os⟩) _
  case turn=>
   rintro⟨y,x⟩ rest b s' ⟨hb',rfl,vs,ws,ns',ms',hz,hvi,hwi,hlen,hR⟩;cases hvi with
   | nil=>rw[List.zip_nil_left]at hz;cases hz
   | cons a t hvi'=>
     cases hwi with
     | nil=>rw[List.zip_nil_right]at hz;cases hz
     | cons c u hwi'=>
       rw[Yh]at hz;injection hz with hyx hrest;injection hyx with hy hx;subst hy hx;rw[Gq]at hR;simp only[Wr]at hlen;obtain⟨e,he,hiff⟩:=LK A.in1 ⟨hp,g,d,tk,os⟩ a t c u;refine ZV (he prog w _ _ ?_);cases e with
       | true=>
         rw[iP (hiff.mp rfl)]at hR
         wp_walk
         exact⟨rfl,rfl,_,_,_,_,hrest,hvi',hwi',by omega,hR⟩
       | false=>
         rw[iG (λq=>absurd (hiff.mpr q) Vz)]at hR;have hri:=rcLt_int A.in1 ⟨hp,g,d,tk,os⟩ a t c u prog w
         wp_walk using hri
         exact⟨_,rfl,by simpa using hR⟩
  case fin=>
   rintro⟨b1,b2⟩ s' ⟨hb',rfl,vs,ws,ns',ms',hz,hvi,hwi,hlen,hR⟩;simp only at hb';subst hb'
   have hv:lexLt ns' ms'=decide (items.size<items2.size):=by
    cases hvi with
    | nil=>
      cases hwi with
      | nil=>
        simp only[XW]at hlen;rw[Dp];exact(decide_eq_false (by omega)).symm
      | cons c u hw=>
        simp only[XW,Wr]at hlen;rw[D3];exact(decide_eq_true (by omega)).symm
    | cons a t hv=>
      cases hwi with
      | nil=>
        simp only[XW,Wr]at hlen;rw[D4];exact(decide_eq_false (by omega)).symm
      | cons c u hw=>
        rw[Yh]at hz;cases hz
   rw[hv]at hR
   wp_walk
   exact⟨_,rfl,by simpa[Builtin.Tuple.tupleCompareSizes] using hR⟩
  case h=>
   exact⟨rfl,rfl,items.toList,items2.toList,ns,ms,rfl,hi,hj,by omega,h⟩
end
section
variable{prog:Zd}{w:Zf}{A:Zj}{E:ZW->ZX->Prop}{s:ZX}
theorem lt_tupInts{l b:ZY}{items items2:Array ZW}{ns ms:List Int}{Q:ZW->ZX->Prop}(hl:IsTup s.heap l items)(hb:IsTup s.heap b items2)(hi:IntsAre items.toList ns)(hj:IntsAre items2.toList ms)
 (hu:A.units<cLine) (h:Q (.bool (lexLt ns ms)) s):Zb (Zc prog w) A (Zl .Lt (.ref l) (.ref b)) Q E s:=by
 obtain⟨⟨cls,dd,data,sl⟩,ho,hc,n,hd⟩:=id hl;obtain⟨⟨cls2,dd2,data2,sl2⟩,ho2,hc2,n2,hd2⟩:=id hb;simp only at hc hd hc2 hd2;subst hc hd hc2 hd2
 exact richCompare_meets_room (op := .Lt) ⟨_,ho,rfl⟩ ⟨_,ho2,rfl⟩ PySem.F.slot_tuple_lt PySem.F.entry_tuple_lt (PySem.F.args_tuple_lt_2 _ _) (Dq l b items items2 n n2 dd dd2 sl sl2 ns ms hi hj)
  ⟨ho,ho2,show Value.bool (lexLt ns ms)≠Value.notImplemented/\Q (.bool (lexLt ns ms)) s from ⟨(λx=>nomatch x),h⟩⟩ hu
noncomputable def sIx(n d:Nat):Option Int->Nat
 | none=>d
 | some v=>if v<0 then (v+(n:Int)).toNat else min v.toNat n
theorem RQ(n d:Nat)(hd:d<=n)(o:Option Int):sIx n d o<=n:=by
 cases o with
 | none=>exact hd
 | some v=>
   show(if v<0 then (v+(n:Int)).toNat else min v.toNat n)<=n;by_cases hv:v<0
   ·rw[iP hv];omega
   ·rw[iG hv];exact Z1 _ _
theorem IJ(v:Int)(n d:Nat):(if v<0 then max (v+(n:Int)) 0 else min v (n:Int))=((sIx n d (some v):Nat):Int):=by
 show(if v<0 then max (v+(n:Int)) 0 else min v (n:Int))=(((if v<0 then (v+(n:Int)).toNat else min v.toNat n):Nat):Int)
 by_cases hv:v<0
 ·simp only[iP hv];omega
 ·simp only[iG hv];omega
theorem Gr(lo hi:Option Int)(n:Nat):Builtin.Slice.sliceAdjust lo hi 1 (n:Int)=(((sIx n 0 lo:Nat):Int),((sIx n n hi:Nat):Int)):=by
 have h1:¬ ((1:Int)<0):=by omega
 unfold Builtin.Slice.sliceAdjust;simp only[h1,if_false];refine Prod.ext ?_ ?_
 ·cases lo with
  | none=>rfl
  | some v=>exact IJ v n 0
 ·cases hi with
  | none=>rfl
  | some v=>exact IJ v n n
theorem Gs(i j:Nat):Builtin.Slice.slicePlaces (i:Int) (j:Int) 1=j - i:=by
 unfold Builtin.Slice.slicePlaces;have h1:(1:Int)>0:=by omega
 simp only[h1,if_true,Int.ediv_one];split<;>omega
theorem D5{v:ZW}{o:Option Int}{Q:Option Int->ZX->Prop}(p:IsPart v o)(h:Q o s):Zb (Zc prog w) A (Builtin.Slice.slicePartIndex v) Q E s:=by
 cases p with
 | none=>exact A1M h
 | int i t=>exact slicePart_int h
theorem At{sl:ZY}{vl vu:ZW}{lo hi:Option Int}{n:Nat}{Q:Int×Int×Nat->ZX->Prop}(hs:s.heap.IsSliceOf sl vl vu .none)(pl:IsPart vl lo)(pu:IsPart vu hi)
 (h:Q (((sIx n 0 lo:Nat):Int),1,sIx n n hi - sIx n 0 lo) s):Zb (Zc prog w) A (Builtin.Slice.sliceApplied (.ref sl) (pure (n:Int))) Q E s:=by
 obtain⟨os,hos,hcs,hds⟩:=id hs;unfold Builtin.Slice.sliceApplied Builtin.Slice.sliceFields;refine ZV (ZV (A0n hos hds (x:=vl) rfl (ZV (A0n hos hds (x:=vu) rfl (ZV (A0n hos hds (x := .none) rfl (ZZ ?_)))))));refine ZV (A1M ?_);show Zb _ _ (if ((1:Int) == 0)=true then _ else _) _ _ s;rw[iG (by decide)];refine ZV (D5 pl (ZV (D5 pu (ZV (ZZ ?_)))));show Zb _ _ (match Builtin.Slice.sliceAdjust lo hi 1 (n:Int) with | (lo,hi)=>pure (lo,(1:Int),Builtin.Slice.slicePlaces lo hi 1)) _ _ s;rw[Gr lo hi n];show Zb _ _ (pure (((sIx n 0 lo:Nat):Int),(1:Int),Builtin.Slice.slicePlaces ((sIx n 0 lo:Nat):Int) ((sIx n n hi:Nat):Int) 1)) _ _ s;rw[Gs];exact ZZ h
theorem LL(xs:Array ZW)(i k:Nat):((Vw k).filterMap λ(m:Nat)=>xs[((i:Int)+(m:Int) * 1).toNat]?).toArray=((xs.toList.drop i).take k).toArray:=by
 have e:(λ(m:Nat)=>xs[((i:Int)+(m:Int) * 1).toNat]?)=λm=>xs[i+m]?:=by
  funext m
  have:((i:Int)+(m:Int) * 1).toNat=i+m:=by omega
  rw[this]
 rw[e];have:=pick_run xs i k;rw[List.filterMap_map]at this;have e2:((λx=>xs[x]?)∘λx=>i+x)=λm=>xs[i+m]?:=rfl;rw[e2]at this;rw[this]
theorem getItem_tuple_cut{t sl:ZY}{items:Array ZW}{vl vu:ZW}{lo hi:Option Int}{Q:ZW->ZX->Prop}(ht:IsTup s.heap t items)(hs:s.heap.IsSliceOf sl vl vu .none)(pl:IsPart vl lo)(pu:IsPart vu hi)
 (hw:¬ (sIx items.size 0 lo=0/\sIx items.size items.size hi=items.size))
 (h:Q (.ref s.heap.objs.size) {s with heap:=s.heap.push {cls := .type "tuple",data := .seq ((items.toList.drop (sIx items.size 0 lo)).take (sIx items.size items.size hi - sIx items.size 0 lo)).toArray}})
 (hsz:items.size<=Ze):Zb (Zc prog w) A (getItem (.ref t) (.ref sl)) Q E s:=by
 have htake:sizeOk (.seq ((items.toList.drop (sIx items.size 0 lo)).take (sIx items.size items.size hi - sIx items.size 0 lo)).toArray):=by
  show((items.toList.drop (sIx items.size 0 lo)).take (sIx items.size items.size hi - sIx items.size 0 lo)).toArray.size<=Ze;rw[Vu,Wn,Xd,Wm];omega
 have hj:sIx items.size items.size hi<=items.size:=RQ _ _ (W0 _) hi;obtain⟨os,hos,hcs,hds⟩:=id hs;have hTs:s.TypeIs (.ref sl) "slice":=⟨os,hos,hcs⟩
 unfold getItem
 try with_reducible refine Zm ?_
 first | refine ZV (ZZ ?_) | skip
 refine ZV (A1u ht.typeIs (by decide) ?_)
 refine ZV (Zq (name:=Str.ofString "__getitem__") ht.typeIs PyProof.Rows.slot_tuple_getitem
  (Zr PyProof.Rows.slot_tuple_getitem ht.typeIs A1f ?_ (A1n _ _)))
 show Zb _ _ (Builtin.Tuple.tupleItemsOf (.ref t) >>= _) _ _ s;refine ZV (tupleItemsOf_ ht ?_);refine ZV (A0z hTs ?_);rw[iP (by decide)];refine ZV (At hs pl pu ?_)
 have hno:¬ ((((sIx items.size 0 lo:Nat):Int) == 0&&(1:Int) == 1&&(sIx items.size items.size hi - sIx items.size 0 lo) == items.size)=true):=by
  intro q;rw[Vo,Vo]at q;have q1:((sIx items.size 0 lo:Nat):Int)=0:=eq_of_beq q.1.1;have q2:sIx items.size items.size hi - sIx items.size 0 lo=items.size:=eq_of_beq q.2;exact hw ⟨by omega,by omega⟩
 show Zb _ _ (if (((sIx items.size 0 lo:Nat):Int) == 0&&(1:Int) == 1&&(sIx items.size items.size hi - sIx items.size 0 lo) == items.size)=true then _ else _) _ _ s;rw[iG hno,LL]
 first
  | exact ZV (m:=Builtin.Tuple.tupleExact _) (Zk (ZZ ⟨_,rfl,ZZ h⟩) htake)
  | exact ZV (m:=Builtin.Tuple.tupleExact _) (Zk (ZV (ZZ (ZZ ⟨_,rfl,ZZ h⟩))) htake)
  | exact ZV (ZV (m:=Builtin.Tuple.tupleExact _) (Zk (ZZ (ZZ ⟨_,rfl,ZZ h⟩)) htake))
  | exact ZV (ZV (m:=Builtin.Tuple.tupleExact _) (Zk (ZZ ⟨_,rfl,ZZ h⟩) htake))
end
end HT
namespace L2
open PySem PySem.Spec PyProof.Rows
noncomputable abbrev TO:=St->Hp->(Option Int->Hp->Prop)->Prop
noncomputable def PO(X:Cx)(e:Option Expr)(t:TO):Prop:=
 ∀(pins:List (ZY×Obj)) (s:ZX) (σ:St) (H:Hp) (Q:Option Int->Hp->Prop),Inv X pins σ H s->t σ H Q->
  Zb (Zc X.prog X.w) X.A (evalPart e X.env) (λu s'=>∃ o H',Inv X pins σ H' s'/\IsPart u o/\Q o H') X.xe s
noncomputable def OJ:TO:=λ_ H Q=>Q none H
noncomputable def U9(t:TE):TO:=λσ H Q=>t σ H λx H1=>∃ i,x = .int i/\Q (some i) H1
section
variable{X:Cx}{e:Expr}{te:TE}{lo hi:Option Expr}{tl th:TO}{pos p2:Pos}
theorem OK:PO X none OJ:=by
 intro pins s σ H Q I h;rw[evalPart_none];exact ZZ ⟨none,H,I,.none,h⟩
theorem OL(h:PE X e te):PO X (some e) (U9 te):=by
 intro pins s σ H Q I hw;rw[evalPart_some];refine thn (h pins s σ H _ I hw) λu s1 ⟨x,H1,I1,r1,q1⟩=>?_;obtain⟨i,rfl,q⟩:=q1;obtain⟨t,rfl⟩:=r1;exact⟨some i,H1,I1,.int i t,q⟩
noncomputable def SlR(X:Cx)(r:V->Option Int->Option Int->Hp->VK->Prop):Prop:=
 ∀(pins:List (ZY×Obj)) (s:ZX) (σ:St) (H:Hp) (x:V) (v vl vu:ZW) (lo hi:Option Int) (sl:ZY) (Q:VK),Inv X pins σ H s->RelV x v->s.heap.IsSliceOf sl vl vu .none->IsPart vl lo->IsPart vu hi->r x lo hi H Q->
  ∃ T id,typeLookup (.type T) "__getitem__"=pure (some (.builtin id))/\s.TypeIs v T/\Zb (Zc X.prog X.w) X.A (getItem v (.ref sl)) (EP X pins σ Q) X.xe s
theorem SlR.or{r r':V->Option Int->Option Int->Hp->VK->Prop}(h:SlR X r)(h':SlR X r'):SlR X (λx lo hi H Q=>r x lo hi H Q\/r' x lo hi H Q):=by
 intro pins s σ H x v vl vu lo hi sl Q I rx hs pl pu q;rcases q with q | q
 ·exact h pins s σ H x v vl vu lo hi sl Q I rx hs pl pu q
 ·exact h' pins s σ H x v vl vu lo hi sl Q I rx hs pl pu q
noncomputable def tSl(r:V->Option Int->Option Int->Hp->VK->Prop)(te:TE)(tl th:TO):TE:=λσ H Q=>te σ H λx H1=>tl σ H1 λl H2=>th σ H2 λu H3=>r x l u H3 Q
theorem LM{r:V->Option Int->Option Int->Hp->VK->Prop}(hr:SlR X r)(he:PE X e te)(hl:PO X lo tl)(hu:PO X hi th):PE X (.Subscript e (.Slice lo hi none p2) pos) (tSl r te tl th):=by
 intro pins s σ H Q I h;refine Subscript_ (thn (he pins s σ H _ I h) λv s1 ⟨x,H1,I1,r1,q1⟩=>?_);refine wpAny_Slice (thn (hl pins s1 σ H1 _ I1 q1) λvl s2 ⟨l,H2,I2,pl,q2⟩=>thn (hu pins s2 σ H2 _ I2 q2) λvu s3 ⟨u,H3,I3,pu,q3⟩=>?_);rw[evalPart_none];refine ZZ ?_;have I4:Inv X pins σ H3 {s3 with heap:=s3.heap.push {cls := .type "slice",data := .fields #[vl,vu,.none]}}:=I3.kept (t':=s3.toks) λb ob q=>Vr _ q;obtain⟨T,id,hT,ht,hg⟩:=hr pins {s3 with heap:=s3.heap.push {cls := .type "slice",data := .fields #[vl,vu,.none]}} σ H3 x v vl vu l u s3.heap.objs.size Q I4 r1 (Heap.IsSliceOf.new ..) pl pu q3;show Zb (Zc X.prog X.w) X.A (subscriptTail e (.Slice lo hi none p2) v (.ref s3.heap.objs.size)) (EP X pins σ Q) X.xe {s3 with heap:=s3.heap.push {cls := .type "slice",data := .fields #[vl,vu,.none]}};exact tail_any (ops:=[.ref s3.heap.objs.size,v]) ht hT hg (by with_unfolding_all rfl)
noncomputable def FS(xs:List V)(lo hi:Option Int):List V:=(xs.drop (HT.sIx xs.length 0 lo)).take (HT.sIx xs.length xs.length hi - HT.sIx xs.length 0 lo)
theorem Cf(xs:List V)(lo hi:Option Int):(FS xs lo hi).length<=xs.length:=by
 unfold FS;rw[Wn,Xd];omega
noncomputable def UA(K:Vn):V->Option Int->Option Int->Hp->VK->Prop:=λx lo hi H Q=>∃ a xs,x = .ref a/\SqT K H a xs/\
 ¬ (HT.sIx xs.length 0 lo=0/\HT.sIx xs.length xs.length hi=xs.length)/\∀ p,H p=none->Q (.ref p) (upd H p (.tup (FS xs lo hi)))
theorem sl_tup:SlR X (UA X.K):=by
 intro pins s σ H x v vl vu lo hi sl Q I rx hs pl pu h;obtain⟨a,xs,rfl,hx,hw,q⟩:=h;cases rx;obtain⟨its,r,ht,hz⟩:=I.tuple hx;have hlen:its.toArray.size=xs.length:=by rw[Vu];exact r.length.symm
 refine⟨"tuple",_,PyProof.Rows.slot_tuple_getitem.lookup,ht.typeIs,?_⟩;refine HT.getItem_tuple_cut ht hs pl pu (by rw[hlen];exact hw) ?_ (by rw[hlen];exact hz);rw[hlen];refine⟨.ref s.heap.objs.size,_,I.laid (t':=s.toks) (o := .tup (FS xs lo hi)) (λb ob q=>Vr _ q) (W0 _) ?_,rfl,q _ (I.hok.fresh (W0 _))⟩;exact⟨Wd (Cf xs lo hi) hz,_,(r.drop (HT.sIx xs.length 0 lo)).take (HT.sIx xs.length xs.length hi - HT.sIx xs.length 0 lo),IsTup.new _ _⟩
end
noncomputable def ixN(n:Nat)(i:Int):Option Nat:=if 0<=i then (if i<n then some i.toNat else none) else if -(n:Int)<=i then some (i+n).toNat else none
noncomputable def atI{α:Type}(xs:List α)(i:Int):Option α:=(ixN xs.length i).bind λj=>xs[j]?
theorem IK{n:Nat}{i:Int}{j:Nat}(h:ixN n i=some j):seqIndex? i n=some j/\j<n /\ -(n:Int)<=i/\i<n:=by
 unfold ixN at h;by_cases h0:0<=i
 ·rw[iP h0]at h;by_cases h1:i<n
  ·rw[iP h1]at h;have e:i.toNat=j:=oj h;exact⟨by rw[A1G h0 h1,e],by omega,by omega,h1⟩
  ·rw[iG h1]at h;cases h
 ·rw[iG h0]at h;by_cases h1:-(n:Int)<=i
  ·rw[iP h1]at h;have e:(i+n).toNat=j:=oj h;exact⟨by rw[A1v (by omega) h1,e],by omega,h1,by omega⟩
  ·rw[iG h1]at h;cases h
theorem IL{α:Type}{xs:List α}{i:Int}{v:α}(h:atI xs i=some v):∃ j,seqIndex? i xs.length=some j/\xs[j]?=some v/\j<xs.length /\ -(xs.length:Int)<=i/\i<xs.length:=by
 unfold atI at h;cases e:ixN xs.length i with
 | none=>rw[e]at h;cases h
 | some j=>
   rw[e]at h;obtain⟨h1,h2,h3,h4⟩:=IK e;exact⟨j,h1,h,h2,h3,h4⟩
theorem j4{α:Type}{xs:List α}{j:Nat}{v:α}(h:xs[j]?=some v):atI xs (j:Int)=some v:=by
 have hj:j<xs.length:=(gM h).1
 have e:ixN xs.length (j:Int)=some j:=by
  unfold ixN;rw[iP (by omega),iP (by omega)];simp
 unfold atI;rw[e];exact h
noncomputable def IM(b:Expr):Prop:=∀ o i,subscripted b false o i=operate [o,i] (getItem o i)
noncomputable def IxR(X:Cx)(r:R2):Prop:=
 ∀(value slice:Expr) (pins:List (ZY×Obj)) (s:ZX) (σ:St) (H:Hp) (x y:V) (v u:ZW) (Q:VK),Inv X pins σ H s->RelV x v->RelV y u->r x y H Q->
  subscripted slice false v u=operate [v,u] (getItem v u)->Zb (Zc X.prog X.w) X.A (subscriptTail value slice v u) (EP X pins σ Q) X.xe s
noncomputable def MtR(X:Cx)(id:String)(r:V->List V->Hp->VK->Prop):Prop:=
 ∀(pins:List (ZY×Obj)) (s:ZX) (σ:St) (H:Hp) (x:V) (xs:List V) (v:ZW) (us:List ZW) (Q:VK),Inv X pins σ H s->RelV x v->Vals xs us->r x xs H Q->
  Zb (Zc X.prog X.w) X.A (call (.builtin id) (v::us)) (EP X pins σ Q) X.xe s
section
variable{X:Cx}{a b:Expr}{ta tb:TE}{pos:Pos}
theorem IxR.or{r r':R2}(h:IxR X r)(h':IxR X r'):IxR X (λx y H Q=>r x y H Q\/r' x y H Q):=by
 intro value slice pins s σ H x y v u Q I rx ry q hs;rcases q with q | q
 ·exact h value slice pins s σ H x y v u Q I rx ry q hs
 ·exact h' value slice pins s σ H x y v u Q I rx ry q hs
theorem UB{r:R2}(hr:IxR X r)(ha:PE X a ta)(hb:PE X b tb)(hs:IM b):PE X (.Subscript a b pos) (tOp r ta tb):=by
 intro pins s σ H Q I h;exact Subscript_ (RC ha hb I h λv u s2 x y H2 I2 rx ry q=>hr a b pins s2 σ H2 x y v u Q I2 rx ry q (hs _ _))
noncomputable def UC(K:Vn):R2:=λx y H Q=>∃ p xs i v,x = .ref p/\y = .int i/\SqL K H p xs/\atI xs i=some v/\Q v H
noncomputable def UD(K:Vn):R2:=λx y H Q=>∃ p xs i v,x = .ref p/\y = .int i/\SqT K H p xs/\atI xs i=some v/\Q v H
theorem ix_list:IxR X (UC X.K):=by
 intro value slice pins s σ H x y v u Q I rx ry h hs;obtain⟨p,xs,i,z,rfl,rfl,hq,he,q⟩:=h;cases rx;obtain⟨t,rfl⟩:=ry;obtain⟨its,r,pl,hz⟩:=I.list hq;obtain⟨j,h1,h2,h3,h4,h5⟩:=IL he;obtain⟨w,ew,rw'⟩:=r.get h2;have hl:=r.length;have hn:=Bs;have fin:EP X pins σ Q w s:=⟨z,H,I,rw',q⟩
 by_cases h0:0<=i
 ·have hj:i.toNat=j:=by
   rw[A1G h0 h5]at h1;exact oj h1
  exact item_listR pl.isList h0 (by omega) (by rw[hj];simpa using ew) fin hs
 ·have hj:(i+(its.toArray.size:Int)).toNat=j:=by
   rw[A1v (by omega) h4]at h1;rw[Vu,<-hl];exact oj h1
  exact A0Z (x:=w) pl.isList.typeIs slot_list_getitem.lookup
   (wpAny_getItem_list_neg (Q:=λr s'=>r=w/\EP X pins σ Q r s') pl.isList (by omega) (by rw[Vu]<;>omega) (by omega) (by rw[hj];simpa using ew) ⟨rfl,fin⟩) hs
theorem RT:IxR X (UD X.K):=by
 intro value slice pins s σ H x y v u Q I rx ry h hs;obtain⟨p,xs,i,z,rfl,rfl,hq,he,q⟩:=h;cases rx;obtain⟨t,rfl⟩:=ry;obtain⟨its,r,pl,hz⟩:=I.tuple hq;obtain⟨j,h1,h2,h3,h4,h5⟩:=IL he;obtain⟨w,ew,rw'⟩:=r.get h2;have hl:=r.length;have hn:=Bs;have fin:EP X pins σ Q w s:=⟨z,H,I,rw',q⟩
 exact A0Z (x:=w) pl.typeIs slot_tuple_getitem.lookup
  (getItem_tuple (j:=j) (Q:=λr s'=>r=w/\EP X pins σ Q r s') pl (by omega) (by omega) (by rw[Vu,<-hl];exact h1) (by simpa using ew) ⟨rfl,fin⟩) hs
theorem Gv(its:List ZW)(n j:Nat)(u:ZW):Obj.mapSeq (·.setIfInBounds j u) {cls := .type "list",data := .seq its.toArray n}={cls := .type "list",data := .seq (its.set j u).toArray n}:=by
 simp[Obj.mapSeq]
theorem Inv.lst{pins:List (ZY×Obj)}{σ:St}{H:Hp}{s:ZX}{p:ZY}{xs:List V}(I:Inv X pins σ H s)(h:H p=some (.lst xs)):
 ∃(its:List ZW) (n:Nat),Vals xs its/\s.heap.get? p=some {cls := .type "list",data := .seq its.toArray n}/\xs.length<=Ze:=by
 obtain⟨z,its,n,r,e⟩:=I.hok p _ h;exact⟨its,n,r,e,z⟩
theorem Inv.lstUpd{pins:List (ZY×Obj)}{σ:St}{H:Hp}{s:ZX}{p:ZY}{xs ys:List V}{its its':List ZW}{n n':Nat}{f:Obj->Obj}(I:Inv X pins σ H s)(h:H p=some (.lst xs))
 (ho:s.heap.get? p=some {cls := .type "list",data := .seq its.toArray n}) (hf:f {cls := .type "list",data := .seq its.toArray n}={cls := .type "list",data := .seq its'.toArray n'}) (r:Vals ys its') (hz:ys.length<=Ze) (t:Nat):
 Inv X pins σ (upd H p (.lst ys)) {s with heap:=s.heap.update p f,toks:=t}:=by
 have e:(s.heap.update p f).get? p=some {cls := .type "list",data := .seq its'.toArray n'}:=by
  rw[Wc f ho (by rw[hf]<;>rfl),hf]
 refine I.write (x:=p) (e:=p) (by rw[h];trivial) (.inl rfl) (λb u hb q=>(Wh _ _ (Ne.symm hb)).trans q) ⟨_,e⟩ ?_;exact⟨hz,its',n',r,e⟩
noncomputable def LN:V->V->V->Hp->(Hp->Prop)->Prop:=λo i v H Q=>∃ p xs k j,o = .ref p/\i = .int k/\H p=some (.lst xs)/\ixN xs.length k=some j/\Q (upd H p (.lst (xs.set j v)))
theorem LO:Tq X LN:=by
 intro pins s σ H o i v ov iv u Q I ro ri rv h;obtain⟨p,xs,k,j,rfl,rfl,hp,hj,q⟩:=h;cases ro;obtain⟨t,rfl⟩:=ri;obtain⟨its,n,r,ho,hz⟩:=I.lst hp;obtain⟨h1,h2,h3,h4⟩:=IK hj;have hl:=r.length;have hn:=Bs
 have I':Inv X pins σ (upd H p (.lst (xs.set j v))) {s with heap:=s.heap.update p (Obj.mapSeq (·.setIfInBounds j u))}:=
  I.lstUpd hp ho (Gv its n j u) (r.set rv j) (by rw[Wg];exact hz) s.toks
 by_cases h0:0<=k
 ·have hk:k.toNat=j:=by
   rw[A1G h0 h4]at h1;exact oj h1
  exact PySem.W.ki_setAt ho h0 (by omega) (by rw[Vu,<-hl];exact h4) (by rw[hk];exact⟨_,I',q⟩)
 ·have hk:(k+(its.toArray.size:Int)).toNat=j:=by
   rw[A1v (by omega) h3]at h1;rw[Vu,<-hl];exact oj h1
  exact PySem.W.ki_setBack ho (by omega) (by rw[Vu,<-hl];exact h3) (by omega) (by rw[hk];exact⟨_,I',q⟩)
theorem Eg(lo hi:Option Int)(n:Nat):(A0o lo hi none n).1=((HT.sIx n 0 lo:Nat):Int)/\(A0o lo hi none n).2.1=((HT.sIx n n hi:Nat):Int)/\(A0o lo hi none n).2.2=1:=by
 refine⟨?_,?_,rfl⟩
 ·cases lo with
  | none=>simp[A0o,HT.sIx]
  | some i=>
    simp only[A0o,HT.sIx,YC,show(1:Int)>0 by decide,if_true];by_cases h:i<0
    ·simp only[h,if_true]<;>omega
    ·simp only[h,if_false]<;>omega
 ·cases hi with
  | none=>simp[A0o,HT.sIx]
  | some i=>
    simp only[A0o,HT.sIx,YC,show(1:Int)>0 by decide,if_true];by_cases h:i<0
    ·simp only[h,if_true]<;>omega
    ·simp only[h,if_false]<;>omega
theorem Dr(its:List ZW)(lo hi:Option Int):slicePick its.toArray lo hi none=((its.drop (HT.sIx its.length 0 lo)).take (HT.sIx its.length its.length hi - HT.sIx its.length 0 lo)).toArray:=by
 obtain⟨h1,h2,h3⟩:=Eg lo hi its.toArray.size;unfold slicePick;rw[h1,h2,h3];simp only[sliceRange_one,pick_run,Vu]<;>rfl
noncomputable def UE(K:Vn):V->Option Int->Option Int->Hp->VK->Prop:=λx lo hi H Q=>∃ a xs,x = .ref a/\SqL K H a xs/\∀ p,H p=none->Q (.ref p) (upd H p (.lst (FS xs lo hi)))
theorem sl_list:SlR X (UE X.K):=by
 intro pins s σ H x v vl vu lo hi sl Q I rx hs pl pu h;obtain⟨a,xs,rfl,hx,q⟩:=h;cases rx;obtain⟨its,r,ht,hz⟩:=I.list hx;have hlen:=r.length;refine⟨"list",_,slot_list_getitem.lookup,ht.isList.typeIs,?_⟩;refine wpAny_getItem_list_slice ht.isList hs pl pu .none (by simp) ?_ (by rw[Vu]<;>omega);rw[Dr,<-hlen];refine⟨.ref s.heap.objs.size,_,I.laid (t':=s.toks) (o := .lst (FS xs lo hi)) (λb ob q=>Vr _ q) (W0 _) ?_,rfl,q _ (I.hok.fresh (W0 _))⟩;exact⟨Wd (Cf xs lo hi) hz,_,0,(r.drop (HT.sIx xs.length 0 lo)).take (HT.sIx xs.length xs.length hi - HT.sIx xs.length 0 lo),W2 _ rfl⟩
noncomputable def y9:V->Bool
 | .non=>true
 | .bl _=>true
 | .int _=>true
 | .str _=>true
 | _=>false
noncomputable def eqV:V->V->Bool
 | .non,.non=>true
 | .bl a,.bl b=>a == b
 | .bl a,.int b=>(if a then 1 else 0) == b
 | .int a,.bl b=>a == (if b then 1 else 0)
 | .int a,.int b=>a == b
 | .str a,.str b=>a == b
 | _,_=>false
theorem LP{A:Zj}{s:ZX}{y x:V}{u v:ZW}(ry:RelV y u)(rx:RelV x v)(fy:y9 y=true)(fx:y9 x=true):SeqAt.EqAt A s u v (eqV y x):=by
 cases y with
 | non=>
   cases ry;cases x with
   | non=>cases rx;exact SeqAt.EqAt.same _
   | bl b=>cases rx;exact SeqAt.EqAt.none_bool b
   | int b=>obtain⟨t,rfl⟩:=rx;exact SeqAt.EqAt.none_int b t
   | str b=>obtain⟨t,rfl⟩:=rx;exact SeqAt.EqAt.none_str b t
   | _=>exact absurd (show false=true from fx) Vz
 | bl a=>
   cases ry;cases x with
   | non=>cases rx;exact SeqAt.EqAt.bool_none a
   | bl b=>cases rx;exact SeqAt.EqAt.bool_bool a b
   | int b=>obtain⟨t,rfl⟩:=rx;exact SeqAt.EqAt.bool_int a b t
   | str b=>obtain⟨t,rfl⟩:=rx;exact SeqAt.EqAt.bool_str a b t
   | _=>exact absurd (show false=true from fx) Vz
 | int a=>
   obtain⟨t',rfl⟩:=ry;cases x with
   | non=>cases rx;exact SeqAt.EqAt.int_none a t'
   | bl b=>cases rx;exact SeqAt.EqAt.int_bool a t' b
   | int b=>obtain⟨t,rfl⟩:=rx;exact SeqAt.EqAt.int_int a t' b t
   | str b=>obtain⟨t,rfl⟩:=rx;exact SeqAt.EqAt.int_str a t' b t
   | _=>exact absurd (show false=true from fx) Vz
 | str a=>
   obtain⟨t',rfl⟩:=ry;cases x with
   | non=>cases rx;exact SeqAt.EqAt.str_none a t'
   | bl b=>cases rx;exact SeqAt.EqAt.str_bool a t' b
   | int b=>obtain⟨t,rfl⟩:=rx;exact SeqAt.EqAt.str_int a t' b t
   | str b=>obtain⟨t,rfl⟩:=rx;exact SeqAt.EqAt.str_str a t' b t
   | _=>exact absurd (show false=true from fx) Vz
 | _=>exact absurd (show false=true from fy) Vz
noncomputable def eqU(x:V)(u:ZW):Bool:=match u with
 | .none=>eqV .non x
 | .bool b=>eqV (.bl b) x
 | .int i _=>eqV (.int i) x
 | .str z _=>eqV (.str z) x
 | _=>false
theorem Eh{x y:V}{u:ZW}(r:RelV y u)(f:y9 y=true):eqU x u=eqV y x:=by
 cases y with
 | non=>cases r;rfl
 | bl b=>cases r;rfl
 | int i=>obtain⟨t,rfl⟩:=r;rfl
 | str z=>obtain⟨t,rfl⟩:=r;rfl
 | _=>exact absurd (show false=true from f) Vz
theorem C4{x:V}:∀{xs:List V} {us:List ZW},Vals xs us->xs.all y9=true->us.any (eqU x)=xs.any λy=>eqV y x
 | _,_,.nil,_=>rfl
 | y::xs,u::us,.cons r t,f=>by
   rw[Ww,Vo]at f;rw[Wx,Wx,Eh r f.1,C4 t f.2]
theorem AS{A:Zj}{s:ZX}{x:V}{v:ZW}(rx:RelV x v)(fx:y9 x=true):∀{xs:List V} {us:List ZW},Vals xs us->xs.all y9=true->∀ u∈us,SeqAt.EqAt A s u v (eqU x u)
 | _,_,.nil,_=>λu hu=>by cases hu
 | y::xs,u::us,.cons r t,f=>λu' hu=>by
   rw[Ww,Vo]at f;rcases W4.mp hu with rfl | hu
   ·rw[Eh r f.1];exact LP r rx f.1 fx
   ·exact AS rx fx t f.2 u' hu
noncomputable def inV(x:V)(xs:List V):Bool:=xs.any λy=>eqV y x
noncomputable def rIn(K:Vn)(neg:Bool):R2:=λx y H Q=>∃ p xs,y = .ref p/\(SqL K H p xs\/SqT K H p xs)/\y9 x=true/\xs.all y9=true/\Q (.bl (if neg then !inV x xs else inV x xs)) H
theorem JW:OpR X (Zl .In) (rIn X.K false):=by
 intro pins s σ H x y v u Q I rx ry h;obtain⟨p,xs,rfl,hq,fx,fs,q⟩:=h;cases ry;rcases hq with hq | hq
 ·obtain⟨its,r,pl,hz⟩:=I.list hq;refine SeqAt.in_listAt (eqU x) pl.isList (λw hw=>AS rx fx r fs w (by simpa using hw)) ⟨.bl _,H,I,rfl,?_⟩;rw[show its.toArray.any (eqU x)=its.any (eqU x) by simp,C4 r fs];exact q
 ·obtain⟨its,r,pl,hz⟩:=I.tuple hq;refine SeqAt.in_tupleAt (eqU x) pl (λw hw=>AS rx fx r fs w (by simpa using hw)) ⟨.bl _,H,I,rfl,?_⟩;rw[show its.toArray.any (eqU x)=its.any (eqU x) by simp,C4 r fs];exact q
theorem Ei:OpR X (Zl .NotIn) (rIn X.K true):=by
 intro pins s σ H x y v u Q I rx ry h;obtain⟨p,xs,rfl,hq,fx,fs,q⟩:=h;cases ry;rcases hq with hq | hq
 ·obtain⟨its,r,pl,hz⟩:=I.list hq;refine SeqAt.notIn_listAt (eqU x) pl.isList (λw hw=>AS rx fx r fs w (by simpa using hw)) ⟨.bl _,H,I,rfl,?_⟩;rw[show its.toArray.any (eqU x)=its.any (eqU x) by simp,C4 r fs];exact q
 ·obtain⟨its,r,pl,hz⟩:=I.tuple hq;refine SeqAt.notIn_tupleAt (eqU x) pl (λw hw=>AS rx fx r fs w (by simpa using hw)) ⟨.bl _,H,I,rfl,?_⟩;rw[show its.toArray.any (eqU x)=its.any (eqU x) by simp,C4 r fs];exact q
theorem Ej:CallR X (.builtin "len") (λxs H Q=>∃ p ys,xs=[.ref p]/\(SqL X.K H p ys\/SqT X.K H p ys)/\Q (.int ys.length) H):=by
 intro pins s σ H xs us Q I r h;obtain⟨p,ys,rfl,hq,q⟩:=h;obtain⟨u,rfl,rx⟩:=As r;cases rx;have hn:=Bs;rcases hq with hq | hq
 ·obtain⟨its,r',pl,hz⟩:=I.list hq;have hlen:=r'.length;exact Calls.call_len_list pl.isList (by simp only[Vu]<;>omega) ⟨.int ys.length,H,I.tok _,⟨s.toks+1,by rw[Vu,hlen]⟩,q⟩
 ·obtain⟨its,r',pl,hz⟩:=I.tuple hq;have hlen:=r'.length;exact len_tuple pl (by simp only[Vu]<;>omega) ⟨.int ys.length,H,I.tok _,⟨s.toks+1,by rw[Vu,hlen]⟩,q⟩
theorem CallR.or{f:ZW}{r r':List V->Hp->VK->Prop}(h:CallR X f r)(h':CallR X f r'):CallR X f (λxs H Q=>r xs H Q\/r' xs H Q):=by
 intro pins s σ H xs us Q I rs q;rcases q with q | q
 ·exact h pins s σ H xs us Q I rs q
 ·exact h' pins s σ H xs us Q I rs q
theorem Ek:CallR X (.type "list") (λxs H Q=>∃ p ys,xs=[.ref p]/\(SqL X.K H p ys\/SqT X.K H p ys)/\∀ l,H l=none->Q (.ref l) (upd H l (.lst ys))):=by
 intro pins s σ H xs us Q I r h;obtain⟨p,ys,rfl,hq,q⟩:=h;obtain⟨u,rfl,rx⟩:=As r;cases rx
 have fin:∀(its:List ZW),Vals ys its->ys.length<=Ze->∀(h':Heap) (c':Nat),(∀ b o',s.heap.get? b=some o'->h'.get? b=some o')->
  h'.get? s.heap.objs.size=some {cls := .type "list",dict:=none,data := .seq its.toArray c',slots:=#[]}->EP X pins σ Q (.ref s.heap.objs.size) {s with heap:=h'}:=λits r' hz h' c' kp e=>
  ⟨.ref s.heap.objs.size,_,I.laid (t':=s.toks) kp (W0 _) (show ObjOk X.prog X.w _ h' _ (.lst ys) from ⟨hz,its,c',r',e⟩),rfl,q _ (I.hok.fresh (W0 _))⟩
 rcases hq with hq | hq
 ·obtain⟨its,r',pl,hz⟩:=I.list hq;have hlen:=r'.length;obtain⟨o,ho,hc,n,hd⟩:=pl.isList;exact call_list_seq p (.inl rfl) ho hc hd (λh' c' kp e=>fin its r' hz h' c' kp e) (by simp only[Vu]<;>omega)
 ·obtain⟨its,r',pl,hz⟩:=I.tuple hq;have hlen:=r'.length;obtain⟨o,ho,hc,n,hd⟩:=pl;exact call_list_seq p (.inr rfl) ho hc hd (λh' c' kp e=>fin its r' hz h' c' kp e) (by simp only[Vu]<;>omega)
theorem Ds:CallR X (.type "tuple") (λxs H Q=>∃ p ys,xs=[.ref p]/\((SqL X.K H p ys/\∀ l,H l=none->Q (.ref l) (upd H l (.tup ys)))\/(SqT X.K H p ys/\Q (.ref p) H))):=by
 intro pins s σ H xs us Q I r h;obtain⟨p,ys,rfl,h⟩:=h;obtain⟨u,rfl,rx⟩:=As r;cases rx;rcases h with⟨hq,q⟩ | ⟨hq,q⟩
 ·obtain⟨its,r',pl,hz⟩:=I.list hq;have hlen:=r'.length;refine call_tuple_list pl.isList (λh' kp=>?_) (by simp only[Vu]<;>omega);have I1:Inv X pins σ H {s with heap:=h'}:=I.kept (t':=s.toks) kp
  have I2:Inv X pins σ (upd H h'.objs.size (.tup ys)) {s with heap:=h'.push {cls := .type "tuple",data := .seq its.toArray}}:=
   I1.laid (t':=s.toks) (λb o e=>Vr _ e) (W0 _) (show ObjOk X.prog X.w _ _ _ (.tup ys) from ⟨hz,its,r',IsTup.new _ _⟩)
  exact⟨.ref h'.objs.size,_,I2,rfl,q _ (I1.hok.fresh (W0 _))⟩
 ·obtain⟨its,r',pl,hz⟩:=I.tuple hq;exact call_tuple_same pl ⟨.ref p,H,I,rfl,q⟩
noncomputable def tyV(K:Vn)(T:String)(x:V)(H:Hp):Prop:=match x with
 | .str _=>T="str"
 | .int _=>T="int"
 | .ref p=>(T="list"/\∃ xs,SqL K H p xs)\/(T="tuple"/\∃ o,K.lookup p=some o/\o.cls = .type "tuple"/\o.dict=none)\/
    (T="dict"/\((∃ kvs,H p=some (.dK kvs))\/∃ kvs,H p=some (.dT kvs)))\/(T="set"/\∃ S n,H p=some (.set S n))
 | _=>False
theorem LQ{pins:List (ZY×Obj)}{σ:St}{H:Hp}{s:ZX}{T:String}{x:V}{v:ZW}(I:Inv X pins σ H s)(r:RelV x v)(ty:tyV X.K T x H):
 s.TypeIs v T/\∀ a,v = .ref a->∃ ob,s.heap.get? a=some ob/\ob.dict=none:=by
 cases x with
 | str z=>
   obtain⟨t,rfl⟩:=r;cases(show T="str" from ty);exact⟨typeIs_str s z t,λ_ e=>nomatch e⟩
 | int i=>
   obtain⟨t,rfl⟩:=r;cases(show T="int" from ty);exact⟨A10 s i t,λ_ e=>nomatch e⟩
 | ref p=>
   cases r;rcases ty with⟨rfl,xs,hq⟩ | ⟨rfl,o,hk,hc,hd⟩ | ⟨rfl,hk⟩ | ⟨rfl,S,n,hk⟩
   ·obtain⟨its,_,pl,_⟩:=I.list hq;refine⟨pl.isList.typeIs,λa e=>?_⟩;cases e;obtain⟨o,n,e,c,hd,_⟩:=pl;exact⟨o,e,hd⟩
   ·refine⟨⟨o,I.kIn p o hk,hc⟩,λa e=>?_⟩;cases e;exact⟨o,I.kIn _ o hk,hd⟩
   ·have z:∃ o,s.heap.get? p=some o/\o.ExactDict:=by
     rcases hk with⟨kvs,hk⟩ | ⟨kvs,hk⟩
     ·obtain⟨_,_,_,_,o,_,_,e,ex,_⟩:=I.hok p _ hk;exact⟨o,e,ex⟩
     ·obtain⟨_,_,_,_,o,_,_,e,ex,_⟩:=I.hok p _ hk;exact⟨o,e,ex⟩
    obtain⟨o,e,ex⟩:=z;refine⟨⟨o,e,ex.1⟩,λa e2=>?_⟩;cases e2;exact⟨o,e,ex.2.1⟩
   ·obtain⟨o,_,_,_,e,ex,_⟩:=I.hok p _ hk;refine⟨⟨o,e,ex.1⟩,λa e2=>?_⟩;cases e2;exact⟨o,e,ex.2.1⟩
 | _=>exact False.elim ty
noncomputable def RU(K:Vn)(T:String)(r:V->List V->Hp->VK->Prop)(to:TE):TE:=λσ H Q=>to σ H λx H1=>tyV K T x H1/\r x [] H1 Q
noncomputable def tBM(K:Vn)(T:String)(r:V->List V->Hp->VK->Prop)(to:TE)(t:TA):TE:=λσ H Q=>to σ H λx H1=>tyV K T x H1/\t σ H1 λxs H2=>r x xs H2 Q
variable{o e:Expr}{es:List Expr}{to:TE}{t:TA}{name:Str}{apos cpos:Pos}{T id:String}{r:V->List V->Hp->VK->Prop}
theorem D6(pa:PlainAttrs T)(slot:Slot T name id)(hty:typeOf (.builtin id)=pure (.type "method_descriptor"))(hm:MtR X id r)(ho:PE X o to)
 (hbase:A0t o name X.env (eval o X.env)=eval o X.env:=by rfl) (hline:(apos.endLine == cpos.line)=true:=by rfl):PE X (.Call (.Attribute o name apos) [] [] cpos) (RU X.K T r to):=by
 intro pins s σ H Q I h;refine wpAny_Call_method0_late hbase hline (thn (ho pins s σ H _ I h) λv s1 ⟨x,H1,I1,r1,ty,q1⟩=>?_);obtain⟨h1,h2⟩:=LQ I1 r1 ty;exact⟨T,id,pa,slot,hty,h1,h2,Calls.callWith_builtin rfl (PySem.evalArgs_none (hm pins s1 σ H1 x [] v [] Q I1 r1 .nil q1))⟩
theorem FT(pa:PlainAttrs T)(slot:Slot T name id)(hty:typeOf (.builtin id)=pure (.type "method_descriptor"))(hm:MtR X id r)(ho:PE X o to)(ha:PA X (e::es) t)
 (hbase:A0t o name X.env (eval o X.env)=eval o X.env:=by rfl)
 (hfew:((backTo cpos (Zg (e::es) X.env)).all (λx=>!x.1)&&(A0D cpos (A0d [] X.env)).all (λx=>x.1.isSome)
   && decide ((e::es).length+([]:List Keyword).length+(if ([]:List Keyword).isEmpty then 0 else 1)<30))=true:=by rfl)
 (hline:(apos.endLine == cpos.line)=true:=by rfl) (hs:Zg (e::es) X.env=(false,eval e X.env)::Zg es X.env:=by rfl) (hplain:(backTo cpos (Zg es X.env)).any (·.1)=false:=by rfl):
 PE X (.Call (.Attribute o name apos) (e::es) [] cpos) (tBM X.K T r to t):=by
 intro pins s σ H Q I h;refine wpAny_Call_method_late hbase hfew hline rfl (thn (ho pins s σ H _ I h) λv s1 ⟨x,H1,I1,r1,ty,q1⟩=>?_);obtain⟨h1,h2⟩:=LQ I1 r1 ty;refine⟨T,id,pa,slot,hty,h1,h2,?_⟩;have hA:=ha cpos pins s1 σ H1 _ I1 q1;rw[hs]at hA ⊢;refine Calls.callWith_builtin (by show(false||(backTo cpos (Zg es X.env)).any (·.1))=false;rw[hplain]<;>rfl) (Calls.evalArgs_plain ?_);exact thn hA λus s2 ⟨vs,H2,I2,r2,q2⟩=>hm pins s2 σ H2 x vs v us Q I2 r1 r2 q2
end
noncomputable def MtM(X:Cx)(id:String)(r:V->List V->Hp->VK->Prop):Prop:=
 ∀(pins:List (ZY×Obj)) (s:ZX) (σ:St) (H:Hp) (x:V) (xs:List V) (v:ZW) (us:List ZW) (Q:VK),Inv X pins σ H s->RelV x v->Vals xs us->r x xs H Q->
  Zb (Zc X.prog X.w) X.A (call (.builtin id) (v::us)) (EP X pins σ Q) X.xe s
theorem Vals.one{x:V}{us:List ZW}(h:Vals [x] us):∃ u,us=[u]/\RelV x u:=by
 cases h with
 | cons r q=>cases q;exact⟨_,rfl,r⟩
theorem Vals.two{x y:V}{us:List ZW}(h:Vals [x,y] us):∃ u v,us=[u,v]/\RelV x u/\RelV y v:=by
 cases h with
 | cons r q=>
   obtain⟨v,rfl,s⟩:=Vals.one q;exact⟨_,v,rfl,r,s⟩
theorem Vals.zero:∀{us:List ZW},Vals [] us->us=[]
 | _,.nil=>rfl
theorem Vals.eraseIdx:∀{xs:List V} {us:List ZW} (i:Nat),Vals xs us->Vals (xs.eraseIdx i) (us.eraseIdx i)
 | _,_,_,.nil => .nil
 | _,_,0,.cons _ t=>t
 | _,_,i+1,.cons r t => .cons r (Vals.eraseIdx i t)
theorem Vals.reverse{xs:List V}{us:List ZW}(h:Vals xs us):Vals xs.reverse us.reverse:=by
 induction h with
 | nil=>exact .nil
 | cons r t ih=>rw[Yl,Yl];exact Vals.append ih (.cons r .nil)
theorem Vals.rep{xs:List V}{us:List ZW}(h:Vals xs us):∀ k:Nat,Vals (WL k xs).flatten (WL k us).flatten
 | 0 => .nil
 | k+1=>by
   rw[Wu,Wu,XI,XI];exact Vals.append h (Vals.rep h k)
theorem E9(its:List ZW):∀(k:Nat) (acc:List ZW),
 ZE (λx1 x2=>x1++x2) acc.toArray (WL k its.toArray)=(acc++(WL k its).flatten).toArray
 | 0,acc=>by simp
 | k+1,acc=>by
   have e:acc.toArray++its.toArray=(acc++its).toArray:=by simp
   have e2:(acc++its)++(WL k its).flatten=acc++(WL (k+1) its).flatten:=by
    rw[Wu,XI,Ym]
   rw[<-e2,<-E9 its k (acc++its),<-e,Wu,List.foldl_cons]
section
variable{X:Cx}{pins:List (ZY×Obj)}{σ:St}{H:Hp}{s:ZX}{l b:ZY}{xs ys zs:List V}
theorem Inv.lset{its its':List ZW}{n:Nat}{f:Array ZW->Array ZW}{t':Nat}(I:Inv X pins σ H s)(hH:H l=some (.lst xs))
 (e:s.heap.get? l=some {cls := .type "list",data := .seq its.toArray n}) (hf:f its.toArray=its'.toArray) (hv:Vals ys its') (hz:ys.length<=Ze):
 Inv X pins σ (upd H l (.lst ys)) {s with heap:=s.heap.update l (Obj.mapSeq f),toks:=t'}:=by
 have q:=PySem.IsL.update e f;rw[hf]at q;refine I.write (x:=l) (e:=l) (by rw[hH];exact trivial) (.inl rfl) (λb' u hb hu=>(Wh s.heap (Obj.mapSeq f) (Ne.symm hb)).trans hu) ⟨_,q⟩ ?_;exact⟨hz,its',_,hv,q⟩
theorem Inv.lnew{its:List ZW}{t':Nat}(I:Inv X pins σ H s)(hv:Vals ys its)(hz:ys.length<=Ze):
 Inv X pins σ (upd H s.heap.objs.size (.lst ys)) {s with heap:=s.heap.push {cls := .type "list",data := .seq its.toArray},toks:=t'}:=
 I.laid (λ_ _ q=>Vr _ q) (W0 _) ⟨hz,its,0,hv,W2 _ rfl⟩
theorem Inv.fresh(I:Inv X pins σ H s):H s.heap.objs.size=none:=I.hok.fresh (W0 _)
theorem Inv.lstM(I:Inv X pins σ H s)(hH:H l=some (.lst xs)):xs.length<=Ze/\∃(its:List ZW) (n:Nat),Vals xs its/\xs.length=its.length/\s.heap.get? l=some {cls := .type "list",data := .seq its.toArray n}:=by
 obtain⟨z,its,n,r,e⟩:=I.hok l _ hH;exact⟨z,its,n,r,r.length,e⟩
theorem FU{n:Nat}(h:n<=Ze):Builtin.List.listTooLong n=false:=by
 unfold Builtin.List.listTooLong;exact decide_eq_false (by omega)
end
section
variable{X:Cx}
noncomputable def IO:V->List V->Hp->VK->Prop:=λx vs H Q=>∃ l xs y,x = .ref l/\vs=[y]/\H l=some (.lst xs)/\xs.length<Ze/\Q .non (upd H l (.lst (xs++[y])))
theorem CP:MtM X "list.append" IO:=by
 intro pins s σ H x vs v us Q I rx rv h;obtain⟨l,xs,y,rfl,rfl,hH,hz,q⟩:=h;cases rx;obtain⟨u,rfl,ru⟩:=rv.one;obtain⟨z,its,n,r,hl,e⟩:=I.lstM hH;refine A0s F.slot_list_append ⟨_,e,rfl⟩ F.entry_list_append (F.args_list_append_2 _ _) (PySem.list_append l its.toArray n u (by rw[Vu];omega)) ⟨e,?_⟩;refine⟨.non,_,I.lset (its':=its++[u]) hH e (by simp) (r.append (.cons ru .nil)) ?_,rfl,q⟩;rw[Vs,Wf];omega
noncomputable def IP:V->List V->Hp->VK->Prop:=λx vs H Q=>∃ l b xs zs,x = .ref l/\vs=[.ref b]/\H l=some (.lst xs)/\H b=some (.lst zs)/\xs.length+zs.length<=Ze/\Q .non (upd H l (.lst (xs++zs)))
theorem EA:MtM X "list.extend" IP:=by
 intro pins s σ H x vs v us Q I rx rv h;obtain⟨l,b,xs,zs,rfl,rfl,hH,hB,hz,q⟩:=h;cases rx;obtain⟨u,rfl,ru⟩:=rv.one;cases ru;obtain⟨z,its,n,r,hl,e⟩:=I.lstM hH;obtain⟨z2,its2,n2,r2,hl2,e2⟩:=I.lstM hB;have hsz:its.toArray.size+its2.toArray.size<=Ze:=by rw[Vu,Vu];omega
 have hlong:¬ (!its.toArray.isEmpty&&Builtin.List.listTooLong (its.toArray.size+its2.toArray.size))=true:=by
  rw[FU hsz,YW];exact Vz
 refine A0s F.slot_list_extend ⟨_,e,rfl⟩ F.entry_list_extend (F.args_list_extend_2 _ _)
  (AutoSeq1.list_extend_list_list_0 l its.toArray n b its2.toArray n2 hlong (by rw[Vu];omega) (by omega)) ⟨e,e2,?_⟩
 refine⟨.non,_,I.lset (its':=its++its2) hH e (by simp) (r.append r2) ?_,rfl,q⟩;rw[Vs];omega
noncomputable def UF:R2:=λx y H Q=>∃ l b xs zs,x = .ref l/\y = .ref b/\H l=some (.lst xs)/\H b=some (.lst zs)/\xs.length+zs.length<=Ze/\∀ p,H p=none->Q (.ref p) (upd H p (.lst (xs++zs)))
theorem RV:OpR X (A0i .Add) UF:=by
 intro pins s σ H x y v u Q I rx ry h;obtain⟨l,b,xs,zs,rfl,rfl,hH,hB,hz,q⟩:=h;cases rx;cases ry;obtain⟨z,its,n,r,hl,e⟩:=I.lstM hH;obtain⟨z2,its2,n2,r2,hl2,e2⟩:=I.lstM hB;refine PySem.P.add_list e e2 ?_ (by rw[Vu,Vu];omega);have ea:its.toArray++its2.toArray=(its++its2).toArray:=by simp
 rw[ea];exact⟨.ref _,_,I.lnew (t':=s.toks) (r.append r2) (by rw[Vs];omega),rfl,q _ I.fresh⟩
noncomputable def UG:R2:=λx y H Q=>∃ l k xs,x = .ref l/\y = .int k/\H l=some (.lst xs) /\ -(2 ^ 63)<=k/\k<2 ^ 63/\xs.length * k.toNat<=Ze/\
 ∀ p,H p=none->Q (.ref p) (upd H p (.lst (WL k.toNat xs).flatten))
theorem OM{α:Type}(xs:List α)(k:Nat):(WL k xs).flatten.length=k * xs.length:=by
 induction k with
 | zero=>simp
 | succ k ih=>rw[Wu,XI,Vs,ih,Yn,Nat.add_comm]
theorem RW:OpR X (A0i .Mult) UG:=by
 intro pins s σ H x y v u Q I rx ry h;obtain⟨l,k,xs,rfl,rfl,hH,h1,h2,hz,q⟩:=h;cases rx;obtain⟨t,rfl⟩:=ry;obtain⟨z,its,n,r,hl,e⟩:=I.lstM hH;have hlen:its.toArray.size * k.toNat<=Ze:=by rw[Vu,<-hl];exact hz
 have hcap:¬ its.toArray.size * k.toNat>(2 ^ 63 - 1) / 8:=by
  have:(Ze:Nat)<=(2 ^ 63 - 1) / 8:=by decide
  omega
 have hfit:¬ (!Builtin.List.listFitsIndex k)=true:=by
  rw[A1N h1 h2];exact Vz
 have hlong:¬ Builtin.List.listTooLong (its.toArray.size * k.toNat)=true:=by
  rw[FU hlen];exact Vz
 have hnew:ZE (λx1 x2=>x1++x2) #[] (WL (if its.toArray.isEmpty=true then 0 else k.toNat) its.toArray)=(WL k.toNat its).flatten.toArray:=by
  have f0:∀ m:Nat,ZE (λx1 x2=>x1++x2) #[] (WL m its.toArray)=(WL m its).flatten.toArray:=λm=>by
   have:=E9 its m [];rw[List.nil_append]at this;exact this
  rw[f0];cases its with
  | nil=>simp
  | cons a r'=>rw[iG (by simp)]
 refine wpAny_binaryOp_repeat_ref (T:="list") (U:="int") (by decide) ⟨_,e,rfl⟩ (λs'=>A10 s' k t) noFill_list_mul F.fills_int_mul F.slot_int_rmul repeat_list F.slot_int_index.lookup
  (A0s F.slot_int_rmul (A10 s k t) F.entry_int_rmul (F.args_int_rmul_2 _ _) (int___rmul___int_list k t l its.toArray n)
    ⟨e,rfl,⟨_,e,rfl⟩,A0s F.slot_list_mul ⟨_,e,rfl⟩ F.entry_list_mul (F.args_list_mul_2 _ _) (AutoListH.list___mul___list_int_3 l its.toArray n k t hfit hcap hlong) ⟨e,?_⟩⟩)
 rw[hnew];exact⟨.ref _,_,I.lnew (t':=s.toks) (r.rep k.toNat) (by rw[OM,Nat.mul_comm];exact hz),rfl,q _ I.fresh⟩
end
end L2
namespace Att
open PySem PySem.W PySem.Calls PyProof.Rows
theorem Ci{P:Params}{h:Heap}:∀(ns:List Int) (vs:List ZW),WellAll P h vs (ns.map WData.int)->IntsAre vs ns:=by
 intro ns
 induction ns with
 | nil=>
   intro vs w;rw[ZR]at w;cases w;exact .nil
 | cons n ns ih=>
   intro vs w;rw[WQ]at w;cases w with
   | cons a b=>
     cases a;exact .cons _ _ (ih _ b)
theorem JX{l:OpenLaw}{n:Nat}(hn:l.most=some n){P:Params}{h:Heap}{args:List WData}{vals:List ZW}
 (hpre:l.row.toRowW.claim.pre args=true) (hwl:WellAll P h vals args):
 ∃ a vs ns,vals=[Value.ref a]/\args=[WData.list (ns.map WData.int)]/\h.get? a=some {cls := .type "list",data := .seq vs.toArray}/\IntsAre vs ns/\ns.length<=n:=by
 have hsh:WShape.hasAll [] args [.list .int]=true:=(pre_splitW hpre).1;have hc:l.pre.holds [] {args:=args}=true:=(pre_splitW hpre).2;obtain⟨d,r,rfl,h1,h2⟩:=hasAllW_cons hsh;obtain rfl:=hasAllW_nil h2;obtain⟨xs,rfl,h3⟩:=hasW_list h1;obtain⟨ns,rfl⟩:=items_int h3
 have hlen:ns.length<=n:=by
  unfold OpenLaw.pre at hc
  have h4:(WTm.not (.lt (.lit (.int (n:Int))) (.len (.arg 0)))).holds [] {args:=[.list (ns.map .int)]}=true:=by
   have h4:=(holds_andW hc).1;rw[hn]at h4;exact h4
  have h5:=condW_of h4 (w_not (w_lt w_lit (w_len_list (w_arg rfl))));rw[Vp]at h5;refine Z2 λq=>?_;have q':(n:Int)<((ns.length:Nat):Int):=by omega
  first
   | (rw[decide_eq_true q']at h5;exact absurd h5 (by decide))
   | (simp at h5;omega)
 cases hwl with
 | cons w1 w2=>
   cases w2;cases w1 with
   | list ho hall=>exact⟨_,_,ns,rfl,rfl,ho,Ci ns _ hall,hlen⟩
theorem JY(l:OpenLaw)(args:List WData):l.row.toRowW.claim.post args (.bool true) args=true:=
 postW_of (r:=l.row.toRowW) (X:=(true == true))
  (show WShape.has [] (.bool true) .bool=true by first | rfl | decide | simp[WShape.has,WShape.arms,WShape.armsAll])
  (show(WTm.eq .res (.lit (.bool true))).value [] {args:=args,res:=some (.bool true),after:=args}=some (.bool (true == true)) from w_eq_bool (w_res rfl) w_lit) rfl
theorem attach_call{l:OpenLaw}{n:Nat}{q:Zd}{loose:List Str}{XP:(Str->Option ZW)->Heap->Prop}{YP:Zf->Heap->Prop}{d:DefRec}
 (hn:l.most=some n) (hdf:d.params.defaults=[])
 (call:∀(w:Zf) (s₀ s₁:ZX) (mg mb:Str->Option ZW) (fa:ZY) (o:Obj) (pm cd doc:ZW) (a:ZY) (vs:List ZW) (ns:List Int),
   Ground q loose [] XP w s₀ mg mb s₁.heap->YP w s₁.heap->
   s₁.heap.get? fa=some o->o.data = .func (docDef d.name d.params d.body d.scope pm cd doc)->s₁.heap.CodeRec cd d.name->mg d.name=some (.ref fa)->
   s₁.heap.get? a=some {cls := .type "list",data := .seq vs.toArray}->IntsAre vs ns->ns.length<=n->s₁.gens=#[]->
   codeAny (Zc l.prog w) callerA (.call (.ref fa) ⟨[.ref a],[]⟩) (λr s'=>r = .ok (.ret (.bool true))/\OldK s₁.heap s'.heap/\s'.os=s₁.os/\AllBare s'.gens) s₁):
 WalkO q loose XP YP l.row.toRowW d [] (λf vs=>PySem.call f vs):=by
 intro w s₀ s₁ mg mb G Y fa o pm cd doc dV kV ho hd hcd hD hmg hg args vals as hpre hlay hrd hwl hlo;obtain rfl:dV = .none:=Dflts.none hD hdf;obtain rfl:kV = .none:=Dflts.noKw hD;obtain⟨a,vs,ns,rfl,rfl,hobj,hints,hlen⟩:=JX hn hpre hwl;refine enter_call (A03 (call w s₀ s₁ mg mb fa o pm cd doc a vs ns G Y ho (fd_plain hd) hcd hmg hobj hints hlen hg) λr s' hq=>?_);obtain⟨rfl,h2,h3,h4⟩:=hq;exact⟨.inl ⟨.bool true,.bool true,[],rfl,λ_=>rfl,.bool true,JY l _,λ_=>⟨List.Pairwise.nil,λ_ hm=>(nomatch hm)⟩⟩,h2,h3,h4⟩
end Att
namespace L2
open PySem PySem.Spec PyProof.Rows
theorem EB:∀{vs:List ZW} {ns:List Int},IntsAre vs ns->Vals (ns.map V.int) vs
 | _,_,.nil => .nil
 | _,_,.cons n t h => .cons ⟨t,rfl⟩ (EB h)
noncomputable def defArgs(s:Stmt):A0A:=match s with
 | .FunctionDef _ a _ _ _ _ _ _ _ _=>a
 | _=>{posonlyargs:=[],args:=[],vararg:=none,kwonlyargs:=[],kw_defaults:=[],kwarg:=none,defaults:=[]}
noncomputable def defBody(s:Stmt):List Stmt:=match s with
 | .FunctionDef _ _ b _ _ _ _ _ _ _=>b
 | _=>[]
noncomputable def defScope(s:Stmt):Zi:=match s with
 | .FunctionDef _ _ _ _ _ _ sc _ _ _=>sc
 | _=>{kind := .function,names:=[],isGenerator:=false,isCoroutine:=false}
noncomputable abbrev CX0:CXT:=λ_ _ _ _ _ _=>False
noncomputable abbrev E0:XK:=λ_ _ _=>False
theorem UH{X:Cx}:Ef CX0 X E0:=λ_ _ _ _ _ _ _ h=>h.elim
structure Fun(K:Vn)(x qual:Str)(st:Stmt)(f:ZY)(fd:A00):Prop where
 ex:∃(oc:ZW) (od:Option ZY) (kV doc pm:ZW) (an:Option ZY) (cdv ct:ZW) (osl:Array (Option ZW)),
  fd=PySem.W.fnOf x qual (defArgs st) (defBody st) (defScope st) .none kV doc pm an cdv ct/\K.lookup f=some ⟨oc,od,.func fd,osl⟩/\PySem.W.codeIn K cdv qual=true
 kp:PySem.W.keepIn K (.ref f)=true
section
variable{P:Zd}{w:Zf}{K:Vn}{mg:Str->Option ZW}{base:Heap}
theorem Fun.binds{x qual:Str}{st:Stmt}{f:ZY}{fd:A00}{ps:List Str}(F:Fun K x qual st f fd)
 (h:∀(kV doc pm:ZW) (an:Option ZY) (cdv ct:ZW) (us:List ZW),us.length=ps.length->A0S (PySem.W.fnOf x qual (defArgs st) (defBody st) (defScope st) .none kV doc pm an cdv ct) ⟨us,[]⟩=pure (ps.zip us)):Binds K fd ps []:=by
 obtain⟨oc,od,kV,doc,pm,an,cdv,ct,osl,rfl,lk,hcd⟩:=F.ex;exact .all (h kV doc pm an cdv ct)
theorem Gx{x qual:Str}{st:Stmt}{f:ZY}{oc:ZW}{od an:Option ZY}{osl:Array (Option ZW)}{kV doc pm cdv ct:ZW}(l:K.lookup f=some ⟨oc,od,.func (PySem.W.fnOf x qual (defArgs st) (defBody st) (defScope st) .none kV doc pm an cdv ct),osl⟩)
 (c:PySem.W.codeIn K cdv qual=true) (k:PySem.W.keepIn K (.ref f)=true):Fun K x qual st f (PySem.W.fnOf x qual (defArgs st) (defBody st) (defScope st) .none kV doc pm an cdv ct):=⟨⟨oc,od,kV,doc,pm,an,cdv,ct,osl,rfl,l,c⟩,k⟩
end
theorem JZ{n:Nat}(h:n<=1000):n<Ze:=XR h (by decide)
section
variable{X:Cx}
theorem pv(i:Nat){x:Str}{pos:Pos}(hN:X.N[i]?=some x:=by rfl)(hv:Vis X.env.scope x:=by first | exact Or.inl rfl | exact Or.inr (Or.inl rfl) | exact Or.inr (Or.inr rfl))(hd:(x == ("__debug__":Str))=false:=by decide)
 (hcd:(x == ("__classdict__":Str))=false:=by decide):PE X (.Name x pos) (Ks i):=Kt hN hv hd hcd
end
end L2
set_option maxHeartbeats 4000000
namespace L2
open PySem PySem.Spec PyProof.Rows
noncomputable def j7(env:Env):List (Str×Zw)->List (Str×ZY)->List (Str×ZY)
 | [],acc=>acc
 | (n,k)::r,acc=>if k == .free then j7 env r ((n,(env.cells.lookup n).getD 0)::acc) else j7 env r acc
theorem Au{env:Env}{scope:Zi}(h:∀ x∈scope.names,x.2 = .free->∃ c,env.cells.lookup x.1=some c):A1o scope env=pure (j7 env scope.names []):=by
 unfold A1o
 have go:∀(names:List (Str×Zw)) (acc:List (Str×ZY)),(∀ x∈names,x.2 = .free->∃ c,env.cells.lookup x.1=some c)->
  (forIn names acc λx r=>match x with
    | (name,kind)=>if (kind == NameKind.free)=true then do let __do_lift <- cellOf env name;pure (ForInStep.yield ((name,__do_lift)::r)) else pure (ForInStep.yield r):Sem (List (Str×ZY)))=pure (j7 env names acc):=by
  intro names
  induction names with
  | nil=>intro acc _;rfl
  | cons x r ih=>
    intro acc hx;obtain⟨n,k⟩:=x;rw[List.forIn_cons];have hr:=λy hy=>hx y (W5 _ hy);by_cases hk:k = .free
    ·subst hk;obtain⟨c,hc⟩:=hx (n,.free) WG rfl;have hc':env.cells.lookup n=some c:=hc;unfold j7;simp only[beq_self_eq_true,if_true,cellOf,hc',Z3,pure_bind];exact ih _ hr
    ·have hb:(k == NameKind.free)=false:=by simpa using hk
     unfold j7;simp only[hb,Xo,if_false,pure_bind];exact ih _ hr
 have:=go scope.names [] h;simp only[this]
 first | rfl | simp
theorem Bd{env:Env}:∀(names:List (Str×Zw)) (acc:List (Str×ZY)),(∀ x∈names,x.2 = .free->∃ c,env.cells.lookup x.1=some c)->(∀ p∈acc,env.cells.lookup p.1=some p.2)->
 ∀ p∈j7 env names acc,env.cells.lookup p.1=some p.2
 | [],_,_,ha,p,hp=>ha p hp
 | (n,k)::r,acc,h,ha,p,hp=>by
   unfold j7 at hp;have hr:=λy hy=>h y (W5 _ hy);split at hp
   ·rename_i hk;have hk:k = .free:=by simpa using hk
    obtain⟨c,hc⟩:=h (n,k) WG hk;have hc':env.cells.lookup n=some c:=hc;refine Bd r _ hr (λq hq=>?_) p hp;rcases W4.mp hq with rfl | hq
    ·show env.cells.lookup n=some ((env.cells.lookup n).getD 0);rw[hc'];rfl
    ·exact ha q hq
   ·exact Bd r acc hr ha p hp
theorem CQ{env:Env}:∀(names:List (Str×Zw)) (acc:List (Str×ZY)),∀ p∈acc,p∈j7 env names acc
 | [],_,_,hp=>hp
 | (n,k)::r,acc,p,hp=>by
   unfold j7;split
   ·exact CQ r _ p (W5 _ hp)
   ·exact CQ r acc p hp
theorem Av{env:Env}:∀(names:List (Str×Zw)) (acc:List (Str×ZY)) (n:Str),(n,NameKind.free)∈names->∃ c,(n,c)∈j7 env names acc
 | (m,k)::r,acc,n,hn=>by
   unfold j7;rcases W4.mp hn with e | hn
   ·cases e;simp only[beq_self_eq_true,if_true];exact⟨_,CQ r _ _ WG⟩
   ·split
    ·exact Av r _ n hn
    ·exact Av r _ n hn
theorem BM{env:Env}:∀(names:List (Str×Zw)) (acc:List (Str×ZY)),∀ p∈j7 env names acc,p∈acc\/(p.1,NameKind.free)∈names
 | [],_,_,hp => .inl hp
 | (n,k)::r,acc,p,hp=>by
   unfold j7 at hp;split at hp
   ·rename_i hk;have hk:k = .free:=by simpa using hk
    subst hk;rcases BM r _ p hp with z | z
    ·rcases W4.mp z with rfl | z
     ·exact .inr WG
     ·exact .inl z
    ·exact .inr (W5 _ z)
   ·rcases BM r _ p hp with z | z
    ·exact .inl z
    ·exact .inr (W5 _ z)
theorem AE:∀(names:List (Str×Zw)) (n:Nat) (acc:List (Str×ZY)),∀ p∈Zx n names acc,p∈acc\/(n<=p.2/\(p.1,NameKind.cell)∈names)
 | [],_,_,_,hp => .inl hp
 | (x,k)::r,n,acc,p,hp=>by
   unfold Zx at hp;split at hp
   ·rename_i hk;have hk:k = .cell:=by simpa using hk
    subst hk;rcases AE r (n+1) _ p hp with z | ⟨z,w⟩
    ·rcases W4.mp z with rfl | z
     ·exact .inr ⟨W0 _,WG⟩
     ·exact .inl z
    ·exact .inr ⟨Yo z,W5 _ w⟩
   ·rcases AE r n acc p hp with z | ⟨z,w⟩
    ·exact .inl z
    ·exact .inr ⟨z,W5 _ w⟩
theorem AF:∀(names:List (Str×Zw)) (n:Nat) (acc:List (Str×ZY)),∀ p∈acc,p∈Zx n names acc
 | [],_,_,_,hp=>hp
 | (x,k)::r,n,acc,p,hp=>by
   unfold Zx;split
   ·exact AF r _ _ p (W5 _ hp)
   ·exact AF r _ _ p hp
theorem Ak:∀(names:List (Str×Zw)) (n:Nat) (acc:List (Str×ZY)) (x:Str),(x,NameKind.cell)∈names->∃ c,(x,c)∈Zx n names acc
 | (y,k)::r,n,acc,x,hx=>by
   unfold Zx;rcases W4.mp hx with e | hx
   ·cases e;simp only[beq_self_eq_true,if_true];exact⟨_,AF r _ _ _ WG⟩
   ·split
    ·exact Ak r _ _ x hx
    ·exact Ak r _ _ x hx
theorem Al:∀(names:List (Str×Zw)) (h:Heap) (acc:List (Str×ZY)),∀ p∈Zx h.objs.size names acc,p∈acc\/(A1B h names).IsCell p.2 none
 | [],_,_,_,hp => .inl hp
 | (x,k)::r,h,acc,p,hp=>by
   unfold Zx at hp;unfold A1B;split at hp
   ·rename_i hk;rw[iP hk];have:=Al r (h.push {cls := .type "cell",data := .cell none}) ((x,h.objs.size)::acc) p (by rw[Ws];exact hp);rcases this with z | z
    ·rcases W4.mp z with rfl | z
     ·exact .inr ⟨_,A12 _ _ _ _ (W2 _ rfl),rfl⟩
     ·exact .inl z
    ·exact .inr z
   ·rename_i hk;rw[iG hk];exact Al r h acc p hp
theorem AO:∀(names:List (Str×Zw)) (n:Nat) (acc:List (Str×ZY)),(acc.Pairwise λx y=>x.2≠y.2)->(∀ p∈acc,p.2<n)->(Zx n names acc).Pairwise λx y=>x.2≠y.2
 | [],_,_,h,_=>h
 | (x,k)::r,n,acc,h,hl=>by
   unfold Zx;split
   ·refine AO r (n+1) _ (Xq.mpr ⟨λy hy e=>?_,h⟩) λp hp=>?_
    ·have h1:=hl y hy;have e':n=y.2:=e;exact absurd h1 (by rw[<-e'];exact X6 _)
    ·rcases W4.mp hp with rfl | hp
     ·exact Xk _
     ·exact X7 (hl p hp)
   ·exact AO r n acc h hl
theorem Ab{env:Env}(inj:∀ x y c,env.cells.lookup x=some c->env.cells.lookup y=some c->x=y):∀(names:List (Str×Zw)) (acc:List (Str×ZY)),(names.map (·.1)).Nodup->
 (∀ x∈names,x.2 = .free->∃ c,env.cells.lookup x.1=some c)->(acc.Pairwise λx y=>x.2≠y.2)->(∀ p∈acc,env.cells.lookup p.1=some p.2/\p.1∉names.map (·.1))->(j7 env names acc).Pairwise λx y=>x.2≠y.2
 | [],_,_,_,h,_=>h
 | (n,k)::r,acc,nd,hf,h,ha=>by
   unfold j7;have nd':=Xh.mp nd;have hr:=λy hy=>hf y (W5 _ hy);split
   ·rename_i hk;have hk:k = .free:=by simpa using hk
    obtain⟨c,hc⟩:=hf (n,k) WG hk;have hc':env.cells.lookup n=some c:=hc;refine Ab inj r _ nd'.2 hr (Xq.mpr ⟨λy hy e=>?_,h⟩) λp hp=>?_
    ·have e':(env.cells.lookup n).getD 0=y.2:=e;rw[hc']at e';have e2:c=y.2:=e';have q:=(ha y hy).1;have:=inj n y.1 c hc' (by rw[e2];exact q);exact(ha y hy).2 (by rw[<-this];exact WG)
    ·rcases W4.mp hp with rfl | hp
     ·refine⟨?_,nd'.1⟩;show env.cells.lookup n=some ((env.cells.lookup n).getD 0);rw[hc'];rfl
     ·exact⟨(ha p hp).1,λz=>(ha p hp).2 (W5 _ z)⟩
   ·exact Ab inj r acc nd'.2 hr h λp hp=>⟨(ha p hp).1,λz=>(ha p hp).2 (W5 _ z)⟩
theorem AT{env:Env}:∀(names:List (Str×Zw)) (x:Str),
 (names.map λ(n,k)=>if (k == NameKind.free&&env.scope.kind == .function&&env.kindOf n == some .cell) then (n,NameKind.cell) else (n,k)).lookup x=
   (names.lookup x).map λk=>if (k == NameKind.free&&env.scope.kind == .function&&env.kindOf x == some .cell) then NameKind.cell else k
 | [],x=>rfl
 | (n,k)::r,x=>by
   have ih:=AT (env:=env) r x;rw[WQ];show Y5 x ((if (k == NameKind.free&&env.scope.kind == .function&&env.kindOf n == some .cell)=true then (n,NameKind.cell) else (n,k))::_)=_;split
   ·rename_i hc;rw[Wy,Wy];cases hx:x == n with
    | false=>exact ih
    | true=>
      have e:x=n:=by simpa using hx
      subst e;simp only[XM];rw[iP hc]
   ·rename_i hc;rw[Wy,Wy];cases hx:x == n with
    | false=>exact ih
    | true=>
      have e:x=n:=by simpa using hx
      subst e;simp only[XM];rw[iG hc]
theorem p9{α:Type}:∀{l:List (Str×α)} {n:Str} {c:α},(l.map (·.1)).Nodup->(n,c)∈l->l.lookup n=some c
 | (k,v)::r,n,c,nd,h=>by
   have nd':=Xh.mp nd;rw[Wy];rcases W4.mp h with e | h2
   ·cases e;simp
   ·cases hb:n == k with
    | true=>
      have e:n=k:=by simpa using hb
      exact absurd (WU.mpr ⟨(n,c),h2,e⟩:k∈r.map (·.1)) nd'.1
    | false=>exact p9 nd'.2 h2
theorem AG{α:Type}:∀{l:List (Str×α)} {n:Str} {c:α},(n,c)∈l->∃ d,l.lookup n=some d
 | (k,v)::r,n,c,h=>by
   rw[Wy];cases hb:n == k with
   | true=>exact⟨v,rfl⟩
   | false=>
     rcases W4.mp h with e | h
     ·cases e;simp at hb
     ·exact AG h
noncomputable abbrev v6(X:Cx)(scope:Zi)(N':List Str)(s2:ZX)(H2:Hp)(cs:List (Str×ZY))(C:ZY)(fp:List ZY):Cx where
 prog:=X.prog
 w:=X.w
 K:=X.K
 mg:=X.mg
 base:=X.base
 A:=X.A
 N:=N'
 s₀:=s2
 H₀:=H2
 env:=A0T scope cs C X.env
 outer:=X.stack
 stack:=X.stack
 ex:=fp
 fn:=λx=>scope.names.lookup x == some .cell
 calm:=X.calm
 pn:=X.pn
 xe:=λ_ _=>False
noncomputable def y7(sc0 sc:Zi)(own cn N:List Str)(js:List Nat):Bool:=
 (decide (sc.kind = .function))&&(sc.names.all λx=>!decide (x.2 = .free)||decide (sc0.names.lookup x.1=some .cell)||decide (sc0.names.lookup x.1=some .free))
 && decide ((sc.names.map (·.1)).Nodup)&&(own.all λx=>decide (sc.names.lookup x=some .local)||decide (sc.names.lookup x=some .cell))&&(cn.all λx=>decide (sc.names.lookup x=some .free))
 && decide ((own++cn).Nodup)&&decide (js.map (λj=>N[j]?)=cn.map some)
noncomputable def Bt(k:Nat)(js:List Nat)(σ:St):St:=WL k none++js.map λj=>(σ[j]?).join
noncomputable def FV(X:Cx)(ifs:List Expr)(t:TT):Prop:=
 ∀(pins:List (ZY×Obj)) (s:ZX) (σ:St) (H:Hp) (Q:Bool->Hp->Prop),Inv X pins σ H s->t σ H Q->
  Zb (Zc X.prog X.w) X.A (forIn ifs true λc r=>if r=true then do let ok <- isTrue c X.env (eval c X.env);pure (ForInStep.yield ok) else pure (ForInStep.yield r)) (TP X pins σ Q) X.xe s
theorem LR{X:Cx}:FV X [] (λ_ H Q=>Q true H):=λ_ _ _ H _ I h=>wpAny_tests_nil ⟨H,I,h⟩
theorem LS{X:Cx}{c:Expr}{t:TT}(h:PT X c t):FV X [c] t:=λpins s σ H Q I hw=>wpAny_tests_one (h pins s σ H Q I hw)
theorem LU{M:Model}{A:Zj}{E:ZW->ZX->Prop}{s:ZX}{scope:Zi}{env:Env}{cl:List (Str×ZY)}{Q:Env->ZX->Prop}
 (h:Q (newEnv scope s.heap.objs.size env.globals (Zx (s.heap.objs.size+1) scope.names cl) env.qual none .none (some env) A0B) {s with heap:=A1B (s.heap.push {cls := .type "dict",data := .dict #[]}) scope.names}):
 Zb M A (A1a scope env.globals cl [] env.qual none .none (some env)) Q E s:=by
 simp only[A1a,Yi,if_true];refine ZV (wpAny_alloc ?_);refine ZV (wpAny_layCells _ (λname kind cells=>by cases hkc:kind == NameKind.cell<;>simp[hkc]) _ _ _ _ ?_);rw[show({s with heap:=s.heap.push {cls := .type "dict",data := .dict #[]}}:ZX).heap.objs.size=s.heap.objs.size+1 from Ws ..];refine ZV ?_;rw[List.forIn_nil];exact ZZ (ZZ h)
structure CForm(prog:Zd)(w:Zf)(A:Zj)(E tg iter:Expr)(ifs:List Expr)(emit:ZW->Env->Sem Unit)(dp:Nat:=0):Prop where
 turn:∀(it:ZW) (D:ZY) (env:Env),compTurn E dp it (.ref D) env=(do
  standAt iter.pos
  match <- pyNext it with
  | none=>pure (.done .next)
  | some v=>
    A0l tg it v
    assign tg env v
    let mut ok:=true
    for c in ifs do
     if ok then ok <- isTrue c env (eval c env)
    if ok then emit (.ref D) env
    again (.compLoop E dp it (.ref D) env))
 und:∀(it acc:ZW) (env:Env),A.under (.compLoop E dp it acc env)=A
 den:∀(it acc:ZW) (env:Env),(Zc prog w).den (.compLoop E dp it acc env)=(compTurn E dp it acc env).onRaise (λx=>do noteFrame x env;theTreesLotGoes x)
 start:∀{R:Result->ZX->Prop} {s:ZX} {it acc:ZW} {env:Env},codeAny (Zc prog w) A (.compLoop E dp it acc env) R s->Zb (Zc prog w) A (pyIter it) (λit' s'=>codeAny (Zc prog w) A (.compLoop E dp it' acc env) R s') (notedBy (Zc prog w) A env λx s'=>R (.error x) s') s->
  codeAny (Zc prog w) A (.compStart E dp it acc env) R s
theorem CForm.loop{prog:Zd}{w:Zf}{A:Zj}{E tg iter:Expr}{ifs:List Expr}{emit:ZW->Env->Sem Unit}{dp:Nat}(F:CForm prog w A E tg iter ifs emit dp){R:Result->ZX->Prop}{s:ZX}{it:ZW}{D:ZY}{env:Env}(I:Nat->ZX->Prop)
 (turn:∀ n s,I n s->Zb (Zc prog w) A (pyNext it) (λr s₁=>match r with
   | none=>R (.ok .next) s₁
   | some v=>Zb (Zc prog w) A (A0l tg it v) (λ_ s₁'=>Zb (Zc prog w) A (assign tg env v) (λ_ s₂=>
      Zb (Zc prog w) A (forIn ifs true λc r=>if r=true then do let ok <- isTrue c env (eval c env);pure (ForInStep.yield ok) else pure (ForInStep.yield r)) (λok s₃=>
       if ok=true then Zb (Zc prog w) A (emit (.ref D) env) (λ_ s₅=>∃ m,m<n/\I m s₅) (λ_ _=>False) s₃
       else ∃ m,m<n/\I m s₃) (λ_ _=>False) s₂) (λ_ _=>False) s₁') (λ_ _=>False) s₁) (λ_ _=>False) s)
 (n:Nat) (h:I n s):
 codeAny (Zc prog w) A (.compLoop E dp it (.ref D) env) R s:=by
 refine codeAny_loop rfl I (λn s hI=>?_) n h;rw[F.und,F.den];refine wpAny_noted ?_;rw[F.turn];refine ZV (A0g (ZV (Zu (turn n s hI) (λr s₁ h₁=>?_) λ_ _ h'=>False.elim h')));cases r with
 | none=>exact ZZ h₁
 | some v=>
   refine ZV (Zu h₁ (λ_ s₁' h₁'=>?_) λ_ _ h'=>False.elim h');refine ZV (Zu h₁' (λ_ s₂ h₂=>ZV (Zu h₂ (λok s₃ h₃=>?_) λ_ _ h'=>False.elim h')) λ_ _ h'=>False.elim h');cases ok with
   | false=>exact ZZ ⟨rfl,h₃⟩
   | true=>exact ZV (Zu h₃ (λ_ s₅ h₅=>ZZ ⟨rfl,h₅⟩) λ_ _ h'=>False.elim h')
noncomputable def LV{α:Type}(J:It)(g:TG)(tt:TT)(tem:α->St->Hp->(α->Hp->Prop)->Prop)(σ':St)(Q:Hp->Prop)(W:Nat->Nat->α->Hp->Prop):Prop:=
 ∀ i m a H,W i m a H->(J.stop i H/\Q H)\/(J.go i H/\∃ N:α->Hp->Prop,(∀ a' H',N a' H'->∃ m',m'<m/\W (i+1) m' a' H')/\∀ x H',J.yld i H x H'->g x σ' H' λσ2 H2=>tt σ2 H2 λb H3=>if b=true then tem a σ2 H3 N else N a H3)
noncomputable def QG(elt:Expr)(acc:ZW)(env:Env):Sem Unit:=do
 let x <- eval elt env
 let _ <- call (.builtin "list.append") [acc,x]
theorem Gy{prog:Zd}{w:Zf}{A:Zj}{elt tg iter:Expr}{ifs:List Expr}{scope:Zi}{pos:Pos}:CForm prog w A (.ListComp elt [⟨tg,iter,ifs,0⟩] scope pos) tg iter ifs (QG elt) where
 turn:=λ_ _ _=>compTurn_list ..
 und:=λ_ _ _=>rfl
 den:=λ_ _ _=>rfl
 start:=λh0 h=>codeAny_compStart_list h0 h
noncomputable def UI(te:TE)(D:ZY)(ys:List V)(σ:St)(H:Hp)(N:List V->Hp->Prop):Prop:=te σ H λv H4=>H4 D=some (.lst ys)/\ys.length<Ze/\N (ys++[v]) (upd H4 D (.lst (ys++[v])))
section
variable{X:Cx}{pins:List (ZY×Obj)}{σ:St}{H2:Hp}{s2:ZX}{tg elt iter:Expr}{ifs:List Expr}{scope:Zi}{pos:Pos}{own cn:List Str}{js:List Nat}{g:TG}{tt:TT}{te:TE}
theorem FW{α:Type}{E:Expr}{emit:ZW->Env->Sem Unit}{mk:Sem ZW}{o0:Obj}{u0:HO}{a0:α}{tem:ZY->α->St->Hp->(α->Hp->Prop)->Prop}(F:CForm X.prog X.w X.A E tg iter ifs emit)(hmk:∀{Q:ZW->ZX->Prop},Q (.ref s2.heap.objs.size) {s2 with heap:=s2.heap.push o0}->Zb (Zc X.prog X.w) X.A mk Q X.xe s2)(nf0:o0.isFreed=false)(new0:∀(H:Hp) (h:Heap),h.get? s2.heap.objs.size=some o0->ObjOk X.prog X.w H h s2.heap.objs.size u0)(hok:y7 X.env.scope scope own cn X.N js=true)(hc:X.calm=true)
 (hg:∀ s2 H2 cs C fp,PG (v6 X scope (own++cn) s2 H2 cs C fp) tg g) (ht:∀ s2 H2 cs C fp,FV (v6 X scope (own++cn) s2 H2 cs C fp) ifs tt) (hem:∀ D s2 H2 cs C fp pins s σ H (a:α) (N:α->Hp->Prop),Inv (v6 X scope (own++cn) s2 H2 cs C fp) pins σ H s->tem D a σ H N->Zb (Zc X.prog X.w) X.A (emit (.ref D) (A0T scope cs C X.env)) (λ_ s1=>∃ σ1 a1 H1,Inv (v6 X scope (own++cn) s2 H2 cs C fp) pins σ1 H1 s1/\N a1 H1) (λ_ _=>False) s)
 (I2:Inv X pins σ H2 s2) {it:ZY} {fp:List ZY} {tn:Nat->Heap->Prop} {J:It} (T:Turn X.prog X.w X.K tg J fp it tn) (st2:tn 0 s2.heap) (f2:∀ b∈fp,FpOk X pins H2 b)
 {Qe:Hp->Prop} (hW:∃ W:Nat->Nat->α->Hp->Prop,(∃ m,W 0 m a0 (upd H2 s2.heap.objs.size u0))/\LV J g tt (tem s2.heap.objs.size) (Bt own.length js σ) Qe W)
 {RR:ZW->ZY->Result->ZX->Prop}
 (hRR:∀ C H' s',Inv X pins σ H' s'->FpOk X pins H' C->(∃ m,s'.heap.Ns C m)->Qe H'->RR (.ref s2.heap.objs.size) C (.ok .next) s'):
 Zb (Zc X.prog X.w) X.A mk (λacc s₃=>Zb (Zc X.prog X.w) X.A (A1a scope X.env.globals (j7 X.env scope.names []) [] X.env.qual none .none (some X.env)) (λcenv s₄=>
  codeAny (Zc X.prog X.w) X.A (.compStart E 0 (.ref it) acc {cenv with scope:=relabel scope X.env}) (RR acc cenv.locals) s₄) X.xe s₃) X.xe s2:=by
 unfold y7 at hok;simp only[Vo,dQ,W9,WK,W7,decide_eq_false_iff_not]at hok;obtain⟨⟨⟨⟨⟨⟨k1,k2⟩,k3⟩,k4⟩,k5⟩,k6⟩,k7⟩:=hok
 have hfreeK:∀ x∈scope.names,x.2 = .free->X.env.kindOf x.1=some .cell\/X.env.kindOf x.1=some .free:=λx hx hf=>by
  rcases k2 x hx with(z | z) | z
  ·exact absurd hf z
  ·exact .inl z
  ·exact .inr z
 have hfree:∀ x∈scope.names,x.2 = .free->∃ c,X.env.cells.lookup x.1=some c:=λx hx hf=>I2.ok.has x.1 (hfreeK x hx hf);refine hmk (LU ?_);have hsz3:(s2.heap.push o0).objs.size=s2.heap.objs.size+1:=Ws ..;dsimp only;generalize hh3:s2.heap.push o0=h3 at hsz3 ⊢;have old3:∀ b o,s2.heap.get? b=some o->h3.get? b=some o:=λb o e=>hh3▸Vr _ e;have hD3:h3.get? s2.heap.objs.size=some o0:=hh3▸W2 _ nf0;generalize hcs:Zx (h3.objs.size+1) scope.names (j7 X.env scope.names [])=cs;generalize hh4:A1B (h3.push {cls := .type "dict",data := .dict #[]}) scope.names=h4;have old4:∀ b o,h3.get? b=some o->h4.get? b=some o:=λb o e=>hh4▸A12 _ _ b o (Vr _ e);have old:∀ b o,s2.heap.get? b=some o->h4.get? b=some o:=λb o e=>old4 b o (old3 b o e);have hD4:h4.get? s2.heap.objs.size=some o0:=old4 _ _ hD3;have hNs:h4.Ns h3.objs.size (λ_=>none):=hh4▸(Heap.Ns.new h3 (.type "dict")).keeps (A12 _ _);generalize hC:h3.objs.size=C at hNs hcs ⊢;have hCD:@Eq Nat C (s2.heap.objs.size+1):=by rw[<-hC];exact hsz3
 have clM:=Bd (env:=X.env) scope.names [] hfree (λp hp=>absurd hp (by simp));have cellLt:∀ x c,X.env.cells.lookup x=some c->@LT.lt Nat _ c s2.heap.objs.size:=λx c e=>by obtain⟨v,z⟩:=I2.cell x c e;exact z.lt
 have apart:cs.Pairwise λx y=>x.2≠y.2:=by
  rw[<-hcs];refine AO _ _ _ (Ab I2.ok.inj scope.names [] k3 hfree List.Pairwise.nil λp hp=>absurd hp (by simp)) λp hp=>?_;have:=cellLt _ _ (clM p hp);show @LT.lt Nat _ p.2 (C+1);omega
 have csM:∀ p∈cs,X.env.cells.lookup p.1=some p.2\/(C+1<=p.2/\(p.1,NameKind.cell)∈scope.names/\h4.IsCell p.2 none):=λp hp=>by
  have hp0:=hp;rw[<-hcs]at hp;rcases AE _ _ _ p hp with z | ⟨z,y⟩
  ·exact .inl (clM p z)
  ·have e:h3.objs.size+1=(h3.push {cls := .type "dict",data := .dict #[]}).objs.size:=by rw[Ws]
   have hp':=hp;rw[<-hC,e]at hp';rcases Al _ _ _ p hp' with q | q
   ·exact .inl (clM p q)
   ·exact .inr ⟨z,y,hh4▸q⟩
 have hX:(v6 X scope (own++cn) s2 H2 cs C fp).Ok:=by
  refine⟨I2.ok.mod,k1,I2.ok.glob,I2.ok.blt,by show @LE.le Nat _ s2.heap.objs.size C;omega,λx y c h1 h2=>A1t apart (PySem.mem_of_lookup h1) (PySem.mem_of_lookup h2),λx hx=>?_,λx c hf hx=>?_,I2.ok.hd,I2.ok.frames,.inl rfl,λb hb=>?_,I2.bs,Wd I2.ok.bsz I2.sz,λb o e hb=>?_,λb hb hf=>?_,I2.stack,I2.stkFree⟩
  ·have hx':(relabel scope X.env).names.lookup x=some .cell\/(relabel scope X.env).names.lookup x=some .free:=hx
   have hl:scope.names.lookup x=some .cell\/scope.names.lookup x=some .free:=by
    unfold relabel at hx';dsimp only at hx';rw[AT]at hx';cases e:scope.names.lookup x with
    | none=>rw[e]at hx';simp at hx'
    | some k=>
      rw[e]at hx';cases k<;>simp_all
   have:∃ c,(x,c)∈cs:=by
    rw[<-hcs];rcases hl with hl | hl
    ·exact Ak _ _ _ x (PySem.mem_of_lookup hl)
    ·obtain⟨c,hc'⟩:=Av (env:=X.env) scope.names [] x (PySem.mem_of_lookup hl);exact⟨c,AF _ _ _ _ hc'⟩
   obtain⟨c,hm⟩:=this;exact AG hm
  ·have hf':scope.names.lookup x=some .cell:=by simpa using hf
   have hm:=PySem.mem_of_lookup (show cs.lookup x=some c from hx);rcases csM _ hm with z | ⟨z,_⟩
   ·
    rw[<-hcs]at hm;rcases AE _ _ _ _ hm with q | ⟨q,_⟩
    ·rcases BM (env:=X.env) scope.names [] _ q with q' | q'
     ·exact absurd q' (by simp)
     ·have:=p9 k3 q';have h2:scope.names.lookup x=some .free:=this;rw[hf']at h2;cases h2
    ·show @LE.le Nat _ s2.heap.objs.size c;have q2:@LE.le Nat _ (C+1) c:=q;omega
   ·show @LE.le Nat _ s2.heap.objs.size c;have z2:@LE.le Nat _ (C+1) c:=z;omega
  ·obtain⟨f0,f1,f2',f3,f4,f5⟩:=f2 b hb;obtain⟨o,ho,_⟩:=T.obj 0 _ st2 b hb;have hb2:@LT.lt Nat _ b s2.heap.objs.size:=Vy ho;refine⟨?_,λx c e=>?_⟩
   ·show @Ne Nat b C;omega
   ·rcases csM _ (PySem.mem_of_lookup (show cs.lookup x=some c from e)) with z | ⟨z,_⟩
    ·exact f4 x c z
    ·have z2:@LE.le Nat _ (C+1) c:=z;show @Ne Nat c b;omega
  ·obtain⟨f0,f1,f2',f3,f4,f5⟩:=f2 b hb;rcases f3 with z | z
   ·exact I2.ok.noex b o e z
   ·exact absurd (WC (Vy e) (Wd I2.ok.bsz z)) (X6 _)
  ·obtain⟨f0,f1,f2',_⟩:=f2 b hb;rcases W4.mp (I2.stkSub b hf) with z | z
   ·exact f1 z
   ·exact f2' z
 have capt:∀{H:Hp} {s:ZX},Inv X pins σ H s->∀{i:Nat} {x:Str} {v:V},(own++cn)[i]?=some x->(Bt own.length js σ)[i]?=some (some v)->∃ u,RelV v u/\((A0T scope cs C X.env).kindOf x=some .cell\/(A0T scope cs C X.env).kindOf x=some .free)/\∃ c,cs.lookup x=some c/\s.heap.IsCell c (some u):=λ{H s} IX {i x v} e1 e2=>by
  have hi:own.length<=i:=by
   rcases XY i own.length with z | z
   ·exfalso;unfold Bt at e2;rw[W6 (by simpa using z),XH,iP z]at e2;cases e2
   ·exact z
  have e1':cn[i - own.length]?=some x:=by
   have:(own++cn)[i]?=some x:=e1;rw[We hi]at this;exact this
  have e2':(js.map λj=>(σ[j]?).join)[i - own.length]?=some (some v):=by
   unfold Bt at e2;rw[We (by simpa using hi)]at e2;simpa using e2
  rw[Vx]at e2';cases hj:js[i - own.length]? with
  | none=>rw[hj]at e2';cases e2'
  | some j=>
    rw[hj]at e2';have e2'':(σ[j]?).join=some v:=by simpa using e2'
    have hσ:σ[j]?=some (some v):=by
     cases q:σ[j]? with
     | none=>rw[q]at e2'';cases e2''
     | some z=>rw[q]at e2'';simp at e2'';rw[e2'']
    have hNx:X.N[j]?=some x:=by
     have:=congrArg (λl=>l[i - own.length]?) k7;simp only[Vx,hj,e1',XM]at this;exact oj this
    have hfx:scope.names.lookup x=some .free:=k5 x (Vv e1');have hK:=hfreeK (x,.free) (PySem.mem_of_lookup hfx) rfl;have hK':X.env.kindOf x=some .cell\/X.env.kindOf x=some .free:=hK;obtain⟨m,hn,hl⟩:=IX.loc
    have hvis:Vis X.env.scope x:=by
     rcases hK' with z | z
     ·exact .inr (.inl z)
     ·exact .inr (.inr z)
    obtain⟨u,r,l⟩:=hl j x v hNx hσ hvis;rcases l with⟨l1,_⟩ | ⟨l1,c,l2,l3⟩
    ·rcases hK' with z | z
     ·rw[z]at l1;cases l1
     ·rw[z]at l1;cases l1
    ·have hrl:(A0T scope cs C X.env).kindOf x=some .cell\/(A0T scope cs C X.env).kindOf x=some .free:=by
      show(relabel scope X.env).names.lookup x=_\/(relabel scope X.env).names.lookup x=_;unfold relabel;dsimp only;rw[AT,hfx];simp only[XM];split
      ·exact .inl rfl
      ·exact .inr rfl
     refine⟨u,r,hrl,c,?_,l3⟩;obtain⟨c',hc'⟩:=hX.has x hrl;have hc2:cs.lookup x=some c':=hc';rw[hc2];have hm:=PySem.mem_of_lookup hc2
     have:X.env.cells.lookup x=some c':=by
      rcases csM _ hm with z | ⟨_,z,_⟩
      ·exact z
      ·have:=p9 k3 z;have h2:scope.names.lookup x=some .cell:=this;rw[hfx]at h2;cases h2
     rw[l2]at this;exact this.symm
 have hDn:H2 s2.heap.objs.size=none:=I2.fresh;have hCn:H2 C=none:=I2.hok.fresh (show @LE.le Nat _ s2.heap.objs.size C by omega)
 have stkNe:∀ b,b≠X.env.locals->b∉X.fs->b∉frs X.stack:=λb h1 h2 hb=>by
  rcases W4.mp (I2.stkSub b hb) with z | z
  ·exact h1 z
  ·exact h2 z
 have I4:Inv (v6 X scope (own++cn) s2 H2 cs C fp) pins (Bt own.length js σ) (upd H2 s2.heap.objs.size u0) {s2 with heap:=h4}:=by
  refine⟨hX,rfl,I2.bare,Un.laid old (W0 _) hDn,⟨λ_=>none,hNs,λi x v e1 e2 e3=>?_⟩,λx c e=>?_,?_,λx c e=>?_,λp hp=>?_,I2.hok.laid old (W0 _) (new0 _ _ hD4),?_⟩
  ·obtain⟨u,r,hr,c,l2,l3⟩:=capt I2 e1 e2;exact⟨u,r,.inr ⟨hr,c,l2,l3.keeps λb o e=>old b o e⟩⟩
  ·rcases csM _ (PySem.mem_of_lookup (show cs.lookup x=some c from e)) with z | ⟨_,_,z⟩
   ·obtain⟨v,q⟩:=I2.cell _ _ z;exact⟨v,q.keeps λb o e=>old b o e⟩
   ·exact⟨none,z⟩
  ·show upd H2 s2.heap.objs.size u0 C=none;rw[c9 (show @Ne Nat C s2.heap.objs.size by omega)];exact hCn
  ·have hne:c≠s2.heap.objs.size/\H2 c=none:=by
    rcases csM _ (PySem.mem_of_lookup (show cs.lookup x=some c from e)) with z | ⟨z,_,_⟩
    ·exact⟨W3 (cellLt _ _ z),I2.freeC _ _ z⟩
    ·have z2:@LE.le Nat _ (C+1) c:=z;exact⟨show @Ne Nat c s2.heap.objs.size by omega,I2.hok.fresh (show @LE.le Nat _ s2.heap.objs.size c by omega)⟩
   rw[c9 hne.1];exact hne.2
  ·obtain⟨e,n,ne,nf,d⟩:=I2.pin p hp;have hlt:@LT.lt Nat _ p.1 s2.heap.objs.size:=Vy e;refine⟨old _ _ e,?_,?_,stkNe _ ne nf,d⟩
   ·rw[c9 (W3 hlt)];exact n
   ·show @Ne Nat p.1 C;omega
  ·show(Bt own.length js σ).length=(own++cn).length;unfold Bt;have hl:=congrArg YV k7;simp only[Vp]at hl;simp[hl]
 have stat:∀{H':Hp},(∀ b∈fp,H' b=none)->∀ b∈fp,FpOk (v6 X scope (own++cn) s2 H2 cs C fp) pins H' b:=λhn b hb=>by
  obtain⟨f0,f1,f2',f3,f4,f5⟩:=f2 b hb;exact⟨hn b hb,(hX.exf b hb).1,stkNe b f1 f2',.inl hb,λx c e=>(hX.exf b hb).2 x c e,f5⟩
 have back:∀{σ':St} {H':Hp} {s':ZX},Inv (v6 X scope (own++cn) s2 H2 cs C fp) pins σ' H' s'->Inv X pins σ H' s':=λ{σ' H' s'} J'=>
  I2.call' (ch:=fp) J'.os J'.base J'.hok J'.bare λb hb=>by
   obtain⟨f0,f1,f2',f3,f4,f5⟩:=f2 b hb;exact⟨f3,f1,f4,f5⟩
 obtain⟨W,⟨m0,w0⟩,turn⟩:=hW
 have loop:codeAny (Zc X.prog X.w) X.A (.compLoop E 0 (.ref it) (.ref s2.heap.objs.size) (A0T scope cs C X.env)) (RR (.ref s2.heap.objs.size) C) {s2 with heap:=h4}:=by
  refine F.loop (λn s'=>∃ i ys H',Inv (v6 X scope (own++cn) s2 H2 cs C fp) pins (Bt own.length js σ) H' s'/\tn i s'.heap/\(∀ b∈fp,H' b=none)/\W i n ys H') ?_ m0
   ⟨0,a0,_,I4,T.keep _ _ _ st2 λb hb o e=>old b o e,λb hb=>?_,w0⟩
  ·rintro n s3 ⟨i,ys,H3,I3,st3,fr3,w3⟩;rcases turn i n ys H3 w3 with⟨stop,q⟩ | ⟨go,N,hN,step⟩
   ·refine thn (T.done (v6 X scope (own++cn) s2 H2 cs C fp) rfl rfl rfl hc i pins s3 _ H3 _ I3 (stat fr3) st3 stop) λr s4 ⟨hr,I5⟩=>?_;subst hr;obtain⟨m,hn,_⟩:=I5.loc;exact hRR C H3 s4 (back I5) (I2.fpOk (show @LE.le Nat _ s2.heap.objs.size C by omega) I5.free) ⟨m,hn⟩ q
   ·refine thn (T.item (v6 X scope (own++cn) s2 H2 cs C fp) rfl rfl rfl hc i pins s3 _ H3 _ I3 (stat fr3) st3 go) λr s4 ⟨u,hr,h4'⟩=>?_;subst hr;refine thn h4' λ_ s5 ⟨x,H5,I5,r5,y5,st5,fr5⟩=>?_;have I5':=I5.pinned (stat fr5) (T.obj _ _ st5);refine thn (hg s2 H2 cs C fp _ s5 _ H5 x u _ I5' r5 (step x H5 y5)) λ_ s6 ⟨σ6,H6,I6,q6⟩=>?_;refine thn (ht s2 H2 cs C fp _ s6 σ6 H6 _ I6 q6) λb s7 ⟨H7,I7,q7⟩=>?_
    have again:∀{σ8:St} {H8:Hp} {s8:ZX} {ys8:α},Inv (v6 X scope (own++cn) s2 H2 cs C fp) (pins++Br fp s5.heap) σ8 H8 s8->(∀(j:Nat) v,(Bt own.length js σ)[j]?=some (some v)->σ8[j]?=some (some v))->(∃ m',m'<n/\W (i+1) m' ys8 H8)->
     ∃ m,m<n/\∃ i ys H',Inv (v6 X scope (own++cn) s2 H2 cs C fp) pins (Bt own.length js σ) H' s8/\tn i s8.heap/\(∀ b∈fp,H' b=none)/\W i m ys H':=λ{σ8 H8 s8 ys8} I8 hw8 ⟨m',hm,w8⟩=>by
     refine⟨m',hm,i+1,ys8,H8,I8.unpinned.weak (by rw[I8.len,I4.len]) hw8,T.keep _ _ _ st5 λb hb o e=>(I8.pin (b,o) (WH _ (WH _ (B8 hb e)))).1,λb hb=>?_,w8⟩;obtain⟨o,e,d⟩:=T.obj _ _ st5 b hb;exact(I8.pin (b,o) (WH _ (WH _ (B8 hb e)))).2.1
    have capK:∀{σ8:St} {H8:Hp} {s8:ZX},Inv (v6 X scope (own++cn) s2 H2 cs C fp) (pins++Br fp s5.heap) σ8 H8 s8->Inv (v6 X scope (own++cn) s2 H2 cs C fp) (pins++Br fp s5.heap) (Bt own.length js σ) H8 s8:=λ{σ8 H8 s8} I8=>by
     have IX:=back I8.unpinned;refine⟨I8.ok,I8.os,I8.bare,I8.base,?_,I8.cell,I8.free,I8.freeC,I8.pin,I8.hok,I4.len⟩;obtain⟨m,hn,_⟩:=I8.loc;refine⟨m,hn,λi x v e1 e2 e3=>?_⟩;obtain⟨u,r,z⟩:=capt IX e1 e2;exact⟨u,r,.inr z⟩
    cases b with
    | false=>
      rw[iG Vz];rw[iG Vz]at q7;exact again (capK I7) (λ_ _ e=>e) (hN _ _ q7)
    | true=>
      rw[iP rfl];rw[iP rfl]at q7;exact thn (hem _ s2 H2 cs C fp _ s7 σ6 H7 _ _ I7 q7) λ_ s9 ⟨σ9,a9,H9,I9,q9⟩=>again (capK I9) (λ_ _ e=>e) (hN _ _ q9)
  ·obtain⟨f0,_⟩:=f2 b hb;obtain⟨o,ho,_⟩:=T.obj 0 _ st2 b hb;rw[c9 (W3 (Vy ho))];exact f0
 exact F.start loop (T.self _ 0 _ _ _ (T.keep _ _ _ st2 λb hb o e=>old b o e) loop)
end
end L2
namespace PySem
open AutoSeq1 (wpAny_loadPart')
section
variable{prog:Zd}{w:Zf}{A:Zj}{E:ZW->ZX->Prop}{s:ZX}
theorem BK{it l:ZY}{i:Nat}{items}{x:ZW}{Q:ZW->ZX->Prop}(hit:s.heap.IsTupleIter it l i)
 (hl:s.heap.IsTuple l items) (hx:items[i]?=some x)
 (hQ:∀ h',h'.IsTupleIter it l (i+1)->WR it s.heap h'->Q x {s with heap:=h'}):
 Zb (Zc prog w) A (Builtin.SmallTypes.nextOf (.ref it)) Q E s:=by
 obtain⟨o,ho,hc,hd⟩:=id hit;obtain⟨ol,hol,_,nl,hdl⟩:=hl;unfold Builtin.SmallTypes.nextOf
 refine ZV (Zq (name:=Str.ofString "__next__") hit.typeIs F.slot_tuple_iterator_next
  (Zr F.slot_tuple_iterator_next hit.typeIs F.entry_tuple_iterator_next ?_ (F.args_tuple_iterator_next_1 _)))
 show Zb _ _ (field (.ref it) 0 >>= _) _ _ s;refine ZV (A0n ho hd (x := .ref l) rfl ?_);show Zb _ _ (if (Value.ref l == Value.none)=true then _ else _) _ _ s;rw[iG (show ¬ ((Value.ref l == Value.none)=true) from Vz)];show Zb _ _ (field (.ref it) 1 >>= _) _ _ s;refine ZV (A0n ho hd (x := .int i 0) rfl ?_);show Zb _ _ (A0U (.ref l) >>= _) _ _ s;refine ZV (A07 hol hdl ?_);simp only[Xr,hx];refine ZV (A01 ho hd (by simp) (ZZ ⟨x,rfl,ZZ (hQ _ ?_ (WR.update ..))⟩))
 exact⟨_,Wc _ ho (Obj.isFreed_of_fields (Obj.data_mapFields hd _)),(Obj.cls_mapFields ..).trans hc,by
  rw[Obj.data_mapFields hd];simp[rawInt]⟩
theorem BN{it l:ZY}{i:Nat}{items}{Q:ZW->ZX->Prop}(hh:A.handled=none)
 (hit:s.heap.IsTupleIter it l i) (hl:s.heap.IsTuple l items) (hx:items[i]?=none)
 (hE:∀ h' e,Z8 it s.heap h'->(∃ o,h'.get? e=some o/\o.cls = .type "StopIteration")->E (.ref e) {s with heap:=h'}):
 Zb (Zc prog w) A (Builtin.SmallTypes.nextOf (.ref it)) Q E s:=by
 obtain⟨o,ho,hc,hd⟩:=id hit;obtain⟨ol,hol,_,nl,hdl⟩:=hl;unfold Builtin.SmallTypes.nextOf
 refine ZV (Zq (name:=Str.ofString "__next__") hit.typeIs F.slot_tuple_iterator_next
  (Zr F.slot_tuple_iterator_next hit.typeIs F.entry_tuple_iterator_next ?_ (F.args_tuple_iterator_next_1 _)))
 show Zb _ _ (field (.ref it) 0 >>= _) _ _ s;refine ZV (A0n ho hd (x := .ref l) rfl ?_);show Zb _ _ (if (Value.ref l == Value.none)=true then _ else _) _ _ s;rw[iG (show ¬ ((Value.ref l == Value.none)=true) from Vz)];show Zb _ _ (field (.ref it) 1 >>= _) _ _ s;refine ZV (A0n ho hd (x := .int i 0) rfl ?_);show Zb _ _ (A0U (.ref l) >>= _) _ _ s;refine ZV (A07 hol hdl ?_);simp only[Xr,hx];refine ZV (A08 (ZV (A01 ho hd (by simp) ?_)))
 first
  | refine ZV (A0v ?_)
  | skip
 show Zb _ _ (newExc (.type "StopIteration") [] >>= _) _ _ _;refine ZV ?_;simp only[newExc,newTuple];refine ZV (Zk ?_ (by size_fits));refine ZV (m:=A0E _ _) (A1b (a:=Value.none) (by first | rfl | (simp only[A0E];rfl)) ?_);refine Zk ?_ (by size_fits);simp only[raiseNew];refine ZV (wpAny_handled ?_)
 first | rw[show A.in1.handled=none from hh] | rw[hh]
 refine ZV (ZZ (wpAny_throw ?_));exact hE _ _ (((WR.update ..).extBut.push _).push _) ⟨_,W2 _ rfl,rfl⟩
end
theorem BF{prog:Zd}{w:Zf}{A:Zj}(hh:A.handled=none)(it l:ZY)(hne:l≠it)(items:Array ZW):
 Draws prog w A it [it,l] items.size (λi v=>items[i]?=some v) (λi h=>h.IsTupleIter it l i/\h.IsTuple l items) where
 live:=λ_ _ st=>let ⟨o,ho,_⟩:=st.1;⟨o,ho⟩
 frame:=λ_ _ _ st hk=>⟨st.1.at λo e=>hk it (by simp) o e,let ⟨o,ho,r⟩:=st.2;⟨o,hk l (by simp) o ho,r⟩⟩
 item:=λi s Q E hi st hQ=>by
  refine BK st.1 st.2 (x:=items[i]) (by simp[hi]) λh' hit' hs'=>?_;exact hQ _ h' s.toks (by simp[hi]) ⟨hit',st.2.extBut hs'.extBut hne⟩ hs'
 done:=λs Q E st hE=>BN hh st.1 st.2 (by simp) hE
theorem Bu(l:ZY)(items:Array ZW)(n:Nat)(dct:Option ZY)(sl:Array (Option ZW)):
 Meets (Builtin.«enumerate.__new__» ⟨[.type "enumerate",.ref l],[]⟩) (λ_ R s=>s.heap.get? l=some {cls := .type "tuple",dict:=dct,data := .seq items n,slots:=sl}/\
  R (.ok (.ret (.ref (s.heap.push {cls := .type "tuple_iterator",data := .fields #[.ref l,.int 0 0]}).objs.size)))
   {s with heap:=(s.heap.push {cls := .type "tuple_iterator",data := .fields #[.ref l,.int 0 0]}).push {cls := .type "enumerate",data := .fields #[.none,.bool false,.ref s.heap.objs.size,rawInt 0,.none,.none]}}):=
 .of_wp λprog w A R s h=>by
  obtain⟨hp,g,d,tk,os⟩:=s;obtain⟨hl,h⟩:=h;have hsub:=sub_enumerate;have hL:Heap.IsTuple (Shared.heap ⟨hp,g,d,tk,os⟩) l items:=⟨_,hl,rfl,n,rfl⟩
  wp_walk using wpAny_loadPart' hl
  refine wpAny_stack_any λst=>ZZ ?_;split
  ·rename_i c _ _ _ _ _;cases(c == Value.type "enumerate")
   ·wp_walk using wpAny_loadPart' hl,A09 hL
    exact⟨_,rfl,h⟩
   ·wp_walk using wpAny_loadPart' hl,A09 hL
    exact⟨_,rfl,h⟩
  ·wp_walk using wpAny_loadPart' hl,A09 hL
   exact⟨_,rfl,h⟩
section
variable{prog:Zd}{w:Zf}{A:Zj}{E:ZW->ZX->Prop}{s:ZX}
theorem Am{l:ZY}{items:Array ZW}{Q:ZW->ZX->Prop}(hL:s.heap.IsTuple l items)
 (h:∀ h',IsEnum h' (s.heap.objs.size+1) s.heap.objs.size 0 .none->h'.IsTupleIter s.heap.objs.size l 0->h'.objs.size=s.heap.objs.size+2->
   (∀ b o,s.heap.get? b=some o->h'.get? b=some o)->Q (.ref (s.heap.objs.size+1)) {s with heap:=h'}):
 Zb (Zc prog w) A (call (.type "enumerate") [.ref l]) Q E s:=by
 obtain⟨⟨c,dct,dt,sl⟩,hl,hc,n,hd⟩:=hL;replace hc:c = .type "tuple":=hc;replace hd:dt = .seq items n:=hd;subst hc hd
 refine callType_new F.called_enumerate (by decide) (F.typeCall_enumerate_1 _) (F.newCall_enumerate_1 _) (λobj=>F.args_object_init_2 obj _) F.entry_enumerate_new
  (Bu l items n dct sl) ⟨hl,?_⟩
 have hz:(s.heap.push {cls := .type "tuple_iterator",data := .fields #[.ref l,.int 0 0]}).objs.size=s.heap.objs.size+1:=Ws ..;show _/\_;rw[hz]
 have he:IsEnum ((s.heap.push {cls := .type "tuple_iterator",data := .fields #[.ref l,.int 0 0]}).push
  {cls := .type "enumerate",data := .fields #[.none,.bool false,.ref s.heap.objs.size,rawInt 0,.none,.none]}) (s.heap.objs.size+1) s.heap.objs.size 0 .none:=by
  have:=W2 (s.heap.push {cls := .type "tuple_iterator",data := .fields #[.ref l,.int 0 0]})
   (o:={cls := .type "enumerate",data := .fields #[.none,.bool false,.ref s.heap.objs.size,rawInt 0,.none,.none]}) rfl
  rw[hz]at this;exact this
 refine⟨⟨_,he,rfl⟩,h _ he ⟨_,Vr _ (W2 _ rfl),rfl,rfl⟩ (by rw[Ws,hz]) λb o x=>Vr _ (Vr _ x)⟩
end
end PySem
namespace L2
open PySem PySem.Spec PyProof.Rows
section
variable{X:Cx}{pins:List (ZY×Obj)}{σ:St}{H:Hp}{s:ZX}{h':Heap}
theorem Inv.turnedL{t':Nat}{ch:List ZY}(I:Inv X pins σ H s)(k:∀ b o,b∉ch->s.heap.get? b=some o->h'.get? b=some o)(hf:∀ b∈ch,FpOk X pins H b):Inv X pins σ H {s with heap:=h',toks:=t'}:=by
 have nit:∀ b u,H b=some u->b∉ch:=λb u e z=>by rw[(hf b z).1]at e;cases e
 refine I.step (g':=s.gens) (d':=s.drawn) (ch:=ch) (λb hb=>?_) (λb o _ _ hc e _=>k b o hc e) (λb o _ _ hc e _=>⟨o.slots,k b o hc e⟩) (λ_ _ _ _ n=>n)
  (λb o hc e=>⟨o,k b o hc e⟩) (λ_ _ e=>e) (λ_ _ _ e=>e) (λb ps e=>⟨#[],by rw[e];simp⟩) (λm hm=>?_) (λb u e=>?_) I.bare
 ·obtain⟨f0,f1,f2,f3,f4,f5⟩:=hf b hb;exact⟨f3,f1,f4,f5⟩
 ·obtain⟨o,es,ep,ho,r⟩:=hm;exact⟨o,es,ep,k _ o (λz=>(hf _ z).2.1 rfl) ho,r⟩
 ·refine(I.hok b u e).stay (λc v hc q=>k c v ?_ q) (λ_ q=>q) λ_ _ q=>q;rcases hc with z | z
  ·rw[z];exact nit b u e
  ·exact nit c _ z
theorem Inv.turnLay{t':Nat}{ch:List ZY}{o:HO}(I:Inv X pins σ H s)(k:∀ b u,b∉ch->s.heap.get? b=some u->h'.get? b=some u)(hf:∀ b∈ch,FpOk X pins H b)
 (new:ObjOk X.prog X.w (upd H s.heap.objs.size o) h' s.heap.objs.size o):Inv X pins σ (upd H s.heap.objs.size o) {s with heap:=h',toks:=t'}:=by
 have hT:H s.heap.objs.size=none:=I.fresh;have nit:∀ b u,H b=some u->b∉ch:=λb u e z=>by rw[(hf b z).1]at e;cases e
 have lt:∀ b u,s.heap.get? b=some u->b≠s.heap.objs.size:=λb u e=>W3 (Vy e)
 refine I.step (g':=s.gens) (d':=s.drawn) (ch:=ch) (λb hb=>?_) (λb o _ _ hc e _=>k b o hc e) (λb o _ _ hc e _=>⟨o.slots,k b o hc e⟩) (λb u _ e n=>by rw[c9 (lt b u e)];exact n)
  (λb o hc e=>⟨o,k b o hc e⟩) (λb xs e=>by rw[c9 (f8 e hT)];exact e) (λb u xs e=>by rw[c9 (f8 e hT)];exact e) (λb ps e=>⟨#[],by rw[c9 (f8 e hT),e];simp⟩) (λm hm=>?_) (λb u e=>?_) I.bare
 ·obtain⟨f0,f1,f2,f3,f4,f5⟩:=hf b hb;exact⟨f3,f1,f4,f5⟩
 ·obtain⟨o,es,ep,ho,r⟩:=hm;exact⟨o,es,ep,k _ o (λz=>(hf _ z).2.1 rfl) ho,r⟩
 ·by_cases hb:b=s.heap.objs.size
  ·subst hb;rw[j3]at e;cases e;exact new
  ·rw[c9 hb]at e;refine(I.hok b u e).stay (λc v hc q=>k c v ?_ q) (λc q=>by rw[c9 (f8 q hT)];exact q) λc xs q=>by rw[c9 (f8 q hT)];exact q
   rcases hc with z | z
   ·rw[z];exact nit b u e
   ·exact nit c _ z
end
noncomputable def RX(K:Vn)(a:ZY):It:=
 ⟨λi H=>∃ xs x,SqL K H a xs/\xs[i]?=some x,λi H x H'=>∃ p v,H p=none/\x = .ref p/\(∀ xs,SqL K H a xs->xs[i]?=some v)/\H'=upd H p (.tup [.int i,v]),λi H=>∃ xs,SqL K H a xs/\xs.length=i⟩
noncomputable def RY(K:Vn)(a:ZY):It:=
 ⟨λi H=>∃ xs x,SqT K H a xs/\xs[i]?=some x,λi H x H'=>∃ p v,H p=none/\x = .ref p/\(∀ xs,SqT K H a xs->xs[i]?=some v)/\H'=upd H p (.tup [.int i,v]),λi H=>∃ xs,SqT K H a xs/\xs.length=i⟩
theorem LW:2<=Ze:=by decide
theorem Gz{P:Zd}{w:Zf}{K:Vn}{elts:List Expr}{kx:Nat}{tp:Pos}(a e it:ZY)(hei:e≠it)(hae:a≠e)(hai:a≠it):Turn P w K (.Tuple elts kx tp) (RX K a) [e,it] e (λi h=>(∃ old,IsEnum h e it i old)/\h.IsListIter it a i) where
 mem:=by simp
 obj:=λi h st b hb=>by
  rcases W4.mp hb with rfl | hb
  ·obtain⟨⟨old,z⟩,_⟩:=st;exact⟨_,z,λv q=>by cases q⟩
  ·have e':b=it:=by simpa using hb
   subst e';obtain⟨o,q,c,d⟩:=st.2;exact⟨o,q,λv z=>by rw[d]at z;cases z⟩
 keep:=λi h h' st k=>⟨let ⟨old,z⟩:=st.1;⟨old,k e (by simp) _ z⟩,st.2.at λo q=>k it (by simp) o q⟩
 item:=by
  intro X hP hw hK hc i pins s σ H E I hf st hg;subst hP hw hK;obtain⟨xs,x,hq,hx⟩:=hg;obtain⟨its,rv,p,hz⟩:=I.list hq;obtain⟨u,hu,ru⟩:=rv.get hx;obtain⟨⟨old,he⟩,hli⟩:=st
  have hil:i<its.toArray.size:=by
   have:=(gM hu).1;simpa using this
  refine A0V (Draws.list (prog:=X.prog) (w:=X.w) (A:=X.A.in1) (show X.A.in1.handled=none from I.ok.hd hc) it a hai its.toArray) he ⟨hli,p.isList⟩ hil hei (by simp[hei,Ne.symm hae]) λy h' tk hy ho hs' hT hsz hk=>?_
  have hyu:y=u:=by
   have:its.toArray[i]?=some u:=by simpa using hu
   rw[this]at hy;exact(oj hy).symm
  subst hyu;refine⟨_,rfl,?_⟩
  have I1:Inv X pins σ (upd H s.heap.objs.size (.tup [.int i,x])) {s with heap:=h',toks:=tk+1}:=
   I.turnLay (ch:=[e,it]) (λb o hb q=>hk b o (λz=>hb (by simp[z])) (λz=>hb (by simp[z])) q) hf ⟨LW,[.int i tk,y],.cons ⟨tk,rfl⟩ (.cons ru .nil),⟨_,hT,rfl,_,rfl⟩⟩
  refine A0F ho λh2 he2 hs2=>?_
  have hfp1:∀ b∈[e,it],FpOk X pins (upd H s.heap.objs.size (.tup [.int i,x])) b:=λb hb=>by
   obtain⟨f0,f1⟩:=hf b hb
   have hbl:b≠s.heap.objs.size:=by
    rcases W4.mp hb with rfl | hb
    ·exact W3 (Vy he)
    ·have e':b=it:=by simpa using hb
     subst e';obtain⟨o,q,_⟩:=hli;exact W3 (Vy q)
   exact⟨by rw[c9 hbl];exact f0,f1⟩
  have I2:Inv X pins σ (upd H s.heap.objs.size (.tup [.int i,x])) {s with heap:=h2,toks:=tk+1}:=
   Inv.turnedL (s:={s with heap:=h',toks:=tk+1}) (t':=tk+1) (ch:=[e,it]) I1 (λb o hb q=>(hs2.2 b (λz=>hb (by simp[z]))).trans q) hfp1
  refine⟨.ref s.heap.objs.size,_,I2,rfl,⟨_,x,I.fresh,rfl,λys hy=>by rw[I.list_inj hy hq];exact hx,rfl⟩,⟨⟨y,by simpa using he2⟩,hs'.1.extBut hs2.extBut (Ne.symm hei)⟩,λb hb=>(hfp1 b hb).1⟩
 done:=by
   intro X hP hw hK hc i pins s σ H E I hf st hg;subst hP hw hK;obtain⟨xs,hq,hx⟩:=hg;obtain⟨its,rv,p,hz⟩:=I.list hq;obtain⟨⟨old,he⟩,hli⟩:=st;have hl:=rv.length;have hn:its.toArray.size=i:=by simp;omega
   refine A11 (Draws.list (prog:=X.prog) (w:=X.w) (A:=X.A.in1) (show X.A.in1.handled=none from I.ok.hd hc) it a hai its.toArray) he (by rw[hn];exact⟨hli,p.isList⟩) λh' eb=>⟨rfl,I.turnedL (t':=s.toks) (ch:=[e,it]) (λb o hb q=>eb b o (λz=>hb (by simp[z])) q) hf⟩
 self:=λ_ _ _ _ _ st h=>let ⟨old,z⟩:=st.1;A0p z h
theorem HA{P:Zd}{w:Zf}{K:Vn}{elts:List Expr}{kx:Nat}{tp:Pos}(a e it:ZY)(hei:e≠it)(hae:a≠e)(hai:a≠it):Turn P w K (.Tuple elts kx tp) (RY K a) [e,it] e (λi h=>(∃ old,IsEnum h e it i old)/\h.IsTupleIter it a i) where
 mem:=by simp
 obj:=λi h st b hb=>by
  rcases W4.mp hb with rfl | hb
  ·obtain⟨⟨old,z⟩,_⟩:=st;exact⟨_,z,λv q=>by cases q⟩
  ·have e':b=it:=by simpa using hb
   subst e';obtain⟨o,q,c,d⟩:=st.2;exact⟨o,q,λv z=>by rw[d]at z;cases z⟩
 keep:=λi h h' st k=>⟨let ⟨old,z⟩:=st.1;⟨old,k e (by simp) _ z⟩,st.2.at λo q=>k it (by simp) o q⟩
 item:=by
  intro X hP hw hK hc i pins s σ H E I hf st hg;subst hP hw hK;obtain⟨xs,x,hq,hx⟩:=hg;obtain⟨its,rv,p,hz⟩:=I.tuple hq;obtain⟨u,hu,ru⟩:=rv.get hx;obtain⟨⟨old,he⟩,hli⟩:=st
  have hil:i<its.toArray.size:=by
   have:=(gM hu).1;simpa using this
  refine A0V (BF (prog:=X.prog) (w:=X.w) (A:=X.A.in1) (show X.A.in1.handled=none from I.ok.hd hc) it a hai its.toArray) he ⟨hli,p⟩ hil hei (by simp[hei,Ne.symm hae]) λy h' tk hy ho hs' hT hsz hk=>?_
  have hyu:y=u:=by
   have:its.toArray[i]?=some u:=by simpa using hu
   rw[this]at hy;exact(oj hy).symm
  subst hyu;refine⟨_,rfl,?_⟩
  have I1:Inv X pins σ (upd H s.heap.objs.size (.tup [.int i,x])) {s with heap:=h',toks:=tk+1}:=
   I.turnLay (ch:=[e,it]) (λb o hb q=>hk b o (λz=>hb (by simp[z])) (λz=>hb (by simp[z])) q) hf ⟨LW,[.int i tk,y],.cons ⟨tk,rfl⟩ (.cons ru .nil),⟨_,hT,rfl,_,rfl⟩⟩
  refine A0F ho λh2 he2 hs2=>?_
  have hfp1:∀ b∈[e,it],FpOk X pins (upd H s.heap.objs.size (.tup [.int i,x])) b:=λb hb=>by
   obtain⟨f0,f1⟩:=hf b hb
   have hbl:b≠s.heap.objs.size:=by
    rcases W4.mp hb with rfl | hb
    ·exact W3 (Vy he)
    ·have e':b=it:=by simpa using hb
     subst e';obtain⟨o,q,_⟩:=hli;exact W3 (Vy q)
   exact⟨by rw[c9 hbl];exact f0,f1⟩
  have I2:Inv X pins σ (upd H s.heap.objs.size (.tup [.int i,x])) {s with heap:=h2,toks:=tk+1}:=
   Inv.turnedL (s:={s with heap:=h',toks:=tk+1}) (t':=tk+1) (ch:=[e,it]) I1 (λb o hb q=>(hs2.2 b (λz=>hb (by simp[z]))).trans q) hfp1
  refine⟨.ref s.heap.objs.size,_,I2,rfl,⟨_,x,I.fresh,rfl,λys hy=>by rw[I.tuple_inj hy hq];exact hx,rfl⟩,⟨⟨y,by simpa using he2⟩,hs'.1.extBut hs2.extBut (Ne.symm hei)⟩,λb hb=>(hfp1 b hb).1⟩
 done:=by
   intro X hP hw hK hc i pins s σ H E I hf st hg;subst hP hw hK;obtain⟨xs,hq,hx⟩:=hg;obtain⟨its,rv,p,hz⟩:=I.tuple hq;obtain⟨⟨old,he⟩,hli⟩:=st;have hl:=rv.length;have hn:its.toArray.size=i:=by simp;omega
   refine A11 (BF (prog:=X.prog) (w:=X.w) (A:=X.A.in1) (show X.A.in1.handled=none from I.ok.hd hc) it a hai its.toArray) he (by rw[hn];exact⟨hli,p⟩) λh' eb=>⟨rfl,I.turnedL (t':=s.toks) (ch:=[e,it]) (λb o hb q=>eb b o (λz=>hb (by simp[z])) q) hf⟩
 self:=λ_ _ _ _ _ st h=>let ⟨old,z⟩:=st.1;A0p z h
section
variable{X:Cx}
noncomputable def UJ(K:Vn)(ta:TA):TI:=λσ H R=>ta σ H λvs H1=>∃ a,vs=[.ref a]/\(((∃ xs,SqL K H1 a xs)/\R (RX K a) H1)\/((∃ xs,SqT K H1 a xs)/\R (RY K a) H1))
theorem D7:Zh "enumerate"=some (.type "enumerate"):=by decide +kernel
theorem ON{a:Expr}{ta:TA}{p pos:Pos}{elts:List Expr}{kx:Nat}{tp:Pos}(hg:Gl X "enumerate")(hm:X.mg "enumerate"=none)(ha:PA X [a] ta)(hs:Zg [a] X.env=[(false,eval a X.env)]:=by rfl):
 PI X (.Tuple elts kx tp) (.Call (.Name "enumerate" p) [a] [] pos) (UJ X.K ta):=by
 intro pins s σ H R I h;refine Call_ (Aj I hg hm D7 (PyProof.Rows.callWith_type1 (thn (ha pos pins s σ H _ I h) λus s1 ⟨vs,H1,I1,r1,q1⟩=>?_) hs rfl));obtain⟨l,e,q1⟩:=q1;subst e;cases r1 with
 | cons r rr=>
   cases rr;cases r;rcases q1 with⟨⟨xs,hq⟩,q⟩ | ⟨⟨xs,hq⟩,q⟩
   ·obtain⟨its,rv,pl,hz⟩:=I1.list hq;have hlt:@LT.lt Nat _ l s1.heap.objs.size:=by obtain⟨o,n,e,_⟩:=pl;exact Vy e
    refine call_enumerate_list pl.isList λh' he hli hsz hk=>?_;refine A0p he ?_;have I2:Inv X pins σ H1 {s1 with heap:=h'}:=I1.kept (t':=s1.toks) hk;refine⟨s1.heap.objs.size+1,[s1.heap.objs.size+1,s1.heap.objs.size],_,_,H1,rfl,I2,Gz l _ s1.heap.objs.size (show @Ne Nat _ _ by omega) (show @Ne Nat _ _ by omega) (show @Ne Nat _ _ by omega),⟨⟨_,he⟩,hli⟩,λb hb=>?_,q⟩
    have hb2:@LE.le Nat _ s1.heap.objs.size b:=by
     rcases W4.mp hb with rfl | hb
     ·exact Y6 _
     ·have e:b=s1.heap.objs.size:=by simpa using hb
      rw[e];exact W0 _
    exact I1.fpOk hb2 (I1.hok.fresh hb2)
   ·obtain⟨its,rv,pl,hz⟩:=I1.tuple hq;have hlt:@LT.lt Nat _ l s1.heap.objs.size:=by obtain⟨o,e,_⟩:=pl;exact Vy e
    refine Am (show s1.heap.IsTuple l its.toArray from pl) λh' he hli hsz hk=>?_;refine A0p he ?_;have I2:Inv X pins σ H1 {s1 with heap:=h'}:=I1.kept (t':=s1.toks) hk;refine⟨s1.heap.objs.size+1,[s1.heap.objs.size+1,s1.heap.objs.size],_,_,H1,rfl,I2,HA l _ s1.heap.objs.size (show @Ne Nat _ _ by omega) (show @Ne Nat _ _ by omega) (show @Ne Nat _ _ by omega),⟨⟨_,he⟩,hli⟩,λb hb=>?_,q⟩
    have hb2:@LE.le Nat _ s1.heap.objs.size b:=by
     rcases W4.mp hb with rfl | hb
     ·exact Y6 _
     ·have e:b=s1.heap.objs.size:=by simpa using hb
      rw[e];exact W0 _
    exact I1.fpOk hb2 (I1.hok.fresh hb2)
end
theorem Ja(its:List ZW)(k:Nat)(y:ZW):(its.toArray.extract 0 k).push y++its.toArray.extract k=(its.take k++y::its.drop k).toArray:=by
 apply Array.toList_inj.mp;simp
 first
  | done
  | exact YJ (by simp)
section
variable{X:Cx}
noncomputable def IQ:V->List V->Hp->VK->Prop:=λx vs H Q=>∃ l xs i y,x = .ref l/\vs=[.int i,y]/\H l=some (.lst xs)/\0<=i/\i<=xs.length/\xs.length<Ze/\Q .non (upd H l (.lst (xs.take i.toNat++y::xs.drop i.toNat)))
theorem EC:MtM X "list.insert" IQ:=by
 intro pins s σ H x vs v us Q I rx rv h;obtain⟨l,xs,i,y,rfl,rfl,hH,h0,h1,hz,q⟩:=h;cases rx;obtain⟨u1,u2,rfl,⟨t,rfl⟩,ru⟩:=Vals.two rv;obtain⟨z,its,n,r,hl,e⟩:=I.lstM hH;have hn:=Bs;refine A0s F.slot_list_insert ⟨_,e,rfl⟩ F.entry_list_insert (F.args_list_insert_3 _ _ _) (AutoSeq1.list_insert_list_int_val_1 l its.toArray n i t u2 (by rw[A1N (by omega) (by omega)];exact Vz) (by rw[Vu];omega)) ⟨e,?_⟩;refine⟨.non,_,I.lset (its':=its.take i.toNat++u2::its.drop i.toNat) hH e ?_ (Vals.append (r.take _) (.cons ru (r.drop _))) ?_,rfl,q⟩
 ·have hk:(if i<0 then (i+(its.toArray.size:Int)).toNat else min i.toNat its.toArray.size)=i.toNat:=by
   rw[iG (by omega),Vu];omega
  show(let k:=if i<0 then (i+(its.toArray.size:Int)).toNat else min i.toNat its.toArray.size;(its.toArray.extract 0 k).push u2++its.toArray.extract k)=_;rw[hk];exact Ja its i.toNat u2
 ·rw[Vs,Wn,Wr,Xd];omega
noncomputable def An(xs ys:List V):Bool:=xs.length == ys.length&&(xs.zip ys).all λp=>eqV p.1 p.2
noncomputable def OO(K:Vn)(neg:Bool):R2:=λx y H Q=>∃ a b xs ys,x = .ref a/\y = .ref b/\SqL K H a xs/\SqL K H b ys/\((xs.all y9=true/\ys.all y9=true)\/xs=[]\/ys=[])/\Q (.bl (if neg then !An xs ys else An xs ys)) H
theorem D8{xs ys:List V}(hl:xs.length=ys.length):(Vw xs.length).all (λj=>eqV (xs.getD j .non) (ys.getD j .non))=An xs ys:=by
 have e1:An xs ys=(xs.zip ys).all λp=>eqV p.1 p.2:=by unfold An;simp[hl]
 rw[e1,Wa,W9,W9];constructor
 ·intro h p hp;obtain⟨j,hj,e⟩:=XF.mp hp;have hj1:j<xs.length:=by simp at hj;omega
  have hj2:j<ys.length:=by omega
  have:=h j (WJ.mpr hj1);rw[<-e];simpa[X9,hj1,hj2] using this
 ·intro h j hj;have hj1:j<xs.length:=WJ.mp hj;have hj2:j<ys.length:=by omega
  have:=h (xs[j],ys[j]) (XF.mpr ⟨j,by simp;omega,by simp⟩);simpa[X9,hj1,hj2] using this
theorem D9{xs ys:List V}{us ws:List ZW}{A:Zj}{s:ZX}(r1:Vals xs us)(r2:Vals ys ws)(f:(xs.all y9=true/\ys.all y9=true)\/xs=[]\/ys=[]):
 ∀ j (h1:j<us.toArray.size) (h2:j<ws.toArray.size),SeqAt.EqAt A s us.toArray[j] ws.toArray[j] (eqV (xs.getD j .non) (ys.getD j .non)):=by
 intro j h1 h2;have l1:=r1.length;have l2:=r2.length;simp only[Vu]at h1 h2;have hj1:j<xs.length:=by omega
 have hj2:j<ys.length:=by omega
 obtain⟨f1,f2⟩:xs.all y9=true/\ys.all y9=true:=by
  rcases f with f | f | f
  ·exact f
  ·subst f;simp at hj1
  ·subst f;simp at hj2
 obtain⟨u,eu,ru⟩:=r1.get (i:=j) (x:=xs[j]) (by simp[hj1]);obtain⟨w',ew,rw'⟩:=r2.get (i:=j) (x:=ys[j]) (by simp[hj2])
 have e1:us.toArray[j]=u:=by
  have:=gM eu;obtain⟨_,q⟩:=this;simpa using q
 have e2:ws.toArray[j]=w':=by
  obtain⟨_,q⟩:=gM ew;simpa using q
 rw[e1,e2];have g1:xs.getD j .non=xs[j]:=by simp[X9,hj1]
 have g2:ys.getD j .non=ys[j]:=by simp[X9,hj2]
 rw[g1,g2];exact LP ru rw' (W9.mp f1 _ (Wi hj1)) (W9.mp f2 _ (Wi hj2))
theorem RZ(hu:X.A.units<cLine):OpR X (Zl .Eq) (OO X.K false):=by
 intro pins s σ H x y v u Q I rx ry h;obtain⟨a,b,xs,ys,rfl,rfl,h1,h2,f,q⟩:=h;cases rx;cases ry;obtain⟨its1,r1,p1,_⟩:=I.list h1;obtain⟨its2,r2,p2,_⟩:=I.list h2;have l1:=r1.length;have l2:=r2.length;by_cases hl:xs.length=ys.length
 ·refine SeqAt.eq_listAt p1.isList p2.isList (by simp;omega) hu (D9 r1 r2 f) ⟨.bl _,H,I,rfl,?_⟩;rw[Vu,<-l1,D8 hl];exact q
 ·refine SeqAt.eq_list_lengthsAt p1.isList p2.isList (by simp;omega) hu ⟨.bl false,H,I,rfl,?_⟩;have e:An xs ys=false:=by unfold An;simp[hl]
  rw[show(if false=true then !An xs ys else An xs ys)=An xs ys from rfl,e]at q;exact q
theorem Ra(hu:X.A.units<cLine):OpR X (Zl .NotEq) (OO X.K true):=by
 intro pins s σ H x y v u Q I rx ry h;obtain⟨a,b,xs,ys,rfl,rfl,h1,h2,f,q⟩:=h;cases rx;cases ry;obtain⟨its1,r1,p1,_⟩:=I.list h1;obtain⟨its2,r2,p2,_⟩:=I.list h2;have l1:=r1.length;have l2:=r2.length;by_cases hl:xs.length=ys.length
 ·refine(SeqAt.RcNeAt.lists p1.isList p2.isList (by simp;omega) hu (D9 r1 r2 f)) _ _ _ _ ?_;refine⟨.bl _,H,I,rfl,?_⟩;rw[Vu,<-l1,D8 hl];exact q
 ·refine(SeqAt.RcNeAt.lists_lengths p1.isList p2.isList (by simp;omega) hu) _ _ _ _ ?_;refine⟨.bl true,H,I,rfl,?_⟩;have e:An xs ys=false:=by unfold An;simp[hl]
  rw[show(if true=true then !An xs ys else An xs ys)=!An xs ys from rfl,e]at q;exact q
theorem call_isi1:CallR X (.builtin "isinstance") (λxs H Q=>∃ x T t b,xs=[x,.ty T]/\TyOf X.K H x t/\PySem.W.kitOne X.K t (.type T)=some b/\Q (.bl b) H):=by
 intro pins s σ H xs us Q I r h;obtain⟨x,T,t,b,rfl,ty,e,q⟩:=h;obtain⟨u1,u2,rfl,r1,r2⟩:=Vals.two r;cases r2;exact E4 I r1 ty e λtk=>⟨.bl b,H,I.tok tk,rfl,q⟩
theorem HB{pins:List (ZY×Obj)}{σ:St}{H:Hp}{s:ZX}{A:Zj}{E:ZW->ZX->Prop}{Q:ZW->ZX->Prop}{b:Bool}{x:V}{u t:ZW}{tp:ZY}{dd:Option ZY}{its:List ZW}{n:Nat}{sl:Array (Option ZW)}(I:Inv X pins σ H s)(rx:RelV x u)(ty:TyOf X.K H x t)
 (htp:s.heap.get? tp=some ⟨.type "tuple",dd,.seq its.toArray n,sl⟩) (e:PySem.W.kitAny X.K t its=some b) (h:∀ tk,Q (.bool b) {s with toks:=tk}):
 Zb (Zc X.prog X.w) A (call (.builtin "isinstance") [u,.ref tp]) Q E s:=by
 cases ty with
 | non=>cases(show u=Value.none from rx);exact PySem.W.kia_tup PySem.W.kitx_none I.kIn True.intro htp e (λz=>nomatch z) h
 | bl y=>cases(show u=Value.bool y from rx);exact PySem.W.kia_tup PySem.W.kitx_bool I.kIn True.intro htp e (λz=>nomatch z) h
 | int i=>obtain⟨t,q⟩:=(show ∃ t,u=Value.int i t from rx);cases q;exact PySem.W.kia_tup PySem.W.kitx_int I.kIn True.intro htp e (λz=>nomatch z) h
 | str y=>obtain⟨t,q⟩:=(show ∃ t,u=Value.str y t from rx);cases q;exact PySem.W.kia_tup PySem.W.kitx_str I.kIn True.intro htp e (λz=>nomatch z) h
 | flt y=>obtain⟨t,q⟩:=(show ∃ t,u=Value.float y t from rx);cases q;exact PySem.W.kia_tup PySem.W.kitx_float I.kIn True.intro htp e (λz=>nomatch z) h
 | @lst a xs ea=>
   cases(show u=Value.ref a from rx);obtain⟨_,_,n,_,h1⟩:=(show ObjOk X.prog X.w H s.heap a (.lst xs) from I.hok a _ ea)
   exact PySem.W.kia_tup PySem.W.kitx_list I.kIn ⟨_,h1,rfl⟩ htp e (λz=>nomatch z) h
 | @frz a ob xs ea=>
   cases(show u=Value.ref a from rx);obtain⟨_,_,_,n,_,h1⟩:=(show ObjOk X.prog X.w H s.heap a (.frz ob (.lst xs)) from I.hok a _ ea)
   exact PySem.W.kia_tup PySem.W.kitx_list I.kIn ⟨_,h1,rfl⟩ htp e (λz=>nomatch z) h
 | @tup a xs ea=>
   cases(show u=Value.ref a from rx);obtain⟨_,_,_,p⟩:=(show ObjOk X.prog X.w H s.heap a (.tup xs) from I.hok a _ ea)
   obtain⟨o,h1,h2,_⟩:=p;exact PySem.W.kia_tup PySem.W.kitx_tuple I.kIn ⟨o,h1,h2⟩ htp e (λz=>nomatch z) h
 | @dK a kvs ea=>
   cases(show u=Value.ref a from rx);obtain⟨_,_,vs,_,p⟩:=(show ObjOk X.prog X.w H s.heap a (.dK kvs) from I.hok a _ ea)
   obtain⟨o,es,ep,h1,h2,_⟩:=p;exact PySem.W.kia_tup PySem.W.kitx_dict I.kIn ⟨o,h1,h2.1⟩ htp e (λz=>nomatch z) h
 | @dT a kvs ea=>
   cases(show u=Value.ref a from rx);obtain⟨_,_,xs,_,o,es,ep,h1,h2,_⟩:=(show ObjOk X.prog X.w H s.heap a (.dT kvs) from I.hok a _ ea)
   exact PySem.W.kia_tup PySem.W.kitx_dict I.kIn ⟨o,h1,h2.1⟩ htp e (λz=>nomatch z) h
 | @ins a C dx fs ea cl ha hn htk hm=>
   cases(show u=Value.ref a from rx);obtain⟨mA,O,_⟩:=IH I.hok ea;obtain⟨od,J,_⟩:=O.look;exact PySem.W.kia_tup (PySem.W.kitx_own (cl.get _) cl.hd ha hn htk hm) I.kIn J htp e (λz=>nomatch z) h
theorem IR:∀(Ts:List String) {us:List ZW},Vals (Ts.map V.ty) us->us=Ts.map Value.type
 | [],_,.nil=>rfl
 | T::r,_,.cons h t=>by cases h;rw[IR r t];rfl
theorem Jb:CallR X (.builtin "isinstance") (λxs H Q=>∃(x:V) (p:ZY) (Ts:List String) (t:ZW) (b:Bool),xs=[x,.ref p]/\H p=some (.tup (Ts.map V.ty))/\TyOf X.K H x t/\PySem.W.kitAny X.K t (Ts.map Value.type)=some b/\Q (.bl b) H):=by
 intro pins s σ H xs us Q I r h;obtain⟨x,p,Ts,t,b,rfl,hp,ty,e,q⟩:=h;obtain⟨u1,u2,rfl,r1,r2⟩:=Vals.two r;cases r2;obtain⟨_,its,rv,⟨⟨c,dd,dt,sl⟩,h1,h2,n,h3⟩⟩:=(show ObjOk X.prog X.w H s.heap p (.tup (Ts.map V.ty)) from I.hok p _ hp)
 have ei:=IR Ts rv;subst ei;replace h2:c = .type "tuple":=h2;replace h3:dt = .seq (Ts.map Value.type).toArray n:=h3;subst h2 h3;exact HB I r1 ty h1 e λtk=>⟨.bl b,H,I.tok tk,rfl,q⟩
theorem Jc(hc:X.calm=true):CallR X (.builtin "all") (λxs H Q=>∃(a:ZY) (bs:List Bool),xs=[.ref a]/\SqL X.K H a (bs.map V.bl)/\Q (.bl (bs.all id)) H):=by
 intro pins s σ H xs us Q I r h;obtain⟨a,bs,rfl,hq,q⟩:=h;obtain⟨u,rfl,ru⟩:=As r;cases ru;obtain⟨its,rv,pl,hz⟩:=I.list hq;have hl:=rv.length;rw[Vp]at hl;refine call_all_walk (A0q pl.isList ?_);have hlt:a<s.heap.objs.size:=by obtain⟨o,n,e,_⟩:=pl;exact Vy e
 refine⟨s.heap.objs.size,_,_,_,_,_,λi=>bs.getD i false,rfl,Walks.list (by exact I.ok.hd hc) s.heap.objs.size a (W3 hlt) its.toArray,⟨⟨_,W2 _ rfl,rfl,rfl⟩,pl.isList.push _⟩,?_,λh' tk hk=>?_⟩
 ·intro i v s' Q' E' hv hQ';have hv':its[i]?=some v:=by simpa using hv
  have hi:i<its.length:=(gM hv').1;have hb:(bs.map V.bl)[i]?=some (.bl (bs[i]'(by omega))):=by simp
  obtain⟨u',eu,ru'⟩:=rv.get hb;rw[hv']at eu;cases eu;cases ru';have hg:bs.getD i false=bs[i]'(by omega):=by simp[X9,show i<bs.length by omega]
  have hQ2:Q' (bs.getD i false) s':=hQ';rw[hg]at hQ2;exact Zn hQ2
 ·have I1:Inv X pins σ H {s with heap:=h',toks:=tk}:=I.kept λb o e=>hk b o (by simp;exact W3 (Vy e)) (Vr _ e);refine⟨.bl _,H,I1,rfl,?_⟩
  have e:(Vw its.toArray.size).all (λi=>bs.getD i false)=bs.all id:=by
   rw[Vu,<-hl,Wa,W9,W9];constructor
   ·intro h b hb;obtain⟨j,hj,e⟩:=XF.mp hb;have:=h j (WJ.mpr hj);simpa[X9,hj,e] using this
   ·intro h j hj;have hj1:j<bs.length:=WJ.mp hj;have:=h bs[j] (Wi hj1);simpa[X9,hj1] using this
  rw[e];exact q
theorem Jd:CallR X (.type "range") (λxs H Q=>∃ a b,xs=[.int a,.int b]/\∀ p,H p=none->Q (.ref p) (upd H p (.rng a b))):=by
 intro pins s σ H xs us Q I r h;obtain⟨a,b,rfl,q⟩:=h;obtain⟨u1,u2,rfl,⟨t,rfl⟩,⟨t',rfl⟩⟩:=Vals.two r;refine call_range_2 ⟨.ref s.heap.objs.size,_,I.laid (o := .rng a b) (λb o e=>Vr _ e) (W0 _) ⟨_,_,_,W2 _ rfl⟩,rfl,q _ I.fresh⟩
theorem Je:CallR X (.type "range") (λxs H Q=>∃ b,xs=[.int b]/\∀ p,H p=none->Q (.ref p) (upd H p (.rng 0 b))):=by
 intro pins s σ H xs us Q I r h;obtain⟨b,rfl,q⟩:=h;obtain⟨u1,rfl,⟨t,rfl⟩⟩:=As r;refine call_range_1 ⟨.ref s.heap.objs.size,_,I.laid (o := .rng 0 b) (λb o e=>Vr _ e) (W0 _) ⟨_,_,_,W2 _ rfl⟩,rfl,q _ I.fresh⟩
noncomputable def Jf(lo:Int)(n:Nat):List V:=(Vw n).map λ(i:Nat)=>V.int (lo+(i:Int))
theorem FX(lo:Int)(n:Nat):(Jf lo n).length=n:=by unfold Jf;simp
theorem C5(hc:X.calm=true):CallR X (.type "list") (λxs H Q=>∃ p a b,xs=[.ref p]/\H p=some (.rng a b) /\ -(2 ^ 62)<=a/\a<2 ^ 62 /\ -(2 ^ 62)<=b/\b<2 ^ 62/\(b - a).toNat<=100000/\∀ l,H l=none->Q (.ref l) (upd H l (.lst (Jf a (b - a).toNat)))):=by
 intro pins s σ H xs us Q I r h;obtain⟨p,a,b,rfl,hp,h1,h2,h3,h4,h5,q⟩:=h;obtain⟨u,rfl,ru⟩:=As r;cases ru;obtain⟨t,u',v,ho⟩:=(show ObjOk X.prog X.w H s.heap p (.rng a b) from I.hok p _ hp)
 have hn:Builtin.Range.rangeSize a b 1=(((b - a).toNat:Nat):Int):=by rw[rangeSize_one];split<;>omega
 refine call_list_range (I.ok.hd hc) (show IsRange s.heap p a b 1 t u' v from ho) (small_one h1 h2 h3 h4) hn (by omega) λh' tk acc c' kp e hi=>?_;have hz:(b - a).toNat<=Ze:=Wd h5 (by decide);refine⟨.ref s.heap.objs.size,_,I.laid kp (W0 _) (show ObjOk X.prog X.w _ h' _ (.lst (Jf a (b - a).toNat)) from ⟨by rw[FX];exact hz,acc.toList,c',?_,by simpa using e⟩),rfl,q _ I.fresh⟩;obtain⟨hs,hv⟩:=hi
 have key:∀(n:Nat) (l:List ZW) (lo:Int),l.length=n->(∀(j:Nat) (v:ZW),l[j]?=some v->∃ t,v=Value.int (lo+(j:Int)) t)->Vals ((Vw n).map λ(i:Nat)=>V.int (lo+(i:Int))) l:=by
  intro n
  induction n with
  | zero=>intro l lo hl _;cases l with | nil=>exact .nil | cons _ _=>simp at hl
  | succ n ih=>
    intro l lo hl hv;cases l with
    | nil=>simp at hl
    | cons x r=>
      rw[List.range_succ_eq_map,WQ,XE];refine .cons ?_ ?_
      ·obtain⟨t,e⟩:=hv 0 x (by simp);exact⟨t,e⟩
      ·have:=ih r (lo+1) (by simpa using hl) λj v hj=>by
        obtain⟨t,e⟩:=hv (j+1) v (by simpa using hj);refine⟨t,?_⟩;rw[e]
        congr 1
        omega
       have e2:((λ(i:Nat)=>V.int (lo+(i:Int)))∘Nat.succ)=λ(i:Nat)=>V.int (lo+1+(i:Int)):=by
        funext i
        show V.int (lo+((i+1:Nat):Int))=V.int (lo+1+(i:Int))
        congr 1
        omega
       rw[e2];exact this
 refine key _ _ a (by simpa using hs) λj v hj=>?_;obtain⟨t,e⟩:=hv j v (by simpa using hj);exact⟨t,by rw[e];congr 1;omega⟩
end
noncomputable def srt(ns:List Int):List Int:=ns.mergeSort (λa b=>decide (a<=b))
theorem Aw(ns:List Int):(srt ns).Perm ns:=List.mergeSort_perm _ _
theorem Rb(ns:List Int):(srt ns).Pairwise (·<=·):=by
 have h:=List.pairwise_mergeSort (le:=λ(a b:Int)=>decide (a<=b)) (λa b c h1 h2=>by simp only[dQ]at *;omega) (λa b=>by simp only[WK,dQ];omega) ns;exact h.imp λh=>of_decide_eq_true h
theorem Rc{ns ns':List Int}(hp:ns'.Perm ns)(hs:ns'.Pairwise (·<=·)):ns'=srt ns:=
 List.Perm.eq_of_pairwise (λ_ _ _ _ a b=>Int.le_antisymm a b) hs (Rb ns) (hp.trans (Aw ns).symm)
theorem A7:∀{ns:List Int} {us:List ZW},Vals (ns.map V.int) us->IntsAre us ns
 | [],_,.nil => .nil
 | _::_,_,.cons ⟨_,e⟩ t=>by subst e;exact .cons _ _ (A7 t)
theorem ED:∀{ns:List Int} {us:List ZW},IntsAre us ns->Vals (ns.map V.int) us
 | _,_,.nil => .nil
 | _,_,.cons _ _ t => .cons ⟨_,rfl⟩ (ED t)
theorem LX:Zh "sorted"=some (.builtin "sorted"):=by decide +kernel
section
variable{κ:Type}[DecidableEq κ]
noncomputable def AK(kvs:List (κ×V))(k:κ):Option V:=(kvs.find? λkv=>decide (kv.1=k)).map (·.2)
noncomputable def BO(kvs:List (κ×V))(k:κ)(v:V):List (κ×V):=
 if (kvs.any λkv=>decide (kv.1=k))=true then kvs.map (λkv=>if kv.1=k then (kv.1,v) else kv) else kvs++[(k,v)]
theorem BP{p:κ×V}{r:List (κ×V)}{k:κ}(e:p.1=k):AK (p::r) k=some p.2:=by simp[AK,Wo,e]
theorem BQ{p:κ×V}{r:List (κ×V)}{k:κ}(e:¬ p.1=k):AK (p::r) k=AK r k:=by simp[AK,Wo,e]
theorem DA(k:κ):∀ kvs:List (κ×V),(kvs.any λkv=>decide (kv.1=k))=(AK kvs k).isSome
 | []=>rfl
 | p::r=>by
   rw[Wx];by_cases e:p.1=k
   ·simp only[BP e,decide_eq_true e,Y0,Yi]
   ·rw[BQ e,decide_eq_false e,ZM];exact DA k r
theorem FY(kvs:List (κ×V))(k:κ)(v:V):(BO kvs k v).length<=kvs.length+1:=by
 unfold BO;split
 ·rw[Vp];omega
 ·rw[Vs,Wr,XW];omega
theorem LY{kvs:List (κ×V)}{k:κ}(v:V)(h:AK kvs k=none):BO kvs k v=kvs++[(k,v)]:=by
 unfold BO;rw[DA,h];exact iG (by decide)
theorem RelO.isSome_eq{o:Option V}{u:Option ZW}(r:RelO o u):o.isSome=u.isSome:=by
 cases o with
 | none=>cases u with
   | none=>rfl
   | some _=>exact(show False from r).elim
 | some _=>cases u with
   | none=>exact(show False from r).elim
   | some _=>rfl
theorem RelO.getD{o:Option V}{u:Option ZW}{d:V}{d':ZW}(r:RelO o u)(rd:RelV d d'):RelV (o.getD d) (u.getD d'):=by
 cases o with
 | none=>cases u with
   | none=>exact rd
   | some _=>exact(show False from r).elim
 | some _=>cases u with
   | none=>exact(show False from r).elim
   | some _=>exact r
theorem KV.val{kvs:List (κ×V)}{vs:List (κ×ZW)}(r:KV kvs vs)(k:κ):RelO (AK kvs k) (valueAt vs k):=by
 unfold KV at r
 induction r with
 | nil=>exact True.intro
 | @cons p q ps qs h t ih=>
   obtain⟨h1,h2⟩:=h;by_cases e:p.1=k
   ·have e':q.1=k:=h1.symm.trans e;have b:valueAt (q::qs) k=some q.2:=by simp[valueAt,Wo,e']
    rw[BP e,b];exact h2
   ·have e':¬ q.1=k:=λz=>e (h1.trans z);have b:valueAt (q::qs) k=valueAt qs k:=by simp[valueAt,Wo,e']
    rw[BQ e,b];exact ih
theorem KV.any{kvs:List (κ×V)}{vs:List (κ×ZW)}(r:KV kvs vs)(k:κ):(kvs.any λkv=>decide (kv.1=k))=vs.any λkv=>decide (kv.1=k):=by
 unfold KV at r
 induction r with
 | nil=>rfl
 | cons h t ih=>rw[Wx,Wx,ih,h.1]
theorem KV.repl{kvs:List (κ×V)}{vs:List (κ×ZW)}(r:KV kvs vs)(k:κ){y:V}{u:ZW}(ry:RelV y u):
 KV (kvs.map λkv=>if kv.1=k then (kv.1,y) else kv) (vs.map λkv=>if kv.1=k then (kv.1,u) else kv):=by
 unfold KV at r ⊢
 induction r with
 | nil=>exact .nil
 | @cons p q ps qs h t ih=>
   rw[WQ,WQ];refine .cons ?_ ih;obtain⟨h1,h2⟩:=h;by_cases e:p.1=k
   ·rw[iP e,iP (h1.symm.trans e)];exact⟨h1,ry⟩
   ·rw[iG e,iG (λz=>e (h1.trans z))];exact⟨h1,h2⟩
theorem KV.put{kvs:List (κ×V)}{vs:List (κ×ZW)}(r:KV kvs vs)(k:κ){y:V}{u:ZW}(ry:RelV y u):KV (BO kvs k y) (stored vs k u):=by
 unfold BO stored;rw[r.any k];by_cases e:(vs.any λkv=>decide (kv.1=k))=true
 ·rw[iP e,iP e];exact r.repl k ry
 ·rw[iG e,iG e];exact Paired.snoc r ⟨rfl,ry⟩
theorem KV.keys{kvs:List (κ×V)}{vs:List (κ×ZW)}(r:KV kvs vs):kvs.map (·.1)=vs.map (·.1):=by
 unfold KV at r
 induction r with
 | nil=>rfl
 | cons h t ih=>rw[WQ,WQ,ih,h.1]
theorem KV.length{kvs:List (κ×V)}{vs:List (κ×ZW)}(r:KV kvs vs):kvs.length=vs.length:=Paired.length r
end
theorem UK{P:Zd}{w:Zf}{k:Key}{u:ZW}(r:RelV (kV k) u):(v0 P w).is k u=true:=by
 cases k with
 | inl i=>obtain⟨t,e⟩:=(show ∃ t,u=Value.int i t from r);subst e;exact FM P w i t
 | inr x=>obtain⟨t,e⟩:=(show ∃ t,u=Value.str x t from r);subst e;exact FN P w x t
theorem EF{P:Zd}{w:Zf}:∀{ks:List Key} {us:List ZW},Vals (ks.map kV) us->ItemsAre (v0 P w) ks us
 | [],_,r=>by rw[ZR]at r;cases r;exact .nil
 | k::ks,_,r=>by
   rw[WQ]at r;cases r with
   | cons h t=>exact .cons (UK h) (EF t)
noncomputable abbrev KT(H:Hp):List (List Key×V)->List (List Key×ZY×ZW)->Prop:=Paired λp q=>p.1=q.1/\H q.2.1=some (.tup (p.1.map kV))/\RelV p.2 q.2.2
theorem KT.val{H:Hp}{kvs:List (List Key×V)}{xs:List (List Key×ZY×ZW)}(r:KT H kvs xs)(k:List Key):RelO (AK kvs k) ((atKey xs k).map (·.2)):=by
 induction r with
 | nil=>exact True.intro
 | @cons p q ps qs h t ih=>
   obtain⟨h1,_,h2⟩:=h;by_cases e:p.1=k
   ·have e':q.1=k:=h1.symm.trans e;have b:atKey (q::qs) k=some q.2:=by simp[atKey,Wo,e']
    rw[BP e,b];exact h2
   ·have e':¬ q.1=k:=λz=>e (h1.trans z);have b:atKey (q::qs) k=atKey qs k:=by simp[atKey,Wo,e']
    rw[BQ e,b];exact ih
theorem KT.repl{H:Hp}{kvs:List (List Key×V)}{xs:List (List Key×ZY×ZW)}(r:KT H kvs xs)(k:List Key){y:V}{u:ZW}(ry:RelV y u):
 KT H (kvs.map λkv=>if kv.1=k then (kv.1,y) else kv) (xs.map (putAt k u)):=by
 induction r with
 | nil=>exact .nil
 | @cons p q ps qs h t ih=>
   rw[WQ,WQ];refine .cons ?_ ih;obtain⟨h1,h2,h3⟩:=h;unfold putAt;by_cases e:p.1=k
   ·rw[iP e,iP (h1.symm.trans e)];exact⟨h1,h2,ry⟩
   ·rw[iG e,iG (λz=>e (h1.trans z))];exact⟨h1,h2,h3⟩
theorem KT.put{H:Hp}{kvs:List (List Key×V)}{xs:List (List Key×ZY×ZW)}(r:KT H kvs xs)(k:List Key){b:ZY}{y:V}{u:ZW}(hb:H b=some (.tup (k.map kV)))(ry:RelV y u):
 KT H (BO kvs k y) (storedH xs k b u):=by
 have e:(kvs.any λkv=>decide (kv.1=k))=(atKey xs k).isSome:=by
  rw[DA,(r.val k).isSome_eq,Option.isSome_map]
 unfold BO storedH;rw[e];by_cases q:(atKey xs k).isSome=true
 ·rw[iP q,iP q];exact r.repl k ry
 ·rw[iG q,iG q];exact Paired.snoc r ⟨rfl,hb,ry⟩
theorem KT.keeps{H H':Hp}{kvs:List (List Key×V)}{xs:List (List Key×ZY×ZW)}(r:KT H kvs xs)(ht:∀ b ys,H b=some (.tup ys)->H' b=some (.tup ys)):KT H' kvs xs:=
 Paired.mapP r λ_ _ z=>⟨z.1,ht _ _ z.2.1,z.2.2⟩
section
variable{P:Zd}{w:Zf}{H:Hp}{h:Heap}{a:ZY}
theorem QH{u:HO}(ok:HOk P w H h)(e:Rd H a u):ObjOk P w H h a u:=e.ok ok
theorem UL{kvs:List (Key×V)}(ok:HOk P w H h)(e:Rd H a (.dK kvs)):kvs.length<=Ze/\(a == A05)=false/\∃ vs,KV kvs vs/\h.DictOf (v0 P w) a vs:=
 show ObjOk P w H h a (.dK kvs) from QH ok e
theorem LZ{ks:List Key}(ok:HOk P w H h)(e:H a=some (.tup (ks.map kV))):(A0P (v0 P w)).is h ks a:=by
 obtain⟨_,its,r,o,h1,h2,n,h3⟩:=(show ObjOk P w H h a (.tup (ks.map kV)) from ok a _ e)
 exact⟨o,its.toArray,n,h1,h2,h3,by simpa using EF r⟩
theorem QI{kvs:List (List Key×V)}(ok:HOk P w H h)(e:Rd H a (.dT kvs)):kvs.length<=Ze/\(a == A05)=false/\
 ∃ xs,KT H kvs xs/\h.DictOfH (A0P (v0 P w)) a xs:=by
 obtain⟨z,y,xs,r,o,es,ep,h1,h2,h3,h4,h5⟩:=(show ObjOk P w H h a (.dT kvs) from QH ok e)
 refine⟨z,y,xs,r,o,es,ep,h1,h2,h3,h4,λx hx=>?_,h5⟩
 have all:∀{l:List (List Key×V)} {m:List (List Key×ZY×ZW)},KT H l m->∀ x∈m,(A0P (v0 P w)).is h x.1 x.2.1:=by
  intro l m q
  induction q with
  | nil=>intro x hx;exact nomatch hx
  | @cons p q ps qs hq t ih=>
    intro x hx;rcases W4.mp hx with e | hx
    ·subst e;exact LZ ok (by rw[<-hq.1];exact hq.2.1)
    ·exact ih x hx
 exact all r x hx
theorem UM{kvs:List (List Key×V)}(ok:HOk P w H h)(e:H a=some (.dT kvs)):kvs.length<=Ze/\(a == A05)=false/\
 ∃ xs,KT H kvs xs/\h.DictOfH (A0P (v0 P w)) a xs:=QI ok (.inl e)
end
noncomputable def DGet(H:Hp)(a:ZY)(y:V)(r:Option V):Prop:=
 (∃ kvs k,Rd H a (.dK kvs)/\y=kV k/\r=AK kvs k)\/∃ kvs k b,Rd H a (.dT kvs)/\y = .ref b/\H b=some (.tup (k.map kV))/\r=AK kvs k
noncomputable def DPut(H:Hp)(a:ZY)(y v:V)(H':Hp):Prop:=
 (∃ kvs k,H a=some (.dK kvs)/\y=kV k/\kvs.length<Ze/\H'=upd H a (.dK (BO kvs k v)))\/
 ∃ kvs k b,H a=some (.dT kvs)/\y = .ref b/\H b=some (.tup (k.map kV))/\kvs.length<Ze/\H'=upd H a (.dT (BO kvs k v))
theorem DGet.t{H:Hp}{a b:ZY}{kvs:List (List Key×V)}{k:List Key}(e:H a=some (.dT kvs))(eb:H b=some (.tup (k.map kV))):DGet H a (.ref b) (AK kvs k) := .inr ⟨kvs,k,b,.inl e,rfl,eb,rfl⟩
theorem DPut.t{H:Hp}{a b:ZY}{kvs:List (List Key×V)}{k:List Key}{v:V}(e:H a=some (.dT kvs))(eb:H b=some (.tup (k.map kV)))(hl:kvs.length<Ze):
 DPut H a (.ref b) v (upd H a (.dT (BO kvs k v))) := .inr ⟨kvs,k,b,e,rfl,eb,hl,rfl⟩
section
variable{X:Cx}{pins:List (ZY×Obj)}{σ:St}{H:Hp}{s:ZX}{a:ZY}{y v:V}{u r:ZW}{o:Option V}{A:Zj}{E:ZW->ZX->Prop}
theorem Inv.big(I:Inv X pins σ H s):A05<s.heap.objs.size:=by
 have h:Za<s.heap.objs.size:=(I.mod.glob.keeps I.bk).lt;exact Yp (by decide) h
theorem OP{h':Heap}{t':Nat}{ob:HO}(I:Inv X pins σ H s)(mu:Mut (H a))(hs:WR a s.heap h')(he:∃ q,h'.get? a=some q)(new:ObjOk X.prog X.w (upd H a ob) h' a ob):
 Inv X pins σ (upd H a ob) {s with heap:=h',toks:=t'}:=
 I.write (x:=a) (e:=a) mu (.inl rfl) (λb q hb z=>(hs.2 b hb).trans z) he new
end
theorem La{P:Zd}{w:Zf}{H:Hp}(h:Heap)(hb:A05<h.objs.size):ObjOk P w H (h.push {cls := .type "dict",data := .dict #[]}) h.objs.size (.dT []):=
 ⟨XG _,beq_eq_false_iff_ne.mpr (Ne.symm (W3 hb)),[],.nil,_,#[],0,W2 _ rfl,⟨rfl,rfl,rfl⟩,rfl,rfl,ZF⟩
noncomputable def Re:TE:=λ_ H Q=>∀ p,H p=none->Q (.ref p) (upd H p (.dT []))
section
variable{X:Cx}{pos:Pos}
theorem Lb:PE X (.Dict [] [] pos) Re:=λpins s σ H Q I h=>
 wpAny_Dict_empty ⟨.ref s.heap.objs.size,_,I.laid (a:=s.heap.objs.size) (o := .dT []) (t':=s.toks) (λ_ _ q=>Vr _ q) (W0 _) (La s.heap I.big),rfl,h _ (I.hok.fresh (W0 _))⟩
end
structure M2(X:Cx)(o:Expr)(m:Str)(apos:Pos)(e f:Expr)(cpos:Pos):Prop where
 base:A0t o m X.env (eval o X.env)=eval o X.env
 few:((backTo cpos (Zg [e,f] X.env)).all (λx=>!x.1)&&(A0D cpos (A0d [] X.env)).all (λx=>x.1.isSome)
  && decide (([e,f]:List Expr).length+([]:List Keyword).length+(if ([]:List Keyword).isEmpty then 0 else 1)<30))=true
 line:(apos.endLine == cpos.line)=true
 trees:backTo cpos (Zg [e,f] X.env)=[(false,eval e X.env),(false,eval f X.env)]
noncomputable def IsD(H:Hp)(a:ZY):Prop:=(∃ kvs,Rd H a (.dK kvs))\/∃ kvs,Rd H a (.dT kvs)
theorem Rg{X:Cx}{pins:List (ZY×Obj)}{σ:St}{H:Hp}{s:ZX}{a:ZY}(I:Inv X pins σ H s)(d:IsD H a):
 s.TypeIs (.ref a) "dict"/\(∀ b,Value.ref a = .ref b->∃ ob,s.heap.get? b=some ob/\ob.dict=none)/\(a == A05)=false:=by
 rcases d with⟨kvs,e⟩ | ⟨kvs,e⟩
 ·obtain⟨_,hd,vs,_,dd⟩:=UL I.hok e;refine⟨dd.typeIs,λb q=>?_,hd⟩;cases q;obtain⟨ob,_,_,h1,h2,_⟩:=dd;exact⟨ob,h1,h2.2.1⟩
 ·obtain⟨_,hd,xs,_,dd⟩:=QI I.hok e;refine⟨dd.typeIs,λb q=>?_,hd⟩;cases q;obtain⟨ob,_,_,h1,h2,_⟩:=dd;exact⟨ob,h1,h2.2.1⟩
end L2
set_option maxHeartbeats 1000000
namespace L2
open PySem PySem.Spec PyProof.Rows
section
variable{prog:Zd}{w:Zf}{A:Zj}{R:Result->ZX->Prop}{I:ZY}{fp wr:List ZY}{G:Array A0Q->Array A0Q->Prop}{n:Nat}{P:Nat->ZW->Prop}{St:Nat->ZX->Prop}
noncomputable def TupsAt(prog:Zd)(w:Zf)(h:Heap)(n:Nat)(ta:Nat->ZY)(kv:Nat->Key×ZW):Prop:=∀ i,i<n->∃ key,(v0 prog w).is (kv i).1 key=true/\h.IsTuple (ta i) #[key,(kv i).2]
theorem TupsAt.keep{h h':Heap}{ta:Nat->ZY}{kv:Nat->Key×ZW}(t:TupsAt prog w h n ta kv)(k:∀ i o,i<n->h.get? (ta i)=some o->h'.get? (ta i)=some o):TupsAt prog w h' n ta kv:=λi hi=>by
 obtain⟨key,hk,o,ho,r⟩:=t i hi;exact⟨key,hk,o,k i o hi ho,r⟩
end
end L2
set_option maxHeartbeats 2000000
namespace L2
open PySem PySem.Spec PyProof.Rows
theorem KV.at{κ:Type}{ks:List (κ×V)}{vs:List (κ×ZW)}(r:KV ks vs):∀{i:Nat} {p:κ×V},ks[i]?=some p->∃ v,vs[i]?=some (p.1,v)/\RelV p.2 v:=by
 intro i
 induction r generalizing i with
 | nil=>exact λh=>by simp at h
 | @cons a b _ _ h _ ih=>
   intro p hp;cases i with
   | zero=>cases hp;exact⟨b.2,by rw[h.1];rfl,h.2⟩
   | succ i=>exact ih hp
section
variable{X:Cx}
theorem C6(n:Bool):∀{ns:List Bool} {its:List ZW},Vals (ns.map V.bl) its->its.countP (eqU (.bl n))=ns.count n
 | [],_,r=>by cases r;rfl
 | m::ns,_,r=>by
   cases r with
   | cons r1 r2=>
     rw[List.countP_cons,YQ,C6 n r2,Eh r1 rfl];rfl
noncomputable def IS:V->List V->Hp->VK->Prop:=λx vs H Q=>∃(l:ZY) (ns:List Bool) (n:Bool),x = .ref l/\vs=[.bl n]/\H l=some (.lst (ns.map V.bl))/\Q (.int (ns.count n:Nat)) H
theorem EG:MtM X "list.count" IS:=by
 intro pins s σ H x vs v us Q I rx rv h;obtain⟨l,ns,n,rfl,rfl,hH,q⟩:=h;cases rx;obtain⟨u,rfl,ru⟩:=rv.one;obtain⟨z,its,k,r,hl,e⟩:=I.lstM hH
 have fl:(ns.map V.bl).all y9=true:=W9.mpr λv hv=>by
  obtain⟨n,_,rfl⟩:=WU.mp hv;rfl
 refine A0s F.slot_list_count ⟨_,e,rfl⟩ F.entry_list_count (F.args_list_count_2 _ _) (SeqAt.list_countAt l its.toArray k none #[] u (eqU (.bl n))) ⟨e,λy hy=>AS ru rfl r fl y (by simpa using hy),?_⟩;show EP X pins σ Q (.int ((its.toArray.toList.countP (eqU (.bl n)):Nat):Int) s.toks) _;rw[show its.toArray.toList=its from rfl,C6 n r];exact⟨.int (ns.count n:Nat),H,I.tok _,⟨_,rfl⟩,q⟩
noncomputable def IT:V->List V->Hp->VK->Prop:=λx vs H Q=>∃(l:ZY) (ns:List Bool) (n:Bool) (j:Nat),x = .ref l/\vs=[.bl n]/\H l=some (.lst (ns.map V.bl))/\ns[j]?=some n/\(∀ m,m<j->ns[m]?≠some n)/\Q (.int (j:Nat)) H
theorem EH:MtM X "list.index" IT:=by
 intro pins s σ H x vs v us Q I rx rv h;obtain⟨l,ns,n,j,rfl,rfl,hH,hj,hno,q⟩:=h;cases rx;obtain⟨u,rfl,ru⟩:=rv.one;obtain⟨z,its,k,r,hl,e⟩:=I.lstM hH;have hlen:=hl;rw[Vp]at hlen z;have hjl:j<ns.length:=(gM hj).1;have hjs:j<its.toArray.size:=by rw[Vu];omega
 have fl:(ns.map V.bl).all y9=true:=W9.mpr λv hv=>by
  obtain⟨n,_,rfl⟩:=WU.mp hv;rfl
 have at':∀ m (hm:m<its.toArray.size),eqU (.bl n) its.toArray[m]=(ns[m]'(by rw[Vu]at hm;omega) == n):=λm hm=>by
  have hm':m<ns.length:=by rw[Vu]at hm;omega
  obtain⟨u',hu',ru'⟩:=r.get (show(ns.map V.bl)[m]?=some (V.bl ns[m]) by simp[hm'])
  have e2:its.toArray[m]=u':=by
   have:its[m]?=some its.toArray[m]:=by simp
   rw[hu']at this;exact(oj this).symm
  rw[e2,Eh ru' rfl];rfl
 refine A0s F.slot_list_index ⟨_,e,rfl⟩ F.entry_list_index (F.args_list_index_2 _ _)
  (SeqAt.list_indexAt l its.toArray k none #[] u (eqU (.bl n)) j hjs ?_ ?_ ?_) ⟨e,?_,?_⟩
 ·have:ns.length<=Ze:=z;have h2:=Bs;omega
 ·rw[at' j hjs];have:=(gM hj).2;simp[this]
 ·intro m hm hmj;rw[at' m hm];have hm':m<ns.length:=by rw[Vu]at hm;omega
  have:=hno m hmj;simpa[hm'] using this
 ·intro y hy;exact AS ru rfl r fl y (by simpa using hy)
 ·exact⟨.int (j:Nat),H,I.tok _,⟨_,rfl⟩,q⟩
end
mutual
noncomputable def Dat(H:Hp):V->PyData->Prop
 | x,.none=>x = .non
 | x,.bool b=>x = .bl b
 | x,.int i=>x = .int i
 | x,.str s=>x = .str s
 | x,.list ds=>∃ a xs,x = .ref a/\H a=some (.lst xs)/\DatAll H xs ds
 | x,.tuple ds=>∃ a xs,x = .ref a/\H a=some (.tup xs)/\DatAll H xs ds
 | _,.dict _=>False
noncomputable def DatAll(H:Hp):List V->List PyData->Prop
 | [],[]=>True
 | x::xs,d::ds=>Dat H x d/\DatAll H xs ds
 | [],_::_=>False
 | _::_,[]=>False
end
mutual
theorem Dat.mono{H H':Hp}(k:∀ b o,H b=some o->H' b=some o):∀(x:V) (d:PyData),Dat H x d->Dat H' x d
 | _,.none,h=>by unfold Dat at h ⊢;exact h
 | _,.bool _,h=>by unfold Dat at h ⊢;exact h
 | _,.int _,h=>by unfold Dat at h ⊢;exact h
 | _,.str _,h=>by unfold Dat at h ⊢;exact h
 | x,.list ds,h=>by
   unfold Dat at h ⊢;obtain⟨a,xs,e,h1,h2⟩:=h;exact⟨a,xs,e,k _ _ h1,DatAll.mono k xs ds h2⟩
 | x,.tuple ds,h=>by
   unfold Dat at h ⊢;obtain⟨a,xs,e,h1,h2⟩:=h;exact⟨a,xs,e,k _ _ h1,DatAll.mono k xs ds h2⟩
 | _,.dict _,h=>by unfold Dat at h;exact h.elim
theorem DatAll.mono{H H':Hp}(k:∀ b o,H b=some o->H' b=some o):∀(xs:List V) (ds:List PyData),DatAll H xs ds->DatAll H' xs ds
 | [],[],_=>by unfold DatAll;trivial
 | x::xs,d::ds,h=>by
   unfold DatAll at h ⊢;exact⟨Dat.mono k x d h.1,DatAll.mono k xs ds h.2⟩
 | [],_::_,h=>by unfold DatAll at h;exact h.elim
 | _::_,[],h=>by unfold DatAll at h;exact h.elim
end
section
variable{X:Cx}{a b:Expr}{ta:TE}{pos:Pos}
theorem Jg:OpR X (Zl .IsNot) (λx y H Q=>∃ c d,x = .bl c/\y = .bl d/\Q (.bl (c != d)) H):=by
 intro pins s σ H x y v u Q I rx ry h;obtain⟨c,d,rfl,rfl,q⟩:=h;cases rx;cases ry;exact isnot_bool ⟨.bl (c != d),H,I,rfl,q⟩
end
section
variable{prog:Zd}{w:Zf}{A:Zj}{E:ZW->ZX->Prop}{s:ZX}
open HT in
theorem Dt{t sl:ZY}{items:Array ZW}{vl vu:ZW}{lo hi:Option Int}{Q:ZW->ZX->Prop}(ht:IsTup s.heap t items)(hs:s.heap.IsSliceOf sl vl vu .none)(pl:IsPart vl lo)(pu:IsPart vu hi)
 (hw:sIx items.size 0 lo=0/\sIx items.size items.size hi=items.size) (h:Q (.ref t) s):Zb (Zc prog w) A (getItem (.ref t) (.ref sl)) Q E s:=by
 obtain⟨os,hos,hcs,hds⟩:=id hs;have hTs:s.TypeIs (.ref sl) "slice":=⟨os,hos,hcs⟩
 unfold getItem
 try with_reducible refine Zm ?_
 first | refine ZV (ZZ ?_) | skip
 refine ZV (A1u ht.typeIs (by decide) ?_)
 refine ZV (Zq (name:=Str.ofString "__getitem__") ht.typeIs PyProof.Rows.slot_tuple_getitem
  (Zr PyProof.Rows.slot_tuple_getitem ht.typeIs A1f ?_ (A1n _ _)))
 show Zb _ _ (Builtin.Tuple.tupleItemsOf (.ref t) >>= _) _ _ s;refine ZV (tupleItemsOf_ ht ?_);refine ZV (A0z hTs ?_);rw[iP (by decide)];refine ZV (At hs pl pu ?_)
 have hyes:(((sIx items.size 0 lo:Nat):Int) == 0&&(1:Int) == 1&&(sIx items.size items.size hi - sIx items.size 0 lo) == items.size)=true:=by
  rw[hw.1,hw.2];simp
 show Zb _ _ (if (((sIx items.size 0 lo:Nat):Int) == 0&&(1:Int) == 1&&(sIx items.size items.size hi - sIx items.size 0 lo) == items.size)=true then _ else _) _ _ s;rw[iP hyes];unfold Builtin.Tuple.tupleIsExact;refine ZV (ZV (A0z ht.typeIs (ZZ ?_)));rw[iP (by decide)];exact ZV (A08 (ZZ ⟨_,rfl,ZZ h⟩))
end
section
variable{X:Cx}
noncomputable def UN(K:Vn):V->Option Int->Option Int->Hp->VK->Prop:=λx lo hi H Q=>∃ a xs,x = .ref a/\SqT K H a xs/\(HT.sIx xs.length 0 lo=0/\HT.sIx xs.length xs.length hi=xs.length)/\Q (.ref a) H
theorem OQ:SlR X (UN X.K):=by
 intro pins s σ H x v vl vu lo hi sl Q I rx hs pl pu h;obtain⟨a,xs,rfl,hx,hw,q⟩:=h;cases rx;obtain⟨its,r,ht,hz⟩:=I.tuple hx;have hlen:its.toArray.size=xs.length:=by rw[Vu];exact r.length.symm
 exact⟨"tuple",_,PyProof.Rows.slot_tuple_getitem.lookup,ht.typeIs,Dt ht hs pl pu (by rw[hlen];exact hw) ⟨.ref a,H,I,rfl,q⟩⟩
end
theorem b_set:Zh "set"=some (.type "set"):=by decide +kernel
section
variable{prog:Zd}{w:Zf}{A:Zj}{E:ZW->ZX->Prop}{s:ZX}
noncomputable def IsPr(h:Heap)(v:ZW)(a b:Int):Prop:=∃ p o n t u,v = .ref p/\h.get? p=some o/\o.cls = .type "tuple"/\o.data = .seq #[.int a t,.int b u] n
theorem IsPr.at{h h':Heap}{v:ZW}{a b:Int}(x:IsPr h v a b)(k:∀ p o,h.get? p=some o->o.cls = .type "tuple"->h'.get? p=some o):IsPr h' v a b:=by
 obtain⟨p,o,n,t1,t2,e,ho,hc,hd⟩:=x;exact⟨p,o,n,t1,t2,e,k p o ho hc,hc,hd⟩
end
noncomputable def Up(xs:Array Nat):Prop:=∀ i j (hi:i<xs.size) (hj:j<xs.size),i<j->xs[i]<xs[j]
theorem up_list{xs:Array Nat}:Up xs↔xs.toList.Pairwise (·<·):=by
 rw[List.pairwise_iff_getElem]
 exact⟨λh i j hi hj hij=>by simpa using h i j (by simpa using hi) (by simpa using hj) hij,λh i j hi hj hij=>by
  have:=h i j (by simpa using hi) (by simpa using hj) hij
  rwa [YX,YX]at this⟩
theorem Lc{xs:Array Nat}(hu:Up xs)(j:Nat):∀(f lo hi:Nat),hi<=xs.size->lo<=hi->hi - lo<=f->(∀ i (h:i<xs.size),i<lo->xs[i]<j)->(∀ i (h:i<xs.size),hi<=i->j<=xs[i])->
 (SetTable.below.go xs j f lo hi)<=xs.size/\(∀ i (h:i<xs.size),i<SetTable.below.go xs j f lo hi->xs[i]<j)/\(∀ i (h:i<xs.size),SetTable.below.go xs j f lo hi<=i->j<=xs[i]):=by
 intro f
 induction f with
 | zero=>
   intro lo hi h1 h2 h3 h4 h5;have:lo=hi:=by omega
   subst this;unfold SetTable.below.go;exact⟨h1,h4,h5⟩
 | succ f ih=>
   intro lo hi h1 h2 h3 h4 h5;unfold SetTable.below.go;by_cases hlh:lo<hi
   ·rw[iP hlh];have hm:(lo+hi) / 2<xs.size:=by omega
    have e:xs.getD ((lo+hi) / 2) j=xs[(lo+hi) / 2]:=by simp[ZG,hm]
    dsimp only;rw[e];by_cases hc:xs[(lo+hi) / 2]<j
    ·rw[iP hc];refine ih _ _ h1 (by omega) (by omega) (λi h hi'=>?_) h5;by_cases z:i=(lo+hi) / 2
     ·subst z;exact hc
     ·exact Yp (hu i _ h hm (by omega)) hc
    ·rw[iG hc];refine ih _ _ (by omega) (by omega) (by omega) h4 (λi h hi'=>?_);by_cases z:i=(lo+hi) / 2
     ·subst z;omega
     ·have:=hu _ i hm h (by omega);omega
   ·rw[iG hlh];have:lo=hi:=by omega
    subst this;exact⟨h1,h4,h5⟩
theorem FZ{xs:Array Nat}(hu:Up xs)(j:Nat):SetTable.below xs j<=xs.size/\(∀ i (h:i<xs.size),i<SetTable.below xs j->xs[i]<j)/\(∀ i (h:i<xs.size),SetTable.below xs j<=i->j<=xs[i]):=
 Lc hu j xs.size 0 xs.size (W0 _) (XG _) (by omega) (λi _ h=>absurd h (X4 _)) (λi h h'=>absurd h (Nat.not_lt.mpr h'))
theorem Rh{xs:Array Nat}(hu:Up xs){j:Nat}(hn:xs[SetTable.below xs j]?≠some j):Up (SetTable.insertAt xs (SetTable.below xs j) j):=by
 obtain⟨h1,h2,h3⟩:=FZ hu j;rw[up_list,SetTable.toList_insertAt];have hl:=up_list.mp hu
 have hgt:∀ i (h:i<xs.size),SetTable.below xs j<=i->j<xs[i]:=by
  intro i h hi;have:=h3 i h hi;by_cases z:SetTable.below xs j=i
  ·have:xs[i]≠j:=λe=>hn (by rw[z];simp[h,e]);omega
  ·have a:=hu _ i (by omega) h (Nat.lt_of_le_of_ne hi z);have b:=h3 (SetTable.below xs j) (by omega) (W0 _);omega
 rw[YY];refine⟨hl.take,?_,?_⟩
 ·rw[Xq];refine⟨λy hy=>?_,hl.drop⟩;obtain⟨i,hi,e⟩:=XF.mp hy;rw[Yq]at e;have hi':SetTable.below xs j+i<xs.size:=by simp at hi;omega
  have:=hgt _ hi' (Xl _ _);rw[<-e];simpa using this
 ·intro x hx y hy;obtain⟨i,hi,e⟩:=XF.mp hx;have hib:i<SetTable.below xs j:=by simp at hi;omega
  have hx':x<j:=by
   rw[<-e,List.getElem_take];have:=h2 i (by omega) hib;simpa using this
  rcases W4.mp hy with rfl | hy
  ·exact hx'
  ·obtain⟨k,hk,e2⟩:=XF.mp hy;rw[Yq]at e2;have hk':SetTable.below xs j+k<xs.size:=by simp at hk;omega
   have:=hgt _ hk' (Xl _ _);have h:xs.toList[SetTable.below xs j+k]'(by simpa using hk')=xs[SetTable.below xs j+k]:=by simp
   rw[h]at e2;omega
structure Tab(w:Zf)(t:Zt):Prop where
 up:Up t.place
 no:t.dummies=#[]
 led:t.led=!w.params.followText "set-order"
theorem Ld{w:Zf}{t:Zt}(T:Tab w t)(j:Nat):t.slot j ≠ .dummy:=by
 unfold SetTable.slot;rw[T.no];dsimp only;split
 ·exact λz=>nomatch z
 ·have:SetTable.has #[] j=false:=rfl;rw[this];exact λz=>nomatch z
theorem Ri{w:Zf}{t:Zt}(T:Tab w t)(g:Nat->Int)(h:Int):∀(f:Nat) (p:SetTable.Probe) (j:Nat) (d:Option Nat),p.dummy=none->SetTable.probe.go t g h f p=some (.empty j d)->t.slot j = .empty/\d=none:=by
 intro f
 induction f with
 | zero=>intro p j d _ e;unfold SetTable.probe.go at e;cases e
 | succ f ih=>
   intro p j d hp e
   have adv:∀ q:SetTable.Probe,q.dummy=none->(t.advance q).dummy=none:=by
    intro q hq;unfold SetTable.advance;split
    ·exact hq
    ·exact hq
   unfold SetTable.probe.go at e;split at e
   ·rename_i hs;cases e;exact⟨hs,hp⟩
   ·rename_i hs;exact absurd hs (Ld T _)
   ·split at e
    ·cases e
    ·exact ih _ _ _ (adv _ hp) e
theorem Lf{w:Zf}{t:Zt}(T:Tab w t){h:Int}{j:Nat}{b:Bool}(e:t.freeSlot h=some (j,b)):t.place[SetTable.below t.place j]?≠some j:=by
 unfold SetTable.freeSlot at e;split at e
 ·rename_i j' d hp;unfold SetTable.probe at hp;obtain⟨hs,hd⟩:=Ri T _ _ _ _ _ _ rfl hp;subst hd;cases e;unfold SetTable.slot at hs;dsimp only[YC]at hs ⊢;split at hs
  ·cases hs
  ·rename_i hn;intro z;exact hn (by rw[z];simp)
 ·cases e
theorem Be{w:Zf}{t:Zt}(T:Tab w t)(n:Nat):Tab w (t.standIn n):=by
 refine⟨?_,rfl,T.led⟩;show Up (Array.range n);intro i j hi hj hij;simpa using hij
theorem Rj{w:Zf}{t:Zt}(T:Tab w t)(n:Nat):Tab w (t.orStandIn n):=by
 unfold SetTable.orStandIn;split
 ·exact T
 ·exact Be T n
theorem OR{w:Zf}{t:Zt}(T:Tab w t)(es:Array (Int×ZW))(h:Int)(x:ZW):Tab w (layNew t es h x).2.1:=by
 unfold layNew;split
 ·rename_i j b e;refine Rj (t:=(t.put j).1) ⟨Rh T.up (Lf T e),?_,T.led⟩ _;show(if SetTable.has t.dummies j=true then _ else t.dummies)=#[];rw[T.no];rfl
 ·exact Be T _
theorem Jh{w:Zf}{t:Zt}(T:Tab w t)(es:Array (Int×ZW))(n:Nat):Tab w (A1c t es n).2.1:=by
 unfold A1c;split
 ·rename_i t' order e;dsimp only;split
  ·unfold SetTable.relaid SetTable.laid at e;obtain⟨owner,_,e⟩:=Option.bind_eq_some_iff.mp e;have e':=oj e;have e1:=congrArg Prod.fst e';subst e1;refine⟨?_,rfl,T.led⟩;rw[up_list]
   have key:∀ l:List Nat,l.Pairwise (·<·)->((l.filterMap λj=>(owner.getD j none).map (j,·)).map (·.1)).Pairwise (·<·):=by
    intro l hl
    have:(l.filterMap λj=>(owner.getD j none).map (j,·)).map (·.1)=l.filter λj=>(owner.getD j none).isSome:=by
     induction l with
     | nil=>rfl
     | cons a l ih=>
       have ih:=ih (Xq.mp hl).2;cases ho:owner.getD a none with
       | none=>rw[YA (by rw[ho];rfl),List.filter_cons_of_neg (by rw[ho];simp),ih]
       | some b=>rw[YB (b:=(a,b)) (by rw[ho];rfl),List.filter_cons_of_pos (by rw[ho];rfl),WQ,ih]
    rw[this];exact hl.filter _
   simpa using key _ YK
  ·exact Be T _
 ·exact Be T _
noncomputable def SetX(prog:Zd)(w:Zf)(h:Heap)(a:ZY)(L:List Int):Prop:=
 ∃ o es ep t,h.get? a=some o/\o.ExactSet/\o.data = .set es ep t/\ElemsOf (intKind prog w) es.toList/\es.size<A0a/\t.fits es.size=true/\Tab w t/\(es.toList.map λe=>numOf e.2).Perm L
section
variable{prog:Zd}{w:Zf}{A:Zj}{E:ZW->ZX->Prop}{s:ZX}
theorem SetX.keep{h h':Heap}{a:ZY}{L:List Int}(x:SetX prog w h a L)(k:∀ o,h.get? a=some o->h'.get? a=some o):SetX prog w h' a L:=by
 obtain⟨o,es,ep,t,ho,r⟩:=x;exact⟨o,es,ep,t,k o ho,r⟩
theorem Cp{k:Int}{v:ZW}(h:(intKind prog w).is k v=true):numOf v=k:=by
 obtain⟨t,rfl⟩:=Value.isInt_shape (k:=k) (v:=v) h;rfl
theorem Lg{h:Heap}{a:ZY}{o:Obj}{es es':Array (Int×ZW)}{ep:Nat}{t t':Zt}{L:List Int}(ho:h.get? a=some o)(hx:o.ExactSet)(hd:o.data = .set es ep t)
 (he:ElemsOf (intKind prog w) es'.toList) (hb:es'.size<A0a) (hf:t'.fits es'.size=true) (hT:Tab w t') (hp:(es'.toList.map λe=>numOf e.2).Perm L):
 (h.update a (Obj.putSet es' t')).get? a=some {o with data := .set es' (ep+1) t'}/\SetX prog w (h.update a (Obj.putSet es' t')) a L:=by
 have g:=Wc (Obj.putSet es' t') ho (by rw[putSet_of es' t' hd];rfl);rw[putSet_of es' t' hd]at g;exact⟨g,_,es',ep+1,t',g,hx,rfl,he,hb,hf,hT,hp⟩
theorem QJ{g:Bool->Sem Unit}(hg:∀(b:Bool) (s₁:ZX) (Q':Unit->ZX->Prop),Q' () s₁->Zb (Zc prog w) A (g b) Q' E s₁){a:ZY}{o:Obj}{es es1:Array (Int×ZW)}{ep:Nat}{t t2:Zt}{L:List Int}{dm:Bool}
 {R:Option Bool->ZX->Prop} (ho:s.heap.get? a=some o) (hx:o.ExactSet) (hd:o.data = .set es ep t) (he:ElemsOf (intKind prog w) es1.toList) (hb:es1.size<A0a) (hf:t2.fits es1.size=true) (hT:Tab w t2) (hp:(es1.toList.map λe=>numOf e.2).Perm L)
 (h:∀ h',WR a s.heap h'->SetX prog w h' a L->R (some true) {s with heap:=h'}):
 Zb (Zc prog w) A (do
  storeSet a es1 t2
  if (!dm&&t2.tooFull)=true then do
      g (A1c t2 es1 (SetTable.grown es1.size)).2.2
      storeSet a (A1c t2 es1 (SetTable.grown es1.size)).1 (A1c t2 es1 (SetTable.grown es1.size)).2.1
      pure (some true)
   else pure (some true)) R E s:=by
 obtain⟨g1,x1⟩:=Lg (prog:=prog) ho hx hd he hb hf hT hp;have b1:=WR.update s.heap a (Obj.putSet es1 t2);refine ZV (A1w ho hd ?_ (A0K hb));by_cases hc:(!dm&&t2.tooFull)=true
 ·rw[iP hc];have hpr:=relayAll_perm t2 es1 (SetTable.grown es1.size);have hfr:=relayAll_fits t2 es1 (SetTable.grown es1.size);have hTr:=Jh hT es1 (SetTable.grown es1.size)
  have hsz:(A1c t2 es1 (SetTable.grown es1.size)).1.size<A0a:=by
   rw[<-Wm,hpr.length_eq,Wm];exact hb
  obtain⟨_,x2⟩:=Lg (prog:=prog) g1 hx rfl (he.perm hpr) hsz hfr hTr ((hpr.map _).trans hp);exact ZV (hg _ _ _ (ZV (A1w g1 rfl (ZZ (h _ (b1.trans (WR.update _ a _)) x2)) (A0K hsz))))
 ·rw[iG hc];exact ZZ (h _ b1 x1)
theorem VQ{a:ZY}{L:List Int}{k:Int}{tk:Tok}{Q:Bool->ZX->Prop}(hX:SetX prog w s.heap a L)(hroom:L.length+1<A0a)
 (h:∀ h' b,WR a s.heap h'->SetX prog w h' a (A0G L k)->Q b {s with heap:=h'}):Zb (Zc prog w) A (setAddHashed a (.int k tk) ((intKind prog w).hash k)) Q E s:=by
 obtain⟨o,es,ep,t,ho,hx,hd,hel,hb,hf,hT,hp⟩:=hX;have hkey:(intKind prog w).is k (.int k tk)=true:=A1O _ _ _ _;have hsz:es.size=L.length:=by rw[<-hp.length_eq,Vp,Wm]
 unfold setAddHashed setAddHashedIn;refine Zm (ZV (A04 ho hd hf ?_));dsimp only;rw[byScan_of (knd:=intKind prog w) rfl hb hel,iP rfl];unfold setAddByScan;refine ZV (ZV (A08 (ZV (wpAny_setScan_of hkey ho hd hf hel ?_))))
 have hin:(L.any (· == k))=true↔∃ e∈es.toList,(intKind prog w).is k e.2=true:=by
  rw[Xe];constructor
  ·rintro⟨x,hxL,e⟩;obtain⟨y,hy,ey⟩:=WU.mp (hp.mem_iff.mpr hxL);obtain⟨⟨k',hk',_⟩,_⟩:=hel y hy;have:numOf y.2=k':=Cp hk';have:k'=k:=by rw[<-this,ey];simpa using e
   subst this;exact⟨y,hy,hk'⟩
  ·rintro⟨y,hy,hk'⟩;refine⟨k,hp.mem_iff.mp (WU.mpr ⟨y,hy,Cp hk'⟩),by simp⟩
 cases hr:List.findIdx? (λe=>(intKind prog w).is k e.2) es.toList with
 | some j=>
   obtain⟨hj,hpj,_⟩:=List.findIdx?_eq_some_iff_getElem.mp hr;have hL:A0G L k=L:=by unfold A0G;rw[iP (hin.mpr ⟨_,Wi hj,hpj⟩)]
   refine ZZ (ZZ ?_);exact h s.heap _ (WR.refl a s.heap) (by rw[hL];exact⟨o,es,ep,t,ho,hx,hd,hel,hb,hf,hT,hp⟩)
 | none=>
   have hL:A0G L k=L++[k]:=by
    unfold A0G;rw[iG];intro z;obtain⟨e,he,hk'⟩:=hin.mp z;have:=List.findIdx?_eq_none_iff.mp hr e he;rw[hk']at this;cases this
   have q1:=layNew_perm t es ((intKind prog w).hash k) (.int k tk);have q2:=layNew_fits t es ((intKind prog w).hash k) (.int k tk);have q3:=OR hT es ((intKind prog w).hash k) (.int k tk);generalize layNew t es ((intKind prog w).hash k) (.int k tk)=lay at q1 q2 q3 ⊢;obtain⟨es1,t1,dm,gv⟩:=lay;dsimp only at q1 q2 q3 ⊢;rw[Y7]at q1;have he1:ElemsOf (intKind prog w) es1.toList:=(hel.push hkey rfl).perm q1
   have hz1:es1.size<A0a:=by
    rw[<-Wm,q1.length_eq,Vs,Wm,hsz];simpa using hroom
   have hp1:(es1.toList.map λe=>numOf e.2).Perm (A0G L k):=by
    rw[hL];refine(q1.map _).trans ?_;rw[WB];exact hp.append_right _
   have hgw:∀(b:Bool) (s₁:ZX) (Q':Unit->ZX->Prop),Q' () s₁->Zb (Zc prog w) A (match b with | true=>rule "set.scan.the-table-gave-way" | false=>pure ()) Q' E s₁:=
    λb s₁ Q' hq=>by cases b<;>first | exact ZZ hq | exact A08 hq
   refine ZV (hgw _ _ _ ?_);split
   ·refine ZV ?_;rw[hashByValue_scannable 8 rfl];refine ZZ (QJ hgw ho hx hd he1 hz1 q2 q3 hp1 λh' hsb hX'=>?_);exact ZZ (h h' _ hsb hX')
   ·refine ZV (ZZ ?_);rw[iP rfl];refine QJ hgw ho hx hd he1 hz1 q2 q3 hp1 λh' hsb hX'=>?_;exact ZZ (h h' _ hsb hX')
end
section
variable{prog:Zd}{w:Zf}{A:Zj}{R:Result->ZX->Prop}{I:ZY}{fp wr:List ZY}{G:Array A0Q->Array A0Q->Prop}{n:Nat}{P:Nat->ZW->Prop}{St:Nat->ZX->Prop}
theorem UO(W:WalksS prog w A.in1 I fp wr G n P St)(S:ZY)(hSf:S∉fp)(val:Nat->Int)(hval:∀ i v,P i v->∃ t,v = .int (val i) t)(hb:n+1<A0a):
 ∀(k i:Nat) (s:ZX),i+k=n->St i s->SetX prog w s.heap S (A0j val i)->
  (∀ s',Moved (S::wr) G s s'->SetX prog w s'.heap S (A0j val n)->R (.ok (.ret .none)) s')->
  codeAny (Zc prog w) A (.builtin "set.update.loop" ⟨[.ref S,.ref I],[]⟩) R s:=by
 have nw:S∉wr:=λz=>hSf (W.sub _ z);have up:∀ b∈wr,b∈S::wr:=λb hb=>W5 _ hb;intro k
 induction k with
 | zero=>
   intro i s hk hst hX hR;obtain rfl:i=n:=hk;refine Zo F.entry_set_update_loop ?_;rw[Around.under_plainId F.plain_set_update_loop _];exact ZV (m:=pyNext (.ref I)) (W.done s _ _ hst λs' hm=>ZZ (hR s' (hm.mono up) (hX.keep λo e=>hm.heap S o nw e)))
 | succ k ih=>
   intro i s hk hst hX hR;refine Zo F.entry_set_update_loop ?_;rw[Around.under_plainId F.plain_set_update_loop _];refine ZV (m:=pyNext (.ref I)) (W.item i s _ _ (by omega) hst λv s1 hP st1 hm=>?_);obtain⟨t,rfl⟩:=hval i v hP;refine ZV (m:=holding [Value.int (val i) t] (setAdd S (.int (val i) t))) (Zm ?_);unfold setAdd;have X1:SetX prog w s1.heap S (A0j val i):=hX.keep λo e=>hm.heap S o nw e;have room:(A0j val i).length+1<A0a:=by have:=A0H val i;omega
   refine Zm (ZV ((intKind prog w).pyHash (k:=val i) (A1O _ _ _ _) ?_));refine VQ (s:={s1 with toks:=s1.toks+1}) X1 room λh2 b hsb X2=>?_;rw[<-firstMet_succ]at X2;have oth:∀ b o,b≠S->s1.heap.get? b=some o->h2.get? b=some o:=λb o hne e=>(hsb.2 b hne).trans e;refine ZZ ⟨Zz F.plain_set_update_loop _,ih (i+1) _ (by omega) (W.frame _ s1 _ _ st1 (Y6 _) λb hbf o e=>oth b o (λz=>hSf (z▸hbf)) e) X2 λs3 m3 X3=>?_⟩;exact hR s3 (Moved.trans W.gtrans ((hm.mono up).then_heap (Y6 _) λb o hb e=>oth b o (λz=>hb (by rw[z];exact WG)) e) m3) X3
end
section
variable{prog:Zd}{w:Zf}{A:Zj}{E:ZW->ZX->Prop}{s:ZX}
noncomputable abbrev Ax(w:Zf):Obj:={cls := .type "set",dict:=none,data := .set #[] 0 (.fresh 0 0 (!w.params.followText "set-order"))}
theorem UP(a:ZW){Q₁:ZW->ZX->Prop}(h:Q₁ (.ref s.heap.objs.size) {s with heap:=s.heap.push (Ax w)}):codeAny (Zc prog w) A (.call (.builtin "set.__new__") ⟨[.type "set",a],[]⟩) (wants Q₁ E) s:=by
 refine A13 ?_;show Zb _ A.in1 (A0W "set.__new__" ⟨[.type "set",a],[]⟩ >>= λ_=>again (.builtin "set.__new__" ⟨[.type "set",a],[]⟩)) _ _ s;refine ZV (A1b (F.newCall_set_1 a) (ZZ ⟨Zz F.plain_set_new _,Zo F.entry_set_new ?_⟩));rw[Around.under_plainId F.plain_set_new _];unfold Builtin.«set.__new__» Builtin.Frozenset.newClass;have sub:=sub_set_self;obtain⟨hp,g,d,tk,os⟩:=s;dsimp only
 wp_walk
 refine A0X (ZZ ?_);dsimp only;simp only[newObj];exact ZV (wpAny_alloc (ZZ (ZZ h)))
theorem Lh(h:Heap):SetX prog w (h.push (Ax w)) h.objs.size []:=
 ⟨_,#[],0,_,W2 _ rfl,⟨rfl,rfl,rfl⟩,rfl,λe he=>by simp at he,by decide,rfl,⟨λi j hi=>absurd hi (X4 _),rfl,rfl⟩,by simp⟩
set_option maxHeartbeats 8000000 in
theorem QK{l:ZY}{items:Array ZW}{ns:List Int}{Q:ZW->ZX->Prop}(hh:A.handled=none)(hl:s.heap.IsList l items)(hi:IntsAre items.toList ns)(hb:items.size+1<A0a)
 (h:∀(h':Heap) (tk:Nat),SetX prog w h' s.heap.objs.size (A0j (λi=>ns.getD i 0) items.size)->(∀ b o,b<s.heap.objs.size->s.heap.get? b=some o->h'.get? b=some o)->Q (.ref s.heap.objs.size) {s with heap:=h',toks:=tk}):
 Zb (Zc prog w) A (call (.type "set") [.ref l]) Q E s:=by
 obtain⟨c,tl,hmro⟩:=F.called_set.mro;have made:=F.called_set.made;have sub:=F.called_set.sub;have u1:=F.called_set.notType;have u2:=F.called_set.canCreate;have u3:=F.typeCall_set_1 (.ref l);refine A1l (A13 ?_);show Zb _ _ (callAny (.type "set") _) _ _ _;refine ZZ ⟨Code.quiet_builtin _ (by decide +kernel),Zo F.entry_type_call ?_⟩;rw[Around.under_plain (A15 "set" [.ref l] []) rfl]
 repeat (any_goals (first | assumption | wp_step))
 refine A03 (UP (.ref l) (E:=E) (Q₁:=λobj s₁=>obj = .ref s.heap.objs.size/\s₁={s with heap:=s.heap.push (Ax w)}) ⟨rfl,rfl⟩) λr s₁ hr=>?_;cases r with
 | error e=>exact hr
 | ok fl=>
   cases fl with
   | ret obj=>
     obtain⟨rfl,rfl⟩:=hr;have gS:(s.heap.push (Ax w)).get? s.heap.objs.size=some (Ax w):=W2 _ rfl;have hT:Shared.TypeIs {s with heap:=s.heap.push (Ax w)} (.ref s.heap.objs.size) "set":=⟨_,gS,rfl⟩
     have u4:=F.called_set.init.lookup;have u5:=F.called_set.init.bind (.ref s.heap.objs.size)
     repeat (any_goals (first | assumption | wp_step))
     refine A03 (A0e (R:=wants (λr s₂=>r = .none/\∃ h' tk,s₂={s with heap:=h',toks:=tk}/\SetX prog w h' s.heap.objs.size (A0j (λi=>ns.getD i 0) items.size)/\
      (∀ b o,b<s.heap.objs.size->s.heap.get? b=some o->h'.get? b=some o)) E) F.called_set.init.plain F.entry_set_init (A1C hT ?_)) λr₂ s₂ hr₂=>?_
     ·obtain⟨⟨cl,di,da,sl⟩,ol,cl',nl,da'⟩:=hl;simp only at cl' da';subst cl' da';have hol:(s.heap.push (Ax w)).get? l=some {cls := .type "list",dict:=di,data := .seq items nl,slots:=sl}:=Vr _ ol;have v1:=F.sub_list_set;have v2:=F.sub_list_frozenset;have v3:(Value.type "list" == Value.type "dict")=false:=by decide
      have hl1:(s.heap.push (Ax w)).IsList l items:=⟨_,hol,rfl,nl,rfl⟩
      unfold Builtin.«set.__init__» noKeywords Builtin.Frozenset.updateFrom;generalize hPI:pyIter=PI
      wp_walk
      subst hPI;refine A0q hl1 (ZV (A1d ?_));have lS:l<s.heap.objs.size:=Vy ol;have z1:(s.heap.push (Ax w)).objs.size=s.heap.objs.size+1:=Ws _ _;have lI:l≠(s.heap.push (Ax w)).objs.size:=by rw[z1];exact W3 (X7 lS)
      have hSf:s.heap.objs.size∉[(s.heap.push (Ax w)).objs.size,l]:=by
       rw[z1];intro z;rcases W4.mp z with z | z
       ·exact absurd z (W3 (Xk _))
       ·exact absurd (W1.mp z) (Yk lS)
      have hval:∀(i:Nat) (v:ZW),items[i]?=some v->∃ t,v = .int ((λi=>ns.getD i 0) i) t:=λi v hv=>IntsAre.int_at hi i v (by rw[X8];exact hv)
      refine UO ((Walks.list (by simp[hh]) _ l lI items).toS) s.heap.objs.size hSf (λi=>ns.getD i 0) hval hb items.size 0 _ (YL _)
       ⟨⟨_,W2 _ rfl,rfl,rfl⟩,hl1.push _⟩ ((Lh s.heap).keep λo e=>Vr _ e) λs' hm X'=>?_
      obtain⟨h',g',d',tk',os'⟩:=s';obtain rfl:g'=s.gens:=hm.gens;obtain rfl:d'=s.drawn:=hm.drawn;obtain rfl:os'=s.os:=hm.os;refine ZZ (ZZ ⟨rfl,h',tk',rfl,X',λb o hb e=>hm.heap b o (λz=>?_) (Vr _ (Vr _ e))⟩);rcases W4.mp z with z | z
      ·exact absurd z (W3 hb)
      ·have z':=W1.mp z;rw[z1]at z';exact absurd z' (W3 (X7 hb))
     ·cases r₂ with
      | error e=>exact hr₂
      | ok fl₂=>
        cases fl₂ with
        | ret r=>
          obtain⟨rfl,h',tk,rfl,X',hk'⟩:=hr₂
          repeat (any_goals (first | assumption | wp_step))
          exact h _ _ X' hk'
        | _=>exact hr₂.elim
   | _=>exact hr.elim
end
namespace SiF
theorem slot_si_next:Slot "set_iterator" "__next__" "set_iterator.__next__":=
 .of (owner:="set_iterator") (n:="__next__") (by rw[A1I,A16];kernel_rfl) (by decide +kernel) (by decide +kernel) (by decide +kernel)
  (by first | exact .inl (by decide +kernel) | exact .inr (by decide +kernel)) (by rw[A1P];kernel_rfl)
theorem entry_si_next:entryFor table "set_iterator.__next__"=some Builtin.«set_iterator.__next__»:=entryFor_of_fast (by kernel_rfl)
theorem args_si_next(a:ZW):argsOk "set_iterator.__next__" ⟨[a],[]⟩:=by unfold argsOk;kernel_rfl
theorem slot_si_iter:Slot "set_iterator" "__iter__" "set_iterator.__iter__":=
 .of (owner:="set_iterator") (n:="__iter__") (by rw[A1I,A16];kernel_rfl) (by decide +kernel) (by decide +kernel) (by decide +kernel)
  (by first | exact .inl (by decide +kernel) | exact .inr (by decide +kernel)) (by rw[A1P];kernel_rfl)
theorem entry_si_iter:entryFor table "set_iterator.__iter__"=some Builtin.«dict_keyiterator.__iter__»:=A1Q (id':="dict_keyiterator.__iter__") (by kernel_rfl) rfl (by decide +kernel) (by kernel_rfl)
theorem args_si_iter(a:ZW):argsOk "set_iterator.__iter__" ⟨[a],[]⟩:=by unfold argsOk;kernel_rfl
theorem entry_set_iter:entryFor table "set.__iter__"=some Builtin.«frozenset.__iter__»:=A1Q (id':="frozenset.__iter__") (by kernel_rfl) rfl (by decide +kernel) (by kernel_rfl)
end SiF
theorem Bv{α:Type}:∀{l:List α} {i:Nat} (h:i<l.length),(l[i]::l.eraseIdx i).Perm l
 | a::l,0,h => .rfl
 | a::l,i+1,h=>(List.Perm.swap a _ _).trans ((Bv (l:=l) (i:=i) (by simpa using h)).cons a)
section
variable{prog:Zd}{w:Zf}{A:Zj}{E:ZW->ZX->Prop}
theorem OS{src:Source}{n:Nat}(hn:n≠0){s:ZX}{Q:Nat->ZX->Prop}(h:∀ i d,i<n->Q i {s with drawn:=d}):Zb (Zc prog w) A (choose src n) Q E s:=by
 intro Γ p hΓ;show Sem.wp _ _ (.choose src n .pure) _ _ _ _;rw[Sem.wp_choose];exact⟨hn,h _ _ (ZH _ (Nat.pos_of_ne_zero hn))⟩
theorem QL{α:Type}:∀(n:Nat) (xs:List α) (s:ZX) (Q:List α->ZX->Prop),xs.length=n->(∀ ys d,ys.Perm xs->Q ys {s with drawn:=d})->Zb (Zc prog w) A (A1Z n xs) Q E s
 | 0,xs,s,Q,hl,h=>by
   unfold A1Z;have:xs=[]:=Xz hl;subst this;exact ZZ (h [] s.drawn .rfl)
 | n+1,[],s,Q,hl,h=>by cases hl
 | n+1,x::xs,s,Q,hl,h=>by
   unfold A1Z;refine ZV (OS (by simp) λi d hi=>?_);rw[Vq hi];dsimp only;refine ZV (QL n _ _ _ (by rw[Y2 hi];simp at hl ⊢;omega) λys d' hp=>ZZ (h _ d' ?_));exact((hp.cons _)).trans (Bv hi)
end
theorem IU{α:Type}(f:Nat->Nat):∀(n k:Nat) (left:List α) (out:Array α),left.length=n->(pickOrder.go f n k left out).toList.Perm (out.toList++left)
 | 0,k,left,out,hl=>by
   have:left=[]:=Xz hl;subst this;unfold pickOrder.go;simp
 | n+1,k,left,out,hl=>by
   unfold pickOrder.go;have hi:f k % left.length<left.length:=ZH _ (by omega);rw[Vq hi];dsimp only;refine(IU f n (k+1) _ _ (by rw[Y2 hi];omega)).trans ?_;rw[Y7,Ym];exact List.Perm.append_left _ (Bv hi)
theorem Ji{α:Type}(f:Nat->Nat)(xs:Array α):(A0Y f xs).toList.Perm xs.toList:=by
 unfold A0Y;simpa using IU f xs.size 0 xs.toList #[] (by simp)
end L2
set_option maxHeartbeats 400000
namespace L2
open PySem PySem.Spec PyProof.Rows
noncomputable def SetAt(w:Zf)(h:Heap)(a:ZY)(es:Array (Int×ZW))(ep:Nat)(t:Zt):Prop:=∃ o,h.get? a=some o/\o.cls = .type "set"/\o.data = .set es ep t/\t.fits es.size=true/\Tab w t
theorem SetAt.keep{w:Zf}{h h':Heap}{a:ZY}{es:Array (Int×ZW)}{ep:Nat}{t:Zt}(x:SetAt w h a es ep t)(k:∀ o,h.get? a=some o->h'.get? a=some o):SetAt w h' a es ep t:=let ⟨o,e,r⟩:=x;⟨o,k o e,r⟩
noncomputable def slotAt(t:Zt)(i:Nat):Nat:=if i=0 then 0 else t.place.getD (i - 1) 0+1
theorem HC{w:Zf}{t:Zt}(T:Tab w t){i:Nat}(hi:i<=t.place.size):SetTable.below t.place (slotAt t i)=i:=by
 obtain⟨h1,h2,h3⟩:=FZ T.up (slotAt t i);by_cases z:i=0
 ·subst z;have e:slotAt t 0=0:=rfl;rw[e]at h2 h1 ⊢;by_cases q:SetTable.below t.place 0=0
  ·exact q
  ·have:=h2 0 (by omega) (by omega);omega
 ·have e:slotAt t i=t.place[i - 1]'(by omega)+1:=by unfold slotAt;rw[iG z];simp[ZG,show i - 1<t.place.size by omega]
  rw[e]at h1 h2 h3 ⊢;rcases Yr (SetTable.below t.place (t.place[i - 1]'(by omega)+1)) i with q | q | q
  ·have:=h3 (i - 1) (by omega) (by omega);omega
  ·exact q
  ·have hi2:i<t.place.size:=by omega
   have a:=h2 i hi2 q;have b:=T.up (i - 1) i (by omega) hi2 (by omega);omega
inductive Way(w:Zf)(h:Heap)(T0 S:ZY)(es:Array (Int×ZW))(ep:Nat)(t:Zt)(fs:List (Int×ZW))(i:Nat):ZW->Prop where
 | text (hw:w.params.followText "set-order"=true) (hf:fs=(A0Y (w.params.setOrder S ep) es).toList):Way w h T0 S es ep t fs i (.int 0 0)
 | table (hw:w.params.followText "set-order"=false) (hd:(!t.plain&&decide (es.size>1))=false) (hf:fs=es.toList):Way w h T0 S es ep t fs i (.int (slotAt t i:Nat) 0)
 | drawn (hw:w.params.followText "set-order"=false) (pl:List Nat) (o:Obj) (n:Nat) (ho:h.get? T0=some o) (hd:o.data = .seq (pl.map λk=>Value.int (k:Nat) 0).toArray n) (hl:pl.length=fs.length)
    (hf:∀(k:Nat) p,pl[k]?=some p->es[p]?=fs[k]?):Way w h T0 S es ep t fs i (.ref T0)
noncomputable def Sit(w:Zf)(h:Heap)(T0 I S:ZY)(es:Array (Int×ZW))(ep:Nat)(t:Zt)(fs:List (Int×ZW))(i:Nat):Prop:=
 ∃ o first,h.get? I=some o/\o.cls = .type "set_iterator"/\o.data = .fields #[first,.int (i:Nat) 0,.ref S,.int (es.size:Nat) 0,.int (ep:Nat) 0]/\Way w h T0 S es ep t fs i first
section
variable{prog:Zd}{w:Zf}{A:Zj}{E:ZW->ZX->Prop}{s:ZX}{T0 I S:ZY}{es:Array (Int×ZW)}{ep:Nat}{t:Zt}{fs:List (Int×ZW)}{i:Nat}
theorem Sit.typeIs(x:Sit w s.heap T0 I S es ep t fs i):s.TypeIs (.ref I) "set_iterator":=let ⟨o,_,e,c,_⟩:=x;⟨o,e,c⟩
theorem Ay{b:Bool}(hw:w.params.followText "set-order"=b){Q:Bool->ZX->Prop}(h:Q b s):Zb (Zc prog w) A setsByText Q E s:=by
 unfold setsByText;refine ZV (A0X (ZZ ?_));show Q (w.params.followText "set-order") s;rw[hw];exact h
theorem C7{sl:Nat}{Q:Option (ZW×Nat)->ZX->Prop}(y:SetAt w s.heap S es ep t)(hw:w.params.followText "set-order"=true)(h:Q (((A0Y (w.params.setOrder S ep) es)[i]?).map λe=>(e.2,sl)) s):
 Zb (Zc prog w) A (setNext S sl i ep) Q E s:=by
 obtain⟨oS,hoS,hcS,hdS,hf,T⟩:=y;unfold setNext;refine ZV (A04 hoS hdS hf ?_);dsimp only;refine ZV (Ay hw ?_);rw[iP rfl,iG (by simp)];refine ZV ?_;unfold setWalk;refine ZV (A04 hoS hdS hf ?_);dsimp only;refine ZV (Ay hw ?_);rw[iP rfl];refine ZV (A0X (ZZ ?_));exact ZZ h
theorem Bm{Q:Option (ZW×Nat)->ZX->Prop}(y:SetAt w s.heap S es ep t)(hw:w.params.followText "set-order"=false)(hd:(!t.plain&&decide (es.size>1))=false)(hi:i<=es.size)
 (h:Q (match es[i]?,t.place[i]? with | some (_,x),some j=>some (x,j+1) | _,_=>none) s):Zb (Zc prog w) A (setNext S (slotAt t i) i ep) Q E s:=by
 obtain⟨oS,hoS,hcS,hdS,hf,T⟩:=y
 have hsz:t.place.size=es.size:=by
  simp only[SetTable.fits,Vo,bQ]at hf;exact hf.1
 unfold setNext;refine ZV (A04 hoS hdS hf ?_);dsimp only;refine ZV (Ay hw ?_);rw[iG Vz];show Zb _ _ (if (!t.plain&&decide (es.size>1))=true then _ else _) _ _ _;rw[hd,iG Vz];show Zb _ _ ((if (!t.led&&!es.isEmpty)=true then A1H "set:maker-not-led" else pure ()) >>= _) _ _ _;rw[T.led,hw];refine ZV ?_;rw[show(!(!false)&&!es.isEmpty)=false from rfl,iG Vz];refine ZZ (ZZ ?_);rw[HC T (by omega)];exact h
theorem Jj{e:Int×ZW}{Q:Option ZW->ZX->Prop}(x:Sit w s.heap T0 I S es ep t fs i)(y:SetAt w s.heap S es ep t)(hl:fs.length=es.size)(hi:fs[i]?=some e)
 (hQ:∀ h',WR I s.heap h'->Sit w h' T0 I S es ep t fs (i+1)->Q (some e.2) {s with heap:=h'}):Zb (Zc prog w) A (pyNext (.ref I)) Q E s:=by
 obtain⟨o,first,ho,hc,hd,W⟩:=id x;obtain⟨oS,hoS,hcS,hdS,hf,T⟩:=id y;have hlt:i<es.size:=by rw[<-hl];exact(gM hi).1
 unfold pyNext;refine ZV (A0M (Zq (name:=Str.ofString "__next__") x.typeIs SiF.slot_si_next (Zr SiF.slot_si_next x.typeIs SiF.entry_si_next ?_ (SiF.args_si_next _))));unfold Builtin.«set_iterator.__next__»;refine ZV (m:=slotArgs "__next__" 0 ⟨[.ref I],[]⟩) (ZZ ?_);refine ZV (A1R ho hd ?_);dsimp only;refine ZV (A0y hoS hdS hf ?_);rw[iG (by simp)]
 have step2:∀(nx:Nat) (v:ZW),v=e.2->(∀ h',(∀ T o,T≠I->s.heap.get? T=some o->h'.get? T=some o)->Way w h' T0 S es ep t fs (i+1) (.int nx 0))->
  Zb (Zc prog w) A.in1 (do A1x (.ref I) 0 (rawInt nx);A1x (.ref I) 1 (rawInt ((i:Int)+1));ret v) (λfin s'=>∃ v,fin=Fin.done (Flow.ret v)/\Zb (Zc prog w) A (pure (some v)) Q E s')
   (λe s'=>Zb (Zc prog w) A (do let __do_lift <- A1p e (Value.type "StopIteration");if __do_lift=true then pure none else throw e) Q E s') s:=by
  intro nx v hv hW;subst hv;refine ZV (A01 ho hd (by simp) ?_);have g1:=Wc (Obj.mapFields (·.setIfInBounds 0 (rawInt nx))) ho (Obj.isFreed_of_fields (Obj.data_mapFields hd _));refine ZV (A01 g1 (Obj.data_mapFields hd _) (by simp) ?_);have g2:=Wc (Obj.mapFields (·.setIfInBounds 1 (rawInt ((i:Int)+1)))) g1 (Obj.isFreed_of_fields (Obj.data_mapFields (Obj.data_mapFields hd _) _));refine ZZ ⟨_,rfl,ZZ (hQ _ ((WR.update _ I _).trans (WR.update _ I _)) ⟨_,_,g2,?_,?_,hW _ λT o hT e=>?_⟩)⟩
  ·exact((Obj.cls_mapFields ..).trans (Obj.cls_mapFields ..)).trans hc
  ·rw[Obj.data_mapFields (Obj.data_mapFields hd _)];simp[rawInt]
  ·exact(Wh _ _ (Ne.symm hT)).trans ((Wh _ _ (Ne.symm hT)).trans e)
 cases W with
 | text hw hf'=>
   dsimp only;refine ZV (C7 (i:=i) (ep:=ep) y hw ?_);have:(A0Y (w.params.setOrder S ep) es)[i]?=some e:=by rw[<-X8,<-hf'];exact hi
   rw[this];exact step2 0 e.2 rfl λh' _ => .text hw hf'
 | table hw hd' hf'=>
   dsimp only;refine ZV (Bm (i:=i) (ep:=ep) y hw hd' (by omega) ?_)
   have hsz:t.place.size=es.size:=by
    simp only[SetTable.fits,Vo,bQ]at hf;exact hf.1
   have e1:es[i]?=some e:=by rw[<-X8,<-hf'];exact hi
   have e2:t.place[i]?=some (t.place[i]'(by omega)):=by simp[show i<t.place.size by omega]
   rw[e1,e2];refine step2 _ e.2 rfl λh' _=>?_;have:t.place[i]'(by omega)+1=slotAt t (i+1):=by unfold slotAt;rw[iG (by omega)];simp[ZG,show i<t.place.size by omega]
   rw[this];exact .table hw hd' hf'
 | drawn hw pl oT nT hoT hdT hlT hfT=>
   dsimp only;refine ZV (A07 hoT hdT ?_);have hip:i<pl.length:=by omega
   have e1:pl[i]?=some (pl[i]'hip):=by simp
   have e2:(pl.map λk=>Value.int (k:Nat) 0).toArray[(i:Int).toNat]?=some (.int ((pl[i]'hip:Nat):Int) 0):=by simp[hip]
   dsimp only;rw[e2];dsimp only;have e3:es[pl[i]'hip]?=some e:=by rw[hfT i _ e1];exact hi
   refine ZV ?_;unfold setNextDrawn;refine ZV (A04 hoS hdS hf ?_);dsimp only;rw[iG (by simp),Xr,e3];refine ZZ (ZV (A01 ho hd (by simp) ?_));have g1:=Wc (Obj.mapFields (·.setIfInBounds 1 (rawInt ((i:Int)+1)))) ho (Obj.isFreed_of_fields (Obj.data_mapFields hd _));have hTI:T0≠I:=λz=>by subst z;rw[ho]at hoT;cases hoT;rw[hd]at hdT;cases hdT
   refine ZZ ⟨_,rfl,ZZ (hQ _ (WR.update _ I _) ⟨_,_,g1,(Obj.cls_mapFields ..).trans hc,?_,.drawn hw pl oT nT ((Wh _ _ (Ne.symm hTI)).trans hoT) hdT hlT hfT⟩)⟩;rw[Obj.data_mapFields hd];simp[rawInt]
theorem Li{Q:Option ZW->ZX->Prop}(hh:A.handled=none)(hQ:∀ h',Z8 I s.heap h'->Q none {s with heap:=h'})(k:Sem Unit)(hk:∀(Q':Unit->ZX->Prop) (E':ZW->ZX->Prop),(∀ h',WR I s.heap h'->Q' () {s with heap:=h'})->Zb (Zc prog w) A.in1 k Q' E' s):
 Zb (Zc prog w) A.in1 (k >>= λ_=>newExc (.type "StopIteration") [] >>= λe=>raiseNew (α:=Fin) e) (λfin s'=>∃ v,fin=Fin.done (Flow.ret v)/\Zb (Zc prog w) A (pure (some v)) Q E s')
  (λe s'=>Zb (Zc prog w) A (do let __do_lift <- A1p e (Value.type "StopIteration");if __do_lift=true then pure none else throw e) Q E s') s:=by
 refine ZV (hk _ _ λh' hs=>?_);refine ZV ?_;simp only[newExc,newTuple];refine ZV (Zk ?_ (by size_fits));refine ZV (m:=A0E _ _) (A1b (a:=Value.none) (by first | rfl | (simp only[A0E];rfl)) ?_);refine Zk ?_ (by size_fits);simp only[raiseNew];refine ZV (wpAny_handled ?_);rw[show A.in1.handled=none from hh];refine ZV (ZZ (wpAny_throw ?_));refine ZV (A1D (T:="StopIteration") (b:=true) ⟨_,W2 _ rfl,rfl⟩ isSubtype_stop ?_);exact ZZ (hQ _ ((hs.extBut.push _).push _))
theorem Lj{Q:Option ZW->ZX->Prop}(hh:A.handled=none)(x:Sit w s.heap T0 I S es ep t fs es.size)(y:SetAt w s.heap S es ep t)(hl:fs.length=es.size)
 (hQ:∀ h',Z8 I s.heap h'->Q none {s with heap:=h'}):Zb (Zc prog w) A (pyNext (.ref I)) Q E s:=by
 obtain⟨o,first,ho,hc,hd,W⟩:=id x;obtain⟨oS,hoS,hcS,hdS,hf,T⟩:=id y;unfold pyNext;refine ZV (A0M (Zq (name:=Str.ofString "__next__") x.typeIs SiF.slot_si_next (Zr SiF.slot_si_next x.typeIs SiF.entry_si_next ?_ (SiF.args_si_next _))));unfold Builtin.«set_iterator.__next__»;refine ZV (m:=slotArgs "__next__" 0 ⟨[.ref I],[]⟩) (ZZ ?_);refine ZV (A1R ho hd ?_);dsimp only;refine ZV (A0y hoS hdS hf ?_);rw[iG (by simp)];have one:∀(Q':Unit->ZX->Prop) (E':ZW->ZX->Prop),(∀ h',WR I s.heap h'->Q' () {s with heap:=h'})->Zb (Zc prog w) A.in1 (A1x (.ref I) 2 .none) Q' E' s:=λQ' E' q=>A01 ho hd (by simp) (q _ (WR.update ..));cases W with
 | text hw hf'=>
   dsimp only;refine ZV (C7 (i:=es.size) (ep:=ep) y hw ?_);have:(A0Y (w.params.setOrder S ep) es)[es.size]?=none:=by rw[<-X8,<-hf'];exact Wk (by omega)
   rw[this];exact Li hh hQ _ one
 | table hw hd' hf'=>
   dsimp only;refine ZV (Bm (i:=es.size) (ep:=ep) y hw hd' (W0 _) ?_);rw[show es[es.size]?=none by simp];exact Li hh hQ _ one
 | drawn hw pl oT nT hoT hdT hlT hfT=>
   dsimp only;refine ZV (A07 hoT hdT ?_);have e2:(pl.map λk=>Value.int (k:Nat) 0).toArray[((es.size:Nat):Int).toNat]?=none:=by simp;omega
   dsimp only;rw[e2];dsimp only
   have two:=Li (prog:=prog) (w:=w) (A:=A) (E:=E) (s:=s) (I:=I) (Q:=Q) hh hQ (A1x (.ref I) 0 (rawInt 0) >>= λ_=>A1x (.ref I) 2 .none) λQ' E' q=>by
    refine ZV (A01 ho hd (by simp) ?_);have g1:=Wc (Obj.mapFields (·.setIfInBounds 0 (rawInt 0))) ho (Obj.isFreed_of_fields (Obj.data_mapFields hd _));exact A01 g1 (Obj.data_mapFields hd _) (by simp) (q _ ((WR.update _ I _).trans (WR.update _ I _)))
   rw[bind_assoc]at two;exact two
theorem Jk{Q:ZW->ZX->Prop}(x:Sit w s.heap T0 I S es ep t fs i)(h:Q (.ref I) s):Zb (Zc prog w) A (pyIter (.ref I)) Q E s:=by
 refine A1y x.typeIs SiF.slot_si_iter (Zr SiF.slot_si_iter x.typeIs SiF.entry_si_iter ?_ (SiF.args_si_iter _));show Zb _ _ (ret (.ref I)) _ _ s;exact ZZ ⟨_,rfl,"set_iterator",_,x.typeIs,SiF.slot_si_next.lookup,h⟩
theorem Sit.keep{h h':Heap}(x:Sit w h T0 I S es ep t fs i)(k:∀ b,b=I\/b=T0->∀ o,h.get? b=some o->h'.get? b=some o):Sit w h' T0 I S es ep t fs i:=by
 obtain⟨o,first,ho,hc,hd,W⟩:=x;refine⟨o,first,k I (.inl rfl) _ ho,hc,hd,?_⟩;cases W with
 | text hw hf=>exact .text hw hf
 | table hw hp hf=>exact .table hw hp hf
 | drawn hw pl oT n hoT hdT hl hf=>exact .drawn hw pl oT n (k T0 (.inr rfl) _ hoT) hdT hl hf
theorem UQ(hh:A.handled=none)(T0 I S:ZY)(hne:S≠I)(es:Array (Int×ZW))(ep:Nat)(t:Zt)(fs:List (Int×ZW))(hl:fs.length=es.size):
 Walks prog w A I [I,S,T0] [I] es.size (λi v=>∃ e,fs[i]?=some e/\e.2=v) (λi h=>Sit w h T0 I S es ep t fs i/\SetAt w h S es ep t) where
 sub:=λb hb=>by simp at hb;simp[hb]
 frame:=λ_ _ _ st hk=>⟨st.1.keep λb hb o e=>hk b (by rcases hb with rfl | rfl<;>simp) o e,st.2.keep λo e=>hk S (by simp) o e⟩
 item:=λi s Q E hi st hQ=>by
  have hi':i<fs.length:=by omega
  refine Jj (e:=fs[i]) st.1 st.2 hl (by simp) λh' hs' x'=>?_;exact hQ fs[i].2 h' s.toks ⟨fs[i],by simp,rfl⟩ ⟨x',st.2.keep λo e=>hs'.extBut _ _ hne e⟩ λb o hb e=>hs'.extBut b o (λh=>hb (by simp[h])) e
 done:=λs Q E st hQ=>Lj hh st.1 st.2 hl λh' he'=>hQ h' s.toks λb o hb e=>he' b o (λh=>hb (by simp[h])) e
 self:=λ_ _ _ _ st hQ=>Jk st.1 hQ
theorem UR{Q:ZW->ZX->Prop}(y:SetAt w s.heap S es ep t)(hz:es.size<=Ze)
 (hQ:∀ h' d I T0 fs,(∀ b o,s.heap.get? b=some o->h'.get? b=some o)->s.heap.objs.size<=I->s.heap.objs.size<=T0->h'.objs.size=I+1->fs.Perm es.toList->Sit w h' T0 I S es ep t fs 0->Q (.ref I) {s with heap:=h',drawn:=d}):Zb (Zc prog w) A (pyIter (.ref S)) Q E s:=by
 obtain⟨oS,hoS,hcS,hdS,hf,T⟩:=id y;have hT:s.TypeIs (.ref S) "set":=⟨oS,hoS,hcS⟩
 refine A1y hT F.slot_set_iter (Zr F.slot_set_iter hT SiF.entry_set_iter ?_ (F.args_set_iter_1 _));unfold Builtin.«frozenset.__iter__»;refine ZV (m:=Builtin.Frozenset.slot0 "__iter__" ⟨[.ref S],[]⟩) (ZZ ?_);refine ZV (m:=Builtin.Frozenset.sizeOf S) ?_;unfold Builtin.Frozenset.sizeOf;refine ZV (A0y hoS hdS hf (ZZ ?_));refine ZV ?_;unfold setDrawn;refine ZV (A04 hoS hdS hf ?_);dsimp only
 have fin:∀(first:ZW) (h:Heap) (d:Drawn) (fs:List (Int×ZW)) (T0:ZY),(∀ b o,s.heap.get? b=some o->h.get? b=some o)->s.heap.objs.size<=h.objs.size->s.heap.objs.size<=T0->fs.Perm es.toList->(∀ h',(∀ b o,h.get? b=some o->h'.get? b=some o)->Way w h' T0 S es ep t fs 0 first)->
  Zb (Zc prog w) A.in1 (setEpoch S >>= λe=>newFields "set_iterator" [first,rawInt 0,.ref S,rawInt (es.size:Nat),rawInt e] >>= λv=>ret v)
   (λfin s'=>∃ r,fin=Fin.done (Flow.ret r)/\∃ T' r_1,s'.TypeIs r T'/\typeLookup (.type T') "__next__"=pure (some r_1)/\Q r s') E {s with heap:=h,drawn:=d}:=by
  intro first h d fs T0 hk h1 h2 hp hW
  refine ZV (wpAny_setEpoch_of (hk _ _ hoS) hdS hf ?_);refine ZV (Zk ?_ (by size_fits));refine ZZ ⟨_,rfl,"set_iterator",_,⟨_,W2 _ rfl,rfl⟩,SiF.slot_si_next.lookup,?_⟩;have kp:∀ b o,h.get? b=some o->(h.push {cls := .type "set_iterator",data := .fields #[first,rawInt 0,.ref S,rawInt (es.size:Nat),rawInt (ep:Nat)]}).get? b=some o:=λb o e=>Vr _ e;exact hQ _ d h.objs.size T0 fs (λb o e=>kp b o (hk b o e)) h1 h2 (Ws _ _) hp ⟨_,first,W2 _ rfl,rfl,rfl,hW _ kp⟩
 cases hw:w.params.followText "set-order" with
 | true=>
   refine ZV (Ay hw (ZZ ?_));show Zb _ _ (if (!true&&(!t.plain&&decide (es.size>1)))=true then _ else _) _ _ _;rw[iG (by simp)];refine ZV (ZZ ?_);exact fin _ s.heap s.drawn _ s.heap.objs.size (λ_ _ e=>e) (W0 _) (W0 _) (Ji (w.params.setOrder S ep) es) λh' _ => .text hw rfl
 | false=>
   refine ZV (Ay hw (ZZ ?_));show Zb _ _ (if (!false&&(!t.plain&&decide (es.size>1)))=true then _ else _) _ _ _;cases hpl:(!t.plain&&decide (es.size>1)) with
   | false=>
     rw[iG (by simp)];refine ZV (ZZ ?_);exact fin _ s.heap s.drawn es.toList s.heap.objs.size (λ_ _ e=>e) (W0 _) (W0 _) .rfl λh' _ => .table hw hpl rfl
   | true=>
     rw[iP (by simp)];refine ZV (QL es.size (Vw es.size) s _ (by simp) λpl d hp=>?_);refine ZV (A1S ?_ (by rw[Vp,hp.length_eq,WY];exact hz));have hin:∀ p∈pl,p<es.size:=λp hpm=>WJ.mp (hp.mem_iff.mp hpm);have efs:∃ fs:List (Int×ZW),fs=pl.filterMap (λp=>es[p]?):=⟨_,rfl⟩
     obtain⟨fs,efs⟩:=efs
     have hfs:∀(l:List Nat),(∀ p∈l,p<es.size)->(l.filterMap λp=>es[p]?).length=l.length/\∀(k:Nat) p,l[k]?=some p->es[p]?=(l.filterMap λp=>es[p]?)[k]?:=by
      intro l
      induction l with
      | nil=>intro _;exact⟨rfl,λk p h=>by simp at h⟩
      | cons a l ih=>
        intro hl;obtain⟨i1,i2⟩:=ih λp hp=>hl p (W5 _ hp);have ha:=hl a (WG ..);have ea:es[a]?=some es[a]:=by simp[ha]
        rw[YB ea];refine⟨by simp[i1],λk p h=>?_⟩;cases k with
        | zero=>simp at h;subst h;simp[ha]
        | succ k=>simpa using i2 k p (by simpa using h)
     obtain⟨l1,l2⟩:=hfs pl hin;refine fin _ _ d fs s.heap.objs.size (λb o e=>Vr _ e) (by rw[Ws];exact Y6 _) (W0 _) ?_ λh' k=>?_
     ·rw[efs];exact(hp.filterMap _).trans (by rw[filterMap_getElem?_range])
     ·exact .drawn hw pl _ 0 (k _ _ (W2 _ rfl)) rfl (by rw[efs,l1]) (λk p h=>by rw[efs];exact l2 k p h)
end
end L2
set_option maxHeartbeats 800000
namespace L2
open PySem PySem.Spec PyProof.Rows
section
variable{prog:Zd}{w:Zf}{A:Zj}{E:ZW->ZX->Prop}{s:ZX}{S:ZY}{es:Array (Int×ZW)}{ep:Nat}{t:Zt}
theorem US{Q:Bool->ZX->Prop}(hT:s.TypeIs (.ref S) "set")(h:Q false s):Zb (Zc prog w) A (Builtin.List.listLengthHint (.ref S)) Q E s:=by
 unfold Builtin.List.listLengthHint;refine ZV (wpAny_specialOf hT PySem.F.slot_set_len.lookup ?_);generalize hid:("set.__len__":String)=id0
 wp_delta
 rw[show splitId id0=some ("set","__len__") from by subst hid;decide +kernel];subst hid;refine ZV (A1D (T:="set") (b:=true) hT sub_set_self ?_);refine A14 (λz=>absurd z (by decide)) (λ_=>?_);refine A14 (λ_=>?_) (λz=>absurd (by decide +kernel) z);exact ZV (A0z hT (ZZ h))
theorem Lk{Q:List ZW->ZX->Prop}(hh:A.handled=none)(y:SetAt w s.heap S es ep t)(hz:es.size<=Ze)
 (hQ:∀ h' tk d (acc:List ZW) (fs:List (Int×ZW)),(∀ b o,s.heap.get? b=some o->h'.get? b=some o)->s.heap.objs.size<=h'.objs.size->fs.Perm es.toList->acc=fs.map (·.2)->Q acc {s with heap:=h',toks:=tk,drawn:=d}):
 Zb (Zc prog w) A (collect (.ref S)) Q E s:=by
 obtain⟨oS,hoS,hcS,hdS,hf,T⟩:=id y;unfold collect;refine ZV (A1d (Zo PySem.F.entry_proto_collect ?_));rw[Around.under_plainId PySem.F.plain_proto_collect _];refine ZV (m:=newList []) (Zk ?_);refine ZZ ⟨Zz PySem.F.plain_list_iadd _,Zo PySem.F.entry_list_iadd ?_⟩;rw[Around.under_plainId PySem.F.plain_list_iadd _];show Zb _ A.in1 (Builtin.List.listExtendWith (.ref s.heap.objs.size) (.ref S) (.ref s.heap.objs.size)) _ _ {s with heap:=s.heap.push {cls := .type "list",data := .seq ([]:List ZW).toArray}};have y1:SetAt w (s.heap.push {cls := .type "list",data := .seq ([]:List ZW).toArray}) S es ep t:=y.keep λo e=>Vr _ e;have hne:s.heap.objs.size≠S:=λz=>by rw[<-z]at hoS;exact absurd (Vy hoS) (X6 _)
 have hL:(s.heap.push {cls := .type "list",data := .seq ([]:List ZW).toArray}).get? s.heap.objs.size=some {cls := .type "list",data := .seq #[]}:=W2 _ rfl;have hz1:(s.heap.push {cls := .type "list",data := .seq ([]:List ZW).toArray}).objs.size=s.heap.objs.size+1:=Ws _ _;unfold Builtin.List.listExtendWith;refine ZV (A0z (T:="set") ⟨oS,Vr _ hoS,hcS⟩ ?_);have b1:Builtin.List.listSameRef (.ref s.heap.objs.size) (.ref S)=false:=by simp[Builtin.List.listSameRef,hne]
 have b2:(Value.type "set" == Value.type "list")=false:=by decide
 have b3:(Value.type "set" == Value.type "tuple")=false:=by decide
 simp only[b1,b2,b3,Xy,Xo,if_false];refine ZV (UR (s:={s with heap:=s.heap.push {cls := .type "list",data := .seq ([]:List ZW).toArray}}) y1 hz λh2 d I T0 fs k2 hI hT0 hz2 hp x2=>?_);have y2:SetAt w h2 S es ep t:=y1.keep λo e=>k2 _ _ e;refine ZV (Zm (US (s:={s with heap:=h2,drawn:=d}) ⟨oS,k2 _ _ (Vr _ hoS),hcS⟩ ?_));have hL2:=k2 _ _ hL;have LI:s.heap.objs.size≠I:=by rw[hz1]at hI;exact W3 hI
 have LT:s.heap.objs.size≠T0:=by rw[hz1]at hT0;exact W3 hT0
 have SI:S≠I:=λz=>by
  have h1:=Vy hoS;rw[hz1,<-z]at hI;exact absurd (Ys hI) (YD h1)
 have nf:s.heap.objs.size∉[I,S,T0]:=by
  simp only[W4,Xw,or_false,not_or];exact⟨LI,hne,LT⟩
 have hlen:fs.length=es.size:=by rw[hp.length_eq,Wm]
 have W:=(UQ (prog:=prog) (w:=w) (A:=A.in1) hh T0 I S SI es ep t fs hlen).toS
 have key:∀(h:Heap) (c tk:Nat),Sit w h T0 I S es ep t fs 0->SetAt w h S es ep t->(∀ b o,b≠s.heap.objs.size->h2.get? b=some o->h.get? b=some o)->h.get? s.heap.objs.size=some {cls := .type "list",dict:=none,data := .seq #[] c,slots:=#[]}->s.heap.objs.size<=h.objs.size->
  codeAny (Zc prog w) A (.builtin "list.extend.loop" ⟨[.ref s.heap.objs.size,.ref I,.ref s.heap.objs.size],[]⟩) (wants (λv s'=>∃ h' tk' acc c',v = .ref s.heap.objs.size/\s'={s with heap:=h',toks:=tk',drawn:=d}/\(∀ b o,s.heap.get? b=some o->h'.get? b=some o)/\s.heap.objs.size<=h'.objs.size/\h'.get? s.heap.objs.size=some {cls := .type "list",dict:=none,data := .seq acc c',slots:=#[]}/\ItemsOf (λi v=>∃ e,fs[i]?=some e/\e.2=v) acc es.size) E) {s with heap:=h,toks:=tk,drawn:=d}:=by
  intro h c tk x3 y3 k3 hL3 hz3;refine codeAny_extend_loopS W hz s.heap.objs.size nf (.ref s.heap.objs.size) es.size 0 _ #[] c rfl (XG _) ⟨x3,y3⟩ hL3 (ItemsOf.nil _) λs' acc c' hm hS' hacc=>?_;rw[Moved.eq_with hm];refine⟨s'.heap,s'.toks,acc,c',rfl,rfl,λb o e=>hm.heap b o (λz=>?_) (k3 b o (W3 (Vy e)) (k2 _ _ (Vr _ e))),XO (Vy hS'),hS',hacc⟩;rcases W4.mp z with z | z
  ·exact absurd z (W3 (Vy e))
  ·have z':=W1.mp z;rw[hz1]at hI;have:=Vy e;rw[z']at this;exact absurd this (YD (Ys hI))
 have fin:∀ r s',wants (λv s'=>∃ h' tk' acc c',v = .ref s.heap.objs.size/\s'={s with heap:=h',toks:=tk',drawn:=d}/\(∀ b o,s.heap.get? b=some o->h'.get? b=some o)/\s.heap.objs.size<=h'.objs.size/\h'.get? s.heap.objs.size=some {cls := .type "list",dict:=none,data := .seq acc c',slots:=#[]}/\ItemsOf (λi v=>∃ e,fs[i]?=some e/\e.2=v) acc es.size) E r s'->
  wants (λv s'=>Zb (Zc prog w) A (match v with | .ref a=>load a >>= λo=>(match o.data with | .seq xs _=>pure xs.toList | _=>A1H "internal:collect") | _=>A1H "internal:collect") Q E s') E r s':=by
  intro r s' hr;cases r with
  | error e=>exact hr
  | ok fl=>
    cases fl with
    | ret v=>
      obtain⟨h',tk',acc,c',rfl,rfl,h3,h4,h5,h6⟩:=hr;refine ZV (wpAny_load (s:={s with heap:=h',toks:=tk',drawn:=d}) h5 (ZZ (hQ h' tk' d _ fs h3 h4 hp ?_)));refine Xs λk=>?_;rw[Vx,X8];by_cases hk:k<es.size
      ·have ha:acc[k]?=some (acc[k]'(by rw[h6.1];exact hk)):=by simp[h6.1,hk]
       obtain⟨e,he,ev⟩:=h6.2 k _ ha;rw[ha,he,<-ev];rfl
      ·rw[Array.getElem?_eq_none (by rw[h6.1];omega),Wk (by omega)];rfl
    | _=>exact hr.elim
 refine A14 (λ_=>?_) (λ_=>ZZ ⟨Zz PySem.F.plain_extend_loop _,A03 (key _ _ _ x2 y2 (λ_ _ _ e=>e) hL2 (XO (Vy hL2))) fin⟩);refine ZV (A08 (ZV ?_));show Zb _ _ (A1E s.heap.objs.size (·.push .none) >>= λ_=>A1E s.heap.objs.size (·.pop)) _ _ _;refine ZV (A0m hL2 rfl ?_);have u1:=Wc (Obj.mapSeq (·.push Value.none)) hL2 rfl;refine A0m (hz:=by seq_fits) u1 rfl ?_;have u2:=Wc (Obj.mapSeq (·.pop)) u1 rfl;have oth:∀ b o,b≠s.heap.objs.size->h2.get? b=some o->((h2.update s.heap.objs.size (Obj.mapSeq (·.push Value.none))).update s.heap.objs.size (Obj.mapSeq (·.pop))).get? b=some o:=λb o hb e=>(Wh _ _ (Ne.symm hb)).trans ((Wh _ _ (Ne.symm hb)).trans e);refine ZZ ⟨Zz PySem.F.plain_extend_loop _,A03 (key _ _ _ (x2.keep λb hb o e=>oth b o (by rcases hb with rfl | rfl;exact LI.symm;exact LT.symm) e) (y2.keep λo e=>oth _ o hne.symm e) oth u2 ?_) fin⟩;rw[YE,YE];exact XO (Vy hL2)
end
theorem _root_.L2.Inv.dr{X:Cx}{pins:List (ZY×Obj)}{σ:St}{H:Hp}{s:ZX}(I:Inv X pins σ H s)(d:Drawn):Inv X pins σ H {s with drawn:=d}:=
 ⟨I.ok,I.os,I.bare,I.base,I.loc,I.cell,I.free,I.freeC,I.pin,I.hok,I.len⟩
section
variable{prog:Zd}{w:Zf}{A:Zj}{E:ZW->ZX->Prop}{s:ZX}
theorem OT{S:ZY}{L:List Int}{Q:ZW->ZX->Prop}(hh:A.handled=none)(x:SetX prog w s.heap S L)(h64:L.length<64)
 (h:∀(h':Heap) (tk:Nat) (d:Drawn) (l:ZY) (out:Array ZW) (e:Nat),(∀ b o,s.heap.get? b=some o->h'.get? b=some o)->s.heap.objs.size<=l->h'.get? l=some (seqObj "list" out e)->IntsAre out.toList (srt L)->Q (.ref l) {s with heap:=h',toks:=tk,drawn:=d}):
 Zb (Zc prog w) A (call (.builtin "sorted") [.ref S]) Q E s:=by
 obtain⟨o,es,ep,t,ho,hx,hd,hel,hb,hf,hT,hp⟩:=x;refine Calls.call_function_entry kind_sorted plain_sorted entry_sorted (args_sorted1 _) ?_;unfold Builtin.«sorted»;refine ZV (m:=checkCount "sorted" 1 1 _) (ZZ ?_);refine ZV (Lk (A:=A.in1) hh ⟨o,ho,hx.1,hd,hf,hT⟩ (A0K hb) λh2 tk d acc fs k2 hz2 hpf hacc=>?_)
 have hints:∀ v∈acc,∃ n tt,v=Value.int n tt:=by
  intro v hv;rw[hacc]at hv;obtain⟨e,he,rfl⟩:=WU.mp hv;obtain⟨⟨k,hk,_⟩,_⟩:=hel e (hpf.mem_iff.mp he);obtain⟨tt,e2⟩:=Value.isInt_shape (k:=k) (v:=e.2) hk;exact⟨k,tt,e2⟩
 have hI:IntsAre acc (acc.map numOf):=intsAre_map acc hints
 have hpL:(acc.map numOf).Perm L:=by
  rw[hacc,XE];exact(hpf.map _).trans hp
 have hl64:acc.length<64:=by have:=hpL.length_eq;rw[Vp]at this;omega
 refine ZV (A1j ?_ (by rw[A0J];omega));have hoL:(h2.push (seqObj "list" acc.toArray 0)).get? h2.objs.size=some (seqObj "list" acc.toArray 0):=W2 _ rfl;refine ZV (Zm (Zr (s:={s with heap:=h2.push (seqObj "list" acc.toArray 0),toks:=tk,drawn:=d}) A1T ⟨_,hoL,rfl⟩ A1J (list_sort_tree hoL hI hl64 λout ns' a1 a2 a3=>⟨_,rfl,?_⟩) (args_list_sort _)));have en:ns'=srt L:=Rc (a2.trans hpL) a3;subst en;obtain⟨e,he⟩:=sortedHeap_at (vs:=acc) (out:=out) hoL;refine ZZ ⟨_,rfl,h _ tk d h2.objs.size out e (λb o eb=>?_) hz2 he a1⟩;have hlt:=Vy (k2 b o eb);rw[sortedHeap_old (W3 hlt) (by rw[Ws];exact X7 hlt)];exact Vr _ (k2 b o eb)
end
section
variable{X:Cx}
theorem Jl:Zh "sorted"=some (.builtin "sorted"):=by decide +kernel
noncomputable def AU(ns:List Int):List Int:=A0j (λi=>ns.getD i 0) ns.length
end
open PySem.AutoSeq1 (wpAny_loadPart')
open PySem.MeetsSeq PySem.MeetsSeq2 PySem.MeetsSeq3
theorem rcLt_int{prog:Zd}{w:Zf}{A:Zj}{E:ZW->ZX->Prop}{s:ZX}{a b:Int}{t u:Tok}{Q:ZW->ZX->Prop}(h:Q (.bool (decide (a<b))) s):Zb (Zc prog w) A (A0u .Lt (.int a t) (.int b u)) Q E s:=by
 exact wpAny_richCompare_same (A10 s a t) (A10 s b u) slot_int_lt (call_int_lt ⟨(λx=>nomatch x),h⟩)
section
variable{prog:Zd}{w:Zf}{A:Zj}{E:ZW->ZX->Prop}{s:ZX}{a₀:Array Keyed}
structure SBk(κ:A1U)(a₀:Array Keyed)(st:SortSt):Prop where
 perm:(arrOf st).Perm a₀
 kind:kindOf st=κ
 failed:A1z st=none
 pend:pendingOf st=#[]
theorem SBk.size{κ:A1U}{st:SortSt}(h:SBk κ a₀ st):(arrOf st).size=a₀.size:=h.perm.size_eq
theorem SBk.setArr{κ:A1U}{st:SortSt}(h:SBk κ a₀ st){xs:Array Keyed}(hp:xs.Perm (arrOf st)):SBk κ a₀ (setArr st xs):=⟨hp.trans h.perm,h.kind,h.failed,h.pend⟩
variable{κ:A1U}
end
section
variable{prog:Zd}{w:Zf}{A:Zj}{R:Result->ZX->Prop}{I:ZY}{fp wr:List ZY}{n:Nat}{P:Nat->ZW->Prop}{St:Nat->Heap->Prop}
structure CmpIn(prog:Zd)(w:Zf)(A:Zj)(wr:List ZY)(S:ZY)(P:Nat->ZW->Prop)(bt:Nat->Nat->Bool)(G:Heap->Prop):Prop where
 keep:∀ h h',G h->(∀ b o,b∉wr->b≠S->h.get? b=some o->h'.get? b=some o)->G h'
 cmp:∀(s:ZX),G s.heap->∀(i j:Nat) (vi vj:ZW) (Q:ZW->ZX->Prop) (E:ZW->ZX->Prop),P i vi->P j vj->Q (.bool (bt i j)) s->Zb (Zc prog w) A (A0u .Lt vi vj) Q E s
theorem El{kw:List (Str×ZW)}(W:Walks prog w A.in1 I fp wr n P St){bt:Nat->Nat->Bool}{S:ZY}{G:Heap->Prop}(C:CmpIn prog w A.in1 wr S P bt G)(hSf:S∉fp)(k:Nat):
 ∀(j:Nat) (s:ZX) (vb:ZW) (c:Nat),n=j+1+k->St (j+1) s.heap->G s.heap->P (argBest bt j) vb->
 s.heap.get? S=some {cls := .type "list",dict:=none,data := .seq #[vb,vb] c,slots:=#[]}->
 (∀ v h' tk,P (argBest bt (n - 1)) v->(∀ b o,b∉wr->b≠S->s.heap.get? b=some o->h'.get? b=some o)->R (.ok (.ret v)) {s with heap:=h',toks:=tk})->
 codeAny (Zc prog w) A (.builtin "min.loop" ⟨[.ref I,.none,.ref S],kw⟩) R s:=by
 have hSw:S∉wr:=λz=>hSf (W.sub _ z);have nm:(toString "min"++toString ".loop":String)="min.loop":=by decide
 induction k with
 | zero=>
   intro j s vb c hk hst hG hPb hS hR;refine Zo F.entry_min_loop ?_;rw[Around.under_plainId F.plain_min_loop _];refine ZV (m:=A0U (.ref S)) (A07 hS rfl ?_);have hst':St n s.heap:=by rw[hk];exact hst
   refine ZV (m:=tryCatch (pyNext (.ref I)) _) (A0r (W.done s _ _ hst' λh1 tk k1=>?_));have hS1:=k1 S _ hSw hS;refine ZV (m:=A1E S (λ_=>#[])) (A0m hS1 rfl (ZV (A0v (ZZ ?_))));exact hR vb _ tk (by rw[hk];exact hPb) λb o hb hn e=>(Wh _ _ (Ne.symm hn)).trans (k1 b o hb e)
 | succ k ih=>
   intro j s vb c hk hst hG hPb hS hR;refine Zo F.entry_min_loop ?_;rw[Around.under_plainId F.plain_min_loop _];refine ZV (m:=A0U (.ref S)) (A07 hS rfl ?_);refine ZV (m:=tryCatch (pyNext (.ref I)) _) (A0r (W.item (j+1) s _ _ (by omega) hst λv h1 tk hP st1 k1=>?_));have hS1:=k1 S _ hSw hS;have hG1:=C.keep _ _ hG λb o hb _ e=>k1 b o hb e;refine ZV (m:=tryCatch (holding [v,v] (A0u .Lt v vb >>= _)) _) (A0r (Zm (ZV (C.cmp _ hG1 (j+1) (argBest bt j) v vb _ _ hP hPb ?_))));refine ZV (Zm (Zn (ZV (A0v (ZZ ?_)))));cases hb:bt (j+1) (argBest bt j) with
   | true=>
     simp only[if_true];refine ZV (A0m hS1 rfl (ZV (A0v ?_)));rw[nm];have up:∀ b o,b≠S->h1.get? b=some o->(ZU h1 S (Obj.mapSeq λ_=>#[v,v])).get? b=some o:=λb o hn e=>(Wh _ _ (Ne.symm hn)).trans e;refine ZZ ⟨Zz F.plain_min_loop _,ih (j+1) _ v _ (by omega) (W.frame _ _ _ st1 λb hbf o e=>up b o (λz=>hSf (z▸hbf)) e) (C.keep _ _ hG1 λb o _ hn e=>up b o hn e) ?_ (Wc _ hS1 rfl) λv' h2 tk2 hP' k2=>?_⟩
     ·simp only[argBest,hb,if_true];exact hP
     ·exact hR v' h2 tk2 hP' λb o hbw hn e=>k2 b o hbw hn (up b o hn (k1 b o hbw e))
   | false=>
     simp only[Xo,if_false];refine ZV (A0v ?_);rw[nm];refine ZZ ⟨Zz F.plain_min_loop _,ih (j+1) _ vb c (by omega) st1 hG1 ?_ hS1 λv' h2 tk2 hP' k2=>?_⟩
     ·simp only[argBest,hb,Xo,if_false];exact hPb
     ·exact hR v' h2 tk2 hP' λb o hbw hn e=>k2 b o hbw hn (k1 b o hbw e)
theorem Du{d:ZW}(W:Walks prog w A.in1 I fp wr n P St){bt:Nat->Nat->Bool}{S:ZY}{G:Heap->Prop}(C:CmpIn prog w A.in1 wr S P bt G)(hSf:S∉fp){s:ZX}{c:Nat}(hst:St 0 s.heap)(hG:G s.heap)
 (hS:s.heap.get? S=some {cls := .type "list",dict:=none,data := .seq #[] c,slots:=#[]})
 (h0:n=0->∀ h' tk,(∀ b o,b∉wr->b≠S->s.heap.get? b=some o->h'.get? b=some o)->R (.ok (.ret d)) {s with heap:=h',toks:=tk})
 (hR:0<n->∀ v h' tk,P (argBest bt (n - 1)) v->(∀ b o,b∉wr->b≠S->s.heap.get? b=some o->h'.get? b=some o)->R (.ok (.ret v)) {s with heap:=h',toks:=tk}):
 codeAny (Zc prog w) A (.builtin "min.loop" ⟨[.ref I,.none,.ref S],[(Str.ofString "default",d)]⟩) R s:=by
 have hSw:S∉wr:=λz=>hSf (W.sub _ z);have nm:(toString "min"++toString ".loop":String)="min.loop":=by decide
 refine Zo F.entry_min_loop ?_;rw[Around.under_plainId F.plain_min_loop _];refine ZV (m:=A0U (.ref S)) (A07 hS rfl ?_);by_cases hn:n=0
 ·subst hn;refine ZV (m:=tryCatch (pyNext (.ref I)) _) (A0r (W.done s _ _ hst λh1 tk k1=>?_));exact ZV (A08 (ZZ (h0 rfl h1 tk λb o hb _ e=>k1 b o hb e)))
 ·refine ZV (m:=tryCatch (pyNext (.ref I)) _) (A0r (W.item 0 s _ _ (by omega) hst λv h1 tk hP st1 k1=>?_));have hS1:=k1 S _ hSw hS;have up:∀ b o,b≠S->h1.get? b=some o->(ZU h1 S (Obj.mapSeq λ_=>#[v,v])).get? b=some o:=λb o hn e=>(Wh _ _ (Ne.symm hn)).trans e;refine ZV (m:=A1E S (λ_=>#[v,v])) (A0m hS1 rfl ?_);rw[nm];refine ZZ ⟨Zz F.plain_min_loop _,El W C hSf (n - 1) 0 _ v _ (by omega) (W.frame _ _ _ st1 λb hbf o e=>up b o (λz=>hSf (z▸hbf)) e) (C.keep _ _ (C.keep _ _ hG λb o hb _ e=>k1 b o hb e) λb o _ hn e=>up b o hn e) hP (Wc _ hS1 rfl) λv' h2 tk2 hP' k2=>?_⟩;exact hR (by omega) v' h2 tk2 hP' λb o hbw hn e=>k2 b o hbw hn (up b o hn (k1 b o hbw e))
end
theorem Dv{a b:Int}{us:List ZW}(r:Vals [V.int a,V.int b] us):IntsAre us [a,b]:=by
 cases r with
 | cons r1 r2=>
   obtain⟨t1,rfl⟩:=r1;cases r2 with
   | cons r2 r3=>
     obtain⟨t2,rfl⟩:=r2;cases r3;exact .cons _ _ (.cons _ _ .nil)
theorem Em(a v:ZW):argsOk "min" ⟨[a],[(Str.ofString "default",v)]⟩:=by unfold argsOk;kernel_rfl
section
variable{prog:Zd}{w:Zf}{A:Zj}{E:ZW->ZX->Prop}{s:ZX}
theorem En{l:ZY}{items:Array ZW}{d:ZW}{Q:ZW->ZX->Prop}(hh:A.handled=none)(hl:s.heap.IsList l items)(bt:Nat->Nat->Bool)(G:Heap->Prop)(hG:G s.heap)
 (hkeep:∀ h h',G h->(∀ b o,b<s.heap.objs.size->h.get? b=some o->h'.get? b=some o)->G h')
 (hcmp:∀(s':ZX),G s'.heap->∀(i j:Nat) (vi vj:ZW) (Q:ZW->ZX->Prop) (E:ZW->ZX->Prop),items[i]?=some vi->items[j]?=some vj->Q (.bool (bt i j)) s'->Zb (Zc prog w) A.in1 (A0u .Lt vi vj) Q E s')
 (h0:items.size=0->∀ h' tk,(∀ b o,s.heap.get? b=some o->h'.get? b=some o)->Q d {s with heap:=h',toks:=tk})
 (hR:0<items.size->∀ v h' tk,items[argBest bt (items.size - 1)]?=some v->(∀ b o,s.heap.get? b=some o->h'.get? b=some o)->Q v {s with heap:=h',toks:=tk}):
 Zb (Zc prog w) A (call (.builtin "min") [.ref l] [(Str.ofString "default",d)]) Q E s:=by
 have nm:(toString "min"++toString ".loop":String)="min.loop":=by decide
 have hlt:l<s.heap.objs.size:=by obtain⟨o,ho,_⟩:=hl;exact Vy ho
 refine kmb_tree F.kind_min F.plain_min F.entry_min (Em _ _) ?_;refine ZV (m:=Builtin.Builtins.bindParams "min" ["key","default"] 0 ⟨[],[(Str.ofString "default",d)]⟩) (A1b (show Builtin.Builtins.bindParams "min" ["key","default"] 0 ⟨[],[(Str.ofString "default",d)]⟩=pure [none,some d] from rfl) ?_);refine ZV (ZZ ?_);refine ZV (A0q hl ?_);refine ZV (Zk ?_);rw[nm];have W:=Walks.list (prog:=prog) (w:=w) (A:=A.in1) hh s.heap.objs.size l (W3 hlt) items;have k1:∀ b o,s.heap.get? b=some o->((s.heap.push {cls := .type "list_iterator",data := .fields #[.ref l,.int 0 0]}).push {cls := .type "list",data := .seq ([]:List ZW).toArray}).get? b=some o:=λb o e=>Vr _ (Vr _ e);have nS:(s.heap.push {cls := .type "list_iterator",data := .fields #[.ref l,.int 0 0]}).objs.size=s.heap.objs.size+1:=by simp[Ws]
 have C:CmpIn prog w A.in1 [s.heap.objs.size] (s.heap.push {cls := .type "list_iterator",data := .fields #[.ref l,.int 0 0]}).objs.size (λi v=>items[i]?=some v) bt G:=⟨λh h' g k=>hkeep h h' g λb o hb e=>k b o (by simp;exact W3 hb) (by rw[nS];exact W3 (X7 hb)) e,hcmp⟩
 have old:∀(h:Heap),(∀ b o,b∉[s.heap.objs.size]->b≠(s.heap.push {cls := .type "list_iterator",data := .fields #[.ref l,.int 0 0]}).objs.size->((s.heap.push {cls := .type "list_iterator",data := .fields #[.ref l,.int 0 0]}).push {cls := .type "list",data := .seq ([]:List ZW).toArray}).get? b=some o->h.get? b=some o)->∀ b o,s.heap.get? b=some o->h.get? b=some o:=λh k b o e=>k b o (by simp;exact W3 (Vy e)) (by rw[nS];have:=Vy e;exact W3 (X7 this)) (k1 b o e);refine ZZ ⟨Zz F.plain_min_loop _,Du (d:=d) W C ?_ ?_ (hkeep _ _ hG λb o _ e=>k1 b o e) (W2 _ rfl) (λhz h' tk k=>h0 hz h' tk (old h' k)) (λhz v h' tk hv k=>hR hz v h' tk hv (old h' k))⟩
 ·rw[nS];simp only[W4,Xw,or_false,not_or];exact⟨Nat.succ_ne_self _,λz=>absurd hlt (by rw[<-z];exact YD (Xk _))⟩
 ·exact⟨⟨_,Vr _ (W2 _ rfl),rfl,rfl⟩,hl.at λo e=>k1 _ _ e⟩
end
section
variable{X:Cx}
noncomputable def Ll(X:Cx)(f:ZW)(ks:List Str)(r:List V->List V->Hp->VK->Prop):Prop:=
 ∀(pins:List (ZY×Obj)) (s:ZX) (σ:St) (H:Hp) (vs zs:List V) (us ws:List ZW) (Q:VK),Inv X pins σ H s->Vals vs us->Vals zs ws->r vs zs H Q->Zb (Zc X.prog X.w) X.A (call f us (ks.zip ws)) (EP X pins σ Q) X.xe s
noncomputable def VR(r:List V->List V->Hp->VK->Prop)(t tk:TA):TE:=λσ H Q=>t σ H λvs H1=>tk σ H1 λzs H2=>r vs zs H2 Q
theorem Jm{id:String}{ks:List Str}{r:List V->List V->Hp->VK->Prop}{x:Str}{p pos:Pos}{e:Expr}{es:List Expr}{kws:List Keyword}{t tk:TA}(hc:Ll X (.builtin id) ks r)(hg:Gl X x)(hm:X.mg x=none)(hv:Zh x=some (.builtin id))(ha:PA X (e::es) t)(hkw:PK X kws tk)
 (hks:(A0D pos (A0d kws X.env)).filterMap (·.1)=ks:=by rfl) (hn:x≠"__name__":=by decide) (hdb:(x == ("__debug__":Str))=false:=by decide)
 (he:backTo pos (Zg (e::es) X.env)=(false,eval e X.env)::backTo pos (Zg es X.env):=by rfl) (hpl:(backTo pos (Zg (e::es) X.env)).any (·.1)=false:=by rfl)
 (hall:(A0D pos (A0d kws X.env)).all (·.1.isSome)=true:=by rfl) (hno:(A0D pos (A0d kws X.env)).any (·.1.isNone)=false:=by rfl):PE X (.Call (.Name x p) (e::es) kws pos) (VR r t tk):=by
 intro pins s σ H Q I h;refine Zv (Aj I hg hm hv ?_ hn hdb);refine callWith_kw (thn (ha pos pins s σ H _ I h) λus s1 ⟨vs,H1,I1,r1,q1⟩=>thn (hkw pos pins s1 σ H1 _ I1 q1) λws s2 ⟨zs,H2,I2,r2,q2⟩=>?_) he hpl hall hno;rw[hks];exact hc pins s2 σ H2 vs zs us ws Q I2 r1 r2 q2
noncomputable def OU(H:Hp)(vs:List V)(ps:List (Int×Int)):Prop:=vs.length=ps.length/\∀(i:Nat) (p:Int×Int),ps[i]?=some p->∃ q,vs[i]?=some (.ref q)/\H q=some (.tup [.int p.1,.int p.2])
noncomputable def lt2(p q:Int×Int):Bool:=HT.lexLt [p.1,p.2] [q.1,q.2]
noncomputable def UT:List V->List V->Hp->VK->Prop:=λxs zs H Q=>∃ l vs ps,xs=[.ref l]/\zs=[.non]/\H l=some (.lst vs)/\OU H vs ps/\(ps=[]->Q .non H)/\
 ∀(i:Nat) p q,ps[i]?=some p->vs[i]?=some (.ref q)->i=argBest (λa b=>lt2 (ps.getD a (0,0)) (ps.getD b (0,0))) (ps.length - 1)->0<ps.length->Q (.ref q) H
theorem Jn(hc:X.calm=true)(hu:X.A.units+1<cLine):Ll X (.builtin "min") ["default"] UT:=by
 intro pins s σ H xs zs us ws Q I r rz h;obtain⟨l,vs,ps,rfl,rfl,hl,⟨hlen,hps⟩,q0,q1⟩:=h;obtain⟨u,rfl,ru⟩:=As r;cases ru;obtain⟨z,rfl,rz'⟩:=As rz;cases rz';obtain⟨its,rv,pl,hz⟩:=I.list (SqL.of hl);have hl2:=rv.length
 have tup:∀(i:Nat) (v:ZW),its.toArray[i]?=some v->∃ q p,v = .ref q/\ps[i]?=some p/\vs[i]?=some (.ref q)/\H q=some (.tup [.int p.1,.int p.2])/\∃ ti:List ZW,IsTup s.heap q ti.toArray/\IntsAre ti [p.1,p.2]:=λi v hv=>by
  have hv':its[i]?=some v:=by simpa using hv
  have hi:i<ps.length:=by have:=(gM hv').1;omega
  obtain⟨q,e1,e2⟩:=hps i ps[i] (by simp[hi]);obtain⟨u',eu,ru'⟩:=rv.get e1;rw[hv']at eu;cases eu;cases ru';obtain⟨ti,rt,pt,_⟩:=I.tuple (SqT.of e2);exact⟨q,ps[i],rfl,by simp[hi],e1,e2,ti,pt,Dv rt⟩
 refine En (I.ok.hd hc) pl.isList (λa b=>lt2 (ps.getD a (0,0)) (ps.getD b (0,0))) (λh=>∀(i:Nat) (v:ZW),its.toArray[i]?=some v->∃ q p,v = .ref q/\q<s.heap.objs.size/\ps[i]?=some p/\∃ ti:List ZW,IsTup h q ti.toArray/\IntsAre ti [p.1,p.2]) ?_ ?_ ?_ ?_ ?_
 ·intro i v hv;obtain⟨q,p,e1,e2,_,_,ti,e3,e4⟩:=tup i v hv;obtain⟨o,ho,_⟩:=e3;exact⟨q,p,e1,Vy ho,e2,ti,⟨o,ho,by assumption⟩,e4⟩
 ·intro h h' g k i v hv;obtain⟨q,p,e1,e2,e3,ti,⟨o,ho,hr⟩,e5⟩:=g i v hv;exact⟨q,p,e1,e2,e3,ti,⟨o,k q o e2 ho,hr⟩,e5⟩
 ·intro s' g i j vi vj Q' E' hi hj q;obtain⟨qi,pi,rfl,_,ei,ti,ti1,ti2⟩:=g i vi hi;obtain⟨qj,pj,rfl,_,ej,tj,tj1,tj2⟩:=g j vj hj;refine HT.lt_tupInts ti1 tj1 (by simpa using ti2) (by simpa using tj2) (show X.A.units+1<cLine from hu) ?_;have e1:ps.getD i (0,0)=pi:=by simp[X9,ei]
  have e2:ps.getD j (0,0)=pj:=by simp[X9,ej]
  rw[e1,e2]at q;exact q
 ·intro hz' h' tk k
  have:ps=[]:=by
   cases ps with
   | nil=>rfl
   | cons p r=>rw[Vu]at hz';simp at hlen;omega
  exact⟨.non,H,I.kept (t':=tk) k,rfl,q0 this⟩
 ·intro hp v h' tk hv k;obtain⟨q,p,rfl,e2,e3,e4,_⟩:=tup _ v hv;have hsz:its.toArray.size=ps.length:=by rw[Vu];omega
  rw[hsz]at e2 e3 hp;exact⟨.ref q,H,I.kept (t':=tk) k,rfl,q1 _ p q e2 e3 rfl hp⟩
end
noncomputable def Kpt(hb h:Heap):Prop:=∀ b o,hb.get? b=some o->h.get? b=some o
structure Sk(hb h:Heap)(a k:ZY)(ks xs:Array ZW)(e:Nat):Prop where
 a0:hb.get? a=none
 k0:hb.get? k=none
 ne:k≠a
 kp:Kpt hb h
 kk:∃ n,h.get? k=some (seqObj "list" ks n)
 aa:h.get? a=some (seqObj "list" xs e)
theorem Ep{hb h:Heap}{a:ZY}{g:Obj->Obj}(z:hb.get? a=none)(K:Kpt hb h):Kpt hb (h.update a g):=λb o q=>
 ((WR.update h a g).2 b λe=>by rw[e,z]at q;cases q).trans (K b o q)
theorem Sk.setK{hb h:Heap}{a k:ZY}{ks xs:Array ZW}{e:Nat}(S:Sk hb h a k ks xs e)(f:Array ZW->Array ZW):Sk hb (h.update k (Obj.mapSeq f)) a k (f ks) xs e:=
 ⟨S.a0,S.k0,S.ne,Ep S.k0 S.kp,S.kk.elim λ_ q=>⟨_,A0x q f⟩,((WR.update h k _).2 a S.ne.symm).trans S.aa⟩
theorem Sk.grow{hb h h':Heap}{a k:ZY}{ks xs:Array ZW}{e:Nat}(S:Sk hb h a k ks xs e)(K:Kpt h h'):Sk hb h' a k ks xs e:=
 ⟨S.a0,S.k0,S.ne,λb o q=>K _ _ (S.kp b o q),S.kk.elim λn q=>⟨n,K _ _ q⟩,K _ _ S.aa⟩
theorem Bw{n:Nat}(h:n<64):n<=Ze:=by rw[A0J];omega
theorem IV{n:Nat}(h:n<128):n<=Ze:=by rw[A0J];omega
section
variable{prog:Zd}{w:Zf}{A:Zj}{E:ZW->ZX->Prop}{s:ZX}{hb:Heap}{a k:ZY}{vs:List ZW}{P:PySem.Fin->ZX->Prop}{keys:Array ZW}{e:Nat}
theorem IW{st:SortSt}(S:Sk hb s.heap a k keys #[] e)(hz:keys.size=vs.length)(lt:vs.length<128)(hp:(arrOf st).Perm (keys.zip vs.toArray))(hn:A1z st=none)(h:∀ h' c,Kpt hb h'->h'.get? a=some (seqObj "list" ((arrOf st).map (·.2)) c)->P (.done (.ret .none)) {s with heap:=h'}):Zb (Zc prog w) A (ksk_tail a false e (.ref k) st) P E s:=by
 obtain⟨n,q⟩:=S.kk;have S1:=S.setK λ_=>#[]
 have z:((arrOf st).map (·.2)).size<128:=by
  have:=hp.size_eq;have zv:vs.toArray.size=vs.length:=rfl;rw[ZI]at this;rw[Array.size_map];omega
 exact ZV (A0N q rfl (ZV (A0v (ZV (seqEpoch_at S1.aa rfl (ZV (A0N S1.aa rfl
  (by rw[hn,bne_self_eq_false];exact ZZ (h _ _ (Ep S.a0 S1.kp) (A0x S1.aa _))) (XG _) (Yt (IV z)))))))) (IV (hz▸lt)) (XG _))
end
section
variable{prog:Zd}{w:Zf}{A:Zj}{E:ZW->ZX->Prop}{s:ZX}{vs:List ZW}
theorem DB{hb h:Heap}{o:Obj}(K:Kpt hb h):Kpt hb (h.push o):=λb _ q=>Vr _ (K b _ q)
end
theorem CS{α β:Type}{R:α->β->Prop}{out its:List β}(p:out.Perm its):∀{ws:List α},Paired R ws its->∃ ws',Paired R ws' out/\ws'.Perm ws:=by
 induction p with
 | nil=>exact λ{ws} r=>⟨ws,r,.refl _⟩
 | cons x _ ih=>
   intro ws r;cases r with
   | cons r rr=>
     obtain⟨ws',r',p'⟩:=ih rr;exact⟨_::ws',.cons r r',.cons _ p'⟩
 | swap x y l=>
   intro ws r;cases r with
   | cons r rr=>
     cases rr with
     | cons r2 rr2=>exact⟨_::_::_,.cons r2 (.cons r rr2),.swap ..⟩
 | trans _ _ ih1 ih2=>
   intro ws r;obtain⟨w2,r2,p2⟩:=ih2 r;obtain⟨w1,r1,p1⟩:=ih1 r2;exact⟨w1,r1,p1.trans p2⟩
noncomputable def DC(vs:List V)(js:List Nat)(σ:St):St:=vs.map some++js.map λj=>(σ[j]?).join
noncomputable abbrev Fa(X:Cx)(A:Zj)(q:Str)(sc:Zi)(N':List Str)(s:ZX)(H:Hp)(f c':ZY):Cx where
 prog:=X.prog
 w:=X.w
 K:=X.K
 mg:=X.mg
 base:=X.base
 A:=A.deeper (PySem.W.envX q sc s.heap.objs.size f (.ref c') (j7 X.env sc.names []))
 N:=N'
 s₀:=s
 H₀:=H
 env:=PySem.W.envX q sc s.heap.objs.size f (.ref c') (j7 X.env sc.names [])
 outer:=X.stack
 stack:=PySem.W.envX q sc s.heap.objs.size f (.ref c') (j7 X.env sc.names [])::X.stack
 ex:=[]
 fn:=λx=>sc.names.lookup x == some .cell
 calm:=true
 pn:=[]
 xe:=λ_ _=>False
noncomputable def Bn(sc0 sc:Zi)(ps cn N:List Str)(js:List Nat):Bool:=y7 sc0 sc ps cn N js&&(!sc.isCoroutine&&!sc.isGenerator)&&sc.names.all λx=>!decide (x.2 = .cell)
section
variable{X:Cx}{pins:List (ZY×Obj)}{σ:St}{H:Hp}{s:ZX}{A:Zj}{q:Str}{sc:Zi}{ps cn:List Str}{js:List Nat}{f c':ZY}{vs:List V}{us:List ZW}{h':Heap}{tk:Nat}
theorem OV(I:Inv X pins σ H s)(hok:Bn X.env.scope sc ps cn X.N js=true)(hA:A.frames=some X.stack)(hd:A.handled=none)(r:Vals vs us)(hl:vs.length=ps.length)
 (hns:h'.Ns s.heap.objs.size (λx=>(ps.zip us).reverse.lookup x)) (hk:∀ b o,s.heap.get? b=some o->h'.get? b=some o):
 Inv (Fa X A q sc (ps++cn) s H f c') [] (DC vs js σ) H {s with heap:=h',toks:=tk}:=by
 unfold Bn y7 at hok;simp only[Vo,dQ,W9,WK,W7,decide_eq_false_iff_not]at hok;obtain⟨⟨⟨⟨⟨⟨⟨⟨k1,k2⟩,k3⟩,k4⟩,k5⟩,k6⟩,k7⟩,k8⟩,k9⟩:=hok
 have hfreeK:∀ x∈sc.names,x.2 = .free->X.env.kindOf x.1=some .cell\/X.env.kindOf x.1=some .free:=λx hx hf=>by
  rcases k2 x hx with(z | z) | z
  ·exact absurd hf z
  ·exact .inl z
  ·exact .inr z
 have hfree:∀ x∈sc.names,x.2 = .free->∃ c,X.env.cells.lookup x.1=some c:=λx hx hf=>I.ok.has x.1 (hfreeK x hx hf);have clM:=Bd (env:=X.env) sc.names [] hfree (λp hp=>nomatch hp);have apart:=Ab I.ok.inj sc.names [] k3 hfree List.Pairwise.nil λp hp=>nomatch hp;have noC:∀{x:Str},sc.names.lookup x=some .cell->False:=λ{x} e=>k9 _ (PySem.mem_of_lookup e) rfl;have look:∀{x:Str} {c:ZY},(j7 X.env sc.names []).lookup x=some c->X.env.cells.lookup x=some c:=λ{x c} e=>clM _ (PySem.mem_of_lookup e)
 have cell:∀{x:Str} {c:ZY},(j7 X.env sc.names []).lookup x=some c->∃ v,h'.IsCell c v:=λ{x c} e=>by
  obtain⟨v,o,ho,hd⟩:=I.cell x c (look e);exact⟨v,o,hk _ _ ho,hd⟩
 have hul:us.length=ps.length:=r.length▸hl;obtain⟨m,hm,hloc⟩:=id I.loc
 refine⟨⟨I.ok.mod,k1,rfl,rfl,W0 _,λx y c h1 h2=>A1t apart (PySem.mem_of_lookup h1) (PySem.mem_of_lookup h2),λx hx=>?_,λx c h=>(noC (bQ.mp h)).elim,λ_=>hd,Around.frames_deeper hA,.inr ⟨rfl,rfl⟩,λ_ z=>(nomatch z),I.bs,Wd I.ok.bsz I.sz,λ_ _ _ z=>(nomatch z),λ_ z=>(nomatch z),I.stack,I.stkFree⟩,
  rfl,I.bare,Un.kept hk,⟨_,hns,λi x v h1 h2 h3=>?_⟩,λx c e=>cell e,I.hok.fresh (W0 _),λx c e=>I.freeC x c (look e),λ_ hp=>(nomatch hp),I.hok.kept hk,?_⟩
 ·have hx':sc.names.lookup x=some .cell\/sc.names.lookup x=some .free:=hx;rcases hx' with z | z
  ·exact(noC z).elim
  ·obtain⟨c,hc⟩:=Av (env:=X.env) sc.names [] x (PySem.mem_of_lookup z);exact AG hc
 ·have h1:(ps++cn)[i]?=some x:=h1;have nd:=XZ.mp k6;by_cases hi:i<ps.length
  ·rw[W6 hi]at h1;have h2:(DC vs js σ)[i]?=some (some v):=h2;unfold DC at h2;rw[W6 (by simpa[hl] using hi),Vx]at h2;obtain⟨v',e1,e2⟩:=WZ.mp h2;cases e2;obtain⟨u,hu,rv⟩:=r.get e1;refine⟨u,rv,.inl ⟨(k4 x (Vv h1)).elim id λz=>(noC z).elim,?_⟩⟩;refine p9 (?_:((ps.zip us).reverse.map (·.1)).Nodup) (List.mem_reverse.mpr (Vv (i:=i) ?_))
   ·rw[List.map_reverse,List.map_fst_zip (Yu hul.symm)];exact(List.reverse_perm _).nodup_iff.mpr nd.1
   ·rw[List.getElem?_zip_eq_some];exact⟨h1,hu⟩
  ·rw[We (Z2 hi)]at h1;have h2:(DC vs js σ)[i]?=some (some v):=h2;unfold DC at h2;rw[We (by simpa[hl] using hi),Vp,hl,Vx]at h2;obtain⟨j,e1,e2⟩:=WZ.mp h2
   have e3:X.N[j]?=some x:=by
    have:=congrArg (λl=>l[i - ps.length]?) k7;simp only[Vx,e1,h1,XM]at this;exact oj this
   have hfx:=k5 x (Vv h1);have hvis:=hfreeK (x,.free) (PySem.mem_of_lookup hfx) rfl
   have e4:σ[j]?=some (some v):=by
    cases z:σ[j]? with
    | none=>rw[z]at e2;cases e2
    | some y=>rw[z]at e2;exact congrArg some e2
   obtain⟨u,rv,lk⟩:=hloc j x v e3 e4 (hvis.elim (λz => .inr (.inl z)) λz => .inr (.inr z));refine⟨u,rv,?_⟩;rcases lk with⟨z,_⟩ | ⟨_,c,hc,o,ho,hod⟩
   ·have z':X.env.kindOf x=some .local:=z;rcases hvis with y | y<;>(rw[z']at y;cases y)
   ·obtain⟨c2,hc2⟩:=AG (Av (env:=X.env) sc.names [] x (PySem.mem_of_lookup hfx)).choose_spec;have:c2=c:=oj ((look hc2).symm.trans hc);subst this;exact .inr ⟨.inr hfx,c2,hc2,o,hk _ _ ho,hod⟩
 ·show(DC vs js σ).length=(ps++cn).length;have:=congrArg YV k7;rw[Vp,Vp]at this;unfold DC;rw[Vs,Vs,Vp,Vp,hl,this]
noncomputable def Dw(f:ZY)(q:Str)(params:A0A)(body:Expr)(sc:Zi)(cl:List (Str×ZY))(c':ZY):HO := .ext λh=>∃ pm ctv,h.get? f=some (PySem.W.kla_obj "<lambda>" q params body sc cl pm c' ctv)
noncomputable def CodO(c':ZY)(q:Str):HO := .ext λh=>h.CodeRec (.ref c') q
theorem Ln{params:A0A}{body:Expr}{t:TE}{Q:VK}(I:Inv X pins σ H s)(hok:Bn X.env.scope sc ps cn X.N js=true)(hA:A.frames=some X.stack)(hd:A.handled=none)(dep:A.depth<A0c)
 (hf:H f=some (Dw f q params body sc (j7 X.env sc.names []) c')) (hc:H c'=some (CodO c' q)) (hbind:∀ pm ctv,A0S (PySem.W.kla_fn "<lambda>" q params body sc (j7 X.env sc.names []) pm (.ref c') ctv) ⟨us,[]⟩=pure (ps.zip us))
 (r:Vals vs us) (hl:vs.length=ps.length) (hb:PE (Fa X A q sc (ps++cn) s H f c') body t) (ht:t (DC vs js σ) H Q):
 Zb (Zc X.prog X.w) A (call (.ref f) us []) (EP X pins σ Q) (λ_ _=>False) s:=by
 have hok':=hok;unfold Bn y7 at hok;simp only[Vo,dQ,W9,WK,W7,decide_eq_false_iff_not]at hok;obtain⟨⟨⟨⟨⟨⟨⟨⟨k1,k2⟩,k3⟩,k4⟩,k5⟩,k6⟩,k7⟩,k8⟩,k9⟩:=hok;obtain⟨⟨pm,ctv,ho⟩,_⟩:=I.hok f _ hf;obtain⟨hcd,_⟩:=I.hok c' _ hc;refine A1l (PySem.W.kla_callFunE dep ho rfl k8.1 k8.2 rfl hcd ?_);rw[hbind];refine ZZ (wpAny_newFunctionEnv k9 (λx hx=>?_) (λh₁ hns hsb=>⟨?_,?_⟩) k1)
 ·exact(k4 x.1 (XJ (show(x.1,x.2)∈ps.zip us from hx)).1).elim id λz=>(k9 _ (PySem.mem_of_lookup z) rfl).elim
 ·exact I.nolimit.fresh _ hsb
 ·have hk:∀ b o,s.heap.get? b=some o->h₁.get? b=some o:=λb o e=>hsb.extBut b o (W3 (Vy e)) (Vr _ e);have J:=OV (q:=q) (f:=f) (c':=c') (tk:=s.toks+(ps.zip us).length) I hok' hA hd r hl hns hk;refine PySem.W.kla_codeExpr (Zu (hb [] _ _ H Q J ht) (λv s' ⟨x,H',J',rx,qx⟩=>?_) λe s' z=>False.elim z);exact⟨x,H',I.call' J'.os J'.base J'.hok J'.bare λ_ z=>(nomatch z),rx,qx⟩
end
section
variable{prog:Zd}{w:Zf}{A:Zj}{E:ZW->ZX->Prop}{s:ZX}{hb:Heap}{a k:ZY}{vs:List ZW}{P:PySem.Fin->ZX->Prop}{keys:Array ZW}{e:Nat}{kz:List Int}
theorem OW(S:Sk hb s.heap a k keys #[] e)(hk:IntsAre keys.toList kz)(hl:kz.length=vs.length)(lt:vs.length<64)(h:∀ h' (out:Array ZW) c,Kpt hb h'->h'.get? a=some (seqObj "list" out c)->KskOut false kz vs out.toList->P (.done (.ret .none)) {s with heap:=h'}):
 Zb (Zc prog w) A (ksk_end a false vs.toArray e (.ref k) keys) P E s:=by
 have hz:keys.size=vs.length:=(Wm.symm.trans hk.length).trans hl;have zz:(keys.zip vs.toArray).size=vs.length:=by have zv:vs.toArray.size=vs.length:=rfl;rw[ZI];omega
 show Zb _ _ (do let kind <- if vs.toArray.size<2 then pure A1V else keyKind' keys
                    let ((),st) <- (if vs.toArray.size<2 then pure () else sortRuns').run (SortSt.mk' kind (keys.zip vs.toArray) #[] 7 none)
                    ksk_tail a false e (.ref k) st) P E s
 cases XY vs.toArray.size 2 with
 | inl l2=>
   simp only[l2,if_true]
   have hs:SortedTo (arrOf (SortSt.mk' A1V (keys.zip vs.toArray) #[] 7 none)) (arrOf (SortSt.mk' A1V (keys.zip vs.toArray) #[] 7 none)).size:=by
    intro i j hij hj;have hj2:j<(keys.zip vs.toArray).size:=hj;rw[Vu]at l2;have:i=j:=by omega
    subst this;exact Z9 _
   exact ZV (ZZ (ZV (ZZ (IW (st:=SortSt.mk' A1V (keys.zip vs.toArray) #[] 7 none) S hz (WC lt (by decide)) (ZJ.refl _) rfl λh' c k g=>h h' _ c k g (ksk_out (b:=false) hk (ZJ.refl _) hs)))))
 | inr g2=>
   have l2:¬ vs.toArray.size<2:=Nat.not_lt_of_le g2;rw[Vu]at g2;simp only[l2,if_false,ksk_kind hk (hz▸g2)];refine ZV (ZZ (ZV (Zu (Q:=λr s'=>s'=s/\(arrOf r.2).Perm (keys.zip vs.toArray)/\A1z r.2=none/\SortedTo (arrOf r.2) (keys.zip vs.toArray).size) (E:=λ_ _=>False) ?_ ?_ λ_ _ f=>f.elim)))
   ·exact wpS_sortRuns (a₀:=keys.zip vs.toArray) (Q:=λ_ st'=>(arrOf st').Perm (keys.zip vs.toArray)/\A1z st'=none/\SortedTo (arrOf st') (keys.zip vs.toArray).size) (ksk_intKeys hk) ⟨ZJ.refl _,rfl,rfl,rfl⟩ (show 2<=(keys.zip vs.toArray).size by omega) (show(keys.zip vs.toArray).size<64 by omega) λ_ p f o=>⟨p,f,o⟩
   ·intro r s' ⟨e',p,f,o⟩;cases e';exact IW S hz (WC lt (by decide)) p f λh' c k g=>h h' _ c k g (ksk_out (b:=false) hk p (p.size_eq▸o))
end
section
variable{X:Cx}{pins:List (ZY×Obj)}{σ:St}{H:Hp}{s:ZX}{A:Zj}{E:ZW->ZX->Prop}{a k:ZY}{vs:List ZW}{P:PySem.Fin->ZX->Prop}{e:Nat}{kz:List Int}{h':Heap}
theorem Inv.take{t':Nat}{o:HO}(I:Inv X pins σ H s)(hf:FpOk X pins H a)(new:ObjOk X.prog X.w (upd H a o) s.heap a o):Inv X pins σ (upd H a o) {s with toks:=t'}:=by
 obtain⟨f0,f1,f2,f3,f4,f5⟩:=hf
 refine I.step (h':=s.heap) (g':=s.gens) (d':=s.drawn) (ch:=[a]) (λb hb=>?_) (λb o _ _ _ e _=>e) (λb o _ _ _ e _=>⟨o.slots,e⟩) (λb u hc e n=>by rw[c9 (λz=>hc (by simp[z]))];exact n)
  (λb o _ e=>⟨o,e⟩) (λb xs e=>by rw[c9 (f8 e f0)];exact e) (λb u xs e=>by rw[c9 (f8 e f0)];exact e) (λb ps e=>⟨#[],by rw[c9 (f8 e f0),e];simp⟩) (λm hm=>hm) (λb u e=>?_) I.bare
 ·rw[W1.mp hb];exact⟨f3,f1,f4,f5⟩
 ·by_cases hb:b=a
  ·subst hb;rw[j3]at e;cases e;exact new
  ·rw[c9 hb]at e;exact(I.hok b u e).stay (λc v _ q=>q) (λc q=>by rw[c9 (f8 q f0)];exact q) λc xs q=>by rw[c9 (f8 q f0)];exact q
theorem Lo{c:String}{xs:Array ZW}{n:Nat}:∀ v,(seqObj c xs n).data ≠ .cell v:=λ_ z=>nomatch z
theorem Lp{f:ZW}{J:Hp->Prop}(fa:FpOk X pins H a)(fk:FpOk X pins H k)(ne:k≠a)(I:Inv X pins σ H s)(ha:s.heap.get? a=some (seqObj "list" #[] e))(hk:s.heap.get? k=some (seqObj "list" #[] 0))(jh:J H)(lt:vs.length<64)(hl:kz.length=vs.length)
 (turn:∀(i:Nat) (v:ZW) (z:Int) (pins':List (ZY×Obj)) (H':Hp) (s':ZX),vs[i]?=some v->kz[i]?=some z->Inv X pins' σ H' s'->J H'->Zb (Zc X.prog X.w) A (call f [v]) (EP X pins' σ λr H2=>r = .int z/\J H2) (λ_ _=>False) s')
 (h:∀(s':ZX) (H':Hp) (out:Array ZW) (c:Nat),Inv X pins σ H' s'->FpOk X pins H' a->J H'->s'.heap.get? a=some (seqObj "list" out c)->KskOut false kz vs out.toList->P (.done (.ret .none)) s'):
 Zb (Zc X.prog X.w) A (ksk_rest a f false vs.toArray e (.ref k)) P E s:=by
 have fp:∀{H':Hp} {b:ZY},b=a\/b=k->H' b=none->FpOk X pins H' b:=λhb n=>by
  rcases hb with rfl | rfl
  ·exact⟨n,fa.2⟩
  ·exact⟨n,fk.2⟩
 unfold ksk_rest;refine ZV (A08 ?_);rw[List.forIn_toArray];refine ZV (ksk_fold (λi s'=>∃ H' ks n,Inv X pins σ H' s'/\J H'/\H' a=none/\H' k=none/\s'.heap.get? a=some (seqObj "list" #[] e)/\s'.heap.get? k=some (seqObj "list" ks n)/\IntsAre ks.toList (kz.take i)) vs 0 s ⟨H,#[],0,I,jh,fa.1,fk.1,ha,hk,.nil⟩ ?_ ?_)
 ·rintro j v s' hv ⟨H',ks,n,I',j',na,nk,ga,gk,hi⟩;rw[YL]at hi ⊢;have jl:=(gM hv).1;have hz:kz[j]?=some kz[j]:=Vq (hl▸jl)
  have I2:Inv X (pins++[(a,seqObj "list" #[] e),(k,seqObj "list" ks n)]) σ H' s':=I'.pins_of λp hp=>by
   rcases WD.mp hp with z | z
   ·exact I'.pin p (WH _ z)
   ·rcases W4.mp z with rfl | z
    ·exact⟨ga,na,fa.2.1,fa.2.2.1,Lo⟩
    ·rw[W1.mp z];exact⟨gk,nk,fk.2.1,fk.2.2.1,Lo⟩
  refine ZV (A0M (Zu (turn j v _ _ H' s' hv hz I2 j') (λr s2 ⟨x,H2,I3,rx,ex,j2⟩=>?_) λ_ _ no=>no.elim));subst ex;obtain⟨t,rfl⟩:=rx;have pa:=I3.pin (a,seqObj "list" #[] e) (WH _ (WH _ (.head _)));have pk:=I3.pin (k,seqObj "list" ks n) (WH _ (WH _ (.tail _ (.head _))))
  have sz:ks.size=j:=by
   have:=hi.length;rw[Wn,Wm]at this;omega
  have sb:=WR.update s2.heap k (Obj.mapSeq (·.push (.int kz[j] t)));refine ZV (A0N pk.1 rfl (ZZ ⟨rfl,H2,_,_,I3.unpinned.turnedL (ch:=[k]) (λb o hb q=>(sb.2 b λz=>hb (by simp[z])).trans q) (λb hb=>by rw[W1.mp hb];exact fp (.inr rfl) pk.2.1),j2,pa.2.1,pk.2.1,(sb.2 a ne.symm).trans pa.1,A0x pk.1 _,?_⟩) (Bw (by omega)) (Yt (Bw (show(ks.push (.int kz[j] t)).size<64 by rw[Array.size_push];omega))));rw[Y7,List.take_add_one,hz];exact ksk_snoc hi
 ·rintro s' ⟨H',ks,n,I',j',na,nk,ga,gk,hi⟩;rw[YL,YJ (Yu hl)]at hi;refine ZV (listItems_at gk rfl (OW (hb:=PySem.W.hideAll s'.heap [a,k]) ⟨PySem.W.hideAll_none _ (.head _),PySem.W.hideAll_none _ (.tail _ (.head _)),ne,λb o q=>PySem.W.of_hideAll _ q,⟨n,gk⟩,ga⟩ hi hl lt λh' out c K g o=>?_));exact h _ H' out c (I'.turnedL (t':=s'.toks) (ch:=[a,k]) (λb o hb q=>K b o (PySem.W.hideAll_get _ q hb)) λb hb=>(W4.mp hb).elim (λz=>by rw[z];exact fp (.inl rfl) na) λz=>by rw[W1.mp z];exact fp (.inr rfl) nk) (fp (.inl rfl) na) j' g o
noncomputable def QM(h:Heap)(l:ZY)(vs:List ZW):Prop:=∃(T:String) (o:Obj) (n:Nat),(T="list"\/T="tuple")/\h.get? l=some o/\o.cls = .type T/\o.data = .seq vs.toArray n
theorem HD{f:ZW}{J:Hp->Prop}{l q:ZY}{Q:ZW->ZX->Prop}(ef:f = .ref q)(I:Inv X pins σ H s)(hl:QM s.heap l vs)(jh:J H)(lt:vs.length<64)(hz:kz.length=vs.length)
 (turn:∀(i:Nat) (v:ZW) (z:Int) (pins':List (ZY×Obj)) (H':Hp) (s':ZX),vs[i]?=some v->kz[i]?=some z->Inv X pins' σ H' s'->J H'->Zb (Zc X.prog X.w) A.in1.in1 (call f [v]) (EP X pins' σ λr H2=>r = .int z/\J H2) (λ_ _=>False) s')
 (h:∀(s':ZX) (H':Hp) (a:ZY) (out:Array ZW) (c:Nat),Inv X pins σ H' s'->FpOk X pins H' a->J H'->s'.heap.get? a=some (seqObj "list" out c)->KskOut false kz vs out.toList->Q (.ref a) s'):
 Zb (Zc X.prog X.w) A (call (.builtin "sorted") [.ref l] [(Str.ofString "key",f)]) Q E s:=by
 subst ef;obtain⟨T,o,n,hT,ho0,hc,hd⟩:=hl;refine call_function_entry_kw kind_sorted plain_sorted entry_sorted (ksk_s1 _ _) ?_;refine ZV (m:=checkCount "sorted" 1 1 _) (ZZ (ZV (wpAny_collect_seq l hT ho0 hc hd (λh1 K1=>?_) (Bw lt))));have I1:Inv X pins σ H {s with heap:=h1}:=I.kept (t':=s.toks) K1;refine ZV (A1j ?_ (Bw lt));have ho:(h1.push (seqObj "list" vs.toArray 0)).get? h1.objs.size=some (seqObj "list" vs.toArray 0):=W2 _ rfl;have a0:h1.get? h1.objs.size=none:=YT (W0 _);have u1:=A0x ho λ_=>(#[]:Array ZW)
 have hv:vs.toArray.size<64:=lt;refine ZV (Zm (wpAny_call_entry_kw A1T ⟨_,ho,rfl⟩ A1J (ksk_t1 _ _▸?_) (ksk_l1 _ _)));have s3:((h1.push (seqObj "list" vs.toArray 0)).update h1.objs.size (Obj.mapSeq λ_=>(#[]:Array ZW))).objs.size=h1.objs.size+1:=(YE ..).trans (size_push' ..);refine ZV (listItems_at ho rfl (ZV (A0N ho rfl (ZV (seqEpoch_at u1 rfl (ZV (A1S (ZV (A1j (Zm ?_) (XG _))) (Bw hv))))) (Bw hv) (XG _))));have ksz:(((h1.push (seqObj "list" vs.toArray 0)).update h1.objs.size (Obj.mapSeq λ_=>(#[]:Array ZW))).push (seqObj "tuple" vs.toArray 0)).objs.size=h1.objs.size+2:=by rw[size_push',s3]
 have K2:Kpt h1 ((((h1.push (seqObj "list" vs.toArray 0)).update h1.objs.size (Obj.mapSeq λ_=>(#[]:Array ZW))).push (seqObj "tuple" vs.toArray 0)).push (seqObj "list" #[] 0)):=DB (DB (Ep a0 (DB λ_ _ q=>q)))
 refine Lp (s:={s with heap:=(((h1.push (seqObj "list" vs.toArray 0)).update h1.objs.size (Obj.mapSeq λ_=>(#[]:Array ZW))).push (seqObj "tuple" vs.toArray 0)).push (seqObj "list" #[] 0)}) (J:=J) (pins:=pins) (I1.fpOk (W0 _) (I1.hok.fresh (W0 _))) (I1.fpOk (by rw[ksz];exact Xl _ 2) (I1.hok.fresh (by rw[ksz];exact Xl _ 2)))
  (by rw[ksz];show @Ne Nat (h1.objs.size+2) h1.objs.size;omega) (I1.kept (t':=s.toks) K2) (Vr _ (Vr _ u1)) (W2 _ rfl) jh lt hz turn λs' H' out c I' f' j g o=>?_
 exact⟨_,rfl,ZZ ⟨_,rfl,h s' H' _ out c I' f' j g o⟩⟩
end
noncomputable def TabOk(H:Hp)(q:Str)(pos:Pos)(ps:Array ZW):Prop:=TriplesOk ps.toList/\(codeAmong pos ps.toList=none\/∃ c',codeAmong pos ps.toList=some (.ref c')/\H c'=some (CodO c' q))
structure LamNew(H H':Hp)(P f c':ZY)(q:Str)(pos:Pos)(u:HO):Prop where
 lam:H' f=some u
 cod:H' c'=some (CodO c' q)
 new:H f=none
 keep:∀ b o,b≠P->H b=some o->H' b=some o
 tab:∃ ps,H' P=some (.tbl ps)/\TabOk H' q pos ps
section
variable{X:Cx}{pins:List (ZY×Obj)}{σ:St}{H:Hp}{s:ZX}{A:Zj}{E:ZW->ZX->Prop}{q:Str}{pos:Pos}{ps:Array ZW}{sc:Zi}{params:A0A}{body:Expr}{c P c' f:ZY}{h h':Heap}
theorem Lq{Pr:Zd}{w:Zf}{H':Hp}{cl:List (Str×ZY)}{pm ctv:ZW}(e:h.get? f=some (PySem.W.kla_obj "<lambda>" q params body sc cl pm c' ctv)):ObjOk Pr w H' h f (Dw f q params body sc cl c'):=
 ⟨⟨pm,ctv,e⟩,⟨_,e⟩,λ_ _ ⟨pm,ctv,e⟩ k=>⟨pm,ctv,k _ e⟩⟩
theorem Rk{Pr:Zd}{w:Zf}{H':Hp}(e:h.CodeRec (.ref c') q):ObjOk Pr w H' h c' (CodO c' q):=by
 obtain⟨c,o,vs,t,e1,e2,e3,e4⟩:=e;cases e1;refine⟨⟨c',o,vs,t,rfl,e2,e3,e4⟩,⟨o,e2⟩,λh1 h2 ⟨c,o,vs,t,e1,e2,e3,e4⟩ k=>?_⟩;cases e1;exact⟨c',o,vs,t,rfl,k _ e2,e3,e4⟩
theorem Lr{Q:ZW->ZX->Prop}(I:Inv X pins σ H s)(hc:X.env.code = .ref c)(C:PySem.W.CodeHd X.base c P)(hP:H P=some (.tbl ps))(ht:TabOk H q pos ps)(hq:X.env.qual++"<lambda>"=q)(hdef:defaultsOf params X.env=([],[]))
 (hcl:A1o sc X.env=pure (j7 X.env sc.names [])) (h:∀ f c' H' s',Inv X pins σ H' s'->LamNew H H' P f c' q pos (Dw f q params body sc (j7 X.env sc.names []) c')->Q (.ref f) s'):
 Zb (Zc X.prog X.w) A (eval (.Lambda params body sc pos) X.env) Q E s:=by
 refine PySem.W.kla_eval hdef ?_;rw[hq];have hps:s.heap.get? P=some (PySem.W.tabObj ps):=I.hok P _ hP;have hg:=I.mod.glob.keeps I.bk;have C':=C.keeps I.bk;obtain⟨bm,ob,b1,b2,b3,b4,b5,b6⟩:=I.mod.bm
 have hgP:Za≠P:=λz=>by
  obtain⟨o,es,ep,e,hd,_⟩:=hg;rw[z,hps]at e;cases e;cases hd
 have hbP:bm≠P:=λz=>by
  have e:=I.bk _ _ b3;rw[z,hps]at e;cases e;cases b4
 have hbG:bm≠Za:=λz=>by
  obtain⟨o,es,ep,e,hd,_⟩:=I.mod.glob;rw[z,e]at b3;cases b3;rw[hd]at b6;cases b6
 have hbu:s.heap.BuiltinsAt X.mg P:=⟨bm,ob,b1,b2,hbG,hbP,I.bk _ _ b3,b4,b5,b6⟩
 have nP:∀{b:ZY},H b=none->b≠P:=λn z=>by rw[z,hP]at n;cases n
 rcases ht.2 with hnf | ⟨c',hf,hc'⟩
 ·refine PySem.W.kla_makeFunction hcl I.ok.glob hg hc C' hps ht.1 hnf hgP hbu λc' ctv h' tk hx hge hlt hrec htb=>?_;have nf0:(PySem.W.kla_obj "<lambda>" q params body sc (j7 X.env sc.names []) ((X.mg "__name__").getD .none) c' ctv).isFreed=false:=rfl;have ob0:∃ pm,(PySem.W.kla_obj "<lambda>" q params body sc (j7 X.env sc.names []) ((X.mg "__name__").getD .none) c' ctv)=PySem.W.kla_obj "<lambda>" q params body sc (j7 X.env sc.names []) pm c' ctv:=⟨_,rfl⟩
  generalize (PySem.W.kla_obj "<lambda>" q params body sc (j7 X.env sc.names []) ((X.mg "__name__").getD .none) c' ctv)=ob at nf0 ob0 ⊢;obtain⟨pm,eob⟩:=ob0;have hx':∀ b o,b≠P->s.heap.get? b=some o->(h'.push ob).get? b=some o:=λb o n e=>Vr _ (hx b o n e);have hP':(h'.push ob).get? P=_:=Vr _ htb;have hf':(h'.push ob).get? h'.objs.size=_:=(W2 h' nf0).trans (congrArg some eob);have hc2:(h'.push ob).CodeRec (.ref c') q:=hrec.keeps λb o e=>Vr _ e;have nc:H c'=none:=I.hok.fresh hge;have nf:H h'.objs.size=none:=I.hok.fresh (Wd hge (XO hlt));have cP:=nP nc;have fP:=nP nf;have cf:c'≠h'.objs.size:=W3 hlt
  let H':=upd (upd (upd H P (.tbl (ps++#[rawInt pos.line,rawInt pos.col,.ref c']))) c' (CodO c' q)) h'.objs.size (Dw h'.objs.size q params body sc (j7 X.env sc.names []) c')
  have kp:∀ b o,b≠P->H b=some o->H' b=some o:=λb o n e=>by
   show upd _ _ _ b=_;rw[c9 (f8 e nf),c9 (f8 e nc),c9 n];exact e
  have eP:H' P=some (.tbl (ps++#[rawInt pos.line,rawInt pos.col,.ref c'])):=by
   show upd _ _ _ P=_;rw[c9 fP.symm,c9 cP.symm,j3]
  have ec:H' c'=some (CodO c' q):=by
   show upd _ _ _ c'=_;rw[c9 cf,j3]
  have ef:H' h'.objs.size=some (Dw h'.objs.size q params body sc (j7 X.env sc.names []) c'):=j3
  have old:∀ b,H' b=none\/b=P\/b=c'\/b=h'.objs.size\/H' b=H b:=λb=>by
   by_cases z1:b=P
   ·exact .inr (.inl z1)
   ·by_cases z2:b=c'
    ·exact .inr (.inr (.inl z2))
    ·by_cases z3:b=h'.objs.size
     ·exact .inr (.inr (.inr (.inl z3)))
     ·refine .inr (.inr (.inr (.inr ?_)));show upd _ _ _ b=_;rw[c9 z3,c9 z2,c9 z1]
  refine h _ c' H' _ (I.step (g':=s.gens) (d':=s.drawn) (ch:=[]) (λ_ z=>nomatch z) (λb o _ _ _ e n=>hx' b o (nP n) e) (λb o _ _ _ e n=>⟨o.slots,hx' b o (nP n) e⟩) (λb o _ e n=>?_) (λb o _ e=>?_) (λb xs e=>kp _ _ (λz=>by rw[z,hP]at e;cases e) e) (λb o xs e=>kp _ _ (λz=>by rw[z,hP]at e;cases e) e) (λb qs e=>?_) (λm hm=>?_) (λb u e=>?_) I.bare) ⟨ef,ec,nf,kp,_,eP,?_,.inr ⟨c',?_,ec⟩⟩
  ·have lb:=Vy e;show upd _ _ _ b=_;rw[c9 (W3 (WC lb (Wd hge (XO hlt)))),c9 (W3 (WC lb hge)),c9 (nP n)];exact n
  ·by_cases z:b=P
   ·subst z;exact⟨_,hP'⟩
   ·exact⟨o,hx' b o z e⟩
  ·by_cases z:b=P
   ·subst z;rw[hP]at e;cases e;exact⟨_,eP⟩
   ·exact⟨#[],by rw[kp b _ z e];simp⟩
  ·obtain⟨o,es,ep,ho,r⟩:=hm;exact⟨o,es,ep,hx' _ o (nP I.free) ho,r⟩
  ·rcases old b with z | z | z | z | z
   ·rw[z]at e;cases e
   ·subst z;rw[eP]at e;cases e;exact hP'
   ·subst z;rw[ec]at e;cases e;exact Rk hc2
   ·subst z;rw[ef]at e;cases e;exact Lq hf'
   ·by_cases y:b=P
    ·subst y;rw[eP]at e;cases e;exact hP'
    ·rw[z]at e;refine(I.hok b u e).stay (λc v hc q=>hx' c v ?_ q) (λc q=>kp _ _ (λz=>by rw[z,hP]at q;cases q) q) λc xs q=>kp _ _ (λz=>by rw[z,hP]at q;cases q) q;rcases hc with rfl | hc
     ·exact y
     ·exact λz=>by rw[z,hP]at hc;cases hc
  ·rw[Yc];exact TriplesOk_snoc _ _ _ _ ht.1
  ·rw[Yc];exact codeAmong_snoc _ ht.1 hnf
 ·refine PySem.W.kla_makeFunctionHit hcl I.ok.glob hg hc C' hps ht.1 hf hbu λctv h' tk hk hsz=>?_;have nf:H h'.objs.size=none:=I.hok.fresh hsz;have kp:∀ b o,H b=some o->upd H h'.objs.size (Dw h'.objs.size q params body sc (j7 X.env sc.names []) c') b=some o:=λb o e=>by rw[c9 (f8 e nf)];exact e
  exact h _ c' _ _ (I.laid (a:=h'.objs.size) (o:=Dw h'.objs.size q params body sc (j7 X.env sc.names []) c') (t':=tk) (λb u e=>Vr _ (hk b u e)) hsz (Lq (W2 _ rfl))) ⟨j3,kp _ _ hc',nf,λb o _ e=>kp _ _ e,ps,kp _ _ hP,ht.1,.inr ⟨c',hf,kp _ _ hc'⟩⟩
end
theorem DD:∀{kz:List Int} {ws:List V} {its:List ZW},Vals ws its->Paired (λ(p:Int×V) (q:Int×ZW)=>p.1=q.1/\RelV p.2 q.2) (kz.zip ws) (kz.zip its)
 | [],_,_,_ => .nil
 | _::_,_,_,.nil => .nil
 | _::_,_,_,.cons r t => .cons ⟨rfl,r⟩ (DD t)
theorem DE{R:Int->Int->Prop}:∀{ys:List (Int×V)} {zs:List (Int×ZW)},Paired (λ(p:Int×V) (q:Int×ZW)=>p.1=q.1/\RelV p.2 q.2) ys zs->Vals (ys.map (·.2)) (zs.map (·.2))/\ys.map (·.1)=zs.map (·.1)
 | _,_,.nil=>⟨.nil,rfl⟩
 | _,_,.cons r t=>⟨.cons r.2 (DE (R:=R) t).1,by rw[WQ,WQ,r.1,(DE (R:=R) t).2]⟩
noncomputable def UU(X:Cx)(q:Str)(lp:Pos)(params:A0A)(body:Expr)(sc:Zi)(js:List Nat)(tb:TE)(vs:List V)(σ:St)(H1:Hp)(Q:VK):Prop:=
 ∃(p:ZY) (ws:List V) (kz:List Int) (c P:ZY) (ps:Array ZW),vs=[.ref p]/\ws.length<64/\kz.length=ws.length/\X.env.code = .ref c/\PySem.W.codeHdIn X.K c P=true/\H1 P=some (.tbl ps)/\TabOk H1 q lp ps/\
  ∀ f c' H2,LamNew H1 H2 P f c' q lp (Dw f q params body sc (j7 X.env sc.names []) c')->∃ J:Hp->Prop,J H2/\(SqL X.K H2 p ws\/SqT X.K H2 p ws)/\(∀ H,J H->H f=some (Dw f q params body sc (j7 X.env sc.names []) c')/\H c'=some (CodO c' q))/\
   (∀(i:Nat) v z H,ws[i]?=some v->kz[i]?=some z->J H->tb (DC [v] js σ) H λr H'=>r = .int z/\J H')/\
   ∀ H l (ys:List (Int×V)),J H->H l=none->ys.Perm (kz.zip ws)->(ys.map (·.1)).Pairwise (·<=·)->Q (.ref l) (upd H l (.lst (ys.map (·.2))))
theorem Ls{X:Cx}{p pos kp lp:Pos}{e body:Expr}{params:A0A}{sc:Zi}{x q:Str}{cn:List Str}{js:List Nat}{t:TA}{tb:TE}(hg:Gl X "sorted")(hm:X.mg "sorted"=none)(ha:PA X [e] t)(hok:Bn X.env.scope sc [x] cn X.N js=true)(hq:X.env.qual++"<lambda>"=q)
 (hdef:defaultsOf params X.env=([],[])) (hbind:∀(cl:List (Str×ZY)) (pm c' ctv u:ZW),A0S (PySem.W.kla_fn "<lambda>" q params body sc cl pm c' ctv) ⟨[u],[]⟩=pure [(x,u)]) (hd:X.calm=true) (dep:X.A.depth<A0c)
 (hb:∀ s H f c',PE (Fa X X.A.in1.in1 q sc ([x]++cn) s H f c') body tb) (he:backTo pos (Zg [e] X.env)=(false,eval e X.env)::backTo pos (Zg [] X.env)) (hpl:(backTo pos (Zg [e] X.env)).any (·.1)=false):
 PE X (.Call (.Name "sorted" p) [e] [⟨some "key",.Lambda params body sc lp,kp⟩] pos) (λσ H Q=>t σ H λvs H1=>UU X q lp params body sc js tb vs σ H1 Q):=by
 intro pins s σ H Q I h;have hok':=hok;unfold Bn y7 at hok';simp only[Vo,dQ,W9,WK,W7,decide_eq_false_iff_not]at hok';obtain⟨⟨⟨⟨⟨⟨⟨⟨k1,k2⟩,k3⟩,k4⟩,k5⟩,k6⟩,k7⟩,k8⟩,k9⟩:=hok'
 have hcl:A1o sc X.env=pure (j7 X.env sc.names []):=Au λy hy hf=>I.ok.has y.1 (by
  rcases k2 y hy with(z | z) | z
  ·exact absurd hf z
  ·exact .inl z
  ·exact .inr z)
 refine Zv (Aj I hg hm (show Zh "sorted"=some (.builtin "sorted") by decide +kernel) ?_ (by decide) (by decide));refine callWith_kw (thn (ha pos pins s σ H _ I h) λus s1 ⟨vs,H1,I1,r1,p,ws,kz,c,P,ps,ev,lt,lk,ec,C,hP,ht,h1⟩=>?_) he hpl rfl rfl;refine thn (Q:=λzs s2=>∃ f c' H2,zs=[.ref f]/\Inv X pins σ H2 s2/\LamNew H1 H2 P f c' q lp (Dw f q params body sc (j7 X.env sc.names []) c')) (A1m (ZV (Lr I1 ec (PySem.W.codeHd_of_K I1.mod.kin C) hP ht hq hdef hcl λf c' H2 s2 I2 L=>ZV (A0g (ZZ (A1s ⟨f,c',H2,rfl,I2,L⟩)))))) λzs s2 ⟨f,c',H2,ez,I2,L⟩=>?_;subst ez;subst ev;obtain⟨u,rfl,rx⟩:=As r1;cases rx;obtain⟨J,j2,hl,hJ,turn,fin⟩:=h1 f c' H2 L
 obtain⟨its,r',pl⟩:∃ its:List ZW,Vals ws its/\QM s2.heap p its:=by
  rcases hl with hl | hl
  ·obtain⟨its,r',pl,_⟩:=I2.list hl;obtain⟨o,h1,h2,n,h3⟩:=pl.isList;exact⟨its,r',"list",o,n,.inl rfl,h1,h2,h3⟩
  ·obtain⟨its,r',⟨o,h1,h2,n,h3⟩,_⟩:=I2.tuple hl;exact⟨its,r',"tuple",o,n,.inr rfl,h1,h2,h3⟩
 have hlen:=r'.length;refine HD (f := .ref f) (kz:=kz) rfl I2 pl j2 (by omega) (by omega) (λi v z pins' H' s' hv hz I' j'=>?_) λs' H' a out cc I' f' j' g ⟨zs,pm,eo,pw⟩=>?_
 ·have il:=(gM hv).1;have hw:=Vq (show i<ws.length by omega);obtain⟨u,hu,ru⟩:=r'.get hw;rw[hv]at hu;cases hu;exact Ln (ps:=[x]) (js:=js) I' hok I'.ok.frames (I'.ok.hd hd) dep (hJ H' j').1 (hJ H' j').2 (λpm ctv=>hbind _ _ _ _ _) (.cons ru .nil) rfl (hb s' H' f c') (turn i _ z H' hw hz j')
 ·obtain⟨ys,rp,py⟩:=CS pm (DD (kz:=kz) r');have po:=DE (R:=(·<=·)) rp
  have hz2:(ys.map (·.2)).length<=Ze:=by
   rw[Vp,py.length_eq,List.length_zip];exact Bw (XR (Z1 _ _) lt)
  refine⟨.ref a,_,I'.take (t':=s'.toks) f' (show ObjOk X.prog X.w _ _ _ (.lst (ys.map (·.2))) from ⟨hz2,out.toList,cc,eo▸po.1,by simpa using g⟩),rfl,fin H' a ys j' f'.1 py ?_⟩;rw[po.2,Xu];exact pw.imp λ{a b} h=>by simpa using h
noncomputable def IY(ts:List ZY)(H:Hp):Prop:=(∀ P∈ts,H P=some (.tbl #[]))/\∀ b,H b=none\/(∃ o xs,H b=some (.frz o (.lst xs)))\/b∈ts
theorem Jo{P:Zd}{w:Zf}{K:Vn}{mg mb:Str->Option ZW}{k:Nat}{fa a:ZY}{fd:A00}{x:Str}{sp:Sp}{s₁:ZX}{vs:List ZW}{ns:List Int}{ts:List ZY}
 (KX:K.In s₁.heap) (hns:s₁.heap.Ns Za mg) (hb:s₁.heap.Ns A0B mb) (hbb:∀ x:Str,x≠"__name__"->mb x=Zh x) (hlim:s₁.heap.NoLimit) (hbm:BmAt mg s₁.heap) (hg:s₁.gens=#[])
 (ha:s₁.heap.get? a=some {cls := .type "list",data := .seq vs.toArray}) (hi:IntsAre vs ns) (hl:ns.length<=Ze) (hr:Room k callerA) (hts:∀ T∈ts,s₁.heap.get? T=some (PySem.W.tabObj #[])/\K.lookup T=none/\∃ c,PySem.W.codeHdIn K c T=true)
 (F:∀ base:Heap,K.In base->base.Ns Za mg->FnOk P w K mg base CX0 k fa fd [x] sp) (hbind:∀(s:ZX) (u:ZW),BindsTo s fd ⟨[u],[]⟩ [(x,u)])
 (hsp:∀ H:Hp,IY ts H->SqL K H a (ns.map V.int)->sp [.ref a] H (λv _=>v = .bl true) λ_ _ _=>False):
 codeAny (Zc P w) callerA (.call (.ref fa) ⟨[.ref a],[]⟩) (λr s'=>r = .ok (.ret (.bool true))/\OldK s₁.heap s'.heap/\s'.os=s₁.os/\AllBare s'.gens) s₁:=by
 have rv:=EB hi;have lenV:=hi.length;have aT:a∉ts:=λz=>by have e:=(hts a z).1;rw[ha]at e;cases e
 have core:∀ H:Hp,IY ts H->SqL K H a (ns.map V.int)->HOk P w H s₁.heap->(∀ b,H b≠none->b=a\/b∈ts)->(H a≠none->K.lookup a=none)->
  codeAny (Zc P w) callerA (.call (.ref fa) ⟨[.ref a],[]⟩) (λr s'=>r = .ok (.ret (.bool true))/\OldK s₁.heap s'.heap/\s'.os=s₁.os/\AllBare s'.gens) s₁:=by
  intro H hO hS hok hA hK;have t8:∀{b:ZY} {o:Obj},s₁.heap.get? b=some o->H b=none->(Ee s₁.heap H).get? b=some o:=λe n=>Kr e n
  have noA:∀{b:ZY} {o:Obj},s₁.heap.get? b=some o->o≠{cls := .type "list",data := .seq vs.toArray}->o≠PySem.W.tabObj #[]->H b=none:=λ{b o} e d d'=>by
   cases q:H b with
   | none=>rfl
   | some u=>
     rcases hA b (by rw[q];simp) with z | z
     ·rw[z,ha]at e;exact absurd (oj e).symm d
     ·rw[(hts b z).1]at e;exact absurd (oj e).symm d'
  have nsK:∀{b:ZY} {m:Str->Option ZW},s₁.heap.Ns b m->(Ee s₁.heap H).Ns b m:=λ{b m} ⟨o,es,ep,e,d,r⟩=>⟨o,es,ep,t8 e (noA e (λz=>by rw[z]at d;cases d) (λz=>by rw[z]at d;cases d)),d,r⟩
  have hKb:K.In (Ee s₁.heap H):=λb o e=>t8 (KX b o e) (by
   cases q:H b with
   | none=>rfl
   | some u=>
     rcases hA b (by rw[q];simp) with z | z
     ·subst z;rw[hK (by rw[q];simp)]at e;cases e
     ·rw[(hts b z).2.1]at e;cases e)
  have hM:Mod K mg (Ee s₁.heap H):=⟨hKb,nsK hns,⟨mb,nsK hb,hbb⟩,let ⟨mc,h1,h2⟩:=hlim;⟨mc,nsK h1,h2⟩,let ⟨bm,ob,b1,b2,b3,b4,b5,b6⟩:=hbm;⟨bm,ob,b1,b2,t8 b3 (noA b3 (λz=>by rw[z]at b6;cases b6) (λz=>by rw[z]at b6;cases b6)),b4,b5,b6⟩⟩
  have e0:Env0 P w K mg (Ee s₁.heap H) callerA [] s₁ H:=⟨rfl,hM,λb o e=>Nz e,Yu (JM _ _),trivial,(λ_ z=>nomatch z),hok,.of_eq hg⟩
  refine A03 ((F _ hKb (nsK hns)).run callerA [] s₁ H ⟨[.ref a],[]⟩ [.ref a] [.ref a] _ _ hr e0 (hbind s₁ (.ref a)) (.cons rfl .nil) (hsp H hO hS)) λr s' h=>?_;cases r with
  | error e=>exact False.elim h
  | ok fl=>
    cases fl with
    | next=>exact False.elim h
    | brk=>exact False.elim h
    | cont=>exact False.elim h
    | ret u=>
      obtain⟨v,H',os,bare,un,hok',r',q⟩:=h;have q':v = .bl true:=q;subst q';obtain rfl:u=Value.bool true:=r'
      have one:∀ b o,s₁.heap.get? b=some o->s'.heap.get? b=some o\/(b∈ts/\∃ more,s'.heap.get? b=some (PySem.W.tabObj (#[]++more))):=λb o e=>by
       cases q:H b with
       | none=>exact .inl (un.keep b o e q (λz=>nomatch z) (λz=>nomatch z))
       | some u=>
         rcases hO.2 b with z | ⟨ob,xs,z⟩ | z
         ·rw[q]at z;cases z
         ·have z2:=un.frzs b ob _ z;obtain⟨e1,_⟩:=hok b _ z;obtain⟨e2,_⟩:=hok' b _ z2;rw[e]at e1;cases e1;exact .inl e2
         ·obtain⟨more,z2⟩:=un.tbls b _ (hO.1 b z);exact .inr ⟨z,more,hok' b _ z2⟩
      refine⟨rfl,⟨λb o e=>?_,λb o e=>?_⟩,os,bare⟩
      ·rcases one b o e with z | ⟨z,more,g⟩
       ·exact .inl z
       ·obtain⟨e1,_,c,hc⟩:=hts b z;rw[e]at e1;cases e1;exact .inr (.inl ⟨((PySem.W.codeHd_of_K KX hc).tab e).isCodeTable,rfl,#[],more,rfl,g⟩)
      ·rcases one b o e with z | ⟨z,more,g⟩
       ·exact⟨_,z⟩
       ·exact⟨_,g⟩
 have noTS:∀{b:ZY},b∈ts->K.lookup b=none:=λz=>(hts _ z).2.1;cases hk:K.lookup a with
 | some o=>
   have e:=KX a o hk;rw[ha]at e;cases e;refine core (λb=>if b∈ts then some (.tbl #[]) else none) ⟨λT hT=>iP hT,λb=>?_⟩ (.inr ⟨_,vs.toArray,_,hk,rfl,rfl,rfl,by rw[Vu,lenV];exact hl,by simpa using rv⟩) (λb u z=>?_) (λb z=>?_) λz=>absurd (iG aT) z
   ·by_cases hb:b∈ts
    ·exact .inr (.inr hb)
    ·exact .inl (iG hb)
   ·by_cases hb:b∈ts
    ·have z':=(iP hb).symm.trans z;cases z';exact(hts b hb).1
    ·have z':=(iG hb).symm.trans z;cases z'
   ·by_cases hb:b∈ts
    ·exact .inr hb
    ·exact absurd (iG hb) z
 | none=>
   refine core (λb=>if b∈ts then some (.tbl #[]) else if b=a then some (.frz {cls := .type "list",data := .seq vs.toArray} (.lst (ns.map V.int))) else none) ⟨λT hT=>iP hT,λb=>?_⟩ (.inl (.inr ⟨{cls := .type "list",data := .seq vs.toArray},(iG aT).trans (iP rfl)⟩)) (λb u z=>?_) (λb z=>?_) λ_=>hk
   ·by_cases hb:b∈ts
    ·exact .inr (.inr hb)
    ·by_cases h2:b=a
     ·exact .inr (.inl ⟨_,_,(iG hb).trans (iP h2)⟩)
     ·exact .inl ((iG hb).trans (iG h2))
   ·by_cases hb:b∈ts
    ·have z':=(iP hb).symm.trans z;cases z';exact(hts b hb).1
    ·by_cases h2:b=a
     ·have z':=((iG hb).trans (iP h2)).symm.trans z;cases z';subst h2;exact⟨ha,by rw[Vp];exact hl,vs,_,rv,ha⟩
     ·have z':=((iG hb).trans (iG h2)).symm.trans z;cases z'
   ·by_cases hb:b∈ts
    ·exact .inr hb
    ·by_cases h2:b=a
     ·exact .inl h2
     ·exact absurd ((iG hb).trans (iG h2)) z
theorem walk_ofT{l:PySem.W.OpenLaw}{n k:Nat}{q:Zd}{loose:List Str}{XP:(Str->Option ZW)->Heap->Prop}{YP:Zf->Heap->Prop}{d:DefRec}{K:Params->Vn}{sp:Zf->Sp}{x:Str}{ts:List ZY}
 (hn:l.most=some n) (hn2:n<=Ze) (hdf:d.params.defaults=[]) (hr:Room k callerA)
 (hY:∀(w:Zf) (h:Heap),YP w h->(K w.params).In h/\∀ T∈ts,h.get? T=some (PySem.W.tabObj #[])) (hT:∀ w:Zf,∀ T∈ts,(K w.params).lookup T=none/\∃ c,PySem.W.codeHdIn (K w.params) c T=true)
 (F:∀(w:Zf) (mg:Str->Option ZW) (fa:ZY) (h:Heap),(K w.params).In h->h.Ns Za mg->mg d.name=some (.ref fa)->
   ∃ fd:A00,(∀(s:ZX) (u:ZW),BindsTo s fd ⟨[u],[]⟩ [(x,u)])/\
    ∀ base:Heap,(K w.params).In base->base.Ns Za mg->FnOk l.prog w (K w.params) mg base CX0 k fa fd [x] (sp w))
 (hsp:∀(w:Zf) (H:Hp) (a:ZY) (ns:List Int),ns.length<=n->IY ts H->SqL (K w.params) H a (ns.map V.int)->sp w [.ref a] H (λv _=>v = .bl true) λ_ _ _=>False):
 PySem.W.WalkO q loose XP YP l.row.toRowW d [] (λf vs=>PySem.call f vs):=by
 refine Att.attach_call hn hdf λw s₀ s₁ mg mb fa o pm cd doc a vs ns G Y ho hd hcd hmg hobj hints hlen hg=>?_;obtain⟨KX,hts⟩:=hY w _ Y;obtain⟨fd,hb,hF⟩:=F w mg fa _ KX G.T.g hmg;exact Jo KX G.T.g G.T.b G.T.builtins G.T.nolimit G.T.bmain hg hobj hints (Wd hlen hn2) hr (λT z=>⟨hts T z,hT w T z⟩) hF hb λH hO hS=>hsp w H a ns hlen hO hS
noncomputable def Az(h:Heap)(bad:ZY->Bool):Heap:={h with objs:=h.objs.mapIdx λi o=>if bad i=true then {o with data := .freed} else o}
theorem i9(h:Heap)(bad:ZY->Bool)(b:ZY):(Az h bad).get? b=if bad b=true then none else h.get? b:=by
 unfold Az Heap.get?;simp only[Array.getElem?_mapIdx];cases e:h.objs[b]? with
 | none=>simp
 | some o=>
   cases hb:bad b with
   | true=>simp[hb]
   | false=>simp[hb]
theorem ObjOk.here{P:Zd}{w:Zf}{H:Hp}{h:Heap}{a:ZY}{o:HO}(x:ObjOk P w H h a o):∃ ob,h.get? a=some ob:=by
 cases o with
 | lst xs=>obtain⟨_,_,_,_,e⟩:=x;exact⟨_,e⟩
 | tup xs=>obtain⟨_,_,_,o,e,_⟩:=x;exact⟨_,e⟩
 | dK kvs=>obtain⟨_,_,_,_,o,_,_,e,_⟩:=x;exact⟨_,e⟩
 | dT kvs=>obtain⟨_,_,_,_,o,_,_,e,_⟩:=x;exact⟨_,e⟩
 | set S n=>obtain⟨o,_,_,_,e,_⟩:=x;exact⟨_,e⟩
 | ins C dx fs=>obtain⟨_,_,_,e,_⟩:=x;exact⟨_,e⟩
 | own y=>exact x
 | xd fs=>obtain⟨_,⟨_,_,_,e,_⟩,_⟩:=x;exact⟨_,e⟩
 | rng lo hi=>obtain⟨_,_,_,e⟩:=x;exact⟨_,e⟩
 | frz ob u=>obtain⟨e,_⟩:=x;exact⟨_,e⟩
 | tbl ps=>exact⟨_,(show h.get? a=some _ from x)⟩
 | met f y=>exact⟨_,(show h.get? a=some _ from x)⟩
 | ext φ=>obtain⟨_,e,_⟩:=x;exact e
structure Xc(h0 h:Heap)(H:Hp)(x:ZY)(C:ZW):Prop where
 fresh:h0.get? x=none
 free:H x=none
 obj:∃(oe:Obj) (vs:Array ZW) (a0:ZW),h.get? x=some oe/\oe.cls=C/\oe.data = .fields vs/\vs[0]?=some a0/\
  (vs[1]?=some .none\/∃(T:ZY) (oT:Obj) (ts:Array ZW),vs[1]?=some (.ref T)/\T≠x/\h0.get? T=none/\H T=none/\h.get? T=some oT/\oT.data = .fields ts/\ts[3]?=some .none)
structure Xt(h0 h:Heap)(H:Hp)(x:ZY)(C:ZW):Prop where
 fresh:h0.get? x=none
 free:H x=none
 newer:∀ b,h.get? b=none->h0.get? b=none
 obj:∃(oe:Obj) (vs:Array ZW) (a0:ZW) (T:ZY) (oT:Obj) (ts:Array ZW),h.get? x=some oe/\oe.cls=C/\oe.data = .fields vs/\vs[0]?=some a0/\vs[1]?=some (.ref T)/\T≠x/\h0.get? T=none/\H T=none/\h.get? T=some oT/\oT.data = .fields ts/\ts[3]?=some .none
theorem Xt.xc{h0 h:Heap}{H:Hp}{x:ZY}{C:ZW}(t:Xt h0 h H x C):Xc h0 h H x C:=
 let ⟨oe,vs,a0,T,oT,ts,e1,e2,e3,e4,e5,e6,e7,e8,e9,e10,e11⟩:=t.obj
 ⟨t.fresh,t.free,oe,vs,a0,e1,e2,e3,e4,.inr ⟨T,oT,ts,e5,e6,e7,e8,e9,e10,e11⟩⟩
noncomputable def CXE(P:Zd)(w:Zf):CXT:=λouter H s E e s'=>∃(x:ZY) (C:ZW) (H':Hp),e = .ref x/\s'.os=s.os/\AllBare s'.gens/\Un (frs outer) [] H H' s.heap s'.heap/\HOk P w H' s'.heap/\Xt s.heap s'.heap H' x C/\E C none H'
theorem A8{h B B':Heap}:∀{l:List Env},h.FunFrames B l->(∀ L∈frs l,B'.get? L=none)->h.FunFrames B' l
 | [],_,_=>trivial
 | env::r,⟨hk,⟨L,o,hf,hn,ho,hd⟩,hr⟩,hB=>by
   refine⟨hk,⟨L,o,hf,hB L ?_,ho,hd⟩,A8 hr λM hM=>hB M ?_⟩
   ·unfold frs;rw[Wl,hf];exact WG
   ·unfold frs;rw[Wl,hf];exact W5 _ hM
section
variable{X:Cx}{pins:List (ZY×Obj)}{σ:St}{H:Hp}{s:ZX}{E:XK}{Ex:ZW->ZX->Prop}
theorem Lu(I:Inv X pins σ H s)(hst:X.stack=X.env::X.outer)(hfrm:X.env.frame=some X.env.locals)(hex:X.ex=[]){x:ZY}{C:ZW}(xc:Xc X.s₀.heap s.heap H x C)(hE:E C none H):
 Zb (Zc X.prog X.w) X.A (leaving X.env (.ref x)) (λ_ s''=>CXE X.prog X.w X.outer X.H₀ X.s₀ E (.ref x) s'') Ex s:=by
 obtain⟨fresh,free,oe,vs,a0,hx,hcls,hd,h0,hT⟩:=xc;have hfr:=I.ok.frames;have hst':=I.stack;have hsf:=I.stkFree;rw[hst]at hfr hst' hsf;have fs0:frs (X.env::X.outer)=X.env.locals::X.fs:=by unfold frs;rw[Wl,hfrm];rfl
 have noex:∀ b:ZY,b∉X.ex:=λb z=>by rw[hex]at z;cases z
 have lnew:∀ b o,X.s₀.heap.get? b=some o->b≠X.env.locals:=λb o e z=>by
  have:=Vy e;have h2:=I.ok.above;rw[z]at this;exact absurd (WC this h2) (X6 _)
 have fin:∀(bad:ZY->Bool) (h':Heap),(∀ b o,X.s₀.heap.get? b=some o->b∉X.fs->bad b=false)->(∀ b o,H b=some o->bad b=false)->(∀ b,bad b=true->b=x\/b∈X.env.locals::X.fs\/(X.s₀.heap.get? b=none/\H b=none))->
  Heap.LeftW (Az s.heap bad) (X.env::X.outer) x C a0 s.heap h'->CXE X.prog X.w X.outer X.H₀ X.s₀ E (.ref x) {s with heap:=h'}:=by
  intro bad h' b0 b1 b2 ⟨k1,k2,k3,k4⟩;have stay:∀ b o,bad b=false->s.heap.get? b=some o->h'.get? b=some o:=λb o hb e=>k1 b o (by rw[i9,hb];simpa using e)
  have slotk:∀ b o,b∈X.env.locals::X.fs->s.heap.get? b=some o->∃ sl,h'.get? b=some {o with slots:=sl}:=λb o hb e=>by
   rw[<-fs0]at hb;obtain⟨_,o',ho',hn⟩:=hst'.mem hb;rw[e]at ho';cases ho';exact k4 b o e hn
  have there:∀ b o,X.s₀.heap.get? b=some o->∃ o',h'.get? b=some o':=λb o e=>by
   obtain⟨o',e'⟩:=I.base.there b o e (noex b);by_cases hb:b∈X.fs
   ·obtain⟨sl,e2⟩:=slotk b _ (W5 _ hb) e';exact⟨_,e2⟩
   ·exact⟨_,stay b o' (b0 b o e hb) e'⟩
  refine⟨x,C,H,rfl,I.os,I.bare,⟨?_,?_,?_,λb o e _=>there b o e,I.base.tups,I.base.frzs,I.base.tbls⟩,?_,⟨fresh,free,?_,?_⟩,hE⟩
  ·intro b o e n hb _;exact stay b o (b0 b o e hb) (I.base.keep b o e n hb (noex b))
  ·intro b o e n hb _;obtain⟨sl,e1⟩:=I.base.slot b o e n hb (noex b);obtain⟨sl',e2⟩:=slotk b _ (W5 _ hb) e1;exact⟨sl',e2⟩
  ·intro b o e n _;exact I.base.free b o e n (noex b)
  ·intro a o e;refine(I.hok a o e).stay (λb u hb e'=>?_) (λ_ h=>h) (λ_ _ h=>h);rcases hb with rfl | hb
   ·exact stay b u (b1 b o e) e'
   ·exact stay b u (b1 b _ hb) e'
  ·intro b e;cases q:X.s₀.heap.get? b with
   | none=>rfl
   | some o=>
     obtain⟨o',q'⟩:=there b o q;have e:h'.get? b=none:=e;rw[e]at q';cases q'
  ·obtain⟨oe',vs',T',oT,ts,e1,⟨e2,e3⟩,e4,e5,e6,e7,e8,e9,e10⟩:=k3;refine⟨oe',vs',a0,T',oT,ts,e1,e2,e4,e3,e5,e7,?_⟩
   have hh:X.s₀.heap.get? T'=none/\H T'=none:=by
    rw[i9]at e6;cases hb:bad T' with
    | true=>
      rcases b2 T' hb with z | z | z
      ·exact absurd z e7
      ·exfalso;rw[<-fs0]at z;obtain⟨_,o',ho',hn⟩:=k2.mem z;rw[e8]at ho';cases ho';exact hn ts e9
      ·exact z
    | false=>
      rw[hb]at e6;have e6:s.heap.get? T'=none:=by simpa using e6
      constructor
      ·cases q:X.s₀.heap.get? T' with
       | none=>rfl
       | some o=>
         obtain⟨o',q'⟩:=I.base.there T' o q (noex T');rw[e6]at q';cases q'
      ·cases q:H T' with
       | none=>rfl
       | some o=>
         obtain⟨ob,q'⟩:=(I.hok T' o q).here;rw[e6]at q';cases q'
   exact⟨hh.1,hh.2,e8,e9,e10⟩
 have Hx:∀ b o,H b=some o->b≠x:=λb o e z=>by rw[z,free]at e;cases e
 have Hf:∀ b o,H b=some o->b∉X.env.locals::X.fs:=λb o e z=>by
  rw[<-fs0]at z;rw[hsf b z]at e;cases e
 have Sx:∀ b o,X.s₀.heap.get? b=some o->b≠x:=λb o e z=>by rw[z,fresh]at e;cases e
 rcases hT with h1 | ⟨T,oT,ts,h1,hTx,T0,HT,hT,hdT,h3⟩
 ·obtain⟨bad,ebad⟩:∃ bad:ZY->Bool,∀ b,bad b=(decide (b=x)||decide (b∈X.env.locals::X.fs)):=⟨_,λ_=>rfl⟩
  have f0:∀ L∈frs (X.env::X.outer),(Az s.heap bad).get? L=none:=λL hL=>by
   rw[fs0]at hL;rw[i9,ebad,decide_eq_true hL,Y1];rfl
  subst hcls;refine wpAny_leaving_firstW (base:=Az s.heap bad) hfr (A8 hst' f0) hfrm hx (λb o e=>?_) (by rw[i9,ebad];simp) hd h1 h0 λh' L=>fin bad h' (λb o e hb=>?_) (λb o e=>?_) (λb hb=>?_) L
  ·rw[i9]at e;split at e
   ·cases e
   ·exact e
  ·rw[ebad,decide_eq_false (Sx b o e),decide_eq_false (λz=>(W4.mp z).elim (lnew b o e) hb)];rfl
  ·rw[ebad,decide_eq_false (Hx b o e),decide_eq_false (Hf b o e)];rfl
  ·rw[ebad,WK,dQ,dQ]at hb;exact hb.imp id Or.inl
 ·obtain⟨bad,ebad⟩:∃ bad:ZY->Bool,∀ b,bad b=(decide (b=x)||(decide (b∈X.env.locals::X.fs)||decide (b=T))):=⟨_,λ_=>rfl⟩
  have f0:∀ L∈frs (X.env::X.outer),(Az s.heap bad).get? L=none:=λL hL=>by
   rw[fs0]at hL;rw[i9,ebad,decide_eq_true hL,Y0,Y1];rfl
  subst hcls;refine wpAny_leaving_nextW (base:=Az s.heap bad) (cls:=oe.cls) (a0:=a0) hfr (A8 hst' f0) hfrm ⟨oe,vs,T,oT,ts,hx,⟨rfl,h0⟩,hd,h1,by rw[i9,ebad];simp,hTx,hT,hdT,h3⟩ (λb o e=>?_) (by rw[i9,ebad];simp) λh' L=>fin bad h' (λb o e hb=>?_) (λb o e=>?_) (λb hb=>?_) L
  ·rw[i9]at e;split at e
   ·cases e
   ·exact e
  ·rw[ebad,decide_eq_false (Sx b o e),decide_eq_false (λz=>(W4.mp z).elim (lnew b o e) hb),decide_eq_false (λz=>by rw[z,T0]at e;cases e)];rfl
  ·rw[ebad,decide_eq_false (Hx b o e),decide_eq_false (Hf b o e),decide_eq_false (λz=>by rw[z,HT]at e;cases e)];rfl
  ·rw[ebad,WK,WK,dQ,dQ,dQ]at hb;rcases hb with z | z | z
   ·exact .inl z
   ·exact .inr (.inl z)
   ·exact .inr (.inr ⟨by rw[z];exact T0,by rw[z];exact HT⟩)
end
section
variable{X:Cx}{pins:List (ZY×Obj)}{σ:St}{H:Hp}{s:ZX}{E:XK}
noncomputable def Catch(X:Cx)(E:XK):Prop:=∀(pins:List (ZY×Obj)) (σ:St) (H:Hp) (s:ZX) (x:ZY) (C:ZW),Inv X pins σ H s->Xc X.s₀.heap s.heap H x C->E C none H->X.xe (.ref x) s
theorem Xc.since{h0 h1 h:Heap}{x:ZY}{C:ZW}(xc:Xc h1 h H x C)(k:∀ b,h1.get? b=none->h0.get? b=none):Xc h0 h H x C:=by
 obtain⟨f,fr,oe,vs,a0,e1,e2,e3,e4,hT⟩:=xc;refine⟨k _ f,fr,oe,vs,a0,e1,e2,e3,e4,hT.imp id ?_⟩;rintro⟨T,oT,ts,q1,q2,q3,q⟩;exact⟨T,oT,ts,q1,q2,k _ q3,q⟩
theorem Inv.older(I:Inv X pins σ H s)(hex:X.ex=[]):∀ b,s.heap.get? b=none->X.s₀.heap.get? b=none:=λb e=>by
 cases q:X.s₀.heap.get? b with
 | none=>rfl
 | some o=>
   obtain⟨o',q'⟩:=I.base.there b o q (by rw[hex];exact Xw);rw[e]at q';cases q'
structure Since(X:Cx)(pins:List (ZY×Obj))(h0:Heap):Prop where
 old:∀ b,h0.get? b=none->X.s₀.heap.get? b=none
 pin:∀ p∈X.pn++pins,h0.get? p.1≠none
noncomputable def CatchT(X:Cx)(E:XK):Prop:=∀(pins:List (ZY×Obj)) (σ:St) (H:Hp) (s:ZX) (h0:Heap) (x:ZY) (C:ZW),Inv X pins σ H s->Since X pins h0->Xt h0 s.heap H x C->E C none H->X.xe (.ref x) s
theorem Catch.t(c:Catch X E):CatchT X E:=λpins σ H s h0 x C I S xt hE=>c pins σ H s x C I (xt.xc.since S.old) hE
theorem UV(hex:X.ex=[])(c:CatchT X E):Ef (CXE X.prog X.w) X E:=by
 rintro pins σ H s e s' I ⟨x,C,H',rfl,os,bare,un,hok,xc,hE⟩;exact c pins σ H' s' s.heap x C (I.call' os un hok bare λb z=>absurd z Xw) ⟨I.older hex,λp hp z=>by have:=(I.pin p hp).1;rw[z]at this;cases this⟩ xc hE
end
theorem catch_fn{P:Zd}{w:Zf}{K:Vn}{mg:Str->Option ZW}{base:Heap}{N:List Str}{qual:Str}{scope:Zi}{f:ZY}{cd:ZW}{A:Zj}{outer:List Env}{s:ZX}{H:Hp}{E:XK}:
 Catch (Do (CXE P w) P w K mg base N qual scope f cd A outer s H E) E:=λpins σ H' s' x C I xc hE=>
 Lu (X:=Do (CXE P w) P w K mg base N qual scope f cd A outer s H E) I rfl rfl rfl xc hE
structure CalleeE(P:Zd)(w:Zf)(K:Vn)(mg:Str->Option ZW)(base:Heap)(k:Nat)(x:Str)(ps:List Str)(sp:Sp):Prop where
 ex:∃ f fd,FnOk P w K mg base (CXE P w) k f fd ps sp/\mg x=some (.ref f)/\PySem.W.keepIn K (.ref f)=true/\Binds K fd ps []
structure ExcC(K:Vn)(mg:Str->Option ZW)(x:Str)(C:ZY):Prop where
 bound:mg x=some (.ref C)
 obj:∀ h:Heap,K.In h->∃ bm N nm q bs hdct sn sub ab col dd k0 k1 k2 k3 k5 mN,h.get? C=some (A0L nm q C N bs bm hdct sn sub ab col dd k0 k1 k2 k3 k5 "ValueError.__new__")/\h.Ns N mN/\mN "__init__"=none/\OwnTail h [.type "ValueError",.type "Exception",.type "BaseException",.type "object"] bm
noncomputable def Rm(C:ZY)(E:XK)(t:TE):TS:=λ_ σ H=>t σ H λ_ H1=>E (.ref C) none H1
theorem Lv{X:Cx}{x:Str}{C:ZY}{E:XK}{e:Expr}{te:TE}{np cpos pos:Pos}(hC:ExcC X.K X.mg x C)(hex:X.ex=[])(hcalm:X.calm=true)(hc:Catch X E)(hg:Gl X x)(he:PE X e te)(hd:(x == ("__debug__":Str))=false:=by decide)
 (h1:Zg [e] X.env=(false,eval e X.env)::Zg [] X.env:=by rfl) (h2:(backTo cpos (Zg [] X.env)).any (·.1)=false:=by rfl):
 PS X (.Raise (some (.Call (.Name x np) [e] [] cpos)) none pos) (Rm C E te):=by
 intro pins s σ H D I h;obtain⟨tl,N,nm,q,bs,hdct,sn,sub,ab,col,dd,k0,k1,k2,k3,k5,mN,hC0,hN,hni,T⟩:=hC.obj X.base I.mod.kin
 refine wpAny_Raise_call_subT (C:=C) (nm:=nm) (q:=q) (N:=N) (bs:=bs) (bm:=tl) (hdct:=hdct) (sn:=sn) (sub:=sub) (ab:=ab) (col:=col) (dd:=dd) (k0:=k0) (k1:=k1) (k2:=k2) (k3:=k3) (k5:=k5)
  PySem.F.excBase_ValueError (mN:=mN) (T.hasType PySem.F.excBase_ValueError.hasBase) (I.ok.hd hcalm) (by rw[h1];show(false||(backTo cpos (Zg [] X.env)).any (·.1))=false;rw[h2];rfl) hni (Co I hg hC.bound ⟨rfl,?_⟩ hd)
 rw[h1];refine Calls.evalArgs_plain ?_;show Zb _ _ (spliced ((false,eval e X.env)::backTo cpos (Zg [] X.env))) _ _ s;refine Calls.spliced_cons (thn (he pins s σ H _ I h) λu s1 ⟨v,H1,I1,rv,q1⟩=>Calls.spliced_nil ?_);refine⟨rfl,by show 1<=Ze;decide,I1.bk _ _ hC0,hN.keeps I1.bk,T.keeps I1.bk,λh' x' hm=>?_⟩;obtain⟨t,ht,ht0,ht1⟩:=hm.there;have I2:Inv X pins σ H1 {s1 with heap:=h'}:=I1.kept (t':=s1.toks) λb o e=>hm.keeps b o e
 have fr:∀ b,s1.heap.get? b=none->H1 b=none:=λb e=>by
  cases q:H1 b with
  | none=>rfl
  | some o=>
    obtain⟨ob,q'⟩:=(I1.hok b o q).here;rw[e]at q';cases q'
 exact hc pins σ H1 _ x' (.ref C) I2 ⟨I1.older hex _ hm.new,fr _ hm.new,_,_,_,ht,rfl,rfl,rfl,.inl rfl⟩ q1
section
variable{X:Cx}{pins:List (ZY×Obj)}{σ:St}{H:Hp}{s:ZX}
theorem Inv.flown(I:Inv X pins σ H s)(hst:X.stack=X.env::X.outer)(hfrm:X.env.frame=some X.env.locals)(hex:X.ex=[])(hfn:∀ x,X.fn x=true){h0 h':Heap}(S:Since X pins h0){bad:ZY->Bool}
 (b2:∀ b,bad b=true->b∈X.env.locals::X.fs\/(h0.get? b=none/\H b=none/\∃ o vs,s.heap.get? b=some o/\o.data = .fields vs))
 (stay:∀ b o,bad b=false->s.heap.get? b=some o->h'.get? b=some o)
 (slotk:∀ b o,b∈X.env.locals::X.fs->s.heap.get? b=some o->∃ sl,h'.get? b=some {o with slots:=sl}):Inv X pins σ H {s with heap:=h'}:=by
 have noex:∀ b:ZY,b∉X.ex:=λb z=>by rw[hex]at z;cases z
 have lnew:∀ b o,X.s₀.heap.get? b=some o->b≠X.env.locals:=λb o e z=>by
  have:=Vy e;have h2:=I.ok.above;rw[z]at this;exact absurd (WC this h2) (X6 _)
 have notB:∀ b,b∉X.env.locals::X.fs->(h0.get? b≠none\/H b≠none\/∀ o vs,s.heap.get? b=some o->o.data ≠ .fields vs)->bad b=false:=λb hb h=>by
  cases z:bad b with
  | false=>rfl
  | true=>
    rcases b2 b z with q | ⟨q1,q2,o,vs,q3,q4⟩
    ·exact absurd q hb
    ·rcases h with h | h | h
     ·exact absurd q1 h
     ·exact absurd q2 h
     ·exact absurd q4 (h o vs q3)
 have b0:∀ b o,X.s₀.heap.get? b=some o->b∉X.fs->bad b=false:=λb o e hb=>
  notB b (λz=>(W4.mp z).elim (lnew b o e) hb) (.inl λz=>by rw[S.old b z]at e;cases e)
 have fs0:frs X.stack=X.env.locals::X.fs:=by rw[hst];unfold frs;rw[Wl,hfrm];rfl
 have Hf:∀ b o,H b=some o->b∉X.env.locals::X.fs:=λb o e z=>by
  rw[<-fs0]at z;rw[I.stkFree b z]at e;cases e
 have b1:∀ b o,H b=some o->bad b=false:=λb o e=>notB b (Hf b o e) (.inr (.inl (by rw[e];intro z;cases z)))
 have cfs:∀ x c,X.env.cells.lookup x=some c->c∉X.env.locals::X.fs:=λx c e z=>by
  rcases W4.mp z with z | z
  ·exact I.cne x c e z
  ·obtain⟨_,o,ho,_⟩:=I.ok.funs.mem z;exact absurd (WC (Vy ho) (I.ok.cab x c (hfn x) e)) (X6 _)
 have cellK:∀ x c,X.env.cells.lookup x=some c->∀ v,s.heap.IsCell c v->h'.IsCell c v:=λx c e v ⟨o,ho,hd⟩=>
  ⟨o,stay c o (notB c (cfs x c e) (.inr (.inr λo' vs q z=>by rw[ho]at q;cases q;rw[hd]at z;cases z))) ho,hd⟩
 refine⟨I.ok,I.os,I.bare,⟨?_,?_,?_,?_,I.base.tups,I.base.frzs,I.base.tbls⟩,?_,?_,I.free,I.freeC,?_,?_,I.len⟩
 ·intro b o e n hb _;exact stay b o (b0 b o e hb) (I.base.keep b o e n hb (noex b))
 ·intro b o e n hb _;obtain⟨sl,e1⟩:=I.base.slot b o e n hb (noex b);obtain⟨sl',e2⟩:=slotk b _ (W5 _ hb) e1;exact⟨sl',e2⟩
 ·intro b o e n _;exact I.base.free b o e n (noex b)
 ·intro b o e _;obtain⟨o',e'⟩:=I.base.there b o e (noex b);by_cases hb:b∈X.fs
  ·obtain⟨sl,e2⟩:=slotk b _ (W5 _ hb) e';exact⟨_,e2⟩
  ·exact⟨_,stay b o' (b0 b o e hb) e'⟩
 ·obtain⟨m,⟨o,es,ep,ho,hd,r⟩,hv⟩:=I.loc;obtain⟨sl,e2⟩:=slotk X.env.locals o (WG ..) ho;refine⟨m,⟨_,es,ep,e2,hd,r⟩,λi x v h1 h2 h3=>?_⟩;obtain⟨u,ru,hl⟩:=hv i x v h1 h2 h3;refine⟨u,ru,hl.imp id ?_⟩;rintro⟨hk,c,hc,hcell⟩;exact⟨hk,c,hc,cellK x c hc _ hcell⟩
 ·intro x c e;obtain⟨v,hv⟩:=I.cell x c e;exact⟨v,cellK x c e v hv⟩
 ·intro p hp;obtain⟨p1,p2,p3,p4,p5⟩:=I.pin p hp;exact⟨stay p.1 p.2 (notB p.1 (λz=>(W4.mp z).elim p3 p4) (.inl (S.pin p hp))) p1,p2,p3,p4,p5⟩
 ·intro a o e;refine(I.hok a o e).stay (λb u hb e'=>?_) (λ_ h=>h) (λ_ _ h=>h);rcases hb with rfl | hb
  ·exact stay b u (b1 b o e) e'
  ·exact stay b u (b1 b _ hb) e'
theorem Rn{M:Model}{Q:Unit->ZX->Prop}{E Ex:ZW->ZX->Prop}(I:Inv X pins σ H s)(hst:X.stack=X.env::X.outer)(hfrm:X.env.frame=some X.env.locals)(hex:X.ex=[])(hfn:∀ x,X.fn x=true){h0:Heap}(S:Since X pins h0){x:ZY}{C:ZW}(xt:Xt h0 s.heap H x C)
 (k:∀ s',Inv X pins σ H s'->Xt h0 s'.heap H x C->Q () s'):Zb M X.A (noteFrame (.ref x) X.env) (λ_ s₂=>Zb M X.A (setFlight (.ref x) none) Q E s₂) Ex s:=by
 obtain⟨fresh,free,newer,oe,vs,a0,T,oT,ts,hx,hcls,hd,h0',h1,hTx,T0,HT,hT,hdT,h3⟩:=xt;have hfr:=I.ok.frames;have hst':=I.stack;rw[hst]at hfr hst';have fs0:frs (X.env::X.outer)=X.env.locals::X.fs:=by unfold frs;rw[Wl,hfrm];rfl
 obtain⟨bad,ebad⟩:∃ bad:ZY->Bool,∀ b,bad b=(decide (b=x)||(decide (b∈X.env.locals::X.fs)||decide (b=T))):=⟨_,λ_=>rfl⟩
 have f0:∀ L∈frs (X.env::X.outer),(Az s.heap bad).get? L=none:=λL hL=>by
  rw[fs0]at hL;rw[i9,ebad,decide_eq_true hL,Y0,Y1];rfl
 have b2:∀ b,bad b=true->b∈X.env.locals::X.fs\/(h0.get? b=none/\H b=none/\∃ o vs,s.heap.get? b=some o/\o.data = .fields vs):=λb hb=>by
  rw[ebad,WK,WK,dQ,dQ,dQ]at hb;rcases hb with z | z | z
  ·rw[z];exact .inr ⟨fresh,free,_,_,hx,hd⟩
  ·exact .inl z
  ·rw[z];exact .inr ⟨T0,HT,_,_,hT,hdT⟩
 subst hcls;refine wpAny_noteFrame_onW (base:=Az s.heap bad) (cls:=oe.cls) (a0:=a0) hfr (A8 hst' f0) hfrm ⟨oe,vs,T,oT,ts,hx,⟨rfl,h0'⟩,hd,h1,by rw[i9,ebad];simp,hTx,hT,hdT,h3⟩ (λb o e=>?_) (by rw[i9,ebad];simp) λh₁ ⟨k1,k2,k3,k4⟩=>?_
 ·rw[i9]at e;split at e
  ·cases e
  ·exact e
 refine A17 (base:=Az s.heap bad) k1 k2 k3 λh₂ l1 l2 l3 l4=>?_;have stay:∀ b o,bad b=false->s.heap.get? b=some o->h₂.get? b=some o:=λb o hb e=>l1 b o (by rw[i9,hb];simpa using e)
 have slotk:∀ b o,b∈X.env.locals::X.fs->s.heap.get? b=some o->∃ sl,h₂.get? b=some {o with slots:=sl}:=λb o hb e=>by
  rw[<-fs0]at hb;obtain⟨_,o',ho',hn⟩:=hst'.mem hb;rw[e]at ho';cases ho';obtain⟨sl,q⟩:=k4 b o e hn;exact⟨sl,l4 b _ q hn⟩
 have there:∀ b o,s.heap.get? b=some o->b≠x->b≠T->∃ o',h₂.get? b=some o':=λb o e n1 n2=>by
  by_cases hb:b∈X.env.locals::X.fs
  ·obtain⟨sl,q⟩:=slotk b o hb e;exact⟨_,q⟩
  ·exact⟨o,stay b o (by rw[ebad,decide_eq_false n1,decide_eq_false hb,decide_eq_false n2];rfl) e⟩
 refine k {s with heap:=h₂} (I.flown hst hfrm hex hfn S b2 stay slotk) ⟨fresh,free,λb e=>?_,?_⟩
 ·by_cases n1:b=x
  ·rw[n1];exact fresh
  ·by_cases n2:b=T
   ·rw[n2];exact T0
   ·refine newer b ?_;cases q:s.heap.get? b with
    | none=>rfl
    | some o=>
      obtain⟨o',q'⟩:=there b o q n1 n2;have e:h₂.get? b=none:=e;rw[e]at q';cases q'
 ·obtain⟨oe',vs',T',oT',ts',e1,⟨e2,e3⟩,e4,e5,e6,e7,e8,e9,e10⟩:=l3;refine⟨oe',vs',a0,T',oT',ts',e1,e2,e4,e3,e5,e7,?_⟩
  have hh:h0.get? T'=none/\H T'=none:=by
   rw[i9]at e6;cases hb:bad T' with
   | true=>
     rcases b2 T' hb with z | ⟨z1,z2,_⟩
     ·exfalso;rw[<-fs0]at z;obtain⟨_,o',ho',hn⟩:=l2.mem z;rw[e8]at ho';cases ho';exact hn ts' e9
     ·exact⟨z1,z2⟩
   | false=>
     rw[hb]at e6;have e6:s.heap.get? T'=none:=by simpa using e6
     refine⟨newer T' e6,?_⟩;cases q:H T' with
     | none=>rfl
     | some o=>
       obtain⟨ob,q'⟩:=(I.hok T' o q).here;rw[e6]at q';cases q'
  exact⟨hh.1,hh.2,e8,e9,e10⟩
theorem Ro{M:Model}{A:Zj}{Q:Unit->ZX->Prop}{E:ZW->ZX->Prop}(I:Inv X pins σ H s)(hst:X.stack=X.env::X.outer)(hfrm:X.env.frame=some X.env.locals)(hex:X.ex=[])(hfn:∀ x,X.fn x=true){h0:Heap}(S:Since X pins h0){x:ZY}{C:ZW}(xt:Xt h0 s.heap H x C)
 (k:∀ s',Inv X pins σ H s'->Xt h0 s'.heap H x C->Q () s'):Zb M A (setFlight (.ref x) none) Q E s:=by
 obtain⟨fresh,free,newer,oe,vs,a0,T,oT,ts,hx,hcls,hd,h0',h1,hTx,T0,HT,hT,hdT,h3⟩:=xt;have hst':=I.stack;rw[hst]at hst';have fs0:frs (X.env::X.outer)=X.env.locals::X.fs:=by unfold frs;rw[Wl,hfrm];rfl
 obtain⟨bad,ebad⟩:∃ bad:ZY->Bool,∀ b,bad b=(decide (b=x)||(decide (b∈X.env.locals::X.fs)||decide (b=T))):=⟨_,λ_=>rfl⟩
 have f0:∀ L∈frs (X.env::X.outer),(Az s.heap bad).get? L=none:=λL hL=>by
  rw[fs0]at hL;rw[i9,ebad,decide_eq_true hL,Y0,Y1];rfl
 have b2:∀ b,bad b=true->b∈X.env.locals::X.fs\/(h0.get? b=none/\H b=none/\∃ o vs,s.heap.get? b=some o/\o.data = .fields vs):=λb hb=>by
  rw[ebad,WK,WK,dQ,dQ,dQ]at hb;rcases hb with z | z | z
  ·rw[z];exact .inr ⟨fresh,free,_,_,hx,hd⟩
  ·exact .inl z
  ·rw[z];exact .inr ⟨T0,HT,_,_,hT,hdT⟩
 have pst:(Az s.heap bad).StaysIn s.heap:=λb o e=>by
  rw[i9]at e;split at e
  ·cases e
  ·exact e
 subst hcls;refine A17 (base:=Az s.heap bad) (cls:=oe.cls) (a0:=a0) (fl := .none) pst (A8 hst' f0) ⟨oe,vs,T,oT,ts,hx,⟨rfl,h0'⟩,hd,h1,by rw[i9,ebad];simp,hTx,hT,hdT,h3⟩ λh₂ l1 l2 l3 l4=>?_;have stay:∀ b o,bad b=false->s.heap.get? b=some o->h₂.get? b=some o:=λb o hb e=>l1 b o (by rw[i9,hb];simpa using e)
 have slotk:∀ b o,b∈X.env.locals::X.fs->s.heap.get? b=some o->∃ sl,h₂.get? b=some {o with slots:=sl}:=λb o hb e=>by
  rw[<-fs0]at hb;obtain⟨_,o',ho',hn⟩:=hst'.mem hb;rw[e]at ho';cases ho';exact⟨o.slots,l4 b _ e hn⟩
 have there:∀ b o,s.heap.get? b=some o->b≠x->b≠T->∃ o',h₂.get? b=some o':=λb o e n1 n2=>by
  by_cases hb:b∈X.env.locals::X.fs
  ·obtain⟨sl,q⟩:=slotk b o hb e;exact⟨_,q⟩
  ·exact⟨o,stay b o (by rw[ebad,decide_eq_false n1,decide_eq_false hb,decide_eq_false n2];rfl) e⟩
 refine k {s with heap:=h₂} (I.flown hst hfrm hex hfn S b2 stay slotk) ⟨fresh,free,λb e=>?_,?_⟩
 ·by_cases n1:b=x
  ·rw[n1];exact fresh
  ·by_cases n2:b=T
   ·rw[n2];exact T0
   ·refine newer b ?_;cases q:s.heap.get? b with
    | none=>rfl
    | some o=>
      obtain⟨o',q'⟩:=there b o q n1 n2;have e:h₂.get? b=none:=e;rw[e]at q';cases q'
 ·obtain⟨oe',vs',T',oT',ts',e1,⟨e2,e3⟩,e4,e5,e6,e7,e8,e9,e10⟩:=l3;refine⟨oe',vs',a0,T',oT',ts',e1,e2,e4,e3,e5,e7,?_⟩
  have hh:h0.get? T'=none/\H T'=none:=by
   rw[i9]at e6;cases hb:bad T' with
   | true=>
     rcases b2 T' hb with z | ⟨z1,z2,_⟩
     ·exfalso;rw[<-fs0]at z;obtain⟨_,o',ho',hn⟩:=l2.mem z;rw[e8]at ho';cases ho';exact hn ts' e9
     ·exact⟨z1,z2⟩
   | false=>
     rw[hb]at e6;have e6:s.heap.get? T'=none:=by simpa using e6
     refine⟨newer T' e6,?_⟩;cases q:H T' with
     | none=>rfl
     | some o=>
       obtain⟨ob,q'⟩:=(I.hok T' o q).here;rw[e6]at q';cases q'
  exact⟨hh.1,hh.2,e8,e9,e10⟩
noncomputable def ExcO(x:ZY)(C:ZW):HO := .ext λh=>∃ o,h.get? x=some o/\o.cls=C
theorem Inv.track(I:Inv X pins σ H s)(hst:X.stack=X.env::X.outer)(hfrm:X.env.frame=some X.env.locals)(hex:X.ex=[]){h0:Heap}(S:Since X pins h0){x:ZY}{C:ZW}(xt:Xt h0 s.heap H x C):Inv X pins σ (upd H x (ExcO x C)) s:=by
 obtain⟨fresh,free,newer,oe,vs,a0,T,oT,ts,hx,hcls,hd,_⟩:=xt;have fs0:frs X.stack=X.env.locals::X.fs:=by rw[hst];unfold frs;rw[Wl,hfrm];rfl
 have hfr:x∉X.env.locals::X.fs:=λz=>by
  rw[<-fs0]at z;obtain⟨_,o',ho',hn⟩:=I.stack.mem z;rw[hx]at ho';cases ho';exact hn vs hd
 have s0:∀ b o,X.s₀.heap.get? b=some o->b≠x:=λb o e z=>by rw[z,S.old x fresh]at e;cases e
 refine⟨I.ok,I.os,I.bare,⟨I.base.keep,I.base.slot,λb o e n hb=>?_,I.base.there,λb xs e=>?_,λb o u e=>?_,λb ps e=>?_⟩,I.loc,I.cell,?_,λy c e=>?_,λp hp=>?_,λa o e=>?_,I.len⟩
 ·rw[c9 (s0 b o e)];exact I.base.free b o e n hb
 ·have:=I.base.tups b xs e;rw[c9 (f8 this free)];exact this
 ·have:=I.base.frzs b o u e;rw[c9 (f8 this free)];exact this
 ·obtain⟨more,q⟩:=I.base.tbls b ps e;exact⟨more,by rw[c9 (f8 q free)];exact q⟩
 ·have hn:X.env.locals≠x:=λz=>hfr (by rw[<-z];exact WG ..);rw[c9 hn];exact I.free
 ·have hc:c≠x:=λz=>by
   obtain⟨v,o,ho,hd'⟩:=I.cell y c e;rw[z,hx]at ho;cases ho;rw[hd]at hd';cases hd'
  rw[c9 hc];exact I.freeC y c e
 ·obtain⟨p1,p2,p3⟩:=I.pin p hp;have:p.1≠x:=λz=>S.pin p hp (by rw[z];exact fresh);exact⟨p1,by rw[c9 this];exact p2,p3⟩
 ·by_cases z:a=x
  ·subst z;rw[j3]at e;cases e;exact⟨⟨oe,hx,hcls⟩,⟨oe,hx⟩,λh1 h2 ⟨o,q1,q2⟩ kk=>⟨o,kk o q1,q2⟩⟩
  ·rw[c9 z]at e;refine(I.hok a o e).stay (λb u _ q=>q) (λb q=>?_) (λb xs q=>?_)
   ·rw[c9 (f8 q free)];exact q
   ·rw[c9 (f8 q free)];exact q
end
section
variable{M:Model}{A:Zj}{E:ZW->ZX->Prop}
variable{nm q nm' q':Str}{C N D N':ZY}{bs bm bs' bm':List ZW}{hdct hdct':Bool}{sn sn':List Str}{sub sub':List ZW}{ab ab':Bool}{col col':Option Bool}{dd dd':Option ZY}{k0 k1 k2 k3 k5 l0 l1 l2 l3 l5:Option ZW}{newId newId':String}
theorem Dx{h:Heap}{g:Array A0Q}{d:Drawn}{t:Nat}{os:OsState}{e:ZY}{oe:Obj}{Q:Bool->ZX->Prop}
 (hC:h.get? C=some (A0L nm q C N bs bm hdct sn sub ab col dd k0 k1 k2 k3 k5 newId)) (hD:h.get? D=some (A0L nm' q' D N' bs' bm' hdct' sn' sub' ab' col' dd' l0 l1 l2 l3 l5 newId')) (he:h.get? e=some oe) (hcls:oe.cls = .ref C)
 (hin:(Value.ref C::bm).contains (.ref D)=true) (hbase:bm'.contains (.type "BaseException")=true) (hq:Q true ⟨h,g,d,t,os⟩):Zb M A (excMatches (.ref e) (.ref D)) Q E ⟨h,g,d,t,os⟩:=by
 have hcB:(Value.ref D::bm').contains (.type "BaseException")=true:=by rw[List.contains_cons,hbase,Y1]
 have f:=tc_notTuple;unfold excMatches
 repeat (first | (with_reducible refine A0b he ?_;rw[hcls]) | with_reducible refine A0b hD ?_ | (with_reducible refine A1g hD ?_;rw[hcB]) | (with_reducible refine A1g hC ?_;rw[hin]) | wp_step)
 exact hq
end
section
variable{X:Cx}{pins:List (ZY×Obj)}{σ:St}{H:Hp}{s:ZX}
theorem Jp{M:Model}{A:Zj}{E:ZW->ZX->Prop}{i:Nat}{n:Str}{pos:Pos}{Q:Unit->ZX->Prop}(I:Inv X pins σ H s)(hN:X.N.Nodup)(hi:X.N[i]?=some n)(hk:X.env.scope.names.lookup n=some .local)
 (h:∀ s',Inv X pins (σ.set i none) H s'->Q () s'):Zb M A (do A18 X.env n .none;A0w X.env n pos) Q E s:=by
 have hcls:(X.env.scope.kind == .class||(X.env.scope.kind == .module&&X.env.locals != X.env.globals))=false:=by rw[I.ok.kind];rfl
 have hiσ:i<σ.length:=by rw[I.len];exact(gM hi).1
 refine ZV (A19 (Ar I hN hi (.inl hk) (show RelV .non Value.none from rfl) (λs1 I1=>?_) (.inr hk)));unfold A0w;refine wpAny_onRaise ?_;obtain⟨m,hn,hl⟩:=id I1.loc;obtain⟨u0,ru0,hu0⟩:=hl i n .non hi (by rw[WN hiσ]) (.inl hk);cases ru0
 have hm:m n=some Value.none:=by
  rcases hu0 with⟨_,z⟩ | ⟨z,_⟩
  ·exact z
  ·exfalso;have hk':X.env.kindOf n=some .local:=hk;rw[hk']at z;rcases z with z | z<;>cases z
 refine wpAny_unbindName_local hk hn hm hcls λh' u hn' hs=>?_;have neL:∀ b o,X.s₀.heap.get? b=some o->b≠X.env.locals:=λb o e=>W3 (WC (Vy e) I.ok.above);refine h _ ⟨I1.ok,I1.os,I1.bare,⟨λb o e n hb hx=>(hs.2 b (neL b o e)).trans (I1.base.keep b o e n hb hx),λb o e n hb hx=>?_,I1.base.free,λb o e hx=>?_,I1.base.tups,I1.base.frzs,I1.base.tbls⟩,⟨_,hn',λj y v' e1 e2 e3=>?_⟩,λy c e=>?_,I1.free,I1.freeC,λp hp=>?_,λa ob e=>?_,by rw[Wg];exact I.len⟩
 ·obtain⟨sl,e1⟩:=I1.base.slot b o e n hb hx;exact⟨sl,(hs.2 b (neL b o e)).trans e1⟩
 ·obtain⟨o',e1⟩:=I1.base.there b o e hx;exact⟨o',(hs.2 b (neL b o e)).trans e1⟩
 ·by_cases hj:j=i
  ·subst hj;rw[WN hiσ]at e2;cases e2
  ·rw[Wq (Ne.symm hj)]at e2;obtain⟨u',r',q⟩:=hl j y v' e1 (by rw[Wq (Ne.symm hj)];exact e2) e3;refine⟨u',r',?_⟩;rcases q with⟨k,e⟩ | ⟨k,c,e,z⟩
   ·refine .inl ⟨k,?_⟩;have:y≠n:=λe=>hj (D0 hN e1 (e▸hi));simp[this,e]
   ·exact .inr ⟨k,c,e,z.sameBut hs (I1.cne y c e)⟩
 ·obtain⟨w',z⟩:=I1.cell y c e;exact⟨w',z.sameBut hs (I1.cne y c e)⟩
 ·obtain⟨e,n,ne,nf,d⟩:=I1.pin p hp;exact⟨(hs.2 p.1 ne).trans e,n,ne,nf,d⟩
 ·refine(I1.hok a ob e).stay (λc w' hc q=>(hs.2 c ?_).trans q) (λ_ q=>q) λ_ _ q=>q;rintro rfl;rcases hc with rfl | hc
  ·rw[I1.free]at e;cases e
  ·rw[I1.free]at hc;cases hc
noncomputable abbrev Cx.held(X:Cx)(x:ZY):Cx:={X with A:=X.A.mark (some (.ref x)),calm:=false,xe:=λ_ _=>False}
theorem Inv.held(I:Inv X pins σ H s)(x:ZY):Inv (X.held x) pins σ H s:=
 ⟨⟨I.ok.mod,I.ok.kind,I.ok.glob,I.ok.blt,I.ok.above,I.ok.inj,I.ok.has,I.ok.cab,(λz=>nomatch z),I.ok.frames,I.ok.stk,I.ok.exf,I.ok.bs,I.ok.bsz,I.ok.noex,I.ok.exfs,I.ok.funs,I.ok.frf⟩,I.os,I.bare,I.base,I.loc,I.cell,I.free,I.freeC,I.pin,I.hok,I.len⟩
theorem Inv.unheld{x:ZY}(ok:X.Ok)(I:Inv (X.held x) pins σ H s):Inv X pins σ H s:=⟨ok,I.os,I.bare,I.base,I.loc,I.cell,I.free,I.freeC,I.pin,I.hok,I.len⟩
noncomputable def Lw(K:Vn)(C D:ZY):Prop:=∀ h:Heap,K.In h->∃ bm N nm q bs hdct sn sub ab col dd k0 k1 k2 k3 k5 newId,h.get? C=some (A0L nm q C N bs bm hdct sn sub ab col dd k0 k1 k2 k3 k5 newId)/\(Value.ref C::bm).contains (.ref D)=true
end
open PySem PySem.Spec PyProof.Rows PySem.W PySem.Builtin PySem.Builtin.ObjectAttr PySem.Builtin.Getset_descriptor
section
variable{prog:Zd}{w:Zf}{A:Zj}{E:ZW->ZX->Prop}{s:ZX}{K:Vn}{x D:ZY}{ox:Obj}
theorem EI{M:Model}{h:Heap}(hx:h.get? x=some ox)(hc:ox.cls = .ref D):Looks M h (typeOf (.ref x)) (.ref D):=hc▸(Looks.ld hx).andThen .now
theorem HE{R:Result->ZX->Prop}{tp:ZW}(X:K.In s.heap)(hx:s.heap.get? x=some ox)(hc:ox.cls = .ref D)(hm:mroIn K D (.type "object")=some true)
 (h:R (.ok (.ret (.ref D))) s):codeAny (Zc prog w) A (.call (.builtin "getset_descriptor.__get__") ⟨[.builtin "object.__class__",.ref x,tp],[]⟩) R s:=by
 obtain⟨hh,g,dr,t,os⟩:=s;have L0:=EI (M:=Zc prog w) hx hc;have L1:=looks_mroIn (M:=Zc prog w) X hm;refine A0e KF.slot_gs.plain KF.entry_gs (KF.slot_gs.check _ _ _ _ _ _ _ _ KF.type_class (KF.args_gs _ _ _) ?_);unfold Builtin.«getset_descriptor.__get__» descrGet;rw[dga_obj];refine ZV (ZZ ?_);unfold descrGetter descrCheckInstance descrNameAndClass A1p;simp only[KF.owner_class]
 repeat lk
 refine⟨Code.quiet_builtin _ (by decide +kernel),Zo KF.entry_class ?_⟩;unfold Builtin.«object.__class__» shownTypeOf
 repeat lk
 exact h
theorem Jq{tk:Tok}{Q:Fin->ZX->Prop}(X:K.In s.heap)(hx:s.heap.get? x=some ox)(hc:ox.cls = .ref D)(hm:mroIn K D (.type "object")=some true)(hcl:findIn K (.ref D) "__class__"=some (some (.builtin "object.__class__")))
 (hq:Q (.done (.ret (.ref D))) s):Zb (Zc prog w) A (Builtin.«object.__getattribute__» ⟨[.ref x,.str "__class__" tk],[]⟩) Q E s:=by
 obtain⟨h,g,d,t,os⟩:=s;have L1:=looks_findIn (M:=Zc prog w) X hcl;have f5:=F.typeOf_object_class;have f6:=F.slot_gs_get.lookup;have f7:=F.slot_gs_set.lookup
 repeat (any_goals (first | assumption | (with_reducible refine A0b hx ?_;rw[hc]) | with_reducible refine L1.at ?_ | wp_step))
 refine HE (s:=⟨h,g,d,t,os⟩) X hx hc hm ?_;exact ZZ hq
theorem Jr{M:Model}{nameV:ZW}{Q:Unit->ZX->Prop}(X:K.In s.heap)(hx:s.heap.get? x=some ox)(hc:ox.cls = .ref D)(hmB:mroIn K D (.type "BaseException")=some true)(hq:Q () s):
 Zb M A (A0W "BaseException.__getattribute__" ⟨[.ref x,nameV],[]⟩) Q E s:=by
 obtain⟨h,g,d,t,os⟩:=s;have hk:builtinKind "BaseException.__getattribute__"=some .slot:=by decide +kernel
 have hsplit:splitId "BaseException.__getattribute__"=some ("BaseException","__getattribute__"):=by decide +kernel
 have L1:=looks_mroIn (M:=M) X hmB;have ha:=F.args_bexc_ga (.ref x) nameV;simp only[A0W,hk,hsplit];refine ZV ?_
 ·unfold A1p
  repeat (first | (with_reducible refine A0b hx ?_;rw[hc]) | with_reducible refine L1.at ?_ | wp_step)
  exact hq
theorem Rp{tk:Tok}{fill:Bool}{Q:ZW->ZX->Prop}(X:K.In s.heap)(hx:s.heap.get? x=some ox)(hc:ox.cls = .ref D)(hm:mroIn K D (.type "object")=some true)(hmB:mroIn K D (.type "BaseException")=some true)(hcl:findIn K (.ref D) "__class__"=some (some (.builtin "object.__class__")))
 (hga:findIn K (.ref D) "__getattribute__"=some (some (.builtin "BaseException.__getattribute__"))) (hgn:findIn K (.ref D) "__getattr__"=some none) (hq:Q (.ref D) s):
 Zb (Zc prog w) A (getAttrBy (.ref x) (.str "__class__" tk) fill false) Q E s:=by
 obtain⟨h,g,d,t,os⟩:=s;have f3:=PySem.F.attr_ValueError.ga.bind (.ref x);have hx2:(Value.builtin "BaseException.__getattribute__" == Value.builtin "object.__getattribute__")=false:=by decide +kernel
 have hx1:(onTheHeap (Value.ref D)&&Value.builtin "BaseException.__getattribute__" == Value.builtin "object.__getattribute__")=false:=by rw[hx2];rfl
 have L1:=looks_findIn (M:=Zc prog w) X hga;have L2:=looks_findIn (M:=Zc prog w) X hgn
 repeat (any_goals (first | assumption | (with_reducible refine A0b hx ?_;rw[hc]) | with_reducible refine L1.at ?_ | with_reducible refine L2.at ?_ | wp_step))
 refine A0e PySem.F.attr_ValueError.ga.plain F.entry_bexc_ga (Jr (s:=⟨h,g,d,t,os⟩) X hx hc hmB (Jq (s:=⟨h,g,d,t,os⟩) X hx hc hm hcl ?_))
 repeat (any_goals (first | assumption | wp_step))
theorem Lx{Q:Option ZW->ZX->Prop}(X:K.In s.heap)(hx:s.heap.get? x=some ox)(hc:ox.cls = .ref D)(hm:mroIn K D (.type "object")=some true)(hmB:mroIn K D (.type "BaseException")=some true)(hcl:findIn K (.ref D) "__class__"=some (some (.builtin "object.__class__")))
 (hga:findIn K (.ref D) "__getattribute__"=some (some (.builtin "BaseException.__getattribute__"))) (hgn:findIn K (.ref D) "__getattr__"=some none) (hq:Q (some (.ref D)) {s with toks:=s.toks+1}):
 Zb (Zc prog w) A (getAttr? (.ref x) "__class__") Q E s:=by
 obtain⟨h,g,d,t,os⟩:=s;unfold getAttr? getAttrBy?;refine ZV (wpAny_mkText (ZV (A0M (Rp (s:=⟨h,g,d,t+1,os⟩) X hx hc hm hmB hcl hga hgn ?_))));exact ZZ hq
end
structure ExcT(K:Vn)(D:ZY):Prop where
 cl:(PySem.W.clsIn K D).isSome=true
 obj:PySem.W.mroIn K D (.type "object")=some true
 bas:PySem.W.mroIn K D (.type "BaseException")=some true
 get:PySem.W.findIn K (.ref D) "__class__"=some (some (.builtin "object.__class__"))
 gat:PySem.W.findIn K (.ref D) "__getattribute__"=some (some (.builtin "BaseException.__getattribute__"))
 gno:PySem.W.findIn K (.ref D) "__getattr__"=some none
theorem Ly{K:Vn}{x D:ZY}(T:ExcT K D):PySem.W.KitX K (.ref x) (.ref D) (λh=>∃ o,h.get? x=some o/\o.cls = .ref D) where
 ty:=λ_ _ _ ⟨o,hx,hc⟩=>EI hx hc
 it:=λ_ _ X _=>by
  obtain⟨cd,hcd⟩:=XC.mp T.cl;unfold PySem.W.clsIn at hcd;split at hcd
  ·rename_i ho;intro A' Q' E' s' k q;unfold isType loadHead;exact ZV (wpAny_loadPart (k _ _ (X _ _ ho)) (ZZ q))
  ·cases hcd
 ne:=λh tp dd its n sl X htp=>by
  obtain⟨cd,hcd⟩:=XC.mp T.cl;refine Y8.mpr λq=>?_;have e:D=tp:=Value.ref.inj (bQ.mp q);subst e;unfold PySem.W.clsIn at hcd;split at hcd
  ·rename_i ho;have z:=(X _ _ ho).symm.trans htp;cases z
  ·cases hcd
 ca:=λX ⟨o,hx,hc⟩ k=>Lx X hx hc T.obj T.bas T.get T.gat T.gno k
noncomputable def UW:V->Option ZW
 | .ref C=>some (.ref C)
 | .ty T=>some (.type T)
 | _=>none
theorem Lz{c:V}{u v:ZW}(h:UW c=some u)(r:RelV c v):v=u:=by
 cases c with
 | ref C=>cases h;exact r
 | ty T=>cases h;exact r
 | _=>cases h
section
variable{X:Cx}
inductive Got(X:Cx)(H:Hp):V->ZW->Prop where
 | no:Got X H .non (.type "NoneType")
 | yes {x D:ZY} (e:H x=some (ExcO x (.ref D))) (t:ExcT X.K D):Got X H (.ref x) (.ref D)
theorem EJ:CallR X (.builtin "isinstance") (λxs H Q=>∃(x c:V) (t u:ZW) (b:Bool),xs=[x,c]/\Got X H x t/\UW c=some u/\PySem.W.kitOne X.K t u=some b/\Q (.bl b) H):=by
 intro pins s σ H xs us Q I r h;obtain⟨x,c,t,u,b,rfl,g,hc,e,q⟩:=h;obtain⟨u1,u2,rfl,r1,r2⟩:=Vals.two r;have:=Lz hc r2;subst this;cases g with
 | no=>exact E4 I r1 .non e λtk=>⟨.bl b,H,I.tok tk,rfl,q⟩
 | @yes x D ex T=>
   cases r1;obtain⟨⟨o,ho,hcl⟩,_⟩:=(show ObjOk X.prog X.w H s.heap x (ExcO x (.ref D)) from I.hok x _ ex)
   exact PySem.W.kia_one (Ly T) I.kIn ⟨o,ho,hcl⟩ e (λz=>nomatch z) λtk=>⟨.bl b,H,I.tok tk,rfl,q⟩
end
theorem IZ{K:Vn}{C:ZY}{bmB:List ZW}{newId:String}(q:PySem.W.excIn K C bmB newId=true):
 ∀ h:Heap,K.In h->∃ bm N nm q bs hdct sn sub ab col dd k0 k1 k2 k3 k5 mN,h.get? C=some (A0L nm q C N bs bm hdct sn sub ab col dd k0 k1 k2 k3 k5 newId)/\h.Ns N mN/\mN "__init__"=none/\OwnTail h bmB bm/\(∀ v:ZW,PySem.W.mroIn K C v=some true->(Value.ref C::bm).contains v=true):=by
 intro h X;unfold PySem.W.excIn at q;split at q
 ·rename_i dd cd sl ho;split at q
  ·rename_i C' bm k0 k1 k2 k3 n k5 hm hs;simp only[Vo,bQ,W7]at q;obtain⟨⟨⟨⟨⟨rfl,rfl⟩,hdel⟩,ht⟩,hok⟩,hni⟩:=q
   have hmr:∀ v:ZW,PySem.W.mroIn K C' v=some true->(Value.ref C'::bm).contains v=true:=λv hv=>by
    unfold PySem.W.mroIn PySem.W.clsIn at hv;rw[ho]at hv;simp only[Xx]at hv;split at hv
    ·cases hv
    ·rw[hm]at hv;exact oj hv
   obtain⟨nm,bs,mro,ns,qn,hd,sn,sub,ab,col,del⟩:=cd;dsimp only at hm hdel hok hni;subst hm hdel
   have hsl:sl=#[k0,k1,k2,k3,some (.builtin n),k5]:=by
    obtain⟨l⟩:=sl;simp only at hs;rw[hs]
   subst hsl;exact⟨bm,ns,nm,qn,bs,hd,sn,sub,ab,col,dd,k0,k1,k2,k3,k5,_,X _ _ ho,.of_isNs (PySem.W.isNs_of_in X hok),PySem.W.nsMap_none_of_in X hok hni,PySem.W.tail_of_in X ht,hmr⟩
  ·cases q
 ·cases q
abbrev bmVE:List ZW:=[.type "ValueError",.type "Exception",.type "BaseException",.type "object"]
theorem OX{K:Vn}{mg:Str->Option ZW}{x:Str}{C:ZY}(b:mg x=some (.ref C))(q:PySem.W.excIn K C bmVE "ValueError.__new__"=true):ExcC K mg x C:=
 ⟨b,λh X=>let ⟨bm,N,nm,q,bs,hdct,sn,sub,ab,col,dd,k0,k1,k2,k3,k5,mN,a1,a2,a3,a4,_⟩:=IZ q h X;⟨bm,N,nm,q,bs,hdct,sn,sub,ab,col,dd,k0,k1,k2,k3,k5,mN,a1,a2,a3,a4⟩⟩
theorem Js{K:Vn}{C D:ZY}(q:PySem.W.excIn K C bmVE "ValueError.__new__"=true)(m:PySem.W.mroIn K C (.ref D)=some true):Lw K C D:=λh X=>
 let ⟨bm,N,nm,q,bs,hdct,sn,sub,ab,col,dd,k0,k1,k2,k3,k5,mN,a1,_,_,_,a5⟩:=IZ q h X
 ⟨bm,N,nm,q,bs,hdct,sn,sub,ab,col,dd,k0,k1,k2,k3,k5,_,a1,a5 _ m⟩
section
variable{X:Cx}{pins:List (ZY×Obj)}{σ:St}{H:Hp}{s:ZX}
noncomputable abbrev Cx.inTry(X:Cx)(pins:List (ZY×Obj))(E:XK):Cx:={X with pn:=X.pn++pins,xe:=λe s'=>∃(σ:St) (H:Hp) (h0:Heap) (a:ZY) (C:ZW),e = .ref a/\Inv X pins σ H s'/\Since X pins h0/\Xt h0 s'.heap H a C/\E C none H}
theorem Inv.inTry(I:Inv X pins σ H s)(E:XK):Inv (X.inTry pins E) [] σ H s:=
 ⟨⟨I.ok.mod,I.ok.kind,I.ok.glob,I.ok.blt,I.ok.above,I.ok.inj,I.ok.has,I.ok.cab,I.ok.hd,I.ok.frames,I.ok.stk,I.ok.exf,I.ok.bs,I.ok.bsz,I.ok.noex,I.ok.exfs,I.ok.funs,I.ok.frf⟩,I.os,I.bare,I.base,I.loc,I.cell,I.free,I.freeC,λp hp=>I.pin p (by simpa using hp),I.hok,I.len⟩
theorem Inv.outTry{ps:List (ZY×Obj)}{E:XK}(I:Inv (X.inTry pins E) ps σ H s):Inv X pins σ H s:=
 ⟨⟨I.ok.mod,I.ok.kind,I.ok.glob,I.ok.blt,I.ok.above,I.ok.inj,I.ok.has,I.ok.cab,I.ok.hd,I.ok.frames,I.ok.stk,I.ok.exf,I.ok.bs,I.ok.bsz,I.ok.noex,I.ok.exfs,I.ok.funs,I.ok.frf⟩,I.os,I.bare,I.base,I.loc,I.cell,I.free,I.freeC,λp hp=>I.pin p (X5 _ hp),I.hok,I.len⟩
theorem Fb{E:XK}:CatchT (X.inTry pins E) E:=λps σ H s h0 x C I S xt hE=>⟨σ,H,h0,x,C,rfl,I.outTry,⟨S.old,λp hp=>S.pin p (X5 _ hp)⟩,xt,hE⟩
theorem SP.outTry{E:XK}{D:Ends}{f:Flow}{s':ZX}(h:SP (X.inTry pins E) [] D f s'):SP X pins D f s':=by
 cases f with
 | next=>obtain⟨σ',H',I,q⟩:=h;exact⟨σ',H',I.outTry,q⟩
 | ret v=>obtain⟨a,b,c,I,q⟩:=h;exact⟨a,b,c,I.outTry,q⟩
 | brk=>obtain⟨σ',H',I,q⟩:=h;exact⟨σ',H',I.outTry,q⟩
 | cont=>obtain⟨σ',H',I,q⟩:=h;exact⟨σ',H',I.outTry,q⟩
structure Top(X:Cx):Prop where
 st:X.stack=X.env::X.outer
 fr:X.env.frame=some X.env.locals
 ex:X.ex=[]
 fn:∀ x,X.fn x=true
theorem Top.inTry(T:Top X)(pins:List (ZY×Obj))(E:XK):Top (X.inTry pins E):=⟨T.st,T.fr,T.ex,T.fn⟩
theorem OY{i j:Nat}{dn n m:Str}{Dc:ZY}{ts:XK->TS}{suite:List Stmt}{mp np2 ap np hpos pos:Pos}(T:Top X)(hD:ExcC X.K X.mg dn Dc)(hgD:Gl X dn)(hN:X.N.Nodup)(hi:X.N[i]?=some n)(hk:X.env.scope.names.lookup n=some .local)
 (hj:X.N[j]?=some m) (hkj:X.env.scope.names.lookup m=some .local) (hs:∀ pins E,PSs (X.inTry pins E) suite (ts E)) (hdd:(dn == ("__debug__":Str))=false) (hd1:(n == ("__debug__":Str))=false) (hd2:(n == ("__classdict__":Str))=false):
 PS X (.Try suite [.ExceptHandler (some (.Name dn np)) (some n) [.Assign [.Name m mp] (.Name n np2) ap] hpos] [] [] pos) (λD σ H=>∃ E:XK,(∀ C H2,E C none H2->∃ Ca,C = .ref Ca/\Lw X.K Ca Dc/\∀ x,H2 x=none->∀ σ':St,σ'.length=X.N.length->
  D.nx (((σ'.set i (some (.ref x))).set j (some (.ref x))).set i none) (upd H2 x (ExcO x C)))/\ts E D σ H):=by
 intro pins s σ H D I ⟨E,hE,h⟩;have hst:=T.st;have hfrm:=T.fr;refine wpAny_Try_except (Zu (hs pins E [] s σ H D (I.inTry E) h) (λf s1 q=>?_) λe s1 q=>?_)
 ·have q:=q.outTry;cases f with
  | next=>exact A0k q
  | _=>exact q
 ·obtain⟨σ',H',h0,y,Cy,rfl,I',S,xt,hEy⟩:=q;obtain⟨Ca,rfl,U,nxt⟩:=hE _ _ hEy;refine Rn I' hst hfrm T.ex T.fn S xt λs3 I3 xt3=>?_;refine wpAny_handleBy_cons (codeAny_handlers_test (Co (X:=X.held y) (I3.held y) hgD hD.bound ?_ hdd)) (by intro q;cases q);obtain⟨bm,N,nm,q,bs,hdct,sn,sub,ab,col,dd,k0,k1,k2,k3,k5,newId,hC,hin⟩:=U s3.heap I3.kIn;obtain⟨bm',N',nm',q',bs',hdct',sn',sub',ab',col',dd',l0,l1,l2,l3,l5,mN,hDo,_,_,T'⟩:=hD.obj s3.heap I3.kIn;obtain⟨oe,vs,a0,_,_,_,hx,hcls,_⟩:=id xt3.obj;have hbase:bm'.contains (.type "BaseException")=true:=T'.hasType PySem.F.excBase_ValueError.hasBase
  have fin:codeAny (Zc X.prog X.w) (X.A.mark (some (.ref y))) (.handlers (.ref y) [.ExceptHandler none (some n) [.Assign [.Name m mp] (.Name n np2) ap] hpos] X.env) (λr s₂=>match r with
   | .ok f=>Zb (Zc X.prog X.w) X.A (do A18 X.env n .none;A0w X.env n hpos) (λ_ s₃=>SP X pins D f s₃) X.xe s₂
   | .error x=>cameBackBy (Zc X.prog X.w) X.A X.env X.xe x s₂) s3:=by
   refine codeAny_handlers_suite_as (Ro (A:=X.A.mark _) I3 hst hfrm T.ex T.fn S xt3 λs4 I4 xt4=>?_);refine Ar (I4.track hst hfrm T.ex S xt4) hN hi (.inl hk) (show RelV (.ref y) (.ref y) from rfl) (λs5 I5=>?_) (.inr hk);have hli:i<σ'.length:=by rw[I'.len];exact(gM hi).1
   have asg:PSs (X.held y) [.Assign [.Name m mp] (.Name n np2) ap] _:=OA (L8 (i:=j) hN hj (.inl hkj) (pv (X:=X.held y) (i:=i) (x:=n) hi (.inl hk) hd1 hd2) (by rfl) (.inr hkj));refine Zu (asg pins s5 _ _ {nx:=λσ2 H2=>D.nx (σ2.set i none) H2,rt:=λ_ _=>False} (I5.held y) ⟨.ref y,WN hli,nxt y xt.free σ' I'.len⟩) (λf s6 q=>?_) λ_ _ z=>False.elim z;cases f with
   | next=>
     obtain⟨σ'',H'',I6,q⟩:=q;exact Jp (I6.unheld I.ok) hN hi hk λs7 I7=>⟨_,_,I7,q⟩
   | ret v=>obtain⟨_,_,_,_,_,q⟩:=q;exact False.elim q
   | brk=>obtain⟨_,_,_,q⟩:=q;exact False.elim q
   | cont=>obtain⟨_,_,_,q⟩:=q;exact False.elim q
  obtain⟨hh,g,d,tk,os⟩:=s3;exact Dx hC hDo hx hcls hin hbase fin
end
end L2
namespace Rf
open PySem L2
inductive TyN where
 | int | bool | str | list | tuple | none
 deriving DecidableEq
noncomputable def TyN.nm:TyN->String
 | .int=>"int" | .bool=>"bool" | .str=>"str" | .list=>"list" | .tuple=>"tuple" | .none=>"NoneType"
structure XCls where
 ad:ZY
 un:List ZY
 tb:List (Str×ZY×Bool)
 deriving DecidableEq
inductive SV where
 | non | bl (b:Bool) | int (i:Int) | str (x:Str) | tup (xs:List SV) | loc (k:Nat) | ro (xs:List SV) | ty (t:TyN) | exc (c:XCls)
inductive SO where
 | lst (xs:List SV)
 | iset (ms:List Int)
 | dtp (kvs:List ((Int×Int)×Int)) | dtl (kvs:List (List Int×SV)) | dtf (o:Obj) (us:List (List Key×V)) (kvs:List (List Int×SV)) | dct (kvs:List (Int×SV)) | dcf (o:Obj) (ks:List (Key×V)) (kvs:List (Int×SV)) | tbl (x:Str) (lp:Pos)
noncomputable abbrev Sto:=List SO
noncomputable abbrev EnvS:=List (Option SV)
noncomputable def FzL(K:Vn)(H:Hp)(a:ZY)(vs:List V):Prop:=(∃ o,H a=some (.frz o (.lst vs)))\/
 ∃(o:Obj) (its:Array ZW) (n:Nat),K.lookup a=some o/\o.cls = .type "list"/\o.dict=none/\o.data = .seq its n/\its.size<=Ze/\Vals vs its.toList
theorem FzL.sq{K:Vn}{H:Hp}{a:ZY}{vs:List V}(h:FzL K H a vs):SqL K H a vs:=h.imp (λ⟨o,e⟩ => .inr ⟨o,e⟩) id
structure ClsK(K:Vn)(c:XCls):Prop where
 t:ExcT K c.ad
 x:PySem.W.excIn K c.ad bmVE "ValueError.__new__"=true
 un:∀ D∈c.un,PySem.W.mroIn K c.ad (.ref D)=some true
 nv:PySem.W.nsIn K Za "ValueError"=some none
 kv:PySem.W.kitOne K (.ref c.ad) (.type "ValueError")=some true
 tb:∀ p∈c.tb,PySem.W.nsIn K Za p.1=some (some (.ref p.2.1))/\PySem.W.kitOne K (.ref c.ad) (.ref p.2.1)=some p.2.2
mutual
noncomputable def Rl(K:Vn)(as:List ZY)(H:Hp):V->SV->Prop
 | v,.non=>v = .non
 | v,.bl b=>v = .bl b
 | v,.int i=>v = .int i
 | v,.str x=>v = .str x
 | v,.tup xs=>∃ p vs,v = .ref p/\H p=some (.tup vs)/\RlAll K as H vs xs
 | v,.loc k=>∃ a,as[k]?=some a/\v = .ref a
 | v,.ro xs=>∃ a vs,v = .ref a/\FzL K H a vs/\RlAll K as H vs xs
 | v,.ty t=>v = .ty t.nm
 | v,.exc c=>∃ a,v = .ref a/\H a=some (ExcO a (.ref c.ad))/\ClsK K c
noncomputable def RlAll(K:Vn)(as:List ZY)(H:Hp):List V->List SV->Prop
 | vs,[]=>vs=[]
 | vs,x::xs=>∃ v r,vs=v::r/\Rl K as H v x/\RlAll K as H r xs
end
noncomputable def imm:HO->Bool
 | .tup _=>true
 | .frz _ (.lst _)=>true
 | .ext _=>true
 | _=>false
noncomputable def KeepU(H H':Hp):Prop:=∀ b o,H b=some o->imm o=true->H' b=some o
theorem KeepU.refl(H:Hp):KeepU H H:=λ_ _ h _=>h
theorem KeepU.trans{H H' H'':Hp}(a:KeepU H H')(b:KeepU H' H''):KeepU H H'':=λx o h i=>b x o (a x o h i) i
theorem B0{H:Hp}{p:ZY}{o:HO}(hp:H p=none):KeepU H (upd H p o):=λb u h _=>by
 rw[c9 (f8 h hp)];exact h
theorem CU{H:Hp}{a:ZY}{u o:HO}(h:H a=some u)(i:imm u=false):KeepU H (upd H a o):=λb v hb iv=>by
 rw[c9 (Q7 hb h (by intro z;rw[z,i]at iv;cases iv))];exact hb
theorem FzL.mono{K:Vn}{H H':Hp}{a:ZY}{vs:List V}(k:KeepU H H')(h:FzL K H a vs):FzL K H' a vs:=h.imp (λ⟨o,e⟩=>⟨o,k _ _ e rfl⟩) id
theorem Er{α:Type}{as as':List α}(h:as <+: as'){k:Nat}{a:α}(e:as[k]?=some a):as'[k]?=some a:=by
 obtain⟨t,rfl⟩:=h;rw[W6 ((gM e).1)];exact e
mutual
theorem Rl.mono{K:Vn}{as as':List ZY}{H H':Hp}(ha:as <+: as')(hH:KeepU H H'):∀(x:SV) (v:V),Rl K as H v x->Rl K as' H' v x
 | .non,v,h=>by unfold Rl at h ⊢;exact h
 | .bl _,v,h=>by unfold Rl at h ⊢;exact h
 | .int _,v,h=>by unfold Rl at h ⊢;exact h
 | .str _,v,h=>by unfold Rl at h ⊢;exact h
 | .tup xs,v,h=>by
   unfold Rl at h ⊢;obtain⟨p,vs,e,hp,h⟩:=h;exact⟨p,vs,e,hH p _ hp rfl,RlAll.mono ha hH xs vs h⟩
 | .ro xs,v,h=>by
   unfold Rl at h ⊢;obtain⟨p,vs,e,hp,h⟩:=h;exact⟨p,vs,e,hp.mono hH,RlAll.mono ha hH xs vs h⟩
 | .ty _,v,h=>by unfold Rl at h ⊢;exact h
 | .exc c,v,h=>by
   unfold Rl at h ⊢;obtain⟨a,e,z,q⟩:=h;exact⟨a,e,hH a _ z rfl,q⟩
 | .loc k,v,h=>by
   unfold Rl at h ⊢;obtain⟨a,e,z⟩:=h;exact⟨a,Er ha e,z⟩
theorem RlAll.mono{K:Vn}{as as':List ZY}{H H':Hp}(ha:as <+: as')(hH:KeepU H H'):∀(xs:List SV) (vs:List V),RlAll K as H vs xs->RlAll K as' H' vs xs
 | [],vs,h=>by unfold RlAll at h ⊢;exact h
 | x::xs,vs,h=>by
   unfold RlAll at h ⊢;obtain⟨v,r,e,h1,h2⟩:=h;exact⟨v,r,e,Rl.mono ha hH x v h1,RlAll.mono ha hH xs r h2⟩
end
section
variable{K:Vn}{as:List ZY}{H:Hp}
theorem rl_non{v:V}:Rl K as H v .non↔v = .non:=by unfold Rl;exact Iff.rfl
theorem rl_bl{v:V}{b:Bool}:Rl K as H v (.bl b)↔v = .bl b:=by unfold Rl;exact Iff.rfl
theorem rl_int{v:V}{i:Int}:Rl K as H v (.int i)↔v = .int i:=by unfold Rl;exact Iff.rfl
theorem rl_str{v:V}{x:Str}:Rl K as H v (.str x)↔v = .str x:=by unfold Rl;exact Iff.rfl
theorem rl_tup{v:V}{xs:List SV}:Rl K as H v (.tup xs)↔∃ p vs,v = .ref p/\H p=some (.tup vs)/\RlAll K as H vs xs:=by rw[Rl]
theorem rl_loc{v:V}{k:Nat}:Rl K as H v (.loc k)↔∃ a,as[k]?=some a/\v = .ref a:=by unfold Rl;exact Iff.rfl
theorem rl_ro{v:V}{xs:List SV}:Rl K as H v (.ro xs)↔∃ a vs,v = .ref a/\FzL K H a vs/\RlAll K as H vs xs:=by rw[Rl]
theorem rl_exc{v:V}{c:XCls}:Rl K as H v (.exc c)↔∃ a,v = .ref a/\H a=some (ExcO a (.ref c.ad))/\ClsK K c:=by unfold Rl;exact Iff.rfl
theorem rl_ty{v:V}{n:TyN}:Rl K as H v (.ty n)↔v = .ty n.nm:=by unfold Rl;exact Iff.rfl
theorem rla_nil{vs:List V}:RlAll K as H vs []↔vs=[]:=by unfold RlAll;exact Iff.rfl
theorem rla_cons{vs:List V}{x:SV}{xs:List SV}:RlAll K as H vs (x::xs)↔∃ v r,vs=v::r/\Rl K as H v x/\RlAll K as H r xs:=by rw[RlAll]
theorem RlAll.nil:RlAll K as H [] []:=rla_nil.mpr rfl
theorem RlAll.cons{v:V}{x:SV}{vs:List V}{xs:List SV}(h:Rl K as H v x)(t:RlAll K as H vs xs):RlAll K as H (v::vs) (x::xs):=rla_cons.mpr ⟨v,vs,rfl,h,t⟩
theorem RlAll.length:∀{xs:List SV} {vs:List V},RlAll K as H vs xs->vs.length=xs.length
 | [],_,h=>by rw[rla_nil.mp h];rfl
 | x::xs,_,h=>by
   obtain⟨v,r,rfl,_,t⟩:=rla_cons.mp h;simp[t.length]
theorem RlAll.get:∀{xs:List SV} {vs:List V} {i:Nat} {x:SV},RlAll K as H vs xs->xs[i]?=some x->∃ v,vs[i]?=some v/\Rl K as H v x
 | [],_,i,_,_,e=>by simp at e
 | y::xs,_,0,_,h,e=>by
   obtain⟨v,r,rfl,a,_⟩:=rla_cons.mp h;simp at e;subst e;exact⟨v,rfl,a⟩
 | y::xs,_,i+1,_,h,e=>by
   obtain⟨v,r,rfl,_,t⟩:=rla_cons.mp h;simpa using t.get (by simpa using e)
theorem RlAll.append:∀{xs ys:List SV} {vs us:List V},RlAll K as H vs xs->RlAll K as H us ys->RlAll K as H (vs++us) (xs++ys)
 | [],_,_,_,h,h'=>by rw[rla_nil.mp h];exact h'
 | x::xs,_,_,_,h,h'=>by
   obtain⟨v,r,rfl,a,t⟩:=rla_cons.mp h;exact .cons a (t.append h')
theorem RlAll.take:∀{xs:List SV} {vs:List V} (n:Nat),RlAll K as H vs xs->RlAll K as H (vs.take n) (xs.take n)
 | _,_,0,_=>by simpa using RlAll.nil
 | [],_,n+1,h=>by rw[rla_nil.mp h];exact .nil
 | x::xs,_,n+1,h=>by
   obtain⟨v,r,rfl,a,t⟩:=rla_cons.mp h;exact .cons a (t.take n)
theorem RlAll.drop:∀{xs:List SV} {vs:List V} (n:Nat),RlAll K as H vs xs->RlAll K as H (vs.drop n) (xs.drop n)
 | _,_,0,h=>h
 | [],_,n+1,h=>by rw[rla_nil.mp h];exact .nil
 | x::xs,_,n+1,h=>by
   obtain⟨v,r,rfl,a,t⟩:=rla_cons.mp h;exact t.drop n
theorem RlAll.set{x:SV}{v:V}(hx:Rl K as H v x):∀{xs:List SV} {vs:List V} (n:Nat),RlAll K as H vs xs->RlAll K as H (vs.set n v) (xs.set n x)
 | [],_,n,h=>by rw[rla_nil.mp h];exact .nil
 | y::xs,_,0,h=>by
   obtain⟨_,r,rfl,_,t⟩:=rla_cons.mp h;exact .cons hx t
 | y::xs,_,n+1,h=>by
   obtain⟨_,r,rfl,a,t⟩:=rla_cons.mp h;exact .cons a (t.set hx n)
theorem RlAll.ins{x:SV}{v:V}(hx:Rl K as H v x){xs:List SV}{vs:List V}(h:RlAll K as H vs xs)(n:Nat):RlAll K as H (vs.take n++v::vs.drop n) (xs.take n++x::xs.drop n):=(h.take n).append (.cons hx (h.drop n))
theorem RlAll.ints{is:List Int}:RlAll K as H (is.map V.int) (is.map SV.int):=by
 induction is with
 | nil=>exact .nil
 | cons i is ih=>exact .cons (rl_int.mpr rfl) ih
end
noncomputable def RlD(K:Vn)(as:List ZY)(H:Hp):List (Key×V)->List (Int×SV)->Prop
 | ks,[]=>ks=[]
 | ks,p::r=>∃ v t,ks=(.inl p.1,v)::t/\Rl K as H v p.2/\RlD K as H t r
theorem RlD.mono{K:Vn}{as as':List ZY}{H H':Hp}(ha:as <+: as')(hH:KeepU H H'):∀(kvs:List (Int×SV)) (ks:List (Key×V)),RlD K as H ks kvs->RlD K as' H' ks kvs
 | [],_,h=>h
 | p::r,_,⟨v,t,e,h1,h2⟩=>⟨v,t,e,Rl.mono ha hH p.2 v h1,RlD.mono ha hH r t h2⟩
noncomputable def RlT(K:Vn)(as:List ZY)(H:Hp):List (List Key×V)->List (List Int×SV)->Prop
 | us,[]=>us=[]
 | us,p::r=>∃ v t,us=(p.1.map Sum.inl,v)::t/\Rl K as H v p.2/\RlT K as H t r
theorem RlT.mono{K:Vn}{as as':List ZY}{H H':Hp}(ha:as <+: as')(hH:KeepU H H'):∀(kvs:List (List Int×SV)) (us:List (List Key×V)),RlT K as H us kvs->RlT K as' H' us kvs
 | [],_,h=>h
 | p::r,_,⟨v,t,e,h1,h2⟩=>⟨v,t,e,Rl.mono ha hH p.2 v h1,RlT.mono ha hH r t h2⟩
noncomputable def dtV(kvs:List ((Int×Int)×Int)):List (List Key×V):=kvs.map λp=>([.inl p.1.1,.inl p.1.2],V.int p.2)
noncomputable def TabK(K:Vn)(x:Str)(c P:ZY):Prop:=PySem.W.tabIn K x=some (c,P)/\PySem.W.codeHdIn K c P=true
noncomputable abbrev Rq(x:Str):Str:=x++".<locals>."++"<lambda>"
noncomputable def RlO(K:Vn)(as:List ZY)(H:Hp)(a:ZY):SO->Prop
 | .lst xs=>∃ vs,H a=some (.lst vs)/\RlAll K as H vs xs
 | .iset ms=>∃ F,H a=some (.set F ms.length)/\∀ k,F k=decide (k∈ms)
 | .dtp kvs=>H a=some (.dT (dtV kvs))
 | .dtl kvs=>∃ us,H a=some (.dT us)/\RlT K as H us kvs
 | .dtf o us kvs=>H a=some (.frz o (.dT us))/\RlT K as H us kvs
 | .dct kvs=>∃ ks,H a=some (.dK ks)/\RlD K as H ks kvs
 | .dcf o ks kvs=>H a=some (.frz o (.dK ks))/\RlD K as H ks kvs
 | .tbl x lp=>∃ c ps,H a=some (.tbl ps)/\TabK K x c a/\TabOk H (Rq x) lp ps
structure Ok(K:Vn)(as:List ZY)(H:Hp)(S:Sto):Prop where
 len:as.length=S.length
 nd:as.Nodup
 obj:∀(k:Nat) (o:SO) (a:ZY),S[k]?=some o->as[k]?=some a->RlO K as H a o
noncomputable def EnvOk(K:Vn)(as:List ZY)(H:Hp)(σ:St)(ρ:EnvS):Prop:=σ.length=ρ.length/\∀(i:Nat) (x:SV),ρ[i]?=some (some x)->∃ v,σ[i]?=some (some v)/\Rl K as H v x
theorem EnvOk.mono{K:Vn}{as as':List ZY}{H H':Hp}{σ:St}{ρ:EnvS}(h:EnvOk K as H σ ρ)(ha:as <+: as')(hH:KeepU H H'):EnvOk K as' H' σ ρ:=⟨h.1,λi x e=>let ⟨v,a,b⟩:=h.2 i x e;⟨v,a,Rl.mono ha hH x v b⟩⟩
theorem EnvOk.set{K:Vn}{as:List ZY}{H:Hp}{σ:St}{ρ:EnvS}(h:EnvOk K as H σ ρ){i:Nat}{v:V}{x:SV}(hx:Rl K as H v x):EnvOk K as H (σ.set i (some v)) (ρ.set i (some x)):=⟨by rw[Wg,Wg];exact h.1,λj y e=>by
 by_cases hij:i=j
 ·subst hij;have hi:i<ρ.length:=by have:=(gM e).1;rwa [Wg]at this
  rw[WN hi]at e;rw[WN (by rw[h.1];exact hi)];cases e;exact⟨v,rfl,hx⟩
 ·rw[Wq hij]at e ⊢;exact h.2 j y e⟩
section
variable{K:Vn}{as:List ZY}{H:Hp}{S:Sto}
theorem RlO.mono{as':List ZY}{H':Hp}{a:ZY}(ha:as <+: as')(hH:KeepU H H')(e:∀ u,H a=some u->H' a=some u):∀{o:SO},RlO K as H a o->RlO K as' H' a o
 | .lst xs,⟨vs,h1,h2⟩=>⟨vs,e _ h1,RlAll.mono ha hH xs vs h2⟩
 | .iset ms,⟨F,h1,h2⟩=>⟨F,e _ h1,h2⟩
 | .dtp kvs,h1=>e _ h1
 | .dtl kvs,⟨us,h1,h2⟩=>⟨us,e _ h1,RlT.mono ha hH kvs us h2⟩
 | .dtf _ us kvs,⟨h1,h2⟩=>⟨e _ h1,RlT.mono ha hH kvs us h2⟩
 | .dct kvs,⟨ks,h1,h2⟩=>⟨ks,e _ h1,RlD.mono ha hH kvs ks h2⟩
 | .dcf _ ks kvs,⟨h1,h2⟩=>⟨e _ h1,RlD.mono ha hH kvs ks h2⟩
 | .tbl x lp,⟨c,ps,h1,h2,h3⟩=>⟨c,ps,e _ h1,h2,h3.1,h3.2.imp id λ⟨c',h4,h5⟩=>⟨c',h4,hH _ _ h5 rfl⟩⟩
theorem RlO.some{a:ZY}:∀{o:SO},RlO K as H a o->∃ u,H a=some u/\imm u=false
 | .lst _,⟨_,h,_⟩=>⟨_,h,rfl⟩
 | .iset _,⟨_,h,_⟩=>⟨_,h,rfl⟩
 | .dtp _,h=>⟨_,h,rfl⟩
 | .dtl _,⟨_,h,_⟩=>⟨_,h,rfl⟩
 | .dtf _ _ _,⟨h,_⟩=>⟨_,h,rfl⟩
 | .dct _,⟨_,h,_⟩=>⟨_,h,rfl⟩
 | .dcf _ _ _,⟨h,_⟩=>⟨_,h,rfl⟩
 | .tbl _ _,⟨_,_,h,_⟩=>⟨_,h,rfl⟩
theorem Ok.at(h:Ok K as H S){k:Nat}{o:SO}(e:S[k]?=some o):∃ a,as[k]?=some a/\RlO K as H a o:=by
 have hk:k<as.length:=by rw[h.len];exact(gM e).1
 exact⟨as[k],Vq hk,h.obj k o _ e (Vq hk)⟩
theorem Ok.of(h:Ok K as H S){k:Nat}{a:ZY}(e:as[k]?=some a):∃ o,S[k]?=some o/\RlO K as H a o:=by
 have hk:k<S.length:=by rw[<-h.len];exact(gM e).1
 exact⟨S[k],Vq hk,h.obj k _ a (Vq hk) e⟩
theorem Ok.new(h:Ok K as H S){p:ZY}{o:HO}(hp:H p=none):Ok K as (upd H p o) S:=⟨h.len,h.nd,λk u a e ea=>by
 have r:=h.obj k u a e ea;obtain⟨z,hz,_⟩:=r.some;exact r.mono (WV as) (B0 hp) λvs hv=>by rw[c9 (f8 hz hp)];exact hv⟩
theorem Ok.free(h:Ok K as H S){p:ZY}(hp:H p=none):p∉as:=λhm=>by
 obtain⟨k,hk⟩:=Xa hm;obtain⟨o,_,r⟩:=h.of hk;obtain⟨z,hz,_⟩:=r.some;rw[hp]at hz;cases hz
theorem Ok.pushO(h:Ok K as H S){p:ZY}(hp:H p=none){u:HO}{x:SO}(r:RlO K (as++[p]) (upd H p u) p x):Ok K (as++[p]) (upd H p u) (S++[x]):=by
 have pre:as <+: as++[p]:=XS _ _;refine⟨by rw[Vs,Vs,h.len];rfl,?_,λk o a e ea=>?_⟩
 ·rw[XZ];refine⟨h.nd,by simp,λa ha b hb=>?_⟩;rw[W1.mp hb];intro z;subst z;exact h.free hp ha
 ·by_cases hk:k<S.length
  ·rw[W6 hk]at e;rw[W6 (by rw[h.len];exact hk)]at ea;exact((h.new (o:=u) hp).obj k o a e ea).mono pre (KeepU.refl _) λ_ z=>z
  ·have hk':k=S.length:=by
    have:=(gM e).1;rw[Vs,Wf]at this;omega
   subst hk';rw[WW]at e;rw[<-h.len,WW]at ea;cases e;cases ea;exact r
theorem Ok.push(h:Ok K as H S){p:ZY}(hp:H p=none){vs:List V}{xs:List SV}(r:RlAll K as H vs xs):Ok K (as++[p]) (upd H p (.lst vs)) (S++[.lst xs]):=h.pushO hp ⟨vs,j3,RlAll.mono (XS _ _) (B0 hp) xs vs r⟩
theorem Ok.writeO(h:Ok K as H S){k:Nat}{a:ZY}{y x:SO}{u:HO}(e:S[k]?=some y)(ea:as[k]?=some a)(r:KeepU H (upd H a u)->RlO K as (upd H a u) a x):Ok K as (upd H a u) (S.set k x)/\KeepU H (upd H a u):=by
 obtain⟨z,h1,iz⟩:=(h.obj k _ a e ea).some;have ku:KeepU H (upd H a u):=CU h1 iz;refine⟨⟨by rw[Wg];exact h.len,h.nd,λj o b eo eb=>?_⟩,ku⟩;by_cases hj:k=j
 ·subst hj;rw[WN ((gM e).1)]at eo;rw[ea]at eb;cases eo;cases eb;exact r ku
 ·rw[Wq hj]at eo
  have hab:b≠a:=λz=>by
   subst z;exact hj ((Yv ((gM ea).1) h.nd).mp (ea.trans eb.symm))
  exact(h.obj j o b eo eb).mono (WV as) ku λws hw=>by rw[c9 hab];exact hw
theorem Ok.write(h:Ok K as H S){k:Nat}{a:ZY}{ys xs:List SV}{vs:List V}(e:S[k]?=some (.lst ys))(ea:as[k]?=some a)(r:RlAll K as H vs xs):Ok K as (upd H a (.lst vs)) (S.set k (.lst xs))/\KeepU H (upd H a (.lst vs)):=h.writeO e ea λku=>⟨vs,j3,RlAll.mono (WV as) ku xs vs r⟩
end
structure Go(as:List ZY)(H:Hp)(as':List ZY)(H':Hp):Prop where
 pre:as <+: as'
 keep:∀ b o,H b=some o->b∉as->H' b=some o/\b∉as'
theorem Go.refl(as:List ZY)(H:Hp):Go as H as H:=⟨WV _,λ_ _ h n=>⟨h,n⟩⟩
theorem Go.trans{as as1 as2:List ZY}{H H1 H2:Hp}(a:Go as H as1 H1)(b:Go as1 H1 as2 H2):Go as H as2 H2:=⟨a.pre.trans b.pre,λx o h n=>let ⟨h1,n1⟩:=a.keep x o h n;b.keep x o h1 n1⟩
theorem Go.new{as:List ZY}{H:Hp}{p:ZY}{o:HO}(hp:H p=none):Go as H as (upd H p o):=⟨WV _,λb u h n=>⟨by rw[c9 (f8 h hp)];exact h,n⟩⟩
theorem Go.push{as:List ZY}{H:Hp}{p:ZY}{o:HO}(hp:H p=none):Go as H (as++[p]) (upd H p o):=⟨XS _ _,λb u h n=>⟨by rw[c9 (f8 h hp)];exact h,by
 rw[WD,W1];rintro(z | z)
 ·exact n z
 ·exact f8 h hp z⟩⟩
theorem Go.write{as:List ZY}{H:Hp}{a:ZY}{o:HO}(ha:a∈as):Go as H as (upd H a o):=⟨WV _,λb u h n=>⟨by rw[c9 (λz=>n (by rw[z];exact ha))];exact h,n⟩⟩
section
variable{K:Vn}{as as':List ZY}{H H':Hp}{S:Sto}
theorem Ok.away(h:Ok K as H S){b:ZY}{o:HO}(e:H b=some o)(i:imm o=true):b∉as:=λhm=>by
 obtain⟨k,hk⟩:=Xa hm;obtain⟨_,_,r⟩:=h.of hk;obtain⟨z,hz,iz⟩:=r.some;rw[e]at hz;cases hz;rw[i]at iz;cases iz
theorem Go.ku(g:Go as H as' H')(ok:Ok K as H S):KeepU H H':=λb o h i=>(g.keep b o h (ok.away h i)).1
end
end Rf
namespace L2
open PySem PySem.Spec PyProof.Rows
open PySem.AutoSeq1 (wpAny_loadPart')
section
variable{X:Cx}
theorem UX:Zh "any"=some (.builtin "any"):=by decide +kernel
end
end L2
namespace Rf
open PySem L2
noncomputable abbrev QE:=SV->Sto->Prop
noncomputable abbrev WE:=EnvS->Sto->QE->Prop
noncomputable abbrev WA:=EnvS->Sto->(List SV->Sto->Prop)->Prop
noncomputable abbrev WT:=EnvS->Sto->(Bool->Sto->Prop)->Prop
noncomputable def Post(K:Vn)(as:List ZY)(H:Hp)(Q:VK):QE:=λx S'=>∀ as' H' v,Go as H as' H'->Ok K as' H' S'->Rl K as' H' v x->Q v H'
noncomputable def UY(K:Vn)(as:List ZY)(H:Hp)(Q:List V->Hp->Prop):List SV->Sto->Prop:=λxs S'=>∀ as' H' vs,Go as H as' H'->Ok K as' H' S'->RlAll K as' H' vs xs->Q vs H'
noncomputable def PostT(K:Vn)(as:List ZY)(H:Hp)(Q:Bool->Hp->Prop):Bool->Sto->Prop:=λb S'=>∀ as' H',Go as H as' H'->Ok K as' H' S'->Q b H'
noncomputable def lift(K:Vn)(w:WE):TE:=λσ H Q=>∃ as ρ S,Ok K as H S/\EnvOk K as H σ ρ/\w ρ S (Post K as H Q)
noncomputable def liftA(K:Vn)(w:WA):TA:=λσ H Q=>∃ as ρ S,Ok K as H S/\EnvOk K as H σ ρ/\w ρ S (UY K as H Q)
noncomputable def liftT(K:Vn)(w:WT):TT:=λσ H Q=>∃ as ρ S,Ok K as H S/\EnvOk K as H σ ρ/\w ρ S (PostT K as H Q)
noncomputable def Mono(w:WE):Prop:=∀ ρ S (P P':QE),(∀ x S',P x S'->P' x S')->w ρ S P->w ρ S P'
noncomputable def MonoA(w:WA):Prop:=∀ ρ S (P P':List SV->Sto->Prop),(∀ x S',P x S'->P' x S')->w ρ S P->w ρ S P'
noncomputable def MonoT(w:WT):Prop:=∀ ρ S (P P':Bool->Sto->Prop),(∀ x S',P x S'->P' x S')->w ρ S P->w ρ S P'
theorem j0{X:Cx}{e:Expr}{t:TE}(t':TE)(h:PE X e t)(imp:∀ σ H Q,t' σ H Q->t σ H Q):PE X e t':=λpins s σ H Q I hw=>h pins s σ H Q I (imp σ H Q hw)
theorem Es{X:Cx}{e:Expr}{t:TT}(t':TT)(h:PT X e t)(imp:∀ σ H Q,t' σ H Q->t σ H Q):PT X e t':=λpins s σ H Q I hw=>h pins s σ H Q I (imp σ H Q hw)
theorem M0{X:Cx}{e:List Expr}{t:TA}(t':TA)(h:PA X e t)(imp:∀ σ H Q,t' σ H Q->t σ H Q):PA X e t':=λp pins s σ H Q I hw=>h p pins s σ H Q I (imp σ H Q hw)
section
variable{K:Vn}{as as1 as2:List ZY}{H H1 H2:Hp}
theorem Post.mono{Q:VK}{x:SV}{S:Sto}(h:Post K as H Q x S)(g:Go as H as1 H1):Post K as1 H1 Q x S:=λas' H' v g'=>h as' H' v (g.trans g')
end
noncomputable abbrev S2:=SV->SV->Sto->QE->Prop
noncomputable abbrev S1:=SV->Sto->QE->Prop
noncomputable abbrev Sn:=List SV->Sto->QE->Prop
noncomputable def w2(s:S2)(a b:WE):WE:=λρ S Q=>a ρ S λx S1=>b ρ S1 λy S2=>s x y S2 Q
noncomputable def w1(s:S1)(a:WE):WE:=λρ S Q=>a ρ S λx S1=>s x S1 Q
noncomputable def wn(s:Sn)(a:WA):WE:=λρ S Q=>a ρ S λxs S1=>s xs S1 Q
noncomputable def Mono2(s:S2):Prop:=∀ x y S (P P':QE),(∀ x S',P x S'->P' x S')->s x y S P->s x y S P'
noncomputable def Fc(s:S1):Prop:=∀ x S (P P':QE),(∀ x S',P x S'->P' x S')->s x S P->s x S P'
noncomputable def MonoN(s:Sn):Prop:=∀ x S (P P':QE),(∀ x S',P x S'->P' x S')->s x S P->s x S P'
theorem Mono.two{s:S2}{a b:WE}(hs:Mono2 s)(ha:Mono a)(hb:Mono b):Mono (w2 s a b):=λρ S P P' i h=>ha _ _ _ _ (λ_ _ h=>hb _ _ _ _ (λ_ _ h=>hs _ _ _ _ _ i h) h) h
theorem Mono.one{s:S1}{a:WE}(hs:Fc s)(ha:Mono a):Mono (w1 s a):=λρ S P P' i h=>ha _ _ _ _ (λ_ _ h=>hs _ _ _ _ i h) h
theorem Mono.n{s:Sn}{a:WA}(hs:MonoN s)(ha:MonoA a):Mono (wn s a):=λρ S P P' i h=>ha _ _ _ _ (λ_ _ h=>hs _ _ _ _ i h) h
noncomputable def Bx(K:Vn)(s:S2)(r:R2):Prop:=∀ as H S x y v u Q,Ok K as H S->Rl K as H v x->Rl K as H u y->s x y S (Post K as H Q)->r v u H Q
noncomputable def VT(K:Vn)(s:S1)(r:V->Hp->VK->Prop):Prop:=∀ as H S x v Q,Ok K as H S->Rl K as H v x->s x S (Post K as H Q)->r v H Q
noncomputable def UZ(K:Vn)(s:Sn)(r:List V->Hp->VK->Prop):Prop:=∀ as H S xs vs Q,Ok K as H S->RlAll K as H vs xs->s xs S (Post K as H Q)->r vs H Q
theorem Cq{K:Vn}{s:S2}{r:R2}{wa wb:WE}(sim:Bx K s r)(ms:Mono2 s)(ma:Mono wa)(mb:Mono wb):∀ σ H Q,lift K (w2 s wa wb) σ H Q->tOp r (lift K wa) (lift K wb) σ H Q:=by
 rintro σ H Q ⟨as,ρ,S,ok,en,h⟩;refine⟨as,ρ,S,ok,en,ma _ _ _ _ (λx S1 hb as1 H1 v g1 ok1 rv=>?_) h⟩;refine⟨as1,ρ,S1,ok1,en.mono g1.pre (g1.ku ok),mb _ _ _ _ (λy S2 hs as2 H2 u g2 ok2 ru=>?_) hb⟩;exact sim as2 H2 S2 x y v u Q ok2 (Rl.mono g2.pre (g2.ku ok1) x v rv) ru (ms _ _ _ _ _ (λz S3 hz=>hz.mono (g1.trans g2)) hs)
theorem Rr{K:Vn}{s:S1}{r:V->Hp->VK->Prop}{wa:WE}(sim:VT K s r)(ms:Fc s)(ma:Mono wa):∀ σ H Q,lift K (w1 s wa) σ H Q->tUn r (lift K wa) σ H Q:=by
 rintro σ H Q ⟨as,ρ,S,ok,en,h⟩;refine⟨as,ρ,S,ok,en,ma _ _ _ _ (λx S1 hs as1 H1 v g1 ok1 rv=>?_) h⟩;exact sim as1 H1 S1 x v Q ok1 rv (ms _ _ _ _ (λz S3 hz=>hz.mono g1) hs)
theorem Ua{K:Vn}{s:Sn}{r:List V->Hp->VK->Prop}{wa:WA}(sim:UZ K s r)(ms:MonoN s)(ma:MonoA wa):∀ σ H Q,lift K (wn s wa) σ H Q->tCB r (liftA K wa) σ H Q:=by
 rintro σ H Q ⟨as,ρ,S,ok,en,h⟩;refine⟨as,ρ,S,ok,en,ma _ _ _ _ (λx S1 hs as1 H1 v g1 ok1 rv=>?_) h⟩;exact sim as1 H1 S1 x v Q ok1 rv (ms _ _ _ _ (λz S3 hz=>hz.mono g1) hs)
noncomputable def EK:WA:=λ_ S Q=>Q [] S
noncomputable def DF(a:WE)(b:WA):WA:=λρ S Q=>a ρ S λx S1=>b ρ S1 λxs S2=>Q (x::xs) S2
theorem MonoA.nil:MonoA EK:=λ_ _ _ _ i h=>i _ _ h
theorem MonoA.cons{a:WE}{b:WA}(ha:Mono a)(hb:MonoA b):MonoA (DF a b):=λ_ _ _ _ i h=>ha _ _ _ _ (λ_ _ h=>hb _ _ _ _ (λ_ _ h=>i _ _ h) h) h
theorem OZ{X:Cx}{K:Vn}:PA X [] (liftA K EK):=M0 _ A6 λσ H Q ⟨as,ρ,S,ok,en,h⟩=>h as H [] (Go.refl _ _) ok .nil
theorem M1{K:Vn}{a:WE}{b:WA}(ma:Mono a)(mb:MonoA b):∀ σ H Q,liftA K (DF a b) σ H Q->FQ (lift K a) (liftA K b) σ H Q:=by
 rintro σ H Q ⟨as,ρ,S,ok,en,h⟩;refine⟨as,ρ,S,ok,en,ma _ _ _ _ (λx S1 hs as1 H1 v g1 ok1 rv=>?_) h⟩;refine⟨as1,ρ,S1,ok1,en.mono g1.pre (g1.ku ok),mb _ _ _ _ (λxs S2 hq as2 H2 vs g2 ok2 rs=>?_) hs⟩;exact hq as2 H2 _ (g1.trans g2) ok2 (.cons (Rl.mono g2.pre (g2.ku ok1) x v rv) rs)
theorem M3{X:Cx}{K:Vn}{e:Expr}{es:List Expr}{a:WE}{b:WA}(ma:Mono a)(mb:MonoA b)(h1:PE X e (lift K a))(h2:PA X es (liftA K b))(hs:Zg (e::es) X.env=(false,eval e X.env)::Zg es X.env):PA X (e::es) (liftA K (DF a b)):=M0 _ (m7 h1 h2 hs) (M1 ma mb)
noncomputable def Rs(i:Nat):WE:=λρ S Q=>∃ x,ρ[i]?=some (some x)/\Q x S
noncomputable def wC(x:SV):WE:=λ_ S Q=>Q x S
theorem Mono.var{i:Nat}:Mono (Rs i):=λ_ _ _ _ i ⟨x,a,b⟩=>⟨x,a,i _ _ b⟩
theorem Mono.c{x:SV}:Mono (wC x):=λ_ _ _ _ i h=>i _ _ h
theorem Oa{K:Vn}{i:Nat}:∀ σ H Q,lift K (Rs i) σ H Q->Ks i σ H Q:=λσ H Q ⟨as,ρ,S,ok,en,x,e,h⟩=>let ⟨v,ev,rv⟩:=en.2 i x e;⟨v,ev,h as H v (Go.refl _ _) ok rv⟩
theorem Fd{K:Vn}{x:SV}{v:V}(hx:∀ as H,Rl K as H v x):∀ σ H Q,lift K (wC x) σ H Q->tC v σ H Q:=λσ H Q ⟨as,ρ,S,ok,en,h⟩=>h as H v (Go.refl _ _) ok (hx as H)
noncomputable def big:Nat:=100000
theorem B1{n:Nat}(h:n<=big):n<=Ze:=Wd h (by decide)
theorem HF{n:Nat}(h:n<big):n<Ze:=WC h (by decide)
noncomputable def Ob:Sn:=λxs S Q=>xs.length<=big/\Q (.tup xs) S
noncomputable def Oc:Sn:=λxs S Q=>xs.length<=big/\Q (.loc S.length) (S++[.lst xs])
theorem MonoN.tup:MonoN Ob:=λ_ _ _ _ i h=>⟨h.1,i _ _ h.2⟩
theorem MonoN.lst:MonoN Oc:=λ_ _ _ _ i h=>⟨h.1,i _ _ h.2⟩
theorem M4{K:Vn}{as:List ZY}{H:Hp}{S:Sto}{p:ZY}(ok:Ok K as H S):Rl K (as++[p]) (upd H p (.lst vs)) (.ref p) (.loc S.length):=rl_loc.mpr ⟨p,by rw[<-ok.len,WW],rfl⟩
theorem AL{K:Vn}{as:List ZY}{H:Hp}{S:Sto}{Q:VK}{xs:List SV}{vs:List V}(ok:Ok K as H S)(r:RlAll K as H vs xs)(h:Post K as H Q (.loc S.length) (S++[.lst xs])):∀ p,H p=none->Q (.ref p) (upd H p (.lst vs)):=λp hp=>
 h (as++[p]) _ (.ref p) (Go.push hp) (ok.push hp r) (M4 ok)
theorem C8{K:Vn}{as:List ZY}{H:Hp}{S:Sto}{Q:VK}{xs:List SV}{vs:List V}(ok:Ok K as H S)(r:RlAll K as H vs xs)(h:Post K as H Q (.tup xs) S):∀ p,H p=none->Q (.ref p) (upd H p (.tup vs)):=λp hp=>
 h as _ (.ref p) (Go.new hp) (ok.new hp) (rl_tup.mpr ⟨p,vs,rfl,j3,RlAll.mono (WV _) (B0 hp) xs vs r⟩)
theorem Od{K:Vn}{wa:WA}(ma:MonoA wa):∀ σ H Q,lift K (wn Ob wa) σ H Q->U7 (liftA K wa) σ H Q:=by
 rintro σ H Q ⟨as,ρ,S,ok,en,h⟩;refine⟨as,ρ,S,ok,en,ma _ _ _ _ (λxs S1 hs as1 H1 vs g1 ok1 rv=>?_) h⟩;exact⟨by rw[rv.length];exact B1 hs.1,C8 ok1 rv (hs.2.mono g1)⟩
theorem Oe{K:Vn}{wa:WA}(ma:MonoA wa):∀ σ H Q,lift K (wn Oc wa) σ H Q->U8 (liftA K wa) σ H Q:=by
 rintro σ H Q ⟨as,ρ,S,ok,en,h⟩;refine⟨as,ρ,S,ok,en,ma _ _ _ _ (λxs S1 hs as1 H1 vs g1 ok1 rv=>?_) h⟩;exact⟨by rw[rv.length];exact B1 hs.1,AL ok1 rv (hs.2.mono g1)⟩
end Rf
namespace L2
open PySem PySem.Spec PyProof.Rows
section
variable{prog:Zd}{w:Zf}{A:Zj}{E:ZW->ZX->Prop}{s:ZX}
set_option maxHeartbeats 8000000 in
theorem M5{l:ZY}{items:Array ZW}{ns:List Int}{Q:ZW->ZX->Prop}(hh:A.handled=none)(hl:s.heap.IsTuple l items)(hi:IntsAre items.toList ns)(hb:items.size+1<A0a)
 (h:∀(h':Heap) (tk:Nat),SetX prog w h' s.heap.objs.size (A0j (λi=>ns.getD i 0) items.size)->(∀ b o,b<s.heap.objs.size->s.heap.get? b=some o->h'.get? b=some o)->Q (.ref s.heap.objs.size) {s with heap:=h',toks:=tk}):
 Zb (Zc prog w) A (call (.type "set") [.ref l]) Q E s:=by
 obtain⟨c,tl,hmro⟩:=F.called_set.mro;have made:=F.called_set.made;have sub:=F.called_set.sub;have u1:=F.called_set.notType;have u2:=F.called_set.canCreate;have u3:=F.typeCall_set_1 (.ref l);refine A1l (A13 ?_);show Zb _ _ (callAny (.type "set") _) _ _ _;refine ZZ ⟨Code.quiet_builtin _ (by decide +kernel),Zo F.entry_type_call ?_⟩;rw[Around.under_plain (A15 "set" [.ref l] []) rfl]
 repeat (any_goals (first | assumption | wp_step))
 refine A03 (UP (.ref l) (E:=E) (Q₁:=λobj s₁=>obj = .ref s.heap.objs.size/\s₁={s with heap:=s.heap.push (Ax w)}) ⟨rfl,rfl⟩) λr s₁ hr=>?_;cases r with
 | error e=>exact hr
 | ok fl=>
   cases fl with
   | ret obj=>
     obtain⟨rfl,rfl⟩:=hr;have gS:(s.heap.push (Ax w)).get? s.heap.objs.size=some (Ax w):=W2 _ rfl;have hT:Shared.TypeIs {s with heap:=s.heap.push (Ax w)} (.ref s.heap.objs.size) "set":=⟨_,gS,rfl⟩
     have u4:=F.called_set.init.lookup;have u5:=F.called_set.init.bind (.ref s.heap.objs.size)
     repeat (any_goals (first | assumption | wp_step))
     refine A03 (A0e (R:=wants (λr s₂=>r = .none/\∃ h' tk,s₂={s with heap:=h',toks:=tk}/\SetX prog w h' s.heap.objs.size (A0j (λi=>ns.getD i 0) items.size)/\
      (∀ b o,b<s.heap.objs.size->s.heap.get? b=some o->h'.get? b=some o)) E) F.called_set.init.plain F.entry_set_init (A1C hT ?_)) λr₂ s₂ hr₂=>?_
     ·obtain⟨⟨cl,di,da,sl⟩,ol,cl',nl,da'⟩:=hl;simp only at cl' da';subst cl' da';have hol:(s.heap.push (Ax w)).get? l=some {cls := .type "tuple",dict:=di,data := .seq items nl,slots:=sl}:=Vr _ ol;have v1:=F.sub_tuple_set;have v2:=F.sub_tuple_frozenset;have v3:(Value.type "tuple" == Value.type "dict")=false:=by decide
      have hl1:(s.heap.push (Ax w)).IsTuple l items:=⟨_,hol,rfl,nl,rfl⟩
      unfold Builtin.«set.__init__» noKeywords Builtin.Frozenset.updateFrom;generalize hPI:pyIter=PI
      wp_walk
      subst hPI;refine A09 hl1 (ZV (A1d ?_));have lS:l<s.heap.objs.size:=Vy ol;have z1:(s.heap.push (Ax w)).objs.size=s.heap.objs.size+1:=Ws _ _;have lI:l≠(s.heap.push (Ax w)).objs.size:=by rw[z1];exact W3 (X7 lS)
      have hSf:s.heap.objs.size∉[(s.heap.push (Ax w)).objs.size,l]:=by
       rw[z1];intro z;rcases W4.mp z with z | z
       ·exact absurd z (W3 (Xk _))
       ·exact absurd (W1.mp z) (Yk lS)
      have hval:∀(i:Nat) (v:ZW),items[i]?=some v->∃ t,v = .int ((λi=>ns.getD i 0) i) t:=λi v hv=>IntsAre.int_at hi i v (by rw[X8];exact hv)
      refine UO ((Walks.tuple (by simp[hh]) _ l lI items).toS) s.heap.objs.size hSf (λi=>ns.getD i 0) hval hb items.size 0 _ (YL _)
       ⟨⟨_,W2 _ rfl,rfl,rfl⟩,hl1.push _⟩ ((Lh s.heap).keep λo e=>Vr _ e) λs' hm X'=>?_
      obtain⟨h',g',d',tk',os'⟩:=s';obtain rfl:g'=s.gens:=hm.gens;obtain rfl:d'=s.drawn:=hm.drawn;obtain rfl:os'=s.os:=hm.os;refine ZZ (ZZ ⟨rfl,h',tk',rfl,X',λb o hb e=>hm.heap b o (λz=>?_) (Vr _ (Vr _ e))⟩);rcases W4.mp z with z | z
      ·exact absurd z (W3 hb)
      ·have z':=W1.mp z;rw[z1]at z';exact absurd z' (W3 (X7 hb))
     ·cases r₂ with
      | error e=>exact hr₂
      | ok fl₂=>
        cases fl₂ with
        | ret r=>
          obtain⟨rfl,h',tk,rfl,X',hk'⟩:=hr₂
          repeat (any_goals (first | assumption | wp_step))
          exact h _ _ X' hk'
        | _=>exact hr₂.elim
   | _=>exact hr.elim
theorem SetX.kind{h:Heap}{a:ZY}{L:List Int}(x:SetX prog w h a L):h.SetOf (intKind prog w) a (λk=>decide (k∈L)) L.length:=by
 obtain⟨o,es,ep,t,ho,hx,hd,hel,hb,hf,hT,hp⟩:=x;refine⟨o,es,ep,t,ho,hx,hd,hel,λk=>?_,hb,hf,by rw[<-hp.length_eq];simp⟩;rw[dQ,<-hp.mem_iff,WU];constructor
 ·rintro⟨e,he,rfl⟩;obtain⟨⟨k,hk,_⟩,_⟩:=hel e he;exact⟨e,he,by rw[Cp hk];exact hk⟩
 ·rintro⟨e,he,hk⟩;exact⟨e,he,Cp hk⟩
end
section
variable{X:Cx}
noncomputable def Bo(ns:List Int):List Int:=A0j (λi=>ns.getD i 0) ns.length
theorem AV(ns:List Int)(k:Int):k∈Bo ns↔k∈ns:=by
 have e:=firstMet_any (λi=>ns.getD i 0) ns.length k
 have e2:(Vw ns.length).map (λi=>ns.getD i 0)=ns:=by
  apply Z4
  ·simp
  ·intro i h1 h2;simp[Vq h2]
 rw[e2]at e;have h1:(Bo ns).any (· == k)=true↔k∈Bo ns:=by simp
 have h2:ns.any (· == k)=true↔k∈ns:=by simp
 rw[<-h1,<-h2];unfold Bo;rw[e]
theorem Jt(hc:X.calm=true):CallR X (.type "set") (λxs H Q=>∃ p ns,xs=[.ref p]/\(SqL X.K H p (ns.map V.int)\/SqT X.K H p (ns.map V.int))/\ns.length<=900/\∀ l,H l=none->Q (.ref l) (upd H l (.set (λk=>decide (k∈ns)) (Bo ns).length))):=by
 intro pins s σ H xs us Q I r h;obtain⟨p,ns,rfl,hq,h9,q⟩:=h;obtain⟨u,rfl,rx⟩:=As r;cases rx
 have fin:∀(its:List ZW),Vals (ns.map V.int) its->∀(h':Heap) (tk:Nat),SetX X.prog X.w h' s.heap.objs.size (A0j (λi=>ns.getD i 0) its.toArray.size)->(∀ b o,b<s.heap.objs.size->s.heap.get? b=some o->h'.get? b=some o)->EP X pins σ Q (.ref s.heap.objs.size) {s with heap:=h',toks:=tk}:=by
  intro its r' h' tk hX hk;have hlen:=r'.length;rw[Vp]at hlen
  have hX:SetX X.prog X.w h' s.heap.objs.size (Bo ns):=by
   have e:its.toArray.size=ns.length:=by rw[Vu,hlen]
   rw[e]at hX;exact hX
  have k1:∀ b o,s.heap.get? b=some o->h'.get? b=some o:=λb o e=>hk b o (Vy e) e
  have so:ObjOk X.prog X.w (upd H s.heap.objs.size (.set (λk=>decide (k∈ns)) (Bo ns).length)) h' s.heap.objs.size (.set (λk=>decide (k∈ns)) (Bo ns).length):=by
   have:=hX.kind;rw[show(λk=>decide (k∈Bo ns))=λk=>decide (k∈ns) from funext λk=>by rw[decide_eq_decide];exact AV ns k]at this;exact this
  exact⟨.ref s.heap.objs.size,_,I.laid (t':=tk) k1 (W0 _) so,rfl,q _ (I.hok.fresh (W0 _))⟩
 rcases hq with hq | hq
 ·obtain⟨its,r',pl,hz⟩:=I.list hq;have hlen:=r'.length;rw[Vp]at hlen;exact QK (items:=its.toArray) (ns:=ns) (I.ok.hd hc) pl.isList (by simpa using A7 r') (by simp only[Vu];show its.length+1<4096;omega) (fin its r')
 ·obtain⟨its,r',pl,hz⟩:=I.tuple hq;have hlen:=r'.length;rw[Vp]at hlen;exact M5 (items:=its.toArray) (ns:=ns) (I.ok.hd hc) pl (by simpa using A7 r') (by simp only[Vu];show its.length+1<4096;omega) (fin its r')
theorem M6:OpR X (Zl .In) (λx y H Q=>∃(k:Int) (p:ZY) (S:Int->Bool) (n:Nat),x = .int k/\y = .ref p/\H p=some (.set S n)/\Q (.bl (S k)) H):=by
 intro pins s σ H x y v u Q I rx ry h;obtain⟨k,p,S,n,rfl,rfl,hp,q⟩:=h;obtain⟨t,rfl⟩:=rx;cases ry;have hS:s.heap.SetOf (intKind X.prog X.w) p S n:=I.hok p _ hp;exact wpAny_inSet_of (k:=k) (A1O _ _ _ _) rfl hS ⟨.bl _,H,I.tok _,rfl,q⟩
end
open PySem PySem.Spec PyProof.Rows PySem.SeqAt
section
variable{X:Cx}
noncomputable def QN(K:Vn):R2:=λx y H Q=>∃ a t,x = .ref a/\y = .str t/\((∃ xs,SqL K H a xs)\/∃ xs,SqT K H a xs)/\Q (.bl false) H
theorem Of(hu:X.A.units<cLine):OpR X (Zl .Eq) (QN X.K):=by
 intro pins s σ H x y v u Q I rx ry h;obtain⟨a,t,rfl,rfl,h1,q⟩:=h;cases rx;obtain⟨tk,rfl⟩:=ry
 have e:Zb (Zc X.prog X.w) X.A (A0u .Eq (.ref a) (.str t tk)) (EP X pins σ Q) X.xe s:=by
  rcases h1 with⟨xs,h1⟩ | ⟨xs,h1⟩
  ·obtain⟨its,r1,p1,_⟩:=I.list h1;exact RcAt.list_str t tk p1.isList hu _ _ _ _ ⟨.bl false,H,I,rfl,q⟩
  ·obtain⟨its,r1,p1,_⟩:=I.tuple h1;exact RcAt.tuple_str (items:=its.toArray) t tk p1 hu _ _ _ _ ⟨.bl false,H,I,rfl,q⟩
 exact e
end
end L2
namespace Rf
open PySem L2
noncomputable def A9:SV->Bool
 | .non=>true | .bl _=>true | .int _=>true | .str _=>true | _=>false
noncomputable def toV:SV->V
 | .non => .non | .bl b => .bl b | .int i => .int i | .str x => .str x | _ => .non
noncomputable def eqF:SV->SV->Bool
 | .non,.non=>true
 | .bl a,.bl b=>a == b
 | .bl a,.int b=>(if a then 1 else 0) == b
 | .int a,.bl b=>a == (if b then 1 else 0)
 | .int a,.int b=>a == b
 | .str a,.str b=>a == b
 | _,_=>false
noncomputable def Dy(xs ys:List SV):Bool:=xs.length == ys.length&&(xs.zip ys).all λp=>eqF p.1 p.2
noncomputable def inS(x:SV)(xs:List SV):Bool:=xs.any λy=>eqF y x
section
variable{K:Vn}{as:List ZY}{H:Hp}
theorem Ia{x:SV}{v:V}(f:A9 x=true)(r:Rl K as H v x):v=toV x:=by
 cases x with
 | non=>exact rl_non.mp r
 | bl _=>exact rl_bl.mp r
 | int _=>exact rl_int.mp r
 | str _=>exact rl_str.mp r
 | _=>cases f
theorem B2:∀{xs:List SV} {vs:List V},xs.all A9=true->RlAll K as H vs xs->vs=xs.map toV
 | [],_,_,r=>rla_nil.mp r
 | x::xs,_,f,r=>by
   rw[Ww,Vo]at f;obtain⟨v,vs,rfl,r1,r2⟩:=rla_cons.mp r;rw[Ia f.1 r1,B2 f.2 r2];rfl
theorem Fe{x:SV}(f:A9 x=true):y9 (toV x)=true:=by cases x<;>first | rfl | cases f
theorem CV{xs:List SV}(f:xs.all A9=true):(xs.map toV).all y9=true:=by
 rw[W9]at f ⊢;intro v hv;obtain⟨x,hx,rfl⟩:=WU.mp hv;exact Fe (f x hx)
theorem Et{x y:SV}(fx:A9 x=true)(fy:A9 y=true):eqV (toV x) (toV y)=eqF x y:=by
 cases x<;>first | cases fx;done | (cases y<;>first | rfl | cases fy)
theorem Rt{x:SV}{xs:List SV}(fx:A9 x=true)(f:xs.all A9=true):inV (toV x) (xs.map toV)=inS x xs:=by
 unfold inV inS;rw[Yw];rw[W9]at f;rw[Wa,Xe,Xe];constructor
 ·rintro⟨y,hy,e⟩;exact⟨y,hy,by rw[<-Et (f y hy) fx];exact e⟩
 ·rintro⟨y,hy,e⟩;exact⟨y,hy,by show eqV (toV y) (toV x)=true;rw[Et (f y hy) fx];exact e⟩
theorem Og:∀{xs ys:List SV},xs.all A9=true->ys.all A9=true->An (xs.map toV) (ys.map toV)=Dy xs ys:=by
 intro xs ys fx fy;unfold An Dy;rw[Vp,Vp,List.zip_map,Yx]
 congr 1
 rw[Wa,W9,W9];rw[W9]at fx fy;constructor
 ·rintro h ⟨a,b⟩ hm;have:=h (a,b) hm;rw[<-Et (fx a (XJ hm).1) (fy b (XJ hm).2)];exact this
 ·rintro h ⟨a,b⟩ hm;have:=h (a,b) hm;show eqV (toV a) (toV b)=true;rw[Et (fx a (XJ hm).1) (fy b (XJ hm).2)];exact this
noncomputable def seqS:SV->Sto->Option (List SV)
 | .tup xs,_=>some xs
 | .ro xs,_=>some xs
 | .loc k,S=>match S[k]? with | some (.lst xs)=>some xs | _=>none
 | _,_=>none
theorem By{x:SV}{v:V}{S:Sto}{xs:List SV}(ok:Ok K as H S)(r:Rl K as H v x)(h:seqS x S=some xs):∃ a vs,v = .ref a/\(SqL K H a vs\/SqT K H a vs)/\RlAll K as H vs xs:=by
 cases x with
 | tup ys=>
   cases h;obtain⟨p,vs,rfl,hp,rr⟩:=rl_tup.mp r;exact⟨p,vs,rfl,.inr (SqT.of hp),rr⟩
 | ro ys=>
   cases h;obtain⟨p,vs,rfl,hp,rr⟩:=rl_ro.mp r;exact⟨p,vs,rfl,.inl hp.sq,rr⟩
 | loc k=>
   obtain⟨a,ea,rfl⟩:=rl_loc.mp r;unfold seqS at h;cases hs:S[k]? with
   | none=>simp only[hs]at h;cases h
   | some o=>
     cases o with
     | lst ys=>
       simp only[hs]at h;cases h;obtain⟨vs,h1,rr⟩:=ok.obj k _ a hs ea;exact⟨a,vs,rfl,.inl (SqL.of h1),rr⟩
     | iset _=>simp only[hs]at h;cases h
     | dtl _=>simp only[hs]at h;cases h
     | dtf _ _ _=>simp only[hs]at h;cases h
     | dtp _=>simp only[hs]at h;cases h
     | dct _=>simp only[hs]at h;cases h
     | dcf _ _ _=>simp only[hs]at h;cases h
     | tbl _ _=>simp only[hs]at h;cases h
 | _=>cases h
theorem v7{k:Nat}{v:V}{S:Sto}{xs:List SV}(ok:Ok K as H S)(r:Rl K as H v (.loc k))(h:S[k]?=some (.lst xs)):∃ a vs,v = .ref a/\as[k]?=some a/\H a=some (.lst vs)/\RlAll K as H vs xs:=by
 obtain⟨a,ea,rfl⟩:=rl_loc.mp r;obtain⟨vs,h1,rr⟩:=ok.obj k _ a h ea;exact⟨a,vs,rfl,ea,h1,rr⟩
end
noncomputable def M7:S2
 | .int i,.int j,S,Q=>Q (.int (i+j)) S
 | .loc k,.loc l,S,Q=>∃ xs ys,S[k]?=some (.lst xs)/\S[l]?=some (.lst ys)/\xs.length+ys.length<=big/\Q (.loc S.length) (S++[.lst (xs++ys)])
 | _,_,_,_=>False
noncomputable def HG(C:Int->Int->Prop)(g:Int->Int->SV):S2
 | .int i,.int j,S,Q=>C i j/\Q (g i j) S
 | _,_,_,_=>False
noncomputable def C9(g:Int->Int->SV):S2
 | .int i,.int j,S,Q=>Q (g i j) S
 | _,_,_,_=>False
noncomputable def M8:S2
 | .int i,.int j,S,Q=>CMul i j/\Q (.int (i * j)) S
 | .loc k,.int j,S,Q=>∃ xs,S[k]?=some (.lst xs)/\(-1000000<j/\j<1000000)/\xs.length * j.toNat<=big/\Q (.loc S.length) (S++[.lst (WL j.toNat xs).flatten])
 | _,_,_,_=>False
theorem Mono2.add:Mono2 M7:=λx y S P P' i h=>by
 unfold M7 at h ⊢
 split at h<;>first
  | exact i _ _ h
  | exact⟨h.1,i _ _ h.2⟩
  | (obtain⟨xs,ys,a,b,c,d⟩:=h;exact⟨xs,ys,a,b,c,i _ _ d⟩)
  | exact h.elim
theorem Mono2.int{C:Int->Int->Prop}{g:Int->Int->SV}:Mono2 (HG C g):=λx y S P P' i h=>by
 unfold HG at h ⊢;split at h
 ·exact⟨h.1,i _ _ h.2⟩
 ·exact h.elim
theorem Mono2.int0{g:Int->Int->SV}:Mono2 (C9 g):=λx y S P P' i h=>by
 unfold C9 at h ⊢;split at h
 ·exact i _ _ h
 ·exact h.elim
theorem Mono2.mul:Mono2 M8:=λx y S P P' i h=>by
 unfold M8 at h ⊢;split at h
 ·exact⟨h.1,i _ _ h.2⟩
 ·obtain⟨xs,a,b,c,d⟩:=h;exact⟨xs,a,b,c,i _ _ d⟩
 ·exact h.elim
section
variable{K:Vn}
theorem Post.here{as:List ZY}{H:Hp}{Q:VK}{x:SV}{S:Sto}{v:V}(h:Post K as H Q x S)(ok:Ok K as H S)(r:Rl K as H v x):Q v H:=h as H v (Go.refl _ _) ok r
theorem Eu{C:Int->Int->Prop}{g:Int->Int->SV}{g':Int->Int->V}(hg:∀ as H i j,Rl K as H (g' i j) (g i j)):Bx K (HG C g) (rI C g'):=λas H S x y v u Q ok rx ry h=>by
 unfold HG at h;split at h
 ·rw[rl_int]at rx ry;exact⟨_,_,rx,ry,h.1,h.2.here ok (hg _ _ _ _)⟩
 ·exact h.elim
theorem BR{g:Int->Int->SV}{g':Int->Int->V}(hg:∀ as H i j,Rl K as H (g' i j) (g i j)):Bx K (C9 g) (rI0 g'):=λas H S x y v u Q ok rx ry h=>by
 unfold C9 at h;split at h
 ·rw[rl_int]at rx ry;exact⟨_,_,rx,ry,h.here ok (hg _ _ _ _)⟩
 ·exact h.elim
noncomputable def Ub(K:Vn):R2:=λx y H Q=>(rI0 λi j => .int (i+j)) x y H Q\/UF x y H Q
theorem Oh{X:Cx}:OpR X (A0i .Add) (Ub X.K):=op_add.or RV
theorem Oi:Bx K M7 (Ub K):=λas H S x y v u Q ok rx ry h=>by
 unfold M7 at h;split at h
 ·rw[rl_int]at rx ry;exact .inl ⟨_,_,rx,ry,h.here ok (rl_int.mpr rfl)⟩
 ·obtain⟨xs,ys,h1,h2,h3,h4⟩:=h;obtain⟨a,vs,rfl,_,ha,ra⟩:=v7 ok rx h1;obtain⟨b,us,rfl,_,hb,rb⟩:=v7 ok ry h2;exact(.inr (⟨a,b,vs,us,rfl,rfl,ha,hb,by rw[ra.length,rb.length];exact B1 h3,AL ok (ra.append rb) h4⟩))
 ·exact h.elim
theorem RlAll.rep{as:List ZY}{H:Hp}{vs:List V}{xs:List SV}(h:RlAll K as H vs xs):∀ n,RlAll K as H (WL n vs).flatten (WL n xs).flatten
 | 0=>by simpa using RlAll.nil
 | n+1=>by
   rw[Wu,Wu,XI,XI];exact h.append (RlAll.rep h n)
theorem Oj:Bx K M8 (λx y H Q=>(rI CMul λi j => .int (i * j)) x y H Q\/UG x y H Q):=λas H S x y v u Q ok rx ry h=>by
 unfold M8 at h;split at h
 ·rw[rl_int]at rx ry;exact .inl ⟨_,_,rx,ry,h.1,h.2.here ok (rl_int.mpr rfl)⟩
 ·rename_i k j;obtain⟨xs,h1,h2,h3,h4⟩:=h;obtain⟨a,vs,rfl,_,ha,ra⟩:=v7 ok rx h1;rw[rl_int]at ry;subst ry;exact .inr (⟨a,j,vs,rfl,rfl,ha,by omega,by omega,by rw[ra.length];exact B1 h3,AL ok (ra.rep _) h4⟩)
 ·exact h.elim
end
noncomputable def scS:SV->SV->Option Bool
 | .int i,.int j=>some (decide (i=j))
 | .bl i,.bl j=>some (decide (i=j))
 | .str i,.str j=>some (decide (i=j))
 | .non,.non=>some true
 | .non,.int _=>some false | .int _,.non=>some false | .non,.bl _=>some false | .bl _,.non=>some false | .non,.str _=>some false | .str _,.non=>some false
 | .int _,.str _=>some false | .str _,.int _=>some false | .bl _,.str _=>some false | .str _,.bl _=>some false
 | _,_=>none
noncomputable def HH:SV->SV->Sto->(Bool->Prop)->Prop
 | .loc k,.loc l,S,Q=>∃ xs ys,S[k]?=some (.lst xs)/\S[l]?=some (.lst ys)/\((xs.all A9=true/\ys.all A9=true)\/xs=[]\/ys=[])/\Q (Dy xs ys)
 | _,_,_,_=>False
noncomputable def Ju:SV->SV->Sto->(Bool->Prop)->Prop
 | .loc k,.loc l,S,Q=>∃ xs ys,S[k]?=some (.lst xs)/\S[l]?=some (.lst ys)/\((xs.all A9=true/\ys.all A9=true)\/xs=[]\/ys=[])/\Q (Dy xs ys)
 | .loc k,.str _,S,Q=>(∃ xs,S[k]?=some (.lst xs))/\Q false
 | .tup _,.str _,_,Q=>Q false
 | _,_,_,_=>False
theorem Ru{x y:SV}{S:Sto}{Q:Bool->Prop}(h:Ju x y S Q):HH x y S Q\/(∃ t,y = .str t/\((∃ k xs,x = .loc k/\S[k]?=some (.lst xs))\/∃ xs,x = .tup xs)/\Q false):=by
 unfold Ju at h;split at h
 ·exact .inl h
 ·obtain⟨⟨xs,e⟩,q⟩:=h;exact .inr ⟨_,rfl,.inl ⟨_,xs,rfl,e⟩,q⟩
 ·exact .inr ⟨_,rfl,.inr ⟨_,rfl⟩,h⟩
 ·exact h.elim
theorem Jv{x y:SV}{S:Sto}{P P':Bool->Prop}(i:∀ b,P b->P' b)(h:Ju x y S P):Ju x y S P':=by
 unfold Ju at h ⊢;split at h
 ·obtain⟨xs,ys,a,b,c,d⟩:=h;exact⟨xs,ys,a,b,c,i _ d⟩
 ·exact⟨h.1,i _ h.2⟩
 ·exact i _ h
 ·exact h.elim
noncomputable def sEq:S2:=λx y S Q=>match scS x y with | some b=>Q (.bl b) S | none=>Ju x y S λb=>Q (.bl b) S
noncomputable def sNe:S2:=λx y S Q=>match scS x y with | some b=>Q (.bl (!b)) S | none=>HH x y S λb=>Q (.bl (!b)) S
noncomputable def BG:SV->Sto->Option (List Int)
 | .loc k,S=>match S[k]? with | some (.iset ms)=>some ms | _=>none
 | _,_=>none
noncomputable def sIn(neg:Bool):S2:=λx y S Q=>match BG y S with
 | some ms=>∃ i,x = .int i/\neg=false/\Q (.bl (decide (i∈ms))) S
 | none=>A9 x=true/\∃ ys,seqS y S=some ys/\ys.all A9=true/\Q (.bl (if neg then !inS x ys else inS x ys)) S
noncomputable def CA:SV->Bool
 | .non=>true
 | _=>false
noncomputable def M9(neg:Bool):S2:=λx y S Q=>(y = .non/\Q (.bl (if neg then !CA x else CA x)) S)\/∃ c d,neg=true/\x = .bl c/\y = .bl d/\Q (.bl (c != d)) S
theorem Jw{x y:SV}{S:Sto}{P P':Bool->Prop}(i:∀ b,P b->P' b)(h:HH x y S P):HH x y S P':=by
 unfold HH at h ⊢;split at h
 ·obtain⟨xs,ys,a,b,c,d⟩:=h;exact⟨xs,ys,a,b,c,i _ d⟩
 ·exact h.elim
theorem Mono2.eq:Mono2 sEq:=λx y S P P' i h=>by
 unfold sEq at h ⊢;split at h
 ·exact i _ _ h
 ·exact Jv (λ_=>i _ _) h
theorem Mono2.ne:Mono2 sNe:=λx y S P P' i h=>by
 unfold sNe at h ⊢;split at h
 ·exact i _ _ h
 ·exact Jw (λ_=>i _ _) h
theorem Mono2.in'{n:Bool}:Mono2 (sIn n):=λx y S P P' i h=>by
 unfold sIn at h ⊢;split at h
 ·obtain⟨j,e,z,h⟩:=h;exact⟨j,e,z,i _ _ h⟩
 ·obtain⟨f,ys,a,b,h⟩:=h;exact⟨f,ys,a,b,i _ _ h⟩
theorem Mono2.isN{n:Bool}:Mono2 (M9 n):=λx y S P P' i h=>h.imp (λh=>⟨h.1,i _ _ h.2⟩) λ⟨c,d,z,a,b,h⟩=>⟨c,d,z,a,b,i _ _ h⟩
section
variable{K:Vn}
theorem MA{as:List ZY}{H:Hp}{x y:SV}{v u:V}{b:Bool}(e:scS x y=some b)(rx:Rl K as H v x)(ry:Rl K as H u y):RH v u=true/\decide (v=u)=b:=by
 cases x<;>first | (unfold scS at e;cases e;done) | (cases y<;>first | (unfold scS at e;cases e;done) | (simp only[rl_non,rl_bl,rl_int,rl_str]at rx ry;subst rx ry;unfold scS at e;injection e with e;subst e;exact⟨rfl,by simp⟩))
theorem Ib{as:List ZY}{H:Hp}{S:Sto}{x y:SV}{v u:V}{Q:Bool->Prop}(ok:Ok K as H S)(rx:Rl K as H v x)(ry:Rl K as H u y)(h:HH x y S Q):∃ a b xs ys,v = .ref a/\u = .ref b/\SqL K H a xs/\SqL K H b ys/\((xs.all y9=true/\ys.all y9=true)\/xs=[]\/ys=[])/\Q (An xs ys):=by
 unfold HH at h;split at h
 ·obtain⟨xs,ys,h1,h2,h3,h4⟩:=h;obtain⟨a,vs,rfl,_,ha,ra⟩:=v7 ok rx h1;obtain⟨b,us,rfl,_,hb,rb⟩:=v7 ok ry h2;refine⟨a,b,vs,us,rfl,rfl,SqL.of ha,SqL.of hb,?_,?_⟩
  ·rcases h3 with⟨f1,f2⟩ | h3 | h3
   ·rw[B2 f1 ra,B2 f2 rb];exact .inl ⟨CV f1,CV f2⟩
   ·subst h3;exact .inr (.inl (rla_nil.mp ra))
   ·subst h3;exact .inr (.inr (rla_nil.mp rb))
  ·have e:An vs us=Dy xs ys:=by
    rcases h3 with⟨f1,f2⟩ | h3 | h3
    ·rw[B2 f1 ra,B2 f2 rb,Og f1 f2]
    ·subst h3;have:=rla_nil.mp ra;subst this;have l:=rb.length;unfold An Dy;simp[l]
    ·subst h3;have:=rla_nil.mp rb;subst this;have l:=ra.length;unfold An Dy;simp[l]
   rw[e];exact h4
 ·exact h.elim
theorem Rv:Bx K sEq (λx y H Q=>rEq x y H Q\/(OO K false x y H Q\/QN K x y H Q)):=λas H S x y v u Q ok rx ry h=>by
 unfold sEq at h;split at h
 ·rename_i b e;obtain⟨h1,h2⟩:=MA e rx ry;exact .inl ⟨h1,by rw[h2];exact h.here ok (rl_bl.mpr rfl)⟩
 ·rcases Ru h with h | ⟨t,rfl,h,q⟩
  ·obtain⟨a,b,xs,ys,e1,e2,h1,h2,h3,h4⟩:=Ib ok rx ry h;exact .inr (.inl ⟨a,b,xs,ys,e1,e2,h1,h2,h3,h4.here ok (rl_bl.mpr rfl)⟩)
  ·rw[rl_str]at ry;subst ry;rcases h with⟨k,xs,rfl,hk⟩ | ⟨xs,rfl⟩
   ·obtain⟨a,vs,rfl,_,ha,_⟩:=v7 ok rx hk;exact .inr (.inr ⟨a,t,rfl,rfl,.inl ⟨vs,SqL.of ha⟩,Post.here q ok (rl_bl.mpr rfl)⟩)
   ·obtain⟨p,vs,rfl,hp,_⟩:=rl_tup.mp rx;exact .inr (.inr ⟨p,t,rfl,rfl,.inr ⟨vs,SqT.of hp⟩,Post.here q ok (rl_bl.mpr rfl)⟩)
theorem Rw:Bx K sNe (λx y H Q=>rNe x y H Q\/OO K true x y H Q):=λas H S x y v u Q ok rx ry h=>by
 unfold sNe at h;split at h
 ·rename_i b e;obtain⟨h1,h2⟩:=MA e rx ry;exact .inl ⟨h1,by rw[h2];exact h.here ok (rl_bl.mpr rfl)⟩
 ·obtain⟨a,b,xs,ys,e1,e2,h1,h2,h3,h4⟩:=Ib ok rx ry h;exact .inr ⟨a,b,xs,ys,e1,e2,h1,h2,h3,h4.here ok (rl_bl.mpr rfl)⟩
theorem Ol{as:List ZY}{H:Hp}{S:Sto}{y:SV}{u:V}{ms:List Int}(ok:Ok K as H S)(r:Rl K as H u y)(h:BG y S=some ms):∃ a k F,y = .loc k/\u = .ref a/\as[k]?=some a/\S[k]?=some (.iset ms)/\H a=some (.set F ms.length)/\∀ k,F k=decide (k∈ms):=by
 cases y with
 | loc k=>
   obtain⟨a,ea,rfl⟩:=rl_loc.mp r;unfold BG at h;cases hs:S[k]? with
   | none=>simp only[hs]at h;cases h
   | some o=>
     cases o with
     | lst ys=>simp only[hs]at h;cases h
     | iset ns=>
       simp only[hs]at h;cases h;obtain⟨F,h1,h2⟩:=ok.obj k _ a hs ea;exact⟨a,k,F,rfl,rfl,ea,hs,h1,h2⟩
     | dtl _=>simp only[hs]at h;cases h
     | dtf _ _ _=>simp only[hs]at h;cases h
     | dtp _=>simp only[hs]at h;cases h
     | dct _=>simp only[hs]at h;cases h
     | dcf _ _ _=>simp only[hs]at h;cases h
     | tbl _ _=>simp only[hs]at h;cases h
 | _=>cases h
noncomputable def Rx(K:Vn)(neg:Bool):R2:=λx y H Q=>rIn K neg x y H Q\/(neg=false/\∃(k:Int) (p:ZY) (S:Int->Bool) (n:Nat),x = .int k/\y = .ref p/\H p=some (.set S n)/\Q (.bl (S k)) H)
theorem Ry{X:Cx}:OpR X (Zl .In) (Rx X.K false):=λpins s σ H x y v u Q I rx ry h=>h.elim (JW pins s σ H x y v u Q I rx ry) λh=>M6 pins s σ H x y v u Q I rx ry h.2
theorem Jx{X:Cx}:OpR X (Zl .NotIn) (Rx X.K true):=λpins s σ H x y v u Q I rx ry h=>h.elim (Ei pins s σ H x y v u Q I rx ry) λh=>by cases h.1
theorem MB{n:Bool}:Bx K (sIn n) (Rx K n):=λas H S x y v u Q ok rx ry h=>by
 unfold sIn at h;split at h
 ·rename_i ms hi;obtain⟨i,rfl,rfl,h⟩:=h;obtain⟨a,k,F,rfl,rfl,ea,es,hF,hk⟩:=Ol ok ry hi;rw[rl_int]at rx;exact .inr ⟨rfl,i,a,F,_,rx,rfl,hF,by rw[hk];exact h.here ok (rl_bl.mpr rfl)⟩
 ·obtain⟨f,ys,hs,fs,h⟩:=h;obtain⟨a,vs,rfl,hq,rr⟩:=By ok ry hs;have ev:=Ia f rx;have es:=B2 fs rr;subst ev es;exact .inl ⟨a,_,rfl,hq,Fe f,CV fs,by rw[Rt f fs];exact h.here ok (rl_bl.mpr rfl)⟩
theorem Ff{as:List ZY}{H:Hp}{x:SV}{v:V}(r:Rl K as H v x):decide (v=V.non)=CA x:=by
 cases x with
 | non=>rw[rl_non.mp r];rfl
 | bl _=>rw[rl_bl.mp r];rfl
 | int _=>rw[rl_int.mp r];rfl
 | str _=>rw[rl_str.mp r];rfl
 | tup _=>obtain⟨p,vs,rfl,_⟩:=rl_tup.mp r;rfl
 | loc _=>obtain⟨p,_,rfl⟩:=rl_loc.mp r;rfl
 | ro _=>obtain⟨p,vs,rfl,_⟩:=rl_ro.mp r;rfl
 | ty _=>rw[rl_ty.mp r];rfl
 | exc _=>obtain⟨p,rfl,_⟩:=rl_exc.mp r;rfl
theorem Om:Bx K (M9 false) (λx y H Q=>y = .non/\Q (.bl (decide (x = .non))) H):=λas H S x y v u Q ok rx ry h=>by
 rcases h with⟨e,h⟩ | ⟨c,d,z,_⟩
 ·subst e;exact⟨rl_non.mp ry,by rw[Ff rx];exact h.here ok (rl_bl.mpr rfl)⟩
 ·cases z
theorem MC:Bx K (M9 true) (λx y H Q=>(y = .non/\Q (.bl (!decide (x = .non))) H)\/∃ c d,x = .bl c/\y = .bl d/\Q (.bl (c != d)) H):=λas H S x y v u Q ok rx ry h=>by
 rcases h with⟨e,h⟩ | ⟨c,d,_,rfl,rfl,h⟩
 ·subst e;exact .inl ⟨rl_non.mp ry,by rw[Ff rx];exact h.here ok (rl_bl.mpr rfl)⟩
 ·exact .inr ⟨c,d,rl_bl.mp rx,rl_bl.mp ry,h.here ok (rl_bl.mpr rfl)⟩
end
noncomputable def sIx:S2
 | x,.int i,S,Q=>∃ xs y,seqS x S=some xs/\atI xs i=some y/\Q y S
 | _,_,_,_=>False
theorem Mono2.ix:Mono2 sIx:=λx y S P P' i h=>by
 unfold sIx at h ⊢;split at h
 ·obtain⟨xs,z,a,b,c⟩:=h;exact⟨xs,z,a,b,i _ _ c⟩
 ·exact h.elim
section
variable{K:Vn}
theorem RlAll.atI{as:List ZY}{H:Hp}{xs:List SV}{vs:List V}{i:Int}{y:SV}(h:RlAll K as H vs xs)(e:L2.atI xs i=some y):∃ v,L2.atI vs i=some v/\Rl K as H v y:=by
 unfold L2.atI at e ⊢;rw[h.length];cases hj:ixN xs.length i with
 | none=>rw[hj]at e;cases e
 | some j=>
   rw[hj]at e;exact h.get e
theorem Rz:Bx K sIx (λx y H Q=>UC K x y H Q\/UD K x y H Q):=λas H S x y v u Q ok rx ry h=>by
 unfold sIx at h;split at h
 ·obtain⟨xs,z,h1,h2,h3⟩:=h;obtain⟨a,vs,rfl,hq,rr⟩:=By ok rx h1;obtain⟨w,hw,rw'⟩:=rr.atI h2;rw[rl_int]at ry;rcases hq with hq | hq
  ·exact .inl ⟨a,vs,_,w,rfl,ry,hq,hw,h3.here ok rw'⟩
  ·exact .inr ⟨a,vs,_,w,rfl,ry,hq,hw,h3.here ok rw'⟩
 ·exact h.elim
end
end Rf
namespace L2
open PySem PySem.Spec PyProof.Rows
section
variable{prog:Zd}{w:Zf}{κ:Type}[DecidableEq κ]{knd:HeapKind prog w κ}{A:Zj}{E:ZW->ZX->Prop}{s:ZX}
theorem HI{d a:ZY}{o:Obj}{es:Array A1F}{ep:Nat}{xs:List (κ×ZY×ZW)}{k:κ}{v:ZW}(hkey:knd.is s.heap k a)(ho:s.heap.get? d=some o)(hc:o.ExactDict)(hd:o.data = .dict es ep)(he:es.toList=xs.map (A1K knd))(his:∀ x∈xs,knd.is s.heap x.1 x.2.1)(hn:(xs.map (·.1)).Nodup)
 (hno:atKey xs k=none) (hnot:k∉xs.map (·.1)):(s.heap.update d (Obj.mapDictKeys (·.push ⟨knd.hash k,.ref a,v⟩))).DictOfH knd d (storedH xs k a v):=by
 have same:WR d s.heap (s.heap.update d (Obj.mapDictKeys (·.push ⟨knd.hash k,.ref a,v⟩))):=WR.update ..;rw[storedH_new hno];refine⟨_,_,ep+1,Wc _ ho (Obj.isFreed_of_dict (Obj.data_mapDictKeys hd _)),hc.mapDictKeys _,Obj.data_mapDictKeys hd _,by simp[he,A1K],λx hx=>?_,?_⟩
 ·have hx':x∈xs\/x=(k,a,v):=by simpa using hx
  rcases hx' with hx' | rfl
  ·exact knd.keeps (his x hx') ho hd same
  ·exact knd.keeps hkey ho hd same
 ·rw[WB];exact XZ.mpr ⟨hn,by simp,λx hx y hy z=>hnot (by simp at hy;subst hy;rw[<-z];exact hx)⟩
theorem MD{d a:ZY}{xs:List (κ×ZY×ZW)}{k:κ}{v:ZW}{Q:ZW->ZX->Prop}(hu:knd.room A)(hkey:knd.is s.heap k a)(hm:s.heap.DictOfH knd d xs)
 (h1:∀ p,atKey xs k=some p->∀ tk,Q p.2 {s with toks:=tk})
 (h2:atKey xs k=none->∀ h' tk,h'.DictOfH knd d (storedH xs k a v)->WR d s.heap h'->Q v {s with heap:=h',toks:=tk}) (hsz:xs.length<=Ze):Zb (Zc prog w) A (A1e d (.ref a) v) Q E s:=by
 obtain⟨o,es,ep,ho,hc,hd,he,his,hn⟩:=id hm;unfold A1e
 try with_reducible refine Zm ?_
 refine ZV (knd.pyHash hu hkey (ZV (wpAny_dictFind_heap (s:={s with toks:=s.toks+knd.draws k}) hu hkey ho hd he his hn (λhno=>?_) (λj p hj=>?_))))
 ·have e0:=atKey_none_of_get hno;refine ZV (A08 (ZV (wpAny_updateDictKeys (hz:=by have e:=size_of_entries he;omega) (s:={s with toks:=s.toks+knd.draws k}) ho hd (ZZ ?_))));exact h2 e0 _ _ (HI hkey ho hc hd he his hn e0 (not_mem_keys_of_get hno)) (WR.update ..)
 ·refine ZV (wpAny_dictEntries (s:={s with toks:=s.toks+knd.draws k}) ho hd ?_);rw[entry_at he j,hj];exact ZV (A08 (ZZ (h1 p (atKey_of_get hn hj) _)))
theorem DG(d a:ZY)(hd:(d == A05)=false)(v:ZW):
 MeetsIn prog w (Builtin.«dict.setdefault» ⟨[.ref d,.ref a,v],[]⟩) (λA R s=>knd.room A.in1/\∃ k xs,knd.is s.heap k a/\s.heap.DictOfH knd d xs/\xs.length<=Ze/\s.TypeIs (.ref d) "dict"/\
  (∀ p,atKey xs k=some p->∀ tk,R (.ok (.ret p.2)) {s with toks:=tk})/\
  (atKey xs k=none->∀ h' tk,h'.DictOfH knd d (storedH xs k a v)->WR d s.heap h'->R (.ok (.ret v)) {s with heap:=h',toks:=tk})):=
 .of_wp λA R s ⟨hu,k,xs,hkey,hm,hz,ht,h1,h2⟩=>by
  unfold Builtin.«dict.setdefault»;refine ZV ?_;unfold Builtin.Dict.keyAndDefault;refine ZV (wpAny_notOrdered_dict ht ?_);refine ZZ ?_;show Zb _ _ (if (d == A05)=true then _ else (A1e d (.ref a) v >>= _)) _ _ s;rw[hd];rw[iG Vz];exact ZV (MD hu hkey hm (λp e tk=>ZZ ⟨p.2,rfl,h1 p e tk⟩) (λe h' tk m' b'=>ZZ ⟨v,rfl,h2 e h' tk m' b'⟩) hz)
end
section
variable{X:Cx}{o e f:Expr}{apos cpos:Pos}{td ty tx:TE}
noncomputable def Uc(td ty tx:TE):TE:=λσ H Q=>td σ H λx H1=>∃ a,x = .ref a/\IsD H1 a/\ty σ H1 λy H2=>tx σ H2 λz H3=>∃ kvs k b,y = .ref b/\H3 a=some (.dT kvs)/\H3 b=some (.tup (k.map kV))/\kvs.length<Ze/\
 (∀ v,AK kvs k=some v->Q v H3)/\(AK kvs k=none->Q z (upd H3 a (.dT (BO kvs k z))))
theorem Oo(hu:X.A.units+1<cLine)(ho:PE X o td)(he:PE X e ty)(hf:PE X f tx)(m:M2 X o "setdefault" apos e f cpos):PE X (.Call (.Attribute o "setdefault" apos) [e,f] [] cpos) (Uc td ty tx):=by
 intro pins s σ H Q I h;refine wpAny_Call_method m.base m.few m.line PySem.F.plainAttrs_dict PySem.F.slot_dict_setdefault PySem.F.type_dict_setdefault (thn (ho pins s σ H _ I h) λu s1 ⟨x,H1,I1,rx,a,ex,d,q1⟩=>?_);subst ex;obtain rfl:u=Value.ref a:=rx;obtain⟨t1,t2,_⟩:=Rg I1 d;refine⟨t1,t2,?_⟩;rw[m.trees]
 refine Calls.callWith_builtin rfl (Calls.evalArgs_plain (Calls.spliced_cons (thn (he pins s1 σ H1 _ I1 q1) λiv s2 ⟨y,H2,I2,ry,q2⟩=>
  Calls.spliced_cons (thn (hf pins s2 σ H2 _ I2 q2) λfv s3 ⟨z,H3,I3,rz,kvs,k,b,ey,ha,hb,hz,qs,qn⟩=>Calls.spliced_nil ?_))))
 subst ey;cases ry;obtain⟨hl,hd,xs,rel,dd⟩:=UM I3.hok ha;have hxl:xs.length<=Ze:=by rw[<-Paired.length rel];exact hl
 refine call_meetsIn PySem.F.slot_dict_setdefault dd.typeIs PySem.F.entry_dict_setdefault (PySem.F.args_dict_setdefault_3 _ _ _) (DG (knd:=A0P (v0 X.prog X.w)) a b hd fv) ⟨tupleKind_room_in1 hu,k,xs,LZ I3.hok hb,dd,hxl,dd.typeIs,λp e tk=>?_,λe h' tk dd' hs=>?_⟩
 ·have rv:=rel.val k;rw[e]at rv;cases hv:AK kvs k with
  | none=>rw[hv]at rv;exact rv.elim
  | some v=>rw[hv]at rv;exact⟨v,H3,I3.tok tk,rv,qs v hv⟩
 ·have hv:AK kvs k=none:=by
   have rv:=rel.val k;rw[e]at rv;cases hv:AK kvs k with
   | none=>rfl
   | some v=>rw[hv]at rv;exact rv.elim
  refine⟨z,_,?_,rz,qn hv⟩;obtain⟨q,es,ep,hq,h2,h3,h4,_,h5⟩:=dd';have hl2:(BO kvs k z).length<=Ze:=by have:=FY kvs k z;omega
  refine OP I3 (by rw[ha];exact True.intro) hs ⟨q,hq⟩ ⟨hl2,hd,_,(rel.put k hb rz).keeps λc ys ec=>?_,q,es,ep,hq,h2,h3,h4,h5⟩;rw[c9 (Q7 ec ha (λz=>nomatch z))];exact ec
end
end L2
namespace Rf
open PySem L2
inductive BI where
 | len | abs | min | max | int | list | tuple | all | any | sorted | isi | str | repr
 deriving DecidableEq
noncomputable def BI.name:BI->Str
 | .len=>"len" | .abs=>"abs" | .min=>"min" | .max=>"max" | .int=>"int" | .list=>"list" | .tuple=>"tuple" | .all=>"all" | .any=>"any" | .sorted=>"sorted" | .isi=>"isinstance" | .str=>"str" | .repr=>"repr"
noncomputable def blS:List SV->Option (List Bool)
 | []=>some []
 | .bl b::xs=>(blS xs).map (b::·)
 | _::_=>none
noncomputable def Fg:List SV->Option (List Int)
 | []=>some []
 | .int i::xs=>(Fg xs).map (i::·)
 | _::_=>none
noncomputable def tyS:SV->Sto->Option TyN
 | .non,_=>some .none
 | .bl _,_=>some .bool
 | .int _,_=>some .int
 | .str _,_=>some .str
 | .tup _,_=>some .tuple
 | .loc k,S=>match S[k]? with | some (.lst _)=>some .list | _=>none
 | _,_=>none
noncomputable def Fh:TyN->TyN->Bool
 | .bool,.int=>true
 | a,b=>decide (a=b)
noncomputable def Jy:List SV->Option (List TyN)
 | []=>some []
 | .ty t::xs=>(Jy xs).map (t::·)
 | _::_=>none
noncomputable def a0(f:Sto->QE->Prop):Sn:=λxs S Q=>match xs with | []=>f S Q | _=>False
noncomputable def a1(f:S1):Sn:=λxs S Q=>match xs with | [x]=>f x S Q | _=>False
noncomputable def a2(f:S2):Sn:=λxs S Q=>match xs with | [x,y]=>f x y S Q | _=>False
noncomputable def oI(f:Int->Sto->QE->Prop):S1:=λx S Q=>match x with | .int i=>f i S Q | _=>False
theorem DH{f:S1}{xs:List SV}{S:Sto}{Q:QE}(h:a1 f xs S Q):∃ x,xs=[x]/\f x S Q:=match xs,h with | [x],h=>⟨x,rfl,h⟩
theorem ME{f:S2}{xs:List SV}{S:Sto}{Q:QE}(h:a2 f xs S Q):∃ x y,xs=[x,y]/\f x y S Q:=match xs,h with | [x,y],h=>⟨x,y,rfl,h⟩
theorem Cj{f:Int->Sto->QE->Prop}{x:SV}{S:Sto}{Q:QE}(h:oI f x S Q):∃ i,x = .int i/\f i S Q:=match x,h with | .int i,h=>⟨i,rfl,h⟩
theorem AH{f:S1}(m:Fc f):MonoN (a1 f):=λxs S P P' i h=>by
 replace h:=DH h;obtain⟨x,rfl,h⟩:=h;exact m x S P P' i h
theorem Cr{f:S2}(m:Mono2 f):MonoN (a2 f):=λxs S P P' i h=>by
 replace h:=ME h;obtain⟨x,y,rfl,h⟩:=h;exact m x y S P P' i h
theorem Op{f:Int->Sto->QE->Prop}(m:∀ k S P P',(∀ x S',P x S'->P' x S')->f k S P->f k S P'):Fc (oI f):=λx S P P' i h=>by
 replace h:=Cj h;obtain⟨k,rfl,h⟩:=h;exact m k S P P' i h
noncomputable def Ud:S1
 | .int i,S,Q=>Q (.int i) S
 | .bl b,S,Q=>Q (.int (if b then 1 else 0)) S
 | _,_,_=>False
theorem QO{x:SV}{S:Sto}{Q:QE}(h:Ud x S Q):(∃ i,x = .int i/\Q (.int i) S)\/∃ b,x = .bl b/\Q (.int (if b then 1 else 0)) S:=match x,h with
 | .int i,h => .inl ⟨i,rfl,h⟩
 | .bl b,h => .inr ⟨b,rfl,h⟩
noncomputable def Ue:S2:=λx y S Q=>match y with
 | .ty t=>∃ a,t ≠ .none/\tyS x S=some a/\Q (.bl (Fh a t)) S
 | .tup ts=>∃ a bs,TyN.none∉bs/\tyS x S=some a/\Jy ts=some bs/\Q (.bl (bs.any (Fh a))) S
 | _=>False
theorem QP{x y:SV}{S:Sto}{Q:QE}(h:Ue x y S Q):(∃ t a,y = .ty t/\t ≠ .none/\tyS x S=some a/\Q (.bl (Fh a t)) S)\/∃ ts a bs,y = .tup ts/\TyN.none∉bs/\tyS x S=some a/\Jy ts=some bs/\Q (.bl (bs.any (Fh a))) S:=match y,h with
 | .ty t,⟨a,h⟩ => .inl ⟨t,a,rfl,h⟩
 | .tup ts,⟨a,bs,h⟩ => .inr ⟨ts,a,bs,rfl,h⟩
noncomputable def VU:S1:=λx S Q=>∃ xs,seqS x S=some xs/\Q (.int xs.length) S
noncomputable def VV:S1:=oI λi S Q=>Q (.int (if i<0 then -i else i)) S
noncomputable def VW:S2:=λx y S Q=>oI (λi S Q=>oI (λj S Q=>Q (.int (if j<i then j else i)) S) y S Q) x S Q
noncomputable def VX:S2:=λx y S Q=>oI (λi S Q=>oI (λj S Q=>Q (.int (if j>i then j else i)) S) y S Q) x S Q
noncomputable def Uf:S1:=λx S Q=>∃ xs,seqS x S=some xs/\Q (.loc S.length) (S++[.lst xs])
noncomputable def S8:S1:=λx S Q=>∃ xs,seqS x S=some xs/\Q (.tup xs) S
noncomputable def VY:S1:=λx S Q=>∃ xs bs,x ≠ .tup xs/\seqS x S=some xs/\blS xs=some bs/\Q (.bl (bs.all id)) S
noncomputable def sBi:BI->Sn
 | .len=>a1 VU
 | .abs=>a1 VV
 | .min=>a2 VW
 | .max=>a2 VX
 | .int=>a1 Ud
 | .list=>a1 Uf
 | .tuple=>a1 S8
 | .all=>a1 VY
 | .any=>λ_ _ _=>False
 | .sorted=>λ_ _ _=>False
 | .isi=>a2 Ue
 | .str=>λ_ _ _=>False
 | .repr=>λ_ _ _=>False
theorem MonoN.bi:∀{b:BI},MonoN (sBi b)
 | .len=>AH λ_ _ _ _ i ⟨a,c,d⟩=>⟨a,c,i _ _ d⟩
 | .abs=>AH (Op λ_ _ _ _ i h=>i _ _ h)
 | .min=>Cr λx y S P P' i h=>by
   replace h:=Cj h;obtain⟨k,rfl,h1⟩:=h;obtain⟨l,rfl,h2⟩:=Cj h1;exact i _ _ h2
 | .max=>Cr λx y S P P' i h=>by
   replace h:=Cj h;obtain⟨k,rfl,h1⟩:=h;obtain⟨l,rfl,h2⟩:=Cj h1;exact i _ _ h2
 | .int=>AH λx S P P' i h=>by
   replace h:=QO h;rcases h with⟨k,rfl,h⟩ | ⟨b,rfl,h⟩
   ·exact i _ _ h
   ·exact i _ _ h
 | .list=>AH λ_ _ _ _ i ⟨a,c,d⟩=>⟨a,c,i _ _ d⟩
 | .tuple=>AH λ_ _ _ _ i ⟨a,c,d⟩=>⟨a,c,i _ _ d⟩
 | .all=>AH λ_ _ _ _ i ⟨a,b,c,d,e,f⟩=>⟨a,b,c,d,e,i _ _ f⟩
 | .any=>λ_ _ _ _ _ h=>h
 | .sorted=>λ_ _ _ _ _ h=>h
 | .isi=>Cr λx y S P P' i h=>by
   replace h:=QP h;rcases h with⟨t,a,rfl,h1,h2,h⟩ | ⟨ts,a,bs,rfl,h1,h2,h3,h⟩
   ·exact⟨a,h1,h2,i _ _ h⟩
   ·exact⟨a,bs,h1,h2,h3,i _ _ h⟩
 | .str=>λ_ _ _ _ _ h=>h
 | .repr=>λ_ _ _ _ _ h=>h
section
variable{K:Vn}{as:List ZY}{H:Hp}{S:Sto}
theorem MF:∀{xs:List SV} {bs:List Bool} {vs:List V},blS xs=some bs->RlAll K as H vs xs->vs=bs.map V.bl
 | [],_,_,e,r=>by cases e;exact rla_nil.mp r
 | .bl b::xs,_,_,e,r=>by
   obtain⟨v,vs,rfl,r1,r2⟩:=rla_cons.mp r;unfold blS at e;cases h:blS xs with
   | none=>rw[h]at e;cases e
   | some cs=>
     rw[h]at e;cases e;rw[rl_bl.mp r1,MF h r2];rfl
 | .non::_,_,_,e,_=>by cases e
 | .int _::_,_,_,e,_=>by cases e
 | .str _::_,_,_,e,_=>by cases e
 | .tup _::_,_,_,e,_=>by cases e
 | .loc _::_,_,_,e,_=>by cases e
 | .ro _::_,_,_,e,_=>by cases e
 | .ty _::_,_,_,e,_=>by cases e
 | .exc _::_,_,_,e,_=>by cases e
theorem Ev:∀{xs:List SV} {bs:List Int} {vs:List V},Fg xs=some bs->RlAll K as H vs xs->vs=bs.map V.int
 | [],_,_,e,r=>by cases e;exact rla_nil.mp r
 | .int b::xs,_,_,e,r=>by
   obtain⟨v,vs,rfl,r1,r2⟩:=rla_cons.mp r;unfold Fg at e;cases h:Fg xs with
   | none=>rw[h]at e;cases e
   | some cs=>
     rw[h]at e;cases e;rw[rl_int.mp r1,Ev h r2];rfl
 | .non::_,_,_,e,_=>by cases e
 | .bl _::_,_,_,e,_=>by cases e
 | .str _::_,_,_,e,_=>by cases e
 | .tup _::_,_,_,e,_=>by cases e
 | .loc _::_,_,_,e,_=>by cases e
 | .ro _::_,_,_,e,_=>by cases e
 | .ty _::_,_,_,e,_=>by cases e
 | .exc _::_,_,_,e,_=>by cases e
theorem B9{x:SV}{v:V}{xs:List SV}(ok:Ok K as H S)(r:Rl K as H v x)(n:x ≠ .tup xs)(h:seqS x S=some xs):∃ a vs,v = .ref a/\SqL K H a vs/\RlAll K as H vs xs:=by
 cases x with
 | tup ys=>cases h;exact absurd rfl n
 | ro ys=>
   cases h;obtain⟨p,vs,rfl,hp,rr⟩:=rl_ro.mp r;exact⟨p,vs,rfl,hp.sq,rr⟩
 | loc k=>
   obtain⟨a,ea,rfl⟩:=rl_loc.mp r;unfold seqS at h;cases hs:S[k]? with
   | none=>simp only[hs]at h;cases h
   | some o=>
     cases o with
     | lst ys=>
       simp only[hs]at h;cases h;obtain⟨vs,h1,rr⟩:=ok.obj k _ a hs ea;exact⟨a,vs,rfl,SqL.of h1,rr⟩
     | iset _=>simp only[hs]at h;cases h
     | dtl _=>simp only[hs]at h;cases h
     | dtf _ _ _=>simp only[hs]at h;cases h
     | dtp _=>simp only[hs]at h;cases h
     | dct _=>simp only[hs]at h;cases h
     | dcf _ _ _=>simp only[hs]at h;cases h
     | tbl _ _=>simp only[hs]at h;cases h
 | _=>cases h
theorem DK{vs:List V}{x:SV}(r:RlAll K as H vs [x]):∃ v,vs=[v]/\Rl K as H v x:=by
 obtain⟨v,t,rfl,r1,r2⟩:=rla_cons.mp r;rw[rla_nil.mp r2];exact⟨v,rfl,r1⟩
theorem Jz{vs:List V}{x y:SV}(r:RlAll K as H vs [x,y]):∃ v u,vs=[v,u]/\Rl K as H v x/\Rl K as H u y:=by
 obtain⟨v,t,rfl,r1,r2⟩:=rla_cons.mp r;obtain⟨u,rfl,r3⟩:=DK r2;exact⟨v,u,rfl,r1,r3⟩
end
theorem MG{K:Vn}{as:List ZY}{H:Hp}{S:Sto}{Q:VK}{x:SV}{v:V}{ys:List SV}(ok:Ok K as H S)(r1:Rl K as H v x)(h1:seqS x S=some ys)(h2:Post K as H Q (.tup ys) S):∃ p us,v = .ref p/\((SqL K H p us/\∀ l,H l=none->Q (.ref l) (upd H l (.tup us)))\/(SqT K H p us/\Q (.ref p) H)):=by
 cases x with
 | tup zs=>
   cases h1;obtain⟨p,us,rfl,hp,rr⟩:=rl_tup.mp r1;exact⟨p,us,rfl,.inr ⟨SqT.of hp,h2.here ok r1⟩⟩
 | loc k=>
   obtain⟨a,us,rfl,hq,rr⟩:=B9 ok r1 (by intro z;cases z) h1;exact⟨a,us,rfl,.inl ⟨hq,C8 ok rr h2⟩⟩
 | ro k=>
   obtain⟨a,us,rfl,hq,rr⟩:=B9 ok r1 (by intro z;cases z) h1;exact⟨a,us,rfl,.inl ⟨hq,C8 ok rr h2⟩⟩
 | _=>cases h1
section
variable{K:Vn}{as:List ZY}{H:Hp}{S:Sto}
theorem QR{x:SV}{v:V}{a:TyN}(ok:Ok K as H S)(r:Rl K as H v x)(h:tyS x S=some a):TyOf K H v (.type a.nm):=by
 cases x with
 | non=>cases h;rw[rl_non.mp r];exact .non
 | bl b=>cases h;rw[rl_bl.mp r];exact .bl b
 | int b=>cases h;rw[rl_int.mp r];exact .int b
 | str b=>cases h;rw[rl_str.mp r];exact .str b
 | tup xs=>cases h;obtain⟨p,vs,rfl,hp,_⟩:=rl_tup.mp r;exact .tup hp
 | loc k=>
   obtain⟨b,eb,rfl⟩:=rl_loc.mp r;unfold tyS at h;cases hs:S[k]? with
   | none=>simp only[hs]at h;cases h
   | some o=>
     cases o with
     | lst ys=>
       simp only[hs]at h;cases h;obtain⟨vs,h1,_⟩:=ok.obj k _ b hs eb;exact .lst h1
     | iset _=>simp only[hs]at h;cases h
     | dtl _=>simp only[hs]at h;cases h
     | dtf _ _ _=>simp only[hs]at h;cases h
     | dtp _=>simp only[hs]at h;cases h
     | dct _=>simp only[hs]at h;cases h
     | dcf _ _ _=>simp only[hs]at h;cases h
     | tbl _ _=>simp only[hs]at h;cases h
 | _=>cases h
noncomputable def ktn(t c:String):Option Bool:=if (Value.type t == Value.type c)=true then some true else if PySem.W.kitMeta c=true then (fastBuiltinMro t).map (·.contains (.type c)) else none
theorem Ic{K:Vn}(a:TyN)(t:TyN)(ht:t ≠ .none):PySem.W.kitOne K (.type a.nm) (.type t.nm)=some (Fh a t):=by
 have e:PySem.W.kitOne K (.type a.nm) (.type t.nm)=ktn a.nm t.nm:=rfl;rw[e];cases a<;>cases t<;>first | exact absurd rfl ht | decide +kernel
theorem Id{K:Vn}(a:TyN):∀(bs:List TyN),TyN.none∉bs->PySem.W.kitAny K (.type a.nm) ((bs.map TyN.nm).map Value.type)=some (bs.any (Fh a))
 | [],_=>rfl
 | b::bs,h=>by
   rw[WQ,WQ,PySem.W.kitAny,Ic a b (λz=>h (by rw[z];simp)),Wx];cases Fh a b with
   | true=>rfl
   | false=>exact Id a bs (λz=>h (W5 _ z))
theorem MH:∀{xs:List SV} {bs:List TyN} {vs:List V},Jy xs=some bs->RlAll K as H vs xs->vs=(bs.map TyN.nm).map V.ty
 | [],_,_,e,r=>by cases e;exact rla_nil.mp r
 | .ty b::xs,_,_,e,r=>by
   obtain⟨v,vs,rfl,r1,r2⟩:=rla_cons.mp r;unfold Jy at e;cases h:Jy xs with
   | none=>rw[h]at e;cases e
   | some cs=>
     rw[h]at e;cases e;rw[rl_ty.mp r1,MH h r2];rfl
 | .non::_,_,_,e,_=>by cases e
 | .bl _::_,_,_,e,_=>by cases e
 | .str _::_,_,_,e,_=>by cases e
 | .tup _::_,_,_,e,_=>by cases e
 | .loc _::_,_,_,e,_=>by cases e
 | .ro _::_,_,_,e,_=>by cases e
 | .int _::_,_,_,e,_=>by cases e
end
noncomputable def rBi(K:Vn):BI->List V->Hp->VK->Prop
 | .len=>λxs H Q=>∃ p ys,xs=[.ref p]/\(SqL K H p ys\/SqT K H p ys)/\Q (.int ys.length) H
 | .abs=>λxs H Q=>∃ i,xs=[.int i]/\Q (.int (if i<0 then -i else i)) H
 | .min=>λxs H Q=>∃ i j,xs=[.int i,.int j]/\Q (.int (if j<i then j else i)) H
 | .max=>λxs H Q=>∃ i j,xs=[.int i,.int j]/\Q (.int (if j>i then j else i)) H
 | .int=>λxs H Q=>(∃ i,xs=[.int i]/\Q (.int i) H)\/∃ k,xs=[.bl k]/\Q (.int (if k then 1 else 0)) H
 | .list=>λxs H Q=>∃ p ys,xs=[.ref p]/\(SqL K H p ys\/SqT K H p ys)/\∀ l,H l=none->Q (.ref l) (upd H l (.lst ys))
 | .tuple=>λxs H Q=>∃ p ys,xs=[.ref p]/\((SqL K H p ys/\∀ l,H l=none->Q (.ref l) (upd H l (.tup ys)))\/(SqT K H p ys/\Q (.ref p) H))
 | .all=>λxs H Q=>∃(a:ZY) (bs:List Bool),xs=[.ref a]/\SqL K H a (bs.map V.bl)/\Q (.bl (bs.all id)) H
 | .any=>λ_ _ _=>False
 | .sorted=>λ_ _ _=>False
 | .isi=>λxs H Q=>(∃ x T t b,xs=[x,.ty T]/\TyOf K H x t/\PySem.W.kitOne K t (.type T)=some b/\Q (.bl b) H)\/(∃(x:V) (p:ZY) (Ts:List String) (t:ZW) (b:Bool),xs=[x,.ref p]/\H p=some (.tup (Ts.map V.ty))/\TyOf K H x t/\PySem.W.kitAny K t (Ts.map Value.type)=some b/\Q (.bl b) H)
 | .str=>λ_ _ _=>False
 | .repr=>λ_ _ _=>False
theorem S9{K:Vn}:∀{b:BI},UZ K (sBi b) (rBi K b)
 | .len=>λas H S xs vs Q ok r h=>by
   replace h:=DH h;obtain⟨x,rfl,ys,h1,h2⟩:=h;obtain⟨v,rfl,r1⟩:=DK r;obtain⟨a,us,rfl,hq,rr⟩:=By ok r1 h1;exact⟨a,us,rfl,hq,by rw[rr.length];exact h2.here ok (rl_int.mpr rfl)⟩
 | .abs=>λas H S xs vs Q ok r h=>by
   replace h:=DH h;obtain⟨x,rfl,h⟩:=h;replace h:=Cj h;obtain⟨i,rfl,h⟩:=h;obtain⟨v,rfl,r1⟩:=DK r;exact⟨_,by rw[rl_int.mp r1],Post.here h ok (rl_int.mpr rfl)⟩
 | .min=>λas H S xs vs Q ok r h=>by
   replace h:=ME h;obtain⟨x,y,rfl,h⟩:=h;replace h:=Cj h;obtain⟨i,rfl,h⟩:=h;replace h:=Cj h;obtain⟨j,rfl,h⟩:=h;obtain⟨v,u,rfl,r1,r2⟩:=Jz r;exact⟨_,_,by rw[rl_int.mp r1,rl_int.mp r2],Post.here h ok (rl_int.mpr rfl)⟩
 | .max=>λas H S xs vs Q ok r h=>by
   replace h:=ME h;obtain⟨x,y,rfl,h⟩:=h;replace h:=Cj h;obtain⟨i,rfl,h⟩:=h;replace h:=Cj h;obtain⟨j,rfl,h⟩:=h;obtain⟨v,u,rfl,r1,r2⟩:=Jz r;exact⟨_,_,by rw[rl_int.mp r1,rl_int.mp r2],Post.here h ok (rl_int.mpr rfl)⟩
 | .int=>λas H S xs vs Q ok r h=>by
   replace h:=DH h;obtain⟨x,rfl,h⟩:=h;obtain⟨v,rfl,r1⟩:=DK r;replace h:=QO h;rcases h with⟨k,rfl,h⟩ | ⟨b,rfl,h⟩
   ·exact .inl ⟨_,by rw[rl_int.mp r1],Post.here h ok (rl_int.mpr rfl)⟩
   ·exact .inr ⟨_,by rw[rl_bl.mp r1],Post.here h ok (rl_int.mpr rfl)⟩
 | .list=>λas H S xs vs Q ok r h=>by
   replace h:=DH h;obtain⟨x,rfl,ys,h1,h2⟩:=h;obtain⟨v,rfl,r1⟩:=DK r;obtain⟨a,us,rfl,hq,rr⟩:=By ok r1 h1;exact⟨a,us,rfl,hq,AL ok rr h2⟩
 | .tuple=>λas H S xs vs Q ok r h=>by
   replace h:=DH h;obtain⟨x,rfl,ys,h1,h2⟩:=h;obtain⟨v,rfl,r1⟩:=DK r;obtain⟨p,us,rfl,z⟩:=MG ok r1 h1 h2;exact⟨p,us,rfl,z⟩
 | .all=>λas H S xs vs Q ok r h=>by
   replace h:=DH h;obtain⟨x,rfl,ys,bs,h0,h1,h2,h3⟩:=h;obtain⟨v,rfl,r1⟩:=DK r;obtain⟨a,us,rfl,hq,rr⟩:=B9 ok r1 h0 h1;rw[MF h2 rr]at hq;exact⟨a,bs,rfl,hq,h3.here ok (rl_bl.mpr rfl)⟩
 | .any=>λ_ _ _ _ _ _ _ _ h=>False.elim h
 | .sorted=>λ_ _ _ _ _ _ _ _ h=>False.elim h
 | .isi=>λas H S xs vs Q ok r h=>by
   replace h:=ME h;obtain⟨x,y,rfl,h⟩:=h;obtain⟨v,u,rfl,r1,r2⟩:=Jz r;replace h:=QP h;rcases h with⟨t,a,rfl,h0,h1,h2⟩ | ⟨ts,a,bs,rfl,h0,h1,h2,h3⟩
   ·rw[rl_ty.mp r2];exact .inl ⟨v,_,_,_,rfl,QR ok r1 h1,Ic _ _ h0,h2.here ok (rl_bl.mpr rfl)⟩
   ·obtain⟨p,vs,rfl,hp,rr⟩:=rl_tup.mp r2;rw[MH h2 rr]at hp;exact .inr ⟨v,p,_,_,_,rfl,hp,QR ok r1 h1,Id _ _ h0,h3.here ok (rl_bl.mpr rfl)⟩
 | .str=>λ_ _ _ _ _ _ _ _ h=>False.elim h
 | .repr=>λ_ _ _ _ _ _ _ _ h=>False.elim h
inductive MT where
 | append | extend | insert | indexB | countB
 deriving DecidableEq
noncomputable def MT.name:MT->Str
 | .append=>"append" | .extend=>"extend" | .insert=>"insert" | .indexB=>"index" | .countB=>"count"
noncomputable def oL(f:Nat->Sto->QE->Prop):S1:=λx S Q=>match x with | .loc k=>f k S Q | _=>False
theorem DL{K:Vn}{as:List ZY}{H:Hp}:∀{ns:List Bool} {vs:List V},RlAll K as H vs (ns.map SV.bl)->vs=ns.map V.bl
 | [],_,h=>rla_nil.mp h
 | n::ns,_,h=>by
   obtain⟨v,r,rfl,a,t⟩:=rla_cons.mp h;rw[rl_bl.mp a,DL t];rfl
theorem Ck{f:Nat->Sto->QE->Prop}{x:SV}{S:Sto}{Q:QE}(h:oL f x S Q):∃ k,x = .loc k/\f k S Q:=match x,h with | .loc k,h=>⟨k,rfl,h⟩
noncomputable def Oq(x:SV):S1:=λy S Q=>oL (λk S Q=>∃ xs,S[k]?=some (.lst xs)/\xs.length<big/\Q .non (S.set k (.lst (xs++[y])))) x S Q
noncomputable def Os(x:SV):S1:=λy S Q=>oL (λk S Q=>oL (λl S Q=>∃ xs ys,S[k]?=some (.lst xs)/\S[l]?=some (.lst ys)/\xs.length+ys.length<=big/\Q .non (S.set k (.lst (xs++ys)))) y S Q) x S Q
noncomputable def Ot(x:SV):S2:=λz y S Q=>oL (λk S Q=>oI (λi S Q=>∃ xs,S[k]?=some (.lst xs)/\(0<=i/\i<=xs.length)/\xs.length<big/\Q .non (S.set k (.lst (xs.take i.toNat++y::xs.drop i.toNat)))) z S Q) x S Q
noncomputable def Ou(x:SV):S1:=λy S Q=>oL (λk S Q=>∃(ns:List Bool) (n:Bool) (j:Nat),y = .bl n/\S[k]?=some (.lst (ns.map SV.bl))/\ns[j]?=some n/\(∀ m,m<j->ns[m]?≠some n)/\Q (.int (j:Nat)) S) x S Q
noncomputable def Ov(x:SV):S1:=λy S Q=>oL (λk S Q=>∃(ns:List Bool) (n:Bool),y = .bl n/\S[k]?=some (.lst (ns.map SV.bl))/\Q (.int (ns.count n:Nat)) S) x S Q
noncomputable def sMt:MT->SV->Sn
 | .append,x=>a1 (Oq x)
 | .extend,x=>a1 (Os x)
 | .insert,x=>a2 (Ot x)
 | .indexB,x=>a1 (Ou x)
 | .countB,x=>a1 (Ov x)
theorem Ew:∀{m:MT} {x:SV},MonoN (sMt m x)
 | .append,x=>AH λy S P P' i h=>by
   replace h:=Ck h;obtain⟨k,rfl,a,c,d,e⟩:=h;exact⟨a,c,d,i _ _ e⟩
 | .extend,x=>AH λy S P P' i h=>by
   replace h:=Ck h;obtain⟨k,rfl,h⟩:=h;replace h:=Ck h;obtain⟨l,rfl,a,c,d,e,f,g⟩:=h;exact⟨a,c,d,e,f,i _ _ g⟩
 | .insert,x=>Cr λz y S P P' i h=>by
   replace h:=Ck h;obtain⟨k,rfl,h⟩:=h;replace h:=Cj h;obtain⟨j,rfl,a,c,d,e,f⟩:=h;exact⟨a,c,d,e,i _ _ f⟩
 | .indexB,x=>AH λy S P P' i h=>by
   replace h:=Ck h;obtain⟨k,rfl,ns,n,j,a,b,c,d,q⟩:=h;exact⟨ns,n,j,a,b,c,d,i _ _ q⟩
 | .countB,x=>AH λy S P P' i h=>by
   replace h:=Ck h;obtain⟨k,rfl,ns,n,a,b,q⟩:=h;exact⟨ns,n,a,b,i _ _ q⟩
noncomputable def rMt:MT->V->List V->Hp->VK->Prop
 | .append=>IO
 | .extend=>IP
 | .insert=>IQ
 | .indexB=>IT
 | .countB=>IS
section
variable{K:Vn}{as:List ZY}{H:Hp}{S:Sto}
theorem Bz{Q:VK}{k:Nat}{a:ZY}{xs ys:List SV}{us:List V}{x:SV}{v:V}(ok:Ok K as H S)(e:S[k]?=some (.lst xs))(ea:as[k]?=some a)(r:RlAll K as H us ys)(h:Post K as H Q x (S.set k (.lst ys)))(rx:Rl K as H v x):Q v (upd H a (.lst us)):=by
 obtain⟨ok',ku⟩:=ok.write e ea r;exact h as _ v (Go.write (Vv ea)) ok' (Rl.mono (WV _) ku x v rx)
theorem MI:∀{m:MT} {Q:VK} {x:SV} {v:V} {xs:List SV} {vs:List V} (ok:Ok K as H S) (rx:Rl K as H v x) (r:RlAll K as H vs xs) (h:sMt m x xs S (Post K as H Q)),rMt m v vs H Q
 | .append,Q,x,v,xs,vs,ok,rx,r,h=>by
   replace h:=DH h;obtain⟨y,rfl,h⟩:=h;replace h:=Ck h;obtain⟨k,rfl,ys,h1,h2,h3⟩:=h;obtain⟨a,us,rfl,ea,ha,ra⟩:=v7 ok rx h1;obtain⟨u,rfl,ru⟩:=DK r;exact⟨a,us,u,rfl,rfl,ha,by rw[ra.length];exact HF h2,Bz ok h1 ea (ra.append (.cons ru .nil)) h3 (rl_non.mpr rfl)⟩
 | .extend,Q,x,v,xs,vs,ok,rx,r,h=>by
   replace h:=DH h;obtain⟨y,rfl,h⟩:=h;replace h:=Ck h;obtain⟨k,rfl,h⟩:=h;replace h:=Ck h;obtain⟨l,rfl,ys,zs,h1,h2,h3,h4⟩:=h;obtain⟨a,us,rfl,ea,ha,ra⟩:=v7 ok rx h1;obtain⟨u,rfl,ru⟩:=DK r;obtain⟨b,ws,rfl,eb,hb,rb⟩:=v7 ok ru h2;exact⟨a,b,us,ws,rfl,rfl,ha,hb,by rw[ra.length,rb.length];exact B1 h3,Bz ok h1 ea (ra.append rb) h4 (rl_non.mpr rfl)⟩
 | .insert,Q,x,v,xs,vs,ok,rx,r,h=>by
   replace h:=ME h;obtain⟨z,y,rfl,h⟩:=h;replace h:=Ck h;obtain⟨k,rfl,h⟩:=h;replace h:=Cj h;obtain⟨i,rfl,ys,h1,h2,h3,h4⟩:=h;obtain⟨a,us,rfl,ea,ha,ra⟩:=v7 ok rx h1;obtain⟨u,w,rfl,ru,rw'⟩:=Jz r;rw[rl_int.mp ru];exact⟨a,us,i,w,rfl,rfl,ha,h2.1,by rw[ra.length];exact h2.2,by rw[ra.length];exact HF h3,Bz ok h1 ea (ra.ins rw' _) h4 (rl_non.mpr rfl)⟩
 | .countB,Q,x,v,xs,vs,ok,rx,r,h=>by
   replace h:=DH h;obtain⟨y,rfl,h⟩:=h;replace h:=Ck h;obtain⟨k,rfl,ns,n,rfl,h1,h4⟩:=h;obtain⟨a,us,rfl,ea,ha,ra⟩:=v7 ok rx h1;obtain⟨u,rfl,ru⟩:=DK r;rw[DL ra]at ha;exact⟨a,ns,n,rfl,by rw[rl_bl.mp ru],ha,h4.here ok (rl_int.mpr rfl)⟩
 | .indexB,Q,x,v,xs,vs,ok,rx,r,h=>by
   replace h:=DH h;obtain⟨y,rfl,h⟩:=h;replace h:=Ck h;obtain⟨k,rfl,ns,n,j,rfl,h1,h2,h3,h4⟩:=h;obtain⟨a,us,rfl,ea,ha,ra⟩:=v7 ok rx h1;obtain⟨u,rfl,ru⟩:=DK r;rw[DL ra]at ha;exact⟨a,ns,n,j,rfl,by rw[rl_bl.mp ru],ha,h2,h3,h4.here ok (rl_int.mpr rfl)⟩
end
mutual
inductive Tg where
 | nm (i:Nat) | tup (ts:Tgs)
inductive Tgs where
 | nil | cons (t:Tg) (ts:Tgs)
end
mutual
inductive Ex where
 | var (i:Nat) | c (x:SV) | op (o:A0R) (a b:Ex) | neg (a:Ex) | cmp (o:CmpOp) (a b:Ex) | chn (o p:CmpOp) (a b c:Ex)
 | and (a b:Ex) | or (a b:Ex) | not (a:Ex) | ife (t a b:Ex) | tup (es:Exs) | lst (es:Exs) | ix (a b:Ex) | slc (a:Ex) (lo hi:Eo)
 | call (f:Nat) (es:Exs) | bi (b:BI) (es:Exs) | mt (m:MT) (a:Ex) (es:Exs) | comp (own cn:List Str) (js:List Nat) (g:Tg) (it:Itb) (t:Eo) (e:Ex) | tyc (t:TyN) | lrng1 (a:Ex) | lrng2 (a b:Ex) | mind (a d:Ex) | dnewp | setd (d e v:Ex) | srtset (a:Ex) | setl (a:Ex) | srtk (x:Str) (lp:Pos) (j:Nat) (y:Str) (cn:List Str) (js:List Nat) (a e:Ex) | isx (a:Ex) (x:Str) | isv (a:Ex) | no
inductive Exs where
 | nil | cons (e:Ex) (es:Exs)
inductive Eo where
 | no | yes (e:Ex)
inductive Itb where
 | seq (e:Ex) | rng1 (a:Ex) | rng2 (a b:Ex) | enum (e:Ex)
end
inductive Stm where
 | asg (t:Tg) (e:Ex) | par (i j:Nat) (a b:Ex) | put (o i e:Ex) | expr (e:Ex) | iff (t:Ex) (a b:List Stm) | loop (g:Tg) (it:Itb) (b:List Stm) | whl (t:Ex) (b:List Stm) | rse (x:Str) (c:XCls) (e:Ex) | exx (f:Nat) (es:Exs) | tryx (n i j:Nat) (dn:Str) (Dc:ZY) (b:List Stm)
 | ret (e:Ex) | no
noncomputable def sOp:A0R->S2
 | .Add=>M7
 | .Sub=>C9 λi j => .int (i - j)
 | .Mult=>M8
 | .FloorDiv=>HG U1 λi j => .int (i / j)
 | .Mod=>HG (λ_ j=>0<j) λi j => .int (i % j)
 | .Pow=>HG U2 λi j => .int (i ^ j.toNat)
 | _=>λ_ _ _ _=>False
noncomputable def B3:CmpOp->S2
 | .Eq=>sEq
 | .NotEq=>sNe
 | .Lt=>C9 λi j => .bl (decide (i<j))
 | .LtE=>C9 λi j => .bl (decide (i<=j))
 | .Gt=>C9 λi j => .bl (decide (j<i))
 | .GtE=>C9 λi j => .bl (decide (j<=i))
 | .In=>sIn false
 | .NotIn=>sIn true
 | .Is=>M9 false
 | .IsNot=>M9 true
noncomputable def MJ:S1
 | .int i,S,Q=>Q (.int (-i)) S
 | _,_,_=>False
noncomputable def SA:SV->Sto->Option Bool
 | .bl b,_=>some b
 | .tup xs,_=>some (!xs.isEmpty)
 | .loc k,S=>match S[k]? with | some (.lst xs)=>some (!xs.isEmpty) | _=>none
 | _,_=>none
noncomputable def SB(w:WE):WT:=λρ S Q=>w ρ S λx S'=>∃ b,SA x S'=some b/\Q b S'
noncomputable def MK(a b:WE):WE:=λρ S Q=>a ρ S λx S1=>∃ c,x = .bl c/\if c=true then b ρ S1 Q else Q (.bl false) S1
noncomputable def wOr(a b:WE):WE:=λρ S Q=>a ρ S λx S1=>∃ c,x = .bl c/\if c=true then Q (.bl true) S1 else b ρ S1 Q
noncomputable def Ow(a:WE):WE:=λρ S Q=>a ρ S λx S1=>∃ c,x = .bl c/\Q (.bl (!c)) S1
noncomputable def DM(a b:WT):WT:=λρ S Q=>a ρ S λc S1=>if c=true then b ρ S1 Q else Q false S1
noncomputable def HJ(a b:WT):WT:=λρ S Q=>a ρ S λc S1=>if c=true then Q true S1 else b ρ S1 Q
noncomputable def Ie(a:WT):WT:=λρ S Q=>a ρ S λc S1=>Q (!c) S1
noncomputable def Ox(t:WT)(a b:WE):WE:=λρ S Q=>t ρ S λc S1=>if c=true then a ρ S1 Q else b ρ S1 Q
noncomputable def ML(s s':S2)(a b c:WE):WE:=λρ S Q=>a ρ S λx S1=>b ρ S1 λy S2=>s x y S2 λz S3=>∃ k,z = .bl k/\if k=true then c ρ S3 λu S4=>s' y u S4 Q else Q (.bl false) S3
noncomputable abbrev WO:=EnvS->Sto->(Option Int->Sto->Prop)->Prop
noncomputable def SC:WO:=λ_ S Q=>Q none S
noncomputable def MM(w:WE):WO:=λρ S Q=>w ρ S λx S1=>∃ i,x = .int i/\Q (some i) S1
noncomputable def Ey(xs:List SV)(lo hi:Option Int):List SV:=(xs.drop (HT.sIx xs.length 0 lo)).take (HT.sIx xs.length xs.length hi - HT.sIx xs.length 0 lo)
noncomputable def MN:SV->Option Int->Option Int->Sto->QE->Prop
 | .loc k,lo,hi,S,Q=>∃ xs,S[k]?=some (.lst xs)/\Q (.loc S.length) (S++[.lst (Ey xs lo hi)])
 | .tup xs,lo,hi,S,Q=>Q (.tup (Ey xs lo hi)) S
 | _,_,_,_,_=>False
noncomputable def SD(a:WE)(lo hi:WO):WE:=λρ S Q=>a ρ S λx S1=>lo ρ S1 λl S2=>hi ρ S2 λh S3=>MN x l h S3 Q
noncomputable abbrev WI:=EnvS->Sto->((Sto->Prop)->List SV->Sto->Prop)->Prop
noncomputable def keepS:SV->Sto->Sto->Prop
 | .loc k,S,S'=>S'[k]?=S[k]?
 | _,_,_=>True
noncomputable def QS(w:WE):WI:=λρ S R=>w ρ S λx S1=>∃ xs,seqS x S1=some xs/\R (keepS x S1) xs S1
noncomputable def u8(lo hi:Int):List SV:=(Vw (hi - lo).toNat).map λ(i:Nat) => .int (lo+i)
noncomputable def MO(w:WE):WI:=λρ S R=>w ρ S λx S1=>∃ j,x = .int j/\(-(2 ^ 62)<=j/\j<2 ^ 62)/\R (λ_=>True) (u8 0 j) S1
noncomputable def MP(w u:WE):WI:=λρ S R=>w ρ S λx S1=>u ρ S1 λy S2=>∃ i j,x = .int i/\y = .int j/\(-(2 ^ 62)<=i/\i<2 ^ 62 /\ -(2 ^ 62)<=j/\j<2 ^ 62)/\R (λ_=>True) (u8 i j) S2
noncomputable def BH(xs:List SV):List SV:=(Vw xs.length).zipWith (λ(i:Nat) x => .tup [.int i,x]) xs
noncomputable def MQ(w:WE):WI:=λρ S R=>w ρ S λx S1=>∃ xs,seqS x S1=some xs/\R (keepS x S1) (BH xs) S1
noncomputable def HK(a:WE):WE:=λρ S Q=>a ρ S λx S1=>∃ j,x = .int j/\(-(2 ^ 62)<=j/\j<=100000)/\Q (.loc S1.length) (S1++[.lst (u8 0 j)])
noncomputable def HL(a b:WE):WE:=λρ S Q=>a ρ S λx S1=>b ρ S1 λy S2=>∃ i j,x = .int i/\y = .int j/\(0<=i/\i<=100000 /\ -(2 ^ 62)<=j/\j<=100000)/\Q (.loc S2.length) (S2++[.lst (u8 i j)])
noncomputable def MR(a d:WE):WE:=λρ S Q=>a ρ S λx S1=>d ρ S1 λy S2=>∃ k ps,x = .loc k/\y = .non/\S2[k]?=some (.lst (ps.map λp:Int×Int=>SV.tup [.int p.1,.int p.2]))/\(ps=[]->Q .non S2)/\∀ p∈ps,Q (.tup [.int p.1,.int p.2]) S2
noncomputable def dpv(kvs:List ((Int×Int)×Int))(k:Int×Int):Option Int:=(kvs.find? λp=>decide (p.1=k)).map (·.2)
noncomputable def MS(d e v:WE):WE:=λρ S Q=>d ρ S λx S1=>∃ k kv0,x = .loc k/\S1[k]?=some (.dtp kv0)/\e ρ S1 λy S2=>v ρ S2 λz S3=>∃ i j m kvs,y = .tup [.int i,.int j]/\z = .int m/\S3[k]?=some (.dtp kvs)/\kvs.length<big/\
 (∀ n,dpv kvs (i,j)=some n->Q (.int n) S3)/\(dpv kvs (i,j)=none->Q (.int m) (S3.set k (.dtp (kvs++[((i,j),m)]))))
noncomputable def K0(kvs:List (List Int×SV))(k:List Int):Option SV:=(kvs.find? λp=>decide (p.1=k)).map (·.2)
noncomputable def QT(kvs:List (List Int×SV))(k:List Int)(x:SV):List (List Int×SV):=if (kvs.any λp=>decide (p.1=k))=true then kvs.map (λp=>if p.1=k then (p.1,x) else p) else kvs++[(k,x)]
noncomputable def MU(x:Str)(lp:Pos)(j:Nat)(js:List Nat)(a e:WE):WE:=λρ S Q=>a ρ S λv S1=>∃(xs:List SV) (kz:List Int),seqS v S1=some xs/\xs.length<64/\S1[j]?=some (.tbl x lp)/\kz.length=xs.length/\
 (∀(i:Nat) y z,xs[i]?=some y->kz[i]?=some z->e (some y::js.map λj=>(ρ[j]?).join) S1 λr S'=>r = .int z/\S'=S1)/\
 ∀ ys:List (Int×SV),ys.Perm (kz.zip xs)->(ys.map (·.1)).Pairwise (·<=·)->Q (.loc S1.length) (S1++[.lst (ys.map (·.2))])
noncomputable def SE(x:Str)(a:WE):WE:=λρ S Q=>a ρ S λv S1=>∃(c:XCls) (C:ZY) (b:Bool),v = .exc c/\(x,C,b)∈c.tb/\Q (.bl b) S1
noncomputable def SF(a:WE):WE:=λρ S Q=>a ρ S λv S1=>∃ c:XCls,v = .exc c/\Q (.bl true) S1
noncomputable def Ez(a:WE):WE:=λρ S Q=>a ρ S λx S1=>∃ xs ns,seqS x S1=some xs/\Fg xs=some ns/\ns.length<64/\Q (.loc S1.length) (S1++[.lst ((srt (AU ns)).map SV.int)])
noncomputable def MV(a:WE):WE:=λρ S Q=>a ρ S λx S1=>∃ xs ns,seqS x S1=some xs/\Fg xs=some ns/\ns.length<=900/\Q (.loc S1.length) (S1++[.iset (AU ns)])
noncomputable def K3(kvs:List (Int×SV))(i:Int):Option SV:=(kvs.find? λp=>decide (p.1=i)).map (·.2)
noncomputable def QU(kvs:List (Int×SV))(i:Int)(x:SV):List (Int×SV):=if (kvs.any λp=>decide (p.1=i))=true then kvs.map (λp=>if p.1=i then (p.1,x) else p) else kvs++[(i,x)]
noncomputable def HM:WE:=λ_ S Q=>Q (.loc S.length) (S++[.dtp []])
noncomputable def wMt(m:MT)(a:WE)(b:WA):WE:=λρ S Q=>a ρ S λx S1=>(∃ k xs,x = .loc k/\S1[k]?=some (.lst xs))/\b ρ S1 λxs S2=>sMt m x xs S2 Q
mutual
noncomputable def wTg:Tg->SV->EnvS->(EnvS->Prop)->Prop
 | .nm i,x,ρ,Q=>Q (ρ.set i (some x))
 | .tup ts,.tup xs,ρ,Q=>Aa ts xs ρ Q
 | .tup _,_,_,_=>False
noncomputable def Aa:Tgs->List SV->EnvS->(EnvS->Prop)->Prop
 | .nil,[],ρ,Q=>Q ρ
 | .cons t ts,x::xs,ρ,Q=>wTg t x ρ λρ'=>Aa ts xs ρ' Q
 | _,_,_,_=>False
end
noncomputable def Fi(k:Nat)(js:List Nat)(ρ:EnvS):EnvS:=WL k none++js.map λj=>(ρ[j]?).join
noncomputable abbrev WM(β:Type):=EnvS->β->Sto->(β->Sto->Prop)->Prop
noncomputable def wTG{β:Type}(keep:Sto->Prop)(g:Tg)(t:WT)(em:WM β)(ρ:EnvS)(Q:β->Sto->Prop):List SV->β->Sto->Prop
 | [],a,S=>keep S/\Q a S
 | x::xs,a,S=>keep S/\wTg g x ρ λρ2=>t ρ2 S λb S1=>if b=true then em ρ2 a S1 λa' S2=>wTG keep g t em ρ Q xs a' S2 else wTG keep g t em ρ Q xs a S1
noncomputable abbrev emL(e:WE):WM (List SV):=λρ ys S N=>e ρ S λy S2=>ys.length<big/\N (ys++[y]) S2
noncomputable abbrev wCG{β:Type}(k:Nat)(js:List Nat)(g:Tg)(i:WI)(t:WT)(em:WM β)(b0:β)(fin:QE->β->Sto->Prop):WE:=λρ S Q=>i ρ S λkeep xs S1=>wTG keep g t em (Fi k js ρ) (fin Q) xs b0 S1
noncomputable abbrev SG{β:Type}(o:β->SO):QE->β->Sto->Prop:=λQ b S=>Q (.loc S.length) (S++[o b])
noncomputable abbrev HN(keep:Sto->Prop)(g:Tg)(t:WT)(e:WE)(ρ:EnvS)(Q:List SV->Sto->Prop):=wTG keep g t (emL e) ρ Q
noncomputable abbrev wKL(k:Nat)(js:List Nat)(g:Tg)(i:WI)(t:WT)(em:WM (List SV)):WE:=λρ S Q=>i ρ S λkeep xs S1=>wTG keep g t em (Fi k js ρ) (λys S2=>Q (.loc S2.length) (S2++[.lst ys])) xs [] S1
noncomputable def tt1(w:WE):WE×WT:=(w,SB w)
noncomputable def wBl(w:WE):WT:=λρ S Q=>w ρ S λx S'=>∃ b,x = .bl b/\Q b S'
noncomputable def tt2(w:WE):WE×WT:=(w,wBl w)
noncomputable def Ug:WT:=λ_ S Q=>Q true S
mutual
noncomputable def wEx(Δ:Nat->Sn):Ex->WE×WT
 | .var i=>tt1 (Rs i)
 | .c x=>tt1 (wC x)
 | .op o a b=>tt1 (w2 (sOp o) (wEx Δ a).1 (wEx Δ b).1)
 | .neg a=>tt1 (w1 MJ (wEx Δ a).1)
 | .cmp o a b=>tt2 (w2 (B3 o) (wEx Δ a).1 (wEx Δ b).1)
 | .chn o p a b c=>tt2 (ML (B3 o) (B3 p) (wEx Δ a).1 (wEx Δ b).1 (wEx Δ c).1)
 | .and a b=>(MK (wEx Δ a).1 (wEx Δ b).1,DM (wEx Δ a).2 (wEx Δ b).2)
 | .or a b=>(wOr (wEx Δ a).1 (wEx Δ b).1,HJ (wEx Δ a).2 (wEx Δ b).2)
 | .not a=>(Ow (wEx Δ a).1,Ie (wEx Δ a).2)
 | .ife t a b=>(Ox (wEx Δ t).2 (wEx Δ a).1 (wEx Δ b).1,λ_ _ _=>False)
 | .tup es=>tt1 (wn Ob (F0 Δ es))
 | .lst es=>tt1 (wn Oc (F0 Δ es))
 | .ix a b=>tt1 (w2 sIx (wEx Δ a).1 (wEx Δ b).1)
 | .slc a lo hi=>tt1 (SD (wEx Δ a).1 (wEo Δ lo).1 (wEo Δ hi).1)
 | .call f es=>tt1 (wn (Δ f) (F0 Δ es))
 | .bi b es=>tt1 (wn (sBi b) (F0 Δ es))
 | .mt m a es=>tt1 (wMt m (wEx Δ a).1 (F0 Δ es))
 | .comp own _ js g it t e=>tt1 (wKL own.length js g (Oy Δ it) (wEo Δ t).2 (emL (wEx Δ e).1))
 | .tyc t=>tt1 (wC (.ty t))
 | .lrng1 a=>tt1 (HK (wEx Δ a).1)
 | .lrng2 a b=>tt1 (HL (wEx Δ a).1 (wEx Δ b).1)
 | .isx a x=>tt1 (SE x (wEx Δ a).1)
 | .isv a=>tt1 (SF (wEx Δ a).1)
 | .srtk x lp j _ _ js a e=>tt1 (MU x lp j js (wEx Δ a).1 (wEx Δ e).1)
 | .srtset a=>tt1 (Ez (wEx Δ a).1)
 | .setl a=>tt1 (MV (wEx Δ a).1)
 | .dnewp=>tt1 HM
 | .setd d e v=>tt1 (MS (wEx Δ d).1 (wEx Δ e).1 (wEx Δ v).1)
 | .mind a d=>tt1 (MR (wEx Δ a).1 (wEx Δ d).1)
 | .no=>(λ_ _ _=>False,λ_ _ _=>False)
noncomputable def F0(Δ:Nat->Sn):Exs->WA
 | .nil=>EK
 | .cons e es=>DF (wEx Δ e).1 (F0 Δ es)
noncomputable def wEo(Δ:Nat->Sn):Eo->WO×WT
 | .no=>(SC,Ug)
 | .yes e=>(MM (wEx Δ e).1,(wEx Δ e).2)
noncomputable def Oy(Δ:Nat->Sn):Itb->WI
 | .seq e=>QS (wEx Δ e).1
 | .rng1 a=>MO (wEx Δ a).1
 | .rng2 a b=>MP (wEx Δ a).1 (wEx Δ b).1
 | .enum e=>MQ (wEx Δ e).1
end
structure EndsS where
 nx:EnvS->Sto->Prop
 rt:SV->Sto->Prop
 bk:EnvS->Sto->Prop:=λ_ _=>False
 ct:EnvS->Sto->Prop:=λ_ _=>False
noncomputable abbrev WS:=EndsS->EnvS->Sto->Prop
noncomputable def HP:SV->SV->SV->Sto->(Sto->Prop)->Prop
 | .loc k,.int i,v,S,Q=>∃ xs j,S[k]?=some (.lst xs)/\ixN xs.length i=some j/\Q (S.set k (.lst (xs.set j v)))
 | _,_,_,_,_=>False
noncomputable def v8(keep:Sto->Prop)(g:Tg)(b:WS)(D:EndsS):List SV->EnvS->Sto->Prop
 | [],ρ,S=>keep S/\D.nx ρ S
 | x::xs,ρ,S=>keep S/\wTg g x ρ λρ2=>b {D with nx:=v8 keep g b D xs,ct:=v8 keep g b D xs,bk:=D.nx} ρ2 S
noncomputable def SH(t:WT)(b:WS):WS:=λD ρ S=>∃ W:Nat->EnvS->Sto->Prop,(∃ m,W m ρ S)/\∀ m ρ S,W m ρ S->t ρ S λc S1=>if c=true then
 b {D with nx:=λρ' S'=>∃ m',m'<m/\W m' ρ' S',ct:=λρ' S'=>∃ m',m'<m/\W m' ρ' S',bk:=D.nx} ρ S1 else D.nx ρ S1
noncomputable abbrev rz:Nat:=1000000
noncomputable abbrev tz:Nat:=2000000
noncomputable def setE(Δ:Nat->Sn)(Xp:XCls->Sto->Prop):Nat->Sn:=λg=>match Nat.beq g rz with
 | true=>λxs S _=>∃ c,xs=[.exc c]/\Xp c S
 | false=>Δ g
noncomputable def rX(Δ:Nat->Sn)(Q:QE):SV->Sto->Prop
 | .tup (v::_),S=>Q v S
 | .exc c,S=>Δ rz [.exc c] S λ_ _=>False
 | _,_=>False
noncomputable def wCx(Δ:Nat->Sn)(f:Nat):Sn:=λxs S Q=>Δ (tz+f) xs S (rX Δ Q)
mutual
noncomputable def wSt:(Nat->Sn)->Stm->WS
 | Δ,.asg t e=>λD ρ S=>(wEx Δ e).1 ρ S λx S1=>wTg t x ρ λρ'=>D.nx ρ' S1
 | Δ,.par i j a b=>λD ρ S=>(wEx Δ a).1 ρ S λx S1=>(wEx Δ b).1 ρ S1 λy S2=>D.nx ((ρ.set i (some x)).set j (some y)) S2
 | Δ,.put o i e=>λD ρ S=>(wEx Δ e).1 ρ S λv S1=>(wEx Δ o).1 ρ S1 λx S2=>(wEx Δ i).1 ρ S2 λy S3=>HP x y v S3 λS4=>D.nx ρ S4
 | Δ,.expr e=>λD ρ S=>(wEx Δ e).1 ρ S λ_ S1=>D.nx ρ S1
 | Δ,.iff t a b=>λD ρ S=>(wEx Δ t).2 ρ S λc S1=>if c=true then wSs Δ a D ρ S1 else wSs Δ b D ρ S1
 | Δ,.loop g it b=>λD ρ S=>Oy Δ it ρ S λkeep xs S1=>v8 keep g (wSs Δ b) D xs ρ S1
 | Δ,.whl t b=>SH (wEx Δ t).2 (wSs Δ b)
 | Δ,.ret e=>λD ρ S=>(wEx Δ e).1 ρ S D.rt
 | Δ,.rse _ c e=>λD ρ S=>(wEx Δ e).1 ρ S λ_ S1=>Δ rz [.exc c] S1 λ_ _=>False
 | Δ,.exx f es=>λD ρ S=>wn (wCx Δ f) (F0 Δ es) ρ S λ_ S1=>D.nx ρ S1
 | Δ,.tryx n _ j _ Dc b=>λD ρ S=>∃ Xp:XCls->Sto->Prop,(∀ c S',Xp c S'->Dc∈c.un/\D.nx ((WL n none).set j (some (.exc c))) S')/\wSs (setE Δ Xp) b D ρ S
 | Δ,.no=>λ_ _ _=>False
noncomputable def wSs:(Nat->Sn)->List Stm->WS
 | Δ,[]=>λD ρ S=>D.nx ρ S
 | Δ,s::ss=>λD ρ S=>wSt Δ s {D with nx:=wSs Δ ss D} ρ S
end
theorem v4{α:Type}{P:Prop}{x:α}(h:(none:Option α)=some x):P:=nomatch h
noncomputable def MW(scope sc:Zi):Zi:={scope with names:=scope.names.map λ(n,k)=>if (k == .free&&sc.kind == .function&&sc.names.lookup n == some .cell) then (n,.cell) else (n,k)}
noncomputable def c8:Expr->Bool
 | .Starred ..=>false
 | _=>true
theorem g9{e:Expr}{es:List Expr}{env:Env}(h:c8 e=true):Zg (e::es) env=(false,eval e env)::Zg es env:=by
 cases e<;>first | rfl | cases h
theorem B4{env:Env}{pos:Pos}:∀{es:List Expr},es.all c8=true->(backTo pos (Zg es env)).any (·.1)=false
 | [],_=>rfl
 | e::es,h=>by
   rw[Ww,Vo]at h;rw[g9 h.1];exact B4 (es:=es) h.2
theorem EL{env:Env}{pos:Pos}:∀{es:List Expr},es.all c8=true->(backTo pos (Zg es env)).all (λx=>!x.1)=true
 | [],_=>rfl
 | e::es,h=>by
   rw[Ww,Vo]at h;rw[g9 h.1];exact EL (es:=es) h.2
noncomputable def glo(sc:Zi)(x:Str):Bool:=sc.names.lookup x == some .globalImplicit&&!(x == ("__name__":Str))&&!(x == ("__debug__":Str))
noncomputable def vis(sc:Zi)(x:Str):Bool:=sc.names.lookup x == some .local||sc.names.lookup x == some .cell||sc.names.lookup x == some .free
noncomputable def loc(sc:Zi)(x:Str):Bool:=sc.names.lookup x == some .local||sc.names.lookup x == some .cell
noncomputable def SJ:SV->Const->Bool
 | .non,.none=>true
 | .bl a,.bool b=>a == b
 | .int i,.int j=>decide (i=j)
 | .str x,.str y=>decide (x=y)
 | _,_=>false
noncomputable def BS:Expr->Bool
 | .Slice ..=>false
 | _=>true
noncomputable def BA:Expr->Bool
 | .Set ..=>false
 | _=>true
noncomputable def HQ:Expr->Bool
 | .UnaryOp .Not _ _=>false
 | .BoolOp ..=>false
 | .IfExp ..=>false
 | .Compare ..=>false
 | _=>true
noncomputable def Bf:Expr->Bool
 | .Call (.Name _ _) [] [] _=>false
 | _=>true
noncomputable def Ac:Expr->Option Str
 | .Name x _=>some x
 | _=>none
noncomputable def MX:Expr->Option Const
 | .Constant k _ _=>some k
 | _=>none
noncomputable def Uh:Expr->Option (Expr×A0R×Expr)
 | .BinOp a o b _=>some (a,o,b)
 | _=>none
noncomputable def vUn:Expr->Option (UnaryOp×Expr)
 | .UnaryOp o a _=>some (o,a)
 | _=>none
noncomputable def SK:Expr->Option (Expr×List CmpOp×List Expr)
 | .Compare a os bs _=>some (a,os,bs)
 | _=>none
noncomputable def MY:Expr->Option (BoolOp×List Expr×Pos)
 | .BoolOp o vs p=>some (o,vs,p)
 | _=>none
noncomputable def Ui:Expr->Option (Expr×Expr×Expr)
 | .IfExp t a b _=>some (t,a,b)
 | _=>none
noncomputable def F1:Expr->Option (List Expr)
 | .Tuple es _ _=>some es
 | _=>none
noncomputable def Uj:Expr->Option (List Expr)
 | .List es _=>some es
 | _=>none
noncomputable def Oz:Expr->Option (Expr×Expr)
 | .Subscript a b _=>some (a,b)
 | _=>none
noncomputable def Uk:Expr->Option (Option Expr×Option Expr×Option Expr)
 | .Slice l h s _=>some (l,h,s)
 | _=>none
noncomputable def DN:Expr->Option (Expr×List Expr×List Keyword)
 | .Call f as ks _=>some (f,as,ks)
 | _=>none
noncomputable def HR:Expr->Nat
 | .Call _ _ _ p=>p.line
 | _=>0
noncomputable def MZ:Expr->Option (Expr×Str×Nat)
 | .Attribute o n p=>some (o,n,p.endLine)
 | _=>none
noncomputable def QV:Expr->Option (Expr×List A0O×Zi)
 | .ListComp e gs s _=>some (e,gs,s)
 | _=>none
noncomputable def SL:Expr->Option (Str×Expr×Zi×Pos)
 | .Lambda ⟨[],[a],none,[],[],none,[]⟩ b s p=>some (a.arg,b,s,p)
 | _=>none
theorem P1{r:Expr}{x:Str×Expr×Zi×Pos}(h:SL r=some x):∃ an ap,r = .Lambda ⟨[],[⟨x.1,an,ap⟩],none,[],[],none,[]⟩ x.2.1 x.2.2.1 x.2.2.2:=by
 unfold SL at h;split at h
 ·rename_i a b s p;cases a;cases h;exact⟨_,_,rfl⟩
 ·exact v4 h
noncomputable def QW:Expr->Option (List (Option Expr)×List Expr)
 | .Dict ks vs _=>some (ks,vs)
 | _=>none
theorem Ma{r:Expr}{x:List (Option Expr)×List Expr}(h:QW r=some x):∃ p,r = .Dict x.1 x.2 p:=by cases r<;>first | (cases h;exact⟨_,rfl⟩) | exact v4 h
theorem y4{r:Expr}{x:Str}(h:Ac r=some x):∃ p,r = .Name x p:=by cases r<;>first | (cases h;exact⟨_,rfl⟩) | exact v4 h
theorem K4{r:Expr}{x:Const}(h:MX r=some x):∃ j p,r = .Constant x j p:=by cases r<;>first | (cases h;exact⟨_,_,rfl⟩) | exact v4 h
theorem P4{r:Expr}{x:Expr×A0R×Expr}(h:Uh r=some x):∃ p,r = .BinOp x.1 x.2.1 x.2.2 p:=by cases r<;>first | (cases h;exact⟨_,rfl⟩) | exact v4 h
theorem Mb{r:Expr}{x:UnaryOp×Expr}(h:vUn r=some x):∃ p,r = .UnaryOp x.1 x.2 p:=by cases r<;>first | (cases h;exact⟨_,rfl⟩) | exact v4 h
theorem Ig{r:Expr}{x:Expr×List CmpOp×List Expr}(h:SK r=some x):∃ p,r = .Compare x.1 x.2.1 x.2.2 p:=by cases r<;>first | (cases h;exact⟨_,rfl⟩) | exact v4 h
theorem Fj{r:Expr}{x:BoolOp×List Expr×Pos}(h:MY r=some x):r = .BoolOp x.1 x.2.1 x.2.2:=by cases r<;>first | (cases h;exact rfl) | exact v4 h
theorem P5{r:Expr}{x:Expr×Expr×Expr}(h:Ui r=some x):∃ p,r = .IfExp x.1 x.2.1 x.2.2 p:=by cases r<;>first | (cases h;exact⟨_,rfl⟩) | exact v4 h
theorem Bg{r:Expr}{x:List Expr}(h:F1 r=some x):∃ j p,r = .Tuple x j p:=by cases r<;>first | (cases h;exact⟨_,_,rfl⟩) | exact v4 h
theorem P6{r:Expr}{x:List Expr}(h:Uj r=some x):∃ p,r = .List x p:=by cases r<;>first | (cases h;exact⟨_,rfl⟩) | exact v4 h
theorem F2{r:Expr}{x:Expr×Expr}(h:Oz r=some x):∃ p,r = .Subscript x.1 x.2 p:=by cases r<;>first | (cases h;exact⟨_,rfl⟩) | exact v4 h
theorem P7{r:Expr}{x:Option Expr×Option Expr×Option Expr}(h:Uk r=some x):∃ p,r = .Slice x.1 x.2.1 x.2.2 p:=by cases r<;>first | (cases h;exact⟨_,rfl⟩) | exact v4 h
theorem DO{r:Expr}{x:Expr×List Expr×List Keyword}(h:DN r=some x):∃ p,r = .Call x.1 x.2.1 x.2.2 p/\HR r=p.line:=by cases r<;>first | (cases h;exact⟨_,rfl,rfl⟩) | exact v4 h
theorem Mc{r:Expr}{x:Expr×Str×Nat}(h:MZ r=some x):∃ p,r = .Attribute x.1 x.2.1 p/\x.2.2=p.endLine:=by cases r<;>first | (cases h;exact⟨_,rfl,rfl⟩) | exact v4 h
theorem Md{r:Expr}{x:Expr×List A0O×Zi}(h:QV r=some x):∃ p,r = .ListComp x.1 x.2.1 x.2.2 p:=by cases r<;>first | (cases h;exact⟨_,rfl⟩) | exact v4 h
theorem c3{α:Type}{o:Option α}{p:α->Bool}(h:o.any p=true):∃ x,o=some x/\p x=true:=by
 cases o with
 | none=>cases h
 | some x=>exact⟨x,rfl,h⟩
theorem Ad{α:Type}{l:List α}{x:α}(h:l.head?=some x):l=x::l.tail:=by
 cases l with
 | nil=>cases h
 | cons y r=>cases h;rfl
noncomputable def l1{α:Type}:List α->Option α
 | [x]=>some x
 | _=>none
noncomputable def l2{α:Type}:List α->Option (α×α)
 | [x,y]=>some (x,y)
 | _=>none
theorem A0{α:Type}{l:List α}{x:α}(h:l1 l=some x):l=[x]:=by
 match l,h with
 | [y],h=>cases h;rfl
theorem CB{α:Type}{l:List α}{x:α×α}(h:l2 l=some x):l=[x.1,x.2]:=by
 match l,h with
 | [y,z],h=>cases h;rfl
noncomputable def l3{α:Type}:List α->Option (α×α×α)
 | [x,y,z]=>some (x,y,z)
 | _=>none
noncomputable def P8(r:Expr):Option (Str×List Expr×Keyword):=(DN r).bind λc=>match c.2.2 with
 | [kw]=>(Ac c.1).map λx=>(x,c.2.1,kw)
 | _=>none
theorem Ih{r:Expr}{x:Str×List Expr×Keyword}(h:P8 r=some x):∃ p q,r = .Call (.Name x.1 p) x.2.1 [x.2.2] q:=by
 unfold P8 at h;cases hc:DN r with
 | none=>rw[hc]at h;cases h
 | some c=>
   rw[hc]at h;obtain⟨q,e,_⟩:=DO hc;obtain⟨f,as,ks⟩:=c
   match ks,h with
   | [kw],h=>
     replace h:(Ac f).map (λx=>(x,as,kw))=some x:=h;cases hn:Ac f with
     | none=>rw[hn]at h;cases h
     | some nm=>
       rw[hn]at h;cases h;obtain⟨p,e2⟩:=y4 hn;exact⟨p,q,by rw[e,e2]⟩
   | [],h=>cases h
   | _::_::_,h=>cases h
noncomputable def vFn(r:Expr):Option (Str×List Expr):=(DN r).bind λc=>if c.2.2.isEmpty then (Ac c.1).map λx=>(x,c.2.1) else none
theorem y0{r:Expr}{x:Str×List Expr}(h:vFn r=some x):∃ p q,r = .Call (.Name x.1 p) x.2 [] q:=by
 unfold vFn at h;cases hc:DN r with
 | none=>rw[hc]at h;cases h
 | some c=>
   rw[hc]at h;obtain⟨q,e,_⟩:=DO hc;simp only[Xx]at h;by_cases hk:c.2.2.isEmpty=true
   ·rw[iP hk]at h;cases hn:Ac c.1 with
    | none=>rw[hn]at h;cases h
    | some y=>
      rw[hn]at h;cases h;obtain⟨p,ep⟩:=y4 hn;rw[e,ep,Wp.mp hk];exact⟨p,q,rfl⟩
   ·rw[iG hk]at h;cases h
noncomputable def vMt(r:Expr):Option (Expr×Str×List Expr):=(DN r).bind λc=>if c.2.2.isEmpty then (MZ c.1).bind λa=>if a.2.2 == HR r then some (a.1,a.2.1,c.2.1) else none else none
theorem Mf{r:Expr}{x:Expr×Str×List Expr}(h:vMt r=some x):∃ ap cp,r = .Call (.Attribute x.1 x.2.1 ap) x.2.2 [] cp/\(ap.endLine == cp.line)=true:=by
 unfold vMt at h;cases hc:DN r with
 | none=>rw[hc]at h;cases h
 | some c=>
   rw[hc]at h;obtain⟨q,e,el⟩:=DO hc;simp only[Xx]at h;by_cases hk:c.2.2.isEmpty=true
   ·rw[iP hk]at h;cases hn:MZ c.1 with
    | none=>rw[hn]at h;cases h
    | some y=>
      rw[hn]at h;simp only[Xx]at h;obtain⟨p,ep,el2⟩:=Mc hn;by_cases hl:(y.2.2 == HR r)=true
      ·rw[iP hl]at h;cases h;refine⟨p,q,?_,?_⟩
       ·rw[e,ep,Wp.mp hk]
       ·rw[<-el2,<-el];exact hl
      ·rw[iG hl]at h;cases h
   ·rw[iG hk]at h;cases h
mutual
noncomputable def Bp(k:Nat)(N:List Str)(sc:Zi):Tg->Expr->Bool
 | .nm i,r=>(Ac r).any λx=>decide (i<k)&&decide (N[i]?=some x)&&loc sc x
 | .tup ts,r=>(F1 r).any λes=>AW k N sc ts es
noncomputable def AW(k:Nat)(N:List Str)(sc:Zi):Tgs->List Expr->Bool
 | .nil,r=>r.isEmpty
 | .cons t ts,r=>(r.head?).any λe=>Bp k N sc t e&&c8 e&&AW k N sc ts r.tail
end
noncomputable def nmB(N:List Str)(sc:Zi)(i:Nat)(x:Str):Bool:=decide (N[i]?=some x)&&vis sc x&&!(x == ("__debug__":Str))&&!(x == ("__classdict__":Str))
mutual
noncomputable def j8(T:List Str)(N:List Str)(sc:Zi):Ex->Expr->Bool
 | .var i,r=>(Ac r).any λx=>nmB N sc i x
 | .c x,r=>(MX r).any λk=>SJ x k
 | .op o a b,r=>(Uh r).any λv=>decide (o=v.2.1)&&j8 T N sc a v.1&&j8 T N sc b v.2.2
 | .neg a,r=>(vUn r).any λv=>decide (v.1 = .USub)&&j8 T N sc a v.2
 | .cmp o a b,r=>(SK r).any λv=>(l1 v.2.2).any λrb=>decide (v.2.1=[o])&&j8 T N sc a v.1&&j8 T N sc b rb&&BA rb
 | .chn o p a b c,r=>(SK r).any λv=>(l2 v.2.2).any λrs=>decide (v.2.1=[o,p])&&j8 T N sc a v.1&&j8 T N sc b rs.1&&j8 T N sc c rs.2&&BA rs.2
 | .and a b,r=>(MY r).any λv=>decide (v.1 = .And)&&(v.2.1.head?).any λx=>j8 T N sc a x&&(match l1 v.2.1.tail with | some y=>j8 T N sc b y | none=>decide (2<=v.2.1.tail.length)&&j8 T N sc b (.BoolOp .And v.2.1.tail v.2.2))
 | .or a b,r=>(MY r).any λv=>decide (v.1 = .Or)&&(v.2.1.head?).any λx=>j8 T N sc a x&&(match l1 v.2.1.tail with | some y=>j8 T N sc b y | none=>decide (2<=v.2.1.tail.length)&&j8 T N sc b (.BoolOp .Or v.2.1.tail v.2.2))
 | .not a,r=>(vUn r).any λv=>decide (v.1 = .Not)&&j8 T N sc a v.2
 | .ife t a b,r=>(Ui r).any λv=>j8 T N sc t v.1&&j8 T N sc a v.2.1&&j8 T N sc b v.2.2
 | .tup es,r=>(F1 r).any λrs=>Ae T N sc es rs
 | .lst es,r=>(Uj r).any λrs=>Ae T N sc es rs
 | .ix a b,r=>(Oz r).any λv=>j8 T N sc a v.1&&j8 T N sc b v.2&&BS v.2
 | .slc a lo hi,r=>(Oz r).any λv=>(Uk v.2).any λs=>j8 T N sc a v.1&&Mg T N sc lo s.1&&Mg T N sc hi s.2.1&&s.2.2.isNone
 | .call f es,r=>(vFn r).any λv=>decide (f+1<T.length/\T[f]?=some v.1)&&glo sc v.1&&Ae T N sc es v.2&&!v.2.isEmpty
 | .bi b es,r=>(vFn r).any λv=>decide (b.name=v.1)&&glo sc v.1&&Ae T N sc es v.2&&!v.2.isEmpty
 | .mt m a es,r=>(vMt r).any λv=>decide (v.2.1=m.name)&&Bf v.1&&decide (v.2.2.length<29)&&j8 T N sc a v.1&&Ae T N sc es v.2.2
 | .comp own cn js g it t e,r=>(QV r).any λv=>(l1 v.2.1).any λc=>decide (c.is_async=0)&&y7 sc v.2.2 own cn N js&&Bp own.length (own++cn) (MW v.2.2 sc) g c.target&&SM T N sc it c.target c.iter&&BA c.iter&&Ii T (own++cn) (MW v.2.2 sc) t c.ifs&&j8 T (own++cn) (MW v.2.2 sc) e v.1
 | .tyc t,r=>(Ac r).any λx=>decide (x=Str.ofString t.nm)&&glo sc x&&decide (t ≠ .none)
 | .lrng1 a,r=>(vFn r).any λv=>(l1 v.2).any λz=>(vFn z).any λu=>(l1 u.2).any λra=>decide (v.1=("list":Str))&&decide (u.1=("range":Str))&&glo sc v.1&&glo sc u.1&&j8 T N sc a ra&&c8 ra
 | .lrng2 a b,r=>(vFn r).any λv=>(l1 v.2).any λz=>(vFn z).any λu=>(l2 u.2).any λra=>decide (v.1=("list":Str))&&decide (u.1=("range":Str))&&glo sc v.1&&glo sc u.1&&j8 T N sc a ra.1&&c8 ra.1&&j8 T N sc b ra.2&&c8 ra.2
 | .mind a d,r=>(P8 r).any λv=>(l1 v.2.1).any λra=>decide (v.1=("min":Str))&&glo sc v.1&&j8 T N sc a ra&&j8 T N sc d v.2.2.value&&c8 ra&&decide (v.2.2.arg=some ("default":Str))
 | .setd d e v,r=>(vMt r).any λu=>(l2 u.2.2).any λra=>decide (u.2.1=("setdefault":Str))&&Bf u.1&&j8 T N sc d u.1&&j8 T N sc e ra.1&&c8 ra.1&&j8 T N sc v ra.2&&c8 ra.2
 | .dnewp,r=>(QW r).any λv=>v.1.isEmpty&&v.2.isEmpty
 | .srtk x lp j y cn js a e,r=>(P8 r).any λv=>(l1 v.2.1).any λra=>(SL v.2.2.value).any λl=>decide (v.1=("sorted":Str))&&glo sc v.1&&j8 T N sc a ra&&c8 ra&&decide (v.2.2.arg=some ("key":Str))&&decide (T.getLast?=some x)&&decide (l.1=y)&&decide (l.2.2.2=lp)&&Bn sc l.2.2.1 [y] cn N js&&j8 [] (y::cn) l.2.2.1 e l.2.1
 | .isx a x,r=>(vFn r).any λv=>(l2 v.2).any λra=>decide (v.1=("isinstance":Str))&&glo sc v.1&&j8 T N sc a ra.1&&c8 ra.1&&(Ac ra.2 == some x)&&glo sc x
 | .isv a,r=>(vFn r).any λv=>(l2 v.2).any λra=>decide (v.1=("isinstance":Str))&&glo sc v.1&&j8 T N sc a ra.1&&c8 ra.1&&(Ac ra.2 == some ("ValueError":Str))&&glo sc "ValueError"
 | .srtset a,r=>(vFn r).any λv=>(l1 v.2).any λz=>(vFn z).any λu=>(l1 u.2).any λra=>decide (v.1=("sorted":Str))&&decide (u.1=("set":Str))&&glo sc v.1&&glo sc u.1&&j8 T N sc a ra&&c8 ra
 | .setl a,r=>(vFn r).any λv=>(l1 v.2).any λra=>decide (v.1=("set":Str))&&glo sc v.1&&j8 T N sc a ra&&c8 ra
 | .no,_=>true
noncomputable def Ae(T:List Str)(N:List Str)(sc:Zi):Exs->List Expr->Bool
 | .nil,r=>r.isEmpty
 | .cons e es,r=>(r.head?).any λx=>j8 T N sc e x&&c8 x&&Ae T N sc es r.tail
noncomputable def Mg(T:List Str)(N:List Str)(sc:Zi):Eo->Option Expr->Bool
 | .no,r=>r.isNone
 | .yes e,r=>r.any λx=>j8 T N sc e x
noncomputable def Ii(T:List Str)(N:List Str)(sc:Zi):Eo->List Expr->Bool
 | .no,r=>r.isEmpty
 | .yes e,r=>(l1 r).any λx=>j8 T N sc e x
noncomputable def SM(T:List Str)(N:List Str)(sc:Zi):Itb->Expr->Expr->Bool
 | .seq e,_,r=>j8 T N sc e r
 | .rng1 a,_,r=>(vFn r).any λv=>(l1 v.2).any λra=>decide (v.1=("range":Str))&&glo sc v.1&&j8 T N sc a ra&&c8 ra
 | .rng2 a b,_,r=>(vFn r).any λv=>(l2 v.2).any λra=>decide (v.1=("range":Str))&&glo sc v.1&&j8 T N sc a ra.1&&c8 ra.1&&j8 T N sc b ra.2&&c8 ra.2
 | .enum e,tg,r=>(F1 tg).isSome&&(vFn r).any λv=>(l1 v.2).any λa=>decide (v.1=("enumerate":Str))&&glo sc v.1&&j8 T N sc e a&&c8 a
end
noncomputable def spS(K:Vn)(w:Sn):Sp:=λvs H Q _=>∃ as S xs,Ok K as H S/\RlAll K as H vs xs/\w xs S (Post K as H Q)
structure Cal(P:Zd)(w:Zf)(K:Vn)(mg:Str->Option ZW)(base:Heap)(k:Nat)(x:Str)(ps:List Str)(sp:Sp):Prop where
 ex:∃ f fd,FnOk P w K mg base CX0 k f fd ps sp/\mg x=some (.ref f)/\PySem.W.keepIn K (.ref f)=true/\Binds K fd ps []
noncomputable def Me(X:Cx)(x:Str):Prop:=X.env.qual=x++".<locals>."/\(∀ c P,TabK X.K x c P->X.env.code = .ref c)/\X.A.depth+2<A0c/\X.A.units+110<cLine
structure NsK(K:Vn)(mg:Str->Option ZW):Prop where
 on:∀ x v,PySem.W.nsIn K Za x=some (some v)->mg x=some v
 off:∀ x,PySem.W.nsIn K Za x=some none->mg x=none
structure Cok(T:List Str)(Δ:Nat->Sn)(X:Cx)(k:Nat)(N:List Str)(sc:Zi):Prop where
 hN:X.N=N
 hs:X.env.scope=sc
 nd:N.Nodup
 calm:X.calm=true
 fn:∀ i x,i<k->N[i]?=some x->sc.names.lookup x=some .cell->X.fn x=true
 un:X.A.units+102<cLine
 bl:∀ b:BI,X.mg b.name=none
 rng:X.mg "range"=none
 enm:X.mg "enumerate"=none
 rvs:X.mg "reversed"=none
 zip:X.mg "zip"=none
 sm0:X.mg "sum"=none
 st0:X.mg "set"=none
 dc0:X.mg "dict"=none
 ty:∀ t:TyN,t ≠ .none->X.mg (Str.ofString t.nm)=none
 gd:X.A.guards=some []
 ns:NsK X.K X.mg
 me:∀ x,T.getLast?=some x->Me X x
 call:∀ f x,f+1<T.length->T[f]?=some x->∃ k ps,Cal X.prog X.w X.K X.mg X.base k x ps (spS X.K (Δ f))/\Room k X.A
 mono:∀ f,MonoN (Δ f)
noncomputable def isCmp:Expr->Bool
 | .ListComp ..=>true
 | .DictComp ..=>true
 | _=>false
noncomputable def AsgC(X:Cx)(r:Expr)(w:WE):Prop:=∀(i:Nat) (x:Str) (px spos:Pos),X.N.Nodup->X.N[i]?=some x->X.env.scope.names.lookup x=some .local->A0f r (some (.Name x px)) spos.line X.env=pure true->PS X (.Assign [.Name x px] r spos) (Gj (lift X.K w) (FO i))
structure Good(X:Cx)(r:Expr)(w:WE×WT):Prop where
 pe:PE X r (lift X.K w.1)
 pt:PT X r (liftT X.K w.2)
 m:Mono w.1
 mt:MonoT w.2
 pw:∀ op vs p,r = .BoolOp op vs p->PW X r (liftT X.K w.2)
 cg:isCmp r=true->AsgC X r w.1:=by intro h;cases h
section
variable{X:Cx}{r:Expr}{w:WE}
theorem MonoT.tru(m:Mono w):MonoT (SB w):=λρ S P P' i h=>m _ _ _ _ (λx S' ⟨b,e,q⟩=>⟨b,e,i _ _ q⟩) h
theorem MonoT.bl(m:Mono w):MonoT (wBl w):=λρ S P P' i h=>m _ _ _ _ (λx S' ⟨b,e,q⟩=>⟨b,e,i _ _ q⟩) h
theorem SN{K:Vn}{as:List ZY}{H:Hp}{S:Sto}{x:SV}{v:V}{b:Bool}(ok:Ok K as H S)(r:Rl K as H v x)(e:SA x S=some b):OH K v H b:=by
 cases x with
 | bl c=>cases e;rw[rl_bl.mp r];exact rfl
 | tup xs=>
   cases e;obtain⟨p,vs,rfl,hp,rp⟩:=rl_tup.mp r;refine .inr (.inl ⟨vs,SqT.of hp,?_⟩);have:=rp.length;cases vs<;>cases xs<;>first | rfl | (simp at this)
 | loc k=>
   unfold SA at e;cases hs:S[k]? with
   | none=>simp only[hs]at e;cases e
   | some o=>
     cases o with
     | lst xs=>
       simp only[hs]at e;cases e;obtain⟨a,vs,rfl,_,ha,rr⟩:=v7 ok r hs;refine .inl ⟨vs,SqL.of ha,?_⟩;have:=rr.length;cases vs<;>cases xs<;>first | rfl | (simp at this)
     | iset _=>simp only[hs]at e;cases e
     | dtl _=>simp only[hs]at e;cases e
     | dtf _ _ _=>simp only[hs]at e;cases e
     | dtp _=>simp only[hs]at e;cases e
     | dct _=>simp only[hs]at e;cases e
     | dcf _ _ _=>simp only[hs]at e;cases e
     | tbl _ _=>simp only[hs]at e;cases e
 | _=>cases e
theorem Dz{env:Env}(h:HQ r=true):∀ whole,isTrue r env whole=(do let v <- whole;standAt r.pos;holding [v] (truthy v)):=by
 intro whole;cases r<;>first | rfl | (cases h;done) | (rename_i o _ _;cases o<;>first | rfl | cases h)
theorem P9{K:Vn}(m:Mono w):∀ σ H Q,liftT K (SB w) σ H Q->lift K w σ H λx H'=>∃ k,OH K x H' k/\Q k H':=by
 rintro σ H Q ⟨as,ρ,S,ok,en,h⟩;exact⟨as,ρ,S,ok,en,m _ _ _ _ (λx S' ⟨b,e,q⟩ as' H' v g ok' r=>⟨b,SN ok' r e,q as' H' g ok'⟩) h⟩
theorem Mh{K:Vn}(m:Mono w):∀ σ H Q,liftT K (wBl w) σ H Q->lift K w σ H λx H'=>∃ k,x = .bl k/\Q k H':=by
 rintro σ H Q ⟨as,ρ,S,ok,en,h⟩;exact⟨as,ρ,S,ok,en,m _ _ _ _ (λx S' ⟨b,e,q⟩ as' H' v g ok' r=>⟨b,by subst e;exact rl_bl.mp r,q as' H' g ok'⟩) h⟩
theorem Good.one(hp:PE X r (lift X.K w))(m:Mono w)(h:HQ r=true)(hc:isCmp r=true->AsgC X r w:=by intro h;cases h):Good X r (tt1 w) where
 cg:=hc
 pe:=hp
 pt:=Es _ (LG hp (Dz h)) (P9 m)
 m:=m
 mt := .tru m
 pw:=λop vs p e=>by rw[e]at h;cases h
theorem Mi{X:Cx}{r:Expr}:PE X r (lift X.K λ_ _ _=>False):=λ_ _ _ _ _ _ h=>let ⟨_,_,_,_,_,z⟩:=h;z.elim
theorem Fk{X:Cx}{r:Expr}:PT X r (liftT X.K λ_ _ _=>False):=λ_ _ _ _ _ _ h=>let ⟨_,_,_,_,_,z⟩:=h;z.elim
theorem Mj{X:Cx}{r:Expr}:PW X r (liftT X.K λ_ _ _=>False):=λ_ _ _ _ _ _ _ h=>let ⟨_,_,_,_,_,z⟩:=h;z.elim
theorem Good.never:Good X r (λ_ _ _=>False,λ_ _ _=>False):=⟨Mi,Fk,λ_ _ _ _ _ h=>h,λ_ _ _ _ _ h=>h,λ_ _ _ _=>Mj,λ_ _ _ _ _ _ _ _ _ _ _ _ _ _ _ h=>let ⟨_,_,_,_,_,z⟩:=h;z.elim⟩
end
theorem Ij{o:A0R}:Mono2 (sOp o):=by
 unfold sOp;split<;>first | exact .add | exact .int0 | exact .mul | exact .int | exact λ_ _ _ _ _ _ h=>h
theorem AM{o:CmpOp}:Mono2 (B3 o):=by
 unfold B3;split<;>first | exact .eq | exact .ne | exact .int0 | exact .in' | exact .isN
section
variable{X:Cx}
theorem Ml{o:A0R}{ra rb:Expr}{p:Pos}{wa wb:WE}(ha:PE X ra (lift X.K wa))(hb:PE X rb (lift X.K wb))(ma:Mono wa)(mb:Mono wb):PE X (.BinOp ra o rb p) (lift X.K (w2 (sOp o) wa wb)):=by
 have go:∀{s:S2} {rr:R2},Mono2 s->OpR X (A0i o) rr->Bx X.K s rr->PE X (.BinOp ra o rb p) (lift X.K (w2 s wa wb)):=λms ho sim=>j0 _ (Ty ho ha hb) (Cq sim ms ma mb);have no:PE X (.BinOp ra o rb p) (lift X.K (w2 (λ_ _ _ _=>False) wa wb)):=go (λ_ _ _ _ _ _ h=>h) (rr:=λ_ _ _ _=>False) (λ_ _ _ _ _ _ _ _ _ _ _ _ h=>h.elim) (λ_ _ _ _ _ _ _ _ _ _ _ h=>h);cases o with
 | Add=>exact go .add Oh Oi
 | Sub=>exact go .int0 RD (BR λ_ _ _ _=>rl_int.mpr rfl)
 | Mult=>exact go .mul (op_mul.or RW) Oj
 | FloorDiv=>exact go .int OE (Eu λ_ _ _ _=>rl_int.mpr rfl)
 | Mod=>exact go .int RE (Eu λ_ _ _ _=>rl_int.mpr rfl)
 | Pow=>exact go .int RF (Eu λ_ _ _ _=>rl_int.mpr rfl)
 | _=>exact no
theorem DP(o:CmpOp)(hu:X.A.units<cLine):∃ rr:R2,OpR X (Zl o) rr/\Bx X.K (B3 o) rr:=by
 cases o with
 | Eq=>exact⟨_,op_eq.or ((RZ hu).or (Of hu)),Rv⟩
 | NotEq=>exact⟨_,op_ne.or (Ra hu),Rw⟩
 | Lt=>exact⟨_,U3,BR λ_ _ _ _=>rl_bl.mpr rfl⟩
 | LtE=>exact⟨_,U4,BR λ_ _ _ _=>rl_bl.mpr rfl⟩
 | Gt=>exact⟨_,U5,BR λ_ _ _ _=>rl_bl.mpr rfl⟩
 | GtE=>exact⟨_,U6,BR λ_ _ _ _=>rl_bl.mpr rfl⟩
 | Is=>exact⟨_,RJ,Om⟩
 | IsNot=>exact⟨_,op_notN.or Jg,MC⟩
 | In=>exact⟨_,Ry,MB⟩
 | NotIn=>exact⟨_,Jx,MB⟩
theorem DQ{o:CmpOp}{r:Expr}(h:BA r=true):A1i o r=false:=by
 cases r<;>first | rfl | cases h
theorem K5{o:CmpOp}{ra rb:Expr}{p:Pos}{wa wb:WE}(hu:X.A.units<cLine)(ha:PE X ra (lift X.K wa))(hb:PE X rb (lift X.K wb))(ma:Mono wa)(mb:Mono wb)(hn:BA rb=true):Good X (.Compare ra [o] [rb] p) (tt2 (w2 (B3 o) wa wb)):=by
 obtain⟨rr,ho,sim⟩:=DP (X:=X) o hu;have m:Mono (w2 (B3 o) wa wb) := .two AM ma mb
 exact{pe:=j0 _ (OF ho ha hb (DQ hn)) (Cq sim AM ma mb)
       pt:=Es _ (OG ho ha hb (DQ hn)) λσ H Q h=>Cq sim AM ma mb σ H _ (Mh m σ H Q h)
       m:=m
       mt := .bl m
       pw:=λ_ _ _ e=>by cases e}
theorem Fl{o p:CmpOp}{a b c:WE}(ma:Mono a)(mb:Mono b)(mc:Mono c):Mono (ML (B3 o) (B3 p) a b c):=λρ S P P' i h=>ma _ _ _ _ (λx S1 h=>mb _ _ _ _ (λy S2 h=>AM _ _ _ _ _ (λz S3 ⟨k,e,q⟩=>⟨k,e,by
 cases k with
 | true=>rw[iP rfl]at q ⊢;exact mc _ _ _ _ (λu S4 h=>AM _ _ _ _ _ i h) q
 | false=>rw[iG Vz]at q ⊢;exact i _ _ q⟩) h) h) h
theorem Ik{K:Vn}{o p:CmpOp}{r r':R2}{a b c:WE}(s1:Bx K (B3 o) r)(s2:Bx K (B3 p) r')(ma:Mono a)(mb:Mono b)(mc:Mono c):∀ σ H Q,lift K (ML (B3 o) (B3 p) a b c) σ H Q->Gn r r' (lift K a) (lift K b) (lift K c) σ H Q:=by
 rintro σ H Q ⟨as,ρ,S,ok,en,h⟩;refine⟨as,ρ,S,ok,en,ma _ _ _ _ (λx S1 h as1 H1 v g1 ok1 rv=>?_) h⟩;refine⟨as1,ρ,S1,ok1,en.mono g1.pre (g1.ku ok),mb _ _ _ _ (λy S2 h as2 H2 u g2 ok2 ru=>?_) h⟩;refine s1 as2 H2 S2 x y v u _ ok2 (Rl.mono g2.pre (g2.ku ok1) x v rv) ru (AM _ _ _ _ _ (λz S3 ⟨k,e,q⟩ as3 H3 t g3 ok3 rt=>?_) h);subst e;refine⟨k,rl_bl.mp rt,?_⟩;cases k with
 | true=>
   rw[iP rfl]at q ⊢;refine⟨as3,ρ,S3,ok3,(en.mono g1.pre (g1.ku ok)).mono (g2.trans g3).pre ((g2.trans g3).ku ok1),mc _ _ _ _ (λn S4 h as4 H4 m g4 ok4 rm=>?_) q⟩;exact s2 as4 H4 S4 y n u m Q ok4 (Rl.mono (g3.trans g4).pre ((g3.trans g4).ku ok2) y u ru) rm (AM _ _ _ _ _ (λf S5 hf=>hf.mono (((g1.trans g2).trans g3).trans g4)) h)
 | false=>
   rw[iG Vz]at q ⊢;exact q as3 H3 _ ((g1.trans g2).trans g3) ok3 (rl_bl.mpr rfl)
theorem K6{o q:CmpOp}{ra rb rc:Expr}{p:Pos}{wa wb wc:WE}(hu:X.A.units<cLine)(ha:PE X ra (lift X.K wa))(hb:PE X rb (lift X.K wb))(hc:PE X rc (lift X.K wc))(ma:Mono wa)(mb:Mono wb)(mc:Mono wc)(hn:BA rc=true):Good X (.Compare ra [o,q] [rb,rc] p) (tt2 (ML (B3 o) (B3 q) wa wb wc)):=by
 obtain⟨r1,ho,sim⟩:=DP (X:=X) o hu;obtain⟨r2,hq,sim2⟩:=DP (X:=X) q hu;have m:Mono (ML (B3 o) (B3 q) wa wb wc):=Fl ma mb mc;have hm:A1Y [o,q] [rb,rc]=false:=DQ hn
 exact{pe:=j0 _ (LD ho hq ha hb hc hm) (Ik sim sim2 ma mb mc)
       pt:=Es _ (LF ho hq ha hb hc hm) λσ H Q h=>Ik sim sim2 ma mb mc σ H _ (Mh m σ H Q h)
       m:=m
       mt := .bl m
       pw:=λ_ _ _ e=>by cases e}
end
section
variable{K:Vn}
theorem n4{c:Bool}{A B A' B':Prop}(ha:A->A')(hb:B->B')(h:if c=true then A else B):if c=true then A' else B':=by
 cases c with
 | true=>rw[iP rfl]at h ⊢;exact ha h
 | false=>rw[iG Vz]at h ⊢;exact hb h
theorem Mono.and{a b:WE}(ma:Mono a)(mb:Mono b):Mono (MK a b):=λρ S P P' i h=>ma _ _ _ _ (λx S1 ⟨c,e,q⟩=>⟨c,e,n4 (mb _ _ _ _ i) (i _ _) q⟩) h
theorem Mono.or{a b:WE}(ma:Mono a)(mb:Mono b):Mono (wOr a b):=λρ S P P' i h=>ma _ _ _ _ (λx S1 ⟨c,e,q⟩=>⟨c,e,n4 (i _ _) (mb _ _ _ _ i) q⟩) h
theorem Mono.not{a:WE}(ma:Mono a):Mono (Ow a):=λρ S P P' i h=>ma _ _ _ _ (λx S1 ⟨c,e,q⟩=>⟨c,e,i _ _ q⟩) h
theorem MonoT.and{a b:WT}(ma:MonoT a)(mb:MonoT b):MonoT (DM a b):=λρ S P P' i h=>ma _ _ _ _ (λx S1 q=>n4 (mb _ _ _ _ i) (i _ _) q) h
theorem MonoT.or{a b:WT}(ma:MonoT a)(mb:MonoT b):MonoT (HJ a b):=λρ S P P' i h=>ma _ _ _ _ (λx S1 q=>n4 (i _ _) (mb _ _ _ _ i) q) h
theorem MonoT.not{a:WT}(ma:MonoT a):MonoT (Ie a):=λρ S P P' i h=>ma _ _ _ _ (λx S1 q=>i _ _ q) h
theorem Mono.ifE{t:WT}{a b:WE}(mt:MonoT t)(ma:Mono a)(mb:Mono b):Mono (Ox t a b):=λρ S P P' i h=>mt _ _ _ _ (λx S1 q=>n4 (ma _ _ _ _ i) (mb _ _ _ _ i) q) h
theorem Post.at{as as1:List ZY}{H H1:Hp}{Q:VK}{x:SV}{S:Sto}{v:V}(h:Post K as H Q x S)(g:Go as H as1 H1)(ok:Ok K as1 H1 S)(r:Rl K as1 H1 v x):Q v H1:=h as1 H1 v g ok r
theorem Il{a b:WE}(ma:Mono a)(mb:Mono b):∀ σ H Q,lift K (MK a b) σ H Q->Q9 (lift K a) (lift K b) σ H Q:=by
 rintro σ H Q ⟨as,ρ,S,ok,en,h⟩;refine⟨as,ρ,S,ok,en,ma _ _ _ _ (λx S1 ⟨c,e,q⟩ as1 H1 v g1 ok1 rv=>?_) h⟩;subst e;refine⟨c,rl_bl.mp rv,n4 (λq=>?_) (λq=>q.at g1 ok1 (rl_bl.mpr rfl)) q⟩;exact⟨as1,ρ,S1,ok1,en.mono g1.pre (g1.ku ok),mb _ _ _ _ (λy S2 h=>h.mono g1) q⟩
theorem Mm{a b:WE}(ma:Mono a)(mb:Mono b):∀ σ H Q,lift K (wOr a b) σ H Q->Tl (lift K a) (lift K b) σ H Q:=by
 rintro σ H Q ⟨as,ρ,S,ok,en,h⟩;refine⟨as,ρ,S,ok,en,ma _ _ _ _ (λx S1 ⟨c,e,q⟩ as1 H1 v g1 ok1 rv=>?_) h⟩;subst e;refine⟨c,rl_bl.mp rv,n4 (λq=>q.at g1 ok1 (rl_bl.mpr rfl)) (λq=>?_) q⟩;exact⟨as1,ρ,S1,ok1,en.mono g1.pre (g1.ku ok),mb _ _ _ _ (λy S2 h=>h.mono g1) q⟩
theorem PB{a:WE}(ma:Mono a):∀ σ H Q,lift K (Ow a) σ H Q->QA (lift K a) σ H Q:=by
 rintro σ H Q ⟨as,ρ,S,ok,en,h⟩;refine⟨as,ρ,S,ok,en,ma _ _ _ _ (λx S1 ⟨c,e,q⟩ as1 H1 v g1 ok1 rv=>?_) h⟩;subst e;exact⟨c,rl_bl.mp rv,q.at g1 ok1 (rl_bl.mpr rfl)⟩
theorem PostT.mono{as as1:List ZY}{H H1:Hp}{Q:Bool->Hp->Prop}{x:Bool}{S:Sto}(h:PostT K as H Q x S)(g:Go as H as1 H1):PostT K as1 H1 Q x S:=λas' H' g'=>h as' H' (g.trans g')
theorem Fm{a b:WT}(ma:MonoT a)(mb:MonoT b):∀ σ H Q,liftT K (DM a b) σ H Q->Tj (liftT K a) (liftT K b) σ H Q:=by
 rintro σ H Q ⟨as,ρ,S,ok,en,h⟩;refine⟨as,ρ,S,ok,en,ma _ _ _ _ (λc S1 q as1 H1 g1 ok1=>?_) h⟩;refine n4 (λq=>?_) (λq=>q as1 H1 g1 ok1) q;exact⟨as1,ρ,S1,ok1,en.mono g1.pre (g1.ku ok),mb _ _ _ _ (λy S2 h=>h.mono g1) q⟩
theorem Im{a b:WT}(ma:MonoT a)(mb:MonoT b):∀ σ H Q,liftT K (HJ a b) σ H Q->tOr (liftT K a) (liftT K b) σ H Q:=by
 rintro σ H Q ⟨as,ρ,S,ok,en,h⟩;refine⟨as,ρ,S,ok,en,ma _ _ _ _ (λc S1 q as1 H1 g1 ok1=>?_) h⟩;refine n4 (λq=>q as1 H1 g1 ok1) (λq=>?_) q;exact⟨as1,ρ,S1,ok1,en.mono g1.pre (g1.ku ok),mb _ _ _ _ (λy S2 h=>h.mono g1) q⟩
theorem Mn{a:WT}(ma:MonoT a):∀ σ H Q,liftT K (Ie a) σ H Q->Tk (liftT K a) σ H Q:=by
 rintro σ H Q ⟨as,ρ,S,ok,en,h⟩;exact⟨as,ρ,S,ok,en,ma _ _ _ _ (λc S1 q as1 H1 g1 ok1=>q as1 H1 g1 ok1) h⟩
theorem PC{t:WT}{a b:WE}(mt:MonoT t)(ma:Mono a)(mb:Mono b):∀ σ H Q,lift K (Ox t a b) σ H Q->tIf (liftT K t) (lift K a) (lift K b) σ H Q:=by
 rintro σ H Q ⟨as,ρ,S,ok,en,h⟩;refine⟨as,ρ,S,ok,en,mt _ _ _ _ (λc S1 q as1 H1 g1 ok1=>?_) h⟩;refine n4 (λq=>?_) (λq=>?_) q
 ·exact⟨as1,ρ,S1,ok1,en.mono g1.pre (g1.ku ok),ma _ _ _ _ (λy S2 h=>h.mono g1) q⟩
 ·exact⟨as1,ρ,S1,ok1,en.mono g1.pre (g1.ku ok),mb _ _ _ _ (λy S2 h=>h.mono g1) q⟩
end
section
variable{X:Cx}
theorem F3{e:Expr}{t:TT}(t':TT)(h:PW X e t)(imp:∀ σ H Q,t' σ H Q->t σ H Q):PW X e t':=λwh pins s σ H Q I hw=>h wh pins s σ H Q I (imp σ H Q hw)
theorem HS{x y:Expr}{p:Pos}{a b:WE×WT}(ha:Good X x a)(hb:Good X y b):Good X (.BoolOp .And [x,y] p) (MK a.1 b.1,DM a.2 b.2):=
 have pw:PW X (.BoolOp .And [x,y] p) (liftT X.K (DM a.2 b.2)):=F3 _ (Ku ha.pt (O8 hb.pt)) (Fm ha.mt hb.mt)
 {pe:=j0 _ (Kw ha.pe (Kv hb.pe)) (Il ha.m hb.m),pt:=pw.pt,m := .and ha.m hb.m,mt := .and ha.mt hb.mt,pw:=λ_ _ _ _=>pw}
theorem HU{x y z:Expr}{zs:List Expr}{p:Pos}{a b:WE×WT}(ha:Good X x a)(hb:Good X (.BoolOp .And (y::z::zs) p) b):Good X (.BoolOp .And (x::y::z::zs) p) (MK a.1 b.1,DM a.2 b.2):=
 have pw:PW X (.BoolOp .And (x::y::z::zs) p) (liftT X.K (DM a.2 b.2)):=F3 _ (Ku ha.pt (hb.pw _ _ _ rfl)) (Fm ha.mt hb.mt)
 {pe:=j0 _ (Kw ha.pe hb.pe) (Il ha.m hb.m),pt:=pw.pt,m := .and ha.m hb.m,mt := .and ha.mt hb.mt,pw:=λ_ _ _ _=>pw}
theorem K7{x y:Expr}{p:Pos}{a b:WE×WT}(ha:Good X x a)(hb:Good X y b):Good X (.BoolOp .Or [x,y] p) (wOr a.1 b.1,HJ a.2 b.2):=
 have pw:PW X (.BoolOp .Or [x,y] p) (liftT X.K (HJ a.2 b.2)):=F3 _ (Q8 ha.pt (R1 hb.pt)) (Im ha.mt hb.mt)
 {pe:=j0 _ (QB ha.pe (Kv hb.pe)) (Mm ha.m hb.m),pt:=pw.pt,m := .or ha.m hb.m,mt := .or ha.mt hb.mt,pw:=λ_ _ _ _=>pw}
theorem K8{x y z:Expr}{zs:List Expr}{p:Pos}{a b:WE×WT}(ha:Good X x a)(hb:Good X (.BoolOp .Or (y::z::zs) p) b):Good X (.BoolOp .Or (x::y::z::zs) p) (wOr a.1 b.1,HJ a.2 b.2):=
 have pw:PW X (.BoolOp .Or (x::y::z::zs) p) (liftT X.K (HJ a.2 b.2)):=F3 _ (Q8 ha.pt (hb.pw _ _ _ rfl)) (Im ha.mt hb.mt)
 {pe:=j0 _ (QB ha.pe hb.pe) (Mm ha.m hb.m),pt:=pw.pt,m := .or ha.m hb.m,mt := .or ha.mt hb.mt,pw:=λ_ _ _ _=>pw}
theorem K9{x:Expr}{p:Pos}{a:WE×WT}(ha:Good X x a):Good X (.UnaryOp .Not x p) (Ow a.1,Ie a.2) where
 pe:=j0 _ (R4 ha.pe) (PB ha.m)
 pt:=Es _ (R3 ha.pt) (Mn ha.mt)
 m := .not ha.m
 mt := .not ha.mt
 pw:=λ_ _ _ e=>by cases e
theorem KA{t x y:Expr}{p:Pos}{c a b:WE×WT}(hc:Good X t c)(ha:Good X x a)(hb:Good X y b):Good X (.IfExp t x y p) (Ox c.2 a.1 b.1,λ_ _ _=>False) where
 pe:=j0 _ (Kx hc.pt ha.pe hb.pe) (PC hc.mt ha.m hb.m)
 pt:=Fk
 m := .ifE hc.mt ha.m hb.m
 mt:=λ_ _ _ _ _ h=>h
 pw:=λ_ _ _ e=>by cases e
theorem SQ{i:Nat}{x:Str}{p:Pos}{N:List Str}{sc:Zi}{T:List Str}{Δ:Nat->Sn}{k:Nat}(C:Cok T Δ X k N sc)(hi:N[i]?=some x)(hv:vis sc x=true)(h1:(x == ("__debug__":Str))=false)(h2:(x == ("__classdict__":Str))=false):PE X (.Name x p) (Ks i):=by
 have hv':Vis X.env.scope x:=by
  rw[C.hs];unfold vis at hv;simp only[WK,bQ]at hv;rcases hv with(hv | hv) | hv
  ·exact .inl hv
  ·exact .inr (.inl hv)
  ·exact .inr (.inr hv)
 exact Kt (i:=i) (by rw[C.hN];exact hi) hv' h1 h2
theorem PD{x:SV}{k:Const}{j:Nat}{p:Pos}(h:SJ x k=true):Good X (.Constant k j p) (tt1 (wC x)):=by
 refine .one ?_ .c rfl;unfold SJ at h;split at h
 ·exact j0 _ Qz (Fd λ_ _=>rl_non.mpr rfl)
 ·rw[bQ]at h;subst h;exact j0 _ Ti (Fd λ_ _=>rl_bl.mpr rfl)
 ·have h:=of_decide_eq_true h;subst h;exact j0 _ Qy (Fd λ_ _=>rl_int.mpr rfl)
 ·have h:=of_decide_eq_true h;subst h;exact j0 _ R0 (Fd λ_ _=>rl_str.mpr rfl)
 ·cases h
theorem DR:Fc MJ:=λx S P P' i h=>by
 unfold MJ at h ⊢;split at h
 ·exact i _ _ h
 ·exact h.elim
theorem KB{x:Expr}{p:Pos}{a:WE×WT}(ha:Good X x a):Good X (.UnaryOp .USub x p) (tt1 (w1 MJ a.1)):=by
 refine .one (j0 _ (Tz RG ha.pe) (Rr (λas H S x v Q ok r h=>?_) DR ha.m)) (.one DR ha.m) rfl;unfold MJ at h;split at h
 ·exact⟨_,rl_int.mp r,h.here ok (rl_int.mpr rfl)⟩
 ·exact h.elim
theorem HV{b:Expr}(h:BS b=true):IM b:=λo i=>by cases b<;>first | rfl | cases h
theorem Mo{x y:Expr}{p:Pos}{a b:WE×WT}(ha:Good X x a)(hb:Good X y b)(h:BS y=true):Good X (.Subscript x y p) (tt1 (w2 sIx a.1 b.1)):=
 .one (j0 _ (UB (ix_list.or RT) ha.pe hb.pe (HV h)) (Cq Rz .ix ha.m hb.m)) (.two .ix ha.m hb.m) rfl
noncomputable def Ul(K:Vn)(as:List ZY)(H:Hp)(Q:Option Int->Hp->Prop):Option Int->Sto->Prop:=λb S'=>∀ as' H',Go as H as' H'->Ok K as' H' S'->Q b H'
noncomputable def Fn(K:Vn)(w:WO):St->Hp->(Option Int->Hp->Prop)->Prop:=λσ H Q=>∃ as ρ S,Ok K as H S/\EnvOk K as H σ ρ/\w ρ S (Ul K as H Q)
noncomputable def MonoO(w:WO):Prop:=∀ ρ S (P P':Option Int->Sto->Prop),(∀ x S',P x S'->P' x S')->w ρ S P->w ρ S P'
theorem MonoO.no:MonoO SC:=λ_ _ _ _ i h=>i _ _ h
theorem MonoO.yes{w:WE}(m:Mono w):MonoO (MM w):=λ_ _ _ _ i h=>m _ _ _ _ (λx S1 ⟨k,e,q⟩=>⟨k,e,i _ _ q⟩) h
theorem Um:PO X none (Fn X.K SC):=λpins s σ H Q I ⟨as,ρ,S,ok,en,h⟩=>OK pins s σ H Q I (h as H (Go.refl _ _) ok)
theorem SR{x:Expr}{a:WE×WT}(ha:Good X x a):PO X (some x) (Fn X.K (MM a.1)):=λpins s σ H Q I ⟨as,ρ,S,ok,en,h⟩=>
 OL ha.pe pins s σ H Q I ⟨as,ρ,S,ok,en,ha.m _ _ _ _ (λy S1 ⟨k,e,q⟩ as1 H1 v g1 ok1 rv=>⟨k,by subst e;exact rl_int.mp rv,q as1 H1 g1 ok1⟩) h⟩
theorem RlAll.cut{K:Vn}{as:List ZY}{H:Hp}{xs:List SV}{vs:List V}(h:RlAll K as H vs xs)(lo hi:Option Int):RlAll K as H (FS vs lo hi) (Ey xs lo hi):=by
 unfold FS Ey;rw[h.length];exact(h.drop _).take _
theorem DS{x:SV}{lo hi:Option Int}{S:Sto}{P P':QE}(i:∀ x S',P x S'->P' x S')(h:MN x lo hi S P):MN x lo hi S P':=by
 unfold MN at h ⊢;split at h
 ·obtain⟨xs,a,b⟩:=h;exact⟨xs,a,i _ _ b⟩
 ·exact i _ _ h
 ·exact h.elim
theorem PF{K:Vn}{as:List ZY}{H:Hp}{S:Sto}{Q:VK}{x:SV}{v:V}{l k:Option Int}(ok:Ok K as H S)(r:Rl K as H v x)(h:MN x l k S (Post K as H Q)):UE K v l k H Q\/UA K v l k H Q\/UN K v l k H Q:=by
 cases x with
 | loc j=>
   obtain⟨xs,h1,h2⟩:=h;obtain⟨b,vs,rfl,_,hb,rr⟩:=v7 ok r h1;exact .inl ⟨b,vs,rfl,SqL.of hb,AL ok (rr.cut l k) h2⟩
 | tup xs=>
   obtain⟨b,vs,rfl,hb,rr⟩:=rl_tup.mp r;by_cases hw:HT.sIx vs.length 0 l=0/\HT.sIx vs.length vs.length k=vs.length
   ·refine .inr (.inr ⟨b,vs,rfl,SqT.of hb,hw,?_⟩)
    have e:Ey xs l k=xs:=by
     unfold Ey;rw[<-rr.length,hw.1,hw.2,rr.length];simp
    have h':Post K as H Q (.tup (Ey xs l k)) S:=h;rw[e]at h';exact h'.here ok r
   ·exact .inr (.inl ⟨b,vs,rfl,SqT.of hb,hw,C8 ok (rr.cut l k) h⟩)
 | _=>exact False.elim h
theorem KC{x:Expr}{rl rh:Option Expr}{p p2:Pos}{a:WE×WT}{lo hi:WO}(ha:Good X x a)(hl:PO X rl (Fn X.K lo))(hh:PO X rh (Fn X.K hi))(ml:MonoO lo)(mh:MonoO hi):Good X (.Subscript x (.Slice rl rh none p2) p) (tt1 (SD a.1 lo hi)):=by
 refine .one (j0 _ (LM (sl_list.or (sl_tup.or OQ)) ha.pe hl hh) ?_) (λρ S P P' i h=>ha.m _ _ _ _ (λx S1 h=>ml _ _ _ _ (λl S2 h=>mh _ _ _ _ (λk S3 h=>DS i h) h) h) h) rfl;rintro σ H Q ⟨as,ρ,S,ok,en,h⟩;refine⟨as,ρ,S,ok,en,ha.m _ _ _ _ (λx S1 h as1 H1 v g1 ok1 rv=>?_) h⟩;refine⟨as1,ρ,S1,ok1,en.mono g1.pre (g1.ku ok),ml _ _ _ _ (λl S2 h as2 H2 g2 ok2=>?_) h⟩;refine⟨as2,ρ,S2,ok2,(en.mono g1.pre (g1.ku ok)).mono g2.pre (g2.ku ok1),mh _ _ _ _ (λk S3 h as3 H3 g3 ok3=>?_) h⟩;have rv3:=Rl.mono (g2.trans g3).pre ((g2.trans g3).ku ok1) x v rv;have g:=(g1.trans g2).trans g3;exact PF ok3 rv3 (DS (λ_ _ h=>h.mono g) h)
end
end Rf
namespace L2
open PySem PySem.Spec PyProof.Rows
noncomputable abbrev ZipL(h:Heap)(z TI TO:ZY)(T:Nat)(b:Bool):Prop:=h.get? z=some {cls := .type "zip",dict:=none,data := .fields #[rawInt T,.bool b,.bool false,.ref TI,.ref TO],slots:=#[]}
structure StZ(z TI TO i1 i2 l1 l2 d:ZY)(xs ys:Array ZW)(i:Nat)(h:Heap):Prop where
 zip:(i=0/\IsZip h z TI TO .none/\∃ a b,IsPair h TO a b)\/∃(T:Nat) (b:Bool) (o:Obj),ZipL h z TI TO T b/\h.get? T=some o/\T≠z/\T≠i1/\T≠i2/\T≠d
 ti:IsPair h TI (.ref i1) (.ref i2)
 w1:h.IsListIter i1 l1 i/\h.IsList l1 xs
 w2:h.IsListIter i2 l2 i/\h.IsList l2 ys
section
variable{prog:Zd}{w:Zf}{A:Zj}{E:ZW->ZX->Prop}{s:ZX}{z TI TO i1 i2 l1 l2 d:ZY}{xs ys:Array ZW}{i:Nat}
theorem StZ.keep{h h':Heap}(st:StZ z TI TO i1 i2 l1 l2 d xs ys i h)(hd:d≠z/\d≠TO/\d≠i1/\d≠i2/\d≠TI/\d≠l1/\d≠l2)(k:∀ c o,c≠d->h.get? c=some o->h'.get? c=some o):StZ z TI TO i1 i2 l1 l2 d xs ys i h':=by
 obtain⟨a1,a2,a3,a4,a5,a6,a7⟩:=hd;refine⟨?_,k _ _ a5.symm st.ti,⟨st.w1.1.at λo e=>k _ o a3.symm e,st.w1.2.at λo e=>k _ o a6.symm e⟩,⟨st.w2.1.at λo e=>k _ o a4.symm e,st.w2.2.at λo e=>k _ o a7.symm e⟩⟩;rcases st.zip with⟨e,hz,a,b,hO⟩ | ⟨T,b,o,hz,ho,t1,t2,t3,t4⟩
 ·exact .inl ⟨e,k _ _ a1.symm hz,a,b,k _ _ a2.symm hO⟩
 ·exact .inr ⟨T,b,o,k _ _ a1.symm hz,k _ _ t4 ho,t1,t2,t3,t4⟩
end
section
variable{X:Cx}
noncomputable def KD(K:Vn)(te:TE):TE:=λσ H Q=>te σ H λx H1=>∃(p:ZY) (ns:List Int),x = .ref p/\(SqL K H1 p (ns.map V.int)\/SqT K H1 p (ns.map V.int))/\ns.length<64/\∀ l,H1 l=none->Q (.ref l) (upd H1 l (.lst ((srt (AU ns)).map V.int)))
theorem Fo{e:Expr}{te:TE}{p1 p2 pos1 pos2:Pos}(hc:X.calm=true)(hl:Gl X "sorted")(hml:X.mg "sorted"=none)(hs:Gl X "set")(hms:X.mg "set"=none)(he:PE X e te)
 (h1:Zg [e] X.env=(false,eval e X.env)::Zg [] X.env:=by rfl)
 (h2:Zg [.Call (.Name "set" p2) [e] [] pos2] X.env=(false,eval (.Call (.Name "set" p2) [e] [] pos2) X.env)::Zg [] X.env:=by rfl)
 (h3:(backTo pos1 (Zg [] X.env)).any (·.1)=false:=by rfl) (h4:(backTo pos2 (Zg [] X.env)).any (·.1)=false:=by rfl):
 PE X (.Call (.Name "sorted" p1) [.Call (.Name "set" p2) [e] [] pos2] [] pos1) (KD X.K te):=by
 intro pins s σ H Q I h;refine Zv (Aj I hl hml Jl ?_ (by decide) (by decide));refine PyProof.Rows.callWith_builtin1 ?_ h2 h3;rw[h2];show Zb _ _ (spliced ((false,eval (.Call (.Name "set" p2) [e] [] pos2) X.env)::backTo pos1 (Zg [] X.env))) _ _ s;refine Calls.spliced_cons ?_;refine Zv (Aj I hs hms b_set ?_ (by decide) (by decide));refine PyProof.Rows.callWith_type1 ?_ h1 h4;rw[h1];show Zb _ _ (spliced ((false,eval e X.env)::backTo pos2 (Zg [] X.env))) _ _ s;refine Calls.spliced_cons (thn (he pins s σ H _ I h) λu s1 ⟨x,H1,I1,rx,p,ns,ex,hq,hb,q1⟩=>Calls.spliced_nil ?_);subst ex;cases rx;cases hq
 case' inl hq=>
  obtain⟨its,r',pl,hz⟩:=I1.list hq;have hlen:=r'.length;rw[Vp]at hlen;refine QK (items:=its.toArray) (ns:=ns) (I1.ok.hd hc) pl.isList (by simpa using A7 r') (by simp only[Vu];show its.length+1<4096;omega) λh' tk hX hk=>?_
 case' inr hq=>
  obtain⟨its,r',pl,hz⟩:=I1.tuple hq;have hlen:=r'.length;rw[Vp]at hlen;refine M5 (items:=its.toArray) (ns:=ns) (I1.ok.hd hc) pl (by simpa using A7 r') (by simp only[Vu];show its.length+1<4096;omega) λh' tk hX hk=>?_
 all_goals
  refine Calls.spliced_nil ?_;have k1:∀ b o,s1.heap.get? b=some o->h'.get? b=some o:=λb o e=>hk b o (Vy e) e;have I2:Inv X pins σ H1 {s1 with heap:=h',toks:=tk}:=I1.kept k1
  have hX:SetX X.prog X.w h' s1.heap.objs.size (AU ns):=by
   have e:its.toArray.size=ns.length:=by rw[Vu,hlen]
   rw[e]at hX;exact hX
  refine OT (s:={s1 with heap:=h',toks:=tk}) (I1.ok.hd hc) hX (XR (A0H _ _) hb) λh3 tk3 d l out e k3 hz3 hl3 ho3=>?_;refine⟨.ref l,_,(I2.dr d).laid (h':=h3) (a:=l) (o := .lst ((srt (AU ns)).map V.int)) (t':=tk3) k3 hz3 (show ObjOk X.prog X.w _ _ _ (.lst ((srt (AU ns)).map V.int)) from ⟨?_,out.toList,e,ED ho3,by simpa using hl3⟩),rfl,q1 l ((I2.dr d).hok.fresh hz3)⟩;rw[Vp,(Aw _).length_eq];exact XO (JZ (Wd (A0H _ _) (by omega)))
end
theorem KT.at{H:Hp}:∀{kvs:List (List Key×V)} {xs:List (List Key×ZY×ZW)},KT H kvs xs->∀{i:Nat} {p:List Key×V},kvs[i]?=some p->∃ q,xs[i]?=some q/\H q.2.1=some (.tup (p.1.map kV))
 | _,_,.nil,_,_,h=>by simp at h
 | _,_,.cons a t,0,p,h=>by simp at h;subst h;exact⟨_,rfl,a.2.1⟩
 | _,_,.cons a t,i+1,p,h=>by
   obtain⟨q,e,z⟩:=KT.at t (i:=i) (p:=p) (by simpa using h);exact⟨q,by simpa using e,z⟩
end L2
namespace PySem
noncomputable def DEn(h:Heap)(d:ZY)(es:Array A1F)(ep:Nat):Prop:=∃ o,h.get? d=some o/\o.ExactDict/\o.data = .dict es ep
theorem DEn.keep{h h':Heap}{d:ZY}{es:Array A1F}{ep:Nat}(x:DEn h d es ep)(k:∀ o,h.get? d=some o->h'.get? d=some o):DEn h' d es ep:=let ⟨o,e,r⟩:=x;⟨o,k o e,r⟩
theorem DEn.lt{h:Heap}{d:ZY}{es:Array A1F}{ep:Nat}(x:DEn h d es ep):d<h.objs.size:=let ⟨_,e,_⟩:=x;Vy e
end PySem
namespace Rf
open PySem L2
structure GoodA(X:Cx)(rs:List Expr)(w:WA):Prop where
 pa:PA X rs (liftA X.K w)
 m:MonoA w
section
variable{X:Cx}
theorem KG:GoodA X [] EK:=⟨OZ,.nil⟩
theorem HW{x:Expr}{xs:List Expr}{a:WE×WT}{b:WA}(ha:Good X x a)(hb:GoodA X xs b)(hs:c8 x=true):GoodA X (x::xs) (DF a.1 b):=⟨M3 ha.m hb.m ha.pe hb.pa (g9 hs),.cons ha.m hb.m⟩
theorem KH{rs:List Expr}{j:Nat}{p:Pos}{w:WA}(h:GoodA X rs w):Good X (.Tuple rs j p) (tt1 (wn Ob w)) := .one (j0 _ (RM h.pa) (Od h.m)) (.n .tup h.m) rfl
theorem KI{rs:List Expr}{p:Pos}{w:WA}(h:GoodA X rs w):Good X (.List rs p) (tt1 (wn Oc w)) := .one (j0 _ (RN h.pa) (Oe h.m)) (.n .lst h.m) rfl
theorem Mp{K:Vn}{s:Sn}{w:WA}(ms:MonoN s)(m:MonoA w):∀ σ H Q,lift K (wn s w) σ H Q->LJ (spS K s) [] E0 (liftA K w) σ H Q:=by
 rintro σ H Q ⟨as,ρ,S,ok,en,h⟩;refine⟨as,ρ,S,ok,en,m _ _ _ _ (λxs S1 hs as1 H1 vs g1 ok1 rv=>?_) h⟩;show spS K s (vs++[]) H1 Q E0;rw[X0];exact⟨as1,S1,xs,ok1,rv,ms _ _ _ _ (λz S3 hz=>hz.mono g1) hs⟩
theorem HX{T:List Str}{Δ:Nat->Sn}{k f:Nat}{N:List Str}{sc:Zi}{x:Str}{y:Expr}{ys:List Expr}{p q:Pos}{w:WA}(C:Cok T Δ X k N sc)(hf:f+1<T.length/\T[f]?=some x)(hg:glo sc x=true)(h:GoodA X (y::ys) w)(hy:c8 y=true)(hs:ys.all c8=true):Good X (.Call (.Name x p) (y::ys) [] q) (tt1 (wn (Δ f) w)):=by
 obtain⟨d,ps,hC,hr⟩:=C.call f x hf.1 hf.2;obtain⟨fa,fd,F,hm,hk,hb⟩:=hC.ex;unfold glo at hg;simp only[Vo,bQ,W7]at hg;have gl:Gl X x:=by show X.env.scope.names.lookup x=_;rw[C.hs];exact hg.1.1
 exact .one (j0 _ (II F hr gl hm hk hb .nil UH h.pa hg.2 (g9 hy) (B4 hs)) (Mp (C.mono f) h.m)) (.n (C.mono f) h.m) rfl
theorem Uo:Zh "abs"=some (.builtin "abs"):=by decide +kernel
theorem QX:Zh "min"=some (.builtin "min"):=by decide +kernel
theorem Uq:Zh "max"=some (.builtin "max"):=by decide +kernel
theorem Ur:Zh "len"=some (.builtin "len"):=by decide +kernel
theorem Us:Zh "all"=some (.builtin "all"):=by decide +kernel
theorem QY:Zh "int"=some (.type "int"):=by decide +kernel
theorem F4:Zh "list"=some (.type "list"):=by decide +kernel
theorem Mq:Zh "isinstance"=some (.builtin "isinstance"):=by decide +kernel
theorem QZ:Zh "str"=some (.type "str"):=by decide +kernel
theorem SS:Zh "bool"=some (.type "bool"):=by decide +kernel
theorem Io:Zh "range"=some (.type "range"):=by decide +kernel
theorem b_set:Zh "set"=some (.type "set"):=by decide +kernel
theorem Ip:Zh "tuple"=some (.type "tuple"):=by decide +kernel
theorem ST:Zh "repr"=some (.builtin "repr"):=by decide +kernel
theorem Mr{T:List Str}{Δ:Nat->Sn}{k:Nat}{N:List Str}{sc:Zi}{b:BI}{y:Expr}{ys:List Expr}{p q:Pos}{w:WA}(C:Cok T Δ X k N sc)(hg:glo sc b.name=true)(h:GoodA X (y::ys) w)(hy:c8 y=true)(hs:ys.all c8=true):Good X (.Call (.Name b.name p) (y::ys) [] q) (tt1 (wn (sBi b) w)):=by
 unfold glo at hg;simp only[Vo,bQ,W7]at hg;have gl:Gl X b.name:=by show X.env.scope.names.lookup b.name=_;rw[C.hs];exact hg.1.1
 have hm:=C.bl b;have e1:=g9 (es:=ys) (env:=X.env) hy;have e2:=B4 (env:=X.env) (pos:=q) hs;refine .one (j0 (t:=tCB (rBi X.K b) (liftA X.K w)) _ ?_ (Ua S9 .bi h.m)) (.n .bi h.m) rfl;cases b with
 | len=>exact v5 Ej gl hm Ur h.pa (by decide) hg.2 e1 e2
 | abs=>exact v5 LH gl hm Uo h.pa (by decide) hg.2 e1 e2
 | min=>exact v5 (JS C.calm) gl hm QX h.pa (by decide) hg.2 e1 e2
 | max=>exact v5 (JR C.calm) gl hm Uq h.pa (by decide) hg.2 e1 e2
 | int=>exact w5 JT gl hm QY h.pa (by decide) hg.2 e1 e2
 | list=>exact w5 Ek gl hm F4 h.pa (by decide) hg.2 e1 e2
 | tuple=>exact w5 Ds gl hm Ip h.pa (by decide) hg.2 e1 e2
 | all=>exact v5 (Jc C.calm) gl hm Us h.pa (by decide) hg.2 e1 e2
 | any=>exact v5 (λ_ _ _ _ _ _ _ _ _ h=>False.elim h) gl hm UX h.pa (by decide) hg.2 e1 e2
 | sorted=>exact v5 (λ_ _ _ _ _ _ _ _ _ h=>False.elim h) gl hm LX h.pa (by decide) hg.2 e1 e2
 | isi=>exact v5 (call_isi1.or Jb) gl hm Mq h.pa (by decide) hg.2 e1 e2
 | repr=>exact v5 (λ_ _ _ _ _ _ _ _ _ h=>False.elim h) gl hm ST h.pa (by decide) hg.2 e1 e2
 | str=>exact w5 (λ_ _ _ _ _ _ _ _ _ h=>False.elim h) gl hm QZ h.pa (by decide) hg.2 e1 e2
theorem Mono.mt{m:MT}{a:WE}{b:WA}(ma:Mono a)(mb:MonoA b):Mono (wMt m a b):=λρ S P P' i h=>ma _ _ _ _ (λx S1 ⟨e,h⟩=>⟨e,mb _ _ _ _ (λxs S2 h=>Ew _ _ _ _ i h) h⟩) h
theorem t8{ro:Expr}{nm:Str}{env:Env}{wh:Sem ZW}(h:Bf ro=true):A0t ro nm env wh=wh:=by
 unfold A0t;split
 ·cases h
 ·rfl
theorem Ms{K:Vn}{as:List ZY}{H:Hp}{S:Sto}{k:Nat}{v:V}{xs:List SV}(ok:Ok K as H S)(r:Rl K as H v (.loc k))(hs:S[k]?=some (.lst xs)):tyV K "list" v H:=by
 obtain⟨a,vs,rfl,_,h1,_⟩:=v7 ok r hs;exact .inl ⟨rfl,_,SqL.of h1⟩
theorem SU{K:Vn}{m:MT}{a:WE}{b:WA}(ma:Mono a)(mb:MonoA b):∀ σ H Q,lift K (wMt m a b) σ H Q->tBM K "list" (rMt m) (lift K a) (liftA K b) σ H Q:=by
 rintro σ H Q ⟨as,ρ,S,ok,en,h⟩;refine⟨as,ρ,S,ok,en,ma _ _ _ _ (λx S1 ⟨⟨j,zs,e,hz⟩,h⟩ as1 H1 v g1 ok1 rv=>?_) h⟩;subst e;refine⟨Ms ok1 rv hz,as1,ρ,S1,ok1,en.mono g1.pre (g1.ku ok),mb _ _ _ _ (λxs S2 h as2 H2 vs g2 ok2 rs=>?_) h⟩;exact MI ok2 (Rl.mono g2.pre (g2.ku ok1) _ v rv) rs (Ew _ _ _ _ (λz S3 hz=>hz.mono (g1.trans g2)) h)
theorem PH{K:Vn}{m:MT}{a:WE}(ma:Mono a):∀ σ H Q,lift K (wMt m a EK) σ H Q->RU K "list" (rMt m) (lift K a) σ H Q:=by
 rintro σ H Q ⟨as,ρ,S,ok,en,h⟩;refine⟨as,ρ,S,ok,en,ma _ _ _ _ (λx S1 ⟨⟨j,zs,e,hz⟩,h⟩ as1 H1 v g1 ok1 rv=>?_) h⟩;subst e;exact⟨Ms ok1 rv hz,MI ok1 rv .nil (Ew _ _ _ _ (λz S3 hz=>hz.mono g1) h)⟩
theorem Mt{m:MT}{ro y:Expr}{ys:List Expr}{ap cp:Pos}{a:WE×WT}{b:WA}(ha:Good X ro a)(hb:GoodA X (y::ys) b)(hn:Bf ro=true)(hl:(ap.endLine == cp.line)=true)(hk:(y::ys).length<29)(hy:c8 y=true)(hs:ys.all c8=true):Good X (.Call (.Attribute ro m.name ap) (y::ys) [] cp) (tt1 (wMt m a.1 b)):=by
 have e1:=g9 (es:=ys) (env:=X.env) hy;have e2:=B4 (env:=X.env) (pos:=cp) hs
 have e3:((backTo cp (Zg (y::ys) X.env)).all (λx=>!x.1)&&(A0D cp (A0d [] X.env)).all (λx=>x.1.isSome)
  && decide ((y::ys).length+([]:List Keyword).length+(if ([]:List Keyword).isEmpty then 0 else 1)<30))=true:=by
  rw[EL (by rw[Ww,hy,hs];rfl)];simp only[Yf,Vo,dQ];exact⟨rfl,by show(y::ys).length+0+0<30;omega⟩
 refine .one (j0 (t:=tBM X.K "list" (rMt m) (lift X.K a.1) (liftA X.K b)) _ ?_ (SU ha.m hb.m)) (.mt ha.m hb.m) rfl;cases m with
 | append=>exact FT PySem.F.plainAttrs_list PySem.F.slot_list_append PySem.F.type_list_append CP ha.pe hb.pa (t8 hn) e3 hl e1 e2
 | extend=>exact FT PySem.F.plainAttrs_list PySem.F.slot_list_extend PySem.F.type_list_extend EA ha.pe hb.pa (t8 hn) e3 hl e1 e2
 | insert=>exact FT PySem.F.plainAttrs_list PySem.F.slot_list_insert PySem.F.type_list_insert EC ha.pe hb.pa (t8 hn) e3 hl e1 e2
 | countB=>exact FT PySem.F.plainAttrs_list PySem.F.slot_list_count PySem.F.type_list_count (λpins s σ H x xs v us Q I rx rs q=>EG pins s σ H x xs v us Q I rx rs q) ha.pe hb.pa (t8 hn) e3 hl e1 e2
 | indexB=>exact FT PySem.F.plainAttrs_list PySem.F.slot_list_index PySem.F.type_list_index (λpins s σ H x xs v us Q I rx rs q=>EH pins s σ H x xs v us Q I rx rs q) ha.pe hb.pa (t8 hn) e3 hl e1 e2
theorem KJ{m:MT}{ro:Expr}{ap cp:Pos}{a:WE×WT}(ha:Good X ro a)(hn:Bf ro=true)(hl:(ap.endLine == cp.line)=true):Good X (.Call (.Attribute ro m.name ap) [] [] cp) (tt1 (wMt m a.1 EK)):=by
 refine .one (j0 (t:=RU X.K "list" (rMt m) (lift X.K a.1)) _ ?_ (PH ha.m)) (.mt ha.m .nil) rfl;cases m with
 | append=>exact D6 PySem.F.plainAttrs_list PySem.F.slot_list_append PySem.F.type_list_append CP ha.pe (t8 hn) hl
 | extend=>exact D6 PySem.F.plainAttrs_list PySem.F.slot_list_extend PySem.F.type_list_extend EA ha.pe (t8 hn) hl
 | insert=>exact D6 PySem.F.plainAttrs_list PySem.F.slot_list_insert PySem.F.type_list_insert EC ha.pe (t8 hn) hl
 | countB=>exact D6 PySem.F.plainAttrs_list PySem.F.slot_list_count PySem.F.type_list_count (λpins s σ H x xs v us Q I rx rs q=>EG pins s σ H x xs v us Q I rx rs q) ha.pe (t8 hn) hl
 | indexB=>exact D6 PySem.F.plainAttrs_list PySem.F.slot_list_index PySem.F.type_list_index (λpins s σ H x xs v us Q I rx rs q=>EH pins s σ H x xs v us Q I rx rs q) ha.pe (t8 hn) hl
theorem KK{T:List Str}{Δ:Nat->Sn}{k:Nat}{N:List Str}{sc:Zi}{t:TyN}{p:Pos}(C:Cok T Δ X k N sc)(hg:glo sc (Str.ofString t.nm)=true)(ht:t ≠ .none):Good X (.Name (Str.ofString t.nm) p) (tt1 (wC (.ty t))):=by
 unfold glo at hg;simp only[Vo,bQ,W7]at hg;have gl:Gl X (Str.ofString t.nm):=by show X.env.scope.names.lookup _=_;rw[C.hs];exact hg.1.1
 have b:Zh (Str.ofString t.nm)=some (.type t.nm):=by cases t<;>first | exact QY | exact SS | exact QZ | exact F4 | exact Ip | exact absurd rfl ht
 exact .one (j0 _ (IC (v := .ty t.nm) gl (C.ty t ht) b rfl (by cases t<;>first | decide | exact absurd rfl ht) hg.2) (Fd λ_ _=>rl_ty.mpr rfl)) .c rfl
theorem Mu{K:Vn}{as:List ZY}{H:Hp}{lo hi:Int}:RlAll K as H (Jf lo (hi - lo).toNat) (u8 lo hi):=by
 unfold Jf u8
 induction Vw (hi - lo).toNat with
 | nil=>exact .nil
 | cons i r ih=>exact .cons (rl_int.mpr rfl) ih
theorem DT{a:WE}(m:Mono a):Mono (HK a):=λρ S P P' i h=>m _ _ _ _ (λx S1 ⟨j,e,z,q⟩=>⟨j,e,z,i _ _ q⟩) h
theorem DU{a b:WE}(m:Mono a)(mb:Mono b):Mono (HL a b):=λρ S P P' i h=>m _ _ _ _ (λx S1 h=>mb _ _ _ _ (λy S2 ⟨l,j,e,e2,z,q⟩=>⟨l,j,e,e2,z,i _ _ q⟩) h) h
theorem Fp{T:List Str}{Δ:Nat->Sn}{k:Nat}{N:List Str}{sc:Zi}{r:Expr}{p p2 q q2:Pos}{a:WE×WT}(C:Cok T Δ X k N sc)(hg:glo sc "list"=true)(hg2:glo sc "range"=true)(ha:Good X r a)(hs:c8 r=true):Good X (.Call (.Name "list" p) [.Call (.Name "range" p2) [r] [] q2] [] q) (tt1 (HK a.1)):=by
 unfold glo at hg hg2;simp only[Vo,bQ,W7]at hg hg2;have gl:Gl X "list":=by show X.env.scope.names.lookup ("list":Str)=_;rw[C.hs];exact hg.1.1
 have gr:Gl X "range":=by show X.env.scope.names.lookup ("range":Str)=_;rw[C.hs];exact hg2.1.1
 have e1:=w5 (p:=p2) (pos:=q2) Je gr C.rng Io (m7 ha.pe A6 (g9 hs)) (by decide) hg2.2 (g9 hs) rfl;refine .one (j0 _ (w5 (p:=p) (pos:=q) (C5 C.calm) gl (C.bl .list) F4 (m7 e1 A6 rfl) (by decide) hg.2 rfl rfl) ?_) (DT ha.m) rfl;rintro σ H Q ⟨as,ρ,S,ok,en,h⟩;refine⟨as,ρ,S,ok,en,ha.m _ _ _ _ (λx S1 ⟨j,e,z,q⟩ as1 H1 v g1 ok1 rv=>?_) h⟩;subst e;refine⟨j,by rw[rl_int.mp rv],λp hp=>⟨p,0,j,rfl,j3,by decide,by decide,z.1,by omega,by omega,?_⟩⟩;exact AL (ok1.new hp) Mu (q.mono (g1.trans (Go.new hp)))
theorem Fq{T:List Str}{Δ:Nat->Sn}{k:Nat}{N:List Str}{sc:Zi}{r r2:Expr}{p p2 q q2:Pos}{a b:WE×WT}(C:Cok T Δ X k N sc)(hg:glo sc "list"=true)(hg2:glo sc "range"=true)(ha:Good X r a)(hb:Good X r2 b)(hs:c8 r=true)(hs2:c8 r2=true):Good X (.Call (.Name "list" p) [.Call (.Name "range" p2) [r,r2] [] q2] [] q) (tt1 (HL a.1 b.1)):=by
 unfold glo at hg hg2;simp only[Vo,bQ,W7]at hg hg2;have gl:Gl X "list":=by show X.env.scope.names.lookup ("list":Str)=_;rw[C.hs];exact hg.1.1
 have gr:Gl X "range":=by show X.env.scope.names.lookup ("range":Str)=_;rw[C.hs];exact hg2.1.1
 have e1:=w5 (p:=p2) (pos:=q2) Jd gr C.rng Io (m7 ha.pe (m7 hb.pe A6 (g9 hs2)) (g9 hs)) (by decide) hg2.2 (g9 hs) (B4 (by simpa using hs2));refine .one (j0 _ (w5 (p:=p) (pos:=q) (C5 C.calm) gl (C.bl .list) F4 (m7 e1 A6 rfl) (by decide) hg.2 rfl rfl) ?_) (DU ha.m hb.m) rfl;rintro σ H Q ⟨as,ρ,S,ok,en,h⟩;refine⟨as,ρ,S,ok,en,ha.m _ _ _ _ (λx S1 h as1 H1 v g1 ok1 rv=>?_) h⟩;refine⟨as1,ρ,S1,ok1,en.mono g1.pre (g1.ku ok),hb.m _ _ _ _ (λy S2 ⟨l,j,e,e2,z,q⟩ as2 H2 u g2 ok2 ru=>?_) h⟩;subst e e2;refine⟨l,j,by rw[rl_int.mp rv,rl_int.mp ru],λp hp=>⟨p,l,j,rfl,j3,by omega,by omega,z.2.2.1,by omega,by omega,?_⟩⟩;exact AL (ok2.new hp) Mu (q.mono ((g1.trans g2).trans (Go.new hp)))
theorem Cg{a:WE}(m:Mono a):Mono (Ez a):=λρ S P P' i h=>m _ _ _ _ (λx S1 ⟨xs,ns,b,c,d,q⟩=>⟨xs,ns,b,c,d,i _ _ q⟩) h
theorem EM{a:WE}(m:Mono a):Mono (MV a):=λρ S P P' i h=>m _ _ _ _ (λx S1 ⟨xs,ns,b,c,d,q⟩=>⟨xs,ns,b,c,d,i _ _ q⟩) h
theorem RlD.length{K:Vn}{as:List ZY}{H:Hp}:∀{kvs:List (Int×SV)} {ks:List (Key×V)},RlD K as H ks kvs->ks.length=kvs.length
 | [],_,h=>by rw[show _=[] from h];rfl
 | p::r,_,⟨v,t,e,_,h⟩=>by rw[e,Wr,Wr,RlD.length h]
theorem EN{x:Str}{lp:Pos}{j:Nat}{js:List Nat}{a e:WE}(m:Mono a):Mono (MU x lp j js a e):=λρ S P P' i h=>m _ _ _ _ (λv S1 ⟨xs,kz,a,b,c,l,t,q⟩=>⟨xs,kz,a,b,c,l,t,λys p o=>i _ _ (q ys p o)⟩) h
theorem RlAll.perm{K:Vn}{as:List ZY}{H:Hp}{ws ws':List V}(p:ws'.Perm ws):∀{xs:List SV},RlAll K as H ws xs->∃ xs',RlAll K as H ws' xs'/\xs'.Perm xs:=by
 induction p with
 | nil=>exact λ{xs} r=>⟨xs,r,.refl _⟩
 | cons v _ ih=>
   intro xs r;cases xs with
   | nil=>exact absurd (show _::_=[] from r) (YF _ _)
   | cons x xs=>
     obtain⟨_,_,e,r1,r2⟩:=r;cases e;obtain⟨xs',r',p'⟩:=ih r2;exact⟨x::xs',⟨_,_,rfl,r1,r'⟩,.cons _ p'⟩
 | swap u v l=>
   intro xs r;cases xs with
   | nil=>exact absurd (show _::_=[] from r) (YF _ _)
   | cons x xs=>
     obtain⟨_,_,e,r1,r2⟩:=r;cases e;cases xs with
     | nil=>exact absurd (show _::_=[] from r2) (YF _ _)
     | cons y xs=>
       obtain⟨_,_,e,r3,r4⟩:=r2;cases e;exact⟨y::x::xs,⟨_,_,rfl,r3,_,_,rfl,r1,r4⟩,.swap ..⟩
 | trans _ _ ih1 ih2=>
   intro xs r;obtain⟨x2,r2,p2⟩:=ih2 r;obtain⟨x1,r1,p1⟩:=ih1 r2;exact⟨x1,r1,p1.trans p2⟩
theorem SW{X:Cx}{x:Str}{p:Pos}(hg:Gl X x)(hd:(x == ("__debug__":Str))=false):PE X (.Name x p) λ_ H Q=>∃ C:ZY,X.mg x=some (.ref C)/\Q (.ref C) H:=λpins s σ H Q I ⟨C,hm,q⟩=>O0 (v := .ref C) hg hm rfl hd pins s σ H Q I q
theorem Fs{x:Str}{a:WE}(m:Mono a):Mono (SE x a):=λρ S P P' i h=>m _ _ _ _ (λv S1 ⟨c,C,b,e,q,z⟩=>⟨c,C,b,e,q,i _ _ z⟩) h
theorem Ft{a:WE}(m:Mono a):Mono (SF a):=λρ S P P' i h=>m _ _ _ _ (λv S1 ⟨c,e,z⟩=>⟨c,e,i _ _ z⟩) h
theorem KL{T:List Str}{Δ:Nat->Sn}{k:Nat}{N:List Str}{sc:Zi}{r:Expr}{x:Str}{p q np:Pos}{a:WE×WT}(C:Cok T Δ X k N sc)(hg:glo sc "isinstance"=true)(hx:glo sc x=true)(ha:Good X r a)(hs:c8 r=true):Good X (.Call (.Name "isinstance" p) [r,.Name x np] [] q) (tt1 (SE x a.1)):=by
 unfold glo at hg hx;simp only[Vo,bQ,W7]at hg hx;have gl:Gl X "isinstance":=by show X.env.scope.names.lookup ("isinstance":Str)=_;rw[C.hs];exact hg.1.1
 have gx:Gl X x:=by show X.env.scope.names.lookup x=_;rw[C.hs];exact hx.1.1
 refine .one (j0 _ (v5 EJ gl (C.bl .isi) Mq (m7 ha.pe (m7 (SW gx hx.2) A6 rfl) (g9 hs)) (by decide) hg.2 (g9 hs) rfl) ?_) (Fs ha.m) rfl;rintro σ H Q ⟨as,ρ,S,ok,en,h⟩;refine⟨as,ρ,S,ok,en,ha.m _ _ _ _ (λv S1 ⟨c,D,b,e0,hm,q⟩ as1 H1 v' g1 ok1 rv=>?_) h⟩;subst e0;obtain⟨ad,rfl,hH,kc⟩:=rl_exc.mp rv;obtain⟨n1,n2⟩:=kc.tb _ hm;exact⟨D,C.ns.on _ _ n1,.ref ad,.ref D,.ref c.ad,.ref D,b,rfl,.yes hH kc.t,rfl,n2,q as1 H1 _ g1 ok1 (rl_bl.mpr rfl)⟩
theorem VZ:Zh "ValueError"=some (.type "ValueError"):=by decide +kernel
theorem Ut{X:Cx}{p:Pos}(hg:Gl X "ValueError"):PE X (.Name "ValueError" p) λ_ H Q=>X.mg "ValueError"=none/\Q (.ty "ValueError") H:=λpins s σ H Q I ⟨hm,q⟩=>IC (v := .ty "ValueError") hg hm VZ rfl (by decide) rfl pins s σ H Q I q
theorem KM{T:List Str}{Δ:Nat->Sn}{k:Nat}{N:List Str}{sc:Zi}{r:Expr}{p q np:Pos}{a:WE×WT}(C:Cok T Δ X k N sc)(hg:glo sc "isinstance"=true)(hx:glo sc "ValueError"=true)(ha:Good X r a)(hs:c8 r=true):Good X (.Call (.Name "isinstance" p) [r,.Name "ValueError" np] [] q) (tt1 (SF a.1)):=by
 unfold glo at hg hx;simp only[Vo,bQ,W7]at hg hx;have gl:Gl X "isinstance":=by show X.env.scope.names.lookup ("isinstance":Str)=_;rw[C.hs];exact hg.1.1
 have gx:Gl X "ValueError":=by show X.env.scope.names.lookup ("ValueError":Str)=_;rw[C.hs];exact hx.1.1
 refine .one (j0 _ (v5 EJ gl (C.bl .isi) Mq (m7 ha.pe (m7 (Ut gx) A6 rfl) (g9 hs)) (by decide) hg.2 (g9 hs) rfl) ?_) (Ft ha.m) rfl;rintro σ H Q ⟨as,ρ,S,ok,en,h⟩;refine⟨as,ρ,S,ok,en,ha.m _ _ _ _ (λv S1 ⟨c,e0,q⟩ as1 H1 v' g1 ok1 rv=>?_) h⟩;subst e0;obtain⟨ad,rfl,hH,kc⟩:=rl_exc.mp rv;exact⟨C.ns.off _ kc.nv,.ref ad,.ty "ValueError",.ref c.ad,.type "ValueError",true,rfl,.yes hH kc.t,rfl,kc.kv,q as1 H1 _ g1 ok1 (rl_bl.mpr rfl)⟩
theorem F5{T:List Str}{Δ:Nat->Sn}{k:Nat}{N:List Str}{sc:Zi}{r:Expr}{p p2 q q2:Pos}{a:WE×WT}(C:Cok T Δ X k N sc)(hg:glo sc "sorted"=true)(hg2:glo sc "set"=true)(ha:Good X r a)(hs:c8 r=true):Good X (.Call (.Name "sorted" p) [.Call (.Name "set" p2) [r] [] q2] [] q) (tt1 (Ez a.1)):=by
 unfold glo at hg hg2;simp only[Vo,bQ,W7]at hg hg2;have gl:Gl X "sorted":=by show X.env.scope.names.lookup ("sorted":Str)=_;rw[C.hs];exact hg.1.1
 have gr:Gl X "set":=by show X.env.scope.names.lookup ("set":Str)=_;rw[C.hs];exact hg2.1.1
 refine .one (j0 _ (Fo C.calm gl (C.bl .sorted) gr C.st0 ha.pe (g9 hs) rfl rfl rfl) ?_) (Cg ha.m) rfl;rintro σ H Q ⟨as,ρ,S,ok,en,h⟩;refine⟨as,ρ,S,ok,en,ha.m _ _ _ _ (λx S1 ⟨xs,ns,h1,h2,h3,q⟩ as1 H1 v g1 ok1 rv=>?_) h⟩;obtain⟨a,us,rfl,hq,rr⟩:=By ok1 rv h1;rw[Ev h2 rr]at hq;exact⟨a,ns,rfl,hq,h3,AL ok1 RlAll.ints (q.mono g1)⟩
theorem HY{T:List Str}{Δ:Nat->Sn}{k:Nat}{N:List Str}{sc:Zi}{r:Expr}{p q:Pos}{a:WE×WT}(C:Cok T Δ X k N sc)(hg:glo sc "set"=true)(ha:Good X r a)(hs:c8 r=true):Good X (.Call (.Name "set" p) [r] [] q) (tt1 (MV a.1)):=by
 unfold glo at hg;simp only[Vo,bQ,W7]at hg;have gl:Gl X "set":=by show X.env.scope.names.lookup ("set":Str)=_;rw[C.hs];exact hg.1.1
 refine .one (j0 _ (w5 (Jt C.calm) gl C.st0 b_set (m7 ha.pe A6 (g9 hs)) (by decide) hg.2 (g9 hs) rfl) ?_) (EM ha.m) rfl;rintro σ H Q ⟨as,ρ,S,ok,en,h⟩;refine⟨as,ρ,S,ok,en,ha.m _ _ _ _ (λx S1 ⟨xs,ns,h1,h2,h3,q⟩ as1 H1 v g1 ok1 rv=>?_) h⟩;obtain⟨a,us,rfl,hq,rr⟩:=By ok1 rv h1;rw[Ev h2 rr]at hq;refine⟨a,ns,rfl,hq,h3,λl hl=>?_⟩;have ok2:Ok X.K (as1++[l]) (upd H1 l (.set (λk=>decide (k∈ns)) (Bo ns).length)) (S1++[.iset (AU ns)]):=ok1.pushO hl ⟨_,j3,λk=>by rw[decide_eq_decide];exact(AV ns k).symm⟩;exact q _ _ _ (g1.trans (Go.push hl)) ok2 (rl_loc.mpr ⟨l,by rw[<-ok1.len];exact WW,rfl⟩)
end
section
variable{K:Vn}{as:List ZY}{H:Hp}{S:Sto}
theorem RlD.get:∀{kvs:List (Int×SV)} {ks:List (Key×V)} {i:Nat} {p:Int×SV},RlD K as H ks kvs->kvs[i]?=some p->∃ v,ks[i]?=some (.inl p.1,v)
 | q::r,_,0,p,⟨v,t,e,_,_⟩,hp=>by cases hp;subst e;exact⟨v,rfl⟩
 | q::r,_,i+1,p,⟨v,t,e,_,h⟩,hp=>by
   subst e;obtain⟨u,hu⟩:=RlD.get (i:=i) h (show r[i]?=some p from hp);exact⟨u,hu⟩
theorem RlD.val:∀{kvs:List (Int×SV)} {ks:List (Key×V)},RlD K as H ks kvs->∀ i,(∃ x v,K3 kvs i=some x/\AK ks (.inl i)=some v/\Rl K as H v x)\/(K3 kvs i=none/\AK ks (.inl i)=none)
 | [],_,h,i=>by rw[show _=[] from h];exact .inr ⟨rfl,rfl⟩
 | p::r,_,⟨v,t,e,h1,h2⟩,i=>by
   subst e;by_cases hp:p.1=i
   ·refine .inl ⟨p.2,v,?_,?_,h1⟩
    ·unfold K3;rw[YM (by simp[hp])];rfl
    ·unfold AK;rw[YM (by simp[hp])];rfl
   ·have e1:K3 (p::r) i=K3 r i:=by unfold K3;rw[YN (by simp[hp])]
    have e2:AK ((Sum.inl p.1,v)::t) (Sum.inl i)=AK t (Sum.inl i):=by unfold AK;rw[YN (by simp[hp])]
    rw[e1,e2];exact RlD.val h2 i
theorem RlD.any:∀{kvs:List (Int×SV)} {ks:List (Key×V)},RlD K as H ks kvs->∀ i,(ks.any λkv=>decide (kv.1=Sum.inl i))=kvs.any λp=>decide (p.1=i)
 | [],_,h,i=>by rw[show _=[] from h];rfl
 | p::r,_,⟨v,t,e,h1,h2⟩,i=>by
   subst e;rw[Wx,Wx,RlD.any h2 i]
   congr 1
   simp
theorem RlD.set{v:V}{x:SV}(rv:Rl K as H v x):∀{kvs:List (Int×SV)} {ks:List (Key×V)},RlD K as H ks kvs->∀ i,RlD K as H (ks.map λkv=>if kv.1=Sum.inl i then (kv.1,v) else kv) (kvs.map λp=>if p.1=i then (p.1,x) else p)
 | [],_,h,i=>by rw[show _=[] from h];rfl
 | p::r,_,⟨u,t,e,h1,h2⟩,i=>by
   subst e;rw[WQ,WQ];by_cases hp:p.1=i
   ·rw[iP hp,iP (by rw[hp])];exact⟨v,_,rfl,rv,RlD.set rv h2 i⟩
   ·rw[iG hp,iG (λz=>hp (Sum.inl.inj z))];exact⟨u,_,rfl,h1,RlD.set rv h2 i⟩
theorem RlD.snoc{v:V}{x:SV}(rv:Rl K as H v x)(i:Int):∀{kvs:List (Int×SV)} {ks:List (Key×V)},RlD K as H ks kvs->RlD K as H (ks++[(Sum.inl i,v)]) (kvs++[(i,x)])
 | [],_,h=>by rw[show _=[] from h];exact⟨v,[],rfl,rv,rfl⟩
 | p::r,_,⟨u,t,e,h1,h2⟩=>by subst e;exact⟨u,_,rfl,h1,RlD.snoc rv i h2⟩
theorem RlD.put{kvs:List (Int×SV)}{ks:List (Key×V)}{v:V}{x:SV}(h:RlD K as H ks kvs)(rv:Rl K as H v x)(i:Int):RlD K as H (BO ks (Sum.inl i) v) (QU kvs i x):=by
 unfold BO QU;rw[h.any i];by_cases z:(kvs.any λp=>decide (p.1=i))=true
 ·rw[iP z,iP z];exact h.set rv i
 ·rw[iG z,iG z];exact h.snoc rv i
end
section
variable{X:Cx}
theorem RlD.zip{K:Vn}{as:List ZY}{H:Hp}:∀(ns:List Int) {ws:List V} {ys:List SV},RlAll K as H ws ys->RlD K as H ((ns.zip ws).map λt=>((.inl t.1:Key),t.2)) (ns.zip ys)
 | [],_,_,_=>rfl
 | n::ns,_,[],h=>by rw[rla_nil.mp h];rfl
 | n::ns,_,y::ys,h=>by
   obtain⟨v,r,rfl,h1,h2⟩:=rla_cons.mp h;exact⟨v,_,rfl,h1,RlD.zip ns h2⟩
end
theorem RlD.vals{K:Vn}{as:List ZY}{H:Hp}:∀{kvs:List (Int×SV)} {ks:List (Key×V)},RlD K as H ks kvs->RlAll K as H (ks.map (·.2)) (kvs.map (·.2))
 | [],_,h=>by rw[show _=[] from h];rfl
 | p::r,_,⟨v,t,e,a,h⟩=>by rw[e];exact⟨v,_,rfl,a,RlD.vals h⟩
theorem RlD.at{K:Vn}{as:List ZY}{H:Hp}:∀{kvs:List (Int×SV)} {ks:List (Key×V)} {i:Nat} {p:Int×SV},RlD K as H ks kvs->kvs[i]?=some p->∃ v,ks[i]?=some (.inl p.1,v)/\Rl K as H v p.2
 | [],_,i,p,_,hp=>by simp at hp
 | p::r,_,0,_,⟨v,t,e,a,h⟩,hp=>by cases hp;exact⟨v,by rw[e];rfl,a⟩
 | p::r,_,i+1,_,⟨v,t,e,a,h⟩,hp=>by
   obtain⟨u,hu,ru⟩:=RlD.at (i:=i) h hp;exact⟨u,by rw[e];exact hu,ru⟩
theorem EO{a d:WE}(m:Mono a)(m':Mono d):Mono (MR a d):=λρ S P P' i h=>m _ _ _ _ (λx S1 h=>m' _ _ _ _ (λy S2 ⟨k,ps,a,b,c,q0,q⟩=>⟨k,ps,a,b,c,λe=>i _ _ (q0 e),λp hp=>i _ _ (q p hp)⟩) h) h
theorem EQ{d e v:WE}(m:Mono d)(m1:Mono e)(m2:Mono v):Mono (MS d e v):=λρ S P P' i h=>m _ _ _ _ (λx S1 ⟨k,kv0,a,b,h⟩=>⟨k,kv0,a,b,m1 _ _ _ _ (λy S2 h=>m2 _ _ _ _ (λz S3 ⟨i1,j,m,kvs,a,b,c,d,q0,q1⟩=>⟨i1,j,m,kvs,a,b,c,d,λn e=>i _ _ (q0 n e),λe=>i _ _ (q1 e)⟩) h) h⟩) h
theorem C0:Mono HM:=λρ S P P' i h=>i _ _ h
theorem Fu{X:Cx}{p:Pos}:Good X (.Dict [] [] p) (tt1 HM):=
 .one (j0 _ Lb (λσ H Q ⟨as,ρ,S,ok,en,h⟩=>λl hl=>h _ _ _ (Go.push hl) (ok.pushO hl (show RlO _ _ _ _ (.dtp []) from j3)) (rl_loc.mpr ⟨l,by rw[<-ok.len];exact WW,rfl⟩))) C0 rfl
theorem F6(k:Int×Int):∀ kvs:List ((Int×Int)×Int),AK (dtV kvs) [.inl k.1,.inl k.2]=(dpv kvs k).map V.int
 | []=>rfl
 | p::r=>by
   have ih:=F6 k r;by_cases e:p.1=k
   ·rw[show dtV (p::r)=([.inl p.1.1,.inl p.1.2],V.int p.2)::dtV r from rfl,BP (by rw[e])];unfold dpv;rw[Wo,decide_eq_true e];rfl
   ·rw[show dtV (p::r)=([.inl p.1.1,.inl p.1.2],V.int p.2)::dtV r from rfl,BQ (λz=>e (by
     have z:([.inl p.1.1,.inl p.1.2]:List Key)=[.inl k.1,.inl k.2]:=z;injection z with z1 z2;injection z2 with z2 _;injection z1 with z1;injection z2 with z2;exact Prod.ext z1 z2)),ih]
    unfold dpv;rw[Wo,decide_eq_false e]
theorem HZ{X:Cx}{ro r r2:Expr}{ap cp:Pos}{d e v:WE×WT}(hu:X.A.units+1<cLine)(hd:Good X ro d)(he:Good X r e)(hv:Good X r2 v)(hn:Bf ro=true)(hl:(ap.endLine == cp.line)=true)(hs:c8 r=true)(hs2:c8 r2=true):Good X (.Call (.Attribute ro "setdefault" ap) [r,r2] [] cp) (tt1 (MS d.1 e.1 v.1)):=by
 refine .one (j0 _ (Oo hu hd.pe he.pe hv.pe ⟨t8 hn,by rw[g9 hs,g9 hs2];rfl,hl,by rw[g9 hs,g9 hs2];rfl⟩) ?_) (EQ hd.m he.m hv.m) rfl;rintro σ H Q ⟨as,ρ,S,ok,en,h⟩;refine⟨as,ρ,S,ok,en,hd.m _ _ _ _ (λx S1 ⟨k,kv0,e0,hk,h⟩ as1 H1 w g1 ok1 rw1=>?_) h⟩;subst e0;obtain⟨a,ea,rfl⟩:=rl_loc.mp rw1;have h1:H1 a=some (.dT (dtV kv0)):=ok1.obj k _ a hk ea;have en1:=en.mono g1.pre (g1.ku ok);refine⟨a,rfl,.inr ⟨_,.inl h1⟩,as1,ρ,S1,ok1,en1,he.m _ _ _ _ (λy S2 h as2 H2 w2 g2 ok2 rw2=>?_) h⟩;refine⟨as2,ρ,S2,ok2,en1.mono g2.pre (g2.ku ok1),hv.m _ _ _ _ (λz S3 ⟨i,j,m,kvs,e1,e2,hk3,hb,q0,q1⟩ as3 H3 w3 g3 ok3 rw3=>?_) h⟩;subst e1;subst e2;have ea3:=Er g3.pre (Er g2.pre ea);have h3:H3 a=some (.dT (dtV kvs)):=ok3.obj k _ a hk3 ea3;obtain⟨p,vs,rfl,hp,rp⟩:=rl_tup.mp (Rl.mono g3.pre (g3.ku ok2) _ _ rw2);obtain⟨u1,u2,rfl,r1,r2⟩:=Jz rp;rw[rl_int]at r1 r2 rw3;subst r1;subst r2;subst rw3;have G:=g1.trans (g2.trans g3);have len:(dtV kvs).length=kvs.length:=Vp ..;refine⟨dtV kvs,[.inl i,.inl j],p,rfl,h3,hp,by rw[len];exact WC hb (B1 (W0 _)),λu hu'=>?_,λhu'=>?_⟩
 ·rw[F6 (i,j)]at hu';obtain⟨n,hn',rfl⟩:=WZ.mp hu';exact q0 n hn' as3 H3 _ G ok3 (rl_int.mpr rfl)
 ·have hu2:=hu';rw[F6 (i,j)]at hu';have e:dpv kvs (i,j)=none:=YO.mp hu';rw[LY _ hu2]
  obtain⟨ok4,ku⟩:=ok3.writeO (x := .dtp (kvs++[((i,j),m)])) (u := .dT (dtV kvs++[([.inl i,.inl j],V.int m)])) hk3 ea3 (λ_=>by
   show upd _ _ _ a=some (.dT (dtV (kvs++[((i,j),m)])));rw[j3];unfold dtV;rw[WB];rfl)
  exact q1 e as3 _ _ (G.trans (Go.write (Vv ea3))) ok4 (rl_int.mpr rfl)
theorem Ha{X:Cx}{T:List Str}{Δ:Nat->Sn}{k:Nat}{N:List Str}{sc:Zi}{r u:Expr}{p q kp:Pos}{a d:WE×WT}(hu:X.A.units+1<cLine)(C:Cok T Δ X k N sc)(hg:glo sc "min"=true)(ha:Good X r a)(hd:Good X u d)(hs:c8 r=true):Good X (.Call (.Name "min" p) [r] [⟨some "default",u,kp⟩] q) (tt1 (MR a.1 d.1)):=by
 unfold glo at hg;simp only[Vo,bQ,W7]at hg;have gl:Gl X "min":=by show X.env.scope.names.lookup ("min":Str)=_;rw[C.hs];exact hg.1.1
 refine .one (j0 _ (Jm (Jn C.calm hu) gl (C.bl .min) QX (m7 ha.pe A6 (g9 hs)) (OI hd.pe RP) rfl (by decide) hg.2 (by rw[g9 hs];rfl) (by rw[g9 hs];rfl) rfl rfl) ?_) (EO ha.m hd.m) rfl;rintro σ H Q ⟨as,ρ,S,ok,en,h⟩;refine⟨as,ρ,S,ok,en,ha.m _ _ _ _ (λx S1 h as1 H1 v g1 ok1 rv=>?_) h⟩;have en1:=en.mono g1.pre (g1.ku ok);refine⟨as1,ρ,S1,ok1,en1,hd.m _ _ _ _ (λy S2 ⟨k,ps,e0,e1,h1,q0,q⟩ as2 H2 v2 g2 ok2 rv2=>?_) h⟩;subst e0;subst e1;rw[rl_non]at rv2;obtain⟨a,us,ev,ea,ha,rr⟩:=v7 ok2 (Rl.mono g2.pre (g2.ku ok1) _ _ rv) h1;have G:=g1.trans g2;refine⟨a,us,ps,by rw[ev],by rw[rv2],ha,⟨by rw[rr.length,Vp],λi p hp=>?_⟩,λe=>q0 e as2 H2 _ G ok2 (rl_non.mpr rfl),λi p q' hp hq' _ _=>?_⟩
 ·obtain⟨v,hv,rv⟩:=rr.get (show(ps.map λp:Int×Int=>SV.tup [.int p.1,.int p.2])[i]?=some (SV.tup [.int p.1,.int p.2]) by rw[Vx,hp];rfl);obtain⟨t,vs,rfl,ht,rt⟩:=rl_tup.mp rv;obtain⟨u1,u2,rfl,r1,r2⟩:=Jz rt;rw[rl_int]at r1 r2;subst r1;subst r2;exact⟨t,hv,ht⟩
 ·obtain⟨v,hv,rv⟩:=rr.get (show(ps.map λp:Int×Int=>SV.tup [.int p.1,.int p.2])[i]?=some (SV.tup [.int p.1,.int p.2]) by rw[Vx,hp];rfl);rw[hq']at hv;cases hv;exact q p (Vv hp) as2 H2 _ G ok2 rv
section
variable{K:Vn}{as:List ZY}{H:Hp}{S:Sto}
theorem RlT.length:∀{kvs:List (List Int×SV)} {us:List (List Key×V)},RlT K as H us kvs->us.length=kvs.length
 | [],_,h=>by rw[show _=_ from h];rfl
 | p::r,_,⟨v,t,e,_,h2⟩=>by rw[e,Wr,Wr,h2.length]
theorem RlT.get:∀{kvs:List (List Int×SV)} {us:List (List Key×V)} {i:Nat} {p:List Int×SV},RlT K as H us kvs->kvs[i]?=some p->∃ v,us[i]?=some (p.1.map Sum.inl,v)
 | [],_,_,_,_,h=>by simp at h
 | p::r,_,0,_,⟨v,t,e,_,h2⟩,h=>by
   simp at h;subst h;rw[e];exact⟨v,rfl⟩
 | p::r,_,i+1,_,⟨v,t,e,_,h2⟩,h=>by
   rw[e];obtain⟨v,hv⟩:=h2.get (i:=i) (by simpa using h);exact⟨v,by simpa using hv⟩
theorem Cs:∀{a b:List Int},a.map (Sum.inl:Int->Key)=b.map Sum.inl->a=b
 | [],[],_=>rfl
 | [],_::_,h=>by simp at h
 | _::_,[],h=>by simp at h
 | a::x,b::y,h=>by
   rw[WQ,WQ]at h;injection h with h1 h2;injection h1 with h1;rw[h1,Cs h2]
theorem RlT.val(k:List Int):∀{kvs:List (List Int×SV)} {us:List (List Key×V)},RlT K as H us kvs->(∃ x v,K0 kvs k=some x/\AK us (k.map Sum.inl)=some v/\Rl K as H v x)\/(K0 kvs k=none/\AK us (k.map Sum.inl)=none)
 | [],_,h=>by rw[show _=_ from h];exact .inr ⟨rfl,rfl⟩
 | p::r,_,⟨v,t,e,h1,h2⟩=>by
   rw[e];by_cases z:p.1=k
   ·refine .inl ⟨p.2,v,?_,BP (by rw[z]),h1⟩;unfold K0;rw[Wo,decide_eq_true z];rfl
   ·rw[BQ (λy=>z (Cs y)),show K0 (p::r) k=K0 r k by unfold K0;rw[Wo,decide_eq_false z]];exact RlT.val k h2
theorem RlT.snoc{k:List Int}{v:V}{x:SV}(rv:Rl K as H v x):∀{kvs:List (List Int×SV)} {us:List (List Key×V)},RlT K as H us kvs->RlT K as H (us++[(k.map Sum.inl,v)]) (kvs++[(k,x)])
 | [],_,h=>by rw[show _=_ from h];exact⟨v,[],rfl,rv,rfl⟩
 | p::r,_,⟨w,t,e,h1,h2⟩=>by rw[e];exact⟨w,_,rfl,h1,h2.snoc rv⟩
end
section
variable{K:Vn}{as:List ZY}{H:Hp}
theorem RlT.any:∀{kvs:List (List Int×SV)} {us:List (List Key×V)},RlT K as H us kvs->∀ k,(us.any λkv=>decide (kv.1=k.map Sum.inl))=kvs.any λp=>decide (p.1=k)
 | [],_,h,k=>by rw[show _=_ from h];rfl
 | p::r,_,⟨v,t,e,_,h2⟩,k=>by
   rw[e,Wx,Wx,RlT.any h2 k];by_cases z:p.1=k
   ·rw[decide_eq_true z,decide_eq_true (show _=_ by rw[z])]
   ·rw[decide_eq_false z,decide_eq_false (λy=>z (Cs y))]
theorem RlT.set{v:V}{x:SV}(rv:Rl K as H v x):∀{kvs:List (List Int×SV)} {us:List (List Key×V)},RlT K as H us kvs->∀ k:List Int,RlT K as H (us.map λkv=>if kv.1=k.map Sum.inl then (kv.1,v) else kv) (kvs.map λp=>if p.1=k then (p.1,x) else p)
 | [],_,h,k=>by rw[show _=_ from h];rfl
 | p::r,_,⟨w,t,e,h1,h2⟩,k=>by
   rw[e,WQ,WQ];by_cases z:p.1=k
   ·rw[iP z,iP (by rw[z])];exact⟨v,_,rfl,rv,RlT.set rv h2 k⟩
   ·rw[iG z,iG (λy=>z (Cs y))];exact⟨w,_,rfl,h1,RlT.set rv h2 k⟩
theorem RlT.put{kvs:List (List Int×SV)}{us:List (List Key×V)}{v:V}{x:SV}(h:RlT K as H us kvs)(rv:Rl K as H v x)(k:List Int):RlT K as H (BO us (k.map Sum.inl) v) (QT kvs k x):=by
 unfold BO QT;rw[h.any k];split
 ·exact h.set rv k
 ·exact h.snoc rv
theorem RlT.vals:∀{kvs:List (List Int×SV)} {us:List (List Key×V)},RlT K as H us kvs->RlAll K as H (us.map (·.2)) (kvs.map (·.2))
 | [],_,h=>by rw[show _=[] from h];rfl
 | p::r,_,⟨v,t,e,a,h⟩=>by rw[e];exact⟨v,_,rfl,a,RlT.vals h⟩
end
section
variable{X:Cx}{T:List Str}{Δ:Nat->Sn}{k:Nat}{N cn:List Str}{sc scL:Zi}{x y:Str}{js:List Nat}
theorem Cok.lam(C:Cok T Δ X k N sc)(hT:T.getLast?=some x)(hl:Bn sc scL [y] cn N js=true)(q:Str)(s:ZX)(H:Hp)(f c':ZY):Cok [] Δ (Fa X X.A.in1.in1 q scL (y::cn) s H f c') 1 (y::cn) scL where
 hN:=rfl
 hs:=rfl
 nd:=by
  unfold Bn y7 at hl;simp only[Vo,dQ]at hl;exact hl.1.1.1.2
 calm:=rfl
 fn:=λ_ _ _ _ h=>bQ.mpr h
 un:=by
  have:=(C.me x hT).2.2.2;show X.A.units+1+1+3+102<cLine;omega
 bl:=C.bl
 rng:=C.rng
 enm:=C.enm
 rvs:=C.rvs
 zip:=C.zip
 sm0:=C.sm0
 st0:=C.st0
 dc0:=C.dc0
 ty:=C.ty
 gd:=C.gd
 ns:=C.ns
 me:=λ_ h=>nomatch h
 call:=λ_ _ h=>absurd h (X4 _)
 mono:=C.mono
variable{K:Vn}{as:List ZY}{H:Hp}{S:Sto}
theorem ER:∀{kz:List Int} {us:List V} {xs:List SV},RlAll K as H us xs->Paired (λ(p:Int×SV) (q:Int×V)=>p.1=q.1/\Rl K as H q.2 p.2) (kz.zip xs) (kz.zip us)
 | [],_,_,_ => .nil
 | _::_,_,[],h=>by rw[rla_nil.mp h];exact .nil
 | _::_,_,_::_,h=>let ⟨_,_,e,a,b⟩:=rla_cons.mp h;e ▸ .cons ⟨rfl,a⟩ (ER b)
theorem CW:∀{zs:List (Int×SV)} {ys:List (Int×V)},Paired (λ(p:Int×SV) (q:Int×V)=>p.1=q.1/\Rl K as H q.2 p.2) zs ys->RlAll K as H (ys.map (·.2)) (zs.map (·.2))/\zs.map (·.1)=ys.map (·.1)
 | _,_,.nil=>⟨.nil,rfl⟩
 | _,_,.cons r t=>⟨.cons r.2 (CW t).1,by rw[WQ,WQ,r.1,(CW t).2]⟩
theorem PJ{σ:St}{ρ:EnvS}{v:V}{u:SV}(en:EnvOk K as H σ ρ)(r:Rl K as H v u):EnvOk K as H (DC [v] js σ) (some u::js.map λj=>(ρ[j]?).join):=by
 refine⟨by simp[DC],λi z e=>?_⟩;cases i with
 | zero=>cases e;exact⟨v,rfl,r⟩
 | succ i=>
   rw[YG,Vx]at e;obtain⟨j,e1,e2⟩:=WZ.mp e
   have e3:ρ[j]?=some (some z):=by
    cases h:ρ[j]? with
    | none=>rw[h]at e2;cases e2
    | some w=>rw[h]at e2;exact congrArg some e2
   obtain⟨w,e4,rw'⟩:=en.2 j z e3;refine⟨w,?_,rw'⟩;show(some v::js.map λj=>(σ[j]?).join)[i+1]?=_;rw[YG,Vx,e1,XM,e4];rfl
theorem Mv{q:Str}{an:Option Expr}{ap:Pos}{body:Expr}{sc:Zi}{cl:List (Str×ZY)}{pm c ct u:ZW}:A0S (PySem.W.kla_fn "<lambda>" q ⟨[],[⟨y,an,ap⟩],none,[],[],none,[]⟩ body sc cl pm c ct) ⟨[u],[]⟩=pure [(y,u)]:=by
 have l:Y5 y [(y,u)]=some u:=by rw[Wy,beq_self_eq_true]
 unfold A0S;simp[PySem.W.kla_fn,A0U,l];rfl
theorem Hb{r body:Expr}{lp p q kp:Pos}{an:Option Expr}{ap:Pos}{a e:WE×WT}{j:Nat}(C:Cok T Δ X k N sc)(hg:glo sc "sorted"=true)(ha:Good X r a)(hs:c8 r=true)(hT:T.getLast?=some x)(hl:Bn sc scL [y] cn N js=true)
 (he:∀ s H f c',Good (Fa X X.A.in1.in1 (Rq x) scL (y::cn) s H f c') body e):
 Good X (.Call (.Name "sorted" p) [r] [⟨some "key",.Lambda ⟨[],[⟨y,an,ap⟩],none,[],[],none,[]⟩ body scL lp,kp⟩] q) (tt1 (MU x lp j js a.1 e.1)):=by
 unfold glo at hg;simp only[Vo,bQ,W7]at hg;have gl:Gl X "sorted":=by show X.env.scope.names.lookup ("sorted":Str)=_;rw[C.hs];exact hg.1.1
 obtain⟨m1,m2,m3,m4⟩:=C.me x hT;have me:=(he X.s₀ X.H₀ 0 0).m;refine .one (j0 _ (Ls (x:=y) (q:=Rq x) (tb:=lift X.K e.1) gl (C.bl .sorted) (m7 ha.pe A6 (g9 hs)) (by rw[C.hs,C.hN];exact hl) (by rw[m1]) rfl (λ_ _ _ _ _=>Mv) C.calm (by omega) (λs H f c'=>(he s H f c').pe) (by rw[g9 hs];rfl) (by rw[g9 hs];rfl)) ?_) (EN ha.m) rfl;rintro σ H Q ⟨as,ρ,S,ok,en,h⟩;refine⟨as,ρ,S,ok,en,ha.m _ _ _ _ (λv S1 ⟨xs,kz,h1,lt,ht,lz,turn,fin⟩ as1 H1 u g1 ok1 rv=>?_) h⟩;have en1:=en.mono g1.pre (g1.ku ok);obtain⟨pa,us,ev,hp,rr⟩:=By ok1 rv h1;obtain⟨P,eP,c,ps,hP,tk,tok⟩:=ok1.at ht;have ul:=rr.length;refine⟨pa,us,kz,c,P,ps,by rw[ev],by omega,by omega,m2 c P tk,tk.2,hP,tok,λf c' H2 L=>?_⟩;have k12:KeepU H1 H2:=λb o e i=>L.keep b o (λz=>by rw[z,hP]at e;cases e;cases i) e;have g2:Go as1 H1 as1 H2:=⟨WV _,λb o e n=>⟨L.keep b o (λz=>n (z▸Vv eP)) e,n⟩⟩
 have ok2:Ok X.K as1 H2 S1:=⟨ok1.len,ok1.nd,λi o b eo eb=>by
  by_cases z:b=P
  ·have:i=j:=(Yv ((gM eb).1) ok1.nd).mp (by rw[eb,eP,z]);subst this;rw[ht]at eo;cases eo;obtain⟨ps',h1,h2⟩:=L.tab;exact⟨c,ps',z▸h1,z▸tk,h2⟩
  ·exact(ok1.obj i o b eo eb).mono (WV _) k12 λu hu=>L.keep b u z hu⟩
 have rd2:∀{o:HO},(∀ ps,o ≠ .tbl ps)->Rd H1 pa o->Rd H2 pa o:=λ{o} no h=>h.elim (λz => .inl (L.keep _ _ (λe=>by rw[e,hP]at z;cases z;exact no _ rfl) z)) λ⟨o',z⟩ => .inr ⟨o',L.keep _ _ (λe=>by rw[e,hP]at z;cases z) z⟩;have sq2:SqL X.K H2 pa us\/SqT X.K H2 pa us:=hp.imp (Or.imp_left (rd2 λ_=>nofun)) (Or.imp_left (rd2 λ_=>nofun));refine⟨λH=>Go as1 H1 as1 H/\Ok X.K as1 H S1/\KeepU H2 H,⟨g2,ok2,KeepU.refl _⟩,sq2,λH j=>⟨j.2.2 _ _ L.lam rfl,j.2.2 _ _ L.cod rfl⟩,λi v z H hv hz ⟨jg,jo,jk⟩=>?_,λH l ys ⟨jg,jo,jk⟩ hl pm pw=>?_⟩
 ·have il:i<xs.length:=by rw[<-ul];exact(gM hv).1
  obtain⟨v',e1,r1⟩:=rr.get (Vq il);rw[hv]at e1;cases e1;have ku:=jg.ku ok1;refine⟨as1,_,S1,jo,PJ (en1.mono (WV _) ku) (Rl.mono (WV _) ku _ _ r1),me _ _ _ _ (λr S' ⟨er,eS⟩ as' H' w g ok' rw'=>?_) (turn i _ z (Vq il) hz)⟩;subst er;subst eS;have:as'=as1:=(g.pre.eq_of_length (by rw[ok'.len,jo.len])).symm;subst this;exact⟨rl_int.mp rw',jg.trans g,ok',jk.trans (g.ku jo)⟩
 ·obtain⟨zs,rp,pz⟩:=CS pm (ER (kz:=kz) (RlAll.mono (WV _) (jg.ku ok1) _ _ rr));have up:=CW rp;exact fin zs pz (up.2▸pw) (as1++[l]) _ (.ref l) (g1.trans (jg.trans (Go.push hl))) (jo.push hl up.1) (M4 jo)
end
end Rf
namespace Srf
open PySem PyProof.Rows
noncomputable def KF(f:ZW->Int)(xs:Array Keyed)(i:Nat):Int:=match xs[i]? with
 | some p=>f p.1
 | none=>0
variable{f:ZW->Int}
noncomputable def Sg(f:ZW->Int)(xs:Array Keyed)(lo k:Nat):Prop:=∀ i j,i<=j->j<k->KF f xs (lo+i)<=KF f xs (lo+j)
noncomputable def Dg(f:ZW->Int)(xs:Array Keyed)(lo k:Nat):Prop:=∀ i j,i<=j->j<k->KF f xs (lo+j)<=KF f xs (lo+i)
structure Sb(a₀ a1:Array Keyed)(lo:Nat)(pd:Array (Nat×Nat×Nat))(st:SortSt):Prop where
 perm:(arrOf st).Perm a₀
 kind:kindOf st=oneType'
 failed:A1z st=none
 pend:pendingOf st=pd
 pre:∀ i,i<lo->(arrOf st)[i]?=a1[i]?
section
variable{a₀ a1:Array Keyed}{lo:Nat}{pd:Array (Nat×Nat×Nat)}{st:SortSt}
theorem Sb.size(h:Sb a₀ a1 lo pd st):(arrOf st).size=a₀.size:=h.perm.size_eq
theorem Sb.put(h:Sb a₀ a1 lo pd st){xs:Array Keyed}(hp:xs.Perm (arrOf st))(hq:∀ i,i<lo->xs[i]?=(arrOf st)[i]?):Sb a₀ a1 lo pd (setArr st xs):=
 ⟨hp.trans h.perm,h.kind,h.failed,h.pend,λi hi=>(hq i hi).trans (h.pre i hi)⟩
end
section
variable{prog:Zd}{w:Zf}{A:Zj}{E:ZW->ZX->Prop}{s:ZX}{a₀ a1:Array Keyed}{lo:Nat}{pd:Array (Nat×Nat×Nat)}
theorem Sg.more{xs:Array Keyed}{x:Nat}(h:Sg f xs lo x)(h1:1<=x)(hx:KF f xs (lo+x - 1)<=KF f xs (lo+x)):Sg f xs lo (x+1):=λi j hij hj=>by
 by_cases z:j<x
 ·exact h i j hij z
 ·rw[show j=x by omega];by_cases y:i=x
  ·rw[y];exact Z9 _
  ·refine ZS (h i (x - 1) (by omega) (by omega)) ?_;rw[show lo+(x - 1)=lo+x - 1 by omega];exact hx
theorem Dg.more{xs ys:Array Keyed}{x:Nat}(h:Dg f xs lo x)(e:∀ k,KF f ys k=KF f xs k)(h1:1<=x)(hx:KF f xs (lo+x)<=KF f xs (lo+x - 1)):Dg f ys lo (x+1):=λi j hij hj=>by
 rw[e,e];by_cases z:j<x
 ·exact h i j hij z
 ·rw[show j=x by omega];by_cases y:i=x
  ·rw[y];exact Z9 _
  ·have:=h i (x - 1) (by omega) (by omega);rw[show lo+(x - 1)=lo+x - 1 by omega]at this;exact ZS hx this
end
end Srf
namespace Rf
open PySem L2
theorem RlD.keys{K:Vn}{as:List ZY}{H:Hp}:∀{kvs:List (Int×SV)} {ks:List (Key×V)},RlD K as H ks kvs->RlAll K as H (ks.map λp=>kV p.1) (kvs.map λp=>SV.int p.1)
 | [],_,h=>by rw[show _=[] from h];rfl
 | p::r,_,⟨v,t,e,a,h⟩=>by rw[e];exact⟨_,_,rfl,rl_int.mpr rfl,RlD.keys h⟩
end Rf
namespace L2
open PySem PySem.Spec PyProof.Rows
noncomputable def IterK(k:Bool)(h:Heap)(it l:ZY)(i:Nat):Prop:=match k with
 | true=>h.IsTupleIter it l i
 | false=>h.IsListIter it l i
theorem IterK.obj{k:Bool}{h:Heap}{it l:ZY}{i:Nat}(x:IterK k h it l i):∃ o,h.get? it=some o/\∀ v,o.data ≠ .cell v:=by
 cases k<;>(obtain⟨o,e,_,d⟩:=x;exact⟨o,e,λv q=>by rw[d]at q;cases q⟩)
theorem IterK.at{k:Bool}{h h':Heap}{it l:ZY}{i:Nat}(x:IterK k h it l i)(f:∀ o,h.get? it=some o->h'.get? it=some o):IterK k h' it l i:=by
 cases k
 ·exact Heap.IsListIter.at x f
 ·exact Heap.IsTupleIter.at x f
end L2
namespace Rf
open PySem L2
noncomputable def Fv(K:Vn)(g:Tg):TG:=λv σ H Q=>∃ as ρ S x,Ok K as H S/\EnvOk K as H σ ρ/\Rl K as H v x/\wTg g x ρ λρ'=>∀ σ',EnvOk K as H σ' ρ'->Q σ' H
noncomputable def SX(K:Vn)(g:Tgs):TGs:=λvs σ H Q=>∃ as ρ S xs,Ok K as H S/\EnvOk K as H σ ρ/\RlAll K as H vs xs/\Aa g xs ρ λρ'=>∀ σ',EnvOk K as H σ' ρ'->Q σ' H
mutual
theorem AA:∀(g:Tg) {x:SV} {ρ:EnvS} {P P':EnvS->Prop},(∀ r,P r->P' r)->wTg g x ρ P->wTg g x ρ P'
 | .nm i,x,ρ,P,P',h,q=>by unfold wTg at q ⊢;exact h _ q
 | .tup ts,x,ρ,P,P',h,q=>by
   cases x with
   | tup xs=>unfold wTg at q ⊢;exact Fw ts h q
   | _=>unfold wTg at q;exact q.elim
theorem Fw:∀(g:Tgs) {x:List SV} {ρ:EnvS} {P P':EnvS->Prop},(∀ r,P r->P' r)->Aa g x ρ P->Aa g x ρ P'
 | .nil,x,ρ,P,P',h,q=>by
   cases x with
   | nil=>unfold Aa at q ⊢;exact h _ q
   | cons _ _=>unfold Aa at q;exact q.elim
 | .cons t ts,x,ρ,P,P',h,q=>by
   cases x with
   | nil=>unfold Aa at q;exact q.elim
   | cons y ys=>unfold Aa at q ⊢;exact AA t (λr q=>Fw ts h q) q
end
theorem BT{env:Env}:∀{es:List Expr},es.all c8=true->(Zy es env).length=es.length/\(Zy es env).findIdx? (·.1)=none/\∀ e r,es=e::r->(Zy (e::r) env).map (·.2)=assign e env::(Zy r env).map (·.2)
 | [],_=>⟨rfl,rfl,λe r h=>by cases h⟩
 | e::es,h=>by
   rw[Ww,Vo]at h;obtain⟨h1,h2,_⟩:=BT (env:=env) h.2;have:Zy (e::es) env=(false,assign e env)::Zy es env:=by cases e<;>first | rfl | (have:=h.1;cases this)
   rw[this];refine⟨by simp[h1],by rw[List.findIdx?_cons,h2];rfl,λe' r z=>?_⟩;injection z with z1 z2;subst z1 z2;rw[this];rfl
theorem CY{k:Nat}{N:List Str}{sc:Zi}:∀{g:Tgs} {es:List Expr},AW k N sc g es=true->es.all c8=true
 | .nil,es,h=>by unfold AW at h;rw[Wp]at h;subst h;rfl
 | .cons t ts,es,h=>by
   rw[AW]at h;replace h:=c3 h;obtain⟨e,he,h⟩:=h;simp only[Vo]at h;rw[Ad he,Ww,h.1.2,CY h.2];rfl
section
variable{X:Cx}{T:List Str}{Δ:Nat->Sn}{k:Nat}{N:List Str}{sc:Zi}
mutual
theorem CC(C:Cok T Δ X k N sc):∀(g:Tg) (r:Expr),Bp k N sc g r=true->PG X r (Fv X.K g)
 | .nm i,r,h=>by
   rw[Bp]at h;replace h:=c3 h;obtain⟨x,hx,h⟩:=h;obtain⟨p,rfl⟩:=y4 hx
   ·simp only[Vo,dQ]at h;obtain⟨⟨h1,h2⟩,h3⟩:=h;unfold loc at h3;simp only[WK,bQ]at h3;have hl:Loc X.env.scope x:=by rw[C.hs];exact h3
    have hf:X.fn x=true\/X.env.scope.names.lookup x=some .local:=by
     rw[C.hs];rcases h3 with h3 | h3
     ·exact .inr h3
     ·exact .inl (C.fn i x h1 h2 h3)
    have b:=OB (X:=X) (pos:=p) (i:=i) (by rw[C.hN];exact C.nd) (by rw[C.hN];exact h2) hl hf;intro pins s σ H v u Q I rr hq;obtain⟨as,ρ,S,y,ok,en,rv,q⟩:=hq;unfold wTg at q;exact b pins s σ H v u Q I rr (q _ (en.set rv))
 | .tup ts,r,h=>by
   rw[Bp]at h;replace h:=c3 h;obtain⟨es,he,h⟩:=h;obtain⟨j,p,rfl⟩:=Bg he
   ·have st:=BT (env:=X.env) (CY h);have b:=R7 (X:=X) (k:=j) (pos:=p) C.calm (ES C ts es h) st.1 st.2.1;intro pins s σ H v u Q I rr hq;refine b pins s σ H v u Q I rr ?_;obtain⟨as,ρ,S,y,ok,en,rv,q⟩:=hq;cases y with
    | tup xs=>
      obtain⟨a,vs,rfl,ha,ra⟩:=rl_tup.mp rv;unfold wTg at q;refine⟨a,vs,rfl,SqT.of ha,?_,as,ρ,S,xs,ok,en,ra,q⟩;rw[ra.length];exact Iq ts es xs h q
    | _=>unfold wTg at q;exact q.elim
theorem ES(C:Cok T Δ X k N sc):∀(g:Tgs) (es:List Expr),AW k N sc g es=true->PGs X es (SX X.K g)
 | .nil,es,h=>by
   rw[AW]at h;rw[Wp]at h;subst h;intro pins s σ H vs us Q I rr hq;refine OC pins s σ H vs us Q I rr ?_;obtain⟨as,ρ,S,xs,ok,en,rv,q⟩:=hq;cases xs with
   | nil=>unfold Aa at q;exact⟨rla_nil.mp rv,q _ en⟩
   | cons _ _=>unfold Aa at q;exact q.elim
 | .cons t ts,el,h=>by
   have st:=BT (env:=X.env) (CY h);rw[AW]at h;replace h:=c3 h;obtain⟨e,he,h⟩:=h;simp only[Vo]at h;rw[Ad he]at st ⊢;generalize el.tail=es at h st;intro pins s σ H vs us Q I rr hq;refine Kz (CC C t e h.1.1) (ES C ts es h.2) (st.2.2 _ _ rfl) pins s σ H vs us Q I rr ?_;obtain⟨as,ρ,S,xs,ok,en,rv,q⟩:=hq;cases xs with
   | nil=>unfold Aa at q;exact q.elim
   | cons y ys=>
     unfold Aa at q;obtain⟨v,r,rfl,r1,r2⟩:=rla_cons.mp rv;exact⟨v,r,rfl,as,ρ,S,y,ok,en,r1,AA t (λρ' q σ' en'=>⟨as,ρ',S,ys,ok,en',r2,q⟩) q⟩
theorem Iq:∀(g:Tgs) (es:List Expr) (xs:List SV) {ρ:EnvS} {P:EnvS->Prop},AW k N sc g es=true->Aa g xs ρ P->xs.length=es.length
 | .nil,es,xs,ρ,P,h,q=>by
   rw[AW]at h;rw[Wp]at h;subst h;cases xs with
   | nil=>rfl
   | cons _ _=>unfold Aa at q;exact q.elim
 | .cons t ts,el,xs,ρ,P,h,q=>by
   rw[AW]at h;replace h:=c3 h;obtain⟨e,he,h⟩:=h;simp only[Vo]at h;rw[Ad he];generalize el.tail=es at h;cases xs with
   | nil=>unfold Aa at q;exact q.elim
   | cons y ys=>
     unfold Aa at q;obtain⟨ρ',q'⟩:=Ir t q;simp[Iq ts es ys h.2 q']
theorem Ir:∀(g:Tg) {x:SV} {ρ:EnvS} {P:EnvS->Prop},wTg g x ρ P->∃ ρ',P ρ'
 | .nm i,x,ρ,P,q=>by unfold wTg at q;exact⟨_,q⟩
 | .tup ts,x,ρ,P,q=>by
   cases x with
   | tup xs=>unfold wTg at q;exact Fx ts q
   | _=>unfold wTg at q;exact q.elim
theorem Fx:∀(g:Tgs) {xs:List SV} {ρ:EnvS} {P:EnvS->Prop},Aa g xs ρ P->∃ ρ',P ρ'
 | .nil,xs,ρ,P,q=>by
   cases xs with
   | nil=>unfold Aa at q;exact⟨_,q⟩
   | cons _ _=>unfold Aa at q;exact q.elim
 | .cons t ts,xs,ρ,P,q=>by
   cases xs with
   | nil=>unfold Aa at q;exact q.elim
   | cons y ys=>
     unfold Aa at q;obtain⟨ρ',q'⟩:=Ir t q;exact Fx ts q'
end
end
structure Gu(as:List ZY)(H:Hp)(as':List ZY)(H':Hp):Prop where
 pre:as <+: as'
 kp:KeepU H H'
theorem Gu.ku{K:Vn}{as as':List ZY}{H H':Hp}{S:Sto}(g:Gu as H as' H')(_:Ok K as H S):KeepU H H':=g.kp
theorem Go.gu{K:Vn}{as as':List ZY}{H H':Hp}{S:Sto}(g:Go as H as' H')(ok:Ok K as H S):Gu as H as' H':=⟨g.pre,g.ku ok⟩
noncomputable def Walks(K:Vn)(as0:List ZY)(H0:Hp)(J:It)(keep:Sto->Prop)(xs:List SV):Prop:=∀ as H S,Gu as0 H0 as H->Ok K as H S->keep S->
 (∀(i:Nat) (x:SV),xs[i]?=some x->J.go i H/\∀ v H',J.yld i H v H'->Go as H as H'/\Ok K as H' S/\Rl K as H' v x)/\J.stop xs.length H
noncomputable def Uu(K:Vn)(as:List ZY)(H:Hp)(R:It->Hp->Prop):(Sto->Prop)->List SV->Sto->Prop:=λkeep xs S1=>∀ as1 H1 J,Go as H as1 H1->Ok K as1 H1 S1->Walks K as1 H1 J keep xs->R J H1
noncomputable def liftI(K:Vn)(w:WI):TI:=λσ H R=>∃ as ρ S,Ok K as H S/\EnvOk K as H σ ρ/\w ρ S (Uu K as H R)
noncomputable def MonoI(w:WI):Prop:=∀ ρ S (P P':(Sto->Prop)->List SV->Sto->Prop),(∀ k x S',P k x S'->P' k x S')->w ρ S P->w ρ S P'
structure GoodI(X:Cx)(tg r:Expr)(w:WI):Prop where
 pi:PI X tg r (liftI X.K w)
 m:MonoI w
section
variable{X:Cx}{K:Vn}
theorem Fy{as0 as:List ZY}{H0 H:Hp}{S1 S:Sto}{x:SV}{v:V}{xs:List SV}(ok1:Ok K as0 H0 S1)(r:Rl K as0 H0 v x)(h:seqS x S1=some xs)(g:Gu as0 H0 as H)(ok:Ok K as H S)(kp:keepS x S1 S):Rl K as H v x/\seqS x S=some xs:=by
 refine⟨Rl.mono g.pre (g.ku ok1) x v r,?_⟩;cases x with
 | loc k=>
   have kp:S[k]?=S1[k]?:=kp;unfold seqS at h ⊢;simp only[kp];exact h
 | _=>exact h
theorem KN{as0:List ZY}{H0:Hp}{S1:Sto}{x:SV}{a:ZY}{xs:List SV}(ok1:Ok K as0 H0 S1)(r:Rl K as0 H0 (.ref a) x)(n:x ≠ .tup xs)(h:seqS x S1=some xs):Walks K as0 H0 (Itl K a) (keepS x S1) xs:=λas H S g ok kp=>by
 obtain⟨r',h'⟩:=Fy ok1 r h g ok kp;obtain⟨b,vs,e,hq,rr⟩:=B9 ok r' n h';cases e;refine⟨λi y hy=>?_,vs,hq,by rw[rr.length];exact W0 _⟩;obtain⟨v,hv,rv⟩:=rr.get hy;refine⟨⟨vs,v,hq,hv⟩,λu H' yl=>?_⟩;obtain⟨e,yl⟩:=yl;subst e;have:=yl vs hq;rw[hv]at this;cases this;exact⟨Go.refl _ _,ok,rv⟩
theorem Mw{as0:List ZY}{H0:Hp}{S1:Sto}{a:ZY}{xs:List SV}(ok1:Ok K as0 H0 S1)(r:Rl K as0 H0 (.ref a) (.tup xs)):Walks K as0 H0 (Itt K a) (keepS (.tup xs) S1) xs:=λas H S g ok kp=>by
 have r':=Rl.mono g.pre (g.ku ok1) _ _ r;obtain⟨b,vs,e,hb,rr⟩:=rl_tup.mp r';cases e;refine⟨λi y hy=>?_,vs,SqT.of hb,by rw[rr.length];exact W0 _⟩;obtain⟨v,hv,rv⟩:=rr.get hy;refine⟨⟨vs,v,SqT.of hb,hv⟩,λu H' yl=>?_⟩;obtain⟨e,yl⟩:=yl;subst e;have:=yl vs (SqT.of hb);rw[hv]at this;cases this;exact⟨Go.refl _ _,ok,rv⟩
theorem Fz{as0:List ZY}{H0:Hp}{lo hi:Int}:Walks K as0 H0 (Itr lo (hi - lo).toNat) (λ_=>True) (u8 lo hi):=λas H S g ok _=>by
 have hl:(u8 lo hi).length=(hi - lo).toNat:=by unfold u8;simp
 refine⟨λi y hy=>?_,by show(hi - lo).toNat<=(u8 lo hi).length;rw[hl];exact W0 _⟩;have hi':i<(hi - lo).toNat:=by rw[<-hl];exact(gM hy).1
 refine⟨hi',λu H' yl=>?_⟩;obtain⟨e,rfl⟩:=yl;subst e
 have:y = .int (lo+i):=by
  unfold u8 at hy;rw[Vx,Wv hi']at hy;exact(oj hy).symm
 subst this;exact⟨Go.refl _ _,ok,rl_int.mpr rfl⟩
theorem G7{xs:List SV}{i:Nat}{y:SV}(h:(BH xs)[i]?=some y):∃ x,xs[i]?=some x/\y = .tup [.int i,x]:=by
 unfold BH at h;rw[YS]at h;cases h1:(Vw xs.length)[i]? with
 | none=>rw[h1]at h;cases h
 | some j=>
   cases h2:xs[i]? with
   | none=>rw[h1,h2]at h;cases h
   | some x=>
     rw[h1,h2]at h;have hi:=(gM h2).1;rw[Wv hi]at h1;cases h1;cases h;exact⟨x,rfl,rfl⟩
theorem G8{xs:List SV}:(BH xs).length=xs.length:=by unfold BH;simp
theorem Hc{as0:List ZY}{H0:Hp}{S1:Sto}{x:SV}{a:ZY}{xs:List SV}(ok1:Ok K as0 H0 S1)(r:Rl K as0 H0 (.ref a) x)(n:x ≠ .tup xs)(h:seqS x S1=some xs):Walks K as0 H0 (RX K a) (keepS x S1) (BH xs):=λas H S g ok kp=>by
 obtain⟨r',h'⟩:=Fy ok1 r h g ok kp;obtain⟨b,vs,e,hq,rr⟩:=B9 ok r' n h';cases e;refine⟨λi y hy=>?_,vs,hq,by rw[rr.length,G8]⟩;obtain⟨z,hz,rfl⟩:=G7 hy;obtain⟨v,hv,rv⟩:=rr.get hz;refine⟨⟨vs,v,hq,hv⟩,λu H' yl=>?_⟩;obtain⟨p,w,hp,rfl,yl,rfl⟩:=yl;have:=yl vs hq;rw[hv]at this;cases this;exact⟨Go.new hp,ok.new hp,rl_tup.mpr ⟨p,_,rfl,j3,.cons (rl_int.mpr rfl) (.cons (Rl.mono (WV _) (B0 hp) z v rv) .nil)⟩⟩
theorem Hd{as0:List ZY}{H0:Hp}{S1:Sto}{a:ZY}{xs:List SV}(ok1:Ok K as0 H0 S1)(r:Rl K as0 H0 (.ref a) (.tup xs)):Walks K as0 H0 (RY K a) (keepS (.tup xs) S1) (BH xs):=λas H S g ok kp=>by
 have r':=Rl.mono g.pre (g.ku ok1) _ _ r;obtain⟨b,vs,e,hb,rr⟩:=rl_tup.mp r';cases e;refine⟨λi y hy=>?_,vs,SqT.of hb,by rw[rr.length,G8]⟩;obtain⟨z,hz,rfl⟩:=G7 hy;obtain⟨v,hv,rv⟩:=rr.get hz;refine⟨⟨vs,v,SqT.of hb,hv⟩,λu H' yl=>?_⟩;obtain⟨p,w,hp,rfl,yl,rfl⟩:=yl;have:=yl vs (SqT.of hb);rw[hv]at this;cases this;exact⟨Go.new hp,ok.new hp,rl_tup.mpr ⟨p,_,rfl,j3,.cons (rl_int.mpr rfl) (.cons (Rl.mono (WV _) (B0 hp) z v rv) .nil)⟩⟩
theorem F7{tg l:Expr}{w:TI}(w':TI)(h:PI X tg l w)(imp:∀ σ H R,w' σ H R->w σ H R):PI X tg l w':=λpins s σ H R I hw=>h pins s σ H R I (imp σ H R hw)
noncomputable def Va(K:Vn)(tl:TE):TI:=λσ H R=>tl σ H λx H1=>∃ a,x = .ref a/\(((∃ xs,SqL K H1 a xs)/\R (Itl K a) H1)\/((∃ xs,SqT K H1 a xs)/\R (Itt K a) H1))
theorem SY{tg l:Expr}{tl:TE}(hl:PE X l tl):PI X tg l (Va X.K tl):=by
 intro pins s σ H R I h;refine thn (hl pins s σ H _ I h) λv s1 ⟨x,H1,I1,r1,q1⟩=>?_;obtain⟨a,e,q⟩:=q1;subst e;cases r1;have I2:∀{ob:Obj},Inv X pins σ H1 {s1 with heap:=s1.heap.push ob}:=I1.kept (t':=s1.toks) λb o e=>Vr _ e
 have fp:∀ b∈[s1.heap.objs.size],FpOk X pins H1 b:=λb hb=>by
  rw[W1.mp hb];exact I1.fpOk (W0 _) (I1.hok.fresh (W0 _))
 rcases q with⟨⟨xs,hq⟩,q⟩ | ⟨⟨xs,hq⟩,q⟩
 ·obtain⟨its,rv,p,hz⟩:=I1.list hq;exact A0q p.isList ⟨s1.heap.objs.size,[s1.heap.objs.size],_,_,H1,rfl,I2,JN a _,⟨_,W2 _ rfl,rfl,rfl⟩,fp,q⟩
 ·obtain⟨its,rv,p,hz⟩:=I1.tuple hq;exact A09 (show s1.heap.IsTuple a its.toArray from p) ⟨s1.heap.objs.size,[s1.heap.objs.size],_,_,H1,rfl,I2,Gk a _,⟨_,W2 _ rfl,rfl,rfl⟩,fp,q⟩
theorem KO{tg r:Expr}{a:WE×WT}(ha:Good X r a):GoodI X tg r (QS a.1) where
 m:=λρ S P P' i h=>ha.m _ _ _ _ (λx S1 ⟨xs,e,q⟩=>⟨xs,e,i _ _ _ q⟩) h
 pi:=F7 _ (SY ha.pe) (by
  rintro σ H R ⟨as,ρ,S,ok,en,h⟩;refine⟨as,ρ,S,ok,en,ha.m _ _ _ _ (λx S1 ⟨xs,e,q⟩ as1 H1 v g1 ok1 rv=>?_) h⟩;by_cases ht:x = .tup xs
  ·subst ht;obtain⟨p,vs,rfl,hp,rr⟩:=rl_tup.mp rv;exact⟨p,rfl,.inr ⟨⟨vs,SqT.of hp⟩,q as1 H1 _ g1 ok1 (Mw ok1 rv)⟩⟩
  ·obtain⟨p,vs,rfl,hq,rr⟩:=B9 ok1 rv ht e;exact⟨p,rfl,.inl ⟨⟨vs,hq⟩,q as1 H1 _ g1 ok1 (KN ok1 rv ht e)⟩⟩)
theorem He{T:List Str}{Δ:Nat->Sn}{k:Nat}{N:List Str}{sc:Zi}{elts:List Expr}{kx:Nat}{tp p q:Pos}{r:Expr}{a:WE×WT}(C:Cok T Δ X k N sc)(hg:glo sc "enumerate"=true)(ha:Good X r a)(hs:c8 r=true):GoodI X (.Tuple elts kx tp) (.Call (.Name "enumerate" p) [r] [] q) (MQ a.1) where
 m:=λρ S P P' i h=>ha.m _ _ _ _ (λx S1 ⟨xs,e,q⟩=>⟨xs,e,i _ _ _ q⟩) h
 pi:=by
  unfold glo at hg;simp only[Vo,bQ,W7]at hg;have gl:Gl X "enumerate":=by show X.env.scope.names.lookup ("enumerate":Str)=_;rw[C.hs];exact hg.1.1
  refine F7 _ (ON gl C.enm (m7 ha.pe A6 (g9 hs)) (g9 hs)) ?_;rintro σ H R ⟨as,ρ,S,ok,en,h⟩;refine⟨as,ρ,S,ok,en,ha.m _ _ _ _ (λx S1 ⟨xs,e,q⟩ as1 H1 v g1 ok1 rv=>?_) h⟩;by_cases ht:x = .tup xs
  ·subst ht;obtain⟨p,vs,rfl,hp,rr⟩:=rl_tup.mp rv;exact⟨p,rfl,.inr ⟨⟨vs,SqT.of hp⟩,q as1 H1 _ g1 ok1 (Hd ok1 rv)⟩⟩
  ·obtain⟨p,vs,rfl,hq,rr⟩:=B9 ok1 rv ht e;exact⟨p,rfl,.inl ⟨⟨vs,hq⟩,q as1 H1 _ g1 ok1 (Hc ok1 rv ht e)⟩⟩
theorem Hg{T:List Str}{Δ:Nat->Sn}{k:Nat}{N:List Str}{sc:Zi}{tg r:Expr}{p q:Pos}{a:WE×WT}(C:Cok T Δ X k N sc)(hg:glo sc "range"=true)(ha:Good X r a)(hs:c8 r=true):GoodI X tg (.Call (.Name "range" p) [r] [] q) (MO a.1) where
 m:=λρ S P P' i h=>ha.m _ _ _ _ (λx S1 ⟨j,e,z,q⟩=>⟨j,e,z,i _ _ _ q⟩) h
 pi:=by
  unfold glo at hg;simp only[Vo,bQ,W7]at hg;have gl:Gl X "range":=by show X.env.scope.names.lookup ("range":Str)=_;rw[C.hs];exact hg.1.1
  refine F7 _ (JO gl C.rng (m7 ha.pe A6 (g9 hs)) (g9 hs)) ?_;rintro σ H R ⟨as,ρ,S,ok,en,h⟩;refine⟨as,ρ,S,ok,en,ha.m _ _ _ _ (λx S1 ⟨j,e,z,q⟩ as1 H1 v g1 ok1 rv=>?_) h⟩;subst e;refine⟨j,by rw[rl_int.mp rv],z.1,z.2,?_⟩;have:=q as1 H1 (Itr 0 (j - 0).toNat) g1 ok1 Fz
  rwa [Int.sub_zero]at this
theorem Hh{T:List Str}{Δ:Nat->Sn}{k:Nat}{N:List Str}{sc:Zi}{tg r r2:Expr}{p q:Pos}{a b:WE×WT}(C:Cok T Δ X k N sc)(hg:glo sc "range"=true)(ha:Good X r a)(hb:Good X r2 b)(hs:c8 r=true)(hs2:c8 r2=true):GoodI X tg (.Call (.Name "range" p) [r,r2] [] q) (MP a.1 b.1) where
 m:=λρ S P P' i h=>ha.m _ _ _ _ (λx S1 h=>hb.m _ _ _ _ (λy S2 ⟨l,j,e,e2,z,q⟩=>⟨l,j,e,e2,z,i _ _ _ q⟩) h) h
 pi:=by
  unfold glo at hg;simp only[Vo,bQ,W7]at hg;have gl:Gl X "range":=by show X.env.scope.names.lookup ("range":Str)=_;rw[C.hs];exact hg.1.1
  refine F7 _ (JP gl C.rng (m7 ha.pe (m7 hb.pe A6 (g9 hs2)) (g9 hs)) (by rw[g9 hs,g9 hs2];rfl) (g9 hs2)) ?_;rintro σ H R ⟨as,ρ,S,ok,en,h⟩;refine⟨as,ρ,S,ok,en,ha.m _ _ _ _ (λx S1 h as1 H1 v g1 ok1 rv=>?_) h⟩;refine⟨as1,ρ,S1,ok1,en.mono g1.pre (g1.ku ok),hb.m _ _ _ _ (λy S2 ⟨l,j,e,e2,z,q⟩ as2 H2 u g2 ok2 ru=>?_) h⟩;subst e e2;exact⟨l,j,by rw[rl_int.mp rv,rl_int.mp ru],z,q as2 H2 _ (g1.trans g2) ok2 Fz⟩
end
end Rf
namespace L2
open PySem PySem.Spec PyProof.Rows
noncomputable def SetXO(prog:Zd)(w:Zf)(o:Obj)(L:List Int):Prop:=
 ∃ es ep t,o.ExactSet/\o.data = .set es ep t/\ElemsOf (intKind prog w) es.toList/\es.size<A0a/\t.fits es.size=true/\Tab w t/\(es.toList.map λe=>numOf e.2).Perm L
theorem SetXO.at{prog:Zd}{w:Zf}{o:Obj}{L:List Int}{h:Heap}{a:ZY}(x:SetXO prog w o L)(e:h.get? a=some o):SetX prog w h a L:=let ⟨es,ep,t,r⟩:=x;⟨o,es,ep,t,e,r⟩
theorem SetX.obj{prog:Zd}{w:Zf}{L:List Int}{h:Heap}{a:ZY}(x:SetX prog w h a L):∃ o,h.get? a=some o/\SetXO prog w o L:=let ⟨o,es,ep,t,e,r⟩:=x;⟨o,e,es,ep,t,r⟩
noncomputable def hoS(o:Obj)(L:List Int):HO := .frz o (.set (λk=>decide (k∈L)) L.length)
noncomputable def PEk{α:Type}(Y:Cx)(emit:ZW->Env->Sem Unit)(tem:ZY->α->St->Hp->(α->Hp->Prop)->Prop):Prop:=∀ D pins s σ H a N,Inv Y pins σ H s->tem D a σ H N->Zb (Zc Y.prog Y.w) Y.A (emit (.ref D) Y.env) (λ_ s1=>∃ a1 H1,Inv Y pins σ H1 s1/\N a1 H1) (λ_ _=>False) s
noncomputable def PEm{α:Type}(Y:Cx)(emit:ZW->Env->Sem Unit)(tem:ZY->α->St->Hp->(α->Hp->Prop)->Prop):Prop:=∀ D pins s σ H a N,Inv Y pins σ H s->tem D a σ H N->Zb (Zc Y.prog Y.w) Y.A (emit (.ref D) Y.env) (λ_ s1=>∃ σ1 a1 H1,Inv Y pins σ1 H1 s1/\N a1 H1) (λ_ _=>False) s
theorem PEk.m{α:Type}{Y:Cx}{emit:ZW->Env->Sem Unit}{tem:ZY->α->St->Hp->(α->Hp->Prop)->Prop}(h:PEk Y emit tem):PEm Y emit tem:=λD pins s σ H a N I q=>thn (h D pins s σ H a N I q) λ_ _ ⟨a1,H1,r⟩=>⟨σ,a1,H1,r⟩
section
variable{Y:Cx}{elt kx vx:Expr}{te tv:TE}(hx:Y.xe=λ_ _=>False)
include hx
theorem SZ(he:PE Y elt te):PEk Y (QG elt) (UI te):=by
 intro D pins s σ H ys N I h;have e3:=he pins s σ H _ I h;rw[hx]at e3;refine ZV (thn e3 λy s8 ⟨v,H8,I8,r8,hD8,hz8,q8⟩=>?_);have e4:=CP (X:=Y) pins s8 σ H8 (.ref D) [v] (.ref D) [y] (λ_ H9=>H9=upd H8 D (.lst (ys++[v]))) I8 rfl (.cons r8 .nil) ⟨_,ys,v,rfl,rfl,hD8,hz8,rfl⟩;rw[hx]at e4;refine ZV (thn e4 λ_ s9 ⟨z,H9,I9,r9,e9⟩=>?_);subst e9;exact ZZ ⟨_,_,I9,q8⟩
end
structure CKind(X:Cx)(E tg iter:Expr)(ifs:List Expr)(scope:Zi)(emit:ZW->Env->Sem Unit)(u0:HO) where
 mkS:Sem ZW
 o0:Obj
 pos0:Pos
 gs:List A0O
 F:CForm X.prog X.w X.A E tg iter ifs emit
 cl:clausesOf E=⟨tg,iter,ifs,0⟩::gs
 ev:eval E X.env=A1k E scope X.env pos0 mkS false (eval iter X.env) none
 ev2:∀ use,evalThenUse E X.env use=(do let _ <- A1k E scope X.env pos0 mkS false (eval iter X.env) (some use))
 hmk:∀{s2:ZX} {Q:ZW->ZX->Prop},Q (.ref s2.heap.objs.size) {s2 with heap:=s2.heap.push o0}->Zb (Zc X.prog X.w) X.A mkS Q X.xe s2
 nf:o0.isFreed=false
 new:∀{pins:List (ZY×Obj)} {σ:St} {H2:Hp} {s2:ZX},Inv X pins σ H2 s2->∀(H:Hp) (h:Heap),h.get? s2.heap.objs.size=some o0->ObjOk X.prog X.w H h s2.heap.objs.size u0
noncomputable def tCG{α:Type}(u0:HO)(a0:α)(tem:ZY->α->St->Hp->(α->Hp->Prop)->Prop)(wi:TI)(g:TG)(tt:TT)(k:Nat)(js:List Nat)(fin:ZY->Hp->Prop)(σ:St)(H:Hp):Prop:=wi σ H λJ H1=>∀ D,H1 D=none->
 ∃ W:Nat->Nat->α->Hp->Prop,(∃ m,W 0 m a0 (upd H1 D u0))/\LV J g tt (tem D) (Bt k js σ) (λH=>fin D H) W
noncomputable def InB(X:Cx)(scope:Zi)(N:List Str)(P:Cx->Prop):Prop:=∀ s2 H2 cs C fp,P (v6 X scope N s2 H2 cs C fp)
section
variable{X:Cx}{α:Type}{E tg iter:Expr}{ifs:List Expr}{scope:Zi}{emit:ZW->Env->Sem Unit}{u0:HO}{a0:α}{tem:ZY->α->St->Hp->(α->Hp->Prop)->Prop}{wi:TI}{g:TG}{tt:TT}{own cn:List Str}{js:List Nat}(Kd:CKind X E tg iter ifs scope emit u0)
 (hi:PI X tg iter wi) (hg:InB X scope (own++cn) λY=>PG Y tg g) (ht:InB X scope (own++cn) λY=>FV Y ifs tt) (hem:InB X scope (own++cn) λY=>PEm Y emit tem) (hc:X.calm=true) (hok:y7 X.env.scope scope own cn X.N js=true) (hs:∀ x,A0I iter X.env x=pure x)
include Kd hi hg ht hem hc hok hs
theorem G9{fin:ZY->Hp->Prop}{use:Option (ZW->Sem Unit)}{Q':ZW->ZX->Prop}{pins:List (ZY×Obj)}{s:ZX}{σ:St}{H:Hp}(I:Inv X pins σ H s)(h:tCG u0 a0 tem wi g tt own.length js fin σ H)
 (hend:∀ D C H' s',Inv X pins σ H' s'->FpOk X pins H' C->(∃ m,s'.heap.Ns C m)->fin D H'->compPost (Zc X.prog X.w) X.A X.xe use Q' (.ref D) C (.ok .next) s'):
 Zb (Zc X.prog X.w) X.A (A1k E scope X.env Kd.pos0 Kd.mkS false (eval iter X.env) use) Q' X.xe s:=by
 have hok':=hok;unfold y7 at hok';simp only[Vo,dQ,W9,WK,W7,decide_eq_false_iff_not]at hok';obtain⟨⟨⟨⟨⟨⟨k1,k2⟩,k3⟩,k4⟩,k5⟩,k6⟩,k7⟩:=hok'
 have hfree:∀ x∈scope.names,x.2 = .free->∃ c,X.env.cells.lookup x.1=some c:=λx hx hf=>I.ok.has x.1 (by
  rcases k2 x hx with(z | z) | z
  ·exact absurd hf z
  ·exact .inl z
  ·exact .inr z)
 refine wpAny_comprehension_free Kd.cl hs (Au hfree) k1 (λx hx hl=>?_) (thn (hi pins s σ H _ I h) λv s1 h1=>thn h1 λitv s2 ⟨it,fp,tn,J,H2,e,I2,T,st2,f2,q⟩=>?_)
 ·rw[p9 k3 (show(x.1,x.2)∈scope.names from hx),hl]
 ·subst e;exact FW (RR:=λacc C=>compPost (Zc X.prog X.w) X.A X.xe use Q' acc C) Kd.F (Kd.hmk) Kd.nf (Kd.new I2) hok hc hg ht (λD s2 H2 cs C fp=>hem s2 H2 cs C fp D) I2 T st2 f2 (q _ I2.fresh) λC H' s' I' fC hn=>hend _ C H' s' I' fC hn
theorem Mx:PE X E λσ H Q=>tCG u0 a0 tem wi g tt own.length js (λD H=>Q (.ref D) H) σ H:=by
 intro pins s σ H Q I h;rw[Kd.ev];refine G9 Kd hi hg ht hem hc hok hs I h λD C H' s' I' ⟨f0,f1,f2',f3,f4,f5⟩ ⟨m,hn⟩ q'=>⟨m,hn,λh' hs'=>⟨.ref D,H',?_,rfl,q'⟩⟩
 exact I'.turned (t':=s'.toks) (λb o hb e=>(hs'.2 b hb).trans e) f0 f1 f3 f4 f5
theorem GA{i:Nat}{x:Str}{px spos:Pos}(hN:X.N.Nodup)(hix:X.N[i]?=some x)(hx:X.env.scope.names.lookup x=some .local)(hsw:A0f E (some (.Name x px)) spos.line X.env=pure true):PS X (.Assign [.Name x px] E spos) (Gj (λσ H Q=>tCG u0 a0 tem wi g tt own.length js (λD H=>Q (.ref D) H) σ H) (FO i)):=by
 intro pins s σ H D I h;rw[exec_Assign_Name_used _ _ _ _ hsw,Kd.ev2];refine ZV (A0g (ZV (ZV (Zu (G9 Kd (Q':=λ_ s'=>SP X pins D .next s') hi hg ht hem hc hok hs I h λD C H' s' I' ⟨f0,f1,f2',f3,f4,f5⟩ ⟨m,hn⟩ q'=>?_) (λ_ s' hq=>ZZ (ZZ hq)) λ_ _ e=>e))));show Zb _ X.A (assign (.Name x px) X.env (.ref D)) _ _ _;refine A1q (E3 I' hN hix (.inl hx) (v := .ref D) rfl (λs3 I3 ⟨a,hsb,ha⟩=>?_) (.inr hx))
 have hCa:C≠a:=by
  rcases ha with z | z
  ·rw[z];exact f1
  ·exact λe=>f4 x a z e.symm
 exact⟨m,hn.sameBut hsb hCa,λh' hs'=>⟨_,H',I3.turned (t':=s3.toks) (λb o hb e=>(hs'.2 b hb).trans e) f0 f1 f3 f4 f5,q'⟩⟩
end
section
variable{X:Cx}{tg iter elt kx vx:Expr}{ifs:List Expr}{gs:List A0O}{scope:Zi}{pos:Pos}{emit:ZW->Env->Sem Unit}
noncomputable def ckL(F:CForm X.prog X.w X.A (.ListComp elt (⟨tg,iter,ifs,0⟩::gs) scope pos) tg iter ifs emit):CKind X (.ListComp elt (⟨tg,iter,ifs,0⟩::gs) scope pos) tg iter ifs scope emit (.lst []) where
 mkS:=newList []
 o0:={cls := .type "list",dict:=none,data := .seq ([]:List ZW).toArray}
 pos0:=_
 gs:=gs
 F:=F
 cl:=rfl
 ev:=eval_ListComp ..
 ev2:=λ_=>rfl
 hmk:=λh=>Zk h
 nf:=rfl
 new:=λ_ _ _ hD=>⟨XG _,[],0,.nil,hD⟩
end
end L2
namespace Rf
open PySem L2
theorem KP{α:Type}{o:Option (Option α)}{x:α}(h:o.join=some x):o=some (some x):=by
 cases o with
 | none=>cases h
 | some o=>cases o with
   | none=>cases h
   | some y=>cases h;rfl
theorem EnvOk.cap{K:Vn}{as:List ZY}{H:Hp}{σ:St}{ρ:EnvS}(h:EnvOk K as H σ ρ)(k:Nat)(js:List Nat):EnvOk K as H (Bt k js σ) (Fi k js ρ):=by
 refine⟨by unfold Bt Fi;simp,λi x e=>?_⟩;unfold Fi at e;unfold Bt;by_cases hi:i<k
 ·rw[W6 (by simpa using hi),XH,iP hi]at e;cases e
 ·rw[We (by simpa using hi),XT,Vx]at e;rw[We (by simpa using hi),XT,Vx];cases hj:js[i - k]? with
  | none=>rw[hj]at e;cases e
  | some j=>
    rw[hj]at e;have e':(ρ[j]?).join=some x:=oj e;obtain⟨v,hv,rv⟩:=h.2 j x (KP e');exact⟨v,by simp only[XM];rw[hv];rfl,rv⟩
theorem Ok.adoptO{K:Vn}{as:List ZY}{H:Hp}{S:Sto}{D:ZY}{x:SO}(h:Ok K as H S)(n:D∉as)(r:RlO K (as++[D]) H D x):Ok K (as++[D]) H (S++[x]):=by
 have pre:as <+: as++[D]:=XS _ _;refine⟨by rw[Vs,Vs,h.len];rfl,?_,λk o a e ea=>?_⟩
 ·rw[XZ];refine⟨h.nd,by simp,λa ha b hb=>?_⟩;rw[W1.mp hb];intro z;subst z;exact n ha
 ·by_cases hk:k<S.length
  ·rw[W6 hk]at e;rw[W6 (by rw[h.len];exact hk)]at ea;exact(h.obj k o a e ea).mono pre (KeepU.refl _) λ_ z=>z
  ·have hk':k=S.length:=by
    have:=(gM e).1;rw[Vs,Wf]at this;omega
   subst hk';rw[WW]at e;rw[<-h.len,WW]at ea;cases e;cases ea;exact r
theorem Ok.otherO{K:Vn}{as:List ZY}{H:Hp}{S:Sto}(h:Ok K as H S){b:ZY}{u v:HO}(hb:H b=some u)(hi:imm u=false)(n:b∉as):Ok K as (upd H b v) S:=⟨h.len,h.nd,λk o a e ea=>(h.obj k o a e ea).mono (WV as) (CU hb hi) λws hw=>by
 rw[c9 (λz=>n (by rw[<-z];exact Vv ea))];exact hw⟩
theorem KQ(ns:List Int)(i:Int):AU (ns++[i])=PyProof.Rows.step_dedup (AU ns) i:=by
 unfold AU;rw[Vs,Wf,PyProof.Rows.firstMet_succ];have e1:(ns++[i]).getD ns.length 0=i:=by simp
 have e2:PyProof.Rows.firstMet (λj=>(ns++[i]).getD j 0) ns.length=PyProof.Rows.firstMet (λj=>ns.getD j 0) ns.length:=by
  unfold PyProof.Rows.firstMet
  congr 1
  refine Xb λj hj=>?_;have hj:=WJ.mp hj;simp[W6 hj]
 rw[e1,e2]
noncomputable def GB{β:Type}(em:WM β):Prop:=∀ ρ a S (N N':β->Sto->Prop),(∀ a S,N a S->N' a S)->em ρ a S N->em ρ a S N'
section
variable{β:Type}{keep:Sto->Prop}{g:Tg}{t:WT}{em:WM β}{e f:WE}
theorem DV(me:Mono e):GB (emL e):=λρ ys S N N' h=>me _ _ _ _ λy S2 q=>⟨q.1,h _ _ q.2⟩
theorem F8{ρ:EnvS}(mt:MonoT t)(me:GB em){Q Q':β->Sto->Prop}(i:∀ a S,Q a S->Q' a S):∀(xs:List SV) (a:β) (S:Sto),wTG keep g t em ρ Q xs a S->wTG keep g t em ρ Q' xs a S
 | [],a,S,h=>⟨h.1,i _ _ h.2⟩
 | x::xs,a,S,h=>⟨h.1,AA g (λρ2 q=>mt _ _ _ _ (λb S1 q=>n4 (λq=>me _ _ _ _ _ (λy S2 q=>F8 mt me i xs _ _ q) q) (λq=>F8 mt me i xs _ _ q) q) q) h.2⟩
theorem Mono.cG{k:Nat}{js:List Nat}{i:WI}{b0:β}{fin:QE->β->Sto->Prop}(mi:MonoI i)(mt:MonoT t)(me:GB em)(mf:∀ P P':QE,(∀ x S,P x S->P' x S)->∀ b S,fin P b S->fin P' b S):Mono (wCG k js g i t em b0 fin):=λρ S P P' im h=>mi _ _ _ _ (λkeep xs S1 h=>F8 mt me (mf _ _ im) xs _ S1 h) h
end
structure GoD(D:ZY)(as:List ZY)(H:Hp)(as':List ZY)(H':Hp):Prop where
 pre:as <+: as'
 keep:∀ b o,H b=some o->b∉as->b≠D->H' b=some o/\b∉as'
 ku:KeepU H H'
 out:D∉as->D∉as'
section
variable{K:Vn}{as as' as1 as2:List ZY}{H H' H1 H2:Hp}{S:Sto}{D:ZY}{u v:HO}
theorem GoD.refl:GoD D as H as H:=⟨WV _,λ_ _ h n _=>⟨h,n⟩,KeepU.refl _,id⟩
theorem GoD.trans(a:GoD D as H as1 H1)(b:GoD D as1 H1 as2 H2):GoD D as H as2 H2:=⟨a.pre.trans b.pre,λx o h n z=>let ⟨h1,n1⟩:=a.keep x o h n z;b.keep x o h1 n1 z,a.ku.trans b.ku,λh=>b.out (a.out h)⟩
theorem Go.d(g:Go as H as1 H1)(ok:Ok K as H S)(hD:H D=some u):GoD D as H as1 H1:=⟨g.pre,λb o h n _=>g.keep b o h n,g.ku ok,λn=>(g.keep D _ hD n).2⟩
theorem GoD.put(hD:H D=some u)(i:imm u=false):GoD D as H as (upd H D v):=⟨WV _,λb o h n z=>⟨by rw[c9 z];exact h,n⟩,CU hD i,id⟩
theorem GoD.go(g:GoD D as (upd H D u) as' H')(hD:H D=none):Go as H as' H':=⟨g.pre,λb o h n=>g.keep b o (by rw[c9 (f8 h hD)];exact h) n (f8 h hD)⟩
end
structure Knd(α β:Type)(K:Vn) where
 at_:List ZY->Hp->ZY->α->β->Prop
 mono:∀{as as' H H' D a b},as <+: as'->KeepU H H'->H' D=H D->at_ as H D a b->at_ as' H' D a b
 some:∀{as H D a b},at_ as H D a b->∃ u,H D=some u/\imm u=false
section
variable{K:Vn}{α β:Type}{k:Knd α β K}
theorem Knd.go{as as':List ZY}{H H':Hp}{S:Sto}{D:ZY}{a:α}{b:β}(h:k.at_ as H D a b)(ok:Ok K as H S)(n:D∉as)(g:Go as H as' H'):GoD D as H as' H'/\k.at_ as' H' D a b/\D∉as':=by
 obtain⟨u,e,i⟩:=k.some h;have z:=g.keep D u e n;exact⟨g.d ok e,k.mono g.pre (g.ku ok) (z.1.trans e.symm) h,z.2⟩
noncomputable def Sa(k:Knd α β K)(em:WM β)(tem:ZY->α->St->Hp->(α->Hp->Prop)->Prop):Prop:=
 ∀ D a b σ ρ as H S (N:α->Hp->Prop) (N':β->Sto->Prop),D∉as->Ok K as H S->EnvOk K as H σ ρ->k.at_ as H D a b->em ρ b S N'->
  (∀ as' S' a' b' H',GoD D as H as' H'->Ok K as' H' S'->k.at_ as' H' D a' b'->N' b' S'->N a' H')->tem D a σ H N
theorem Sc{em:WM β}{tem:ZY->α->St->Hp->(α->Hp->Prop)->Prop}{n:Nat}{js:List Nat}{g:Tg}{i:WI}{t:WT}{a0:α}{b0:β}{u0:HO}{fin:QE->β->Sto->Prop}{fin':VK->ZY->Hp->Prop}(h:Sa k em tem)(mi:MonoI i)(mt:MonoT t)(u:imm u0=false)(h0:∀ as H D,k.at_ as (upd H D u0) D a0 b0)
 (hfin:∀{as H as2 H2 S2 D a b Q},Go as H as2 H2->Go as H (as2++[D]) H2->Ok K as2 H2 S2->D∉as2->k.at_ as2 H2 D a b->fin (Post K as H Q) b S2->fin' Q D H2):
 ∀ σ H Q,lift K (wCG n js g i t em b0 fin) σ H Q->tCG u0 a0 tem (liftI K i) (Fv K g) (liftT K t) n js (fin' Q) σ H:=by
 rintro σ H Q ⟨as,ρ,S,ok,en,q⟩;refine⟨as,ρ,S,ok,en,mi _ _ _ _ (λkeep xs S1 q as1 H1 J g1 ok1 W D hD=>?_) q⟩;have n1:=ok1.free hD
 refine⟨λi m a H'=>m=xs.length - i/\i<=xs.length/\∃ as2 S2 b,GoD D as1 (upd H1 D u0) as2 H'/\Ok K as2 H' S2/\k.at_ as2 H' D a b/\wTG keep g t em (Fi n js ρ) (fin (Post K as H Q)) (xs.drop i) b S2,
  ⟨_,rfl,XG _,as1,S1,b0,.refl,ok1.new hD,h0 _ _ _,q⟩,?_⟩
 rintro i m a H2 ⟨rfl,hi,as2,S2,b,gd2,ok2,at2,q⟩;have gg:=gd2.go hD;by_cases hlt:i<xs.length
 ·right;rw[Y4 hlt]at q;obtain⟨go,yl⟩:=(W as2 H2 S2 (gg.gu ok1) ok2 q.1).1 i xs[i] (Vq hlt);refine⟨go,λa H'=>∃ as2 S2 b,GoD D as1 (upd H1 D u0) as2 H'/\Ok K as2 H' S2/\k.at_ as2 H' D a b/\wTG keep g t em (Fi n js ρ) (fin (Post K as H Q)) (xs.drop (i+1)) b S2,λa' H' z=>⟨_,by omega,rfl,hlt,z⟩,λx H3 y3=>?_⟩;obtain⟨g3,ok3,rx⟩:=yl x H3 y3;obtain⟨gd3,at3,n3⟩:=k.go at2 ok2 (gd2.out n1) g3;have ge:=g1.trans (gg.trans g3);refine⟨as2,Fi n js ρ,S2,_,ok3,(en.mono ge.pre (ge.ku ok)).cap n js,rx,AA g (λρ4 q σ4 en4=>⟨as2,ρ4,S2,ok3,en4,mt _ _ _ _ (λc S5 q as5 H5 g5 ok5=>?_) q⟩) q.2⟩;obtain⟨gd5,at5,n5⟩:=k.go at3 ok3 n3 g5;have gd:=(gd2.trans gd3).trans gd5;exact n4 (λq=>h D a b σ4 ρ4 as5 H5 S5 _ _ n5 ok5 (en4.mono g5.pre (g5.ku ok3)) at5 q λas6 S6 a6 b6 H6 g6 ok6 at6 q6=>⟨as6,S6,b6,gd.trans g6,ok6,at6,q6⟩) (λq=>⟨as5,S5,b,gd,ok5,at5,q⟩) q
 ·left;obtain rfl:i=xs.length:=by omega
  rw[Z5]at q;refine⟨(W as2 H2 S2 (gg.gu ok1) ok2 q.1).2,hfin (g1.trans gg) ⟨(g1.trans gg).pre.trans (XS _ _),λb o hb nb=>?_⟩ ok2 (gd2.out n1) at2 q.2⟩;obtain⟨h1,m1⟩:=g1.keep b o hb nb;obtain⟨h2,m2⟩:=gg.keep b o h1 m1;refine⟨h2,?_⟩;rw[WD,W1];rintro(z | z)
  ·exact m2 z
  ·exact f8 h1 hD z
end
section
variable{K:Vn}{e f:WE}
noncomputable def kL:Knd (List V) (List SV) K:=⟨λas H D vs xs=>H D=some (.lst vs)/\RlAll K as H vs xs,λp ku e h=>⟨e.trans h.1,RlAll.mono p ku _ _ h.2⟩,λh=>⟨_,h.1,rfl⟩⟩
theorem PL(me:Mono e):Sa (kL (K:=K)) (emL e) (UI (lift K e)):=λD a b σ ρ as H S N N' n ok en h q hN=>
 ⟨as,ρ,S,ok,en,me _ _ _ _ (λy S2 q as2 H2 v g2 ok2 rv=>by
   obtain⟨gd,h2,n2⟩:=kL.go h ok n g2;have pu:=GoD.put (as:=as2) (v := .lst (a++[v])) h2.1 rfl;exact⟨h2.1,by rw[h2.2.length];exact HF q.1,hN _ _ _ _ _ (gd.trans pu) (ok2.otherO h2.1 rfl n2) ⟨j3,RlAll.mono (WV _) pu.ku _ _ (h2.2.append (.cons rv .nil))⟩ q.2⟩) q⟩
theorem PM{α β:Type}{k:Knd α β K}{o:β->SO}(ad:∀{as H D a b},k.at_ as H D a b->RlO K as H D (o b)){as H as2 H2 S2 D a b Q}(_:Go as H as2 H2)(g:Go as H (as2++[D]) H2)(ok:Ok K as2 H2 S2)(n:D∉as2)(h:k.at_ as2 H2 D a b)(q:SG o (Post K as H Q) b S2):Q (.ref D) H2:=
 q (as2++[D]) H2 (.ref D) g (ok.adoptO n (ad (k.mono (XS _ _) (KeepU.refl _) rfl h))) (rl_loc.mpr ⟨D,by rw[<-ok.len,WW],rfl⟩)
end
theorem GC{scope sc:Zi}{x:Str}(h:scope.names.lookup x=some .local):(MW scope sc).names.lookup x=some .local:=by
 have go:∀ l:List (Str×Zw),l.lookup x=some .local->(l.map λ(n,k)=>if (k == .free&&sc.kind == .function&&sc.names.lookup n == some .cell) then (n,.cell) else (n,k)).lookup x=some .local:=by
  intro l
  induction l with
  | nil=>intro h;cases h
  | cons a r ih=>
    obtain⟨n,k⟩:=a;intro h;rw[Wy]at h;rw[WQ];cases hb:x == n with
    | true=>
      rw[hb]at h;have:k = .local:=oj h;subst this;show Y5 x ((n,NameKind.local)::_)=_;rw[Wy,hb]
    | false=>
      rw[hb]at h
      have e:∀ k',Y5 x ((n,k')::(r.map λ(n,k)=>if (k == .free&&sc.kind == .function&&sc.names.lookup n == some .cell) then (n,.cell) else (n,k)))=some .local:=λk'=>by
       rw[Wy,hb];exact ih h
      show Y5 x ((if (k == .free&&sc.kind == .function&&sc.names.lookup n == some .cell)=true then (n,NameKind.cell) else (n,k))::_)=_;split<;>exact e _
 exact go _ h
theorem Cok.comp{T:List Str}{Δ:Nat->Sn}{X:Cx}{k:Nat}{N:List Str}{sc scope:Zi}{own cn:List Str}{js:List Nat}(C:Cok T Δ X k N sc)(hok:y7 sc scope own cn N js=true)(s2:ZX)(H2:Hp)(cs:List (Str×ZY))(A:ZY)(fp:List ZY):Cok T Δ (v6 X scope (own++cn) s2 H2 cs A fp) own.length (own++cn) (MW scope sc) where
 hN:=rfl
 hs:=by rw[<-C.hs];rfl
 nd:=by
  unfold y7 at hok;simp only[Vo,dQ]at hok;exact hok.1.2
 calm:=C.calm
 fn:=λi x hi hx hc=>by
  unfold y7 at hok;simp only[Vo,dQ,W9,WK]at hok
  have hm:x∈own:=by
   rw[W6 hi]at hx;exact Vv hx
  show(scope.names.lookup x == some .cell)=true;rcases hok.1.1.1.2 x hm with h | h
  ·rw[GC h]at hc;cases hc
  ·rw[h];rfl
 un:=C.un
 bl:=C.bl
 rng:=C.rng
 enm:=C.enm
 rvs:=C.rvs
 zip:=C.zip
 sm0:=C.sm0
 st0:=C.st0
 dc0:=C.dc0
 ty:=C.ty
 gd:=C.gd
 ns:=C.ns
 me:=C.me
 call:=C.call
 mono:=C.mono
theorem Ao{r:Expr}(h:BA r=true){env:Env}:∀ x,A0I r env x=pure x:=λx=>by cases r<;>first | rfl | cases h
theorem B5{T N:List Str}{sc:Zi}:∀{es:Exs} {rs:List Expr},Ae T N sc es rs=true->rs.all c8=true
 | .nil,rs,h=>by unfold Ae at h;rw[Wp]at h;subst h;rfl
 | .cons e es,rs,h=>by
   unfold Ae at h;replace h:=c3 h;obtain⟨x,hx,h⟩:=h;simp only[Vo]at h;rw[Ad hx,Ww,h.1.2,B5 h.2];rfl
theorem Sd{X:Cx}{i:Nat}{x:Str}{p:Pos}{N:List Str}{sc:Zi}{T:List Str}{Δ:Nat->Sn}{k:Nat}(C:Cok T Δ X k N sc)(h:nmB N sc i x=true):PE X (.Name x p) (Ks i):=by
 unfold nmB at h;simp only[Vo,dQ,W7]at h;exact SQ C h.1.1.1 h.1.1.2 h.1.2 h.2
theorem F9{α:Type}{l:List α}(h:(!l.isEmpty)=true):∃ y ys,l=y::ys:=by
 cases l with
 | nil=>cases h
 | cons y ys=>exact⟨y,ys,rfl⟩
theorem Se{X:Cx}{c:Expr}{a:WE×WT}(h:Good X c a):FV X [c] (liftT X.K a.2):=LS h.pt
theorem My{X:Cx}:FV X [] (liftT X.K Ug):=λpins s σ H Q I hw=>LR pins s σ H Q I (let ⟨as,ρ,S,ok,en,h⟩:=hw;h as H (Go.refl _ _) ok)
theorem Sf{X:Cx}{E tg ri:Expr}{ifs:List Expr}{scope:Zi}{emit:ZW->Env->Sem Unit}{u0:HO}{α β:Type}{k:Knd α β X.K}{em:WM β}{tem:ZY->α->St->Hp->(α->Hp->Prop)->Prop}{a0:α}{b0:β}{o:β->SO}{T N own cn:List Str}{Δ:Nat->Sn}{kk:Nat}{sc:Zi}{js:List Nat}{g:Tg}{i:WI}{t:WT}(Kd:CKind X E tg ri ifs scope emit u0)(C:Cok T Δ X kk N sc)(hok:y7 sc scope own cn N js=true)(hi:GoodI X tg ri i)(hn:BA ri=true)
 (hg:InB X scope (own++cn) λY=>PG Y tg (Fv X.K g)) (ht:InB X scope (own++cn) λY=>FV Y ifs (liftT X.K t)) (mt:MonoT t) (hem:InB X scope (own++cn) λY=>PEm Y emit tem) (h:Sa k em tem) (mm:GB em) (u:imm u0=false) (h0:∀ as H D,k.at_ as (upd H D u0) D a0 b0) (ad:∀{as H D a b},k.at_ as H D a b->RlO X.K as H D (o b)) (hp:HQ E=true):Good X E (tt1 (wCG own.length js g i t em b0 (SG o))):=
 have hok':y7 X.env.scope scope own cn X.N js=true:=by rw[C.hs,C.hN];exact hok
 have via:=Sc (n:=own.length) (js:=js) (g:=g) h hi.m mt u h0 (fin':=λQ D H=>Q (.ref D) H) (PM (k:=k) (o:=o) ad)
 .one (j0 _ (Mx Kd hi.pi hg ht hem C.calm hok' (Ao hn)) λσ H Q h=>via σ H Q h) (.cG hi.m mt mm λP P' im b S q=>im _ _ q) hp
  λ_ i x px spos hN hx hl hsw=>λpins s σ H D I q=>GA Kd hi.pi hg ht hem C.calm hok' (Ao hn) hN hx hl hsw pins s σ H D I (via σ H _ q)
mutual
theorem c6{T:List Str}{Δ:Nat->Sn}:∀(e:Ex) (r:Expr) {X:Cx} {k:Nat} {N:List Str} {sc:Zi},Cok T Δ X k N sc->j8 T N sc e r=true->Good X r (wEx Δ e)
 | .var i,r,X,k,N,sc,C,h=>by
   replace h:=c3 h;obtain⟨x,hx,h⟩:=h;obtain⟨p,rfl⟩:=y4 hx;exact .one (j0 _ (Sd C h) Oa) .var rfl
 | .c x,r,X,k,N,sc,C,h=>by
   replace h:=c3 h;obtain⟨x,hx,h⟩:=h;obtain⟨j,p,rfl⟩:=K4 hx;exact PD h
 | .op o a b,r,X,k,N,sc,C,h=>by
   replace h:=c3 h;obtain⟨v,hv,h⟩:=h;obtain⟨p,rfl⟩:=P4 hv;simp only[Vo,dQ]at h;have ga:=c6 a _ C h.1.2;have gb:=c6 b _ C h.2;rw[<-h.1.1];exact .one (Ml ga.pe gb.pe ga.m gb.m) (.two Ij ga.m gb.m) rfl
 | .neg a,r,X,k,N,sc,C,h=>by
   replace h:=c3 h;obtain⟨v,hv,h⟩:=h;obtain⟨p,rfl⟩:=Mb hv;simp only[Vo,dQ]at h;rw[h.1];exact KB (c6 a _ C h.2)
 | .cmp o a b,r,X,k,N,sc,C,h=>by
   replace h:=c3 h;obtain⟨v,hv,h⟩:=h;replace h:=c3 h;obtain⟨rb,hb,h⟩:=h;obtain⟨p,rfl⟩:=Ig hv;simp only[Vo,dQ]at h;obtain⟨⟨⟨h0,h1⟩,h2⟩,h3⟩:=h;rw[h0,A0 hb];have ga:=c6 a _ C h1;have gb:=c6 b _ C h2;have:=C.un;exact K5 (by omega) ga.pe gb.pe ga.m gb.m h3
 | .chn o p a b c,r,X,k,N,sc,C,h=>by
   replace h:=c3 h;obtain⟨v,hv,h⟩:=h;replace h:=c3 h;obtain⟨rs,hb,h⟩:=h;obtain⟨p,rfl⟩:=Ig hv;simp only[Vo,dQ]at h;obtain⟨⟨⟨⟨h0,h1⟩,h2⟩,h3⟩,h4⟩:=h;rw[h0,CB hb];have ga:=c6 a _ C h1;have gb:=c6 b _ C h2;have gc:=c6 c _ C h3;have:=C.un;exact K6 (by omega) ga.pe gb.pe gc.pe ga.m gb.m gc.m h4
 | .and a b,r,X,k,N,sc,C,h=>by
   replace h:=c3 h;obtain⟨v,hv,h⟩:=h;have e:=Fj hv;subst e;rw[Vo,dQ]at h;obtain⟨h0,h⟩:=h;replace h:=c3 h;obtain⟨x,hx,h⟩:=h;rw[Vo]at h;have ga:=c6 a _ C h.1;rw[h0,Ad hx];have h2:=h.2;generalize v.2.1.tail=tl at h2;cases hl:l1 tl with
   | some y=>
     rw[hl]at h2;rw[A0 hl];exact HS ga (c6 b _ C h2)
   | none=>
     rw[hl]at h2;rw[Vo,dQ]at h2;have gb:=c6 b _ C h2.2
     match tl,h2,gb with
     | y::z::zs,h2,gb=>exact HU ga gb
     | [],h2,_=>exact absurd h2.1 (by simp)
     | [_],h2,_=>exact absurd h2.1 (by simp)
 | .or a b,r,X,k,N,sc,C,h=>by
   replace h:=c3 h;obtain⟨v,hv,h⟩:=h;have e:=Fj hv;subst e;rw[Vo,dQ]at h;obtain⟨h0,h⟩:=h;replace h:=c3 h;obtain⟨x,hx,h⟩:=h;rw[Vo]at h;have ga:=c6 a _ C h.1;rw[h0,Ad hx];have h2:=h.2;generalize v.2.1.tail=tl at h2;cases hl:l1 tl with
   | some y=>
     rw[hl]at h2;rw[A0 hl];exact K7 ga (c6 b _ C h2)
   | none=>
     rw[hl]at h2;rw[Vo,dQ]at h2;have gb:=c6 b _ C h2.2
     match tl,h2,gb with
     | y::z::zs,h2,gb=>exact K8 ga gb
     | [],h2,_=>exact absurd h2.1 (by simp)
     | [_],h2,_=>exact absurd h2.1 (by simp)
 | .not a,r,X,k,N,sc,C,h=>by
   replace h:=c3 h;obtain⟨v,hv,h⟩:=h;obtain⟨p,rfl⟩:=Mb hv;simp only[Vo,dQ]at h;rw[h.1];exact K9 (c6 a _ C h.2)
 | .ife t a b,r,X,k,N,sc,C,h=>by
   replace h:=c3 h;obtain⟨v,hv,h⟩:=h;obtain⟨p,rfl⟩:=P5 hv;simp only[Vo]at h;exact KA (c6 t _ C h.1.1) (c6 a _ C h.1.2) (c6 b _ C h.2)
 | .tup es,r,X,k,N,sc,C,h=>by
   replace h:=c3 h;obtain⟨v,hv,h⟩:=h;obtain⟨j,p,rfl⟩:=Bg hv;exact KH (AD es _ C h)
 | .lst es,r,X,k,N,sc,C,h=>by
   replace h:=c3 h;obtain⟨v,hv,h⟩:=h;obtain⟨p,rfl⟩:=P6 hv;exact KI (AD es _ C h)
 | .ix a b,r,X,k,N,sc,C,h=>by
   replace h:=c3 h;obtain⟨v,hv,h⟩:=h;obtain⟨p,rfl⟩:=F2 hv;simp only[Vo]at h;exact Mo (c6 a _ C h.1.1) (c6 b _ C h.1.2) h.2
 | .slc a lo hi,r,X,k,N,sc,C,h=>by
   replace h:=c3 h;obtain⟨v,hv,h⟩:=h;replace h:=c3 h;obtain⟨w,hw,h⟩:=h;obtain⟨p,rfl⟩:=F2 hv;obtain⟨p2,ew⟩:=P7 hw;simp only[Vo]at h;have hl:=GD lo _ C h.1.1.2;have hh:=GD hi _ C h.1.2;rw[ew,Xm.mp h.2];exact KC (c6 a _ C h.1.1.1) hl.1 hh.1 hl.2 hh.2
 | .call f es,r,X,k,N,sc,C,h=>by
   replace h:=c3 h;obtain⟨v,hv,h⟩:=h;obtain⟨p,q,rfl⟩:=y0 hv;simp only[Vo,dQ]at h;obtain⟨⟨⟨h1,h2⟩,h3⟩,h4⟩:=h;obtain⟨y,ys,e⟩:=F9 h4;have st:=B5 h3;have g:=AD es _ C h3;rw[e]at st g ⊢;rw[Ww,Vo]at st;exact HX C h1 h2 g st.1 st.2
 | .bi b es,r,X,k,N,sc,C,h=>by
   replace h:=c3 h;obtain⟨v,hv,h⟩:=h;obtain⟨p,q,rfl⟩:=y0 hv;simp only[Vo,dQ]at h;obtain⟨⟨⟨h1,h2⟩,h3⟩,h4⟩:=h;obtain⟨y,ys,e⟩:=F9 h4;have st:=B5 h3;have g:=AD es _ C h3;rw[e]at st g ⊢;rw[Ww,Vo]at st;rw[<-h1]at h2 ⊢;exact Mr C h2 g st.1 st.2
 | .mt m a es,r,X,k,N,sc,C,h=>by
   replace h:=c3 h;obtain⟨v,hv,h⟩:=h;obtain⟨ap,cp,rfl,hl⟩:=Mf hv;simp only[Vo,dQ]at h;obtain⟨⟨⟨⟨h0,h1⟩,h3⟩,h4⟩,h5⟩:=h;have st:=B5 h5;have ga:=c6 a _ C h4;have gs:=AD es _ C h5;rw[h0];generalize v.2.2=args at h3 h5 st gs ⊢;cases args with
   | nil=>
     cases es with
     | nil=>exact KJ ga h1 hl
     | cons _ _=>rw[Ae]at h5;cases h5
   | cons y ys=>
     rw[Ww,Vo]at st;exact Mt ga gs h1 hl h3 st.1 st.2
 | .comp own cn js g it t e,r,X,k,N,sc,C,h=>by
   replace h:=c3 h;obtain⟨v,hv,h⟩:=h;replace h:=c3 h;obtain⟨c,hc,h⟩:=h;obtain⟨p,rfl⟩:=Md hv;simp only[Vo,dQ]at h;obtain⟨⟨⟨⟨⟨⟨h0,h1⟩,h2⟩,h3⟩,h4⟩,h5⟩,h6⟩:=h;have hI:=ET it _ _ C h3;have hT:=λs2 H2 cs A fp=>Mz t _ (C.comp h1 s2 H2 cs A fp) h5;have hE:=λs2 H2 cs A fp=>c6 e _ (C.comp h1 s2 H2 cs A fp) h6;rw[A0 hc];obtain⟨tg,ri,ifs,az⟩:=c;have h0:az=0:=h0;subst h0;exact Sf (o:=SO.lst) (ckL Gy) C h1 hI h4 (λs2 H2 cs A fp=>CC (C.comp h1 s2 H2 cs A fp) g _ h2) (λs2 H2 cs A fp=>(hT s2 H2 cs A fp).1) (hT X.s₀ X.H₀ [] 0 []).2 (λs2 H2 cs A fp=>(SZ rfl (hE s2 H2 cs A fp).pe).m) (PL (hE X.s₀ X.H₀ [] 0 []).m) (DV (hE X.s₀ X.H₀ [] 0 []).m) rfl (λ_ _ _=>⟨j3,.nil⟩) (λh=>⟨_,h⟩) rfl
 | .tyc t,r,X,k,N,sc,C,h=>by
   replace h:=c3 h;obtain⟨x,hx,h⟩:=h;obtain⟨p,rfl⟩:=y4 hx;simp only[Vo,dQ]at h;obtain⟨⟨rfl,h1⟩,h2⟩:=h;exact KK C h1 h2
 | .lrng1 a,r,X,k,N,sc,C,h=>by
   replace h:=c3 h;obtain⟨v,hv,h⟩:=h;replace h:=c3 h;obtain⟨z,hz,h⟩:=h;replace h:=c3 h;obtain⟨u,hu,h⟩:=h;replace h:=c3 h;obtain⟨ra,hra,h⟩:=h;obtain⟨p,q,rfl⟩:=y0 hv;obtain⟨p2,q2,rfl⟩:=y0 hu;simp only[Vo,dQ]at h;obtain⟨⟨⟨⟨⟨e1,e2⟩,h1⟩,h2⟩,h3⟩,h4⟩:=h;rw[A0 hz,A0 hra,e1,e2];rw[e1]at h1;rw[e2]at h2;exact Fp C h1 h2 (c6 a _ C h3) h4
 | .lrng2 a b,r,X,k,N,sc,C,h=>by
   replace h:=c3 h;obtain⟨v,hv,h⟩:=h;replace h:=c3 h;obtain⟨z,hz,h⟩:=h;replace h:=c3 h;obtain⟨u,hu,h⟩:=h;replace h:=c3 h;obtain⟨ra,hra,h⟩:=h;obtain⟨p,q,rfl⟩:=y0 hv;obtain⟨p2,q2,rfl⟩:=y0 hu;simp only[Vo,dQ]at h;obtain⟨⟨⟨⟨⟨⟨⟨e1,e2⟩,h1⟩,h2⟩,h3⟩,h4⟩,h5⟩,h6⟩:=h;rw[A0 hz,CB hra,e1,e2];rw[e1]at h1;rw[e2]at h2;exact Fq C h1 h2 (c6 a _ C h3) (c6 b _ C h5) h4 h6
 | .dnewp,r,X,k,N,sc,C,h=>by
   replace h:=c3 h;obtain⟨v,hv,h⟩:=h;obtain⟨p,rfl⟩:=Ma hv;simp only[Vo,Wp]at h;rw[h.1,h.2];exact Fu
 | .setd d e v,r,X,k,N,sc,C,h=>by
   replace h:=c3 h;obtain⟨u,hu,h⟩:=h;replace h:=c3 h;obtain⟨ra,hra,h⟩:=h;obtain⟨ap,cp,rfl,hl⟩:=Mf hu;simp only[Vo,dQ]at h;obtain⟨⟨⟨⟨⟨⟨e1,h1⟩,h2⟩,h3⟩,h4⟩,h5⟩,h6⟩:=h;rw[CB hra,e1];exact HZ (XR (Yd (by decide) _) C.un) (c6 d _ C h2) (c6 e _ C h3) (c6 v _ C h5) h1 hl h4 h6
 | .mind a d,r,X,k,N,sc,C,h=>by
   replace h:=c3 h;obtain⟨⟨x,as,kw⟩,hv,h⟩:=h;replace h:=c3 h;obtain⟨ra,hra,h⟩:=h;obtain⟨p,q,rfl⟩:=Ih hv;obtain⟨ka,kv,kp⟩:=kw;simp only[Vo,dQ]at h;obtain⟨⟨⟨⟨⟨e1,h1⟩,h3⟩,h5⟩,h4⟩,e2⟩:=h;subst e1;subst e2;rw[A0 hra];exact Ha (XR (Yd (by decide) _) C.un) C h1 (c6 a _ C h3) (c6 d _ C h5) h4
 | .srtk x lp j y cn js a e,r,X,k,N,sc,C,h=>by
   replace h:=c3 h;obtain⟨⟨f,as,kw⟩,hv,h⟩:=h;replace h:=c3 h;obtain⟨ra,hra,h⟩:=h;replace h:=c3 h;obtain⟨l,hl,h⟩:=h;obtain⟨p,q,rfl⟩:=Ih hv;obtain⟨ka,kv,kp⟩:=kw;obtain⟨an,ap,ekv⟩:=P1 hl;simp only[Vo,dQ]at h;obtain⟨⟨⟨⟨⟨⟨⟨⟨⟨e1,h1⟩,h2⟩,h3⟩,e2⟩,h4⟩,e3⟩,e4⟩,h5⟩,h6⟩:=h;have ekv':kv=_:=ekv;subst e1;subst e2;subst ekv';subst e3;subst e4;rw[A0 hra];exact Hb C h1 (c6 a _ C h2) h3 h4 h5 λs H f c'=>c6 e _ (C.lam h4 h5 _ s H f c') h6
 | .isx a x,r,X,k,N,sc,C,h=>by
   replace h:=c3 h;obtain⟨v,hv,h⟩:=h;replace h:=c3 h;obtain⟨ra,hra,h⟩:=h;obtain⟨p,q,rfl⟩:=y0 hv;simp only[Vo,dQ,bQ]at h;obtain⟨⟨⟨⟨⟨e1,h1⟩,h3⟩,h4⟩,h5⟩,h6⟩:=h;obtain⟨np,e2⟩:=y4 h5;rw[e1]at h1;rw[CB hra,e1,e2];exact KL C h1 h6 (c6 a _ C h3) h4
 | .isv a,r,X,k,N,sc,C,h=>by
   replace h:=c3 h;obtain⟨v,hv,h⟩:=h;replace h:=c3 h;obtain⟨ra,hra,h⟩:=h;obtain⟨p,q,rfl⟩:=y0 hv;simp only[Vo,dQ,bQ]at h;obtain⟨⟨⟨⟨⟨e1,h1⟩,h3⟩,h4⟩,h5⟩,h6⟩:=h;obtain⟨np,e2⟩:=y4 h5;rw[e1]at h1;rw[CB hra,e1,e2];exact KM C h1 h6 (c6 a _ C h3) h4
 | .srtset a,r,X,k,N,sc,C,h=>by
   replace h:=c3 h;obtain⟨v,hv,h⟩:=h;replace h:=c3 h;obtain⟨z,hz,h⟩:=h;replace h:=c3 h;obtain⟨u,hu,h⟩:=h;replace h:=c3 h;obtain⟨ra,hra,h⟩:=h;obtain⟨p,q,rfl⟩:=y0 hv;obtain⟨p2,q2,rfl⟩:=y0 hu;simp only[Vo,dQ]at h;obtain⟨⟨⟨⟨⟨e1,e2⟩,h1⟩,h2⟩,h3⟩,h4⟩:=h;rw[e1]at h1;rw[e2]at h2;rw[A0 hz,A0 hra,e1,e2];exact F5 C h1 h2 (c6 a _ C h3) h4
 | .setl a,r,X,k,N,sc,C,h=>by
   replace h:=c3 h;obtain⟨v,hv,h⟩:=h;replace h:=c3 h;obtain⟨ra,hra,h⟩:=h;obtain⟨p,q,rfl⟩:=y0 hv;simp only[Vo,dQ]at h;obtain⟨⟨⟨e1,h1⟩,h3⟩,h4⟩:=h;rw[e1]at h1;rw[A0 hra,e1];exact HY C h1 (c6 a _ C h3) h4
 | .no,r,X,k,N,sc,C,h => .never
theorem AD{T:List Str}{Δ:Nat->Sn}:∀(es:Exs) (rs:List Expr) {X:Cx} {k:Nat} {N:List Str} {sc:Zi},Cok T Δ X k N sc->Ae T N sc es rs=true->GoodA X rs (F0 Δ es)
 | .nil,rs,X,k,N,sc,C,h=>by
   rw[Ae,Wp]at h;subst h;exact KG
 | .cons e es,rs,X,k,N,sc,C,h=>by
   rw[Ae]at h;replace h:=c3 h;obtain⟨x,hx,h⟩:=h;simp only[Vo]at h;rw[Ad hx];exact HW (c6 e _ C h.1.1) (AD es _ C h.2) h.1.2
theorem GD{T:List Str}{Δ:Nat->Sn}:∀(o:Eo) (r:Option Expr) {X:Cx} {k:Nat} {N:List Str} {sc:Zi},Cok T Δ X k N sc->Mg T N sc o r=true->PO X r (Fn X.K (wEo Δ o).1)/\MonoO (wEo Δ o).1
 | .no,r,X,k,N,sc,C,h=>by
   rw[Mg]at h;rw[Xm.mp h];exact⟨Um,.no⟩
 | .yes e,r,X,k,N,sc,C,h=>by
   rw[Mg]at h;replace h:=c3 h;obtain⟨x,hx,h⟩:=h;subst hx;exact⟨SR (c6 e _ C h),.yes (c6 e _ C h).m⟩
theorem Mz{T:List Str}{Δ:Nat->Sn}:∀(o:Eo) (rs:List Expr) {X:Cx} {k:Nat} {N:List Str} {sc:Zi},Cok T Δ X k N sc->Ii T N sc o rs=true->FV X rs (liftT X.K (wEo Δ o).2)/\MonoT (wEo Δ o).2
 | .no,rs,X,k,N,sc,C,h=>by
   rw[Ii,Wp]at h;subst h;exact⟨My,λ_ _ _ _ i q=>i _ _ q⟩
 | .yes e,rs,X,k,N,sc,C,h=>by
   rw[Ii]at h;replace h:=c3 h;obtain⟨x,hx,h⟩:=h;rw[A0 hx];exact⟨Se (c6 e _ C h),(c6 e _ C h).mt⟩
theorem ET{T:List Str}{Δ:Nat->Sn}:∀(it:Itb) (tg r:Expr) {X:Cx} {k:Nat} {N:List Str} {sc:Zi},Cok T Δ X k N sc->SM T N sc it tg r=true->GoodI X tg r (Oy Δ it)
 | .seq e,tg,r,X,k,N,sc,C,h=>by
   exact KO (c6 e _ C h)
 | .rng1 a,tg,r,X,k,N,sc,C,h=>by
   replace h:=c3 h;obtain⟨v,hv,h⟩:=h;replace h:=c3 h;obtain⟨ra,hra,h⟩:=h;obtain⟨p,q,rfl⟩:=y0 hv;simp only[Vo,dQ]at h;obtain⟨⟨⟨e1,h1⟩,h2⟩,h3⟩:=h;rw[e1]at h1;rw[A0 hra,e1];exact Hg C h1 (c6 a _ C h2) h3
 | .rng2 a b,tg,r,X,k,N,sc,C,h=>by
   replace h:=c3 h;obtain⟨v,hv,h⟩:=h;replace h:=c3 h;obtain⟨ra,hra,h⟩:=h;obtain⟨p,q,rfl⟩:=y0 hv;simp only[Vo,dQ]at h;obtain⟨⟨⟨⟨⟨e1,h1⟩,h2⟩,h3⟩,h4⟩,h5⟩:=h;rw[e1]at h1;rw[CB hra,e1];exact Hh C h1 (c6 a _ C h2) (c6 b _ C h4) h3 h5
 | .enum e,tg,r,X,k,N,sc,C,h=>by
   replace h:((F1 tg).isSome&&(vFn r).any λv=>(l1 v.2).any λa=>decide (v.1=("enumerate":Str))&&glo sc v.1&&j8 T N sc e a&&c8 a)=true:=h;rw[Vo]at h;obtain⟨ht,h⟩:=h;obtain⟨es,he⟩:=XC.mp ht;obtain⟨j,tp,rfl⟩:=Bg he;replace h:=c3 h;obtain⟨v,hv,h⟩:=h;replace h:=c3 h;obtain⟨ra,hra,h⟩:=h;obtain⟨p,q,rfl⟩:=y0 hv;simp only[Vo,dQ]at h;obtain⟨⟨⟨e1,h1⟩,h2⟩,h3⟩:=h;rw[e1]at h1;rw[A0 hra,e1];exact He C h1 (c6 e _ C h2) h3
end
noncomputable def DW:Expr->Option Zi
 | .ListComp _ _ s _=>some s
 | .SetComp _ _ s _=>some s
 | .DictComp _ _ _ s _=>some s
 | _=>none
noncomputable def DX(sc:Zi)(e:Expr)(x:Str)(px:Pos):Bool:=match DW e with
 | none=>false
 | some s=>sc.names.lookup x == some .local&&px.line == e.pos.line&&!(s.names.any λ(n,k)=>n == x&&(k == .local||k == .cell))
theorem Iu{env:Env}{e:Expr}{x:Str}{px:Pos}{l:Nat}(hk:env.scope.kind = .function):A0f e (some (.Name x px)) l env=pure (DX env.scope e x px):=by
 have hb:env.blockKind = .function:=by unfold Env.blockKind;rw[hk];rfl
 unfold A0f DX DW
 cases e<;>first
  | rfl
  | (show(pure _:Sem Bool)=_;rw[hb];rfl)
noncomputable def N0:Expr->Bool
 | .Tuple ..=>false
 | _=>true
noncomputable def PN(sc:Zi)(x y:Str)(px py:Pos):Bool:=sc.names.lookup x == some .local&&sc.names.lookup y == some .local&&px.line == py.line&&!(x == y)
noncomputable def CZ:Expr->Option (Str×Pos)
 | .Name x p=>some (x,p)
 | _=>none
theorem Bh{r:Expr}{x:Str×Pos}(h:CZ r=some x):r = .Name x.1 x.2:=by cases r<;>first | (cases h;rfl) | exact v4 h
noncomputable def N1:Stmt->Option (List Expr×Expr)
 | .Assign ts e _=>some (ts,e)
 | _=>none
noncomputable def Sh:Stmt->Option Expr
 | .Expr e _=>some e
 | _=>none
noncomputable def Uv:Stmt->Option (Expr×List Stmt×List Stmt)
 | .If t a b _=>some (t,a,b)
 | _=>none
noncomputable def Uw:Stmt->Option (Expr×Expr×List Stmt×List Stmt)
 | .For g i b o _=>some (g,i,b,o)
 | _=>none
noncomputable def Ux:Stmt->Option (List Stmt×List A06×List Stmt×List Stmt)
 | .Try b h o f _=>some (b,h,o,f)
 | _=>none
noncomputable def Uy:Stmt->Option (Expr×List Stmt×List Stmt)
 | .While t b o _=>some (t,b,o)
 | _=>none
noncomputable def Uz:Stmt->Option (Option Expr)
 | .Return e _=>some e
 | _=>none
noncomputable def Si:Stmt->Option (Expr×Option Expr)
 | .Raise (some e) c _=>some (e,c)
 | _=>none
noncomputable def vHd:A06->Option (Expr×Str×List Stmt)
 | .ExceptHandler (some e) (some n) b _=>some (e,n,b)
 | _=>none
noncomputable def l1h:List A06->Option A06
 | [h]=>some h
 | _=>none
theorem Sj{l:List A06}{x:A06}(h:l1h l=some x):l=[x]:=by
 match l,h with
 | [_],h=>cases h;rfl
theorem PP{r:Stmt}{x:Expr×Option Expr}(h:Si r=some x):∃ p,r = .Raise (some x.1) x.2 p:=by
 unfold Si at h;split at h
 ·cases h;exact⟨_,rfl⟩
 ·cases h
theorem Sl{r:A06}{x:Expr×Str×List Stmt}(h:vHd r=some x):∃ p,r = .ExceptHandler (some x.1) (some x.2.1) x.2.2 p:=by
 unfold vHd at h;split at h
 ·cases h;exact⟨_,rfl⟩
 ·cases h
noncomputable def l1s:List Stmt->Option Stmt
 | [h]=>some h
 | _=>none
theorem Sm{l:List Stmt}{x:Stmt}(h:l1s l=some x):l=[x]:=by
 match l,h with
 | [_],h=>cases h;rfl
theorem Ct{r:Stmt}{x:List Expr×Expr}(h:N1 r=some x):∃ p,r = .Assign x.1 x.2 p:=by cases r<;>first | (cases h;exact⟨_,rfl⟩) | exact v4 h
theorem Iv{r:Stmt}{x:Expr}(h:Sh r=some x):∃ p,r = .Expr x p:=by cases r<;>first | (cases h;exact⟨_,rfl⟩) | exact v4 h
theorem PR{r:Stmt}{x:Expr×List Stmt×List Stmt}(h:Uv r=some x):∃ p,r = .If x.1 x.2.1 x.2.2 p:=by cases r<;>first | (cases h;exact⟨_,rfl⟩) | exact v4 h
theorem PU{r:Stmt}{x:Expr×Expr×List Stmt×List Stmt}(h:Uw r=some x):∃ p,r = .For x.1 x.2.1 x.2.2.1 x.2.2.2 p:=by cases r<;>first | (cases h;exact⟨_,rfl⟩) | exact v4 h
theorem PV{r:Stmt}{x:List Stmt×List A06×List Stmt×List Stmt}(h:Ux r=some x):∃ p,r = .Try x.1 x.2.1 x.2.2.1 x.2.2.2 p:=by cases r<;>first | (cases h;exact⟨_,rfl⟩) | exact v4 h
theorem PX{r:Stmt}{x:Expr×List Stmt×List Stmt}(h:Uy r=some x):∃ p,r = .While x.1 x.2.1 x.2.2 p:=by cases r<;>first | (cases h;exact⟨_,rfl⟩) | exact v4 h
theorem PY{r:Stmt}{x:Option Expr}(h:Uz r=some x):∃ p,r = .Return x p:=by cases r<;>first | (cases h;exact⟨_,rfl⟩) | exact v4 h
noncomputable def Qa(sc:Zi)(rt:Expr):Bool:=(F1 rt).any λts=>(l2 ts).any λnn=>(CZ nn.1).any λx=>!(sc.names.lookup x.1 == some .local)
noncomputable def So(sc:Zi)(rt re:Expr):Bool:=match CZ rt with
 | some x=>!DX sc re x.1 x.2||isCmp re
 | none=>(F1 rt).isSome&&(N0 re||Qa sc rt)
mutual
noncomputable def V0:Stm->Bool
 | .loop ..=>false
 | .whl ..=>false
 | .rse ..=>false
 | .tryx ..=>false
 | .iff _ a b=>DY a&&DY b
 | _=>true
noncomputable def DY:List Stm->Bool
 | []=>true
 | s::ss=>V0 s&&DY ss
end
mutual
noncomputable def Qb:Stm->Bool
 | .loop _ _ b=>BU b
 | .whl _ b=>BU b
 | .iff _ a b=>BU a&&BU b
 | _=>true
noncomputable def BU:List Stm->Bool
 | []=>true
 | s::ss=>Qb s&&BU ss
end
mutual
noncomputable def V1(CT:List (Str×XCls))(T:List Str)(N:List Str)(sc:Zi):Stm->Stmt->Bool
 | .asg t e,r=>(N1 r).any λv=>(l1 v.1).any λrt=>Bp N.length N sc t rt&&j8 T N sc e v.2&&c8 rt&&So sc rt v.2
 | .par i j a b,r=>(N1 r).any λv=>(l1 v.1).any λrt=>(F1 rt).any λts=>(l2 ts).any λnn=>(F1 v.2).any λvs=>(l2 vs).any λab=>(CZ nn.1).any λx=>(CZ nn.2).any λy=>
    decide (N[i]?=some x.1)&&decide (N[j]?=some y.1)&&decide (i≠j)&&PN sc x.1 y.1 x.2 y.2&&j8 T N sc a ab.1&&j8 T N sc b ab.2&&c8 ab.1&&c8 ab.2&&!([ab.1,ab.2].all (foldedForSure 8))&&!([ab.1,ab.2].all (A1W 8))
 | .put o i e,r=>(N1 r).any λv=>(l1 v.1).any λrt=>(Oz rt).any λoi=>j8 T N sc o oi.1&&j8 T N sc i oi.2&&j8 T N sc e v.2&&BS oi.2
 | .expr e,r=>(Sh r).any λre=>j8 T N sc e re&&(DW re).isNone
 | .iff t a b,r=>(Uv r).any λv=>j8 T N sc t v.1&&Bq CT T N sc a v.2.1&&Bq CT T N sc b v.2.2
 | .loop g it b,r=>(Uw r).any λv=>Bp N.length N sc g v.1&&SM T N sc it v.1 v.2.1&&BA v.2.1&&Bq CT T N sc b v.2.2.1&&v.2.2.2.isEmpty
 | .whl t b,r=>(Uy r).any λv=>j8 T N sc t v.1&&Bq CT T N sc b v.2.1&&v.2.2.isEmpty
 | .ret e,r=>(Uz r).any λo=>o.any λre=>j8 T N sc e re
 | .rse x c e,r=>(Si r).any λv=>v.2.isNone&&(vFn v.1).any λw=>(l1 w.2).any λra=>decide (w.1=x)&&glo sc x&&j8 T N sc e ra&&c8 ra&&decide ((x,c)∈CT)
 | .exx f es,r=>(Sh r).any λre=>(vFn re).any λv=>decide (f+1<T.length/\T[f]?=some v.1)&&glo sc v.1&&Ae T N sc es v.2&&!v.2.isEmpty
 | .tryx n i j dn Dc b,r=>(Ux r).any λv=>decide (n=N.length)&&v.2.2.1.isEmpty&&v.2.2.2.isEmpty&&DY b&&Bq CT T N sc b v.1&&(l1h v.2.1).any λh=>(vHd h).any λw=>(Ac w.1 == some dn)&&glo sc dn&&CT.any (λp=>decide (p.1=dn)&&decide (p.2.ad=Dc))&&
    (l1s w.2.2).any λst=>(N1 st).any λu=>(l1 u.1).any λrt=>(Ac rt).any λm=>(Ac u.2 == some w.2.1)&&decide (N[i]?=some w.2.1)&&decide (N[j]?=some m)&&decide (i≠j)&&(sc.names.lookup w.2.1 == some .local)&&(sc.names.lookup m == some .local)&&!(w.2.1 == ("__debug__":Str))&&!(w.2.1 == ("__classdict__":Str))
 | .no,_=>true
noncomputable def Bq(CT:List (Str×XCls))(T:List Str)(N:List Str)(sc:Zi):List Stm->List Stmt->Bool
 | [],r=>r.isEmpty
 | s::ss,r=>(r.head?).any λx=>V1 CT T N sc s x&&Bq CT T N sc ss r.tail
end
noncomputable def DZ(K:Vn)(as:List ZY)(H:Hp)(D:Ends):EndsS where
 nx:=λρ' S'=>∀ as' H' σ',Go as H as' H'->Ok K as' H' S'->EnvOk K as' H' σ' ρ'->D.nx σ' H'
 rt:=Post K as H D.rt
 bk:=λρ' S'=>∀ as' H' σ',Go as H as' H'->Ok K as' H' S'->EnvOk K as' H' σ' ρ'->D.bk σ' H'
 ct:=λρ' S'=>∀ as' H' σ',Go as H as' H'->Ok K as' H' S'->EnvOk K as' H' σ' ρ'->D.ct σ' H'
noncomputable def liftS(K:Vn)(w:WS):TS:=λD σ H=>∃ as ρ S,Ok K as H S/\EnvOk K as H σ ρ/\w (DZ K as H D) ρ S
structure XB where
 xo:List ZY->Hp->Prop
 up:∀{as as':List ZY} {H H':Hp},Go as H as' H'->xo as H->xo as' H'
noncomputable def liftX(B:XB)(K:Vn)(w:WS):TS:=λD σ H=>∃ as ρ S,Ok K as H S/\EnvOk K as H σ ρ/\B.xo as H/\w (DZ K as H D) ρ S
structure Le(D D':EndsS):Prop where
 nx:∀ ρ S,D.nx ρ S->D'.nx ρ S
 rt:∀ x S,D.rt x S->D'.rt x S
 bk:∀ ρ S,D.bk ρ S->D'.bk ρ S
 ct:∀ ρ S,D.ct ρ S->D'.ct ρ S
noncomputable def MonoS(w:WS):Prop:=∀ D D' ρ S,Le D D'->w D ρ S->w D' ρ S
theorem MonoS.go{w:WS}(m:MonoS w){D D':EndsS}{ρ:EnvS}{S:Sto}(h:w D ρ S)(l:Le D D'):w D' ρ S:=m D D' ρ S l h
theorem Le.go{K:Vn}{as as':List ZY}{H H':Hp}{D:Ends}(g:Go as H as' H'):Le (DZ K as H D) (DZ K as' H' D) where
 nx:=λρ S h as2 H2 σ2 g2=>h as2 H2 σ2 (g.trans g2)
 rt:=λx S h=>Post.mono h g
 bk:=λρ S h as2 H2 σ2 g2=>h as2 H2 σ2 (g.trans g2)
 ct:=λρ S h as2 H2 σ2 g2=>h as2 H2 σ2 (g.trans g2)
structure GoodS(X:Cx)(r:Stmt)(w:WS):Prop where
 ps:PS X r (liftS X.K w)
 m:MonoS w
structure GoodX(B:XB)(X:Cx)(r:Stmt)(w:WS):Prop where
 ps:PS X r (liftX B X.K w)
 m:MonoS w
structure GoodSs(B:XB)(X:Cx)(r:List Stmt)(w:WS):Prop where
 ps:PSs X r (liftX B X.K w)
 m:MonoS w
theorem GoodS.x{B:XB}{X:Cx}{r:Stmt}{w:WS}(h:GoodS X r w):GoodX B X r w:=⟨λpins s σ H D I ⟨as,ρ,S,ok,en,_,q⟩=>h.ps pins s σ H D I ⟨as,ρ,S,ok,en,q⟩,h.m⟩
theorem w6{X:Cx}{st:Stmt}{t:TS}(t':TS)(h:PS X st t)(imp:∀ D σ H,t' D σ H->t D σ H):PS X st t':=λpins s σ H D I hw=>h pins s σ H D I (imp D σ H hw)
theorem GE{X:Cx}{st:List Stmt}{t:TS}(t':TS)(h:PSs X st t)(imp:∀ D σ H,t' D σ H->t D σ H):PSs X st t':=λpins s σ H D I hw=>h pins s σ H D I (imp D σ H hw)
section
variable{X:Cx}{B:XB}
theorem Hi:GoodSs B X [] (λD ρ S=>D.nx ρ S):=⟨GE _ O9 λD σ H ⟨as,ρ,S,ok,en,_,h⟩=>h as H σ (Go.refl _ _) ok en,λD D' ρ S l h=>l.nx _ _ h⟩
theorem GF{s:Stmt}{ss:List Stmt}{w u:WS}(h1:GoodX B X s w)(h2:GoodSs B X ss u):GoodSs B X (s::ss) (λD ρ S=>w {D with nx:=u D} ρ S) where
 ps:=GE _ (Ky h1.ps h2.ps) (by
  rintro D σ H ⟨as,ρ,S,ok,en,xo,h⟩;refine⟨as,ρ,S,ok,en,xo,h1.m.go h ⟨λρ' S' q as' H' σ' g ok' en'=>?_,λ_ _ h=>h,λ_ _ h=>h,λ_ _ h=>h⟩⟩;exact⟨as',ρ',S',ok',en',B.up g xo,h2.m _ _ _ _ (Le.go g) q⟩)
 m:=λD D' ρ S l h=>h1.m.go (D:={D with nx:=u D}) h ⟨λρ' S' q=>h2.m _ _ _ _ l q,l.rt,l.bk,l.ct⟩
theorem PZ{K:Vn}{g:Tg}{w:WE}(m:Mono w):∀ D σ H,liftS K (λD ρ S=>w ρ S λx S1=>wTg g x ρ λρ'=>D.nx ρ' S1) D σ H->Gj (lift K w) (Fv K g) D σ H:=by
 rintro D σ H ⟨as,ρ,S,ok,en,h⟩;refine⟨as,ρ,S,ok,en,m _ _ _ _ (λx S1 q as1 H1 v g1 ok1 rv=>?_) h⟩;exact⟨as1,ρ,S1,x,ok1,en.mono g1.pre (g1.ku ok),rv,AA g (λρ' q σ' en'=>q as1 H1 σ' g1 ok1 en') q⟩
theorem GG{K:Vn}{i:Nat}{w:WE}(m:Mono w):∀ D σ H,liftS K (λD ρ S=>w ρ S λx S1=>wTg (.nm i) x ρ λρ'=>D.nx ρ' S1) D σ H->Gj (lift K w) (FO i) D σ H:=by
 rintro D σ H ⟨as,ρ,S,ok,en,h⟩;refine⟨as,ρ,S,ok,en,m _ _ _ _ (λx S1 q as1 H1 v g1 ok1 rv=>?_) h⟩;unfold wTg at q;exact q as1 H1 _ g1 ok1 ((en.mono g1.pre (g1.ku ok)).set rv)
theorem GH{g:Tg}{w:WE}(m:Mono w):MonoS (λD ρ S=>w ρ S λx S1=>wTg g x ρ λρ'=>D.nx ρ' S1):=λD D' ρ S l h=>m _ _ _ _ (λx S1 q=>AA g (λρ' q=>l.nx _ _ q) q) h
theorem Sq{K:Vn}{t:WT}{a b:WS}(mt:MonoT t)(ma:MonoS a)(mb:MonoS b):∀ D σ H,liftX B K (λD ρ S=>t ρ S λc S1=>if c=true then a D ρ S1 else b D ρ S1) D σ H->To (liftT K t) (liftX B K a) (liftX B K b) D σ H:=by
 rintro D σ H ⟨as,ρ,S,ok,en,xo,h⟩;refine⟨as,ρ,S,ok,en,mt _ _ _ _ (λc S1 q as1 H1 g1 ok1=>?_) h⟩;refine n4 (λq=>?_) (λq=>?_) q
 ·exact⟨as1,ρ,S1,ok1,en.mono g1.pre (g1.ku ok),B.up g1 xo,ma _ _ _ _ (Le.go g1) q⟩
 ·exact⟨as1,ρ,S1,ok1,en.mono g1.pre (g1.ku ok),B.up g1 xo,mb _ _ _ _ (Le.go g1) q⟩
theorem Bi{keep:Sto->Prop}{g:Tg}{b:WS}(mb:MonoS b):∀(xs:List SV) {D D':EndsS},Le D D'->∀ ρ S,v8 keep g b D xs ρ S->v8 keep g b D' xs ρ S
 | [],D,D',l,ρ,S,h=>by unfold v8 at h ⊢;exact⟨h.1,l.nx _ _ h.2⟩
 | x::xs,D,D',l,ρ,S,h=>by
   unfold v8 at h ⊢;exact⟨h.1,AA g (λρ2 q=>mb.go (D:={D with nx:=v8 keep g b D xs,ct:=v8 keep g b D xs,bk:=D.nx}) q ⟨Bi mb xs l,l.rt,l.nx,Bi mb xs l⟩) h.2⟩
theorem Pa{K:Vn}{g:Tg}{i:WI}{b:WS}(mi:MonoI i)(mb:MonoS b):∀ D σ H,liftX B K (λD ρ S=>i ρ S λkeep xs S1=>v8 keep g b D xs ρ S1) D σ H->Tx (liftI K i) (Fv K g) (liftX B K b) D σ H:=by
 rintro D σ H ⟨as,ρ,S,ok,en,xo,h⟩;refine⟨as,ρ,S,ok,en,mi _ _ _ _ (λkeep xs S1 h as1 H1 J g1 ok1 W=>?_) h⟩
 refine⟨λi m σ2 H2=>m=xs.length - i/\i<=xs.length/\∃ as2 ρ2 S2,Go as1 H1 as2 H2/\Ok K as2 H2 S2/\EnvOk K as2 H2 σ2 ρ2/\v8 keep g b (DZ K as H D) (xs.drop i) ρ2 S2,
  ⟨xs.length,by simp,XG _,as1,ρ,S1,Go.refl _ _,ok1,en.mono g1.pre (g1.ku ok),h⟩,?_⟩
 rintro i m σ2 H2 ⟨rfl,hi,as2,ρ2,S2,g2,ok2,en2,h⟩;by_cases hlt:i<xs.length
 ·right;rw[Y4 hlt]at h;unfold v8 at h;obtain⟨kp,h⟩:=h;obtain⟨w1,_⟩:=W as2 H2 S2 (g2.gu ok1) ok2 kp;obtain⟨go,yl⟩:=w1 i xs[i] (Vq hlt);refine⟨go,λσ' H'=>∃ as2 ρ2 S2,Go as1 H1 as2 H'/\Ok K as2 H' S2/\EnvOk K as2 H' σ' ρ2/\v8 keep g b (DZ K as H D) (xs.drop (i+1)) ρ2 S2,λσ' H' z=>⟨xs.length - (i+1),by omega,rfl,hlt,z⟩,λx H3 y3=>?_⟩;obtain⟨g3,ok3,rx⟩:=yl x H3 y3;refine⟨as2,ρ2,S2,_,ok3,en2.mono g3.pre (g3.ku ok2),rx,AA g (λρ3 q σ3 en3=>?_) h⟩;have g03:=(g1.trans g2).trans g3;refine⟨as2,ρ3,S2,ok3,en3,B.up g03 xo,mb.go q ⟨λρ' S' q as' H' σ' g' ok' en'=>?_,λx S h=>Post.mono h g03,λρ' S' q as' H' σ' g' ok' en'=>q as' H' σ' (g03.trans g') ok' en',λρ' S' q as' H' σ' g' ok' en'=>?_⟩⟩
  ·exact⟨as',ρ',S',(g2.trans g3).trans g',ok',en',q⟩
  ·exact⟨as',ρ',S',(g2.trans g3).trans g',ok',en',q⟩
 ·left;have hi':i=xs.length:=by omega
  subst hi';rw[Z5]at h;unfold v8 at h;obtain⟨kp,h⟩:=h;obtain⟨_,w2⟩:=W as2 H2 S2 (g2.gu ok1) ok2 kp;exact⟨w2,h as2 H2 σ2 (g1.trans g2) ok2 en2⟩
theorem GI{t:WT}{b:WS}(mt:MonoT t)(mb:MonoS b):MonoS (SH t b):=λD D' ρ S l ⟨W,w0,h⟩=>⟨W,w0,λm ρ S w=>mt _ _ _ _ (λc S1 q=>n4 (λq=>mb.go (D:={D with nx:=λρ' S'=>∃ m',m'<m/\W m' ρ' S',ct:=λρ' S'=>∃ m',m'<m/\W m' ρ' S',bk:=D.nx}) q ⟨λ_ _ h=>h,l.rt,l.nx,λ_ _ h=>h⟩) (λq=>l.nx _ _ q) q) (h m ρ S w)⟩
theorem Pb{K:Vn}{t:WT}{b:WS}(mt:MonoT t)(mb:MonoS b):∀ D σ H,liftX B K (SH t b) D σ H->L9 (liftT K t) (liftX B K b) D σ H:=by
 rintro D σ H ⟨as,ρ,S,ok,en,xo,W,⟨m0,w0⟩,h⟩;refine⟨λm σ1 H1=>∃ as1 ρ1 S1,Go as H as1 H1/\Ok K as1 H1 S1/\EnvOk K as1 H1 σ1 ρ1/\W m ρ1 S1,⟨m0,as,ρ,S,Go.refl _ _,ok,en,w0⟩,?_⟩;rintro m σ1 H1 ⟨as1,ρ1,S1,g1,ok1,en1,w1⟩;refine⟨as1,ρ1,S1,ok1,en1,mt _ _ _ _ (λc S2 q as2 H2 g2 ok2=>?_) (h m ρ1 S1 w1)⟩;refine n4 (λq=>?_) (λq=>q as2 H2 σ1 (g1.trans g2) ok2 (en1.mono g2.pre (g2.ku ok1))) q;refine⟨λσ' H'=>∃ m',m'<m/\∃ as1 ρ1 S1,Go as H as1 H'/\Ok K as1 H' S1/\EnvOk K as1 H' σ' ρ1/\W m' ρ1 S1,λσ' H' z=>z,?_⟩;refine⟨as2,ρ1,S2,ok2,en1.mono g2.pre (g2.ku ok1),B.up (g1.trans g2) xo,mb.go q ⟨λρ' S' ⟨m',hm,w'⟩ as' H' σ' g' ok' en'=>?_,λx S h=>Post.mono h (g1.trans g2),λρ' S' q as' H' σ' g' ok' en'=>q as' H' σ' ((g1.trans g2).trans g') ok' en',λρ' S' ⟨m',hm,w'⟩ as' H' σ' g' ok' en'=>?_⟩⟩
 ·exact⟨m',hm,as',ρ',S',(g1.trans g2).trans g',ok',en',w'⟩
 ·exact⟨m',hm,as',ρ',S',(g1.trans g2).trans g',ok',en',w'⟩
theorem Pc{K:Vn}{i j:Nat}{a b:WE}(ma:Mono a)(mb:Mono b):∀ D σ H,liftS K (λD ρ S=>a ρ S λx S1=>b ρ S1 λy S2=>D.nx ((ρ.set i (some x)).set j (some y)) S2) D σ H->Tu i j (FQ (lift K a) (FQ (lift K b) RL)) D σ H:=by
 rintro D σ H ⟨as,ρ,S,ok,en,h⟩;refine⟨as,ρ,S,ok,en,ma _ _ _ _ (λx S1 q as1 H1 v g1 ok1 rv=>?_) h⟩;refine⟨as1,ρ,S1,ok1,en.mono g1.pre (g1.ku ok),mb _ _ _ _ (λy S2 q as2 H2 u g2 ok2 ru=>?_) q⟩;refine⟨v,u,rfl,q as2 H2 _ (g1.trans g2) ok2 ?_⟩;exact(((en.mono g1.pre (g1.ku ok)).mono g2.pre (g2.ku ok1)).set (Rl.mono g2.pre (g2.ku ok1) x v rv)).set ru
theorem Da{x y v:SV}{S:Sto}{P P':Sto->Prop}(i:∀ S,P S->P' S)(h:HP x y v S P):HP x y v S P':=by
 unfold HP at h ⊢;split at h
 ·obtain⟨xs,j,a,b,c⟩:=h;exact⟨xs,j,a,b,i _ c⟩
 ·exact h.elim
theorem Pd{K:Vn}{as:List ZY}{H:Hp}{S:Sto}{x y z:SV}{o i v:V}{Q:Hp->Prop}(ok:Ok K as H S)(ro:Rl K as H o x)(ri:Rl K as H i y)(rv:Rl K as H v z)(h:HP x y z S λS'=>∀ H',Go as H as H'->Ok K as H' S'->Q H'):LN o i v H Q:=by
 cases x with
 | loc k=>
   cases y with
   | int n=>
     obtain⟨xs,j,h1,h2,h3⟩:=h;obtain⟨a,vs,rfl,ea,ha,ra⟩:=v7 ok ro h1;rw[rl_int]at ri;subst ri;refine⟨a,vs,n,j,rfl,rfl,ha,by rw[ra.length];exact h2,h3 _ (Go.write (Vv ea)) (ok.write h1 ea (ra.set rv j)).1⟩
   | _=>exact False.elim h
 | _=>exact False.elim h
theorem Pe{K:Vn}{o i e:WE}(mo:Mono o)(mi:Mono i)(me:Mono e):∀ D σ H,liftS K (λD ρ S=>e ρ S λv S1=>o ρ S1 λx S2=>i ρ S2 λy S3=>HP x y v S3 λS4=>D.nx ρ S4) D σ H->Gj (lift K e) (Tt (lift K o) (lift K i) LN) D σ H:=by
 rintro D σ H ⟨as,ρ,S,ok,en,h⟩;refine⟨as,ρ,S,ok,en,me _ _ _ _ (λz S1 q as1 H1 v g1 ok1 rv=>?_) h⟩;have en1:=en.mono g1.pre (g1.ku ok);refine⟨as1,ρ,S1,ok1,en1,mo _ _ _ _ (λx S2 q as2 H2 u g2 ok2 ru=>?_) q⟩;have en2:=en1.mono g2.pre (g2.ku ok1);refine⟨as2,ρ,S2,ok2,en2,mi _ _ _ _ (λy S3 q as3 H3 t g3 ok3 rt=>?_) q⟩;have en3:=en2.mono g3.pre (g3.ku ok2);refine Pd ok3 (Rl.mono g3.pre (g3.ku ok2) x u ru) rt (Rl.mono (g2.trans g3).pre ((g2.trans g3).ku ok1) z v rv) (Da (λS4 q H4 g4 ok4=>?_) q);exact q as3 H4 σ (((g1.trans g2).trans g3).trans g4) ok4 (en3.mono g4.pre (g4.ku ok3))
theorem Pf{n j:Nat}(h:j<n):ixN n (j:Int)=some j:=by
 unfold ixN;rw[iP (by omega),iP (by omega)];simp
end
theorem N2{env:Env}{es:List Expr}{k:Nat}{p:Pos}{e:Expr}{l:Nat}:A0h [.Tuple es k p] e l env=pure false:=by
 unfold A0h A0f;cases e<;>rfl
theorem Sr{env:Env}{o i:Expr}{p:Pos}{e:Expr}{l:Nat}:A0h [.Subscript o i p] e l env=pure false:=by
 unfold A0h A0f;cases e<;>rfl
theorem Ss{env:Env}{es:List Expr}{k:Nat}{p:Pos}{e:Expr}(h:N0 e=true):Zs [.Tuple es k p] e env=pure none:=by
 unfold Zs;cases e<;>first | rfl | cases h
theorem Pg{env:Env}{x:Str}{px p:Pos}{t2:Expr}{k:Nat}{e:Expr}(h:(env.scope.names.lookup x == some NameKind.local)=false):Zs [.Tuple [.Name x px,t2] k p] e env=pure none:=by
 have kx:(env.kindOf x == some NameKind.local)=false:=h;cases e with
 | Tuple vs k2 p2=>
   unfold Zs
   have key:∀ f:Expr->Option Str,f (.Name x px)=none->((List.filterMap f [.Name x px,t2]).length != [Expr.Name x px,t2].length)=true:=λf hf=>by
    rw[YA hf];have:=List.length_filterMap_le f [t2];simp only[Wr,XW]at this ⊢;rw[bne_iff_ne];omega
   dsimp only;split
   ·rfl
   ·split
    ·rfl
    ·rw[key _ (by show(if (env.kindOf x == some NameKind.local&&_)=true then some x else none)=none;rw[kx];rfl),Y0];rfl
 | _=>rfl
theorem Su{env:Env}{o i:Expr}{p:Pos}{e:Expr}:Zs [.Subscript o i p] e env=pure none:=by
 unfold Zs;cases e<;>rfl
theorem Sv{env:Env}{x y:Str}{px py pt pt2:Pos}{k k2:Nat}{a b:Expr}(hk:env.scope.kind = .function)(h:PN env.scope x y px py=true)(ha:c8 a=true)(hb:c8 b=true)(h1:([a,b].all (foldedForSure 8))=false)(h2:([a,b].all (A1W 8))=false):
 Zs [.Tuple [.Name x px,.Name y py] k pt] (.Tuple [a,b] k2 pt2) env=pure (some [x,y]):=by
 have hbk:env.blockKind = .function:=by unfold Env.blockKind;rw[hk];rfl
 unfold PN at h;simp only[Vo,bQ,W7,beq_eq_false_iff_ne]at h;obtain⟨⟨⟨hx,hy⟩,hl⟩,hne⟩:=h;have kx:env.kindOf x=some .local:=hx;have ky:env.kindOf y=some .local:=hy
 have ed:([x,y]:List Str).eraseDups.length=2:=by
  have:(y == x)=false:=by rw[beq_eq_false_iff_ne];exact λz=>hne z.symm
  rw[List.eraseDups_cons,XQ,this];rfl
 unfold Zs;simp only[Wr,XW,hbk,h1,h2,List.head?_cons,XM,Z3,Expr.pos,Wl,List.filterMap_nil,kx,ky,hl];refine(iG (by decide)).trans ((iG (λz=>?_)).trans ?_)
 ·simp only[Wx,Yy,Xy,WK]at z;rcases z with z | z
  ·cases a<;>first | (cases z;done) | cases ha
  ·cases b<;>first | (cases z;done) | cases hb
 ·rw[show(some NameKind.local == some NameKind.local&&py.line == py.line)=true by simp];simp only[if_true];refine(iG (by rw[ed];simp)).trans ?_;refine(iG (by simp)).trans ((iG (by simp)).trans rfl)
theorem GJ{t:WT}{a b:WS}(mt:MonoT t)(ma:MonoS a)(mb:MonoS b):MonoS (λD ρ S=>t ρ S λc S1=>if c=true then a D ρ S1 else b D ρ S1):=λD D' ρ S l h=>mt _ _ _ _ (λc S1 q=>n4 (λq=>ma.go q l) (λq=>mb.go q l) q) h
section
variable{T:List Str}{Δ:Nat->Sn}{X:Cx}{N:List Str}{sc:Zi}
theorem Qc{env:Env}{e:Expr}(h:c8 e=true):(Zy [e] env).map (·.2)=[assign e env]:=by cases e<;>first | rfl | cases h
theorem Hj{env:Env}{o i:Expr}{p:Pos}(h:BS i=true):∀ v,assign (.Subscript o i p) env v=(do
 let ov <- holding [v] (eval o env)
 let iv <- holding [v,ov] (eval i env)
 standAt p
 holding [v,ov,iv] (setItem ov iv v)
 release [v,ov,iv] []):=λv=>by cases i<;>first | rfl | cases h
theorem KR{sc:Zi}{re:Expr}{x:Str}{px:Pos}(h:DX sc re x px=true):sc.names.lookup x=some .local:=by
 unfold DX at h;cases hi:DW re with
 | none=>rw[hi]at h;cases h
 | some s=>rw[hi]at h;simp only[Vo,bQ]at h;exact h.1.1
theorem KS(C:Cok T Δ X N.length N sc)(hk:sc.kind = .function){t:Tg}{e:Ex}{rt re:Expr}{pos:Pos}(h1:Bp N.length N sc t rt=true)(h2:j8 T N sc e re=true)(h3:c8 rt=true)(h4:So sc rt re=true):PS X (.Assign [rt] re pos) (liftS X.K λD ρ S=>(wEx Δ e).1 ρ S λx S1=>wTg t x ρ λρ'=>D.nx ρ' S1):=by
 have ge:=c6 e re C h2;unfold So at h4;cases hv:CZ rt with
 | none=>
   rw[hv]at h4;rw[Vo]at h4;obtain⟨es,hes⟩:=XC.mp h4.1;obtain⟨j,p,rfl⟩:=Bg hes
   have hw:Zs [.Tuple es j p] re X.env=pure none:=by
    rcases(WK _ _).mp h4.2 with z | z
    ·exact Ss z
    ·unfold Qa at z;replace z:=c3 z;obtain⟨ts,hts,z⟩:=z;replace z:=c3 z;obtain⟨nn,hnn,z⟩:=z;replace z:=c3 z;obtain⟨y,hy,z⟩:=z;rw[hts]at hes;cases hes;rw[CB hnn,Bh hy];exact Pg (by rw[C.hs];simpa using z)
   exact w6 _ (L5 ge.pe (CC C t _ h1) N2 hw (Qc rfl)) (PZ ge.m)
 | some xp=>
   rw[hv]at h4;have e0:=Bh hv;obtain⟨x,px⟩:=xp;subst e0;cases t with
   | tup ts=>rw[Bp]at h1;cases h1
   | nm i=>
     rw[Bp]at h1;have h1:(decide (i<N.length)&&decide (N[i]?=some x)&&loc sc x)=true:=h1;simp only[Vo,dQ]at h1;obtain⟨⟨hi,hx⟩,hl⟩:=h1;unfold loc at hl;simp only[WK,bQ]at hl;have hND:X.N.Nodup:=by rw[C.hN];exact C.nd
     have hNi:X.N[i]?=some x:=by rw[C.hN];exact hx
     have hloc:Loc X.env.scope x:=by rw[C.hs];exact hl
     have hf:X.fn x=true\/X.env.scope.names.lookup x=some .local:=by
      rw[C.hs];rcases hl with hl | hl
      ·exact .inr hl
      ·exact .inl (C.fn i x hi hx hl)
     have hke:X.env.scope.kind = .function:=by rw[C.hs];exact hk
     cases hsw:DX sc re x px with
     | false=>exact w6 _ (L8 hND hNi hloc ge.pe (by rw[Iu hke,C.hs,hsw]) hf) (GG ge.m)
     | true=>
       have h4:(!DX sc re x px||isCmp re)=true:=h4;rw[hsw,Bool.not_true,ZM]at h4;exact w6 _ (ge.cg h4 i x px pos hND hNi (by rw[C.hs];exact KR hsw) (by rw[Iu hke,C.hs,hsw])) (GG ge.m)
end
noncomputable def V3(K:Vn)(as:List ZY)(H:Hp)(Q:VK)(E:XK):QE
 | .tup (v::_),S'=>Post K as H Q v S'
 | .exc c,S'=>∀ as' H',Go as H as' H'->Ok K as' H' S'->ClsK K c->E (.ref c.ad) none H'
 | _,_=>False
noncomputable def spX(K:Vn)(b:Sn):Sp:=λvs H Q E=>∃ as S xs,Ok K as H S/\RlAll K as H vs xs/\b xs S (V3 K as H Q E)
structure XInt(fl nt:Bool)(CT:List (Str×XCls))(B:XB)(T:List Str)(Δ:Nat->Sn)(X:Cx):Prop where
 top:Top X
 tl:T.length<rz
 cls:∀ p∈CT,ClsK X.K p.2/\PySem.W.nsIn X.K Za p.1=some (some (.ref p.2.ad))
 ex:∃ E:XK,CatchT X E/\(∀ c as H S Q,B.xo as H->Ok X.K as H S->ClsK X.K c->Δ rz [.exc c] S Q->E (.ref c.ad) none H)/\(fl=true\/(Catch X E/\A1X (Zc X.prog X.w) X.A X.env X.xe))
 nx:fl=true\/nt=true\/∀ e s,¬ X.xe e s
 call:∀ f x,f+1<T.length->T[f]?=some x->∃ k ps,CalleeE X.prog X.w X.K X.mg X.base k x ps (spX X.K (Δ (tz+f)))/\Room k X.A
theorem m8{Δ:Nat->Sn}{Xp:XCls->Sto->Prop}{f:Nat}(h:f≠rz):setE Δ Xp f=Δ f:=by
 unfold setE;cases h':Nat.beq f rz with
 | false=>rfl
 | true=>exact absurd (Nat.eq_of_beq_eq_true h') h
theorem Iw{Δ:Nat->Sn}{Xp:XCls->Sto->Prop}{c:XCls}{S:Sto}{Q:QE}(h:setE Δ Xp rz [.exc c] S Q):Xp c S:=by
 obtain⟨c',e,q⟩:=h;cases e;exact q
theorem AR{Δ:Nat->Sn}{Xp:XCls->Sto->Prop}(hΔ:∀ f,MonoN (Δ f))(f:Nat):MonoN (setE Δ Xp f):=by
 by_cases h:f=rz
 ·subst h;exact λ_ _ _ _ _ h=>h
 ·rw[m8 h];exact hΔ f
theorem Ph{Δ:Nat->Sn}{P P':QE}(i:∀ x S,P x S->P' x S):∀ r S,rX Δ P r S->rX Δ P' r S:=λr S h=>by
 cases r with
 | tup vs=>
   cases vs with
   | nil=>exact h
   | cons v vs=>exact i _ _ h
 | _=>exact h
theorem Ix{Δ:Nat->Sn}{f:Nat}(m:MonoN (Δ (tz+f))):MonoN (wCx Δ f):=λxs S P P' i h=>m _ _ _ _ (Ph i) h
section
variable{fl nt:Bool}{CT:List (Str×XCls)}{B:XB}{T:List Str}{Δ:Nat->Sn}{X:Cx}
theorem Cok.setE{k:Nat}{N:List Str}{sc:Zi}(C:Cok T Δ X k N sc)(tl:T.length<rz)(Xp:XCls->Sto->Prop):Cok T (setE Δ Xp) X k N sc:={C with
 call:=λf x h e=>by
  rw[m8 (show f≠1000000 by have:T.length<1000000:=tl;omega)];exact C.call f x h e
 mono:=AR C.mono}
theorem Cok.nox'{k:Nat}{N:List Str}{sc:Zi}(C:Cok T Δ X k N sc):Cok T Δ X.nox k N sc:=⟨C.hN,C.hs,C.nd,C.calm,C.fn,C.un,C.bl,C.rng,C.enm,C.rvs,C.zip,C.sm0,C.st0,C.dc0,C.ty,C.gd,C.ns,C.me,C.call,C.mono⟩
theorem Cok.inTry{k:Nat}{N:List Str}{sc:Zi}(C:Cok T Δ X k N sc)(pins:List (ZY×Obj))(E:XK):Cok T Δ (X.inTry pins E) k N sc:=⟨C.hN,C.hs,C.nd,C.calm,C.fn,C.un,C.bl,C.rng,C.enm,C.rvs,C.zip,C.sm0,C.st0,C.dc0,C.ty,C.gd,C.ns,C.me,C.call,C.mono⟩
theorem Sw{f:Nat}{w:WA}{E:XK}{σ:St}{H:Hp}{Q:VK}{Qs:QE}{as:List ZY}{ρ:EnvS}{S:Sto}(hob:∀ c as H S Q,B.xo as H->Ok X.K as H S->ClsK X.K c->Δ rz [.exc c] S Q->E (.ref c.ad) none H)(m:MonoA w)(mf:MonoN (Δ (tz+f)))
 (ok:Ok X.K as H S) (en:EnvOk X.K as H σ ρ) (xo:B.xo as H) (hq:∀ v S',Qs v S'->Post X.K as H Q v S') (h:wn (wCx Δ f) w ρ S Qs):LJ (spX X.K (Δ (tz+f))) [] E (liftA X.K w) σ H Q:=by
 refine⟨as,ρ,S,ok,en,m _ _ _ _ (λxs S1 q as1 H1 vs g1 ok1 rv=>?_) h⟩;show spX X.K (Δ (tz+f)) (vs++[]) H1 Q E;rw[X0];refine⟨as1,S1,xs,ok1,rv,mf _ _ _ _ (λr S' hr=>?_) q⟩;cases r with
 | tup vs=>
   cases vs with
   | nil=>exact hr.elim
   | cons v vs=>exact(hq v S' hr).mono g1
 | exc c=>exact λas' H' g ok' hc=>hob c as' H' S' _ (B.up (g1.trans g) xo) ok' hc hr
 | _=>exact hr.elim
theorem KU{N:List Str}{sc:Zi}{f:Nat}{x:Str}{y:Expr}{ys:List Expr}{p q pos:Pos}{w:WA}(C:Cok T Δ X N.length N sc)(I:XInt fl nt CT B T Δ X)(hf:f+1<T.length/\T[f]?=some x)(hg:glo sc x=true)(h:GoodA X (y::ys) w)(hy:c8 y=true)(hs:ys.all c8=true):GoodX B X (.Expr (.Call (.Name x p) (y::ys) [] q) pos) (λD ρ S=>wn (wCx Δ f) w ρ S λ_ S1=>D.nx ρ S1):=by
 obtain⟨d,ps,hC,hr⟩:=I.call f x hf.1 hf.2;obtain⟨fa,fd,F,hm,hk,hb⟩:=hC.ex;obtain⟨E,hE,hob,_⟩:=I.ex;unfold glo at hg;simp only[Vo,bQ,W7]at hg;have gl:Gl X x:=by show X.env.scope.names.lookup x=_;rw[C.hs];exact hg.1.1
 refine⟨w6 _ (ID (II F hr gl hm hk hb .nil (UV I.top.ex hE) h.pa hg.2 (g9 hy) (B4 hs)) rfl) ?_,λD D' ρ S l z=>Mono.n (Ix (C.mono _)) h.m _ _ _ _ (λx S1 q=>l.nx _ _ q) z⟩;rintro D σ H ⟨as,ρ,S,ok,en,xo,z⟩;exact Sw (Qs:=λ_ S1=>(DZ X.K as H D).nx ρ S1) hob h.m (C.mono _) ok en xo (λv S' q as' H' v' g ok' r=>q as' H' σ g ok' (en.mono g.pre (g.ku ok))) z
theorem Iy{x:Str}{c:XCls}(n:NsK X.K X.mg)(h:ClsK X.K c/\PySem.W.nsIn X.K Za x=some (some (.ref c.ad))):ExcC X.K X.mg x c.ad:=OX (n.on _ _ h.2) h.1.x
theorem KW{N:List Str}{sc:Zi}{x:Str}{c:XCls}{re:Expr}{np cpos pos:Pos}{e:WE×WT}(C:Cok T Δ X N.length N sc)(I:XInt false nt CT B T Δ X)(hc:(x,c)∈CT)(hg:glo sc x=true)(he:Good X re e)(hs:c8 re=true):GoodX B X (.Raise (some (.Call (.Name x np) [re] [] cpos)) none pos) (λ_ ρ S=>e.1 ρ S λ_ S1=>Δ rz [.exc c] S1 λ_ _=>False):=by
 obtain⟨E,hE,hob,z | ⟨hcat,_⟩⟩:=I.ex
 ·cases z
 have hK:=I.cls _ hc;unfold glo at hg;simp only[Vo,bQ,W7]at hg;have gl:Gl X x:=by show X.env.scope.names.lookup x=_;rw[C.hs];exact hg.1.1
 refine⟨w6 _ (Lv (Iy C.ns hK) I.top.ex C.calm hcat gl he.pe hg.2 (g9 hs) rfl) ?_,λD D' ρ S l h=>h⟩;rintro D σ H ⟨as,ρ,S,ok,en,xo,h⟩;exact⟨as,ρ,S,ok,en,he.m _ _ _ _ (λv S1 q as1 H1 v' g1 ok1 rv=>hob c as1 H1 S1 _ (B.up g1 xo) ok1 hK.1 q) h⟩
noncomputable def V4(K:Vn)(Xp:XCls->Sto->Prop)(E:XK):XB:=⟨λas H=>∀ c as' H' S',Go as H as' H'->Ok K as' H' S'->ClsK K c->Xp c S'->E (.ref c.ad) none H',λg h c as' H' S' g'=>h c as' H' S' (g.trans g')⟩
end
mutual
theorem N3{CT:List (Str×XCls)}{T N:List Str}{sc:Zi}(hk:sc.kind = .function):∀(s:Stm) (r:Stmt) {fl nt:Bool} {B:XB} {Δ:Nat->Sn} {X:Cx},Cok T Δ X N.length N sc->XInt fl nt CT B T Δ X->(fl=true->V0 s=true)->(nt=true->Qb s=true)->V1 CT T N sc s r=true->GoodX B X r (wSt Δ s)
 | .asg t e,r,fl,nt,B,Δ,X,C,I,hfl,hnt,h=>by
   refine GoodS.x ?_;replace h:=c3 h;obtain⟨v,hv,h⟩:=h;replace h:=c3 h;obtain⟨rt,hrt,h⟩:=h;obtain⟨pos,rfl⟩:=Ct hv;simp only[Vo]at h;obtain⟨⟨⟨h1,h2⟩,h3⟩,h4⟩:=h;rw[A0 hrt];exact⟨KS C hk h1 h2 h3 h4,GH (c6 e _ C h2).m⟩
 | .par i j a b,r,fl,nt,B,Δ,X,C,I,hfl,hnt,h=>by
   refine GoodS.x ?_;replace h:=c3 h;obtain⟨v,hv,h⟩:=h;replace h:=c3 h;obtain⟨rt,hrt,h⟩:=h;replace h:=c3 h;obtain⟨ts,hts,h⟩:=h;replace h:=c3 h;obtain⟨nn,hnn,h⟩:=h;replace h:=c3 h;obtain⟨vs,hvs,h⟩:=h;replace h:=c3 h;obtain⟨ab,hab,h⟩:=h;replace h:=c3 h;obtain⟨x,hx',h⟩:=h;replace h:=c3 h;obtain⟨y,hy',h⟩:=h;obtain⟨pos,rfl⟩:=Ct hv;simp only[Vo,dQ,W7]at h;obtain⟨⟨⟨⟨⟨⟨⟨⟨⟨hx,hy⟩,hij⟩,hpar⟩,h1⟩,h2⟩,h3⟩,h4⟩,h5⟩,h6⟩:=h;obtain⟨j1,p1,e1⟩:=Bg hts;obtain⟨j2,p2,e2⟩:=Bg hvs;rw[A0 hrt,e1,CB hnn,e2,CB hab,Bh hx',Bh hy'];have ga:=c6 a _ C h1;have gb:=c6 b _ C h2;have hp2:=hpar;unfold PN at hp2;simp only[Vo,bQ]at hp2;have hke:X.env.scope.kind = .function:=by rw[C.hs];exact hk
   refine⟨w6 _ (R9 (i:=i) (j:=j) C.calm (by rw[C.hN];exact C.nd) (by rw[C.hN];exact hx) (by rw[C.hN];exact hy) hij (by rw[C.hs];exact hp2.1.1.1) (by rw[C.hs];exact hp2.1.1.2) (m7 ga.pe (m7 gb.pe A6 (g9 h4)) (g9 h3)) (Sv hke (by rw[C.hs];exact hpar) h3 h4 h5 h6) N2) (Pc ga.m gb.m),?_⟩;exact λD D' ρ S l h=>ga.m _ _ _ _ (λx S1 q=>gb.m _ _ _ _ (λy S2 q=>l.nx _ _ q) q) h
 | .put o i e,r,fl,nt,B,Δ,X,C,I,hfl,hnt,h=>by
   refine GoodS.x ?_;replace h:=c3 h;obtain⟨v,hv,h⟩:=h;replace h:=c3 h;obtain⟨rt,hrt,h⟩:=h;replace h:=c3 h;obtain⟨oi,hoi,h⟩:=h;obtain⟨pos,rfl⟩:=Ct hv;obtain⟨p2,e2⟩:=F2 hoi;simp only[Vo]at h;rw[A0 hrt,e2];have go:=c6 o _ C h.1.1.1;have gi:=c6 i _ C h.1.1.2;have ge:=c6 e _ C h.1.2;refine⟨w6 _ (L5 ge.pe (R8 go.pe gi.pe LO (Hj h.2)) Sr Su (Qc rfl)) (Pe go.m gi.m ge.m),?_⟩;exact λD D' ρ S l h=>ge.m _ _ _ _ (λv S1 q=>go.m _ _ _ _ (λx S2 q=>gi.m _ _ _ _ (λy S3 q=>Da (λS4 q=>l.nx _ _ q) q) q) q) h
 | .expr e,r,fl,nt,B,Δ,X,C,I,hfl,hnt,h=>by
   refine GoodS.x ?_;replace h:=c3 h;obtain⟨re,hre,h⟩:=h;obtain⟨pos,rfl⟩:=Iv hre;simp only[Vo]at h;have ge:=c6 e _ C h.1
   have hs:A0f re none pos.line X.env=pure false:=by
    have:=h.2;unfold A0f;cases re<;>first | rfl | (unfold DW at this;cases this)
   refine⟨w6 _ (ID ge.pe hs) ?_,λD D' ρ S l h=>ge.m _ _ _ _ (λx S1 q=>l.nx _ _ q) h⟩;rintro D σ H ⟨as,ρ,S,ok,en,h⟩;exact⟨as,ρ,S,ok,en,ge.m _ _ _ _ (λx S1 q as1 H1 v g1 ok1 rv=>q as1 H1 σ g1 ok1 (en.mono g1.pre (g1.ku ok))) h⟩
 | .iff t a b,r,fl,nt,B,Δ,X,C,I,hfl,hnt,h=>by
   replace h:=c3 h;obtain⟨v,hv,h⟩:=h;obtain⟨pos,rfl⟩:=PR hv;simp only[Vo]at h;have gt:=c6 t _ C h.1.1;have fa:fl=true->DY a=true/\DY b=true:=λz=>(Vo _ _).mp (hfl z);have ga:=AN hk a _ C I (λz=>(fa z).1) (λz=>((Vo _ _).mp (hnt z)).1) h.1.2;have gb:=AN hk b _ C I (λz=>(fa z).2) (λz=>((Vo _ _).mp (hnt z)).2) h.2;exact⟨w6 _ (Tp gt.pt ga.ps gb.ps) (Sq gt.mt ga.m gb.m),GJ gt.mt ga.m gb.m⟩
 | .loop g it b,r,fl,nt,B,Δ,X,C,I,hfl,hnt,h=>by
   replace h:=c3 h;obtain⟨v,hv,h⟩:=h;obtain⟨pos,rfl⟩:=PU hv;simp only[Vo,Wp]at h;obtain⟨⟨⟨⟨h1,h2⟩,h3⟩,h4⟩,h5⟩:=h;rw[h5];have gi:=ET it _ _ C h2;cases fl with
   | true=>exact absurd (hfl rfl) (by intro z;cases z)
   | false=>
   obtain⟨_,_,_,z | ⟨_,hp⟩⟩:=id I.ex
   ·cases z
   have gb:=AN hk b _ C I (λz=>nomatch z) hnt h4;refine⟨w6 _ (RB hp C.calm gi.pi (CC C g _ h1) gb.ps (Ao h3)) (Pa gi.m gb.m),?_⟩;exact λD D' ρ S l h=>gi.m _ _ _ _ (λkeep xs S1 q=>Bi gb.m xs l _ _ q) h
 | .whl t b,r,fl,nt,B,Δ,X,C,I,hfl,hnt,h=>by
   replace h:=c3 h;obtain⟨v,hv,h⟩:=h;obtain⟨pos,rfl⟩:=PX hv;simp only[Vo,Wp]at h;rw[h.2];have gt:=c6 t _ C h.1.1;cases fl with
   | true=>exact absurd (hfl rfl) (by intro z;cases z)
   | false=>
   obtain⟨_,_,_,z | ⟨_,hp⟩⟩:=id I.ex
   ·cases z
   have gb:=AN hk b _ C I (λz=>nomatch z) hnt h.1.2;exact⟨w6 _ (LA hp gt.pt gb.ps) (Pb gt.mt gb.m),GI gt.mt gb.m⟩
 | .ret e,r,fl,nt,B,Δ,X,C,I,hfl,hnt,h=>by
   refine GoodS.x ?_;replace h:=c3 h;obtain⟨o,ho,h⟩:=h;replace h:=c3 h;obtain⟨re,hre,h⟩:=h;obtain⟨pos,rfl⟩:=PY ho;rw[hre];have ge:=c6 e _ C h;exact⟨w6 _ (R5 ge.pe) λD σ H ⟨as,ρ,S,ok,en,h⟩=>⟨as,ρ,S,ok,en,h⟩,λD D' ρ S l h=>ge.m _ _ _ _ l.rt h⟩
 | .rse x c e,r,fl,nt,B,Δ,X,C,I,hfl,hnt,h=>by
   cases fl with
   | true=>exact absurd (hfl rfl) (by intro z;cases z)
   | false=>
   replace h:=c3 h;obtain⟨v,hv,h⟩:=h;rw[Vo]at h;obtain⟨h0,h⟩:=h;replace h:=c3 h;obtain⟨w,hw,h⟩:=h;replace h:=c3 h;obtain⟨ra,hra,h⟩:=h;obtain⟨pos,rfl⟩:=PP hv;obtain⟨p,q,e1⟩:=y0 hw;simp only[Vo,dQ]at h;obtain⟨⟨⟨⟨h1,h2⟩,h3⟩,h4⟩,h5⟩:=h;rw[Xm.mp h0,e1,A0 hra,h1];exact KW C I h5 h2 (c6 e _ C h3) h4
 | .exx f es,r,fl,nt,B,Δ,X,C,I,hfl,hnt,h=>by
   replace h:=c3 h;obtain⟨re,hre,h⟩:=h;replace h:=c3 h;obtain⟨v,hv,h⟩:=h;obtain⟨pos,rfl⟩:=Iv hre;obtain⟨p,q,rfl⟩:=y0 hv;simp only[Vo,dQ]at h;obtain⟨⟨⟨h1,h2⟩,h3⟩,h4⟩:=h;obtain⟨y,ys,e⟩:=F9 h4;have st:=B5 h3;have g:=AD es _ C h3;rw[e]at st g ⊢;rw[Ww,Vo]at st;exact KU C I h1 h2 g st.1 st.2
 | .tryx nl i j dn Dc b,r,fl,nt,B,Δ,X,C,I,hfl,hnt,h=>by
   replace h:=c3 h;obtain⟨v,hv,h⟩:=h;obtain⟨pos,rfl⟩:=PV hv;simp only[Vo,Wp]at h;simp only[dQ]at h;obtain⟨⟨⟨⟨⟨h0,h1⟩,h2⟩,h3⟩,h4⟩,h⟩:=h;replace h:=c3 h;obtain⟨hd,hhd,h⟩:=h;replace h:=c3 h;obtain⟨w,hw,h⟩:=h;simp only[Vo,bQ]at h;obtain⟨⟨⟨h5,h6⟩,h7⟩,h⟩:=h;replace h:=c3 h;obtain⟨st,hst,h⟩:=h;replace h:=c3 h;obtain⟨u,hu,h⟩:=h;replace h:=c3 h;obtain⟨rt,hrt,h⟩:=h;replace h:=c3 h;obtain⟨m,hm,h⟩:=h;simp only[Vo,bQ,dQ,W7]at h;obtain⟨⟨⟨⟨⟨⟨⟨g1,g2⟩,g3⟩,g4⟩,g5⟩,g6⟩,g7⟩,g8⟩:=h;obtain⟨p8,hdp,h7⟩:=Xe.mp h7;simp only[Vo,dQ]at h7;obtain⟨h7,h8⟩:=h7;have hK:=I.cls _ hdp;rw[h7]at hK;obtain⟨dnp,e1⟩:=y4 h5;obtain⟨hpos,e2⟩:=Sl hw;obtain⟨mp,e3⟩:=y4 hm;obtain⟨np,e4⟩:=y4 g1;obtain⟨ap,e5⟩:=Ct hu;rw[Sj hhd,e2,e1,Sm hst,e5,A0 hrt,e3,e4,h1,h2];unfold glo at h6;simp only[Vo,bQ,W7]at h6;have gl:Gl X dn:=by show X.env.scope.names.lookup dn=_;rw[C.hs];exact h6.1.1
   have suite:∀(Xp:XCls->Sto->Prop) (pins:List (ZY×Obj)) (E:XK),GoodSs (V4 X.K Xp E) (X.inTry pins E) v.1 (wSs (setE Δ Xp) b):=λXp pins E=>
    AN hk b v.1 (fl:=true) (nt:=false) ((C.setE I.tl Xp).inTry pins E) ⟨I.top.inTry pins E,I.tl,I.cls,⟨E,Fb,λc as H S Q xo ok hc q=>xo c as H S (Go.refl _ _) ok hc (Iw q),.inl rfl⟩,.inl rfl,λf x hf hx=>by
     rw[m8 (show 2000000+f≠1000000 by omega)];exact I.call f x hf hx⟩ (λ_=>h3) (λz=>nomatch z) h4
   refine⟨w6 _ (OY (i:=i) (j:=j) (Dc:=Dc) (ts:=λE D σ H=>∃ Xp,liftX (V4 X.K Xp E) X.K (wSs (setE Δ Xp) b) D σ H) I.top (by rw[<-h8];exact Iy C.ns hK) gl (by rw[C.hN];exact C.nd) (by rw[C.hN];exact g2) (by rw[C.hs];exact g5) (by rw[C.hN];exact g3) (by rw[C.hs];exact g6)
    (λpins E pins' s σ H D IN ⟨Xp,q⟩=>(suite Xp pins E).ps pins' s σ H D IN q) h6.2 g7 g8) ?_,λD D' ρ S l ⟨Xp,q1,q2⟩=>⟨Xp,λc S' z=>⟨(q1 c S' z).1,l.nx _ _ (q1 c S' z).2⟩,(suite Xp [] (λ_ _ _=>False)).m _ _ _ _ l q2⟩⟩
   rintro D σ H ⟨as,ρ,S,ok,en,xo,Xp,q1,q2⟩;refine⟨λCv _ H2=>∃ c as' S',Cv = .ref c.ad/\ClsK X.K c/\Go as H as' H2/\Ok X.K as' H2 S'/\Xp c S',?_,Xp,as,ρ,S,ok,en,λc as' H' S' g ok' hc q=>⟨c,as',S',rfl,hc,g,ok',q⟩,q2⟩;rintro Cv H2 ⟨c,as',S',rfl,hc,g,ok',q⟩;obtain⟨un,q⟩:=q1 c S' q;refine⟨c.ad,rfl,Js hc.x (hc.un _ un),λx hx σ' hσ=>?_⟩;have hj:=(gM g3).1;refine q as' _ _ (g.trans (Go.new hx)) (ok'.new hx) ⟨by rw[Wg,Wg,Wg,Wg,XT,hσ,C.hN,h0],λk y e=>?_⟩;by_cases hkj:j=k
   ·subst hkj;rw[WN (by rw[XT,h0];exact hj)]at e;cases e;exact⟨.ref x,by rw[Wq g4,WN (by rw[Wg,hσ,C.hN];exact hj)],rl_exc.mpr ⟨x,rfl,j3,hc⟩⟩
   ·rw[Wq hkj,XH]at e;split at e<;>cases e
 | .no,r,fl,nt,B,Δ,X,C,I,hfl,hnt,h=>⟨λ_ _ _ _ _ _ h=>let ⟨_,_,_,_,_,_,z⟩:=h;z.elim,λ_ _ _ _ _ h=>h⟩
theorem AN{CT:List (Str×XCls)}{T N:List Str}{sc:Zi}(hk:sc.kind = .function):∀(s:List Stm) (r:List Stmt) {fl nt:Bool} {B:XB} {Δ:Nat->Sn} {X:Cx},Cok T Δ X N.length N sc->XInt fl nt CT B T Δ X->(fl=true->DY s=true)->(nt=true->BU s=true)->Bq CT T N sc s r=true->GoodSs B X r (wSs Δ s)
 | [],r,fl,nt,B,Δ,X,C,I,hfl,hnt,h=>by
   rw[Bq,Wp]at h;subst h;exact Hi
 | s::ss,r,fl,nt,B,Δ,X,C,I,hfl,hnt,h=>by
   rw[Bq]at h;replace h:=c3 h;obtain⟨x,hx,h⟩:=h;rw[Vo]at h;rw[Ad hx];have:=GF (N3 hk s x C I (λz=>((Vo _ _).mp (hfl z)).1) (λz=>((Vo _ _).mp (hnt z)).1) h.1) (AN hk ss _ C I (λz=>((Vo _ _).mp (hfl z)).2) (λz=>((Vo _ _).mp (hnt z)).2) h.2);rw[wSs];exact this
end
mutual
theorem c4{Δ:Nat->Sn}(hΔ:∀ f,MonoN (Δ f)):∀(e:Ex),Mono (wEx Δ e).1/\MonoT (wEx Δ e).2
 | .var i=>⟨.var,.tru .var⟩
 | .c x=>⟨.c,.tru .c⟩
 | .op o a b=>have m:Mono _ := .two (s:=sOp o) Ij (c4 hΔ a).1 (c4 hΔ b).1;⟨m,.tru m⟩
 | .neg a=>have m:Mono _ := .one DR (c4 hΔ a).1;⟨m,.tru m⟩
 | .cmp o a b=>have m:Mono _ := .two (s:=B3 o) AM (c4 hΔ a).1 (c4 hΔ b).1;⟨m,.bl m⟩
 | .chn o p a b c=>have m:=Fl (o:=o) (p:=p) (c4 hΔ a).1 (c4 hΔ b).1 (c4 hΔ c).1;⟨m,.bl m⟩
 | .and a b=>⟨.and (c4 hΔ a).1 (c4 hΔ b).1,.and (c4 hΔ a).2 (c4 hΔ b).2⟩
 | .or a b=>⟨.or (c4 hΔ a).1 (c4 hΔ b).1,.or (c4 hΔ a).2 (c4 hΔ b).2⟩
 | .not a=>⟨.not (c4 hΔ a).1,.not (c4 hΔ a).2⟩
 | .ife t a b=>⟨.ifE (c4 hΔ t).2 (c4 hΔ a).1 (c4 hΔ b).1,λ_ _ _ _ _ h=>h⟩
 | .tup es=>have m:Mono _ := .n .tup (AX hΔ es);⟨m,.tru m⟩
 | .lst es=>have m:Mono _ := .n .lst (AX hΔ es);⟨m,.tru m⟩
 | .ix a b=>have m:Mono _ := .two .ix (c4 hΔ a).1 (c4 hΔ b).1;⟨m,.tru m⟩
 | .slc a lo hi=>have m:Mono _:=(λρ S P P' i h=>(c4 hΔ a).1 _ _ _ _ (λx S1 h=>(j6 hΔ lo).1 _ _ _ _ (λl S2 h=>(j6 hΔ hi).1 _ _ _ _ (λk S3 h=>DS i h) h) h) h:Mono (SD _ _ _));⟨m,.tru m⟩
 | .call f es=>have m:Mono _ := .n (hΔ f) (AX hΔ es);⟨m,.tru m⟩
 | .bi b es=>have m:Mono _ := .n (s:=sBi b) .bi (AX hΔ es);⟨m,.tru m⟩
 | .mt m' a es=>have m:Mono _:=Mono.mt (m:=m') (c4 hΔ a).1 (AX hΔ es);⟨m,.tru m⟩
 | .comp own cn js g it t e=>have m:Mono _:=Mono.cG (k:=own.length) (js:=js) (g:=g) (GK hΔ it) (j6 hΔ t).2 (DV (c4 hΔ e).1) (b0:=[]) (fin:=SG SO.lst) (λ_ _ i _ _=>i _ _);⟨m,.tru m⟩
 | .tyc t=>⟨.c,.tru .c⟩
 | .lrng1 a=>have m:=DT (c4 hΔ a).1;⟨m,.tru m⟩
 | .lrng2 a b=>have m:=DU (c4 hΔ a).1 (c4 hΔ b).1;⟨m,.tru m⟩
 | .dnewp=>⟨C0,.tru C0⟩
 | .setd d e v=>have m:=EQ (c4 hΔ d).1 (c4 hΔ e).1 (c4 hΔ v).1;⟨m,.tru m⟩
 | .mind a d=>have m:=EO (c4 hΔ a).1 (c4 hΔ d).1;⟨m,.tru m⟩
 | .srtk x lp j y cn js a e=>have m:=EN (c4 hΔ a).1;⟨m,.tru m⟩
 | .isx a x=>have m:=Fs (x:=x) (c4 hΔ a).1;⟨m,.tru m⟩
 | .isv a=>have m:=Ft (c4 hΔ a).1;⟨m,.tru m⟩
 | .srtset a=>have m:=Cg (c4 hΔ a).1;⟨m,.tru m⟩
 | .setl a=>have m:=EM (c4 hΔ a).1;⟨m,.tru m⟩
 | .no=>⟨λ_ _ _ _ _ h=>h,λ_ _ _ _ _ h=>h⟩
theorem AX{Δ:Nat->Sn}(hΔ:∀ f,MonoN (Δ f)):∀(es:Exs),MonoA (F0 Δ es)
 | .nil => .nil
 | .cons e es => .cons (c4 hΔ e).1 (AX hΔ es)
theorem j6{Δ:Nat->Sn}(hΔ:∀ f,MonoN (Δ f)):∀(o:Eo),MonoO (wEo Δ o).1/\MonoT (wEo Δ o).2
 | .no=>⟨.no,λ_ _ _ _ i q=>i _ _ q⟩
 | .yes e=>⟨.yes (c4 hΔ e).1,(c4 hΔ e).2⟩
theorem GK{Δ:Nat->Sn}(hΔ:∀ f,MonoN (Δ f)):∀(it:Itb),MonoI (Oy Δ it)
 | .seq e=>λρ S P P' i h=>(c4 hΔ e).1 _ _ _ _ (λx S1 ⟨xs,e,q⟩=>⟨xs,e,i _ _ _ q⟩) h
 | .rng1 a=>λρ S P P' i h=>(c4 hΔ a).1 _ _ _ _ (λx S1 ⟨j,e,z,q⟩=>⟨j,e,z,i _ _ _ q⟩) h
 | .rng2 a b=>λρ S P P' i h=>(c4 hΔ a).1 _ _ _ _ (λx S1 h=>(c4 hΔ b).1 _ _ _ _ (λy S2 ⟨l,j,e,e2,z,q⟩=>⟨l,j,e,e2,z,i _ _ _ q⟩) h) h
 | .enum e=>λρ S P P' i h=>(c4 hΔ e).1 _ _ _ _ (λx S1 ⟨xs,e,q⟩=>⟨xs,e,i _ _ _ q⟩) h
end
mutual
theorem N4:∀(s:Stm) {Δ:Nat->Sn} (hΔ:∀ f,MonoN (Δ f)),MonoS (wSt Δ s)
 | .asg t e,Δ,hΔ=>by exact GH (c4 hΔ e).1
 | .par i j a b,Δ,hΔ=>by exact λD D' ρ S l h=>(c4 hΔ a).1 _ _ _ _ (λx S1 q=>(c4 hΔ b).1 _ _ _ _ (λy S2 q=>l.nx _ _ q) q) h
 | .put o i e,Δ,hΔ=>by exact λD D' ρ S l h=>(c4 hΔ e).1 _ _ _ _ (λv S1 q=>(c4 hΔ o).1 _ _ _ _ (λx S2 q=>(c4 hΔ i).1 _ _ _ _ (λy S3 q=>Da (λS4 q=>l.nx _ _ q) q) q) q) h
 | .expr e,Δ,hΔ=>by exact λD D' ρ S l h=>(c4 hΔ e).1 _ _ _ _ (λx S1 q=>l.nx _ _ q) h
 | .iff t a b,Δ,hΔ=>by exact GJ (c4 hΔ t).2 (AY a hΔ) (AY b hΔ)
 | .loop g it b,Δ,hΔ=>by exact λD D' ρ S l h=>GK hΔ it _ _ _ _ (λkeep xs S1 q=>Bi (AY b hΔ) xs l _ _ q) h
 | .rse x c e,Δ,hΔ=>by exact λD D' ρ S l h=>h
 | .exx f es,Δ,hΔ=>by exact λD D' ρ S l z=>Mono.n (Ix (hΔ _)) (AX hΔ es) _ _ _ _ (λx S1 q=>l.nx _ _ q) z
 | .tryx n i j dn Dc b,Δ,hΔ=>by exact λD D' ρ S l ⟨Xp,q1,q2⟩=>⟨Xp,λc S' z=>⟨(q1 c S' z).1,l.nx _ _ (q1 c S' z).2⟩,AY b (AR hΔ) _ _ _ _ l q2⟩
 | .whl t b,Δ,hΔ=>by exact GI (c4 hΔ t).2 (AY b hΔ)
 | .ret e,Δ,hΔ=>by exact λD D' ρ S l h=>(c4 hΔ e).1 _ _ _ _ l.rt h
 | .no,Δ,hΔ=>by exact λD D' ρ S l h=>h
theorem AY:∀(s:List Stm) {Δ:Nat->Sn} (hΔ:∀ f,MonoN (Δ f)),MonoS (wSs Δ s)
 | [],Δ,hΔ=>by exact λD D' ρ S l h=>l.nx _ _ h
 | s::ss,Δ,hΔ=>by exact λD D' ρ S l h=>(N4 s hΔ).go (D:={D with nx:=wSs Δ ss D}) h ⟨λρ' S' q=>(AY ss hΔ) _ _ _ _ l q,l.rt,l.bk,l.ct⟩
end
theorem l9{Δ:Nat->Sn}(hΔ:∀ f,MonoN (Δ f))(s:List Stm):MonoS (wSs Δ s):=AY s hΔ
theorem KY{P:List ZW->Prop}{n:Nat}(h:∀ a us,us.length=n->P (a::us)):∀ us:List ZW,us.length=n+1->P us
 | a::us,e=>h a us (Nat.succ.inj e)
theorem Hk{P:List ZW->Prop}(h:∀ a,P [a]):∀ us:List ZW,us.length=1->P us:=KY λa us e=>YH.mp e▸h a
theorem B6{P:List ZW->Prop}(h:∀ a b,P [a,b]):∀ us:List ZW,us.length=2->P us:=KY λa=>Hk (P:=λus=>P (a::us)) (h a)
theorem N5{P:List ZW->Prop}(h:∀ a b c,P [a,b,c]):∀ us:List ZW,us.length=3->P us:=KY λa=>B6 (P:=λus=>P (a::us)) (h a)
theorem Sy{P:List ZW->Prop}(h:∀ a b c d,P [a,b,c,d]):∀ us:List ZW,us.length=4->P us:=KY λa=>N5 (P:=λus=>P (a::us)) (h a)
theorem KZ{P:List ZW->Prop}(h:∀ a b c d e,P [a,b,c,d,e]):∀ us:List ZW,us.length=5->P us:=KY λa=>Sy (P:=λus=>P (a::us)) (h a)
structure Df where
 name:Str
 st:Stmt
 ps:List Str
 N:List Str
 body:List Stm
noncomputable def m6(Q:QE):EndsS:=⟨λ_ S'=>Q .non S',Q,λ_ _=>False,λ_ _=>False⟩
noncomputable def N6(n:Nat)(xs:List SV):EnvS:=xs.map some++WL (n - xs.length) none
noncomputable def i4(Δ:Nat->Sn)(D:Df):Sn:=λxs S Q=>xs.length=D.ps.length/\wSs Δ D.body (m6 Q) (N6 D.N.length xs) S
noncomputable def BV(Δ:Nat->Sn)(D:Df):Sn:=λxs S Q=>BU D.body=true/\∃(Xp:XCls->Sto->Prop) (QQ:QE),(∀ c S',Xp c S'->Q (.exc c) S')/\(∀ v S',QQ v S'->Q (.tup [v]) S')/\i4 (setE Δ Xp) D xs S QQ
noncomputable def W(prog:List Df):Nat->Nat->Sn
 | 0,_=>λ_ _ _=>False
 | d+1,f=>match prog[f]? with
   | some D=>i4 (W prog d) D
   | none=>match prog[f - tz]? with
     | some D=>λxs S Q=>tz<=f/\BV (W prog d) D xs S Q
     | none=>λ_ _ _=>False
theorem N7{Δ:Nat->Sn}(hΔ:∀ f,MonoN (Δ f))(D:Df):MonoN (i4 Δ D):=λxs S P P' i h=>⟨h.1,(l9 hΔ D.body).go h.2 ⟨λ_ _ q=>i _ _ q,i,λ_ _ q=>q,λ_ _ q=>q⟩⟩
theorem Ka{Δ:Nat->Sn}(D:Df):MonoN (BV Δ D):=λxs S P P' i ⟨nt,Xp,QQ,h1,h2,h⟩=>⟨nt,Xp,QQ,λc S' q=>i _ _ (h1 c S' q),λv S' q=>i _ _ (h2 v S' q),h⟩
theorem Cb{prog:List Df}:∀(d f:Nat),MonoN (W prog d f)
 | 0,f=>λ_ _ _ _ _ h=>h
 | d+1,f=>by
   unfold W;cases prog[f]? with
   | some D=>exact N7 (Cb d) _
   | none=>
     cases prog[f - tz]? with
     | some D=>exact λxs S P P' i h=>⟨h.1,Ka _ xs S P P' i h.2⟩
     | none=>exact λ_ _ _ _ _ h=>h
theorem V5{prog:List Df}(hl:prog.length<1000000):∀(d:Nat) (c:XCls) (S:Sto) (Q:QE),¬ W prog d rz [.exc c] S Q
 | 0,_,_,_=>λh=>h
 | d+1,c,S,Q=>by
   unfold W;rw[Wk (show prog.length<=rz from XO hl)];intro h;dsimp only at h;cases e:prog[rz - tz]? with
   | some D=>rw[e]at h;exact absurd h.1 (by decide)
   | none=>rw[e]at h;exact h
theorem V6{prog:List Df}(hl:prog.length<1000000){d f:Nat}{D:Df}(hf:prog[f]?=some D):W prog (d+1) (tz+f)=λxs S Q=>tz<=tz+f/\BV (W prog d) D xs S Q:=by
 unfold W;rw[Wk (show prog.length<=2000000+f by omega)];dsimp only;rw[Nat.add_sub_cancel_left,hf]
noncomputable def fnB(N ps:List Str)(sc:Zi):Bool:=decide (sc.kind = .function)&&!sc.isCoroutine&&!sc.isGenerator&&decide N.Nodup&&decide (N.take ps.length=ps)&&ps.all (loc sc)&&sc.names.all (λy=>!decide (y.2 = .free))
theorem N8{N ps:List Str}{sc:Zi}(h:fnB N ps sc=true):FnScope N ps sc:=by
 unfold fnB at h;simp only[Vo,dQ,W7,W9,decide_eq_false_iff_not]at h;obtain⟨⟨⟨⟨⟨⟨h1,h2⟩,h3⟩,h4⟩,h5⟩,h6⟩,h7⟩:=h;refine⟨h1,h2,h3,h4,h5,λx hx=>?_,h7⟩;have:=h6 x hx;unfold loc at this;simpa using this
noncomputable def EU(CT:List (Str×XCls))(T:List Str)(D:Df):Bool:=fnB D.N D.ps (defScope D.st)&&Bq CT (T++[D.name]) D.N (defScope D.st) D.body (defBody D.st)
structure Bl(K:Vn)(mg:Str->Option ZW):Prop where
 ns:NsK K mg
 bl:∀ b:BI,mg b.name=none
 rng:mg "range"=none
 enm:mg "enumerate"=none
 rvs:mg "reversed"=none
 zip:mg "zip"=none
 sm0:mg "sum"=none
 st0:mg "set"=none
 dc0:mg "dict"=none
 ty:∀ t:TyN,t ≠ .none->mg (Str.ofString t.nm)=none
section
variable{P:Zd}{w:Zf}{K:Vn}{mg:Str->Option ZW}{base:Heap}
theorem EV{as:List ZY}{H:Hp}{N:List Str}{vs:List V}{xs:List SV}(r:RlAll K as H vs xs):EnvOk K as H (L2.start N vs) (N6 N.length xs):=by
 unfold L2.start N6;rw[<-r.length];refine⟨by simp[r.length],λi x e=>?_⟩;by_cases hi:i<vs.length
 ·rw[W6 (by rw[Vp,<-r.length];exact hi),Vx]at e;rw[W6 (by simpa using hi),Vx];cases hx:xs[i]? with
  | none=>rw[hx]at e;cases e
  | some y=>
    rw[hx]at e;have:y=x:=by simpa using e
    subst this;obtain⟨v,hv,rv⟩:=r.get hx;exact⟨v,by rw[hv];rfl,rv⟩
 ·rw[We (by rw[Vp,<-r.length];omega),XH]at e;split at e<;>cases e
structure XD(P:Zd)(w:Zf)(K:Vn)(mg:Str->Option ZW)(base:Heap)(k:Nat)(CT:List (Str×XCls))(T:List Str)(Δ:Nat->Sn):Prop where
 tl:T.length+1<1000000
 cls:∀ p∈CT,ClsK K p.2/\PySem.W.nsIn K Za p.1=some (some (.ref p.2.ad))
 rz0:∀ c S Q,¬ Δ rz [.exc c] S Q
 call:∀ f x,T[f]?=some x->∃ ps,CalleeE P w K mg base k x ps (spX K (Δ (tz+f)))
theorem Iz{T:List Str}{Δ:Nat->Sn}{D:Df}{f:ZY}{cdv:ZW}{k:Nat}{A:Zj}{outer:List Env}{s:ZX}{H:Hp}{E:XK}{CX:CXT}{fd:A00}(hfd:fd.code=cdv)(S:FnScope D.N D.ps (defScope D.st))(hr:Room k (A.deeper (PyProof.Rows.envOfC D.name (defScope D.st) s.heap.objs.size f cdv)))
 (hme:∀ c P,TabK K D.name c P->fd.code = .ref c) (B:Bl K mg) (hcall:∀ f x,T[f]?=some x->∃ ps,Cal P w K mg base k x ps (spS K (Δ f))) (hΔ:∀ f,MonoN (Δ f)):Cok (T++[D.name]) Δ (Do CX P w K mg base D.N D.name (defScope D.st) f cdv A outer s H E) D.N.length D.N (defScope D.st) where
 hN:=rfl
 hs:=rfl
 nd:=S.nd
 calm:=rfl
 fn:=λ_ _ _ _ _=>rfl
 un:=by have:=hr.un;show(A.deeper _).units+102<cLine;omega
 bl:=B.bl
 rng:=B.rng
 enm:=B.enm
 rvs:=B.rvs
 zip:=B.zip
 sm0:=B.sm0
 st0:=B.st0
 dc0:=B.dc0
 ty:=B.ty
 gd:=hr.gd
 ns:=B.ns
 me:=λx hx=>by
  have e:D.name=x:=by simpa using hx
  subst e;exact⟨rfl,λc P h=>hfd▸hme c P h,by have:=hr.dp;show(A.deeper _).depth+2<A0c;omega,by have:=hr.un;show(A.deeper _).units+110<cLine;omega⟩
 call:=λg x hl hx=>let ⟨ps,c⟩:=hcall g x (by rwa [W6 (by rw[Vs]at hl;exact Xv hl)]at hx);⟨k,ps,c,hr⟩
 mono:=hΔ
theorem J1{CT:List (Str×XCls)}{T:List Str}{Δ:Nat->Sn}{D:Df}{f:ZY}{fd:A00}{k:Nat}(F:Fun K D.name D.name D.st f fd)(hme:∀ c P,TabK K D.name c P->fd.code = .ref c)(hc:EU CT T D=true)(B:Bl K mg)(V:XD P w K mg base k CT T Δ)(hcall:∀ f x,T[f]?=some x->∃ ps,Cal P w K mg base k x ps (spS K (Δ f)))(hΔ:∀ f,MonoN (Δ f)):FnOk P w K mg base CX0 (k+1) f fd D.ps (spS K (i4 Δ D)):=by
 unfold EU at hc;rw[Vo]at hc;have S:=N8 hc.1;obtain⟨oc,od,kV,doc,pm,an,cdv,ct,osl,rfl,lk,hcd⟩:=F.ex;refine QF lk hcd S (λvs H Q E h=>?_) (λA outer s H vs Q E hr h=>?_)
 ·obtain⟨as,S,xs,ok,r,hl,_⟩:=h;rw[r.length];exact hl
 ·have C:=(Iz (CX:=CX0) (outer:=outer) (s:=s) (H:=H) (E:=E) (cdv:=cdv) rfl S hr hme B hcall hΔ).nox'
  have I:XInt false false CT ⟨λ_ _=>True,λ_ _=>trivial⟩ (T++[D.name]) Δ (Do CX0 P w K mg base D.N D.name (defScope D.st) f cdv A outer s H E).nox:=⟨⟨rfl,rfl,rfl,λ_=>rfl⟩,by rw[Vs];exact V.tl,V.cls,
   ⟨λ_ _ _=>False,λ_ _ _ _ _ _ _ _ _ _ z=>z,λc as H S Q _ _ _ q=>(V.rz0 c S Q q).elim,.inr ⟨λ_ _ _ _ _ _ _ _ z=>z,.never⟩⟩,.inr (.inr λ_ _ z=>z),
   λg x hl hx=>let ⟨ps,c⟩:=V.call g x (by rwa [W6 (by rw[Vs]at hl;exact Xv hl)]at hx);⟨k,ps,c,hr⟩⟩
  refine⟨_,((AN S.kind D.body _ C I (λz=>nomatch z) (λz=>nomatch z) hc.2).ps).nox,?_⟩;obtain⟨as,S,xs,ok,r,hl,h⟩:=h;refine⟨as,_,S,ok,EV r,trivial,(l9 hΔ D.body).go h ⟨λρ' S' q as' H' σ' g ok' en'=>q as' H' _ g ok' (rl_non.mpr rfl),λx S' q=>q,λ_ _ q=>q.elim,λ_ _ q=>q.elim⟩⟩
theorem Pi{CT:List (Str×XCls)}{T:List Str}{Δ:Nat->Sn}{D:Df}{f:ZY}{fd:A00}{k:Nat}(F:Fun K D.name D.name D.st f fd)(hme:∀ c P,TabK K D.name c P->fd.code = .ref c)(hc:EU CT T D=true)(B:Bl K mg)(V:XD P w K mg base k CT T Δ)(hcall:∀ f x,T[f]?=some x->∃ ps,Cal P w K mg base k x ps (spS K (Δ f)))(hΔ:∀ f,MonoN (Δ f)):FnOk P w K mg base (CXE P w) (k+1) f fd D.ps (spX K (BV Δ D)):=by
 unfold EU at hc;rw[Vo]at hc;have S:=N8 hc.1;obtain⟨oc,od,kV,doc,pm,an,cdv,ct,osl,rfl,lk,hcd⟩:=F.ex;refine QF lk hcd S (λvs H Q E h=>?_) (λA outer s H vs Q E hr h=>?_)
 ·obtain⟨as,S,xs,ok,r,_,Xp,QQ,_,_,hl,_⟩:=h;rw[r.length];exact hl
 ·obtain⟨as,S0,xs,ok,r,hnt,Xp,QQ,h1,h2,hl,h⟩:=h;have tl:(T++[D.name]).length<rz:=by rw[Vs];exact V.tl
  have C:=(Iz (CX:=CXE P w) (outer:=outer) (s:=s) (H:=H) (E:=E) (cdv:=cdv) rfl S hr hme B hcall hΔ).setE tl Xp
  have I:XInt false true CT ⟨λas' H'=>Go as H as' H',λg h=>h.trans g⟩ (T++[D.name]) (setE Δ Xp) (Do (CXE P w) P w K mg base D.N D.name (defScope D.st) f cdv A outer s H E):=⟨⟨rfl,rfl,rfl,λ_=>rfl⟩,tl,V.cls,
   ⟨E,catch_fn.t,λc as' H' S' Q' g ok' hc q=>h1 c S' (Iw q) as' H' g ok' hc,.inr ⟨catch_fn,.leaving⟩⟩,.inr (.inl rfl),
   λg x hl hx=>let ⟨ps,c⟩:=V.call g x (by rwa [W6 (by rw[Vs]at hl;exact Xv hl)]at hx);⟨k,ps,by rw[m8 (show 2000000+g≠1000000 by omega)];exact c,hr⟩⟩
  refine⟨_,(AN S.kind D.body _ C I (λz=>nomatch z) (λ_=>hnt) hc.2).ps,?_⟩;exact⟨as,_,S0,ok,EV r,Go.refl _ _,(l9 (AR hΔ) D.body).go h ⟨λρ' S' q as' H' σ' g ok' en'=>h2 _ _ q as' H' _ g ok' (rl_non.mpr rfl),λx S' q=>h2 _ _ q,λ_ _ q=>q.elim,λ_ _ q=>q.elim⟩⟩
theorem J2{x:Str}{f:ZY}{od:Option ZY}{sl:Array (Option ZW)}{oc:ZW}{fd:A00}(a:PySem.W.nsIn K Za x=some (some (.ref f)))(l:K.lookup f=some ⟨oc,od,.func fd,sl⟩):∀ c P,TabK K x c P->fd.code = .ref c:=by
 rintro c P ⟨h,_⟩;unfold PySem.W.tabIn at h;simp only[a,l]at h;split at h
 ·rename_i c2 e;split at h
  ·split at h
   ·cases h;exact e
   ·cases h
  ·cases h
 ·cases h
structure PIn(K:Vn)(mg:Str->Option ZW)(D:Df):Prop where
 ex:∃ f fd,Fun K D.name D.name D.st f fd/\(∀ c P,TabK K D.name c P->fd.code = .ref c)/\mg D.name=some (.ref f)/\PySem.W.keepIn K (.ref f)=true/\Binds K fd D.ps []
theorem Db{CT:List (Str×XCls)}{prog:List Df}(hc:prog.all (EU CT (prog.map (·.name)))=true)(B:Bl K mg)(hL:prog.length+1<1000000)(hcl:∀ p∈CT,ClsK K p.2/\PySem.W.nsIn K Za p.1=some (some (.ref p.2.ad)))(hin:∀ D∈prog,PIn K mg D):∀(d f:Nat) (D:Df),prog[f]?=some D->Cal P w K mg base d D.name D.ps (spS K (W prog d f))/\CalleeE P w K mg base d D.name D.ps (spX K (W prog d (tz+f)))
 | 0,f,D,hf=>by
   obtain⟨fa,fd,F,hme,hm,hk,hb⟩:=(hin D (Vv hf)).ex;refine⟨⟨fa,fd,⟨λvs H Q E h=>?_,λA outer s H args us vs Q E hr he hbn hv h=>?_⟩,hm,hk,hb⟩,⟨fa,fd,⟨λvs H Q E h=>?_,λA outer s H args us vs Q E hr he hbn hv h=>?_⟩,hm,hk,hb⟩⟩<;>(obtain⟨_,_,_,_,_,z⟩:=h;exact z.elim)
 | d+1,f,D,hf=>by
   obtain⟨fa,fd,F,hme,hm,hk,hb⟩:=(hin D (Vv hf)).ex;have h1:=W9.mp hc D (Vv hf);have ih:=Db hc B hL hcl hin d
   have at_:∀(g:Nat) (x:Str),(prog.map (·.name))[g]?=some x->∃ D',prog[g]?=some D'/\D'.name=x:=λg x hx=>by
    rw[Vx]at hx;exact WZ.mp hx
   have V:XD P w K mg base d CT (prog.map (·.name)) (W prog d):=⟨by rw[Vp];exact hL,hcl,V5 (Y9 hL) d,λg x hx=>by
    obtain⟨D',hg,rfl⟩:=at_ g x hx;exact⟨D'.ps,(ih g D' hg).2⟩⟩
   have V2:∀(g:Nat) (x:Str),(prog.map (·.name))[g]?=some x->∃ ps,Cal P w K mg base d x ps (spS K (W prog d g)):=λg x hx=>by
    obtain⟨D',hg,rfl⟩:=at_ g x hx;exact⟨D'.ps,(ih g D' hg).1⟩
   have e:W prog (d+1) f=i4 (W prog d) D:=by rw[W,hf]
   rw[e,V6 (Y9 hL) hf];exact⟨⟨fa,fd,J1 F hme h1 B V V2 (Cb d),hm,hk,hb⟩,⟨fa,fd,(Pi F hme h1 B V V2 (Cb d)).imp λvs H Q E ⟨as,S,xs,ok,r,q⟩=>⟨as,S,xs,ok,r,q.2⟩,hm,hk,hb⟩⟩
theorem Pj{prog:List Df}{d f:Nat}{H:Hp}{a:ZY}{ns:List Int}{ts:List ZY}{tl:List (Str×Pos)}(main:W prog d f [.ro (ns.map SV.int)] (tl.map λp => .tbl p.1 p.2) λx _=>x = .bl true)(nd:ts.Nodup)(hl:ts.length=tl.length)(hk:∀(i:Nat) P p,ts[i]?=some P->tl[i]?=some p->∃ c,TabK K p.1 c P)(hO:IY ts H)(hS:SqL K H a (ns.map V.int)):spS K (W prog d f) [.ref a] H (λv _=>v = .bl true) λ_ _ _=>False:=by
 have hz:FzL K H a (ns.map V.int):=by
  rcases hS with(h | ⟨o,h⟩) | h
  ·rcases hO.2 a with z | ⟨o,xs,z⟩ | z
   ·rw[h]at z;cases z
   ·rw[h]at z;cases z
   ·have z:=hO.1 a z;rw[h]at z;cases z
  ·exact .inl ⟨o,h⟩
  ·exact .inr h
 refine⟨ts,_,_,⟨by rw[Vp,hl],nd,λi o P e eP=>?_⟩,.cons (rl_ro.mpr ⟨a,_,rfl,hz,RlAll.ints⟩) .nil,Cb d f _ _ _ _ (λx S' e as' H' v g ok r=>?_) main⟩
 ·rw[Vx]at e;obtain⟨p,e1,e2⟩:=WZ.mp e;obtain⟨c,hc⟩:=hk i P p eP e1;rw[<-e2];exact⟨c,#[],hO.1 P (Vv eP),hc,trivial,.inl rfl⟩
 ·subst e;exact rl_bl.mp r
end
theorem c5{k:Nat}{S:Sto}{xs:List SV}(h:S[k]?=some (.lst xs)):seqS (.loc k) S=some xs:=by simp only[seqS,h]
theorem GL{k:Nat}{S:Sto}{ms:List Int}(h:S[k]?=some (.iset ms)):BG (.loc k) S=some ms:=by simp only[BG,h]
theorem Dd{k:Nat}{S:Sto}{xs:List SV}(h:S[k]?=some (.lst xs)):BG (.loc k) S=none:=by simp only[BG,h]
theorem FA{k:Nat}{S:Sto}{xs:List SV}(h:S[k]?=some (.lst xs)):tyS (.loc k) S=some .list:=by simp only[tyS,h]
theorem ifT{b:Bool}{A B:Prop}(h:b=true)(a:A):if b=true then A else B:=by rw[iP h];exact a
theorem ifF{b:Bool}{A B:Prop}(h:b=false)(a:B):if b=true then A else B:=by rw[iG (by rw[h];decide)];exact a
theorem ifD{c A B:Prop}[Decidable c](h1:c->A)(h2:¬ c->B):if decide c=true then A else B:=by
 by_cases h:c
 ·rw[iP (decide_eq_true h)];exact h1 h
 ·rw[iG (by simpa using h)];exact h2 h
theorem ifB{b:Bool}{A B:Prop}(h1:b=true->A)(h2:b=false->B):if b=true then A else B:=by
 cases b with
 | true=>rw[iP rfl];exact h1 rfl
 | false=>rw[iG (by decide)];exact h2 rfl
theorem BB{S:Sto}{k:Nat}{o u:SO}(h:S[k]?=some o):(S.set k u)[k]?=some u:=WN ((gM h).1)
theorem BJ{S:Sto}{k j:Nat}{u:SO}(h:k≠j):(S.set k u)[j]?=S[j]?:=Wq h
theorem c7{S:Sto}{o:SO}:(S++[o])[S.length]?=some o:=WW
theorem f9{S:Sto}{o u:SO}{k:Nat}(h:S[k]?=some u):(S++[o])[k]?=some u:=by
 rw[W6 ((gM h).1)];exact h
theorem J3{S:Sto}{o:SO}{k:Nat}(h:S[k]?=some o):k<S.length:=(gM h).1
structure TapeS(S:Sto)(t:Nat):Prop where
 ex:∃ a b:Int,S[t]?=some (.lst [.int a,.int b])/\0<=a/\0<=b/\b<2147483647
structure On(t:Nat)(S S':Sto):Prop where
 len:S.length<=S'.length
 keep:∀ k o,k≠t->S[k]?=some o->S'[k]?=some o
theorem On.refl(t:Nat)(S:Sto):On t S S:=⟨W0 _,λ_ _ _ h=>h⟩
theorem On.trans{t:Nat}{S S' S'':Sto}(a:On t S S')(b:On t S' S''):On t S S'':=⟨Wd a.len b.len,λk o n h=>b.keep k o n (a.keep k o n h)⟩
theorem On.push{t:Nat}{S S':Sto}{o:SO}(a:On t S S'):On t S (S'++[o]):=⟨by rw[Vs];have:=a.len;omega,λk u n h=>f9 (a.keep k u n h)⟩
theorem On.tape{t:Nat}{S S':Sto}{o:SO}(a:On t S S'):On t S (S'.set t o):=⟨by rw[Wg];exact a.len,λk u n h=>by rw[BJ (Ne.symm n)];exact a.keep k u n h⟩
theorem On.new{t k:Nat}{S S':Sto}{o:SO}(a:On t S S')(h:S.length<=k):On t S (S'.set k o):=⟨by rw[Wg];exact a.len,λj u n hj=>by
 rw[BJ (λz=>by have:=J3 hj;omega)];exact a.keep j u n hj⟩
theorem TapeS.push{S:Sto}{t:Nat}{o:SO}(h:TapeS S t):TapeS (S++[o]) t:=let ⟨a,b,e,z⟩:=h.ex;⟨a,b,f9 e,z⟩
theorem TapeS.other{S:Sto}{t k:Nat}{o:SO}(h:TapeS S t)(n:k≠t):TapeS (S.set k o) t:=let ⟨a,b,e,z⟩:=h.ex;⟨a,b,by rw[BJ n];exact e,z⟩
theorem TapeS.lt{S:Sto}{t:Nat}(h:TapeS S t):t<S.length:=let ⟨_,_,e,_⟩:=h.ex;J3 e
theorem AB{keep:Sto->Prop}{g:Tg}{b:WS}{D:EndsS}(mb:MonoS b)(I:Nat->EnvS->Sto->Prop){xs:List SV}{ρ:EnvS}{S:Sto}(h0:I 0 ρ S)(hk:∀ i ρ S,I i ρ S->keep S)
 (hs:∀ i x ρ S,xs[i]?=some x->I i ρ S->wTg g x ρ λρ2=>b {D with nx:=I (i+1),ct:=I (i+1),bk:=D.nx} ρ2 S) (hd:∀ ρ S,I xs.length ρ S->D.nx ρ S):v8 keep g b D xs ρ S:=by
 have go:∀(ys:List SV) (i:Nat) (ρ:EnvS) (S:Sto),xs.drop i=ys->i<=xs.length->I i ρ S->v8 keep g b D ys ρ S:=by
  intro ys
  induction ys with
  | nil=>
    intro i ρ S e hi h
    have:i=xs.length:=by
     have:=congrArg YV e;rw[Xd,XW]at this;omega
    subst this;unfold v8;exact⟨hk _ _ _ h,hd _ _ h⟩
  | cons y ys ih=>
    intro i ρ S e hi h
    have hy:xs[i]?=some y:=by
     rw[<-ZC,e];rfl
    have hlt:=(gM hy).1;have e2:xs.drop (i+1)=ys:=by rw[<-ZK,e];rfl
    unfold v8;refine⟨hk _ _ _ h,AA g (λρ2 q=>?_) (hs i y ρ S hy h)⟩;exact mb.go (D:={D with nx:=I (i+1),ct:=I (i+1),bk:=D.nx}) q ⟨λρ' S' z=>ih (i+1) ρ' S' e2 hlt z,λ_ _ z=>z,λ_ _ z=>z,λρ' S' z=>ih (i+1) ρ' S' e2 hlt z⟩
 exact go xs 0 ρ S rfl (XG _) h0
theorem AI{keep:Sto->Prop}{g:Tg}{b:WS}{D:EndsS}(mb:MonoS b)(I:Nat->EnvS->Sto->Prop){xs:List SV}{ρ:EnvS}{S:Sto}(h0:I 0 ρ S)(hk:∀ i ρ S,I i ρ S->keep S)
 (hs:∀ i x ρ S (E:EndsS),(∀ ρ S,I (i+1) ρ S->E.nx ρ S)->(∀ y S,D.rt y S->E.rt y S)->xs[i]?=some x->I i ρ S->wTg g x ρ λρ2=>b E ρ2 S) (hd:∀ ρ S,I xs.length ρ S->D.nx ρ S):v8 keep g b D xs ρ S:=
 AB mb I h0 hk (λi x ρ S hx hI=>hs i x ρ S {D with nx:=I (i+1),ct:=I (i+1),bk:=D.nx} (λ_ _ h=>h) (λ_ _ h=>h) hx hI) hd
theorem Hl{β:Type}{keep:Sto->Prop}{g:Tg}{t:WT}{em:WM β}{ρ:EnvS}{Q:β->Sto->Prop}(mt:MonoT t)(me:GB em)(I:Nat->β->Sto->Prop){xs:List SV}{a:β}{S:Sto}(h0:I 0 a S)(hk:∀ i ys S,I i ys S->keep S)
 (hs:∀ i x ys S,xs[i]?=some x->I i ys S->wTg g x ρ λρ2=>t ρ2 S λb S1=>if b=true then em ρ2 ys S1 (I (i+1)) else I (i+1) ys S1) (hd:∀ ys S,I xs.length ys S->Q ys S):wTG keep g t em ρ Q xs a S:=by
 have go:∀(zs:List SV) (i:Nat) (ys:β) (S:Sto),xs.drop i=zs->i<=xs.length->I i ys S->wTG keep g t em ρ Q zs ys S:=by
  intro zs
  induction zs with
  | nil=>
    intro i ys S e' hi h;obtain rfl:i=xs.length:=Nat.le_antisymm hi (List.drop_eq_nil_iff.mp e');exact⟨hk _ _ _ h,hd _ _ h⟩
  | cons y zs ih=>
    intro i ys S e' hi h;have hy:xs[i]?=some y:=by rw[<-ZC,e'];rfl
    have hlt:=(gM hy).1;have e2:xs.drop (i+1)=zs:=by rw[<-ZK,e'];rfl
    exact⟨hk _ _ _ h,AA g (λρ2 q=>mt _ _ _ _ (λb S1 q=>n4 (λq=>me _ _ _ _ _ (λv S2 q=>ih (i+1) _ S2 e2 hlt q) q) (λq=>ih (i+1) _ S1 e2 hlt q) q) q) (hs i y ys S hy h)⟩
 exact go xs 0 a S rfl (XG _) h0
theorem i5{keep:Sto->Prop}{g:Tg}{t:WT}{e:WE}{ρ:EnvS}{Q:List SV->Sto->Prop}(mt:MonoT t)(me:Mono e)(I:Nat->List SV->Sto->Prop){xs:List SV}{S:Sto}(h0:I 0 [] S)(hk:∀ i ys S,I i ys S->keep S)
 (hs:∀ i x ys S,xs[i]?=some x->I i ys S->wTg g x ρ λρ2=>t ρ2 S λb S1=>if b=true then e ρ2 S1 λy S2=>ys.length<big/\I (i+1) (ys++[y]) S2 else I (i+1) ys S1) (hd:∀ ys S,I xs.length ys S->Q ys S):HN keep g t e ρ Q xs [] S:=Hl mt (DV me) I h0 hk hs hd
theorem n8{lo hi:Int}{i:Nat}{x:SV}(h:(u8 lo hi)[i]?=some x):x = .int (lo+i)/\lo+i<hi:=by
 unfold u8 at h
 have hi':i<(hi - lo).toNat:=by
  have:=(gM h).1;simpa using this
 rw[Vx,Wv hi']at h;exact⟨(oj h).symm,by omega⟩
theorem o9{lo hi:Int}:(u8 lo hi).length=(hi - lo).toNat:=by unfold u8;simp
noncomputable def pairS(e:Nat×Nat):SV := .tup [.int e.1,.int e.2]
noncomputable def Qd:List Stm:=[(.asg (.nm 2) (.c (.int 0))),(.iff (.cmp .Lt (.var 1) (.bi .len (.cons (.var 0) .nil))) [(.asg (.nm 2) (.ix (.var 0) (.var 1)))] []),(.asg (.nm 3) (.op .Mult (.bi .abs (.cons (.var 2) .nil)) (.bi .int (.cons (.cmp .GtE (.bi .abs (.cons (.var 2) .nil)) (.op .Pow (.c (.int 10)) (.c (.int 18)))) .nil)))),(.ret (.lst (.cons (.var 3) (.cons (.op .Mod (.op .Mult (.op .Mod (.op .Add (.op .Add (.var 2) (.op .Mult (.c (.int 7919)) (.var 1))) (.c (.int 1))) (.c (.int 2147483647))) (.c (.int 48271))) (.c (.int 2147483647))) .nil))))]
noncomputable def Qf:List Stm:=[(.iff (.cmp .Gt (.ix (.var 0) (.c (.int 0))) (.c (.int 0))) [(.asg (.nm 2) (.op .Mod (.ix (.var 0) (.c (.int 0))) (.var 1))),(.put (.var 0) (.c (.int 0)) (.op .FloorDiv (.ix (.var 0) (.c (.int 0))) (.var 1))),(.ret (.var 2))] []),(.put (.var 0) (.c (.int 1)) (.op .Mod (.op .Add (.op .Mult (.ix (.var 0) (.c (.int 1))) (.c (.int 48271))) (.c (.int 12345))) (.c (.int 2147483647)))),(.asg (.nm 3) (.op .Mod (.op .Mult (.ix (.var 0) (.c (.int 1))) (.op .Add (.op .Mod (.ix (.var 0) (.c (.int 1))) (.c (.int 1009))) (.c (.int 3)))) (.c (.int 2147483629)))),(.ret (.op .Mod (.op .Mod (.op .Mult (.var 3) (.op .Add (.op .Mod (.var 3) (.c (.int 997))) (.c (.int 5)))) (.c (.int 998244353))) (.var 1)))]
noncomputable def t9(s:Sn):Prop:=∀{t:Nat} {m:Int} {S:Sto} {Q:QE},TapeS S t->0<m->m<1073741824->(∀(r:Int) (S':Sto),0<=r->r<m->TapeS S' t->On t S S'->S'.length=S.length->Q (.int r) S')->s [.loc t,.int m] S Q
noncomputable def N9(s:Sn):Prop:=∀{ns:List Int} {k:Nat} {S:Sto} {Q:QE},ns.length<=63->k<=1000->(∀ a b:Int,0<=a->0<=b->b<2147483647->Q (.loc S.length) (S++[.lst [.int a,.int b]]))->s [.ro (ns.map SV.int),.int k] S Q
theorem b01(b:Bool):-(2 ^ 64)<(if b=true then (1:Int) else 0)/\(if b=true then (1:Int) else 0)<2 ^ 64:=by cases b<;>decide
theorem b00(b:Bool):0<=(if b=true then (1:Int) else 0):=by cases b<;>decide
theorem Pk{Δ:Nat->Sn}{D:Df}(hb:D.body=Qf)(hN:D.N.length=4)(hp:D.ps.length=2):t9 (i4 Δ D):=by
 intro t m S Q T h0 h1 q;obtain⟨a,b,hS,ha,hb0,hb1⟩:=T.ex;unfold i4;rw[hb,hN];refine⟨hp.symm,?_⟩;have go:∀ r a' b':Int,0<=r->r<m->0<=a'->0<=b'->b'<2147483647->Q (.int r) (S.set t (.lst [.int a',.int b'])):=λr a' b' r0 r1 a0 b0 b1=>q r _ r0 r1 ⟨a',b',BB hS,a0,b0,b1⟩ (On.refl t S).tape (by rw[Wg]);refine⟨_,rfl,_,_,c5 hS,rfl,_,rfl,ifD (λh=>?_) (λh=>?_)⟩
 ·refine⟨_,rfl,_,_,c5 hS,rfl,_,rfl,h0,?_⟩;refine⟨_,rfl,_,_,c5 hS,rfl,_,rfl,⟨h0,h1⟩,_,rfl,_,_,hS,rfl,_,rfl,?_⟩;exact go _ _ _ (XX _ (by omega)) (XA _ h0) (Int.ediv_nonneg ha (by omega)) hb0 hb1
 ·refine⟨_,rfl,_,_,c5 hS,rfl,.inr (by decide),show(0:Int)<2147483647 by decide,_,rfl,_,_,hS,rfl,?_⟩;have e0:0<=(b * 48271+12345) % 2147483647:=XX _ (by decide);have e1:(b * 48271+12345) % 2147483647<2147483647:=XA _ (by decide);have hS1:(S.set t (.lst [.int a,.int ((b * 48271+12345) % 2147483647)]))[t]?=some (.lst [.int a,.int ((b * 48271+12345) % 2147483647)]):=BB hS;refine⟨_,rfl,_,_,c5 hS1,rfl,_,rfl,_,_,c5 hS1,rfl,show(0:Int)<1009 by decide,.inl ⟨by omega,by omega⟩,show(0:Int)<2147483629 by decide,?_⟩;have f0:0<=((b * 48271+12345) % 2147483647 * ((b * 48271+12345) % 2147483647 % 1009+3)) % 2147483629:=XX _ (by decide);have f1:((b * 48271+12345) % 2147483647 * ((b * 48271+12345) % 2147483647 % 1009+3)) % 2147483629<2147483629:=XA _ (by decide);refine⟨_,rfl,_,rfl,show(0:Int)<997 by decide,.inl ⟨by omega,by omega⟩,show(0:Int)<998244353 by decide,_,rfl,h0,?_⟩;exact go _ _ _ (XX _ (by omega)) (XA _ h0) ha e0 e1
theorem Pl{Δ:Nat->Sn}{D:Df}(hb:D.body=Qd)(hN:D.N.length=4)(hp:D.ps.length=2):N9 (i4 Δ D):=by
 intro ns k S Q hl hk q;unfold i4;rw[hb,hN];refine⟨hp.symm,?_⟩
 have fin:∀ c:Int,wSs Δ [(.asg (.nm 3) (.op .Mult (.bi .abs (.cons (.var 2) .nil)) (.bi .int (.cons (.cmp .GtE (.bi .abs (.cons (.var 2) .nil)) (.op .Pow (.c (.int 10)) (.c (.int 18)))) .nil)))),(.ret (.lst (.cons (.var 3) (.cons (.op .Mod (.op .Mult (.op .Mod (.op .Add (.op .Add (.var 2) (.op .Mult (.c (.int 7919)) (.var 1))) (.c (.int 1))) (.c (.int 2147483647))) (.c (.int 48271))) (.c (.int 2147483647))) .nil))))] (m6 Q) [some (.ro (ns.map SV.int)),some (.int k),some (.int c),none] S:=λc=>by
  refine⟨_,rfl,_,rfl,⟨by decide,by decide,by decide⟩,.inr (b01 _),?_⟩;refine⟨_,rfl,_,rfl,_,rfl,.inl ⟨by decide,by decide⟩,show(0:Int)<2147483647 by decide,.inr ⟨by decide,by decide⟩,show(0:Int)<2147483647 by decide,by show 2<=big;decide,?_⟩;refine q _ _ (Int.mul_nonneg (by split<;>omega) (b00 _)) (XX _ (by decide)) (XA _ (by decide))
 refine⟨_,rfl,_,rfl,_,rfl,_,rfl,ifD (λh=>?_) (λh=>fin 0)⟩
 have hk':k<ns.length:=by
  have:((ns.map SV.int).length:Int)=ns.length:=by rw[Vp]
  omega
 refine⟨_,rfl,_,rfl,_,_,rfl,j4 (v := .int ns[k]) (by rw[Vx,Vq hk'];rfl),?_⟩;exact fin _
noncomputable def q1(kd:Nat):Stm:=(.asg (.nm 2) (.call kd (.cons (.var 0) (.cons (.c (.int 8)) .nil))))
noncomputable def q2(kd:Nat):Stm:=(.asg (.nm 3) (.ix (.lst (.cons (.call kd (.cons (.var 0) (.cons (.c (.int 7)) .nil))) (.cons (.op .Add (.c (.int 7)) (.call kd (.cons (.var 0) (.cons (.c (.int 6)) .nil)))) .nil))) (.bi .int (.cons (.var 1) .nil))))
noncomputable def q3(kd:Nat):Stm:=(.asg (.nm 4) (.lst .nil))
noncomputable def q4(kd:Nat):Stm:=(.iff (.and (.cmp .Lt (.var 2) (.c (.int 3))) (.cmp .Gt (.var 3) (.c (.int 1)))) [(.loop (.nm 5) (.rng1 (.call kd (.cons (.var 0) (.cons (.op .Add (.op .Mult (.c (.int 2)) (.var 3)) (.c (.int 1))) .nil)))) [(.asg (.nm 6) (.call kd (.cons (.var 0) (.cons (.var 3) .nil)))),(.expr (.mt .append (.var 4) (.cons (.tup (.cons (.var 6) (.cons (.op .Mod (.op .Add (.op .Add (.var 6) (.c (.int 1))) (.call kd (.cons (.var 0) (.cons (.op .Sub (.var 3) (.c (.int 1))) .nil)))) (.var 3)) .nil))) .nil)))])] [])
noncomputable def q5(kd:Nat):Stm:=(.iff (.and (.cmp .Eq (.var 2) (.c (.int 3))) (.cmp .Gt (.var 3) (.c (.int 2)))) [(.asg (.nm 4) (.op .Add (.comp ["_law_k"] ["_law_many"] [3] (.nm 0) (.rng1 (.var 3)) .no (.tup (.cons (.var 0) (.cons (.op .Mod (.op .Add (.var 0) (.c (.int 1))) (.var 1)) .nil)))) (.lst (.cons (.tup (.cons (.c (.int 0)) (.cons (.op .Add (.call kd (.cons (.var 0) (.cons (.op .Sub (.var 3) (.c (.int 1))) .nil))) (.c (.int 1))) .nil))) .nil))))] [])
noncomputable def q6(kd:Nat):Stm:=(.iff (.and (.cmp .Eq (.var 2) (.c (.int 4))) (.cmp .Gt (.var 3) (.c (.int 1)))) [(.asg (.nm 4) (.comp ["_law_k"] [] [] (.nm 0) (.rng2 (.c (.int 1)) (.var 3)) .no (.tup (.cons (.c (.int 0)) (.cons (.var 0) .nil)))))] [])
noncomputable def q7(kd:Nat):Stm:=(.iff (.cmp .Eq (.var 2) (.c (.int 5))) [(.asg (.nm 3) (.bi .min (.cons (.var 3) (.cons (.op .Add (.c (.int 5)) (.bi .int (.cons (.var 1) .nil))) .nil)))),(.loop (.nm 7) (.rng1 (.var 3)) [(.expr (.mt .extend (.var 4) (.cons (.comp ["_law_j"] ["_law_k"] [7] (.nm 0) (.rng1 (.var 7)) .no (.tup (.cons (.var 0) (.cons (.var 1) .nil)))) .nil)))])] [])
noncomputable def q8(kd:Nat):Stm:=(.iff (.cmp .Eq (.var 2) (.c (.int 6))) [(.asg (.nm 8) (.op .Add (.c (.int 1)) (.op .FloorDiv (.var 3) (.c (.int 2))))),(.loop (.nm 7) (.rng1 (.var 8)) [(.expr (.mt .extend (.var 4) (.cons (.comp ["_law_j"] ["_law_tape_here","_law_k"] [0,7] (.nm 0) (.rng2 (.var 8) (.var 3)) (.yes (.cmp .Gt (.call kd (.cons (.var 1) (.cons (.c (.int 3)) .nil))) (.c (.int 0)))) (.tup (.cons (.var 2) (.cons (.var 0) .nil)))) .nil)))])] [])
noncomputable def q9(kd:Nat):Stm:=(.iff (.cmp .Eq (.var 2) (.c (.int 7))) [(.asg (.nm 3) (.op .Add (.c (.int 3)) (.op .FloorDiv (.var 3) (.c (.int 3))))),(.loop (.nm 7) (.rng1 (.c (.int 3))) [(.expr (.mt .extend (.var 4) (.cons (.op .Mult (.lst (.cons (.tup (.cons (.var 7) (.cons (.op .Mod (.op .Add (.var 7) (.c (.int 1))) (.c (.int 3))) .nil))) .nil)) (.op .Add (.c (.int 1)) (.call kd (.cons (.var 0) (.cons (.c (.int 3)) .nil))))) .nil)))])] [])
noncomputable def q10(kd:Nat):Stm:=(.ret (.tup (.cons (.var 3) (.cons (.var 4) .nil))))
noncomputable def q7l(kd:Nat):Stm:=(.loop (.nm 7) (.rng1 (.var 3)) [(.expr (.mt .extend (.var 4) (.cons (.comp ["_law_j"] ["_law_k"] [7] (.nm 0) (.rng1 (.var 7)) .no (.tup (.cons (.var 0) (.cons (.var 1) .nil)))) .nil)))])
noncomputable def q8l(kd:Nat):Stm:=(.loop (.nm 7) (.rng1 (.var 8)) [(.expr (.mt .extend (.var 4) (.cons (.comp ["_law_j"] ["_law_tape_here","_law_k"] [0,7] (.nm 0) (.rng2 (.var 8) (.var 3)) (.yes (.cmp .Gt (.call kd (.cons (.var 1) (.cons (.c (.int 3)) .nil))) (.c (.int 0)))) (.tup (.cons (.var 2) (.cons (.var 0) .nil)))) .nil)))])
noncomputable def q9l(kd:Nat):Stm:=(.loop (.nm 7) (.rng1 (.c (.int 3))) [(.expr (.mt .extend (.var 4) (.cons (.op .Mult (.lst (.cons (.tup (.cons (.var 7) (.cons (.op .Mod (.op .Add (.var 7) (.c (.int 1))) (.c (.int 3))) .nil))) .nil)) (.op .Add (.c (.int 1)) (.call kd (.cons (.var 0) (.cons (.c (.int 3)) .nil))))) .nil)))])
noncomputable def NA(kd:Nat):List Stm:=[q1 kd,q2 kd,q3 kd,q4 kd,q5 kd,q6 kd,q7 kd,q8 kd,q9 kd,q10 kd]
structure Prs(n:Nat)(es:EE):Prop where
 en:∀ e∈es,e.1<n/\e.2<n/\e.1≠e.2
 len:es.length<=36
 few:n<=12
noncomputable def De(c:Bool->Bool)(s:Sn):Prop:=∀{t:Nat} {g:Bool} {S:Sto} {Q:QE},TapeS S t->(∀(n:Nat) (es:EE) (l:Nat) (S':Sto),Prs n es->(c g=true->n<=6/\es.length<=12)->S'[l]?=some (.lst (es.map pairS))->S.length<=l->TapeS S' t->On t S S'->Q (.tup [.int n,.loc l]) S')->s [.loc t,.bl g] S Q
structure Ah(t:Nat)(S0 S:Sto)(l:Nat)(es:EE):Prop where
 tape:TapeS S t
 on:On t S0 S
 at':S[l]?=some (.lst (es.map pairS))
 new:S0.length<=l
 t0:t<S0.length
theorem Ah.ne{t l:Nat}{S0 S:Sto}{es:EE}(h:Ah t S0 S l es):l≠t:=by have:=h.new;have:=h.t0;omega
theorem Ah.draw{t l:Nat}{S0 S S':Sto}{es:EE}(h:Ah t S0 S l es)(T:TapeS S' t)(O:On t S S'):Ah t S0 S' l es:=⟨T,h.on.trans O,O.keep _ _ h.ne h.at',h.new,h.t0⟩
theorem Ah.push{t l:Nat}{S0 S:Sto}{es:EE}{o:SO}(h:Ah t S0 S l es):Ah t S0 (S++[o]) l es:=⟨h.tape.push,h.on.push,f9 h.at',h.new,h.t0⟩
theorem Ah.put{t l:Nat}{S0 S:Sto}{es fs:EE}(h:Ah t S0 S l es):Ah t S0 (S.set l (.lst (fs.map pairS))) l fs:=⟨h.tape.other h.ne,h.on.new h.new,BB h.at',h.new,h.t0⟩
theorem GM(es:EE)(e:Nat×Nat):es.map pairS++[.tup [.int e.1,.int e.2]]=(es++[e]).map pairS:=by rw[WB];rfl
section
variable{Δ:Nat->Sn}{kd:Nat}
theorem Vb(hΔ:∀ f,MonoN (Δ f))(hd:t9 (Δ kd)){t l n:Nat}{way:Int}{S0 S:Sto}{D:EndsS}{g:SV}{o5 o6 o7 o8:Option SV}{c:Prop}(hc:c->n<=6)(A:Ah t S0 S l [])(hn:n<=12)
 (q:∀(es:EE) (S':Sto) (o5 o6:Option SV),Prs n es->(c->n<=6/\es.length<=12)->Ah t S0 S' l es->D.nx [some (.loc t),some g,some (.int way),some (.int n),some (.loc l),o5,o6,o7,o8] S'):
 wSt Δ (q4 kd) D [some (.loc t),some g,some (.int way),some (.int n),some (.loc l),o5,o6,o7,o8] S:=by
 have stay:=q [] S o5 o6 ⟨(λ_ h=>nomatch h),by simp,hn⟩ (λz=>⟨hc z,by simp⟩) A;refine⟨_,rfl,_,rfl,ifD (λh1=>?_) (λh1=>ifF rfl stay)⟩;refine⟨_,rfl,_,rfl,ifD (λh2=>?_) (λh2=>stay)⟩;have h2:1<n:=by omega
 refine⟨_,rfl,_,rfl,.inl ⟨by decide,by decide⟩,hd A.tape (by omega) (by omega) λr S1 r0 r1 T1 O1 _=>⟨r,rfl,⟨by omega,by omega⟩,?_⟩⟩;have A1:=A.draw T1 O1
 refine AB (l9 hΔ _) (λi ρ S2=>∃(es:EE) (o5 o6:Option SV),ρ=[some (.loc t),some g,some (.int way),some (.int n),some (.loc l),o5,o6,o7,o8]/\Ah t S0 S2 l es/\(∀ e∈es,e.1<n/\e.2<n/\e.1≠e.2)/\es.length=i)
  ⟨[],o5,o6,rfl,A1,(λ_ h=>nomatch h),rfl⟩ (λ_ _ _ _=>trivial) ?_ ?_
 ·rintro i x ρ S2 hx ⟨es,p5,p6,rfl,A2,he,hl⟩;obtain⟨rfl,hi⟩:=n8 hx;refine⟨_,rfl,_,rfl,hd A2.tape (by omega) (by omega) λa S3 a0 a1 T3 O3 _=>?_⟩;have A3:=A2.draw T3 O3;refine⟨_,rfl,⟨l,_,rfl,A3.at'⟩,?_⟩;refine⟨_,rfl,_,rfl,_,rfl,_,rfl,hd A3.tape (by omega) (by omega) λb S4 b0 b1 T4 O4 _=>?_⟩;have A4:=A3.draw T4 O4;refine⟨_,rfl,show(0:Int)<n by omega,by show 2<=big;decide,⟨_,A4.at',by rw[Vp];show es.length<100000;omega,?_⟩⟩;have e1:((a.toNat:Nat):Int)=a:=Xn a0;have m0:0<=(a+1+b) % n:=XX _ (by omega);have m1:(a+1+b) % n<n:=XA _ (by omega);have e2:(((a+1+b) % n).toNat:Int)=(a+1+b) % n:=Xn m0
  have hne:a≠(a+1+b) % n:=by
   by_cases hb:a+1+b<n
   ·rw[Yz (by omega) hb];omega
   ·rw[<-Int.sub_emod_right,Yz (by omega) (by omega)];omega
  have ea:=GM es (a.toNat,((a+1+b) % n).toNat);simp only[e1,e2]at ea;refine⟨es++[(a.toNat,((a+1+b) % n).toNat)],_,_,rfl,?_,λe h=>?_,by rw[Vs,hl];rfl⟩
  ·have:=A4.put (fs:=es++[(a.toNat,((a+1+b) % n).toNat)]);rw[<-ea]at this;exact this
  ·rcases WD.mp h with h | h
   ·exact he e h
   ·rw[W1.mp h];exact⟨by show a.toNat<n;omega,by show((a+1+b) % n).toNat<n;omega,by show a.toNat≠((a+1+b) % n).toNat;omega⟩
 ·rintro ρ S2 ⟨es,p5,p6,rfl,A2,he,hl⟩;rw[o9]at hl;exact q es S2 p5 p6 ⟨he,by omega,hn⟩ (λz=>by have:=hc z;omega) A2
noncomputable abbrev PQ(c:Prop)(t:Nat)(g:SV)(way:Int)(S0:Sto)(D:EndsS):Prop:=∀(n:Nat) (es:EE) (l:Nat) (S':Sto) (o5 o6 o7 o8:Option SV),Prs n es->(c->n<=6/\es.length<=12)->Ah t S0 S' l es->D.nx [some (.loc t),some g,some (.int way),some (.int n),some (.loc l),o5,o6,o7,o8] S'
theorem FB{n:Nat}(h:n<=12):Prs n []:=⟨(λ_ h=>nomatch h),by simp,h⟩
theorem Vc(hΔ:∀ f,MonoN (Δ f))(hd:t9 (Δ kd)){t l n:Nat}{S0 S:Sto}{D:EndsS}{g:SV}{o5 o6 o7 o8:Option SV}{c:Prop}(hc:c->n<=6)(A:Ah t S0 S l [])(hn:n<=12)(q:PQ c t g 3 S0 D):
 wSt Δ (q5 kd) D [some (.loc t),some g,some (.int 3),some (.int n),some (.loc l),o5,o6,o7,o8] S:=by
 have stay:=q n [] l S o5 o6 o7 o8 (FB hn) (λz=>⟨hc z,by simp⟩) A;refine⟨_,rfl,_,rfl,ifT rfl ?_⟩;refine⟨_,rfl,_,rfl,ifD (λh2=>?_) (λh2=>stay)⟩;have h2:2<n:=by omega
 refine⟨_,rfl,n,rfl,⟨by omega,by omega⟩,?_⟩;refine i5 (j6 hΔ _).2 (c4 hΔ _).1 (λi ys S2=>S2=S/\ys=((Vw i).map λj=>(j,(j+1) % n)).map pairS) ⟨rfl,rfl⟩ (λ_ _ _ _=>trivial) ?_ ?_
 ·rintro i x ys S2 hx ⟨rfl,rfl⟩;obtain⟨rfl,hi⟩:=n8 hx;refine⟨_,rfl,_,rfl,_,rfl,show(0:Int)<n by omega,by show 2<=big;decide,by simp;show i<100000;omega,rfl,?_⟩;rw[Xi,WB,WB];simp[pairS]
 ·rintro ys S2 ⟨rfl,rfl⟩;rw[o9];refine⟨_,rfl,_,rfl,hd (A.push (o := .lst (((Vw ((n:Int) - 0).toNat).map λj=>(j,(j+1) % n)).map pairS))).tape (by omega) (by omega) λr S3 r0 r1 T3 O3 L3=>?_⟩;have A3:=(A.push (o := .lst (((Vw ((n:Int) - 0).toNat).map λj=>(j,(j+1) % n)).map pairS))).draw T3 O3;refine⟨by show 2<=big;decide,by show 1<=big;decide,?_⟩;have hS:=A.t0;have hon:=A.on.len;have at1:S3[S2.length]?=some (.lst (((Vw ((n:Int) - 0).toNat).map λj=>(j,(j+1) % n)).map pairS)):=O3.keep _ _ (by omega) c7;refine⟨_,_,f9 at1,c7,by simp;show _<=100000;omega,?_⟩;have en:((n:Int) - 0).toNat=n:=by omega
  rw[en];have e1:((r.toNat:Nat):Int)=r:=Xn r0;have ea:=GM ((Vw n).map λj=>(j,(j+1) % n)) (0,r.toNat+1);have e2:((r.toNat+1:Nat):Int)=r+1:=by omega
  simp only[e2]at ea;refine q n ((Vw n).map (λj=>(j,(j+1) % n))++[(0,r.toNat+1)]) _ _ _ _ _ _ ⟨λe h=>?_,by simp;omega,hn⟩ (λz=>⟨hc z,by have:=hc z;simp;omega⟩) ⟨A3.tape.push.push,A3.on.push.push,?_,?_,A.t0⟩
  ·rcases WD.mp h with h | h
   ·obtain⟨j,hj,rfl⟩:=WU.mp h;have hj:=WJ.mp hj;refine⟨hj,ZH _ (by omega),?_⟩;by_cases hz:j+1<n
    ·show j≠(j+1) % n;rw[Nat.mod_eq_of_lt hz];omega
    ·have:j+1=n:=by omega
     show j≠(j+1) % n;rw[this,Nat.mod_self];omega
   ·rw[W1.mp h];exact⟨by show 0<n;omega,by show r.toNat+1<n;omega,by show 0≠r.toNat+1;omega⟩
  ·rw[<-ea];exact c7
  ·rw[Vs];have:=A3.on.len;omega
theorem Vd(hΔ:∀ f,MonoN (Δ f)){t l n:Nat}{S0 S:Sto}{D:EndsS}{g:SV}{o5 o6 o7 o8:Option SV}{c:Prop}(hc:c->n<=6)(A:Ah t S0 S l [])(hn:n<=12)(q:PQ c t g 4 S0 D):
 wSt Δ (q6 kd) D [some (.loc t),some g,some (.int 4),some (.int n),some (.loc l),o5,o6,o7,o8] S:=by
 have stay:=q n [] l S o5 o6 o7 o8 (FB hn) (λz=>⟨hc z,by simp⟩) A;refine⟨_,rfl,_,rfl,ifT rfl ?_⟩;refine⟨_,rfl,_,rfl,ifD (λh2=>?_) (λh2=>stay)⟩;have h2:1<n:=by omega
 refine⟨_,rfl,1,n,rfl,rfl,⟨by decide,by decide,by omega,by omega⟩,?_⟩;refine i5 (j6 hΔ _).2 (c4 hΔ _).1 (λi ys S2=>S2=S/\ys=((Vw i).map λj=>(0,j+1)).map pairS) ⟨rfl,rfl⟩ (λ_ _ _ _=>trivial) ?_ ?_
 ·rintro i x ys S2 hx ⟨rfl,rfl⟩;obtain⟨rfl,hi⟩:=n8 hx;refine⟨_,rfl,by show 2<=big;decide,by simp;show i<100000;omega,rfl,?_⟩;rw[Xi,WB,WB];simp[pairS,Int.add_comm]
 ·rintro ys S2 ⟨rfl,rfl⟩;rw[o9];refine q n _ _ _ _ _ _ _ ⟨λe h=>?_,by simp;omega,hn⟩ (λz=>⟨hc z,by have:=hc z;simp;omega⟩) ⟨A.tape.push,A.on.push,c7,A.on.len,A.t0⟩;obtain⟨j,hj,rfl⟩:=WU.mp h;have hj:=WJ.mp hj;exact⟨by show 0<n;omega,by show j+1<n;omega,by show 0≠j+1;omega⟩
theorem Ah.ext{t l j:Nat}{S0 S:Sto}{es fs:EE}(h:Ah t S0 S l es)(hj:S[j]?=some (.lst (fs.map pairS))):Ah t S0 (S.set l (.lst (es.map pairS++fs.map pairS))) l (es++fs):=by
 rw[<-WB];exact h.put
theorem Ve(hΔ:∀ f,MonoN (Δ f)){t l n:Nat}{b:Bool}{S0 S:Sto}{D:EndsS}{o5 o6 o7 o8:Option SV}{c:Prop}(hc:c->n<=6/\b=false)(A:Ah t S0 S l [])(hn:n<=12)(q:PQ c t (.bl b) 5 S0 D):
 wSt Δ (q7 kd) D [some (.loc t),some (.bl b),some (.int 5),some (.int n),some (.loc l),o5,o6,o7,o8] S:=by
 refine⟨_,rfl,_,rfl,ifT rfl ?_⟩
 obtain⟨m,em,hm,hm5⟩:∃ m:Nat,(if (5+(if b=true then (1:Int) else 0))<n then (5+(if b=true then (1:Int) else 0)) else (n:Int))=m/\m<=6/\(b=false->m<=5):=by
  cases b
  ·by_cases h:(5:Int)<n
   ·exact⟨5,by simp[h],by omega,by omega⟩
   ·exact⟨n,by simp[h],by omega,by omega⟩
  ·by_cases h:(6:Int)<n
   ·exact⟨6,by simp[h],by omega,nofun⟩
   ·exact⟨n,by simp[h],by omega,nofun⟩
 suffices key:∀ z:Int,z=m->wSs Δ [q7l kd] D [some (.loc t),some (.bl b),some (.int 5),some (.int z),some (.loc l),o5,o6,o7,o8] S from ⟨_,rfl,_,rfl,key _ em⟩
 rintro _ rfl;refine⟨_,rfl,m,rfl,⟨by omega,by omega⟩,?_⟩
 refine AB (l9 hΔ _) (λi ρ S2=>∃(es:EE) (o7:Option SV),ρ=[some (.loc t),some (.bl b),some (.int 5),some (.int m),some (.loc l),o5,o6,o7,o8]/\Ah t S0 S2 l es/\(∀ e∈es,e.1<e.2/\e.2<i)/\es.length * 2<=i * i)
  ⟨[],o7,rfl,A,(λ_ h=>nomatch h),by simp⟩ (λ_ _ _ _=>trivial) ?_ ?_
 ·rintro i x ρ S2 hx ⟨es,p7,rfl,A2,he,hl⟩;obtain⟨rfl,hi⟩:=n8 hx;refine⟨_,rfl,⟨l,_,rfl,A2.at'⟩,_,rfl,0+(i:Int),rfl,⟨by omega,by omega⟩,?_⟩;refine i5 (j6 hΔ _).2 (c4 hΔ _).1 (λj ys S3=>S3=S2/\ys=((Vw j).map λj=>(j,i)).map pairS) ⟨rfl,rfl⟩ (λ_ _ _ _=>trivial) ?_ ?_
  ·rintro j x ys S3 hx ⟨rfl,rfl⟩;obtain⟨rfl,hj⟩:=n8 hx;refine⟨_,rfl,_,rfl,by show 2<=big;decide,by simp;show j<100000;omega,rfl,?_⟩;rw[Xi,WB,WB];simp[pairS]
  ·rintro ys S3 ⟨rfl,rfl⟩;rw[o9];have en:(0+(i:Int) - 0).toNat=i:=by omega
   rw[en];have A3:=A2.push (o := .lst (((Vw i).map λj=>(j,i)).map pairS));have i6:i * i<=6 * 6:=Xj (by omega) (by omega);have i7:(i+1) * (i+1)=i * i+i+(i+1):=by rw[Yn,Nat.mul_succ]
   refine⟨_,_,A3.at',c7,by simp;show _<=100000;omega,?_⟩;refine⟨es++(Vw i).map (λj=>(j,i)),_,rfl,A3.ext (j:=S3.length) c7,λe h=>?_,by simp;omega⟩;rcases WD.mp h with h | h
   ·have:=he e h;omega
   ·obtain⟨j,hj,rfl⟩:=WU.mp h;have hj:=WJ.mp hj;exact⟨hj,by show i<i+1;omega⟩
 ·rintro ρ S2 ⟨es,p7,rfl,A2,he,hl⟩;rw[o9,show((m:Int) - 0).toNat=m by omega]at he hl;have i6:m * m<=6 * 6:=Xj (by omega) (by omega);refine q m es l S2 _ _ _ _ ⟨λe h=>?_,by omega,by omega⟩ (λz=>?_) A2
  rotate_left
  ·have m5:=hm5 (hc z).2;have:m * m<=5 * 5:=Xj m5 m5;omega
  have:=he e h;omega
theorem Vf(hΔ:∀ f,MonoN (Δ f))(hd:t9 (Δ kd)){t l n:Nat}{S0 S:Sto}{D:EndsS}{g:SV}{o5 o6 o7 o8:Option SV}{c:Prop}(hc:c->n<=6)(A:Ah t S0 S l [])(hn:n<=12)(q:PQ c t g 6 S0 D):
 wSt Δ (q8 kd) D [some (.loc t),some g,some (.int 6),some (.int n),some (.loc l),o5,o6,o7,o8] S:=by
 refine⟨_,rfl,_,rfl,ifT rfl ?_⟩;obtain⟨s,es',hs⟩:∃ s:Nat,1+(n:Int) / 2=s/\s=1+n / 2:=⟨1+n / 2,by omega,rfl⟩
 suffices key:∀ z:Int,z=s->wSs Δ [q8l kd] D [some (.loc t),some g,some (.int 6),some (.int n),some (.loc l),o5,o6,o7,some (.int z)] S from ⟨_,rfl,⟨by decide,by decide⟩,key _ es'⟩
 rintro _ rfl;refine⟨_,rfl,s,rfl,⟨by omega,by omega⟩,?_⟩
 refine AB (l9 hΔ _) (λi ρ S2=>∃(es:EE) (o7:Option SV),ρ=[some (.loc t),some g,some (.int 6),some (.int n),some (.loc l),o5,o6,o7,some (.int s)]/\Ah t S0 S2 l es/\(∀ e∈es,e.1<i/\s<=e.2/\e.2<n)/\es.length<=i * (n - s))
  ⟨[],o7,rfl,A,(λ_ h=>nomatch h),by simp⟩ (λ_ _ _ _=>trivial) ?_ ?_
 ·rintro i x ρ S2 hx ⟨es,p7,rfl,A2,he,hl⟩;obtain⟨rfl,hi⟩:=n8 hx;refine⟨_,rfl,⟨l,_,rfl,A2.at'⟩,_,rfl,_,rfl,s,n,rfl,rfl,⟨by omega,by omega,by omega,by omega⟩,?_⟩;refine i5 (j6 hΔ _).2 (c4 hΔ _).1 (λj ys S3=>Ah t S0 S3 l es/\∃ fs:EE,ys=fs.map pairS/\(∀ e∈fs,e.1=i/\s<=e.2/\e.2<n)/\fs.length<=j) ⟨A2,[],rfl,(λ_ h=>nomatch h),W0 _⟩ (λ_ _ _ _=>trivial) ?_ ?_
  ·rintro j x ys S3 hx ⟨A3,fs,rfl,hf,fl⟩;obtain⟨rfl,hj⟩:=n8 hx;refine⟨_,rfl,hd A3.tape (by decide) (by decide) λr S4 r0 r1 T4 O4 _=>⟨_,rfl,?_⟩⟩;have A4:=A3.draw T4 O4;refine ifD (λ_=>?_) (λ_=>⟨A4,fs,rfl,hf,by omega⟩);refine⟨_,rfl,_,rfl,by show 2<=big;decide,by rw[Vp];show _<100000;omega,A4,fs++[(i,s+j)],?_,λe h=>?_,by simp;omega⟩
   ·rw[WB];simp[pairS]
   ·rcases WD.mp h with h | h
    ·exact hf e h
    ·rw[W1.mp h];exact⟨rfl,by show s<=s+j;omega,by show s+j<n;omega⟩
  ·rintro ys S3 ⟨A3,fs,rfl,hf,fl⟩;rw[o9]at fl;have A4:=A3.push (o := .lst (fs.map pairS));have hx6:i * (n - s)<=6 * 12:=Xj (by omega) (by omega);refine⟨_,_,A4.at',c7,by simp;show _<=100000;omega,?_⟩;refine⟨es++fs,_,rfl,A4.ext (j:=S3.length) c7,λe h=>?_,?_⟩
   ·rcases WD.mp h with h | h
    ·have:=he e h;exact⟨by omega,this.2⟩
    ·have:=hf e h;exact⟨by omega,this.2⟩
   ·rw[Vs,Yn];omega
 ·rintro ρ S2 ⟨es,p7,rfl,A2,he,hl⟩;rw[o9]at he hl;have e0:((s:Int) - 0).toNat=s:=by omega
  rw[e0]at he hl;have h35:s * (n - s)<=7 * 5:=Xj (by omega) (by omega);refine q n es l S2 _ _ _ _ ⟨λe h=>?_,by omega,hn⟩ (λz=>⟨hc z,?_⟩) A2
  rotate_left
  ·have:=hc z;have:s * (n - s)<=4 * 2:=Xj (by omega) (by omega);omega
  have:=he e h;omega
theorem Vg(hΔ:∀ f,MonoN (Δ f))(hd:t9 (Δ kd)){t l n:Nat}{S0 S:Sto}{D:EndsS}{g:SV}{o5 o6 o7 o8:Option SV}{c:Prop}(hc:c->n<=6)(A:Ah t S0 S l [])(hn:n<=12)(q:PQ c t g 7 S0 D):
 wSt Δ (q9 kd) D [some (.loc t),some g,some (.int 7),some (.int n),some (.loc l),o5,o6,o7,o8] S:=by
 refine⟨_,rfl,_,rfl,ifT rfl ?_⟩;obtain⟨m,em,hm⟩:∃ m:Nat,3+(n:Int) / 3=m/\m=3+n / 3:=⟨3+n / 3,by omega,rfl⟩
 suffices key:∀ z:Int,z=m->wSs Δ [q9l kd] D [some (.loc t),some g,some (.int 7),some (.int z),some (.loc l),o5,o6,o7,o8] S from ⟨_,rfl,⟨by decide,by decide⟩,key _ em⟩
 rintro _ rfl;refine⟨3,rfl,⟨by decide,by decide⟩,?_⟩
 refine AB (l9 hΔ _) (λi ρ S2=>∃(es:EE) (o7:Option SV),ρ=[some (.loc t),some g,some (.int 7),some (.int m),some (.loc l),o5,o6,o7,o8]/\Ah t S0 S2 l es/\(∀ e∈es,e.1<3/\e.2<3/\e.1≠e.2)/\es.length<=i * 3)
  ⟨[],o7,rfl,A,(λ_ h=>nomatch h),by simp⟩ (λ_ _ _ _=>trivial) ?_ ?_
 ·rintro i x ρ S2 hx ⟨es,p7,rfl,A2,he,hl⟩;obtain⟨rfl,hi⟩:=n8 hx;refine⟨_,rfl,⟨l,_,rfl,A2.at'⟩,_,rfl,_,rfl,show(0:Int)<3 by decide,by show 2<=big;decide,by show 1<=big;decide,?_⟩;have A3:=A2.push (o := .lst [.tup [.int (0+(i:Int)),.int ((0+(i:Int)+1) % 3)]]);refine⟨_,rfl,hd A3.tape (by decide) (by decide) λr S4 r0 r1 T4 O4 L4=>?_⟩;have A4:=A3.draw T4 O4;have ht:=A2.t0;have hlen:=A2.on.len;have at1:S4[S2.length]?=some (.lst [.tup [.int (0+(i:Int)),.int ((0+(i:Int)+1) % 3)]]):=O4.keep _ _ (by omega) c7;refine⟨_,at1,⟨by omega,by omega⟩,by simp;show _<=100000;omega,?_⟩
  have e1:(WL (1+r).toNat [SV.tup [.int (0+(i:Int)),.int ((0+(i:Int)+1) % 3)]]).flatten=(WL (1+r).toNat (i,(i+1) % 3)).map pairS:=by
   induction (1+r).toNat with
   | zero=>rfl
   | succ k ih=>rw[Wu,XI,ih,Wu];simp[pairS]
  rw[e1];have A5:=A4.push (o := .lst ((WL (1+r).toNat (i,(i+1) % 3)).map pairS));refine⟨_,_,A5.at',c7,by simp;show _<=100000;omega,?_⟩;refine⟨es++WL (1+r).toNat (i,(i+1) % 3),_,rfl,A5.ext (j:=S4.length) c7,λe h=>?_,by simp;omega⟩;rcases WD.mp h with h | h
  ·exact he e h
  ·rw[List.eq_of_mem_replicate h];exact⟨by show i<3;omega,by show(i+1) % 3<3;omega,by show i≠(i+1) % 3;omega⟩
 ·rintro ρ S2 ⟨es,p7,rfl,A2,he,hl⟩;rw[o9]at hl;refine q m es l S2 _ _ _ _ ⟨λe h=>?_,by omega,by omega⟩ (λz=>by have:=hc z;omega) A2;have:=he e h;omega
theorem V7{t l:Nat}{way n:Int}{S:Sto}{D:EndsS}{g:SV}{o5 o6 o7 o8:Option SV}(h:¬ way<3)(q:D.nx [some (.loc t),some g,some (.int way),some (.int n),some (.loc l),o5,o6,o7,o8] S):wSt Δ (q4 kd) D [some (.loc t),some g,some (.int way),some (.int n),some (.loc l),o5,o6,o7,o8] S:=⟨_,rfl,_,rfl,ifD (λz=>absurd z h) (λ_=>ifF rfl q)⟩
theorem GN{t l:Nat}{way n:Int}{S:Sto}{D:EndsS}{g:SV}{o5 o6 o7 o8:Option SV}(h:¬ way=3)(q:D.nx [some (.loc t),some g,some (.int way),some (.int n),some (.loc l),o5,o6,o7,o8] S):wSt Δ (q5 kd) D [some (.loc t),some g,some (.int way),some (.int n),some (.loc l),o5,o6,o7,o8] S:=⟨_,rfl,_,rfl,ifD (λz=>absurd z h) (λ_=>ifF rfl q)⟩
theorem GO{t l:Nat}{way n:Int}{S:Sto}{D:EndsS}{g:SV}{o5 o6 o7 o8:Option SV}(h:¬ way=4)(q:D.nx [some (.loc t),some g,some (.int way),some (.int n),some (.loc l),o5,o6,o7,o8] S):wSt Δ (q6 kd) D [some (.loc t),some g,some (.int way),some (.int n),some (.loc l),o5,o6,o7,o8] S:=⟨_,rfl,_,rfl,ifD (λz=>absurd z h) (λ_=>ifF rfl q)⟩
theorem GP{t l:Nat}{way n:Int}{S:Sto}{D:EndsS}{g:SV}{o5 o6 o7 o8:Option SV}(h:¬ way=5)(q:D.nx [some (.loc t),some g,some (.int way),some (.int n),some (.loc l),o5,o6,o7,o8] S):wSt Δ (q7 kd) D [some (.loc t),some g,some (.int way),some (.int n),some (.loc l),o5,o6,o7,o8] S:=⟨_,rfl,_,rfl,ifD (λz=>absurd z h) (λ_=>q)⟩
theorem GQ{t l:Nat}{way n:Int}{S:Sto}{D:EndsS}{g:SV}{o5 o6 o7 o8:Option SV}(h:¬ way=6)(q:D.nx [some (.loc t),some g,some (.int way),some (.int n),some (.loc l),o5,o6,o7,o8] S):wSt Δ (q8 kd) D [some (.loc t),some g,some (.int way),some (.int n),some (.loc l),o5,o6,o7,o8] S:=⟨_,rfl,_,rfl,ifD (λz=>absurd z h) (λ_=>q)⟩
theorem GR{t l:Nat}{way n:Int}{S:Sto}{D:EndsS}{g:SV}{o5 o6 o7 o8:Option SV}(h:¬ way=7)(q:D.nx [some (.loc t),some g,some (.int way),some (.int n),some (.loc l),o5,o6,o7,o8] S):wSt Δ (q9 kd) D [some (.loc t),some g,some (.int way),some (.int n),some (.loc l),o5,o6,o7,o8] S:=⟨_,rfl,_,rfl,ifD (λz=>absurd z h) (λ_=>q)⟩
theorem Pm(hΔ:∀ f,MonoN (Δ f))(hd:t9 (Δ kd)){t l n:Nat}{b:Bool}{w:Int}{S0 S:Sto}{Q:QE}(w0:0<=w)(w1:w<8)(hc:b=false->n<=6)(A:Ah t S0 S l [])(hn:n<=12)
 (q:∀(n:Nat) (es:EE) (l:Nat) (S':Sto),Prs n es->(b=false->n<=6/\es.length<=12)->Ah t S0 S' l es->Q (.tup [.int n,.loc l]) S'):
 wSs Δ [q4 kd,q5 kd,q6 kd,q7 kd,q8 kd,q9 kd,q10 kd] (m6 Q) [some (.loc t),some (.bl b),some (.int w),some (.int n),some (.loc l),none,none,none,none] S:=by
 have fin:∀(n:Nat) (es:EE) (l:Nat) (S':Sto) (o5 o6 o7 o8:Option SV),Prs n es->(b=false->n<=6/\es.length<=12)->Ah t S0 S' l es->wSs Δ [q10 kd] (m6 Q) [some (.loc t),some (.bl b),some (.int w),some (.int n),some (.loc l),o5,o6,o7,o8] S':=λn es l S' o5 o6 o7 o8 P C A'=>⟨_,rfl,_,rfl,by show 2<=big;decide,q n es l S' P C A'⟩
 have nil:=FB hn;by_cases h:w<3
 ·exact Vb hΔ hd hc A hn λes S' o5 o6 P C A'=>GN (by omega) (GO (kd:=kd) (by omega) (GP (kd:=kd) (by omega) (GQ (by omega) (GR (by omega) (fin n es l S' _ _ _ _ P C A')))))
 refine V7 h ?_;have:w=3\/w=4\/w=5\/w=6\/w=7:=by omega
 rcases this with rfl | rfl | rfl | rfl | rfl
 ·exact Vc hΔ hd hc A hn λn es l S' o5 o6 o7 o8 P C A'=>GO (kd:=kd) (by omega) (GP (kd:=kd) (by omega) (GQ (by omega) (GR (by omega) (fin n es l S' _ _ _ _ P C A'))))
 ·exact GN (by omega) (Vd (kd:=kd) hΔ hc A hn λn es l S' o5 o6 o7 o8 P C A'=>GP (kd:=kd) (by omega) (GQ (by omega) (GR (by omega) (fin n es l S' _ _ _ _ P C A'))))
 ·exact GN (by omega) (GO (kd:=kd) (by omega) (Ve (kd:=kd) hΔ (λz=>⟨hc z,z⟩) A hn λn es l S' o5 o6 o7 o8 P C A'=>GQ (by omega) (GR (by omega) (fin n es l S' _ _ _ _ P C A'))))
 ·exact GN (by omega) (GO (kd:=kd) (by omega) (GP (kd:=kd) (by omega) (Vf hΔ hd hc A hn λn es l S' o5 o6 o7 o8 P C A'=>GR (by omega) (fin n es l S' _ _ _ _ P C A'))))
 ·exact GN (by omega) (GO (kd:=kd) (by omega) (GP (kd:=kd) (by omega) (GQ (by omega) (Vg hΔ hd hc A hn λn es l S' o5 o6 o7 o8 P C A'=>fin n es l S' _ _ _ _ P C A'))))
theorem Kb(hΔ:∀ f,MonoN (Δ f))(hd:t9 (Δ kd)){D:Df}(hb:D.body=NA kd)(hN:D.N.length=9)(hp:D.ps.length=2):De (!·) (i4 Δ D):=by
 intro t g S Q T q;unfold i4;rw[hb,hN];refine⟨hp.symm,?_⟩;have t0:=T.lt;refine⟨_,rfl,hd T (by decide) (by decide) λw S1 w0 w1 T1 O1 _=>?_⟩;refine⟨_,rfl,hd T1 (by decide) (by decide) λr1 S2 a0 a1 T2 O2 _=>⟨_,rfl,hd T2 (by decide) (by decide) λr2 S3 b0 b1 T3 O3 _=>⟨by show 2<=big;decide,_,rfl,_,(if g=true then .int (7+r2) else .int r1),c5 c7,?_⟩⟩⟩;have O:=((O1.trans O2).trans O3).push (o := .lst [.int r1,.int (7+r2)])
 have key:∀(z:Int) (n:Nat),z=n->n<=12->(g=false->n<=6)->wSs Δ [q3 kd,q4 kd,q5 kd,q6 kd,q7 kd,q8 kd,q9 kd,q10 kd] (m6 Q) [some (.loc t),some (.bl g),some (.int w),some (.int z),none,none,none,none,none] (S3++[SO.lst [.int r1,.int (7+r2)]]):=by
  rintro _ n rfl hn hc;refine⟨by show 0<=big;decide,?_⟩;have A:Ah t S ((S3++[SO.lst [.int r1,.int (7+r2)]])++[SO.lst []]) (S3++[SO.lst [.int r1,.int (7+r2)]]).length []:=⟨T3.push.push,O.push,c7,O.len,t0⟩
  have r:=Pm (b:=g) hΔ hd w0 w1 hc A hn (Q:=Q) λn es l S' P C A=>q n es l S' P (λz=>C (by simpa using z)) A.at' A.new A.tape A.on;exact r
 cases g with
 | false=>exact⟨rfl,key r1 r1.toNat (by omega) (by omega) (λ_=>by omega)⟩
 | true=>exact⟨rfl,key (7+r2) (7+r2).toNat (by omega) (by omega) nofun⟩
end
noncomputable def u1(kd kp:Nat):Stm:=(.asg (.tup (.cons (.nm 2) (.cons (.nm 3) .nil))) (.call kp (.cons (.var 0) (.cons (.var 1) .nil))))
noncomputable def u2(kd kp:Nat):Stm:=(.iff (.cmp .Eq (.var 3) (.lst .nil)) [(.asg (.tup (.cons (.nm 2) (.cons (.nm 3) .nil))) (.call kp (.cons (.var 0) (.cons (.var 1) .nil))))] [])
noncomputable def u3(kd kp:Nat):Stm:=(.iff (.and (.cmp .NotEq (.var 3) (.lst .nil)) (.cmp .Eq (.call kd (.cons (.var 0) (.cons (.c (.int 4)) .nil))) (.c (.int 0)))) [(.asg (.nm 3) (.op .Add (.var 3) (.comp ["_law_turn"] ["_law_pairs","_law_tape_here"] [3,0] (.nm 0) (.rng1 (.op .Add (.c (.int 1)) (.call kd (.cons (.var 0) (.cons (.c (.int 3)) .nil))))) .no (.ix (.var 1) (.call kd (.cons (.var 2) (.cons (.bi .len (.cons (.var 1) .nil)) .nil)))))))] [])
noncomputable def u4(kd kp:Nat):Stm:=(.asg (.nm 4) (.lst .nil))
noncomputable def u5(kd kp:Nat):Stm:=(.loop (.tup (.cons (.nm 5) (.cons (.nm 6) .nil))) (.seq (.var 3)) [(.expr (.mt .insert (.var 4) (.cons (.call kd (.cons (.var 0) (.cons (.op .Add (.bi .len (.cons (.var 4) .nil)) (.c (.int 1))) .nil))) (.cons (.tup (.cons (.bi .min (.cons (.var 5) (.cons (.var 6) .nil))) (.cons (.bi .max (.cons (.var 5) (.cons (.var 6) .nil))) .nil))) .nil))))])
noncomputable def u6(kd kp:Nat):Stm:=(.ret (.tup (.cons (.var 2) (.cons (.bi .tuple (.cons (.var 4) .nil)) .nil))))
noncomputable def V8(kd kp:Nat):List Stm:=[u1 kd kp,u2 kd kp,u3 kd kp,u4 kd kp,u5 kd kp,u6 kd kp]
noncomputable def webS(n:Nat)(es:EE):SV := .tup [.int n,.tup (es.map pairS)]
structure Web(n:Nat)(es:EE):Prop where
 en:∀ e∈es,e.1<e.2/\e.2<n
 len:es.length<=39
 few:n<=12
noncomputable def Qg(s:Sn):Prop:=∀{t:Nat} {g:Bool} {S:Sto} {Q:QE},TapeS S t->(∀(n:Nat) (es:EE) (S':Sto),Web n es->TapeS S' t->On t S S'->Q (webS n es) S')->s [.loc t,.bl g] S Q
noncomputable def WebKSp(c:Bool->Bool)(s:Sn):Prop:=∀{t:Nat} {g:Bool} {S:Sto} {Q:QE},TapeS S t->(∀(n:Nat) (es:EE) (S':Sto),Web n es->(c g=true->n<=6/\es.length<=15)->TapeS S' t->On t S S'->Q (webS n es) S')->s [.loc t,.bl g] S Q
theorem WebKSp.sp{c:Bool->Bool}{s:Sn}(h:WebKSp c s):Qg s:=λT q=>h T λn es S' W _ t o=>q n es S' W t o
theorem GT{xs:List SV}:Dy xs []=xs.isEmpty:=by cases xs<;>rfl
section
variable{Δ:Nat->Sn}{kd kp:Nat}
theorem Dh(hΔ:∀ f,MonoN (Δ f))(hd:t9 (Δ kd)){t n l:Nat}{g:SV}{S0 S:Sto}{es:EE}{Q:QE}{o4 o5 o6:Option SV}(he:∀ e∈es,e.1<n/\e.2<n/\e.1≠e.2)(hl:es.length<=39)(hn:n<=12)(A:Ah t S0 S l es)
 (q:∀(fs:EE) (S':Sto),Web n fs->fs.length<=es.length->TapeS S' t->On t S0 S'->Q (webS n fs) S'):wSs Δ [u4 kd kp,u5 kd kp,u6 kd kp] (m6 Q) [some (.loc t),some g,some (.int n),some (.loc l),o4,o5,o6] S:=by
 refine⟨by show 0<=big;decide,?_⟩;have hlt:=J3 A.at';have htl:=A.tape.lt;refine⟨_,rfl,_,c5 A.push.at',?_⟩
 refine AB (l9 hΔ _) (λi ρ S2=>∃(fs:EE) (o5 o6:Option SV),ρ=[some (.loc t),some g,some (.int n),some (.loc l),some (.loc S.length),o5,o6]/\Ah t S0 S2 S.length fs/\S2[l]?=some (.lst (es.map pairS))/\(∀ e∈fs,e.1<e.2/\e.2<n)/\fs.length=i)
  ⟨[],o5,o6,rfl,⟨A.tape.push,A.on.push,c7,A.on.len,A.t0⟩,A.push.at',(λ_ h=>nomatch h),rfl⟩ (λi ρ S2 h=>?_) ?_ ?_
 ·obtain⟨fs,_,_,_,_,h2,_⟩:=h;exact h2.trans A.push.at'.symm
 ·rintro i x ρ S2 hx ⟨fs,p5,p6,rfl,A2,h2,hf,fl⟩;rw[Vx]at hx;cases hei:es[i]? with
  | none=>rw[hei]at hx;cases hx
  | some e=>
    rw[hei]at hx;have hx:pairS e=x:=oj hx;subst hx;have hil:=(gM hei).1;have hee:=he e (Vv hei);refine⟨_,rfl,⟨_,_,rfl,A2.at'⟩,_,rfl,_,rfl,_,c5 A2.at',hd A2.tape (by omega) (by rw[Vp];omega) λr S3 r0 r1 T3 O3 _=>?_⟩;have A3:=A2.draw T3 O3;rw[Vp]at r1;refine⟨_,rfl,_,rfl,_,rfl,_,rfl,by show 2<=big;decide,?_⟩;refine⟨_,A3.at',⟨r0,by rw[Vp];omega⟩,by rw[Vp];show _<100000;omega,?_⟩
    have key:∀(a b:Nat) (z1 z2:Int),z1=a->z2=b->a<b->b<n->∃(fs':EE) (o5 o6:Option SV),([some (.loc t),some g,some (.int n),some (.loc l),some (.loc S.length),some (.int e.1),some (.int e.2)]:EnvS)=[some (.loc t),some g,some (.int n),some (.loc l),some (.loc S.length),o5,o6]/\Ah t S0 (S3.set S.length (.lst ((fs.map pairS).take r.toNat ++ .tup [.int z1,.int z2]::(fs.map pairS).drop r.toNat))) S.length fs'/\(S3.set S.length (.lst ((fs.map pairS).take r.toNat ++ .tup [.int z1,.int z2]::(fs.map pairS).drop r.toNat)))[l]?=some (.lst (es.map pairS))/\(∀ e∈fs',e.1<e.2/\e.2<n)/\fs'.length=i+1:=by
     rintro a b _ _ rfl rfl hab hbn
     have e1:(fs.map pairS).take r.toNat++SV.tup [.int a,.int b]::(fs.map pairS).drop r.toNat=(fs.take r.toNat++(a,b)::fs.drop r.toNat).map pairS:=by
      rw[WB,WQ,ZN,ZO];rfl
     rw[e1];refine⟨_,_,_,rfl,A3.put,?_,λe' h=>?_,?_⟩
     ·rw[BJ (by omega)];exact O3.keep _ _ A.ne h2
     ·rcases WD.mp h with h | h
      ·exact hf e' (YZ h)
      ·rcases W4.mp h with h | h
       ·rw[h];exact⟨hab,hbn⟩
       ·exact hf e' (Ya h)
     ·rw[Vs,Wr,Wn,Xd];omega
    by_cases hc:e.1<e.2
    ·exact key e.1 e.2 _ _ (by rw[iG (by omega)]) (by rw[iP (by omega)]) hc hee.2.1
    ·exact key e.2 e.1 _ _ (by rw[iP (by omega)]) (by rw[iG (by omega)]) (by omega) hee.1
 ·rintro ρ S2 ⟨fs,p5,p6,rfl,A2,h2,hf,fl⟩;rw[Vp]at fl;exact⟨_,rfl,_,rfl,_,c5 A2.at',by show 2<=big;decide,q fs S2 ⟨hf,by omega,hn⟩ (by omega) A2.tape A2.on⟩
theorem GU(hΔ:∀ f,MonoN (Δ f))(hd:t9 (Δ kd)){t n l:Nat}{g:SV}{S0 S:Sto}{es:EE}{Q:QE}{o4 o5 o6:Option SV}(P:Prs n es)(A:Ah t S0 S l es)
 (q:∀(fs:EE) (S':Sto),Web n fs->fs.length<=es.length+3->TapeS S' t->On t S0 S'->Q (webS n fs) S'):wSs Δ [u3 kd kp,u4 kd kp,u5 kd kp,u6 kd kp] (m6 Q) [some (.loc t),some g,some (.int n),some (.loc l),o4,o5,o6] S:=by
 refine⟨_,rfl,by show 0<=big;decide,?_⟩;have A1:=A.push (o:=SO.lst []);refine⟨_,_,A1.at',c7,.inr (.inr rfl),_,rfl,?_⟩;rw[GT];refine ifB (λh1=>?_) (λh1=>ifF rfl (Dh hΔ hd P.en (by have:=P.len;omega) P.few A1 λfs S' W L=>q fs S' W (by omega)))
 have hpos:0<es.length:=by
  cases es with
  | nil=>cases h1
  | cons _ _=>simp
 refine⟨_,rfl,hd A1.tape (by decide) (by decide) λr S2 r0 r1 T2 O2 _=>⟨_,rfl,?_⟩⟩;have A2:=A1.draw T2 O2;refine ifD (λ_=>?_) (λ_=>Dh hΔ hd P.en (by have:=P.len;omega) P.few A2 λfs S' W L=>q fs S' W (by omega));refine⟨_,rfl,_,rfl,hd A2.tape (by decide) (by decide) λr3 S3 a0 a1 T3 O3 _=>⟨_,rfl,⟨by omega,by omega⟩,?_⟩⟩;have A3:=A2.draw T3 O3;refine i5 (j6 hΔ _).2 (c4 hΔ _).1 (λi ys S4=>Ah t S0 S4 l es/\∃ fs:EE,ys=fs.map pairS/\(∀ e∈fs,e∈es)/\fs.length=i) ⟨A3,[],rfl,(λ_ h=>nomatch h),rfl⟩ (λ_ _ _ _=>trivial) ?_ ?_
 ·rintro i x ys S4 hx ⟨A4,fs,rfl,hf,fl⟩;obtain⟨rfl,hi⟩:=n8 hx;refine⟨_,rfl,_,rfl,_,rfl,_,c5 A4.at',hd A4.tape (by rw[Vp];omega) (by rw[Vp];have:=P.len;omega) λr5 S5 b0 b1 T5 O5 _=>?_⟩;have A5:=A4.draw T5 O5;rw[Vp]at b1;have hr:r5.toNat<es.length:=by omega
  refine⟨_,pairS es[r5.toNat],c5 A5.at',?_,by rw[Vp];show _<100000;omega,A5,fs++[es[r5.toNat]],?_,λe h=>?_,by simp[fl]⟩
  ·have:=j4 (xs:=es.map pairS) (j:=r5.toNat) (v:=pairS es[r5.toNat]) (by rw[Vx,Vq hr];rfl)
   rwa [Xn b0]at this
  ·rw[WB];rfl
  ·rcases WD.mp h with h | h
   ·exact hf e h
   ·rw[W1.mp h];exact Wi hr
 ·rintro ys S4 ⟨A4,fs,rfl,hf,fl⟩;rw[o9]at fl;have A5:=A4.push (o := .lst (fs.map pairS));have hPl:=P.len;refine⟨_,_,A5.at',c7,by simp;show _<=100000;omega,?_⟩;rw[<-WB];refine Dh hΔ hd (es:=es++fs) (λe h=>?_) (by rw[Vs];omega) P.few ⟨A5.tape.push,A5.on.push,c7,?_,A.t0⟩ λfs' S' W L=>q fs' S' W (by rw[Vs]at L;omega)
  ·rcases WD.mp h with h | h
   ·exact P.en e h
   ·exact P.en e (hf e h)
  ·have:=A5.on.len;exact this
theorem Pn{c:Bool->Bool}(hΔ:∀ f,MonoN (Δ f))(hd:t9 (Δ kd))(hp:De c (Δ kp)){D:Df}(hb:D.body=V8 kd kp)(hN:D.N.length=7)(hps:D.ps.length=2):WebKSp c (i4 Δ D):=by
 intro t g S Q T q;unfold i4;rw[hb,hN];refine⟨hps.symm,?_⟩;have t0:=T.lt;refine⟨_,rfl,_,rfl,hp T λn es l S1 P C h1 hl T1 O1=>?_⟩;have A1:Ah t S S1 l es:=⟨T1,O1,h1,hl,t0⟩
 refine⟨_,rfl,by show 0<=big;decide,?_⟩;have A2:=A1.push (o:=SO.lst []);refine⟨_,_,A2.at',c7,.inr (.inr rfl),_,rfl,?_⟩;rw[GT];refine ifB (λ_=>?_) (λ_=>GU hΔ hd P A2 λfs S' W L T' O'=>q n fs S' W (λz=>by have:=C z;omega) T' O');refine⟨_,rfl,_,rfl,hp A2.tape λn es l S3 P3 C h3 hl3 T3 O3=>?_⟩;exact GU hΔ hd P3 ⟨T3,A2.on.trans O3,h3,by have:=A2.on.len;omega,t0⟩ λfs S' W L T' O'=>q n fs S' W (λz=>by have:=C z;omega) T' O'
end
noncomputable def Hm:List Stm:=[(.ret (.and (.bi .isi (.cons (.var 0) (.cons (.tyc .int) .nil))) (.not (.bi .isi (.cons (.var 0) (.cons (.tyc .bool) .nil))))))]
noncomputable def Cc(k:Nat):List Stm:=[(.ret (.and (.call k (.cons (.var 1) .nil)) (.chn .LtE .Lt (.c (.int 0)) (.var 1) (.ix (.var 0) (.c (.int 0))))))]
noncomputable def J4(k:Nat):List Stm:=[(.ret (.and (.call k (.cons (.var 1) .nil)) (.chn .LtE .Lt (.c (.int 0)) (.var 1) (.bi .len (.cons (.ix (.var 0) (.c (.int 1))) .nil)))))]
noncomputable def NB(k:Nat):List Stm:=[(.iff (.not (.call k (.cons (.var 0) (.cons (.var 1) .nil)))) [.no] [])]
noncomputable def J5(k:Nat):List Stm:=[(.expr (.call k (.cons (.var 0) (.cons (.var 1) .nil)))),(.ret (.comp ["tie","ends"] ["place"] [1] (.tup (.cons (.nm 0) (.cons (.nm 1) .nil))) (.enum (.ix (.var 0) (.c (.int 1)))) (.yes (.cmp .In (.var 2) (.var 1))) (.var 0)))]
noncomputable def J6(k:Nat):List Stm:=[(.expr (.call k (.cons (.var 0) (.cons (.var 1) .nil)))),(.asg (.tup (.cons (.nm 3) (.cons (.nm 4) .nil))) (.ix (.ix (.var 0) (.c (.int 1))) (.var 1))),(.iff (.cmp .Eq (.var 2) (.var 3)) [(.ret (.var 4))] []),(.iff (.cmp .Eq (.var 2) (.var 4)) [(.ret (.var 3))] []),.no]
noncomputable def CD(s:Sn):Prop:=∀{i:Int} {S:Sto} {Q:QE},Q (.bl true) S->s [.int i] S Q
noncomputable def C1(s:Sn):Prop:=∀{n p:Nat} {es:EE} {S:Sto} {Q:QE},p<n->Q (.bl true) S->s [webS n es,.int p] S Q
noncomputable def BW(s:Sn):Prop:=∀{n j:Nat} {es:EE} {S:Sto} {Q:QE},j<es.length->Q (.bl true) S->s [webS n es,.int j] S Q
noncomputable def BC(s:Sn):Prop:=∀{n p:Nat} {es:EE} {S:Sto} {Q:QE},p<n->Q .non S->s [webS n es,.int p] S Q
noncomputable def BD(s:Sn):Prop:=∀{n j:Nat} {es:EE} {S:Sto} {Q:QE},j<es.length->Q .non S->s [webS n es,.int j] S Q
noncomputable def y8(es:EE)(p:Nat)(i:Nat):List Nat:=(Vw i).filter λj=>match es[j]? with | some e=>decide (e.1=p)||decide (e.2=p) | none=>false
noncomputable def natS(xs:List Nat):List SV:=xs.map λ(i:Nat)=>SV.int i
noncomputable def CF(s:Sn):Prop:=∀{n p:Nat} {es:EE} {S:Sto} {Q:QE},es.length<=5000->p<n->Q (.loc S.length) (S++[.lst (natS (y8 es p es.length))])->s [webS n es,.int p] S Q
noncomputable def C2(e:Nat×Nat)(p:Nat):Nat:=if p=e.1 then e.2 else e.1
noncomputable def CG(s:Sn):Prop:=∀{n p j:Nat} {es:EE} {e:Nat×Nat} {S:Sto} {Q:QE},es[j]?=some e->(p=e.1\/p=e.2)->Q (.int (C2 e p)) S->s [webS n es,.int j,.int p] S Q
section
variable{Δ:Nat->Sn}
theorem NC{D:Df}(hb:D.body=Hm)(hN:D.N.length=1)(hp:D.ps.length=1):CD (i4 Δ D):=by
 intro i S Q q;unfold i4;rw[hb,hN];exact⟨hp.symm,_,rfl,_,nofun,rfl,_,rfl,ifT rfl ⟨_,rfl,_,nofun,rfl,_,rfl,q⟩⟩
theorem GV{k:Nat}(h0:CD (Δ k)){D:Df}(hb:D.body=Cc k)(hN:D.N.length=2)(hp:D.ps.length=2):C1 (i4 Δ D):=by
 intro n p es S Q h q;unfold i4;rw[hb,hN];refine⟨hp.symm,_,rfl,h0 ⟨_,rfl,ifT rfl ⟨_,rfl,_,rfl,ifT (decide_eq_true (Yj p)) ⟨_,rfl,_,_,rfl,rfl,?_⟩⟩⟩⟩;show Q (.bl (decide ((p:Int)<n))) S;rw[decide_eq_true (by omega)];exact q
theorem Kc{k:Nat}(h0:CD (Δ k)){D:Df}(hb:D.body=J4 k)(hN:D.N.length=2)(hp:D.ps.length=2):BW (i4 Δ D):=by
 intro n p es S Q h q;unfold i4;rw[hb,hN];refine⟨hp.symm,_,rfl,h0 ⟨_,rfl,ifT rfl ⟨_,rfl,_,rfl,ifT (decide_eq_true (Yj p)) ⟨_,rfl,_,_,rfl,rfl,_,rfl,?_⟩⟩⟩⟩;show Q (.bl (decide ((p:Int)<(es.map pairS).length))) S;rw[decide_eq_true (by rw[Vp];omega)];exact q
theorem GW{k:Nat}(h0:BW (Δ k)){D:Df}(hb:D.body=NB k)(hN:D.N.length=2)(hp:D.ps.length=2):BD (i4 Δ D):=by
 intro n p es S Q h q;unfold i4;rw[hb,hN];exact⟨hp.symm,_,rfl,_,rfl,h0 h ⟨_,rfl,ifF rfl q⟩⟩
theorem BX{xs:List SV}{i:Nat}{x:SV}(h:(BH xs)[i]?=some x):∃ y,xs[i]?=some y/\x = .tup [.int i,y]:=by
 unfold BH at h;rw[YS]at h;cases hy:xs[i]? with
 | none=>rw[hy]at h;revert h;cases(Vw xs.length)[i]?<;>exact nofun
 | some y=>
   have hi:=(gM hy).1;rw[hy,Wv hi]at h;exact⟨y,rfl,(oj h).symm⟩
theorem Af{xs:List SV}:(BH xs).length=xs.length:=by unfold BH;simp
theorem BY{es:EE}{i:Nat}{x:SV}(h:(es.map pairS)[i]?=some x):∃ e,es[i]?=some e/\x=pairS e:=by
 rw[Vx]at h;cases he:es[i]? with
 | none=>rw[he]at h;cases h
 | some e=>rw[he]at h;exact⟨e,rfl,(oj h).symm⟩
theorem Cu(p:Nat)(e:Nat×Nat):inS (.int p) [.int e.1,.int e.2]=(decide (e.1=p)||decide (e.2=p)):=by
 have k:∀ a:Nat,((a:Int) == (p:Int))=decide (a=p):=λa=>by
  rw[Wa];simp[WX]
 unfold inS;simp only[Wx,Yy,Xy,eqF,k]
theorem BZ(es:EE)(p i:Nat){e:Nat×Nat}(h:es[i]?=some e):y8 es p (i+1)=y8 es p i++if (decide (e.1=p)||decide (e.2=p))=true then [i] else []:=by
 unfold y8;rw[Xi,Xf]
 congr 1
 rw[XQ,h];rfl
theorem Hn(es:EE)(p i:Nat):(y8 es p i).length<=i:=by
 have:=XU (λj=>match es[j]? with | some e=>decide (e.1=p)||decide (e.2=p) | none=>false) (Vw i);rw[WY]at this;exact this
theorem mem_tiesAt{es:EE}{p j:Nat}:j∈y8 es p es.length↔∃ e,es[j]?=some e/\(e.1=p\/e.2=p):=by
 unfold y8;rw[Wj,WJ];constructor
 ·rintro⟨h,h2⟩;rw[Vq h]at h2;exact⟨_,Vq h,by simpa using h2⟩
 ·rintro⟨e,h,h2⟩;refine⟨(gM h).1,?_⟩;rw[h];simpa using h2
theorem Ke{k:Nat}(hΔ:∀ f,MonoN (Δ f))(h0:BC (Δ k)){D:Df}(hb:D.body=J5 k)(hN:D.N.length=2)(hp:D.ps.length=2):CF (i4 Δ D):=by
 intro n p es S Q hl h q;unfold i4;rw[hb,hN];refine⟨hp.symm,_,rfl,_,rfl,h0 h ⟨_,rfl,_,_,rfl,rfl,_,rfl,?_⟩⟩;refine i5 (j6 hΔ _).2 (c4 hΔ _).1 (λi ys S'=>S'=S/\ys=natS (y8 es p i)) ⟨rfl,rfl⟩ (λ_ _ _ _=>trivial) ?_ ?_
 ·rintro i x ys S' hx ⟨rfl,rfl⟩;obtain⟨y,hy,rfl⟩:=BX hx;obtain⟨e,he,rfl⟩:=BY hy;have hi:=(gM he).1;have ht:=Hn es p i;refine⟨_,rfl,_,rfl,rfl,_,rfl,rfl,_,rfl,?_⟩;show if inS (.int p) [.int e.1,.int e.2]=true then _ else _
  rw[Cu];refine ifB (λh=>?_) (λh=>?_)
  ·refine⟨_,rfl,by show(natS _).length<100000;unfold natS;rw[Vp];omega,rfl,?_⟩;rw[BZ es p i he,iP h];unfold natS;rw[WB];rfl
  ·refine⟨rfl,?_⟩;rw[BZ es p i he,iG (by rw[h];decide),X0]
 ·rintro ys S' ⟨rfl,rfl⟩;rw[Af,Vp];exact q
theorem Kf{k:Nat}(h0:BD (Δ k)){D:Df}(hb:D.body=J6 k)(hN:D.N.length=5)(hp:D.ps.length=3):CG (i4 Δ D):=by
 intro n p j es e S Q he h q;unfold i4;rw[hb,hN];refine⟨hp.symm,_,rfl,_,rfl,h0 (gM he).1 ⟨_,rfl,_,_,rfl,rfl,_,rfl,_,pairS e,rfl,j4 (by rw[Vx,he];rfl),?_⟩⟩;refine⟨_,rfl,_,rfl,_,rfl,?_⟩;refine ifD (λh1=>⟨_,rfl,?_⟩) (λh1=>⟨_,rfl,_,rfl,_,rfl,ifD (λh2=>⟨_,rfl,?_⟩) (λh2=>?_)⟩)
 ·have h1:p=e.1:=WX.mp h1;unfold C2 at q;rw[iP h1]at q;exact q
 ·have h1:¬ p=e.1:=λz=>h1 (congrArg _ z);unfold C2 at q;rw[iG h1]at q;exact q
 ·rcases h with h | h
  ·exact absurd (congrArg Nat.cast h) h1
  ·exact absurd (congrArg Nat.cast h) h2
end
theorem i3{xs:List Nat}:(natS xs).length=xs.length:=by unfold natS;rw[Vp]
theorem y6{xs:List Nat}{i x:Nat}(h:xs[i]?=some x):(natS xs)[i]?=some (.int x):=by unfold natS;rw[Vx,h];rfl
theorem r6{xs ys:List Nat}:natS (xs++ys)=natS xs++natS ys:=by unfold natS;rw[WB]
theorem Po(m:Nat):u8 0 (m:Int)=natS (Vw m):=by
 unfold u8 natS;simp
noncomputable def Cn:Option Nat->SV
 | some j => .int j
 | none => .non
noncomputable def optsS(xs:List (Option Nat)):List SV:=xs.map Cn
theorem ND{xs:List (Option Nat)}{i:Nat}{x:Option Nat}(h:xs[i]?=some x):(optsS xs)[i]?=some (Cn x):=by unfold optsS;rw[Vx,h];rfl
structure Gw(S S':Sto):Prop where
 len:S.length<=S'.length
 keep:∀(k:Nat) (o:SO),S[k]?=some o->S'[k]?=some o
theorem Gw.refl(S:Sto):Gw S S:=⟨W0 _,λ_ _ h=>h⟩
theorem Gw.push{S S':Sto}{o:SO}(h:Gw S S'):Gw S (S'++[o]):=⟨by rw[Vs];have:=h.len;omega,λk u z=>f9 (h.keep k u z)⟩
theorem Gw.put{S S':Sto}{o:SO}{k:Nat}(h:Gw S S')(hk:S.length<=k):Gw S (S'.set k o):=⟨by rw[Wg];exact h.len,λj u z=>by
 rw[BJ (λe=>by have:=J3 z;omega)];exact h.keep j u z⟩
theorem Gw.trans{S S' S'':Sto}(a:Gw S S')(b:Gw S' S''):Gw S S'':=⟨Wd a.len b.len,λk o h=>b.keep k o (a.keep k o h)⟩
theorem w9{xs:List (Option Nat)}:(optsS xs).length=xs.length:=by unfold optsS;rw[Vp]
noncomputable def g1':Stm:=(.asg (.nm 1) (.lrng1 (.ix (.var 0) (.c (.int 0)))))
noncomputable def g2':Stm:=(.loop (.tup (.cons (.nm 2) (.cons (.nm 3) .nil))) (.seq (.ix (.var 0) (.c (.int 1)))) [(.asg (.nm 4) (.bi .min (.cons (.ix (.var 1) (.var 2)) (.cons (.ix (.var 1) (.var 3)) .nil)))),(.asg (.nm 5) (.bi .max (.cons (.ix (.var 1) (.var 2)) (.cons (.ix (.var 1) (.var 3)) .nil)))),(.asg (.nm 1) (.comp ["first"] ["high","low"] [5,4] (.nm 0) (.seq (.var 1)) .no (.ife (.cmp .Eq (.var 0) (.var 1)) (.var 2) (.var 0))))])
noncomputable def g3':Stm:=(.ret (.comp ["first"] ["least","web"] [1,0] (.nm 0) (.rng1 (.ix (.var 0) (.c (.int 0)))) (.yes (.cmp .Eq (.ix (.var 1) (.var 0)) (.var 0))) (.comp ["place"] ["least","first"] [1,0] (.nm 0) (.rng1 (.ix (.var 2) (.c (.int 0)))) (.yes (.cmp .Eq (.ix (.var 1) (.var 0)) (.var 2))) (.var 0))))
noncomputable def NE:List Stm:=[g1',g2',g3']
noncomputable def E1(a b x:Nat):Nat:=if x=max a b then min a b else x
theorem Pp(a b:Nat):(if (b:Int)<a then (b:Int) else a)=((min a b:Nat):Int):=by split<;>omega
theorem Pq(a b:Nat):(if (b:Int)>a then (b:Int) else a)=((max a b:Nat):Int):=by split<;>omega
noncomputable def gc':Stm:=(.asg (.nm 1) (.comp ["first"] ["high","low"] [5,4] (.nm 0) (.seq (.var 1)) .no (.ife (.cmp .Eq (.var 0) (.var 1)) (.var 2) (.var 0))))
theorem NF{Δ:Nat->Sn}(hΔ:∀ f,MonoN (Δ f)){D:EndsS}{a b k:Nat}{z1 z2:Int}{w o2 o3:Option SV}{ms:List Nat}{S:Sto}(e1:z1=((min a b:Nat):Int))(e2:z2=((max a b:Nat):Int))(hl:ms.length<=1000)(hk:S[k]?=some (.lst (natS ms)))
 (q:D.nx [w,some (.loc S.length),o2,o3,some (.int z1),some (.int z2)] (S++[.lst (natS (ms.map (E1 a b)))])):wSs Δ [gc'] D [w,some (.loc k),o2,o3,some (.int z1),some (.int z2)] S:=by
 subst e1 e2;refine⟨_,rfl,_,c5 hk,?_⟩;refine i5 (j6 hΔ _).2 (c4 hΔ _).1 (λj ys S2=>S2=S/\ys=natS ((ms.take j).map (E1 a b))) ⟨rfl,rfl⟩ (λ_ _ _ h=>by rw[h.1];exact rfl) ?_ ?_
 ·rintro j y ys S2 hy ⟨rfl,rfl⟩;have hj:j<ms.length:=by have:=(gM hy).1;rwa [i3]at this
  rw[y6 (Vq hj)]at hy;have hy:=oj hy;subst hy
  have fin:∀ z:Int,z=E1 a b ms[j]->(natS ((ms.take j).map (E1 a b))).length<big/\S2=S2/\natS ((ms.take j).map (E1 a b))++[.int z]=natS ((ms.take (j+1)).map (E1 a b)):=by
   rintro _ rfl;refine⟨by rw[i3,Vp,Wn];show _<100000;omega,rfl,?_⟩;rw[Wz,Vq hj,WB,r6];rfl
  refine⟨_,rfl,_,rfl,_,rfl,ifD (λh=>⟨_,rfl,fin _ ?_⟩) (λh=>⟨_,rfl,fin _ ?_⟩)⟩
  ·have h:ms[j]=max a b:=WX.mp h;unfold E1;rw[iP h]
  ·have h:¬ ms[j]=max a b:=λz=>h (congrArg _ z);unfold E1;rw[iG h]
 ·rintro ys S2 ⟨rfl,rfl⟩;rw[i3,Wt];exact q
end Rf
namespace Hue
noncomputable def lowO(ms:List Nat)(e:Nat×Nat):Nat:=min (ms.getD e.1 0) (ms.getD e.2 0)
noncomputable def highO(ms:List Nat)(e:Nat×Nat):Nat:=max (ms.getD e.1 0) (ms.getD e.2 0)
noncomputable def bring(ms:List Nat)(e:Nat×Nat):List Nat:=ms.map λx=>if x=highO ms e then lowO ms e else x
noncomputable def CH(n:Nat)(es:EE):List Nat:=es.foldl bring (Vw n)
structure Mk(n:Nat)(ms:List Nat):Prop where
 len:ms.length=n
 le:∀ i (h:i<ms.length),ms[i]<=i
 fix:∀ i (h:i<ms.length),ms[ms[i]]?=some ms[i]
theorem GX(n:Nat):Mk n (Vw n):=⟨by simp,λi h=>by simp,λi h=>by
 have hi:i<n:=by simpa using h
 simp[Wv,hi]⟩
theorem NG{n:Nat}{ms:List Nat}(M:Mk n ms){e:Nat×Nat}(h1:e.1<n)(h2:e.2<n):Mk n (bring ms e):=by
 have l1:e.1<ms.length:=by rw[M.len];exact h1
 have l2:e.2<ms.length:=by rw[M.len];exact h2
 have g1:ms.getD e.1 0=ms[e.1]:=by simp[X9,l1]
 have g2:ms.getD e.2 0=ms[e.2]:=by simp[X9,l2]
 have fl:ms[lowO ms e]?=some (lowO ms e):=by
  unfold lowO;rw[g1,g2];rcases ZT ms[e.1] ms[e.2] with z | z
  ·rw[ZD z];exact M.fix _ l1
  ·rw[Z6 z];exact M.fix _ l2
 have hlh:lowO ms e<=highO ms e:=by unfold lowO highO;omega
 have at':∀ i (h:i<(bring ms e).length),(bring ms e)[i]=if ms[i]'(by simpa[bring] using h)=highO ms e then lowO ms e else ms[i]'(by simpa[bring] using h):=λi h=>by simp[bring]
 refine⟨by rw[bring,Vp,M.len],λi h=>?_,λi h=>?_⟩
 ·rw[at' i h];have hi:i<ms.length:=by simpa[bring] using h
  have:=M.le i hi;split
  ·rename_i q;omega
  ·exact this
 ·have hi:i<ms.length:=by simpa[bring] using h
  have key:∀ v,ms[v]?=some v->(v≠highO ms e\/v=lowO ms e)->(bring ms e)[v]?=some v:=by
   intro v hv q;unfold bring;rw[Vx,hv];show some (if v=highO ms e then lowO ms e else v)=some v;rcases q with q | q
   ·rw[iG q]
   ·split
    ·rw[<-q]
    ·rfl
  rw[at' i h];split
  ·exact key _ fl (.inr rfl)
  ·rename_i q;exact key _ (M.fix i hi) (.inl q)
theorem Di{n:Nat}:∀{es:EE} {ms:List Nat},Mk n ms->(∀ e∈es,e.1<n/\e.2<n)->Mk n (es.foldl bring ms)
 | [],_,M,_=>M
 | e::es,ms,M,h=>Di (es:=es) (ms:=bring ms e) (NG M (h e (WG ..)).1 (h e (WG ..)).2) λf hf=>h f (W5 _ hf)
noncomputable def Cl(es:EE)(C:Nat->Prop):Prop:=∀ e∈es,C e.1↔C e.2
theorem Ba{ms:List Nat}{e:Nat×Nat}{p:Nat}(h:p<ms.length):(bring ms e).getD p 0=if ms.getD p 0=highO ms e then lowO ms e else ms.getD p 0:=by
 unfold bring;simp[X9,h]
theorem Bj{ms:List Nat}{e:Nat×Nat}:(bring ms e).length=ms.length:=by simp[bring]
theorem GY(ms:List Nat)(e:Nat×Nat):(lowO ms e=ms.getD e.1 0/\highO ms e=ms.getD e.2 0)\/(lowO ms e=ms.getD e.2 0/\highO ms e=ms.getD e.1 0):=by
 unfold lowO highO;rcases ZT (ms.getD e.1 0) (ms.getD e.2 0) with z | z
 ·exact .inl ⟨ZD z,Nat.max_eq_right z⟩
 ·exact .inr ⟨Z6 z,Nat.max_eq_left z⟩
theorem GZ{n:Nat}{C:Nat->Prop}:∀{es:EE} {ms:List Nat},ms.length=n->(∀ e∈es,e.1<n/\e.2<n)->Cl es C->(∀ p,p<n->(C p↔C (ms.getD p 0)))->∀ p,p<n->(C p↔C ((es.foldl bring ms).getD p 0))
 | [],_,_,_,_,h=>h
 | e::es,ms,hl,hn,hc,h=>by
   refine GZ (es:=es) (ms:=bring ms e) (by rw[Bj,hl]) (λf hf=>hn f (W5 _ hf)) (λf hf=>hc f (W5 _ hf)) λp hp=>?_;have he:=hn e (WG ..);have c1:=h e.1 he.1;have c2:=h e.2 he.2;have c0:=hc e (WG ..);have hp0:=h p hp;rw[Ba (by omega)];split
   ·rename_i z;rw[z]at hp0;rcases GY ms e with⟨a,b⟩ | ⟨a,b⟩
    ·rw[a];rw[b]at hp0;exact hp0.trans (c2.symm.trans (c0.symm.trans c1))
    ·rw[a];rw[b]at hp0;exact hp0.trans (c1.symm.trans (c0.trans c2))
   ·exact hp0
theorem NH{n:Nat}{es:EE}{C:Nat->Prop}(hn:∀ e∈es,e.1<n/\e.2<n)(hc:Cl es C){p:Nat}(hp:p<n):C p↔C ((CH n es).getD p 0):=by
 refine GZ (ms:=Vw n) (by simp) hn hc (λq hq=>?_) p hp;simp[X9,hq]
theorem Ga{n:Nat}{a b:Nat}:∀{es:EE} {ms:List Nat},ms.length=n->a<n->b<n->ms.getD a 0=ms.getD b 0->(es.foldl bring ms).getD a 0=(es.foldl bring ms).getD b 0
 | [],_,_,_,_,h=>h
 | e::es,ms,hl,ha,hb,h=>by
   refine Ga (es:=es) (ms:=bring ms e) (by rw[Bj,hl]) ha hb ?_;rw[Ba (by omega),Ba (by omega),h]
theorem EW{n:Nat}:∀{es:EE} {ms:List Nat},ms.length=n->(∀ e∈es,e.1<n/\e.2<n)->∀ e∈es,(es.foldl bring ms).getD e.1 0=(es.foldl bring ms).getD e.2 0
 | f::es,ms,hl,hn,e,he=>by
   rcases W4.mp he with rfl | he
   ·have hb:=hn e (WG ..);refine Ga (es:=es) (ms:=bring ms e) (by rw[Bj,hl]) hb.1 hb.2 ?_;rw[Ba (by omega),Ba (by omega)];rcases GY ms e with⟨a,b⟩ | ⟨a,b⟩
    ·rw[a,b];simp
    ·rw[a,b];simp
   ·exact EW (es:=es) (ms:=bring ms f) (by rw[Bj,hl]) (λg hg=>hn g (W5 _ hg)) e he
theorem Ho{n:Nat}{es:EE}(hn:∀ e∈es,e.1<n/\e.2<n):∀ e∈es,(CH n es).getD e.1 0=(CH n es).getD e.2 0:=EW (by simp) hn
end Hue
namespace L2
open PySem PySem.Spec PyProof.Rows
structure Sz(k b:Nat)(d:PyData):Prop where
 dp:d.depth<=k
 bk:d.bulk<=b
 sh:d.showable=true
 lf:d.leavesShort 100=true
end L2
namespace Rf
open PySem L2
noncomputable def u9(es:EE)(t:Nat):Nat×Nat:=es.getD t (0,0)
theorem CI{es:EE}{t:Nat}(h:t<es.length):es[t]?=some (u9 es t):=by
 unfold u9;rw[Vt,Vq h];rfl
section
variable{Δ:Nat->Sn}
theorem i0{D:EndsS}{ρ:EnvS}{S:Sto}(h:D.nx ρ S):wSs Δ [] D ρ S:=h
end
end Rf
namespace Hue
noncomputable def mk(n:Nat)(es:EE)(p:Nat):Nat:=(CH n es).getD p 0
section
variable{n:Nat}{es:EE}(hn:∀ e∈es,e.1<n/\e.2<n)
include hn
theorem V9{p:Nat}(hp:p<n):mk n es p<=p:=by
 have M:Mk n (CH n es):=Di (GX n) hn;have hpm:p<(CH n es).length:=by rw[M.len];exact hp
 have:=M.le p hpm;unfold mk;simpa[X9,hpm] using this
theorem mk_lt{p:Nat}(hp:p<n):mk n es p<n:=XR (V9 hn hp) hp
theorem mk_mk{p:Nat}(hp:p<n):mk n es (mk n es p)=mk n es p:=by
 have M:Mk n (CH n es):=Di (GX n) hn;have hpm:p<(CH n es).length:=by rw[M.len];exact hp
 have:=M.fix p hpm;have e:mk n es p=(CH n es)[p]:=by unfold mk;simp[X9,hpm]
 rw[e];unfold mk;rw[Vt,this];rfl
theorem Qh{C:Nat->Prop}(hc:Cl es C){p:Nat}(hp:p<n):C p↔C (mk n es p):=NH hn hc hp
theorem mk_ends:∀ e∈es,mk n es e.1=mk n es e.2:=Ho hn
theorem mk_same{C:Nat->Prop}(hc:Cl es C){p q:Nat}(hp:p<n)(hq:q<n)(h:mk n es p=mk n es q):C p↔C q:=by
 rw[Qh hn hc hp,h];exact(Qh hn hc hq).symm
end
end Hue
namespace Rf
open PySem L2
theorem Kg{ms:List Nat}{e:Nat×Nat}{a b:Nat}(ha:ms[e.1]?=some a)(hb:ms[e.2]?=some b):Hue.bring ms e=ms.map (E1 a b):=by
 have g1:ms.getD e.1 0=a:=by rw[Vt,ha];rfl
 have g2:ms.getD e.2 0=b:=by rw[Vt,hb];rfl
 unfold Hue.bring Hue.highO Hue.lowO;rw[g1,g2];rfl
noncomputable def Qi(k:Nat):List Stm:=[(.loop (.nm 2) (.seq (.var 1)) [(.expr (.call k (.cons (.var 0) (.cons (.var 2) .nil))))]),(.ret (.tup (.cons (.ix (.var 0) (.c (.int 0))) (.cons (.bi .tuple (.cons (.comp ["tie"] ["web"] [0] (.nm 0) (.seq (.var 1)) .no (.ix (.ix (.var 1) (.c (.int 1))) (.var 0))) .nil)) .nil))))]
noncomputable def FC(s:Sn):Prop:=∀{n k:Nat} {es:EE} {js:List Nat} {S:Sto} {Q:QE},S[k]?=some (.lst (natS js))->js.length<=1000->(∀ j∈js,j<es.length)->(∀(S':Sto),Gw S S'->Q (webS n (js.map λj=>es.getD j (0,0))) S')->s [webS n es,.loc k] S Q
theorem AQ{xs:List Nat}{i:Nat}{x:SV}(h:(natS xs)[i]?=some x):∃ j,xs[i]?=some j/\x = .int j:=by
 unfold natS at h;rw[Vx]at h;cases hx:xs[i]? with
 | none=>rw[hx]at h;cases h
 | some j=>rw[hx]at h;exact⟨j,rfl,(oj h).symm⟩
theorem Ps{Δ:Nat->Sn}(hΔ:∀ f,MonoN (Δ f)){kc:Nat}(hc:BD (Δ kc)){D:Df}(hb:D.body=Qi kc)(hN:D.N.length=3)(hp:D.ps.length=2):FC (i4 Δ D):=by
 intro n k es js S Q hk hl hj q;unfold i4;rw[hb,hN];refine⟨hp.symm,_,rfl,_,c5 hk,?_⟩;refine AB (l9 hΔ _) (λi ρ S'=>∃ o,ρ=[some (webS n es),some (.loc k),o]/\S'=S) ⟨none,rfl,rfl⟩ (λ_ _ _ ⟨_,_,h⟩=>by rw[h];exact rfl) ?_ ?_
 ·rintro i x ρ S' hx ⟨o,rfl,rfl⟩;obtain⟨j,hji,rfl⟩:=AQ hx;exact⟨_,rfl,_,rfl,hc (hj j (Vv hji)) ⟨_,rfl,rfl⟩⟩
 ·rintro ρ S' ⟨o,rfl,rfl⟩;refine⟨_,rfl,_,_,rfl,rfl,_,rfl,_,c5 hk,?_⟩;refine i5 (j6 hΔ _).2 (c4 hΔ _).1 (λi ys S2=>S2=S'/\ys=((js.take i).map λj=>es.getD j (0,0)).map pairS) ⟨rfl,rfl⟩ (λ_ _ _ h=>by rw[h.1];exact rfl) ?_ ?_
  ·rintro i x ys S2 hx ⟨rfl,rfl⟩;obtain⟨j,hji,rfl⟩:=AQ hx;have hjl:=hj j (Vv hji);have hil:=(gM hji).1;have he:=Vq hjl;refine⟨_,rfl,_,_,rfl,rfl,_,rfl,_,pairS es[j],rfl,j4 (by rw[Vx,he];rfl),?_⟩;refine⟨by rw[Vp,Vp,Wn];show _<100000;omega,rfl,?_⟩;rw[Wz,hji,WB,WB]
   congr 1
   show[pairS es[j]]=[pairS (es.getD j (0,0))]
   rw[Vt,he];rfl
  ·rintro ys S2 ⟨rfl,rfl⟩;rw[i3,Wt];exact⟨_,c5 c7,by show 2<=big;decide,q _ (Gw.refl S2).push⟩
theorem NI(p:Nat)(xs:List Nat):inS (.int p) (natS xs)=decide (p∈xs):=by
 rw[Wa,dQ];unfold inS natS;rw[Yw,Xe];constructor
 ·rintro⟨a,ha,h⟩;have h:((a:Int) == (p:Int))=true:=h;rw[bQ]at h;have:=WX.mp h;rw[<-this];exact ha
 ·intro h;exact⟨p,h,by show((p:Int) == (p:Int))=true;simp⟩
end Rf
namespace Hue
end Hue
namespace Rf
open PySem L2
theorem CJ(P:Nat->Bool)(i:Nat):(Vw (i+1)).filter P=(Vw i).filter P++if P i=true then [i] else []:=by
 rw[Xi,Xf,XQ];cases P i<;>rfl
theorem Ag(P:Nat->Bool)(i:Nat):((Vw i).filter P).length<=i:=by
 have:=XU P (Vw i)
 rwa [WY]at this
noncomputable def v9(m:Nat->Nat)(n:Nat):List Nat:=(Vw n).filter λf=>decide (m f=f)
noncomputable def BL(m:Nat->Nat)(n f:Nat):List Nat:=(Vw n).filter λt=>decide (m t=f)
structure Cls(S:Sto)(l:Nat)(ls:List Nat)(cs:List (List Nat)):Prop where
 top:S[l]?=some (.lst (ls.map SV.loc))
 len:ls.length=cs.length
 row:∀(i k:Nat) (c:List Nat),ls[i]?=some k->cs[i]?=some c->S[k]?=some (.lst (natS c))
noncomputable def Hq(m:Nat->Nat)(n:Nat):List (List Nat):=(v9 m n).map (BL m n)
noncomputable def CK(s:Sn):Prop:=∀{n:Nat} {es:EE} {S:Sto} {Q:QE},(∀ e∈es,e.1<e.2/\e.2<n)->es.length<=1000->n<=1000->
 (∀(l:Nat) (ls:List Nat) (S':Sto),Gw S S'->S.length<=l->Cls S' l ls (Hq (Hue.mk n es) n)->ls.Pairwise (·<·)->(∀ k∈ls,S.length<=k/\k<l)->Q (.loc l) S')->s [webS n es] S Q
theorem J7{α:Type}{xs:List α}{a b:α}{j:Nat}(h:(xs++[a])[j]?=some b):(j=xs.length/\b=a)\/xs[j]?=some b:=by
 rcases XY j xs.length with z | z
 ·rw[W6 z]at h;exact .inr h
 ·have e:j=xs.length:=by
   have:=(gM h).1;rw[Vs,Wf]at this;omega
  subst e;rw[We (W0 _),Nat.sub_self]at h;cases h;exact .inl ⟨rfl,rfl⟩
structure RwsTo(S0 S:Sto)(ls:List Nat)(cs:List (List Nat)):Prop where
 len:ls.length=cs.length
 row:∀(i k:Nat) (c:List Nat),ls[i]?=some k->cs[i]?=some c->S[k]?=some (.lst (natS c))
 up:ls.Pairwise (·<·)
 new:∀ k∈ls,S0.length<=k/\k<S.length
theorem RwsTo.nil(S0 S:Sto):RwsTo S0 S [] []:=⟨rfl,λi k c h=>by simp at h,.nil,λ_ h=>nomatch h⟩
theorem RwsTo.push{S0 S:Sto}{ls:List Nat}{cs:List (List Nat)}(h:RwsTo S0 S ls cs)(hS:S0.length<=S.length)(c:List Nat):RwsTo S0 (S++[.lst (natS c)]) (ls++[S.length]) (cs++[c]):=by
 refine⟨by rw[Vs,Vs,h.len];rfl,λi k c' h1 h2=>?_,?_,λk hk=>?_⟩
 ·rcases J7 h1 with⟨e1,rfl⟩ | h1
  ·rcases J7 h2 with⟨_,rfl⟩ | h2
   ·exact c7
   ·have:=(gM h2).1;have:=h.len;omega
  ·rcases J7 h2 with⟨e,_⟩ | h2
   ·have:=(gM h1).1;have:=h.len;omega
   ·exact f9 (h.row i k c' h1 h2)
 ·rw[YY];exact⟨h.up,by simp,λa ha b hb=>by rw[W1.mp hb];exact(h.new a ha).2⟩
 ·rw[Vs,Wf];rcases WD.mp hk with hk | hk
  ·have:=h.new k hk;omega
  ·rw[W1.mp hk];omega
theorem Hr{Δ:Nat->Sn}(hΔ:∀ f,MonoN (Δ f)){n k:Nat}{es:EE}{S0 S:Sto}{Q:QE}{ms:List Nat}{o2 o3 o4 o5:Option SV}(hn:n<=1000)(hm:ms.length=n)(G:Gw S0 S)(hk:S[k]?=some (.lst (natS ms)))
 (q:∀(l:Nat) (ls:List Nat) (S':Sto),Gw S0 S'->S0.length<=l->Cls S' l ls (Hq (λp=>ms.getD p 0) n)->ls.Pairwise (·<·)->(∀ k∈ls,S0.length<=k/\k<l)->Q (.loc l) S'):wSs Δ [g3'] (m6 Q) [some (webS n es),some (.loc k),o2,o3,o4,o5] S:=by
 refine⟨_,rfl,_,_,rfl,rfl,_,rfl,⟨by omega,by omega⟩,?_⟩;refine i5 (j6 hΔ _).2 (c4 hΔ _).1 (λi ys S'=>Gw S S'/\∃ ls:List Nat,ys=ls.map SV.loc/\RwsTo S0 S' ls ((v9 (λp=>ms.getD p 0) i).map (BL (λp=>ms.getD p 0) n))) ⟨Gw.refl S,[],rfl,RwsTo.nil S0 S⟩ (λ_ _ _ _=>trivial) ?_ ?_
 ·rintro i x ys S' hx ⟨G',ls,rfl,R⟩;obtain⟨rfl,hi⟩:=n8 hx;rw[Xg]at hi ⊢;have hil:i<ms.length:=by rw[hm];omega
  have hmi:=Vq hil;have hg:ms.getD i 0=ms[i]:=by rw[Vt,hmi];rfl
  have hs:v9 (λp=>ms.getD p 0) (i+1)=v9 (λp=>ms.getD p 0) i++if ms[i]=i then [i] else []:=by
   unfold v9;rw[CJ];simp only[hg,dQ]
  have hle:ls.length<=i:=by rw[R.len,Vp];exact Ag _ _
  refine⟨_,rfl,_,rfl,_,_,c5 (G'.keep _ _ hk),j4 (y6 hmi),_,rfl,_,rfl,ifD (λh=>?_) (λh=>?_)⟩
  ·have h:ms[i]=i:=WX.mp h;rw[iP h]at hs;refine⟨_,rfl,_,_,rfl,rfl,_,rfl,⟨by omega,by omega⟩,?_⟩;refine i5 (j6 hΔ _).2 (c4 hΔ _).1 (λj zs S2=>S2=S'/\zs=natS (BL (λp=>ms.getD p 0) j i)) ⟨rfl,rfl⟩ (λ_ _ _ _=>trivial) ?_ ?_
   ·rintro j y zs S2 hy ⟨rfl,rfl⟩;obtain⟨rfl,hj⟩:=n8 hy;rw[Xg]at hj ⊢;have hjl:j<ms.length:=by rw[hm];omega
    have hmj:=Vq hjl;have hgj:ms.getD j 0=ms[j]:=by rw[Vt,hmj];rfl
    have hc:BL (λp=>ms.getD p 0) (j+1) i=BL (λp=>ms.getD p 0) j i++if ms[j]=i then [j] else []:=by
     unfold BL;rw[CJ];simp only[hgj,dQ]
    have hcl:(BL (λp=>ms.getD p 0) j i).length<=j:=Ag _ _;refine⟨_,rfl,_,rfl,_,_,c5 (G'.keep _ _ hk),j4 (y6 hmj),_,rfl,_,rfl,ifD (λh=>?_) (λh=>⟨rfl,?_⟩)⟩
    ·have h:ms[j]=i:=WX.mp h;rw[iP h]at hc;exact⟨_,rfl,by rw[i3];show _<100000;omega,rfl,by rw[hc,r6];rfl⟩
    ·have h:¬ ms[j]=i:=λz=>h (congrArg _ z);rw[iG h,X0]at hc;rw[hc]
   ·rintro zs S2 ⟨rfl,rfl⟩;rw[o9];refine⟨by rw[Vp];show _<100000;omega,G'.push,ls++[S2.length],by rw[WB];rfl,?_⟩;rw[hs,WB];exact R.push (Wd G.len G'.len) _
  ·have h:¬ ms[i]=i:=λz=>h (congrArg _ z);rw[iG h,X0]at hs;exact⟨G',ls,rfl,by rw[hs];exact R⟩
 ·rintro ys S' ⟨G',ls,rfl,R⟩;rw[o9]at R;exact q _ ls _ (G.trans G').push (G.trans G').len ⟨c7,R.len,λi k c a b=>f9 (R.row i k c a b)⟩ R.up R.new
theorem Kh{Δ:Nat->Sn}(hΔ:∀ f,MonoN (Δ f)){D:Df}(hb:D.body=NE)(hN:D.N.length=6)(hp:D.ps.length=1):CK (i4 Δ D):=by
 intro n es S Q hen hel hn q;unfold i4;rw[hb,hN];refine⟨hp.symm,_,rfl,_,_,rfl,rfl,_,rfl,⟨by omega,by omega⟩,?_⟩;rw[Po];refine⟨_,rfl,_,_,rfl,rfl,_,rfl,?_⟩
 refine AB (l9 hΔ _) (λi ρ S'=>∃(ms:List Nat) (k:Nat) (o2 o3 o4 o5:Option SV),ρ=[some (webS n es),some (.loc k),o2,o3,o4,o5]/\ms=(es.take i).foldl Hue.bring (Vw n)/\ms.length=n/\Gw S S'/\S'[k]?=some (.lst (natS ms)))
  ⟨Vw n,S.length,none,none,none,none,rfl,rfl,WY,(Gw.refl S).push,c7⟩ (λ_ _ _ _=>trivial) ?_ ?_
 ·rintro i x ρ S' hx ⟨ms,k,o2,o3,o4,o5,rfl,e0,hm,G,hk⟩;obtain⟨e,he,rfl⟩:=BY hx;have hee:=hen e (Vv he);have h1:=Vq (show e.1<ms.length by rw[hm];omega);have h2:=Vq (show e.2<ms.length by rw[hm];omega);generalize ms[e.1]'(by rw[hm];omega)=a at *;generalize ms[e.2]'(by rw[hm];omega)=b at *
  have e1:ms.map (E1 a b)=(es.take (i+1)).foldl Hue.bring (Vw n):=by
   rw[<-Kg h1 h2,Wz,he,List.foldl_append,<-e0];rfl
  refine⟨_,rfl,_,rfl,_,_,c5 hk,j4 (y6 h1),_,rfl,_,rfl,_,_,c5 hk,j4 (y6 h2),⟨_,rfl,_,rfl,_,_,c5 hk,j4 (y6 h1),_,rfl,_,rfl,_,_,c5 hk,j4 (y6 h2),NF hΔ (Pp a b) (Pq a b) (by rw[hm];exact hn) hk ?_⟩⟩;exact⟨_,_,_,_,_,_,rfl,e1,by rw[Vp,hm],G.push,c7⟩
 ·rintro ρ S' ⟨ms,k,o2,o3,o4,o5,rfl,e0,hm,G,hk⟩;rw[Vp,Wt]at e0;exact Hr hΔ hn hm G hk λl ls S2 h1 h0 h2 h3 h4=>q l ls S2 h1 h0 (by rw[e0]at h2;exact h2) h3 h4
section
variable{n:Nat}{es:EE}{sd:Nat->Nat}{P0:List (Option Nat)}{starts:List Nat}{cm:Cm}
noncomputable def Ai(es:EE)(p:Nat):Nat:=(y8 es p es.length).length
end
theorem FD:∀(xs:List Nat),Fg (natS xs)=some (xs.map λ(i:Nat)=>(i:Int))
 | []=>rfl
 | x::xs=>by
   show(Fg (natS xs)).map (((x:Nat):Int)::·)=_;rw[FD xs];rfl
noncomputable def iN(xs:List Nat):List Int:=xs.map λ(i:Nat)=>(i:Int)
section
variable{Δ:Nat->Sn}
noncomputable def NJ(kt:Nat):List Stm:=[(.ret (.bi .len (.cons (.call kt (.cons (.var 0) (.cons (.var 1) .nil))) .nil)))]
noncomputable def FE(s:Sn):Prop:=∀{n p:Nat} {es:EE} {S:Sto} {Q:QE},es.length<=5000->p<n->(∀ S',Gw S S'->Q (.int (Ai es p)) S')->s [webS n es,.int p] S Q
theorem NK{kt:Nat}(ht:CF (Δ kt)){D:Df}(hb:D.body=NJ kt)(hN:D.N.length=2)(hp:D.ps.length=2):FE (i4 Δ D):=by
 intro n p es S Q hel hpn q;unfold i4;rw[hb,hN];refine⟨hp.symm,_,rfl,_,rfl,ht hel hpn ⟨_,c5 c7,?_⟩⟩;have:=q _ ((Gw.refl S).push (o:=SO.lst (natS (y8 es p es.length))));rw[i3];exact this
theorem Pt(xs:List Nat):(iN xs).map SV.int=natS xs:=by unfold iN natS;rw[XE];rfl
theorem Vh{t:Nat}{S S':Sto}(G:Gw S S'):On t S S':=⟨G.len,λk o _ h=>G.keep k o h⟩
end
end Rf
namespace Hue
end Hue
namespace Rf
noncomputable def hu(cs:List Nat)(t:Nat):Nat:=cs.getD t 0
noncomputable def AtP(es:EE)(t y:Nat):Prop:=∃ e,es[t]?=some e/\(e.1=y\/e.2=y)
theorem AtP.lt{es:EE}{t y:Nat}(h:AtP es t y):t<es.length:=let ⟨_,e,_⟩:=h;(gM e).1
structure Prp(es:EE)(cs:List Nat):Prop where
 len:cs.length=es.length
 one:∀ t u y,AtP es t y->AtP es u y->hu cs t=hu cs u->t=u
structure RwI(es:EE)(cs:List Nat)(a b p:Nat)(r:List Nat)(x one other:Nat):Prop where
 nd:r.Nodup
 lt:∀ t∈r,t<es.length
 alt:∀ i t:Nat,r[i]?=some t->hu cs t=if i % 2=0 then a else b
 d1:one=if r.length % 2=0 then a else b
 d2:other=if r.length % 2=0 then b else a
 fin:∀ t∈r,∀ y,AtP es t y->y≠x->∀ u,AtP es u y->(hu cs u=a\/hu cs u=b)->u∈r
 oth:∀ u,AtP es u x->hu cs u=other->u∈r
 non:∀ u∈r,AtP es u x->hu cs u≠one
 lst:∀ t,r.getLast?=some t->AtP es t x
 beg:r=[]->x=p
 fst:∀ t,r[0]?=some t->AtP es t p
 all:∀ T:Nat->Prop,(∀ t u y,T t->AtP es t y->AtP es u y->(hu cs u=a\/hu cs u=b)->T u)->(∀ t,r[0]?=some t->T t)->∀ t∈r,T t
section
variable{es:EE}{cs:List Nat}{a b p x one other:Nat}{r:List Nat}
theorem RwI.nil(h:∀ u,AtP es u p->hu cs u≠b):RwI es cs a b p [] p a b:=
 ⟨.nil,(λ_ h=>nomatch h),λi t h=>by simp at h,rfl,rfl,(λ_ h=>nomatch h),λu h1 h2=>absurd h2 (h u h1),(λ_ h=>nomatch h),λt h=>by simp at h,λ_=>rfl,λt h=>by simp at h,λ_ _ _ _ h=>nomatch h⟩
theorem RwI.two(R:RwI es cs a b p r x one other){h:Nat}(z:h=a\/h=b):h=one\/h=other:=by
 rw[R.d1,R.d2];by_cases e:r.length % 2=0
 ·rw[iP e,iP e];exact z
 ·rw[iG e,iG e];exact z.symm
theorem RwI.ab(R:RwI es cs a b p r x one other):(one=a\/one=b)/\(other=a\/other=b):=by
 rw[R.d1,R.d2];by_cases e:r.length % 2=0
 ·rw[iP e,iP e];exact⟨.inl rfl,.inr rfl⟩
 ·rw[iG e,iG e];exact⟨.inr rfl,.inl rfl⟩
theorem RwI.ne(R:RwI es cs a b p r x one other)(ab:a≠b):one≠other:=by
 rw[R.d1,R.d2];by_cases e:r.length % 2=0
 ·rw[iP e,iP e];exact ab
 ·rw[iG e,iG e];exact ab.symm
theorem RwI.step(P:Prp es cs)(ab:a≠b)(R:RwI es cs a b p r x one other){t:Nat}{e:Nat×Nat}(he:es[t]?=some e)(hx:e.1=x\/e.2=x)(ne:e.1≠e.2)(ht:hu cs t=one):RwI es cs a b p (r++[t]) (C2 e x) other one:=by
 have ax:AtP es t x:=⟨e,he,hx⟩
 have fx:C2 e x≠x:=by unfold C2;split<;>rcases hx with z | z<;>omega
 have af:AtP es t (C2 e x):=⟨e,he,by unfold C2;split<;>simp⟩
 have ends:∀ y,AtP es t y->y=x\/y=C2 e x:=by
  rintro y ⟨e',he',hy⟩;rw[he]at he';cases he';unfold C2;rcases hx with hx | hx<;>rcases hy with hy | hy<;>split<;>omega
 have tn:t∉r:=λz=>R.non t z ax ht;have oo:=R.ne ab
 have fin1:∀ u,AtP es u x->(hu cs u=a\/hu cs u=b)->u∈r++[t]:=λu hu' hc=>by
  rcases R.two hc with z | z
  ·rw[P.one u t x hu' ax (z.trans ht.symm)];simp
  ·exact X5 _ (R.oth u hu' z)
 have ll:(r++[t]).length=r.length+1:=by simp
 refine⟨?_,λu hu'=>?_,λi u hi=>?_,?_,?_,λs hs y hy nx u hu' hc=>?_,λu hu' hc=>?_,λu hu' hy hc=>?_,λu hu'=>?_,λz=>?_,λu hu'=>?_,λT c0 c1 u hu'=>?_⟩
 ·rw[XZ];exact⟨R.nd,by simp,λc hc d hd=>by rw[W1.mp hd];exact λz=>tn (z▸hc)⟩
 ·rcases WD.mp hu' with z | z
  ·exact R.lt u z
  ·rw[W1.mp z];exact ax.lt
 ·rcases J7 hi with⟨e1,e2⟩ | hi
  ·rw[e2,ht,e1];exact R.d1
  ·exact R.alt i u hi
 ·rw[ll,R.d2];by_cases e:r.length % 2=0
  ·rw[iP e,iG (by omega)]
  ·rw[iG e,iP (by omega)]
 ·rw[ll,R.d1];by_cases e:r.length % 2=0
  ·rw[iP e,iG (by omega)]
  ·rw[iG e,iP (by omega)]
 ·rcases WD.mp hs with z | z
  ·by_cases yx:y=x
   ·rw[yx]at hu';exact fin1 u hu' hc
   ·exact X5 _ (R.fin s z y hy yx u hu' hc)
  ·rw[W1.mp z]at hy;rcases ends y hy with q | q
   ·rw[q]at hu';exact fin1 u hu' hc
   ·exact absurd q nx
 ·rw[P.one u t _ hu' af (hc.trans ht.symm)];simp
 ·rcases WD.mp hu' with z | z
  ·exact tn (R.fin u z _ hy fx t af (by rw[ht];exact R.ab.1))
  ·rw[W1.mp z,ht]at hc;exact oo hc
 ·rw[List.getLast?_concat]at hu';cases hu';exact af
 ·simp at z
 ·cases hr:r with
  | nil=>
    rw[hr]at hu';have:t=u:=by simpa using hu'
    rw[<-this,<-R.beg hr];exact ax
  | cons s rs=>
    rw[hr]at hu';exact R.fst u (by rw[hr];simpa using hu')
 ·rcases WD.mp hu' with z | z
  ·refine R.all T c0 (λs hs=>c1 s ?_) u z;cases hr:r with
   | nil=>rw[hr]at hs;simp at hs
   | cons s' rs=>rw[hr]at hs;simpa using hs
  ·rw[W1.mp z];cases hr:r with
   | nil=>exact c1 t (by rw[hr];rfl)
   | cons s' rs=>
     have hl:r.getLast?=some (r.getLast (by rw[hr];simp)):=List.getLast?_eq_some_getLast (by rw[hr];simp);have sm:=List.getLast_mem (l:=r) (by rw[hr];simp);refine c0 _ t x (R.all T c0 (λs hs=>c1 s ?_) _ sm) (R.lst _ hl) ax (by rw[ht];exact R.ab.1);rw[hr]at hs ⊢;simpa using hs
theorem RwI.len(R:RwI es cs a b p r x one other):r.length<=es.length:=by
 have:=List.Nodup.length_le_of_subset R.nd (l₂:=Vw es.length) λt ht=>WJ.mpr (R.lt t ht)
 rwa [WY]at this
end
noncomputable def Ap(es:EE)(cs:List Nat)(x h:Nat):Option Nat:=(y8 es x es.length).find? λt=>decide (hu cs t=h)
theorem EX{es:EE}{cs:List Nat}{x h t:Nat}(z:Ap es cs x h=some t):AtP es t x/\hu cs t=h:=by
 unfold Ap at z;exact⟨mem_tiesAt.mp (List.mem_of_find?_eq_some z),by simpa using List.find?_some z⟩
theorem Cd{es:EE}{cs:List Nat}{x h:Nat}(z:Ap es cs x h=none):∀ u,AtP es u x->hu cs u≠h:=by
 unfold Ap at z;rw[Y3]at z;exact λu hu'=>by simpa using z u (mem_tiesAt.mpr hu')
noncomputable def rwF(es:EE)(cs:List Nat):Nat->Nat->Nat->Nat->List Nat
 | 0,_,_,_=>[]
 | k+1,x,one,other=>match Ap es cs x one with
   | none=>[]
   | some t=>t::rwF es cs k (C2 (es.getD t (0,0)) x) other one
noncomputable def exL(cs r:List Nat)(a b:Nat):List Nat:=(Vw cs.length).map λt=>if t∈r then (if hu cs t=a then b else a) else hu cs t
theorem AJ(cs r:List Nat)(a b:Nat):(exL cs r a b).length=cs.length:=by unfold exL;rw[Vp,WY]
theorem Hs{cs r:List Nat}{a b t:Nat}(h:t<cs.length):hu (exL cs r a b) t=if t∈r then (if hu cs t=a then b else a) else hu cs t:=by
 unfold exL;show X9 _ t 0=_;rw[Vt,Vx,Wv h];rfl
theorem T8(cs:List Nat):(Vw cs.length).map (hu cs)=cs:=by
 apply Xs;intro i;rw[Vx];by_cases h:i<cs.length
 ·rw[Wv h,Vq h];show some (cs.getD i 0)=_;rw[Vt,Vq h];rfl
 ·rw[Wk (by rw[WY];omega),Wk (by omega)];rfl
open PySem L2
inductive Gd(V:Nat->List SV->Prop):Nat->Nat->SV->Prop where
 | non {k b:Nat}:Gd V k b .non
 | bl {k b:Nat} (c:Bool):Gd V k b (.bl c)
 | int {k b:Nat} {i:Int} (h:-1000000000000000000000<=i/\i<=1000000000000000000000):Gd V k b (.int i)
 | str {k b:Nat} {x:Str} (h:Sz 0 10 (.str x)) (hb:10<=b):Gd V k b (.str x)
 | tup {k b c:Nat} {xs:List SV} (h:∀ y∈xs,Gd V k b y) (hl:xs.length<=63) (hc:xs.length * (b+1)<=c):Gd V (k+1) c (.tup xs)
 | lst {k b c l:Nat} {xs:List SV} (hv:V l xs) (h:∀ y∈xs,Gd V k b y) (hl:xs.length<=63) (hc:xs.length * (b+1)<=c):Gd V (k+1) c (.loc l)
theorem Gd.see{V V':Nat->List SV->Prop}(i:∀ l xs,V l xs->V' l xs){k b:Nat}{x:SV}(h:Gd V k b x):Gd V' k b x:=by
 induction h with
 | non=>exact .non
 | bl c=>exact .bl c
 | int h=>exact .int h
 | str h hb=>exact .str h hb
 | tup _ hl hc ih=>exact .tup ih hl hc
 | lst hv _ hl hc ih=>exact .lst (i _ _ hv) ih hl hc
noncomputable def VS(S:Sto)(l:Nat)(xs:List SV):Prop:=S[l]?=some (.lst xs)
noncomputable def isI:SV->Bool
 | .int _=>true
 | _=>false
section
variable{Δ:Nat->Sn}
noncomputable def T9(s:Sn):Prop:=∀{x:SV} {S:Sto} {k b:Nat} {Q:QE},Gd (VS S) k b x->Q (.bl (isI x)) S->s [x] S Q
theorem Pu{D:Df}(hb:D.body=Hm)(hN:D.N.length=1)(hp:D.ps.length=1):T9 (i4 Δ D):=by
 intro x S k b Q h q;unfold i4;rw[hb,hN];cases h with
 | non=>exact⟨hp.symm,_,rfl,_,nofun,rfl,_,rfl,ifF rfl q⟩
 | bl c=>exact⟨hp.symm,_,rfl,_,nofun,rfl,_,rfl,ifT rfl ⟨_,rfl,_,nofun,rfl,_,rfl,q⟩⟩
 | int h=>exact⟨hp.symm,_,rfl,_,nofun,rfl,_,rfl,ifT rfl ⟨_,rfl,_,nofun,rfl,_,rfl,q⟩⟩
 | str h hb'=>exact⟨hp.symm,_,rfl,_,nofun,rfl,_,rfl,ifF rfl q⟩
 | tup h hl hc=>exact⟨hp.symm,_,rfl,_,nofun,rfl,_,rfl,ifF rfl q⟩
 | lst hv h hl hc=>exact⟨hp.symm,_,rfl,_,nofun,FA hv,_,rfl,ifF rfl q⟩
theorem Pv(f:Nat->Bool):∀ n:Nat,blS ((Vw n).map λi => .bl (f i))=some ((Vw n).map f):=by
 have go:∀ l:List Nat,blS (l.map λi => .bl (f i))=some (l.map f):=λl=>by
  induction l with
  | nil=>rfl
  | cons a l ih=>rw[WQ,WQ];simp[blS,ih]
 exact λn=>go _
theorem all_mapF{f:Nat->Bool}{n:Nat}:((Vw n).map f).all id=true↔∀ i,i<n->f i=true:=by
 rw[W9];constructor
 ·exact λh i hi=>h _ (WU.mpr ⟨i,WJ.mpr hi,rfl⟩)
 ·rintro h x hx;obtain⟨i,hi,rfl⟩:=WU.mp hx;exact h i (WJ.mp hi)
theorem Dj(hΔ:∀ f,MonoN (Δ f)){e:Ex}{keep:Sto->Prop}{g:Tg}{ρ:EnvS}{Q:List SV->Sto->Prop}(f:Nat->Bool){xs:List SV}{S:Sto}(hl:xs.length<=1000)(hk:∀ S',Gw S S'->keep S')
 (hs:∀(i:Nat) (x:SV) (S':Sto),xs[i]?=some x->Gw S S'->wTg g x ρ λρ2=>(wEx Δ e).1 ρ2 S' λy S2=>y = .bl (f i)/\Gw S S2)
 (q:∀ S',Gw S S'->Q ((Vw xs.length).map λi => .bl (f i)) S'):HN keep g (wEo Δ .no).2 (wEx Δ e).1 ρ Q xs [] S:=by
 refine i5 (j6 hΔ _).2 (c4 hΔ _).1 (λi ys S'=>Gw S S'/\ys=(Vw i).map λi => .bl (f i)) ⟨Gw.refl S,rfl⟩ (λ_ _ _ h=>hk _ h.1) ?_ ?_
 ·rintro i x ys S' hx ⟨G,rfl⟩;have hi:=(gM hx).1;refine AA g (λρ2 h=>?_) (hs i x S' hx G);refine(c4 hΔ e).1 _ _ _ _ (λy S2 h=>⟨by rw[Vp,WY];show _<100000;omega,h.2,?_⟩) h;rw[h.1,Xi,WB];rfl
 ·rintro ys S' ⟨G,rfl⟩;exact q S' G
theorem Gd.grow{S S':Sto}{k b:Nat}{x:SV}(h:Gd (VS S) k b x)(G:Gw S S'):Gd (VS S') k b x:=h.see λl xs e=>G.keep l _ e
noncomputable def VA:List Stm:=[(.ret (.bi .isi (.cons (.var 0) (.cons (.tup (.cons (.tyc .list) (.cons (.tyc .tuple) .nil))) .nil))))]
noncomputable def isL:SV->Bool
 | .tup _=>true
 | .loc _=>true
 | _=>false
noncomputable def TB(s:Sn):Prop:=∀{x:SV} {S:Sto} {k b:Nat} {Q:QE},Gd (VS S) k b x->Q (.bl (isL x)) S->s [x] S Q
theorem Pw{D:Df}(hb:D.body=VA)(hN:D.N.length=1)(hp:D.ps.length=1):TB (i4 Δ D):=by
 intro x S k b Q h q;unfold i4;rw[hb,hN];have b2:2<=big:=by decide
 cases h with
 | non=>exact⟨hp.symm,_,rfl,b2,_,[.list,.tuple],by decide,rfl,rfl,q⟩
 | bl c=>exact⟨hp.symm,_,rfl,b2,_,[.list,.tuple],by decide,rfl,rfl,q⟩
 | int h=>exact⟨hp.symm,_,rfl,b2,_,[.list,.tuple],by decide,rfl,rfl,q⟩
 | str h hb'=>exact⟨hp.symm,_,rfl,b2,_,[.list,.tuple],by decide,rfl,rfl,q⟩
 | tup h hl hc=>exact⟨hp.symm,_,rfl,b2,_,[.list,.tuple],by decide,rfl,rfl,q⟩
 | lst hv h hl hc=>exact⟨hp.symm,_,rfl,b2,_,[.list,.tuple],by decide,FA hv,rfl,q⟩
end
structure SeqV(S:Sto)(x:SV)(xs:List SV):Prop where
 seq:∀ S',Gw S S'->seqS x S'=some xs
 keep:∀ S1 S',Gw S S1->Gw S S'->keepS x S1 S'
 len:xs.length<=63
 gd:∃ k b,∀ y∈xs,Gd (VS S) k b y
 ls:isL x=true
theorem Gd.split{S:Sto}{k b:Nat}{x:SV}(h:Gd (VS S) k b x):(isL x=false/\∀ xs,seqS x S≠some xs)\/∃ xs,SeqV S x xs:=by
 cases h with
 | non=>exact .inl ⟨rfl,nofun⟩
 | bl c=>exact .inl ⟨rfl,nofun⟩
 | int h=>exact .inl ⟨rfl,nofun⟩
 | str h hb'=>exact .inl ⟨rfl,nofun⟩
 | tup h hl hc=>exact .inr ⟨_,λ_ _=>rfl,λ_ _ _ _=>trivial,hl,⟨_,_,h⟩,rfl⟩
 | lst hv h hl hc=>exact .inr ⟨_,λS' G=>c5 (G.keep _ _ hv),λS1 S' G1 G=>by
    show S'[_]?=S1[_]?;rw[G.keep _ _ hv,G1.keep _ _ hv],hl,⟨_,_,h⟩,rfl⟩
theorem Ki(A:List Nat):natS A=(iN A).map SV.int:=(Pt A).symm
theorem Ht(ns:List Int):(AU ns).Nodup:=by
 have go:∀(l:List Int) (n:Nat),(AU (l.take n)).Nodup:=λl n=>by
  induction n with
  | zero=>exact ZF
  | succ n ih=>
    rw[Wz];cases h:l[n]? with
    | none=>rw[Option.toList_none,X0];exact ih
    | some i=>
      rw[Option.toList_some,KQ];unfold PyProof.Rows.step_dedup;split
      ·exact ih
      ·rename_i z;refine XZ.mpr ⟨ih,by simp,λa ha b hb y=>?_⟩;rw[W1.mp hb]at y;subst y;exact z (by simpa using ha)
 have:=go ns ns.length
 rwa [Wt]at this
section
variable{Δ:Nat->Sn}
noncomputable def Qj:List Stm:=[(.ret (.or (.cmp .In (.ix (.ix (.ix (.var 0) (.c (.int 1))) (.var 1)) (.c (.int 0))) (.ix (.ix (.var 0) (.c (.int 1))) (.var 2))) (.cmp .In (.ix (.ix (.ix (.var 0) (.c (.int 1))) (.var 1)) (.c (.int 1))) (.ix (.ix (.var 0) (.c (.int 1))) (.var 2)))))]
noncomputable def Shr(es:EE)(t u:Nat):Prop:=∃ p,(p=(u9 es t).1\/p=(u9 es t).2)/\(p=(u9 es u).1\/p=(u9 es u).2)
noncomputable def EY(s:Sn):Prop:=∀{n t u:Nat} {es:EE} {S:Sto} {Q:QE},t<es.length->u<es.length->(∀ v:Bool,(v=true↔Shr es t u)->Q (.bl v) S)->s [webS n es,.int t,.int u] S Q
theorem NL{D:Df}(hb:D.body=Qj)(hN:D.N.length=3)(hp:D.ps.length=3):EY (i4 Δ D):=by
 intro n t u es S Q ht hu q;unfold i4;rw[hb,hN];have h1:atI (es.map pairS) (t:Int)=some (pairS (u9 es t)):=j4 (by rw[Vx,CI ht];rfl);have h2:atI (es.map pairS) (u:Int)=some (pairS (u9 es u)):=j4 (by rw[Vx,CI hu];rfl);refine⟨hp.symm,_,rfl,_,_,rfl,rfl,_,rfl,_,_,rfl,h1,_,.int ((u9 es t).1:Nat),rfl,rfl,_,rfl,_,_,rfl,rfl,_,rfl,_,_,rfl,h2,rfl,_,rfl,rfl,_,rfl,?_⟩;show if inS (.int (u9 es t).1) [.int (u9 es u).1,.int (u9 es u).2]=true then _ else _
 rw[Cu];refine ifB (λz=>q true ⟨λ_=>?_,λ_=>rfl⟩) (λz=>?_)
 ·refine⟨(u9 es t).1,.inl rfl,?_⟩;simp only[WK,dQ]at z;exact z.imp Eq.symm Eq.symm
 ·refine⟨_,rfl,_,_,rfl,rfl,_,rfl,_,_,rfl,h1,_,.int ((u9 es t).2:Nat),rfl,rfl,_,rfl,_,_,rfl,rfl,_,rfl,_,_,rfl,h2,rfl,_,rfl,rfl,?_⟩;show Q (.bl (inS (.int (u9 es t).2) [.int (u9 es u).1,.int (u9 es u).2])) S;rw[Cu];refine q _ ⟨λz=>⟨(u9 es t).2,.inr rfl,?_⟩,?_⟩
  ·simp only[WK,dQ]at z;exact z.imp Eq.symm Eq.symm
  ·rintro⟨p,rfl | rfl,h⟩
   ·simp only[Bool.or_eq_false_iff,decide_eq_false_iff_not]at z;exact absurd (h.imp Eq.symm Eq.symm) (not_or.mpr z)
   ·simp only[WK,dQ];exact h.imp Eq.symm Eq.symm
theorem Gw.on{t:Nat}{S S':Sto}(G:Gw S S'):On t S S':=⟨G.len,λk o _ h=>G.keep k o h⟩
theorem Gw.tape{t:Nat}{S S':Sto}(G:Gw S S')(T:TapeS S t):TapeS S' t:=let ⟨a,b,h,c⟩:=T.ex;⟨a,b,G.keep _ _ h,c⟩
end
noncomputable def VD:SV->Bool
 | .int i=>decide (0<=i)
 | _=>false
noncomputable def PropS(es:EE)(xs:List SV)(m:Nat):Prop:=∀(i j:Nat) (h:Int),i<j->j<m->xs[i]?=some (.int h)->xs[j]?=some (.int h)->¬ Shr es i j
noncomputable def endE(es:EE)(t p:Nat):Prop:=p=(u9 es t).1\/p=(u9 es t).2
structure DictI(es:EE)(xs:List SV)(i:Nat)(kvs:List ((Int×Int)×Int)):Prop where
 sound:∀(p:Nat) (h n:Int),dpv kvs (((p:Nat):Int),h)=some n->∃ t:Nat,n=(t:Nat)/\t<i/\xs[t]?=some (.int h)/\endE es t p
 full:∀(t p:Nat) (h:Int),t<i->xs[t]?=some (.int h)->endE es t p->∃ n,dpv kvs (((p:Nat):Int),h)=some n
theorem J8{kvs:List ((Int×Int)×Int)}{k k':Int×Int}{m:Int}(h:dpv kvs k=none):dpv (kvs++[(k,m)]) k'=if k'=k then some m else dpv kvs k':=by
 unfold dpv at h ⊢;rw[List.find?_append];by_cases e:k'=k
 ·subst e;rw[iP rfl];have h':=YO.mp h;rw[h',Option.none_or,Wo,decide_eq_true rfl];rfl
 ·rw[iG e,Wo,decide_eq_false (λz=>e z.symm),List.find?_nil,Option.or_none]
structure DJ(es:EE)(xs:List SV)(i:Nat)(h:Int)(P:Nat->Prop)(kvs:List ((Int×Int)×Int))(ps:List (Int×Int)):Prop where
 sound:∀(p:Nat) (g n:Int),dpv kvs (((p:Nat):Int),g)=some n->∃ t:Nat,n=(t:Nat)/\(t<i\/(t=i/\P p))/\xs[t]?=some (.int g)/\endE es t p
 full:∀(t p:Nat) (g:Int),(t<i\/(t=i/\P p))->xs[t]?=some (.int g)->endE es t p->∃ n,dpv kvs (((p:Nat):Int),g)=some n
 cl:ps=[]↔PropS es xs i/\∀ t p:Nat,t<i->xs[t]?=some (.int h)->P p->¬ endE es t p
theorem DJ.first{es:EE}{xs:List SV}{i:Nat}{h:Int}{kvs:List ((Int×Int)×Int)}{ps:List (Int×Int)}(D:DictI es xs i kvs)(c:ps=[]↔PropS es xs i):DJ es xs i h (λ_=>False) kvs ps:=
 ⟨λp g n e=>let ⟨t,a,b,c⟩:=D.sound p g n e;⟨t,a,.inl b,c⟩,λt p g ht hx he=>D.full t p g (ht.elim id λz=>z.2.elim) hx he,c.trans ⟨λa=>⟨a,λ_ _ _ _ z=>z.elim⟩,λa=>a.1⟩⟩
theorem DJ.found{es:EE}{xs:List SV}{i p:Nat}{h c:Int}{P:Nat->Prop}{kvs:List ((Int×Int)×Int)}{ps:List (Int×Int)}(J:DJ es xs i h P kvs ps)(hxi:xs[i]?=some (.int h))(nP:¬ P p)(hc:dpv kvs (((p:Nat):Int),h)=some c):c≠(i:Nat)/\DJ es xs i h (λq=>P q\/q=p) kvs (ps++[(c,((i:Nat):Int))]):=by
 obtain⟨t,rfl,ht,hx,he⟩:=J.sound p h c hc;have ht:t<i:=ht.elim id λz=>absurd z.2 nP;refine⟨λz=>by omega,λq g n e=>?_,λu q g hu hx' he'=>?_,⟨λz=>absurd z (by simp),λz=>absurd he (z.2 t p ht hx (.inr rfl))⟩⟩
 ·obtain⟨u,a,b,d⟩:=J.sound q g n e;exact⟨u,a,b.imp id λz=>⟨z.1,.inl z.2⟩,d⟩
 ·rcases hu with hu | ⟨rfl,hu | rfl⟩
  ·exact J.full u q g (.inl hu) hx' he'
  ·exact J.full u q g (.inr ⟨rfl,hu⟩) hx' he'
  ·rw[hxi]at hx';cases hx';exact⟨_,hc⟩
theorem DJ.new{es:EE}{xs:List SV}{i p:Nat}{h:Int}{P:Nat->Prop}{kvs:List ((Int×Int)×Int)}{ps:List (Int×Int)}(J:DJ es xs i h P kvs ps)(hxi:xs[i]?=some (.int h))(hp:endE es i p)(hc:dpv kvs (((p:Nat):Int),h)=none):DJ es xs i h (λq=>P q\/q=p) (kvs++[((((p:Nat):Int),h),((i:Nat):Int))]) ps:=by
 refine⟨λq g n e=>?_,λu q g hu hx' he'=>?_,J.cl.trans ⟨λz=>⟨z.1,λt q ht hx hq he=>?_⟩,λz=>⟨z.1,λt q ht hx hq he=>z.2 t q ht hx (.inl hq) he⟩⟩⟩
 ·rw[J8 hc]at e;by_cases z:(((q:Nat):Int),g)=(((p:Nat):Int),h)
  ·rw[iP z]at e;injection z with z1 z2;cases e;rw[WX.mp z1,z2];exact⟨i,rfl,.inr ⟨rfl,.inr rfl⟩,hxi,hp⟩
  ·rw[iG z]at e;obtain⟨u,a,b,d⟩:=J.sound q g n e;exact⟨u,a,b.imp id λz=>⟨z.1,.inl z.2⟩,d⟩
 ·rw[J8 hc];by_cases z:(((q:Nat):Int),g)=(((p:Nat):Int),h)
  ·rw[iP z];exact⟨_,rfl⟩
  ·rw[iG z];rcases hu with hu | ⟨rfl,hu | rfl⟩
   ·exact J.full u q g (.inl hu) hx' he'
   ·exact J.full u q g (.inr ⟨rfl,hu⟩) hx' he'
   ·rw[hxi]at hx';cases hx';exact absurd rfl z
 ·rcases hq with hq | rfl
  ·exact z.2 t q ht hx hq he
  ·obtain⟨n,e⟩:=J.full t q h (.inl ht) hx he;rw[hc]at e;cases e
theorem DJ.last{es:EE}{xs:List SV}{i:Nat}{h:Int}{P:Nat->Prop}{kvs:List ((Int×Int)×Int)}{ps:List (Int×Int)}(J:DJ es xs i h P kvs ps)(hxi:xs[i]?=some (.int h))(hP:∀ p,endE es i p↔P p):DictI es xs (i+1) kvs/\(ps=[]↔PropS es xs (i+1)):=by
 refine⟨⟨λp g n e=>?_,λt p g ht hx he=>J.full t p g ?_ hx he⟩,J.cl.trans ⟨λz a b g hab hb ha hb' sh=>?_,λz=>⟨λa b g hab hb=>z a b g hab (by omega),λt p ht hx hp he=>z t i h ht (Xk _) hx hxi ⟨p,he,(hP p).mpr hp⟩⟩⟩⟩
 ·obtain⟨t,a,b,d⟩:=J.sound p g n e;exact⟨t,a,by omega,d⟩
 ·rcases XY t i with z | z
  ·exact .inl z
  ·have:t=i:=by omega
   subst this;exact .inr ⟨rfl,(hP p).mp he⟩
 ·rcases XY b i with y | y
  ·exact z.1 a b g hab y ha hb' sh
  ·have:b=i:=by omega
   subst this;rw[hxi]at hb';cases hb';obtain⟨p,e1,e2⟩:=sh;exact z.2 a p hab ha ((hP p).mp e2) e1
theorem DictI.skip{es:EE}{xs:List SV}{i:Nat}{kvs:List ((Int×Int)×Int)}{ps:List (Int×Int)}(D:DictI es xs i kvs)(c:ps=[]↔PropS es xs i)(hxi:xs[i]?=some .non):DictI es xs (i+1) kvs/\(ps=[]↔PropS es xs (i+1)):=by
 have lt:∀(t:Nat) (g:Int),t<i+1->xs[t]?=some (.int g)->t<i:=λt g ht hx=>by
  rcases XY t i with z | z
  ·exact z
  ·have:t=i:=by omega
   subst this;rw[hxi]at hx;cases hx
 exact⟨⟨λp g n e=>let ⟨t,a,b,d⟩:=D.sound p g n e;⟨t,a,by omega,d⟩,λt p g ht hx he=>D.full t p g (lt t g ht hx) hx he⟩,c.trans ⟨λz a b g hab hb ha hb'=>z a b g hab (lt b g hb hb') ha hb',λz a b g hab hb=>z a b g hab (by omega)⟩⟩
section
variable{Δ:Nat->Sn}
noncomputable def kq3:Stm:=(.loop (.nm 7) (.seq (.var 5)) [(.asg (.nm 8) (.setd (.var 2) (.tup (.cons (.var 7) (.cons (.var 6) .nil))) (.var 4))),(.iff (.cmp .NotEq (.var 8) (.var 4)) [(.expr (.mt .append (.var 3) (.cons (.tup (.cons (.var 8) (.cons (.var 4) .nil))) .nil)))] [])])
noncomputable def kq2:Stm:=(.loop (.tup (.cons (.nm 4) (.cons (.nm 5) .nil))) (.enum (.ix (.var 0) (.c (.int 1)))) [(.asg (.nm 6) (.ix (.var 1) (.var 4))),(.iff (.cmp .IsNot (.var 6) (.c .non)) [kq3] [])])
noncomputable def NM:List Stm:=[(.asg (.nm 2) .dnewp),(.asg (.nm 3) (.lst .nil)),kq2,(.ret (.mind (.var 3) (.c .non)))]
noncomputable def psS(ps:List (Int×Int)):List SV:=ps.map λp:Int×Int=>SV.tup [.int p.1,.int p.2]
theorem EZ{n m l i p:Nat}{h:Int}{es:EE}{x:SV}{kvs:List ((Int×Int)×Int)}{ps:List (Int×Int)}{S:Sto}{D:EndsS}{o5 o8:Option SV}(hm:S[m]?=some (.dtp kvs))(hl:S[l]?=some (.lst (psS ps)))(hk:kvs.length<1000)(hp:ps.length<1000)
 (q0:∀ c:Int,dpv kvs (((p:Nat):Int),h)=some c->c=(i:Nat)->D.nx [some (webS n es),some x,some (.loc m),some (.loc l),some (.int (i:Nat)),o5,some (.int h),some (.int (p:Nat)),some (.int c)] S)
 (q1:∀ c:Int,dpv kvs (((p:Nat):Int),h)=some c->c≠(i:Nat)->D.nx [some (webS n es),some x,some (.loc m),some (.loc l),some (.int (i:Nat)),o5,some (.int h),some (.int (p:Nat)),some (.int c)] (S.set l (.lst (psS (ps++[(c,((i:Nat):Int))])))))
 (q2:dpv kvs (((p:Nat):Int),h)=none->D.nx [some (webS n es),some x,some (.loc m),some (.loc l),some (.int (i:Nat)),o5,some (.int h),some (.int (p:Nat)),some (.int (i:Nat))] (S.set m (.dtp (kvs++[((((p:Nat):Int),h),((i:Nat):Int))])))):
 wSs Δ [(.asg (.nm 8) (.setd (.var 2) (.tup (.cons (.var 7) (.cons (.var 6) .nil))) (.var 4))),(.iff (.cmp .NotEq (.var 8) (.var 4)) [(.expr (.mt .append (.var 3) (.cons (.tup (.cons (.var 8) (.cons (.var 4) .nil))) .nil)))] [])] D [some (webS n es),some x,some (.loc m),some (.loc l),some (.int (i:Nat)),o5,some (.int h),some (.int (p:Nat)),o8] S:=by
 refine⟨_,rfl,m,kvs,rfl,hm,_,rfl,_,rfl,by show 2<=100000;decide,_,rfl,_,_,_,kvs,rfl,rfl,hm,by show _<100000;omega,λc hc=>?_,λhc=>?_⟩
 ·refine⟨_,rfl,_,rfl,_,rfl,?_⟩;show if (!decide (c=((i:Nat):Int)))=true then _ else _
  by_cases z:c=(i:Nat)
  ·exact ifF (by rw[decide_eq_true z];rfl) (i0 (q0 c hc z))
  ·refine ifT (by rw[decide_eq_false z];rfl) ?_;have hl':(psS ps).length<100000:=by unfold psS;rw[Vp];omega
   refine⟨_,rfl,⟨l,_,rfl,hl⟩,_,rfl,_,rfl,by show 2<=100000;decide,_,hl,hl',?_⟩;have q:=q1 c hc z;unfold psS at q ⊢;rw[WB]at q;exact i0 (Δ:=Δ) q
 ·refine⟨_,rfl,_,rfl,_,rfl,?_⟩;show if (!decide (((i:Nat):Int)=((i:Nat):Int)))=true then _ else _
  exact ifF (by rw[decide_eq_true rfl];rfl) (i0 (q2 hc))
noncomputable def Hu(s:Sn):Prop:=∀{n:Nat} {es:EE} {x:SV} {xs:List SV} {S:Sto} {Q:QE},(∀ e∈es,e.1<e.2/\e.2<n)->es.length<=60->SeqV S x xs->xs.length=es.length->(∀ y∈xs,y = .non\/∃ h:Int,y = .int h)->(∀(v:SV) (S':Sto),Gw S S'->(CA v=true↔PropS es xs es.length)->Q v S')->s [webS n es,x] S Q
theorem Kj(hΔ:∀ f,MonoN (Δ f)){D:Df}(hb:D.body=NM)(hN:D.N.length=9)(hp:D.ps.length=2):Hu (i4 Δ D):=by
 intro n es x xs S Q W hel V hlen hit q;unfold i4;rw[hb,hN];refine⟨hp.symm,by show 0<=100000;decide,_,rfl,_,_,rfl,rfl,_,rfl,?_⟩;have hm0:((S++[SO.dtp []])++[SO.lst []])[S.length]?=some (.dtp []):=f9 c7;have hl0:((S++[SO.dtp []])++[SO.lst []])[(S++[SO.dtp []]).length]?=some (.lst []):=c7;have ll:(S++[SO.dtp []]).length=S.length+1:=by simp
 rw[ll]at hl0;have lw:((S++[SO.dtp []])++[SO.lst []]).length=S.length+2:=by simp
 have G0:Gw S ((S++[SO.dtp []])++[SO.lst []]):=(Gw.refl S).push.push;show v8 _ _ _ _ _ [some (webS n es),some x,some (.loc S.length),some (.loc (S++[SO.dtp []]).length),none,none,none,none,none] _;rw[ll]
 refine AI (l9 hΔ _) (λi ρ S2=>∃(o4 o5 o6 o7 o8:Option SV) (kvs:List ((Int×Int)×Int)) (ps:List (Int×Int)),ρ=[some (webS n es),some x,some (.loc S.length),some (.loc (S.length+1)),o4,o5,o6,o7,o8]/\Gw S S2/\S2[S.length]?=some (.dtp kvs)/\S2[S.length+1]?=some (.lst (psS ps))/\DictI es xs i kvs/\(ps=[]↔PropS es xs i)/\kvs.length<=2 * i/\ps.length<=2 * i)
  ⟨_,_,_,_,_,[],[],rfl,G0,hm0,hl0,⟨λp h n e=>(by cases e),λt p h ht=>absurd ht (X4 _)⟩,⟨λ_ i j h _ hj=>absurd hj (X4 _),λ_=>rfl⟩,W0 _,W0 _⟩ (λ_ _ _ _=>trivial) ?_ ?_
 ·rintro i z ρ S2 E hE hrt hz ⟨o4,o5,o6,o7,o8,kvs,ps,rfl,G2,hm,hl,DI,PI,hk,hps⟩;obtain⟨y,hy,rfl⟩:=BX hz;obtain⟨e,he,rfl⟩:=BY hy;have hi:=(gM he).1;have hv:=Vq (show i<xs.length by omega);have mv:=Wi (show i<xs.length by omega);generalize xs[i]=v at *;have lw2:S.length+2<=S2.length:=by have:=(gM hl).1;omega
  refine⟨_,rfl,_,rfl,_,_,V.seq S2 G2,j4 hv,?_⟩
  have te:u9 es i=e:=by
   have:=CI hi;rw[he]at this;exact(oj this).symm
  have en:∀ p,endE es i p↔(False\/p=e.1)\/p=e.2:=λp=>by unfold endE;rw[te,false_or]
  have ne:e.1≠e.2:=W3 (W e (Vv he)).1;rcases hit v mv with rfl | ⟨h,rfl⟩
  ·obtain⟨D2,P2⟩:=DI.skip PI hv;exact⟨_,rfl,.inl ⟨rfl,_,rfl,ifF rfl (i0 (hE _ _ ⟨_,_,_,_,_,kvs,ps,rfl,G2,hm,hl,D2,P2,by omega,by omega⟩))⟩⟩
  refine⟨_,rfl,.inl ⟨rfl,_,rfl,ifT rfl ⟨_,rfl,_,rfl,trivial,?_⟩⟩⟩;have J0:=DJ.first (h:=h) DI PI
  have key:∀(kv1:List ((Int×Int)×Int)) (ps1:List (Int×Int)) (S3:Sto) (o8:Option SV),Gw S S3->S3[S.length]?=some (.dtp kv1)->S3[S.length+1]?=some (.lst (psS ps1))->kv1.length<=2 * i+1->ps1.length<=2 * i+1->DJ es xs i h (λq=>False\/q=e.1) kv1 ps1->
   v8 (keepS (pairS e) S2) (.nm 7) (wSs Δ [(.asg (.nm 8) (.setd (.var 2) (.tup (.cons (.var 7) (.cons (.var 6) .nil))) (.var 4))),(.iff (.cmp .NotEq (.var 8) (.var 4)) [(.expr (.mt .append (.var 3) (.cons (.tup (.cons (.var 8) (.cons (.var 4) .nil))) .nil)))] [])]) {nx:=wSs Δ [] E,rt:=E.rt,bk:=E.bk,ct:=E.ct} [.int (e.2:Nat)] [some (webS n es),some x,some (.loc S.length),some (.loc (S.length+1)),some (.int (i:Nat)),some (pairS e),some (.int h),some (.int (e.1:Nat)),o8] S3:=by
   intro kv1 ps1 S3 o8 G3 m3 l3 k3 p3 J;refine⟨trivial,?_⟩;refine EZ m3 l3 (by omega) (by omega) (λc hc z=>absurd z (J.found hv (by rintro(z | z);exact z;exact ne z.symm) hc).1) (λc hc z=>?_) (λhc=>?_)
   ·obtain⟨D2,P2⟩:=(J.found hv (by rintro(z | z);exact z;exact ne z.symm) hc).2.last hv en;exact⟨trivial,i0 (Δ:=Δ) (hE _ _ ⟨_,_,_,_,_,kv1,_,rfl,G3.put (by omega),by rw[BJ (by omega)];exact m3,WN (by have:=(gM l3).1;omega),D2,P2,by omega,by rw[Vs,Wf];omega⟩)⟩
   ·obtain⟨D2,P2⟩:=(J.new hv ((en e.2).mpr (.inr rfl)) hc).last hv en;exact⟨trivial,i0 (Δ:=Δ) (hE _ _ ⟨_,_,_,_,_,_,ps1,rfl,G3.put (by omega),WN (by have:=(gM m3).1;omega),by rw[BJ (by omega)];exact l3,D2,P2,by rw[Vs,Wf];omega,by omega⟩)⟩
  refine EZ hm hl (by omega) (by omega) (λc hc z=>absurd z (J0.found hv id hc).1) (λc hc z=>?_) (λhc=>?_)
  ·exact key kvs _ _ _ (G2.put (by omega)) (by rw[BJ (by omega)];exact hm) (WN (by omega)) (by omega) (by rw[Vs,Wf];omega) (J0.found hv id hc).2
  ·exact key _ ps _ _ (G2.put (by omega)) (WN (by omega)) (by rw[BJ (by omega)];exact hl) (by rw[Vs,Wf];omega) (by omega) (J0.new hv ((en e.1).mpr (.inl (.inr rfl))) hc)
 ·rintro ρ S2 ⟨o4,o5,o6,o7,o8,kvs,ps,rfl,G2,hm,hl,DI,PI,hk,hps⟩;rw[Af,Vp]at PI;refine⟨_,rfl,S.length+1,ps,rfl,rfl,hl,λe=>q .non S2 G2 ⟨λ_=>PI.mp e,λ_=>rfl⟩,λp hp=>q _ S2 G2 ⟨nofun,λh=>?_⟩⟩;rw[PI.mpr h]at hp;cases hp
end
noncomputable def okH(y:SV):Bool:=CA y||VD y
theorem NN{y:SV}(h:okH y=true):y = .non\/∃ g:Int,y = .int g/\0<=g:=by
 cases y with
 | non=>exact .inl rfl
 | int i=>exact .inr ⟨i,rfl,of_decide_eq_true h⟩
 | _=>cases h
noncomputable def HuP(es:EE)(xs:List SV):Prop:=xs.length=es.length/\(∀ y∈xs,okH y=true)/\PropS es xs es.length
theorem all_at{f:SV->Bool}{xs:List SV}:(∀ i,i<xs.length->f (xs.getD i .non)=true)↔∀ y∈xs,f y=true:=by
 constructor
 ·intro h y hy;obtain⟨i,hi,rfl⟩:=Ye hy;have:=h i hi
  rwa [Vt,Vq hi]at this
 ·intro h i hi;rw[Vt,Vq hi];exact h _ (Wi hi)
section
variable{Δ:Nat->Sn}
noncomputable def Qk(kn:Nat):List Stm:=[(.ret (.and (.call kn (.cons (.var 0) .nil)) (.cmp .GtE (.var 0) (.c (.int 0)))))]
noncomputable def TC(s:Sn):Prop:=∀{x:SV} {S:Sto} {k b:Nat} {Q:QE},Gd (VS S) k b x->Q (.bl (VD x)) S->s [x] S Q
theorem Px{kn:Nat}(hn:T9 (Δ kn)){D:Df}(hb:D.body=Qk kn)(hN:D.N.length=1)(hp:D.ps.length=1):TC (i4 Δ D):=by
 intro x S k b Q h q;unfold i4;rw[hb,hN];refine⟨hp.symm,_,rfl,hn h ⟨_,rfl,?_⟩⟩;cases x with
 | int i=>exact ifT rfl ⟨_,rfl,q⟩
 | _=>exact ifF rfl q
noncomputable def hg1(kl:Nat):Stm:=(.iff (.or (.not (.call kl (.cons (.var 1) .nil))) (.cmp .NotEq (.bi .len (.cons (.var 1) .nil)) (.bi .len (.cons (.ix (.var 0) (.c (.int 1))) .nil)))) [(.ret (.c (.bl false)))] [])
noncomputable def hg2(kh:Nat):Stm:=(.iff (.not (.bi .all (.cons (.comp ["item"] [] [] (.nm 0) (.seq (.var 1)) .no (.or (.cmp .Is (.var 0) (.c .non)) (.call kh (.cons (.var 0) .nil)))) .nil))) [(.ret (.c (.bl false)))] [])
noncomputable def hg3(kc:Nat):Stm:=(.ret (.cmp .Is (.call kc (.cons (.var 0) (.cons (.var 1) .nil))) (.c .non)))
noncomputable def J9(kl kh kc:Nat):List Stm:=[hg1 kl,hg2 kh,hg3 kc]
noncomputable def BE(s:Sn):Prop:=∀{n k b:Nat} {es:EE} {x:SV} {S:Sto} {Q:QE},(∀ e∈es,e.1<e.2/\e.2<n)->es.length<=60->Gd (VS S) k b x->(∀(r:Bool) (S':Sto),Gw S S'->(r=true↔∃ xs,seqS x S=some xs/\HuP es xs)->Q (.bl r) S')->s [webS n es,x] S Q
theorem Hw(hΔ:∀ f,MonoN (Δ f)){kl kh kc:Nat}(hl:TB (Δ kl))(hh:TC (Δ kh))(hc:Hu (Δ kc)){D:Df}(hb:D.body=J9 kl kh kc)(hN:D.N.length=2)(hp:D.ps.length=2):BE (i4 Δ D):=by
 intro n k b es x S Q W hel hx q;unfold i4;rw[hb,hN];refine⟨hp.symm,_,rfl,hl hx ?_⟩;rcases hx.split with⟨e,no⟩ | ⟨xs,V⟩
 ·rw[e];exact⟨_,rfl,ifT rfl (q false S (Gw.refl S) ⟨nofun,λ⟨xs,z,_⟩=>absurd z (no _)⟩)⟩
 rw[V.ls];have s0:=V.seq S (Gw.refl S);have hxl:=V.len;obtain⟨k',b',hg⟩:=V.gd;have no:∀ S',Gw S S'->¬ HuP es xs->Q (.bl false) S':=λS' G h=>q false S' G ⟨nofun,λ⟨ys,e,z⟩=>by rw[s0]at e;cases e;exact absurd z h⟩;refine⟨_,rfl,ifF rfl ⟨_,rfl,_,s0,_,rfl,_,_,rfl,rfl,_,rfl,_,rfl,?_⟩⟩;show if (!decide ((xs.length:Int)=((es.map pairS).length:Nat)))=true then _ else _
 rw[Vp];by_cases zl:xs.length=es.length
 case neg=>exact ifT (by rw[decide_eq_false (λy=>zl (WX.mp y))];rfl) (no S (Gw.refl S) λh=>zl h.1)
 refine ifF (by rw[decide_eq_true (show((xs.length:Nat):Int)=(es.length:Nat) by rw[zl])];rfl) (i0 ?_);refine⟨_,rfl,_,s0,?_⟩;refine Dj hΔ (λi=>okH (xs.getD i .non)) (by omega) (λS' G=>V.keep S S' (Gw.refl S) G) ?_ ?_
 ·intro i y S' hy G;have ey:xs.getD i .non=y:=by rw[Vt,hy];rfl
  rw[ey];refine⟨_,rfl,.inl ⟨rfl,_,rfl,?_⟩⟩;cases y with
  | non=>exact ifT rfl ⟨rfl,G⟩
  | _=>exact ifF rfl ⟨_,rfl,hh ((hg _ (Vv hy)).grow G) ⟨rfl,G⟩⟩
 intro S2 G2;have G3:=G2.push (o:=SO.lst ((Vw xs.length).map λi => .bl (okH (xs.getD i .non))));refine⟨_,_,nofun,c5 c7,Pv _ _,_,rfl,?_⟩;generalize S2++[SO.lst ((Vw xs.length).map λi => .bl (okH (xs.getD i .non)))]=S3 at *;by_cases hA:((Vw xs.length).map λi=>okH (xs.getD i .non)).all id=true
 case neg=>
  rw[Y8.mpr hA];exact ifT rfl (no S3 G3 λh=>hA (all_mapF.mpr (all_at.mpr h.2.1)))
 rw[hA];have ok:=all_at.mp (all_mapF.mp hA);refine ifF rfl (i0 ?_);refine⟨_,rfl,_,rfl,hc W hel ⟨λS' G=>V.seq S' (G3.trans G),λS1 S' G1 G=>V.keep S1 S' (G3.trans G1) (G3.trans G),hxl,⟨k',b',λy hy=>(hg y hy).grow G3⟩,V.ls⟩ zl (λy hy=>(NN (ok y hy)).imp id λ⟨g,e,_⟩=>⟨g,e⟩) λv S' G ev => .inl ⟨rfl,q _ S' (G3.trans G) ?_⟩⟩;show CA v=true↔_;rw[ev];exact⟨λh=>⟨xs,s0,zl,ok,h⟩,λ⟨ys,e,h⟩=>by rw[s0]at e;cases e;exact h.2.2⟩
end
noncomputable def TD:Option Nat->SV
 | none => .non
 | some t => .int (t:Nat)
theorem JA{P:Nat->Bool}:∀{ts:List Nat} {j t:Nat},ts[j]?=some t->P t=true->(∀ u∈ts.take j,P u=false)->ts.find? P=some t
 | [],_,_,h,_,_=>by simp at h
 | s::ts,0,t,h,hp,_=>by simp at h;subst h;rw[Wo,hp]
 | s::ts,j+1,t,h,hp,hn=>by
   rw[Wo,hn s (by simp)];exact JA (by simpa using h) hp λu hu'=>hn u (by simp[hu'])
theorem Bb{cs:List Nat}{t:Nat}(h:t<cs.length):cs[t]?=some (hu cs t):=by
 rw[Vq h];show _=some (cs.getD t 0);rw[Vt,Vq h];rfl
section
variable{Δ:Nat->Sn}
noncomputable def Ql(kt:Nat):List Stm:=[(.loop (.nm 4) (.seq (.call kt (.cons (.var 0) (.cons (.var 2) .nil)))) [(.iff (.cmp .Eq (.ix (.var 1) (.var 4)) (.var 3)) [(.ret (.var 4))] [])]),(.ret (.c .non))]
noncomputable def rf4(kf kh:Nat):Stm:=(.whl (.cmp .IsNot (.var 6) (.c .non)) [(.expr (.mt .append (.var 5) (.cons (.var 6) .nil))),(.asg (.nm 2) (.call kf (.cons (.var 0) (.cons (.var 6) (.cons (.var 2) .nil))))),(.par 3 4 (.var 4) (.var 3)),(.asg (.nm 6) (.call kh (.cons (.var 0) (.cons (.var 1) (.cons (.var 2) (.cons (.var 3) .nil))))))])
theorem JB{es:EE}{cs:List Nat}{x h:Nat}(z:∀ u,AtP es u x->hu cs u≠h):Ap es cs x h=none:=by
 unfold Ap;rw[Y3];intro u hu' y;exact z u (mem_tiesAt.mp hu') (of_decide_eq_true y)
theorem Py(cs:List Nat)(a b:Nat):exL cs [] a b=cs:=by
 conv=>rhs;rw[<-T8 cs]
 unfold exL;exact Xb λt _=>by simp
theorem NO{cs r:List Nat}{a b t:Nat}(ht:t<cs.length):exL cs (r++[t]) a b=(exL cs r a b).set t (if hu cs t=a then b else a):=by
 apply Xs;intro i;by_cases hi:i<cs.length
 ·have g1:(exL cs (r++[t]) a b)[i]?=some (hu (exL cs (r++[t]) a b) i):=Bb (by rw[AJ];exact hi);rw[g1,Hs hi];by_cases e:i=t
  ·subst e;rw[WN (by rw[AJ];exact hi),iP (by simp)]
  ·rw[Wq (Ne.symm e),Bb (by rw[AJ];exact hi),Hs hi]
   congr 1
   have:i∈r++[t]↔i∈r:=by simp[e]
   by_cases z:i∈r
   ·rw[iP z,iP (this.mpr z)]
   ·rw[iG z,iG (λy=>z (this.mp y))]
 ·rw[Wk (by rw[AJ];omega),Wk (by rw[Wg,AJ];omega)]
end
theorem NP(ns:List Int):(ns.map SV.int).all A9=true:=by
 rw[Yx,W9];intro _ _;rfl
section
variable{Δ:Nat->Sn}
noncomputable def lh1:Stm:=(.iff (.or (.not (.bi .isi (.cons (.var 1) (.cons (.tup (.cons (.tyc .list) (.cons (.tyc .tuple) .nil))) .nil)))) (.cmp .NotEq (.bi .len (.cons (.var 1) .nil)) (.bi .len (.cons (.ix (.var 0) (.c (.int 1))) .nil)))) [(.ret (.c (.bl false)))] [])
noncomputable def lh2:Stm:=(.iff (.and (.cmp .IsNot (.var 3) (.c .non)) (.or (.not (.bi .isi (.cons (.var 3) (.cons (.tyc .int) .nil)))) (.or (.bi .isi (.cons (.var 3) (.cons (.tyc .bool) .nil))) (.cmp .Lt (.var 3) (.c (.int 0)))))) [(.ret (.c (.bl false)))] [])
noncomputable def lh3(km:Nat):Stm:=(.loop (.nm 4) (.rng1 (.var 2)) [(.iff (.and (.cmp .IsNot (.var 3) (.c .non)) (.and (.cmp .Eq (.ix (.var 1) (.var 4)) (.var 3)) (.call km (.cons (.var 0) (.cons (.var 4) (.cons (.var 2) .nil)))))) [(.ret (.c (.bl false)))] [])])
noncomputable def Gb(km:Nat):List Stm:=[lh1,(.loop (.tup (.cons (.nm 2) (.cons (.nm 3) .nil))) (.enum (.var 1)) [lh2,lh3 km]),(.ret (.c (.bl true)))]
theorem Gd.isLs{S:Sto}{k b:Nat}{x:SV}(h:Gd (VS S) k b x):∃ t,tyS x S=some t/\[TyN.list,.tuple].any (Fh t)=isL x:=by
 cases h with
 | lst hv _ _ _=>exact⟨_,FA hv,rfl⟩
 | _=>exact⟨_,rfl,rfl⟩
theorem TF{n i:Nat}{es:EE}{x y:SV}{S:Sto}{k b:Nat}{D:EndsS}{o4:Option SV}(hy:Gd (VS S) k b y)(q1:okH y=true->D.nx [some (webS n es),some x,some (.int (i:Nat)),some y,o4] S)(q0:okH y=false->D.rt (.bl false) S):
 wSt Δ lh2 D [some (webS n es),some x,some (.int (i:Nat)),some y,o4] S:=by
 refine⟨_,rfl,.inl ⟨rfl,_,rfl,?_⟩⟩;cases hy with
 | non=>exact ifF rfl (ifF rfl (i0 (Δ:=Δ) (q1 rfl)))
 | bl c=>exact ifT rfl ⟨_,rfl,_,nofun,rfl,_,rfl,ifF rfl ⟨_,rfl,_,nofun,rfl,_,rfl,ifT rfl (q0 rfl)⟩⟩
 | @int _ _ g h=>
   refine ifT rfl ⟨_,rfl,_,nofun,rfl,_,rfl,ifF rfl ⟨_,rfl,_,nofun,rfl,_,rfl,ifF rfl ⟨_,rfl,_,rfl,?_⟩⟩⟩;refine ifD (λz=>q0 (decide_eq_false (show ¬ (0:Int)<=g from by have z:g<0:=z;omega))) (λz=>i0 (Δ:=Δ) (q1 (decide_eq_true (show(0:Int)<=g from by have z:¬ g<0:=z;omega))))
 | str h hb'=>exact ifT rfl ⟨_,rfl,_,nofun,rfl,_,rfl,ifT rfl (q0 rfl)⟩
 | tup h hl hc=>exact ifT rfl ⟨_,rfl,_,nofun,rfl,_,rfl,ifT rfl (q0 rfl)⟩
 | lst hv h hl hc=>exact ifT rfl ⟨_,rfl,_,nofun,FA hv,_,rfl,ifT rfl (q0 rfl)⟩
theorem TH(hΔ:∀ f,MonoN (Δ f)){km:Nat}(hm:EY (Δ km)){n i:Nat}{es:EE}{x y:SV}{xs:List SV}{S:Sto}{D:EndsS}{o4:Option SV}(s0:seqS x S=some xs)(hi:i<es.length)(hl:xs.length=es.length)(hel:es.length<=60)(hy:xs[i]?=some y)(oy:okH y=true)(ok:∀(j:Nat) (z:SV),j<i->xs[j]?=some z->okH z=true)
 (q1:∀ o4:Option SV,(∀(j:Nat) (g:Int),j<i->xs[j]?=some (.int g)->y = .int g->¬ Shr es j i)->D.nx [some (webS n es),some x,some (.int (i:Nat)),some y,o4] S) (q0:∀(j:Nat) (g:Int),j<i->xs[j]?=some (.int g)->y = .int g->Shr es j i->D.rt (.bl false) S):
 wSt Δ (lh3 km) D [some (webS n es),some x,some (.int (i:Nat)),some y,o4] S:=by
 refine⟨_,rfl,((i:Nat):Int),rfl,⟨by omega,by omega⟩,?_⟩;refine AI (l9 hΔ _) (λk ρ S2=>∃ o4:Option SV,ρ=[some (webS n es),some x,some (.int (i:Nat)),some y,o4]/\S2=S/\∀(j:Nat) (g:Int),j<k->xs[j]?=some (.int g)->y = .int g->¬ Shr es j i) ⟨_,rfl,rfl,λj g hj=>absurd hj (X4 _)⟩ (λ_ _ _ _=>trivial) ?_ ?_
 ·rintro k z ρ S2 E hE hrt hz ⟨o4,rfl,rfl,al⟩;have hk:k<i:=by have:=(gM hz).1;rw[o9]at this;omega
  obtain⟨rfl,_⟩:=n8 hz;rw[Xg];have hv:=Vq (show k<xs.length by omega);have ov:=ok k _ hk hv;generalize xs[k]=v at *
  have next:(∀ g:Int,v = .int g->y = .int g->¬ Shr es k i)->∀(j:Nat) (g:Int),j<k+1->xs[j]?=some (.int g)->y = .int g->¬ Shr es j i:=λf j g hj hx e=>by
   rcases XY j k with w | w
   ·exact al j g w hx e
   ·have:j=k:=by omega
    subst this;rw[hv]at hx;cases hx;exact f g rfl e
  refine⟨_,rfl,.inl ⟨rfl,_,rfl,?_⟩⟩;rcases NN oy with rfl | ⟨g,rfl,_⟩
  ·exact ifF rfl (ifF rfl (i0 (Δ:=Δ) (hE _ _ ⟨_,rfl,rfl,next λg _ e=>by cases e⟩)))
  refine ifT rfl ⟨_,rfl,_,rfl,_,_,s0,j4 hv,_,rfl,?_⟩;rcases NN ov with rfl | ⟨g',rfl,_⟩
  ·exact⟨_,rfl,ifF rfl (ifF rfl (i0 (Δ:=Δ) (hE _ _ ⟨_,rfl,rfl,next λg e _=>by cases e⟩)))⟩
  refine⟨_,rfl,?_⟩;show if decide (g'=g)=true then _ else _
  refine ifD (λe=>?_) (λe=>ifF rfl (i0 (Δ:=Δ) (hE _ _ ⟨_,rfl,rfl,next λg1 e1 e2=>by injection e1 with e1;injection e2 with e2;exact absurd (e1.trans e2.symm) e⟩)));have e:g'=g:=e;subst e;refine⟨_,rfl,_,rfl,_,rfl,hm (by omega) hi λv ev=>⟨_,rfl,?_⟩⟩;cases v with
  | true=>exact ifT rfl (hrt _ _ (q0 k g' hk hv rfl (ev.mp rfl)))
  | false=>exact ifF rfl (i0 (Δ:=Δ) (hE _ _ ⟨_,rfl,rfl,next λg1 _ _ sh=>Bool.noConfusion (ev.mpr sh)⟩))
 ·rintro ρ S2 ⟨o4,rfl,rfl,al⟩;have e:(u8 0 ((i:Nat):Int)).length=i:=by rw[o9];omega
  rw[e]at al;exact q1 o4 al
theorem Hy(hΔ:∀ f,MonoN (Δ f)){km:Nat}(hm:EY (Δ km)){D:Df}(hb:D.body=Gb km)(hN:D.N.length=5)(hp:D.ps.length=2):BE (i4 Δ D):=by
 intro n k b es x S Q W hel hx q;unfold i4;rw[hb,hN];obtain⟨ty,e1,e2⟩:=hx.isLs;refine⟨hp.symm,_,rfl,by show 2<=100000;decide,_,[.list,.tuple],by decide,e1,rfl,_,rfl,?_⟩;rw[e2];rcases hx.split with⟨e,no⟩ | ⟨xs,V⟩
 ·rw[e];exact ifT rfl (q false S (Gw.refl S) ⟨nofun,λ⟨xs,z,_⟩=>absurd z (no _)⟩)
 rw[V.ls];have s0:=V.seq S (Gw.refl S);have hxl:=V.len;obtain⟨k',b',hg⟩:=V.gd;have no:¬ HuP es xs->Q (.bl false) S:=λh=>q false S (Gw.refl S) ⟨nofun,λ⟨ys,e,z⟩=>by rw[s0]at e;cases e;exact absurd z h⟩;refine ifF rfl ⟨_,rfl,_,s0,_,rfl,_,_,rfl,rfl,_,rfl,_,rfl,?_⟩;show if (!decide ((xs.length:Int)=((es.map pairS).length:Nat)))=true then _ else _
 rw[Vp];by_cases zl:xs.length=es.length
 case neg=>exact ifT (by rw[decide_eq_false (λy=>zl (WX.mp y))];rfl) (no λh=>zl h.1)
 refine ifF (by rw[decide_eq_true (show((xs.length:Nat):Int)=(es.length:Nat) by rw[zl])];rfl) (i0 ?_);refine⟨_,rfl,_,s0,?_⟩;refine AI (l9 hΔ _) (λi ρ S2=>∃ o2 o3 o4:Option SV,ρ=[some (webS n es),some x,o2,o3,o4]/\S2=S/\(∀(j:Nat) (z:SV),j<i->xs[j]?=some z->okH z=true)/\PropS es xs i) ⟨_,_,_,rfl,rfl,λj z hj=>absurd hj (X4 _),λa b g _ hb=>absurd hb (X4 _)⟩ (λ_ _ S2 z=>by obtain⟨_,_,_,_,rfl,_⟩:=z;exact V.keep S2 S2 (Gw.refl _) (Gw.refl _)) ?_ ?_
 ·rintro i z ρ S2 E hE hrt hz ⟨o2,o3,o4,rfl,rfl,ok,pr⟩;obtain⟨y,hy,rfl⟩:=BX hz;have hi:i<es.length:=by rw[<-zl];exact(gM hy).1
  refine TF (hg y (Vv hy)) (λoy=>?_) (λoy=>hrt _ _ (no λh=>by rw[h.2.1 y (Vv hy)]at oy;cases oy));refine TH hΔ hm s0 hi zl hel hy oy ok (λo4 al=>i0 (Δ:=Δ) (hE _ _ ⟨_,_,_,rfl,rfl,λj z hj hz2=>?_,λa b g hab hb ha hb'=>?_⟩)) (λj g hj hx e sh=>hrt _ _ (no λh=>h.2.2 j i g hj hi hx (by rw[hy,e]) sh))
  ·rcases XY j i with w | w
   ·exact ok j z w hz2
   ·have:j=i:=by omega
    subst this;rw[hy]at hz2;cases hz2;exact oy
  ·rcases XY b i with w | w
   ·exact pr a b g hab w ha hb'
   ·have:b=i:=by omega
    subst this;rw[hy]at hb';exact al a g hab ha (oj hb')
 ·rintro ρ S2 ⟨o2,o3,o4,rfl,rfl,ok,pr⟩;rw[Af]at ok pr;refine q true S2 (Gw.refl _) ⟨λ_=>⟨xs,s0,zl,λy hy=>?_,by rw[<-zl];exact pr⟩,λ_=>rfl⟩;obtain⟨j,hj,rfl⟩:=Ye hy;exact ok j _ hj (Vq hj)
end
noncomputable def pS(c:Nat):SV:=if c<1000 then .int (c:Nat) else .non
noncomputable def parS(cs:List Nat):List SV:=cs.map pS
theorem Aq{c:Nat}(h:c<1000):pS c = .int (c:Nat):=iP h
theorem Hz{c:Nat}(h:¬ c<1000):pS c = .non:=iG h
theorem B7{cs:List Nat}:(parS cs).length=cs.length:=by unfold parS;rw[Vp]
theorem Bk{cs:List Nat}{i c:Nat}(h:cs[i]?=some c):(parS cs)[i]?=some (pS c):=by unfold parS;rw[Vx,h];rfl
theorem VE{c h:Nat}(hh:h<1000){S:Sto}{Q:QE}(q:Q (.bl (decide (c=h))) S):B3 .Eq (pS c) (.int (h:Nat)) S Q:=by
 by_cases z:c<1000
 ·rw[Aq z];show Q (.bl (decide ((c:Int)=(h:Int)))) S;rw[show decide ((c:Int)=(h:Int))=decide (c=h) by rw[Wa];simp[WX]];exact q
 ·rw[Hz z];show Q (.bl false) S;rw[show decide (c=h)=false from decide_eq_false (by omega)]at q;exact q
theorem NQ{S:Sto}{l:Nat}{cs:List Nat}(h:S[l]?=some (.lst (parS cs)))(hl:cs.length<=60):Gd (VS S) 1 1000 (.loc l):=by
 refine .lst (k:=0) (b:=10) h (λy hy=>?_) (by rw[B7];omega) (by rw[B7];omega);unfold parS at hy;obtain⟨c,hc,rfl⟩:=WU.mp hy;by_cases z:c<1000
 ·rw[Aq z];exact .int ⟨by omega,by omega⟩
 ·rw[Hz z];exact .non
theorem Kk{α β:Type}{f:α->β}{l:List α}(nd:l.Nodup)(inj:∀ a∈l,∀ b∈l,f a=f b->a=b):(l.map f).Nodup:=by
 rw[List.Nodup,Xu];exact List.Pairwise.imp_of_mem (λ{a b} ha hb ne e=>ne (inj a ha b hb e)) nd
theorem Gc(A:List Nat):(natS A).all A9=true:=by rw[Ki];exact NP _
section
variable{Δ:Nat->Sn}
theorem TJ(c:Nat):CA (pS c)=!decide (c<1000):=by
 by_cases z:c<1000
 ·rw[Aq z,decide_eq_true z];rfl
 ·rw[Hz z,decide_eq_false z];rfl
end
noncomputable def Hv(S:Sto)(x:SV)(cs:List Nat):Prop:=x = .tup (parS cs)\/∃ k,x = .loc k/\S[k]?=some (.lst (parS cs))
theorem Hv.seq{S:Sto}{x:SV}{cs:List Nat}(h:Hv S x cs):seqS x S=some (parS cs):=by
 rcases h with rfl | ⟨k,rfl,h⟩
 ·rfl
 ·exact c5 h
theorem Hv.gw{S S':Sto}{x:SV}{cs:List Nat}(h:Hv S x cs)(G:Gw S S'):Hv S' x cs:=h.imp id λ⟨k,e,h⟩=>⟨k,e,G.keep _ _ h⟩
theorem Hv.loc{S:Sto}{k:Nat}{cs:List Nat}(h:S[k]?=some (.lst (parS cs))):Hv S (.loc k) cs := .inr ⟨k,rfl,h⟩
theorem NR{S S1 S2:Sto}{l:Nat}(G:Gw S S1)(O:On l S1 S2)(h:S.length<=l):Gw S S2:=⟨Wd G.len O.len,λj o e=>O.keep j o (by have:=(gM e).1;omega) (G.keep j o e)⟩
section
variable{Δ:Nat->Sn}
noncomputable def Cw(s:Sn):Prop:=∀{n p h:Nat} {w:SV} {es:EE} {cs:List Nat} {S:Sto} {Q:QE},Hv S w cs->cs.length=es.length->es.length<=1000->p<n->h<1000->(∀ S',Gw S S'->Q (TD (Ap es cs p h)) S')->s [webS n es,w,.int (p:Nat),.int (h:Nat)] S Q
theorem NS(hΔ:∀ f,MonoN (Δ f)){kt:Nat}(ht:CF (Δ kt)){D:Df}(hb:D.body=Ql kt)(hN:D.N.length=5)(hp:D.ps.length=4):Cw (i4 Δ D):=by
 intro n p h w es cs S Q hk hl hel hpn hh q;unfold i4;rw[hb,hN];refine⟨hp.symm,_,rfl,_,rfl,ht (by omega) hpn ⟨_,c5 c7,?_⟩⟩;have G1:Gw S (S++[SO.lst (natS (y8 es p es.length))]):=(Gw.refl S).push;have hk1:=hk.gw G1;generalize S++[SO.lst (natS (y8 es p es.length))]=S1 at *;refine AI (l9 hΔ _) (λj ρ S2=>S2=S1/\∃ o4:Option SV,ρ=[some (webS n es),some w,some (.int (p:Nat)),some (.int (h:Nat)),o4]/\∀ u∈(y8 es p es.length).take j,decide (hu cs u=h)=false) ⟨rfl,none,rfl,λu hu'=>by simp at hu'⟩ (λ_ _ _ z=>by rw[z.1];exact rfl) ?_ ?_
 ·rintro j x ρ S2 E hE hR hx ⟨rfl,o4,rfl,no⟩;obtain⟨t,htj,rfl⟩:=AQ hx;have tl:=(mem_tiesAt.mp (Vv htj))
  have tl:t<es.length:=let ⟨e,he,_⟩:=tl;(gM he).1
  have hc:=Bb (cs:=cs) (t:=t) (by omega);refine⟨_,rfl,_,rfl,_,_,hk1.seq,j4 (Bk hc),_,rfl,VE hh ⟨_,rfl,ifD (λz=>?_) (λz=>?_)⟩⟩
  ·have e:Ap es cs p h=some t:=JA htj (decide_eq_true z) no;refine⟨_,rfl,hR _ _ ?_⟩;have:=q S2 G1;rw[e]at this;exact this
  ·refine hE _ _ ⟨rfl,_,rfl,λu hu'=>?_⟩;rw[Wz,htj]at hu';rcases WD.mp hu' with y | y
   ·exact no u y
   ·have:u=t:=by simpa using y
    rw[this];exact decide_eq_false z
 ·rintro ρ S2 ⟨rfl,o4,rfl,no⟩;rw[i3,Wt]at no
  have e:Ap es cs p h=none:=by
   unfold Ap;rw[Y3];intro u hu' z;rw[no u hu']at z;cases z
  have:=q S2 G1;rw[e]at this;exact this
theorem NT(hΔ:∀ f,MonoN (Δ f)){kh kf:Nat}(hh:Cw (Δ kh))(hf:CG (Δ kf)){n p a b:Nat}{w:SV}{es:EE}{cs:List Nat}{S:Sto}{Q:QE}(X:List Stm)(hk:Hv S w cs)(a9:a<1000)(b9:b<1000)(P:Prp es cs)(hen:∀ e∈es,e.1<e.2/\e.2<n)(hel:es.length<=1000)(hpn:p<n)(ab:a≠b)(hno:∀ u,AtP es u p->hu cs u≠b)
 (q:∀(l:Nat) (S':Sto),Gw S S'->S.length<=l->S'[l]?=some (.lst (natS (rwF es cs (es.length+1) p a b)))->Q (.loc l) S'):
 wSs Δ [(.iff (.cmp .IsNot (.call kh (.cons (.var 0) (.cons (.var 1) (.cons (.var 2) (.cons (.var 4) .nil))))) (.c .non)) X []),(.asg (.nm 5) (.lst .nil)),(.asg (.nm 6) (.call kh (.cons (.var 0) (.cons (.var 1) (.cons (.var 2) (.cons (.var 3) .nil)))))),rf4 kf kh,(.ret (.var 5))] (m6 Q) [some (webS n es),some w,some (.int (p:Nat)),some (.int (a:Nat)),some (.int (b:Nat)),none,none] S:=by
 have hne:∀ e∈es,e.1≠e.2:=λe he=>W3 (hen e he).1;have hl:=P.len;refine⟨_,rfl,_,rfl,_,rfl,_,rfl,hh hk hl hel hpn b9 λS1 G1=>?_⟩;rw[JB hno];refine .inl ⟨rfl,_,rfl,ifF rfl (i0 ?_)⟩;refine⟨by show 0<=100000;decide,?_⟩;have hk1:=hk.gw G1;refine⟨_,rfl,_,rfl,_,rfl,_,rfl,hh (hk1.gw (Gw.refl S1).push) hl hel hpn a9 λS2 G2=>?_⟩;have h2:S2[S1.length]?=some (.lst []):=G2.keep _ _ c7;have GS:Gw S S2:=G1.trans ((Gw.refl S1).push.trans G2);have s1:=G1.len;generalize S1.length=l at *;show wSs Δ [rf4 kf kh,(.ret (.var 5))] (m6 Q) [some (webS n es),some w,some (.int (p:Nat)),some (.int (a:Nat)),some (.int (b:Nat)),some (.loc l),some (TD (Ap es cs p a))] S2;refine⟨λm ρ S'=>∃(r:List Nat) (x one other:Nat),ρ=[some (webS n es),some w,some (.int (x:Nat)),some (.int (one:Nat)),some (.int (other:Nat)),some (.loc l),some (TD (Ap es cs x one))]/\RwI es cs a b p r x one other/\x<n/\r++rwF es cs (es.length+1 - r.length) x one other=rwF es cs (es.length+1) p a b/\m+r.length=es.length+1/\On l S2 S'/\S'[l]?=some (.lst (natS r)),⟨es.length+1,[],p,a,b,rfl,RwI.nil hno,hpn,rfl,rfl,On.refl _ _,h2⟩,?_⟩;rintro m ρ S' ⟨r,x,one,other,rfl,R,xn,er,em,O,hr⟩;have rl:=R.len;have GS':Gw S S':=NR GS O s1;have hk':=hk.gw GS';cases hz:Ap es cs x one with
 | none=>
   refine⟨_,rfl,.inl ⟨rfl,_,rfl,ifF rfl ?_⟩⟩
   have e0:rwF es cs (es.length+1 - r.length) x one other=[]:=by
    rw[show es.length+1 - r.length=(es.length - r.length)+1 by omega];unfold rwF;rw[hz]
   rw[e0,X0]at er;exact⟨_,rfl,q l S' GS' s1 (by rw[hr,er])⟩
 | some t=>
   obtain⟨⟨e,he,hx⟩,hcx⟩:=EX hz;have hee:=hen e (Vv he);have ge:es.getD t (0,0)=e:=by rw[Vt,he];rfl
   have R':=R.step P ab he hx (hne e (Vv he)) hcx;have fn:C2 e x<n:=by unfold C2;split<;>omega
   have e1:rwF es cs (es.length+1 - r.length) x one other=t::rwF es cs (es.length+1 - (r++[t]).length) (C2 e x) other one:=by
    rw[show es.length+1 - r.length=(es.length - r.length)+1 by omega,show es.length+1 - (r++[t]).length=es.length - r.length by rw[Vs];simp]
    conv=>lhs;unfold rwF
    rw[hz];dsimp only;rw[ge]
   refine⟨_,rfl,.inl ⟨rfl,_,rfl,ifT rfl ?_⟩⟩;refine⟨_,rfl,⟨_,_,rfl,hr⟩,_,rfl,_,hr,by rw[i3];show _<100000;omega,?_⟩;have h3:(S'.set l (.lst (natS r++[.int (t:Nat)])))[l]?=some (.lst (natS (r++[t]))):=by rw[BB hr,r6];rfl
   have O3:On l S2 (S'.set l (.lst (natS r++[.int (t:Nat)]))):=O.tape;have hk3:=hk.gw (NR GS O3 s1);show wSs Δ [(.asg (.nm 2) (.call kf (.cons (.var 0) (.cons (.var 6) (.cons (.var 2) .nil))))),(.par 3 4 (.var 4) (.var 3)),(.asg (.nm 6) (.call kh (.cons (.var 0) (.cons (.var 1) (.cons (.var 2) (.cons (.var 3) .nil))))))] _ [some (webS n es),some w,some (.int (x:Nat)),some (.int (one:Nat)),some (.int (other:Nat)),some (.loc l),some (.int (t:Nat))] (S'.set l (.lst (natS r++[.int (t:Nat)])));generalize S'.set l (.lst (natS r++[.int (t:Nat)]))=S3 at *;refine⟨_,rfl,_,rfl,_,rfl,hf he (hx.imp Eq.symm Eq.symm) ?_⟩;refine⟨_,rfl,_,rfl,?_⟩;refine⟨_,rfl,_,rfl,_,rfl,_,rfl,hh hk3 hl hel fn (by rcases R.ab.2 with z | z<;>rw[z]<;>assumption) λS4 G4=>?_⟩;refine⟨es.length+1 - (r++[t]).length,by rw[Vs];simp;omega,r++[t],C2 e x,other,one,rfl,R',fn,?_,?_,O3.trans (Vh G4),G4.keep _ _ h3⟩
   ·rw[<-er,e1];simp
   ·have:=R'.len;omega
end
noncomputable def NU(es:EE)(x t:Nat):Bool:=match es[t]? with | some e=>(decide (e.1=x)||decide (e.2=x)) | none=>false
theorem hasE_iff{es:EE}{x t:Nat}:NU es x t=true↔AtP es t x:=by
 unfold NU AtP;cases es[t]? with
 | none=>simp
 | some e=>simp
theorem TK{es:EE}{t u y:Nat}(ht:AtP es t y)(hu':AtP es u y):Shr es t u:=by
 obtain⟨e,he,h1⟩:=ht;obtain⟨f,hf,h2⟩:=hu';have e1:u9 es t=e:=by have:=CI (gM he).1;rw[he]at this;exact(oj this).symm
 have e2:u9 es u=f:=by have:=CI (gM hf).1;rw[hf]at this;exact(oj this).symm
 refine⟨y,?_,?_⟩
 ·rw[e1];exact h1.imp Eq.symm Eq.symm
 ·rw[e2];exact h2.imp Eq.symm Eq.symm
section
variable{Δ:Nat->Sn}
noncomputable def Vi(kd:Nat):Stm:=(.asg (.nm 3) (.ix (.lst (.cons (.lst (.cons (.c (.int 0)) (.cons (.c (.int 1)) (.cons (.c (.int 2)) (.cons (.c (.int 3)) (.cons (.c (.int 4)) (.cons (.c (.int 5)) .nil))))))) (.cons (.lst (.cons (.c (.int 0)) (.cons (.c (.int 1)) (.cons (.c (.int 7)) (.cons (.c (.int 40)) .nil))))) (.cons (.lst (.cons (.c (.int 2)) (.cons (.c (.int 0)) (.cons (.c (.int 1)) (.cons (.c (.int 5)) (.cons (.c (.int 9)) .nil)))))) (.cons (.lst (.cons (.c (.int 99)) (.cons (.c (.int 3)) (.cons (.c (.int 0)) (.cons (.c (.int 11)) (.cons (.c (.int 4)) (.cons (.c (.int 2)) .nil))))))) .nil))))) (.call kd (.cons (.var 0) (.cons (.c (.int 4)) .nil)))))
noncomputable def ih6(km:Nat):Stm:=(.asg (.nm 6) (.comp ["_law_k"] ["_law_web_here","_law_tie","_law_found"] [1,5,4] (.nm 0) (.rng1 (.var 5)) (.yes (.call km (.cons (.var 1) (.cons (.var 0) (.cons (.var 2) .nil))))) (.ix (.var 3) (.var 0))))
noncomputable def ih7:Stm:=(.asg (.nm 7) (.comp ["_law_hue"] ["_law_taken"] [6] (.nm 0) (.seq (.op .Add (.var 3) (.lrng2 (.c (.int 100)) (.op .Add (.op .Add (.c (.int 100)) (.bi .len (.cons (.var 6) .nil))) (.c (.int 1)))))) (.yes (.cmp .NotIn (.var 0) (.var 1))) (.var 0)))
noncomputable def ih8(kd:Nat):Stm:=(.asg (.nm 8) (.ix (.var 7) (.call kd (.cons (.var 0) (.cons (.bi .min (.cons (.c (.int 2)) (.cons (.bi .len (.cons (.var 7) .nil)) .nil))) .nil)))))
noncomputable def ih9(kd:Nat):Stm:=(.expr (.mt .append (.var 4) (.cons (.ix (.lst (.cons (.var 8) (.cons (.c .non) .nil))) (.bi .int (.cons (.and (.var 2) (.cmp .Eq (.call kd (.cons (.var 0) (.cons (.c (.int 4)) .nil))) (.c (.int 0)))) .nil))) .nil)))
noncomputable def Qm(kd km:Nat):List Stm:=[Vi kd,(.asg (.nm 4) (.lst .nil)),(.loop (.nm 5) (.rng1 (.bi .len (.cons (.ix (.var 1) (.c (.int 1))) .nil))) [ih6 km,ih7,ih8 kd,ih9 kd]),(.ret (.var 4))]
noncomputable def someL:Nat->List Nat
 | 0=>[0,1,2,3,4,5] | 1=>[0,1,7,40] | 2=>[2,0,1,5,9] | _=>[99,3,0,11,4,2]
theorem Pz(r:Nat):(someL r).length<=6/\∀ h∈someL r,h<200:=by
 unfold someL;split<;>exact⟨by decide,by decide⟩
theorem NV(lo k:Nat):u8 lo (lo+k:Nat)=natS ((Vw k).map (lo+·)):=by
 unfold u8 natS;rw[show(((lo+k:Nat):Int) - (lo:Nat)).toNat=k by omega,XE];refine Xb λi _=>?_;show SV.int ((lo:Int)+i)=SV.int ((lo+i:Nat):Int);rw[Int.natCast_add]
end
structure Rows0(g:Nat->Nat)(ts:List Nat)(R:List (List Nat)):Prop where
 ne:∀ r∈R,r≠[]
 up:∀ r∈R,r.Pairwise (·<·)
 cov:∀ t∈ts,∃ r∈R,t∈r
 mem:∀ r∈R,∀ t∈r,t∈ts/\∀ u,u∈r↔u∈ts/\g u=g t
 nd:(R.map λr=>r.headD 0).Nodup
structure Rows(g:Nat->Nat)(ts:List Nat)(R:List (List Nat)):Prop extends Rows0 g ts R where
 hd:(R.map λr=>r.headD 0).Pairwise (·<=·)
theorem JC{r:List Nat}(h:r≠[]):r.headD 0∈r:=by
 cases r with
 | nil=>exact absurd rfl h
 | cons x r=>exact WG
theorem Rows0.sort{g:Nat->Nat}{ts:List Nat}{R R':List (List Nat)}(a:Rows0 g ts R)(p:R'.Perm R)(h:(R'.map λr=>r.headD 0).Pairwise (·<=·)):Rows g ts R':=
 ⟨⟨λr hr=>a.ne r (p.mem_iff.mp hr),λr hr=>a.up r (p.mem_iff.mp hr),λt ht=>let ⟨r,hr,z⟩:=a.cov t ht;⟨r,p.mem_iff.mpr hr,z⟩,λr hr=>a.mem r (p.mem_iff.mp hr),(p.map _).nodup_iff.mpr a.nd⟩,h⟩
noncomputable def wbT(es:EE)(ts:List Nat):EE:=ts.map λt=>es.getD t (0,0)
noncomputable def grp(n:Nat)(es:EE)(ts:List Nat)(t:Nat):Nat:=Hue.mk n (wbT es ts) (es.getD t (0,0)).1
theorem Ea{es:EE}{n:Nat}(hen:∀ e∈es,e.1<e.2/\e.2<n){t:Nat}(ht:t<es.length):(es.getD t (0,0)).1<(es.getD t (0,0)).2/\(es.getD t (0,0)).2<n:=by
 rw[Vt,Vq ht];exact hen _ (Wi ht)
theorem JD{es:EE}{n:Nat}(hen:∀ e∈es,e.1<e.2/\e.2<n){ts:List Nat}(hts:∀ t∈ts,t<es.length):∀ e∈wbT es ts,e.1<e.2/\e.2<n:=λe he=>by
 obtain⟨t,ht,rfl⟩:=WU.mp he;exact Ea hen (hts t ht)
theorem hn2{es:EE}{n:Nat}(h:∀ e∈es,e.1<e.2/\e.2<n):∀ e∈es,e.1<n/\e.2<n:=λe he=>⟨Yp (h e he).1 (h e he).2,(h e he).2⟩
section
variable{es:EE}{n:Nat}{ts:List Nat}(hen:∀ e∈es,e.1<e.2/\e.2<n)(hts:∀ t∈ts,t<es.length)
include hen hts
theorem CL{t:Nat}(ht:t∈ts):Hue.mk n (wbT es ts) (es.getD t (0,0)).2=grp n es ts t:=(Hue.mk_ends (hn2 (JD hen hts)) _ (XN ht)).symm
theorem VF{p t:Nat}(hp:p<n)(ht:t∈ts)(h:Hue.mk n (wbT es ts) p=grp n es ts t):∃ u∈ts,((es.getD u (0,0)).1=p\/(es.getD u (0,0)).2=p)/\grp n es ts u=grp n es ts t:=by
 have hw:=hn2 (JD hen hts);have e0:=Ea hen (hts t ht);by_cases z:∃ u∈ts,(es.getD u (0,0)).1=p\/(es.getD u (0,0)).2=p
 ·obtain⟨u,hu,hz⟩:=z;refine⟨u,hu,hz,?_⟩;rcases hz with hz | hz
  ·rw[<-h,<-hz];rfl
  ·rw[<-CL hen hts hu,hz,h]
 ·exfalso
  have cl:Hue.Cl (wbT es ts) λq=>q=p:=λe he=>by
   obtain⟨u,hu,rfl⟩:=WU.mp he;exact⟨λa=>absurd ⟨u,hu,.inl a⟩ z,λa=>absurd ⟨u,hu,.inr a⟩ z⟩
  have:=(Hue.mk_same hw cl (p:=(es.getD t (0,0)).1) (q:=p) (by omega) hp h.symm).mpr rfl;exact z ⟨t,ht,.inl this⟩
end
noncomputable def t7(n:Nat)(es:EE)(ts:List Nat)(f:Nat):List Nat:=ts.filter λt=>decide (grp n es ts t=f)
noncomputable def Ge(n:Nat)(es:EE)(ts:List Nat):List (List Nat):=((v9 (Hue.mk n (wbT es ts)) n).map (t7 n es ts)).filter λr=>!r.isEmpty
noncomputable def FF(es:EE)(r:List Nat):List Nat:=r.flatMap λt=>[(u9 es t).1,(u9 es t).2]
noncomputable def JE(es:EE)(r:List Nat):Bool:=(FF es r).all λp=>decide ((FF es r).count p=2)
noncomputable def tAt(es:EE)(p t:Nat):Bool:=decide ((u9 es t).1=p)||decide ((u9 es t).2=p)
theorem row_mem{n:Nat}{es:EE}{ts:List Nat}{f t:Nat}:t∈t7 n es ts f↔t∈ts/\grp n es ts t=f:=by unfold t7;rw[Wj,dQ]
theorem Dk{es:EE}{p:Nat}:∀{r:List Nat},(∀ t∈r,(u9 es t).1<(u9 es t).2)->(FF es r).count p=(r.filter (tAt es p)).length
 | [],_=>rfl
 | t::r,h=>by
   have ih:=Dk (p:=p) (r:=r) λu hu=>h u (W5 _ hu);have h0:=h t WG;have e:FF es (t::r)=(u9 es t).1::(u9 es t).2::FF es r:=rfl;rw[e,YQ,YQ,ih,XQ];unfold tAt;by_cases a:(u9 es t).1=p
   ·have b:¬ (u9 es t).2=p:=λz=>by omega
    simp[a,b]
   ·by_cases b:(u9 es t).2=p
    ·simp[a,b]
    ·simp[a,b]
theorem held_mem{es:EE}{r:List Nat}{p:Nat}:p∈FF es r↔∃ t∈r,(u9 es t).1=p\/(u9 es t).2=p:=by
 unfold FF;rw[List.mem_flatMap];exact exists_congr λt=>and_congr Iff.rfl (by simp[eq_comm])
theorem Eb{E:EE}{p:Nat}:∀ i,i<=E.length->(y8 E p i).length=((E.take i).filter λe=>decide (e.1=p)||decide (e.2=p)).length
 | 0,_=>rfl
 | i+1,h=>by
   have he:=Vq (show i<E.length from h);rw[BZ E p i he,Vs,Eb i (Yo h),Wz,he,Xf,Vs]
   congr 1
   show _=(ZA _ [E[i]]).length;rw[XQ];split<;>rfl
theorem TL{es:EE}{ts:List Nat}{p:Nat}:Ai (wbT es ts) p=(ts.filter (tAt es p)).length:=by
 unfold Ai;rw[Eb _ (W0 _),Wt];unfold wbT;rw[YR,Vp];rfl
section
variable{es:EE}{n:Nat}{ts:List Nat}(hen:∀ e∈es,e.1<e.2/\e.2<n)(hts:∀ t∈ts,t<es.length)
include hen hts
theorem Kl(up:ts.Pairwise (·<·)):Rows0 (grp n es ts) ts (Ge n es ts):=by
 have hw:=hn2 (JD hen hts)
 have m0:∀{r:List Nat},r∈Ge n es ts->∃ f,f∈v9 (Hue.mk n (wbT es ts)) n/\r=t7 n es ts f/\r≠[]:=λ{r} hr=>by
  obtain⟨h1,h2⟩:=Wj.mp hr;obtain⟨f,hf,e⟩:=WU.mp h1;exact⟨f,hf,e.symm,λz=>by rw[z]at h2;cases h2⟩
 refine⟨λr hr=>(m0 hr).choose_spec.2.2,λr hr=>?_,λt ht=>?_,λr hr t ht=>?_,?_⟩
 ·obtain⟨f,_,rfl,_⟩:=m0 hr;exact up.filter _
 ·have e0:=Ea hen (hts t ht);have mem:=row_mem.mpr (⟨ht,rfl⟩:t∈ts/\grp n es ts t=grp n es ts t);refine⟨t7 n es ts (grp n es ts t),Wj.mpr ⟨XN (Wj.mpr ⟨WJ.mpr (Hue.mk_lt hw (by omega)),decide_eq_true (Hue.mk_mk hw (by omega))⟩),?_⟩,mem⟩;cases h:t7 n es ts (grp n es ts t) with
  | nil=>rw[h]at mem;cases mem
  | cons _ _=>rfl
 ·obtain⟨f,_,rfl,_⟩:=m0 hr;obtain⟨a,b⟩:=row_mem.mp ht;exact⟨a,λu=>by rw[b];exact row_mem⟩
 ·have nr:(v9 (Hue.mk n (wbT es ts)) n).Nodup:=Z7.filter _;unfold Ge;rw[YR];rw[XE];refine Xu.mpr ((nr.filter _).imp_of_mem ?_);intro f f' hf hf' hne z
  have one:∀{g:Nat},g∈(v9 (Hue.mk n (wbT es ts)) n).filter ((λr=>!r.isEmpty)∘t7 n es ts)->grp n es ts ((t7 n es ts g).headD 0)=g:=λ{g} hg=>by
   have h2:(!(t7 n es ts g).isEmpty)=true:=(Wj.mp hg).2;have h3:t7 n es ts g≠[]:=λz=>by rw[z]at h2;cases h2
   exact(row_mem.mp (JC h3)).2
  have z':(t7 n es ts f).headD 0=(t7 n es ts f').headD 0:=z;exact hne (by rw[<-one hf,<-one hf',z'])
theorem NW{f:Nat}(hne:t7 n es ts f≠[]):(∀ p∈BL (Hue.mk n (wbT es ts)) n f,Ai (wbT es ts) p=2)↔JE es (t7 n es ts f)=true:=by
 have lt:∀ t∈t7 n es ts f,(u9 es t).1<(u9 es t).2:=λt ht=>(Ea hen (hts t (row_mem.mp ht).1)).1
 have cnt:∀ p,Hue.mk n (wbT es ts) p=f->Ai (wbT es ts) p=(FF es (t7 n es ts f)).count p:=λp hp=>by
  rw[TL,Dk lt];unfold t7;rw[List.filter_filter]
  congr 1
  refine Z0 λt ht=>?_;by_cases z:tAt es p t=true
  ·have:grp n es ts t=f:=by
    unfold tAt at z;rw[WK,dQ,dQ]at z;rcases z with z | z
    ·rw[<-hp,<-z];rfl
    ·rw[<-CL hen hts ht,<-hp,<-z];rfl
   rw[z,this];simp
  ·rw[Y8.mpr z];rfl
 have mark:∀ p∈FF es (t7 n es ts f),p<n/\Hue.mk n (wbT es ts) p=f:=λp hp=>by
  obtain⟨t,ht,z⟩:=held_mem.mp hp;obtain⟨t1,t2⟩:=row_mem.mp ht;have e0:=Ea hen (hts t t1);rcases z with z | z
  ·rw[<-z];exact⟨by show(es.getD t (0,0)).1<n;omega,t2⟩
  ·rw[<-z];exact⟨e0.2,(CL hen hts t1).trans t2⟩
 unfold JE;rw[W9];constructor
 ·intro h p hp;obtain⟨p1,p2⟩:=mark p hp;rw[dQ,<-cnt p p2];exact h p (Wj.mpr ⟨WJ.mpr p1,decide_eq_true p2⟩)
 ·intro h p hp;obtain⟨p1,p2⟩:=Wj.mp hp;have p2:Hue.mk n (wbT es ts) p=f:=of_decide_eq_true p2;obtain⟨t,ht⟩:=List.exists_mem_of_ne_nil _ hne;obtain⟨t1,t2⟩:=row_mem.mp ht;obtain⟨u,hu,hz,hg⟩:=VF hen hts (WJ.mp p1) t1 (p2.trans t2.symm);rw[cnt p p2];exact of_decide_eq_true (h p (held_mem.mpr ⟨u,row_mem.mpr ⟨hu,hg.trans t2⟩,hz⟩))
end
theorem FG{α:Type}{d:α}(P:α->Bool):∀ l:List α,((Vw l.length).filter λi=>P (l.getD i d)).map (λi=>l.getD i d)=l.filter P:=λl=>by
 have e:(Vw l.length).map (λi=>l.getD i d)=l:=by
  apply Z4
  ·simp
  ·intro i h1 h2;simp[Vq h2]
 conv=>rhs;rw[<-e,YR]
 rfl
noncomputable def inL(A:List Nat)(E:EE):List Nat:=(Vw E.length).filter λi=>decide ((E.getD i (0,0)).1∈A)&&decide ((E.getD i (0,0)).2∈A)
section
variable{es:EE}{n:Nat}{ts:List Nat}(hen:∀ e∈es,e.1<e.2/\e.2<n)(hts:∀ t∈ts,t<es.length)
include hen hts
theorem TM(f:Nat):(inL (BL (Hue.mk n (wbT es ts)) n f) (wbT es ts)).map (λi=>ts.getD i 0)=t7 n es ts f:=by
 have wl:(wbT es ts).length=ts.length:=Vp _;unfold inL t7;rw[wl,<-FG (d:=0) (λt=>decide (grp n es ts t=f)) ts]
 congr 1
 refine Z0 λi hi=>?_;have hi:=WJ.mp hi;have g0:ts.getD i 0=ts[i]:=by rw[Vt,Vq hi];rfl
 have g1:(wbT es ts).getD i (0,0)=es.getD ts[i] (0,0):=by
  rw[Vt];unfold wbT;rw[Vx,Vq hi];rfl
 have m:=Wi hi;have e0:=Ea hen (hts _ m);rw[g0,g1]
 have c:∀ p,p<n->(p∈BL (Hue.mk n (wbT es ts)) n f↔Hue.mk n (wbT es ts) p=f):=λp hp=>by
  unfold BL;rw[Wj,WJ,dQ];exact and_iff_right hp
 rw[Wa,Vo,dQ,dQ,dQ,c _ (by omega),c _ (by omega),CL hen hts m];exact⟨λh=>h.1,λh=>⟨h,h⟩⟩
end
section
variable{Δ:Nat->Sn}
noncomputable def NX:List Stm:=[(.asg (.nm 2) (.setl (.var 1))),(.ret (.comp ["tie","one","other"] ["among"] [2] (.tup (.cons (.nm 0) (.cons (.tup (.cons (.nm 1) (.cons (.nm 2) .nil))) .nil))) (.enum (.ix (.var 0) (.c (.int 1)))) (.yes (.and (.cmp .In (.var 1) (.var 3)) (.cmp .In (.var 2) (.var 3)))) (.var 0)))]
noncomputable def CM(s:Sn):Prop:=∀{n k:Nat} {es:EE} {A:List Nat} {S:Sto} {Q:QE},S[k]?=some (.lst (natS A))->es.length<=1000->A.length<=900->(∀(l:Nat) (S':Sto),Gw S S'->S.length<=l->S'[l]?=some (.lst (natS (inL A es)))->Q (.loc l) S')->s [webS n es,.loc k] S Q
theorem Gf(A:List Nat)(a:Nat):decide ((a:Int)∈AU (A.map λ(a:Nat)=>(a:Int)))=decide (a∈A):=by
 rw[decide_eq_decide];refine(AV _ _).trans ?_;rw[WU];exact⟨λ⟨x,hx,e⟩=>by rw[<-WX.mp e];exact hx,λh=>⟨a,h,rfl⟩⟩
theorem NY{A:List Nat}{es:EE}{i:Nat}{e:Nat×Nat}(h:es[i]?=some e):((Vw (i+1)).filter λi=>decide ((es.getD i (0,0)).1∈A)&&decide ((es.getD i (0,0)).2∈A))=((Vw i).filter λi=>decide ((es.getD i (0,0)).1∈A)&&decide ((es.getD i (0,0)).2∈A))++if (decide (e.1∈A)&&decide (e.2∈A))=true then [i] else []:=by
 rw[CJ];have:es.getD i (0,0)=e:=by rw[Vt,h];rfl
 rw[this]
theorem NZ(hΔ:∀ f,MonoN (Δ f)){D:Df}(hb:D.body=NX)(hN:D.N.length=3)(hp:D.ps.length=2):CM (i4 Δ D):=by
 intro n k es A S Q hk hl hA q;unfold i4;rw[hb,hN];refine⟨hp.symm,_,rfl,_,_,c5 hk,FD A,by rw[Vp];exact hA,_,rfl,_,_,rfl,rfl,_,rfl,?_⟩;have hs:(S++[SO.iset (AU (A.map λ(a:Nat)=>(a:Int)))])[S.length]?=some (.iset (AU (A.map λ(a:Nat)=>(a:Int)))):=c7;have G1:Gw S (S++[SO.iset (AU (A.map λ(a:Nat)=>(a:Int)))]):=(Gw.refl S).push;have ln:=G1.len;dsimp only[List.set];generalize S.length=m at *;generalize S++[SO.iset (AU (A.map λ(a:Nat)=>(a:Int)))]=S1 at *;refine i5 (j6 hΔ _).2 (c4 hΔ _).1 (λi ys S'=>S'=S1/\ys=natS ((Vw i).filter λi=>decide ((es.getD i (0,0)).1∈A)&&decide ((es.getD i (0,0)).2∈A))) ⟨rfl,rfl⟩ (λ_ _ _ _=>trivial) ?_ ?_
 ·rintro i x ys S' hx ⟨rfl,rfl⟩;obtain⟨y,hy',rfl⟩:=BX hx;obtain⟨e,he,rfl⟩:=BY hy';have hi:=(gM he).1;have fl:=Ag (λi=>decide ((es.getD i (0,0)).1∈A)&&decide ((es.getD i (0,0)).2∈A)) i;have fs:=NY (A:=A) he;refine⟨_,rfl,_,rfl,?_⟩;show match BG (.loc m) S' with | some ms=>_ | none=>_
  rw[GL hs];refine⟨_,rfl,rfl,_,rfl,?_⟩;show if decide ((e.1:Int)∈AU (A.map λ(a:Nat)=>(a:Int)))=true then _ else _
  rw[Gf];refine ifD (λz1=>⟨_,rfl,_,rfl,?_⟩) (λz1=>ifF rfl ⟨rfl,by rw[fs,decide_eq_false z1,YU];simp⟩);show match BG (.loc m) S' with | some ms=>_ | none=>_
  rw[GL hs];refine⟨_,rfl,rfl,_,rfl,?_⟩;show if decide ((e.2:Int)∈AU (A.map λ(a:Nat)=>(a:Int)))=true then _ else _
  rw[Gf];refine ifD (λz2=>⟨_,rfl,by rw[i3];show _<100000;omega,rfl,by rw[fs,decide_eq_true z1,decide_eq_true z2,r6];rfl⟩) (λz2=>⟨rfl,by rw[fs,decide_eq_false z2,YW];simp⟩)
 ·rintro ys S' ⟨rfl,rfl⟩;rw[Af,Vp];exact q _ _ G1.push ln c7
noncomputable def Qn(kc:Nat):List Stm:=[(.ret (.ife (.bi .all (.cons (.comp ["place"] ["web"] [0] (.nm 0) (.seq (.var 1)) .no (.cmp .Eq (.call kc (.cons (.var 1) (.cons (.var 0) .nil))) (.c (.int 2)))) .nil)) (.c (.str "ring")) (.c (.str "open"))))]
noncomputable def Na(b:Bool):Str:=if b=true then "ring" else "open"
noncomputable def Dl(s:Sn):Prop:=∀{n k:Nat} {es:EE} {A:List Nat} {S:Sto} {Q:QE},S[k]?=some (.lst (natS A))->es.length<=1000->A.length<=900->(∀ p∈A,p<n)->(∀ S',Gw S S'->Q (.str (Na (decide (∀ p∈A,Ai es p=2)))) S')->s [webS n es,.loc k] S Q
theorem Q0(hΔ:∀ f,MonoN (Δ f)){kc:Nat}(hc:FE (Δ kc)){D:Df}(hb:D.body=Qn kc)(hN:D.N.length=2)(hp:D.ps.length=2):Dl (i4 Δ D):=by
 intro n k es A S Q hk hl hA hAn q;unfold i4;rw[hb,hN];refine⟨hp.symm,_,rfl,_,c5 hk,?_⟩;refine Dj hΔ (λi=>decide (Ai es (A.getD i 0)=2)) (by rw[i3];omega) (λS' G=>by show S'[k]?=S[k]?;rw[hk,G.keep _ _ hk]) (λi x S' hx G=>?_) λS' G=>?_
 ·obtain⟨p,hpi,rfl⟩:=AQ hx;have g:A.getD i 0=p:=by rw[Vt,hpi];rfl
  refine⟨_,rfl,_,rfl,hc (by omega) (hAn p (Vv hpi)) λS2 G2=>⟨?_,G.trans G2⟩⟩;rw[g];show SV.bl (decide (((Ai es p:Nat):Int)=((2:Nat):Int)))=_
  congr 1
  rw[decide_eq_decide];exact WX
 ·rw[i3];have e:∀ l:List Nat,(l.map λi=>SV.bl (decide (Ai es (A.getD i 0)=2)))=(l.map λi=>decide (Ai es (A.getD i 0)=2)).map SV.bl:=λl=>by rw[XE];rfl
  have bls:∀ bs:List Bool,blS (bs.map SV.bl)=some bs:=λbs=>by
   induction bs with
   | nil=>rfl
   | cons b bs ih=>show(blS (bs.map SV.bl)).map (b::·)=_;rw[ih];rfl
  rw[e];refine⟨_,_,nofun,c5 c7,bls _,_,rfl,?_⟩
  have v:(((Vw A.length).map λi=>decide (Ai es (A.getD i 0)=2)).all id)=decide (∀ p∈A,Ai es p=2):=by
   rw[Wa,dQ,W9];constructor
   ·intro h p hp;obtain⟨i,hi⟩:=Xa hp;have:=h _ (XN (WJ.mpr (gM hi).1));rw[id,dQ,Vt,hi]at this;exact this
   ·intro h b hb;obtain⟨i,hi,rfl⟩:=WU.mp hb;have hi:=WJ.mp hi;rw[id,dQ,Vt,Vq hi];exact h _ (Wi hi)
  rw[v];have qq:=q _ (G.push (o:=SO.lst (((Vw A.length).map λi=>decide (Ai es (A.getD i 0)=2)).map SV.bl)));unfold Na at qq;exact ifB (λz=>by rw[iP z]at qq;exact qq) λz=>by rw[iG (by rw[z];decide)]at qq;exact qq
end
noncomputable def C3(cs:List (Option Nat))(a b:Nat):List Nat:=(Vw cs.length).filter λt=>decide (cs.getD t none=some a)||decide (cs.getD t none=some b)
theorem TN{cs:List (Option Nat)}{a b:Nat}:∀ t∈C3 cs a b,t<cs.length:=λt ht=>WJ.mp (Wj.mp ht).1
theorem TQ(cs:List (Option Nat))(a b:Nat):(C3 cs a b).Pairwise (·<·):=YK.filter _
noncomputable def itemS(es:EE)(p:Nat×List Nat):SV := .tup [.str (Na (JE es p.2)),.loc p.1]
structure RowsAt(S:Sto)(l:Nat)(es:EE)(qs:List (Nat×List Nat)):Prop where
 top:S[l]?=some (.lst (qs.map (itemS es)))
 row:∀ q∈qs,S[q.1]?=some (.lst (natS q.2))
section
variable{Δ:Nat->Sn}
noncomputable def ro2:Stm:=(.asg (.nm 4) (.comp ["tie","hue"] ["one","other"] [2,3] (.tup (.cons (.nm 0) (.cons (.nm 1) .nil))) (.enum (.var 1)) (.yes (.cmp .In (.var 1) (.tup (.cons (.var 2) (.cons (.var 3) .nil))))) (.var 0)))
noncomputable def roA(kw:Nat):Stm:=(.asg (.nm 8) (.comp ["at"] ["ties"] [4] (.nm 0) (.seq (.call kw (.cons (.var 5) (.cons (.var 7) .nil)))) .no (.ix (.var 1) (.var 0))))
noncomputable def roB(kd:Nat):Stm:=(.iff (.var 8) [(.expr (.mt .append (.var 6) (.cons (.tup (.cons (.call kd (.cons (.var 5) (.cons (.var 7) .nil))) (.cons (.var 8) .nil))) .nil)))] [])
noncomputable def ro5(kp kw kd:Nat):Stm:=(.loop (.nm 7) (.seq (.call kp (.cons (.var 5) .nil))) [roA kw,roB kd])
noncomputable def ro6(nm:Str)(lp:Pos):Stm:=(.ret (.srtk nm lp 0 "told" [] [] (.var 6) (.ix (.ix (.var 0) (.c (.int 1))) (.c (.int 0)))))
theorem Nb{cs:List (Option Nat)}{a b i:Nat}{c:Option Nat}(h:cs[i]?=some c):((Vw (i+1)).filter λt=>decide (cs.getD t none=some a)||decide (cs.getD t none=some b))=((Vw i).filter λt=>decide (cs.getD t none=some a)||decide (cs.getD t none=some b))++if (decide (c=some a)||decide (c=some b))=true then [i] else []:=by
 rw[CJ];have:cs.getD i none=c:=by rw[Vt,h];rfl
 rw[this]
theorem TR(c:Option Nat)(a b:Nat):inS (Cn c) [.int (a:Nat),.int (b:Nat)]=(decide (c=some a)||decide (c=some b)):=by
 cases c with
 | none=>rfl
 | some j=>
   show((decide ((a:Int)=(j:Int)))||(decide ((b:Int)=(j:Int))||false))=_;rw[Xy]
   congr 1<;>rw[decide_eq_decide,WX]<;>exact⟨λh=>by rw[h],λh=>(oj h).symm⟩
theorem TU(hΔ:∀ f,MonoN (Δ f)){nm:Str}{lp:Pos}{n lf:Nat}{g:Nat->Nat}{ts:List Nat}{es:EE}{qs:List (Nat×List Nat)}{S:Sto}{Q:QE}{o0 o1 o2 o3 o4 o5 o7 o8:Option SV}(ht:S[0]?=some (.tbl nm lp))(h:RowsAt S lf es qs)(R:Rows0 g ts (qs.map (·.2)))(hl:qs.length<64)
 (q:∀(qs':List (Nat×List Nat)) (S':Sto),Gw S S'->qs'.Perm qs->RowsAt S' S.length es qs'->Rows g ts (qs'.map (·.2))->Q (.loc S.length) S'):
 wSs Δ [ro6 nm lp] (m6 Q) [o0,o1,o2,o3,o4,o5,some (.loc lf),o7,o8] S:=by
 refine⟨_,rfl,qs.map (itemS es),qs.map (λp=>((p.2.headD 0:Nat):Int)),c5 h.top,by rw[Vp];omega,ht,by rw[Vp,Vp],λi y z hy hz=>?_,λys pm pw=>?_⟩
 ·rw[Vx]at hy hz;obtain⟨p,hp,rfl⟩:=WZ.mp hy;rw[hp]at hz;cases hz;have hm:=Vv hp;have hne:=R.ne _ (XN (f:=λq:Nat×List Nat=>q.2) hm)
  have h0:(natS p.2)[0]?=some (.int ((p.2.headD 0:Nat):Int)):=by
   cases e:p.2 with
   | nil=>exact absurd e hne
   | cons x r=>rfl
  exact⟨_,rfl,_,_,rfl,rfl,_,_,c5 (h.row p hm),j4 (j:=0) h0,rfl,rfl⟩
 ·have zz:(qs.map λp=>((p.2.headD 0:Nat):Int)).zip (qs.map (itemS es))=qs.map λp=>(((p.2.headD 0:Nat):Int),itemS es p):=by rw[ZP]
  rw[zz]at pm
  have pd:∀ l:List (Nat×List Nat),Paired (λ(p:Nat×List Nat) (o:Int×SV)=>o=(((p.2.headD 0:Nat):Int),itemS es p)) l (l.map λp=>(((p.2.headD 0:Nat):Int),itemS es p)):=λl=>by
   induction l with
   | nil=>exact .nil
   | cons x l ih=>exact .cons rfl ih
  obtain⟨qs',rp,pq⟩:=CS pm (pd qs)
  have back:∀{l:List (Nat×List Nat)} {o:List (Int×SV)},Paired (λ(p:Nat×List Nat) (o:Int×SV)=>o=(((p.2.headD 0:Nat):Int),itemS es p)) l o->o=l.map λp=>(((p.2.headD 0:Nat):Int),itemS es p):=λ{l o} r=>by
   induction r with
   | nil=>rfl
   | cons h _ ih=>rw[h,ih];rfl
  have ey:=back rp;subst ey;rw[XE]at pw ⊢;refine q qs' _ (Gw.refl S).push pq ⟨c7,λp hp=>f9 (h.row p (pq.mem_iff.mp hp))⟩ (R.sort (pq.map _) ?_);rw[XE];rw[Xu]at pw ⊢;exact pw.imp λh=>Int.ofNat_le.mp h
noncomputable def Bc(n:Nat)(es:EE)(ts:List Nat)(i:Nat):List (List Nat):=(((v9 (Hue.mk n (wbT es ts)) n).take i).map (t7 n es ts)).filter λr=>!r.isEmpty
theorem Km{n:Nat}{es:EE}{ts:List Nat}{i f:Nat}(h:(v9 (Hue.mk n (wbT es ts)) n)[i]?=some f):Bc n es ts (i+1)=Bc n es ts i++if (t7 n es ts f).isEmpty=true then [] else [t7 n es ts f]:=by
 unfold Bc;rw[Wz,h,WB,Xf]
 congr 1
 show ZA _ [t7 n es ts f]=_;rw[XQ];cases(t7 n es ts f).isEmpty<;>rfl
theorem Nc{n:Nat}{es:EE}{ts:List Nat}:Bc n es ts (v9 (Hue.mk n (wbT es ts)) n).length=Ge n es ts:=by unfold Bc Ge;rw[Wt]
theorem Nd(hΔ:∀ f,MonoN (Δ f)){kw kd:Nat}(hw:CM (Δ kw))(hd:Dl (Δ kd)){E:EndsS}{n lt lf lr f:Nat}{es:EE}{ts:List Nat}{S:Sto}{xs:List SV}{o0 o1 o2 o3 o8:Option SV}(hen:∀ e∈es,e.1<e.2/\e.2<n)(hts:∀ t∈ts,t<es.length)(n9:n<=900)(tl:ts.length<=60)(ht:S[lt]?=some (.lst (natS ts)))(hf:S[lf]?=some (.lst xs))(hx:xs.length<=1000)(hr:S[lr]?=some (.lst (natS (BL (Hue.mk n (wbT es ts)) n f))))
 (q0:∀(o8:Option SV) (S':Sto),Gw S S'->t7 n es ts f=[]->E.nx [o0,o1,o2,o3,some (.loc lt),some (webS n (wbT es ts)),some (.loc lf),some (.loc lr),o8] S')
 (q1:∀(o8:Option SV) (k:Nat) (S1 S':Sto),Gw S S1->S.length<=k->S1[k]?=some (.lst (natS (t7 n es ts f)))->t7 n es ts f≠[]->S'=S1.set lf (.lst (xs++[itemS es (k,t7 n es ts f)]))->E.nx [o0,o1,o2,o3,some (.loc lt),some (webS n (wbT es ts)),some (.loc lf),some (.loc lr),o8] S'):
 wSs Δ [roA kw,roB kd] E [o0,o1,o2,o3,some (.loc lt),some (webS n (wbT es ts)),some (.loc lf),some (.loc lr),o8] S:=by
 have wl:(wbT es ts).length=ts.length:=Vp _;have cl:(BL (Hue.mk n (wbT es ts)) n f).length<=n:=Ag _ _;have er:=TM hen hts f;refine⟨_,rfl,_,rfl,hw hr (by omega) (by omega) λl S1 G1 l0 h1=>⟨_,c5 h1,?_⟩⟩;have ht1:=G1.keep _ _ ht;have il:∀ i∈inL (BL (Hue.mk n (wbT es ts)) n f) (wbT es ts),i<ts.length:=λi hi=>by rw[<-wl];exact WJ.mp (Wj.mp hi).1
 have ill:(inL (BL (Hue.mk n (wbT es ts)) n f) (wbT es ts)).length<=ts.length:=by rw[<-wl];exact Ag _ _
 refine i5 (j6 hΔ _).2 (c4 hΔ _).1 (λi ys S'=>S'=S1/\ys=natS (((inL (BL (Hue.mk n (wbT es ts)) n f) (wbT es ts)).take i).map λi=>ts.getD i 0)) ⟨rfl,rfl⟩ (λ_ _ _ z=>by rw[z.1];exact rfl) ?_ ?_
 ·rintro i x ys S' hx ⟨rfl,rfl⟩;obtain⟨j,hj,rfl⟩:=AQ hx;have jl:=il j (Vv hj);have ij:=(gM hj).1;have hj':=Vq jl;refine⟨_,rfl,_,rfl,_,_,c5 ht1,j4 (y6 hj'),by rw[i3,Vp,Wn];show _<100000;omega,rfl,?_⟩;rw[Wz,hj,WB,r6];show _=_++natS [ts.getD j 0];rw[Vt,hj'];rfl
 ·rintro ys S' ⟨rfl,rfl⟩;rw[i3,Wt,er];have h8:(S'++[SO.lst (natS (t7 n es ts f))])[S'.length]?=some (SO.lst (natS (t7 n es ts f))):=c7;have G2:Gw S (S'++[SO.lst (natS (t7 n es ts f))]):=G1.push;have l8:S.length<=S'.length:=G1.len;show wSs Δ [roB kd] E [o0,o1,o2,o3,some (.loc lt),some (webS n (wbT es ts)),some (.loc lf),some (.loc lr),some (.loc S'.length)] (S'++[SO.lst (natS (t7 n es ts f))]);generalize S'.length=k8 at *;generalize S'++[SO.lst (natS (t7 n es ts f))]=S2 at *;refine⟨_,rfl,(!(natS (t7 n es ts f)).isEmpty),by show(match S2[k8]? with | some (.lst xs)=>_ | _=>none)=_;rw[h8],?_⟩;refine ifB (λz=>?_) (λz=>i0 (q0 _ _ G2 ?_))
  ·have hne:t7 n es ts f≠[]:=λy=>by rw[y]at z;cases z
   refine⟨_,rfl,⟨_,_,rfl,G2.keep _ _ hf⟩,_,rfl,_,rfl,hd (G2.keep _ _ hr) (by omega) (by omega) (λp hp=>WJ.mp (Wj.mp hp).1) λS3 G3=>⟨_,rfl,by show 2<=100000;decide,_,G3.keep _ _ (G2.keep _ _ hf),by show _<100000;omega,i0 (Δ:=Δ) (i0 (Δ:=Δ) (q1 _ k8 S3 _ (G2.trans G3) l8 (G3.keep _ _ h8) hne ?_))⟩⟩
   have w:(decide (∀ p∈BL (Hue.mk n (wbT es ts)) n f,Ai (wbT es ts) p=2))=JE es (t7 n es ts f):=by
    rw[Wa,dQ];exact NW hen hts hne
   rw[w];rfl
  ·cases h:t7 n es ts f with
   | nil=>rfl
   | cons _ _=>rw[h]at z;cases z
end
theorem Kn{g:Nat->Nat}{ts:List Nat}{R:List (List Nat)}(h:Rows0 g ts R):R.length<=ts.length:=by
 have:=List.Nodup.length_le_of_subset (l₁:=R.map λr=>r.headD 0) (l₂:=ts) h.nd λx hx=>by
  obtain⟨r,hr,rfl⟩:=WU.mp hx;exact(h.mem r hr _ (JC (h.ne r hr))).1
 rwa [Vp]at this
section
variable{Δ:Nat->Sn}
theorem Nf(hΔ:∀ f,MonoN (Δ f)){nm:Str}{lp:Pos}{ko kp kw kd:Nat}(hko:FC (Δ ko))(hkp:CK (Δ kp))(hkw:CM (Δ kw))(hkd:Dl (Δ kd)){n lh a b:Nat}{es:EE}{cs:List (Option Nat)}{S:Sto}{Q:QE}(hen:∀ e∈es,e.1<e.2/\e.2<n)(n9:n<=900)(e6:es.length<=60)(cl:cs.length=es.length)(ht:S[0]?=some (.tbl nm lp))(hl:S[lh]?=some (.lst (optsS cs)))
 (q:∀(l:Nat) (qs:List (Nat×List Nat)) (S':Sto),Gw S S'->S.length<=l->RowsAt S' l es qs->(∀ q∈qs,S.length<=q.1/\q.1<l)->Rows (grp n es (C3 cs a b)) (C3 cs a b) (qs.map (·.2))->Q (.loc l) S'):
 wSs Δ [ro2,(.asg (.nm 5) (.call ko (.cons (.var 0) (.cons (.var 4) .nil)))),(.asg (.nm 6) (.lst .nil)),ro5 kp kw kd,ro6 nm lp] (m6 Q) [some (webS n es),some (.loc lh),some (.int (a:Nat)),some (.int (b:Nat)),none,none,none,none,none] S:=by
 refine⟨_,rfl,_,c5 hl,?_⟩;refine i5 (j6 hΔ _).2 (c4 hΔ _).1 (λi ys S'=>S'=S/\ys=natS ((Vw i).filter λt=>decide (cs.getD t none=some a)||decide (cs.getD t none=some b))) ⟨rfl,rfl⟩ (λ_ _ _ z=>by rw[z.1];exact rfl) ?_ ?_
 ·rintro i x ys S' hx ⟨rfl,rfl⟩;obtain⟨y,hy,rfl⟩:=BX hx;have hy':(cs.map Cn)[i]?=some y:=hy;rw[Vx]at hy';obtain⟨c,hc,rfl⟩:=WZ.mp hy';have fs:=Nb (a:=a) (b:=b) hc;have fl:=Ag (λt=>decide (cs.getD t none=some a)||decide (cs.getD t none=some b)) i;have il:=(gM hc).1;refine⟨_,rfl,_,rfl,_,rfl,by show 2<=100000;decide,by cases c<;>rfl,_,rfl,rfl,_,rfl,?_⟩;show if inS (Cn c) [.int (a:Nat),.int (b:Nat)]=true then _ else _
  rw[TR];refine ifB (λz=>?_) (λz=>⟨rfl,?_⟩)
  ·rw[iP z]at fs;exact⟨_,rfl,by rw[i3];show _<100000;omega,rfl,by rw[fs,r6];rfl⟩
  ·rw[iG (by rw[z];decide),X0]at fs;rw[fs]
 ·rintro ys S' ⟨rfl,rfl⟩;rw[Af,show(optsS cs).length=cs.length from Vp _];have tl:(C3 cs a b).length<=60:=by have:=Ag (λt=>decide (cs.getD t none=some a)||decide (cs.getD t none=some b)) cs.length;unfold C3;omega
  have tlt:∀ t∈C3 cs a b,t<es.length:=λt h=>by rw[<-cl];exact TN t h
  have hw:=JD hen tlt;have wl:(wbT es (C3 cs a b)).length=(C3 cs a b).length:=Vp _;show wSs Δ (_::_) (m6 Q) [some (webS n es),some (.loc lh),some (.int (a:Nat)),some (.int (b:Nat)),some (.loc S'.length),none,none,none,none] (S'++[.lst (natS (C3 cs a b))]);have h4:(S'++[SO.lst (natS (C3 cs a b))])[S'.length]?=some (SO.lst (natS (C3 cs a b))):=c7;have G1:Gw S' (S'++[SO.lst (natS (C3 cs a b))]):=(Gw.refl S').push;refine⟨_,rfl,_,rfl,hko h4 (by omega) tlt λS2 G2=>?_⟩;have h4:=G2.keep _ _ h4;have G12:=G1.trans G2;have lt:=(gM h4).1;show wSs Δ (_::_) (m6 Q) [some (webS n es),some (.loc lh),some (.int (a:Nat)),some (.int (b:Nat)),some (.loc S'.length),some (webS n (wbT es (C3 cs a b))),none,none,none] S2;generalize hts:C3 cs a b=ts at *;generalize el4:S'.length=l4 at *;refine⟨by show 0<=100000;decide,?_⟩;show wSs Δ (_::_) (m6 Q) [some (webS n es),some (.loc lh),some (.int (a:Nat)),some (.int (b:Nat)),some (.loc l4),some (webS n (wbT es ts)),some (.loc S2.length),none,none] (S2++[.lst []]);have hf:(S2++[SO.lst []])[S2.length]?=some (SO.lst []):=c7;have G3:=G12.push (o:=SO.lst []);have h4:=f9 (o:=SO.lst []) h4;have l3:(S2++[SO.lst []]).length=S2.length+1:=by simp
  have fl:=G12.len;generalize S2.length=lf at *;generalize S2++[SO.lst []]=S3 at *;refine⟨_,rfl,hkp hw (by omega) (by omega) λlp' ls S4 G4 l0 C pw bd=>⟨_,c5 C.top,?_⟩⟩;have h4:=G4.keep _ _ h4;have hf:=G4.keep _ _ hf;have G34:=G3.trans G4;have l44:l4≠lf:=by omega
  have rl:(v9 (Hue.mk n (wbT es ts)) n).length<=n:=Ag _ _
  have pl:∀ i,(Bc n es ts i).length<=n:=λi=>by
   have:=XU (λr:List Nat=>!r.isEmpty) (((v9 (Hue.mk n (wbT es ts)) n).take i).map (t7 n es ts));rw[Vp,Wn]at this;unfold Bc;omega
  have lsl:ls.length=(v9 (Hue.mk n (wbT es ts)) n).length:=by rw[C.len];exact Vp _
  refine AI (l9 hΔ _) (λi ρ S5=>∃(o7 o8:Option SV) (qs:List (Nat×List Nat)),ρ=[some (webS n es),some (.loc lh),some (.int (a:Nat)),some (.int (b:Nat)),some (.loc l4),some (webS n (wbT es ts)),some (.loc lf),o7,o8]/\On lf S4 S5/\S5[lf]?=some (.lst (qs.map (itemS es)))/\(∀ p∈qs,lf<p.1/\S5[p.1]?=some (.lst (natS p.2)))/\qs.map (·.2)=Bc n es ts i) ⟨_,_,[],rfl,On.refl _ _,hf,(λ_ h=>nomatch h),rfl⟩ (λ_ _ S5 z=>?_) ?_ ?_
  ·obtain⟨_,_,_,_,O,_⟩:=z;show S5[lp']?=S4[lp']?;rw[C.top];exact O.keep _ _ (by omega) C.top
  ·rintro i x ρ S5 E hE _ hx ⟨o7,o8,qs,rfl,O,hq,hr,ep⟩;rw[Vx]at hx;obtain⟨k,hk,rfl⟩:=WZ.mp hx;have il:=(gM hk).1;have hfr:=Vq (show i<(v9 (Hue.mk n (wbT es ts)) n).length by omega);generalize (v9 (Hue.mk n (wbT es ts)) n)[i]'(by omega)=f at *;have hc:=C.row i k (BL (Hue.mk n (wbT es ts)) n f) hk (by unfold Hq;rw[Vx,hfr];rfl);have kb:=bd k (Vv hk);have es':=Km (es:=es) (ts:=ts) hfr;have ql:qs.length<=n:=by have:=pl i;rw[<-ep,Vp]at this;exact this
   have lf5:=(gM hq).1;refine Nd hΔ hkw hkd hen tlt n9 tl (O.keep _ _ l44 h4) hq (by rw[Vp];omega) (O.keep _ _ (by omega) hc) (λo8 S6 G6 e=>?_) (λo8 k8 S6 S7 G6 kk hk8 ne e7=>?_)
   ·refine hE _ _ ⟨_,_,qs,rfl,O.trans G6.on,G6.keep _ _ hq,λp hp=>⟨(hr p hp).1,G6.keep _ _ (hr p hp).2⟩,?_⟩;rw[es',e,ep];simp
   ·subst e7;refine hE _ _ ⟨_,_,qs++[(k8,t7 n es ts f)],rfl,(O.trans G6.on).tape,?_,λp hp=>?_,?_⟩
    ·rw[BB (G6.keep _ _ hq),WB];rfl
    ·rcases WD.mp hp with hp | hp
     ·have:=hr p hp;exact⟨this.1,by rw[BJ (by omega)];exact G6.keep _ _ this.2⟩
     ·rw[W1.mp hp];exact⟨by show lf<k8;omega,by rw[BJ (by omega)];exact hk8⟩
    ·rw[WB,ep,es',iG];rfl;cases h:t7 n es ts f with
     | nil=>exact absurd h ne
     | cons _ _=>simp
  ·rintro ρ S5 ⟨o7,o8,qs,rfl,O,hq,hr,ep⟩;rw[Vp,lsl,Nc]at ep;have up:ts.Pairwise (·<·):=by rw[<-hts];exact TQ cs a b
   have P:=Kl hen tlt up;rw[<-ep]at P;have few:=Kn P;rw[Vp]at few;have G5:Gw S' S5:=⟨Wd G34.len O.len,λk o h=>O.keep _ _ (by have:=(gM h).1;omega) (G34.keep _ _ h)⟩
   refine TU (n:=0) hΔ (G5.keep _ _ ht) ⟨hq,λp hp=>(hr p hp).2⟩ P (by omega) λqs' S6 G6 pm RA R=>?_;refine q _ qs' S6 (G5.trans G6) (by have:=G5.len;omega) RA (λp hp=>?_) R;have:=hr p (pm.mem_iff.mp hp);exact⟨by omega,(gM this.2).1⟩
theorem Ec{xs ys:List (Option Nat)}:optsS (xs++ys)=optsS xs++optsS ys:=WB
theorem Ce(tk:List (Option Nat)):(optsS tk).all A9=true:=by
 unfold optsS;rw[Yx,W9];intro c _;cases c<;>rfl
theorem Q1(c:Nat)(tk:List (Option Nat)):inS (.int (c:Nat)) (optsS tk)=decide (some c∈tk):=by
 unfold inS optsS;rw[Yw,Wa,Xe,dQ];constructor
 ·rintro⟨d,hd,z⟩;cases d with
  | none=>cases z
  | some j=>
    have z:decide ((j:Int)=(c:Int))=true:=z;rw[dQ,WX]at z;rw[<-z];exact hd
 ·intro h;exact⟨_,h,by show decide ((c:Int)=(c:Int))=true;exact decide_eq_true rfl⟩
noncomputable def FH(s:Sn):Prop:=∀{t n:Nat} {es:EE} {S:Sto} {Q:QE},TapeS S t->es.length<=60->(∀(l:Nat) (cs:List (Option Nat)) (S':Sto),TapeS S' t->On t S S'->S.length<=l->S'[l]?=some (.lst (optsS cs))->cs.length=es.length->(∀ c,some c∈cs->c<200)->(∀(j k c:Nat),j<k->cs[j]?=some (some c)->cs[k]?=some (some c)->¬ Shr es j k)->Q (.loc l) S')->s [.loc t,webS n es,.bl true] S Q
structure LhO(t lf ls r:Nat)(es:EE)(S0 S:Sto)(cs:List (Option Nat)):Prop where
 T:TapeS S t
 O:On t S0 S
 f0:S0.length<=lf
 sf:ls<lf
 s0:S0.length<=ls
 hf:S[lf]?=some (.lst (optsS cs))
 hs:S[ls]?=some (.lst (natS (someL r)))
 lt:∀ c,some c∈cs->c<200
 pr:∀(j k c:Nat),j<k->cs[j]?=some (some c)->cs[k]?=some (some c)->¬ Shr es j k
noncomputable def ffO(r:Nat)(tk:List (Option Nat)):List Nat:=(someL r++(Vw (tk.length+1)).map (100+·)).filter λh=>!decide (some h∈tk)
theorem Q2(r:Nat)(tk:List (Option Nat)):0<(ffO r tk).length:=by
 rcases Nat.eq_zero_or_pos (ffO r tk).length with z | z
 ·have z:=YH.mp z;unfold ffO at z;rw[List.filter_eq_nil_iff]at z
  have:=List.Nodup.length_le_of_subset (l₁:=(Vw (tk.length+1)).map λi=>some (100+i)) (l₂:=tk) (Kk Z7 λa _ b _ e=>by have:=oj e;omega) λh hh=>by
   obtain⟨i,hi,rfl⟩:=WU.mp hh;have:=z (100+i) (WH _ (XN hi));simpa using this
  rw[Vp,WY]at this;omega
 ·exact z
theorem I0(hΔ:∀ f,MonoN (Δ f)){kd km:Nat}(hd:t9 (Δ kd))(hm:EY (Δ km)){E:EndsS}{t lf ls r n i:Nat}{es:EE}{S0 S:Sto}{cs:List (Option Nat)}{o6 o7 o8:Option SV}(I:LhO t lf ls r es S0 S cs)(hi:cs.length=i)(il:i<es.length)(e6:es.length<=60)(t0:t<S0.length)
 (q:∀(o6 o7 o8:Option SV) (c:Option Nat) (S':Sto),LhO t lf ls r es S0 S' (cs++[c])->E.nx [some (.loc t),some (webS n es),some (.bl true),some (.loc ls),some (.loc lf),some (.int (i:Nat)),o6,o7,o8] S'):
 wSs Δ [ih6 km,ih7,ih8 kd,ih9 kd] E [some (.loc t),some (webS n es),some (.bl true),some (.loc ls),some (.loc lf),some (.int (i:Nat)),o6,o7,o8] S:=by
 refine⟨_,rfl,_,rfl,⟨by omega,by omega⟩,?_⟩;refine i5 (j6 hΔ _).2 (c4 hΔ _).1 (λj ys S'=>S'=S/\∃ tk:List (Option Nat),ys=optsS tk/\tk.length<=j/\∀ j' c,j'<j->cs[j']?=some (some c)->Shr es j' i->some c∈tk) ⟨rfl,[],rfl,W0 _,λ_ _ h=>absurd h (X4 _)⟩ (λ_ _ _ _=>trivial) ?_ ?_
 ·rintro j x ys S' hx ⟨rfl,tk,rfl,tl,tm⟩;obtain⟨rfl,hj⟩:=n8 hx;rw[Xg]at hj ⊢;have hj:j<i:=by omega
  refine⟨_,rfl,_,rfl,_,rfl,hm (by omega) il λv hv=>⟨_,rfl,?_⟩⟩
  refine ifB (λz=>?_) (λz=>⟨rfl,tk,rfl,by omega,λj' c h1 h2 h3=>by
   by_cases e:j'=j
   ·subst e;have:=hv.mpr h3;rw[z]at this;cases this
   ·exact tm j' c (by omega) h2 h3⟩)
  have hc:=Vq (show j<cs.length by omega)
  exact⟨_,rfl,_,rfl,_,_,c5 I.hf,j4 (ND hc),by rw[w9];show _<100000;omega,rfl,tk++[cs[j]'(by omega)],by rw[Ec];rfl,by rw[Vs];simp;omega,λj' c h1 h2 h3=>by
   by_cases e:j'=j
   ·subst e;rw[hc]at h2;rw[oj h2];exact WH _ (W1.mpr rfl)
   ·exact X5 _ (tm j' c (by omega) h2 h3)⟩
 ·rintro ys S' ⟨rfl,tk,rfl,tl,tm⟩;rw[o9,show((i:Int) - 0).toNat=i by omega]at tl tm;have T1:=I.T.push (o:=SO.lst (optsS tk));have O1:=I.O.push (o:=SO.lst (optsS tk));have hf1:=f9 (o:=SO.lst (optsS tk)) I.hf;have hs1:=f9 (o:=SO.lst (optsS tk)) I.hs;have h6:(S'++[SO.lst (optsS tk)])[S'.length]?=some (SO.lst (optsS tk)):=c7;show wSs Δ [ih7,ih8 kd,ih9 kd] E [some (.loc t),some (webS n es),some (.bl true),some (.loc ls),some (.loc lf),some (.int (i:Nat)),some (.loc S'.length),o7,o8] (S'++[.lst (optsS tk)]);generalize S'.length=k6 at *;generalize S'++[SO.lst (optsS tk)]=S1 at *;have tl6:tk.length<=60:=by omega
  have sok:=Pz r
  have er:u8 100 (100+((optsS tk).length:Int)+1)=natS ((Vw (tk.length+1)).map (100+·)):=by
   rw[w9,<-NV 100 (tk.length+1)]
   congr 1
  refine⟨_,rfl,_,rfl,_,c5 h6,_,_,rfl,rfl,⟨by omega,by omega,by rw[w9];omega,by rw[w9];omega⟩,?_⟩;rw[er];refine⟨_,_,f9 hs1,c7,by rw[i3,i3,Vp,WY];show _<=100000;omega,_,c5 c7,?_⟩;rw[<-r6];have T2:=(T1.push (o:=SO.lst (natS ((Vw (tk.length+1)).map (100+·))))).push (o:=SO.lst (natS (someL r++(Vw (tk.length+1)).map (100+·))));have O2:=(O1.push (o:=SO.lst (natS ((Vw (tk.length+1)).map (100+·))))).push (o:=SO.lst (natS (someL r++(Vw (tk.length+1)).map (100+·))));have hf2:=f9 (o:=SO.lst (natS (someL r++(Vw (tk.length+1)).map (100+·)))) (f9 (o:=SO.lst (natS ((Vw (tk.length+1)).map (100+·)))) hf1);have hs2:=f9 (o:=SO.lst (natS (someL r++(Vw (tk.length+1)).map (100+·)))) (f9 (o:=SO.lst (natS ((Vw (tk.length+1)).map (100+·)))) hs1);have h62:=f9 (o:=SO.lst (natS (someL r++(Vw (tk.length+1)).map (100+·)))) (f9 (o:=SO.lst (natS ((Vw (tk.length+1)).map (100+·)))) h6);generalize (S1++[SO.lst (natS ((Vw (tk.length+1)).map (100+·)))]).length=kk at *;generalize (S1++[SO.lst (natS ((Vw (tk.length+1)).map (100+·)))])++[SO.lst (natS (someL r++(Vw (tk.length+1)).map (100+·)))]=S2 at *;refine i5 (j6 hΔ _).2 (c4 hΔ _).1 (λj ys S'=>S'=S2/\ys=natS (((someL r++(Vw (tk.length+1)).map (100+·)).take j).filter λh=>!decide (some h∈tk))) ⟨rfl,rfl⟩ (λ_ _ S' z=>by rw[z.1];exact rfl) ?_ ?_
  ·rintro j y ys S' hy ⟨rfl,rfl⟩;obtain⟨c,hc,rfl⟩:=AQ hy;have jl:=(gM hc).1;rw[Vs,Vp,WY]at jl
   have tk':((someL r++(Vw (tk.length+1)).map (100+·)).take (j+1)).filter (λh=>!decide (some h∈tk))=((someL r++(Vw (tk.length+1)).map (100+·)).take j).filter (λh=>!decide (some h∈tk))++if (!decide (some c∈tk))=true then [c] else []:=by
    rw[Wz,hc,Xf]
    congr 1
    show ZA _ [c]=_;rw[XQ];rfl
   have fl:=XU (λh=>!decide (some h∈tk)) ((someL r++(Vw (tk.length+1)).map (100+·)).take j);rw[Wn]at fl;refine⟨_,rfl,_,rfl,?_⟩;show match BG (.loc k6) S' with | some ms=>_ | none=>_
   rw[Dd h62];refine⟨rfl,_,c5 h62,Ce _,_,rfl,?_⟩;show if (!inS (.int (c:Nat)) (optsS tk))=true then _ else _
   rw[Q1];refine ifB (λz=>?_) (λz=>⟨rfl,?_⟩)
   ·rw[iP z]at tk';exact⟨_,rfl,by rw[i3];show _<100000;omega,rfl,by rw[tk',r6];rfl⟩
   ·rw[iG (by rw[z];decide),X0]at tk';rw[tk']
  ·rintro ys S' ⟨rfl,rfl⟩;rw[i3,Wt];have fp:0<(ffO r tk).length:=Q2 r tk;show wSs Δ [ih8 kd,ih9 kd] E [some (.loc t),some (webS n es),some (.bl true),some (.loc ls),some (.loc lf),some (.int (i:Nat)),some (.loc k6),some (.loc S'.length),o8] (S'++[.lst (natS (ffO r tk))]);have T3:=T2.push (o:=SO.lst (natS (ffO r tk)));have O3:=O2.push (o:=SO.lst (natS (ffO r tk)));have hf3:=f9 (o:=SO.lst (natS (ffO r tk))) hf2;have hs3:=f9 (o:=SO.lst (natS (ffO r tk))) hs2;have h7:(S'++[SO.lst (natS (ffO r tk))])[S'.length]?=some (SO.lst (natS (ffO r tk))):=c7;have tlt:t<S'.length:=T2.lt;have f0:=I.f0;have s0:=I.s0;have sf:=I.sf;generalize S'.length=k7 at *;generalize S'++[SO.lst (natS (ffO r tk))]=S3 at *
   have mn:∃ m:Nat,(if (((natS (ffO r tk)).length:Nat):Int)<2 then (((natS (ffO r tk)).length:Nat):Int) else 2)=(m:Int)/\0<m/\m<=(ffO r tk).length:=by
    rw[i3];exact⟨min 2 (ffO r tk).length,by split<;>omega,by omega,by omega⟩
   obtain⟨m,em,m0,m1⟩:=mn;refine⟨_,rfl,_,rfl,_,rfl,_,c5 h7,?_⟩;show Δ kd [.loc t,.int (if (((natS (ffO r tk)).length:Nat):Int)<2 then (((natS (ffO r tk)).length:Nat):Int) else 2)] S3 _;rw[em]
   have fl:(ffO r tk).length<=100:=by
    unfold ffO;have:=XU (λh=>!decide (some h∈tk)) (someL r++(Vw (tk.length+1)).map (100+·));rw[Vs,Vp,WY]at this;omega
   refine hd T3 (by omega) (by omega) λz S4 z0 z1 T4 O4 _=>?_;have fz:=Vq (show z.toNat<(ffO r tk).length by omega);generalize (ffO r tk)[z.toNat]'(by omega)=c at *;have h74:=O4.keep _ _ (by omega) h7;have hf4:=O4.keep _ _ (by omega) hf3;have hs4:=O4.keep _ _ (by omega) hs3
   have az:atI (natS (ffO r tk)) z=some (.int (c:Nat)):=by
    rw[show z=((z.toNat:Nat):Int) by omega];exact j4 (y6 fz)
   refine⟨_,_,c5 h74,az,?_⟩;have cm:=Vv fz;unfold ffO at cm;rw[Wj,W7,decide_eq_false_iff_not]at cm
   have c2:c<200:=by
    rcases WD.mp cm.1 with y | y
    ·exact sok.2 c y
    ·obtain⟨d,hd',rfl⟩:=WU.mp y;have:=WJ.mp hd';omega
   refine⟨_,rfl,⟨_,_,rfl,hf4⟩,_,rfl,by show 2<=100000;decide,_,rfl,_,rfl,?_⟩;have hf5:=f9 (o:=SO.lst [SV.int (c:Nat),SV.non]) hf4;have hs5:=f9 (o:=SO.lst [SV.int (c:Nat),SV.non]) hs4;have h5:(S4++[SO.lst [SV.int (c:Nat),SV.non]])[S4.length]?=some (SO.lst [SV.int (c:Nat),SV.non]):=c7;have tlt4:=T4.lt;have hl5:=(gM hf4).1;have T5:=T4.push (o:=SO.lst [SV.int (c:Nat),SV.non]);have O5:=(O3.trans O4).push (o:=SO.lst [SV.int (c:Nat),SV.non]);generalize S4.length=k4 at *;generalize S4++[SO.lst [SV.int (c:Nat),SV.non]]=S5 at *;refine ifT rfl ⟨_,rfl,hd T5 (by decide) (by decide) λw S6 w0 w1 T6 O6 _=>?_⟩;have hf6:=O6.keep _ _ (by omega) hf5;have hs6:=O6.keep _ _ (by omega) hs5;have h6':=O6.keep _ _ (by omega) h5
   have fin:∀ c':Option Nat,(∀ d,some d=c'->d<200)->(∀ d,some d=c'->some d∉tk)->E.nx [some (.loc t),some (webS n es),some (.bl true),some (.loc ls),some (.loc lf),some (.int (i:Nat)),some (.loc k6),some (.loc k7),some (.int (c:Nat))] (S6.set lf (.lst (optsS cs++[Cn c']))):=λc' hc' hn'=>by
    refine q _ _ _ c' _ ⟨T6.other (by omega),(O5.trans O6).new f0,f0,sf,s0,?_,by rw[BJ (by omega)];exact hs6,λh hh=>?_,λj k d h1 h2 h3=>?_⟩
    ·rw[BB hf6,Ec];rfl
    ·rcases WD.mp hh with hh | hh
     ·exact I.lt h hh
     ·exact hc' h (W1.mp hh)
    ·by_cases hk:k<cs.length
     ·rw[W6 (by omega)]at h2 h3;exact I.pr j k d h1 h2 h3
     ·have kl:=(gM h3).1;rw[Vs,Wf]at kl;have ke:k=cs.length:=by omega
      subst ke;rw[WW]at h3;rw[W6 (by omega)]at h2;intro z;rw[hi]at z h1;exact hn' d (oj h3).symm (tm j d h1 h2 z)
   have lc:(optsS cs).length<100000:=by rw[w9];omega
   have cc:∀ d,some d=some c->d<200:=λd e=>by cases e;exact c2
   have cn:∀ d,some d=some c->some d∉tk:=λd e=>by cases e;exact cm.2
   have w4:w=0\/w=1\/w=2\/w=3:=by omega
   rcases w4 with rfl | rfl | rfl | rfl
   ·exact⟨_,SV.non,c5 h6',rfl,_,hf6,lc,i0 (Δ:=Δ) (fin none (λd e=>nomatch e) λd e=>nomatch e)⟩
   ·exact⟨_,SV.int (c:Nat),c5 h6',rfl,_,hf6,lc,i0 (Δ:=Δ) (fin (some c) cc cn)⟩
   ·exact⟨_,SV.int (c:Nat),c5 h6',rfl,_,hf6,lc,i0 (Δ:=Δ) (fin (some c) cc cn)⟩
   ·exact⟨_,SV.int (c:Nat),c5 h6',rfl,_,hf6,lc,i0 (Δ:=Δ) (fin (some c) cc cn)⟩
theorem Ng(hΔ:∀ f,MonoN (Δ f)){kd km:Nat}(hd:t9 (Δ kd))(hm:EY (Δ km)){D:Df}(hb:D.body=Qm kd km)(hN:D.N.length=9)(hp:D.ps.length=3):FH (i4 Δ D):=by
 intro t n es S Q T e6 q;have tl:=T.lt;unfold i4;rw[hb,hN];have b6:∀ k,k<=10->k<=big:=λk h=>by show k<=100000;omega
 refine⟨hp.symm,b6 _ (by simp),b6 _ (by simp),b6 _ (by simp),b6 _ (by simp),b6 _ (by simp),?_⟩;generalize e0:SO.lst [SV.int 0,.int 1,.int 2,.int 3,.int 4,.int 5]=u0;generalize e1:SO.lst [SV.int 0,.int 1,.int 7,.int 40]=u1;generalize e2:SO.lst [SV.int 2,.int 0,.int 1,.int 5,.int 9]=u2;generalize e3:SO.lst [SV.int 99,.int 3,.int 0,.int 11,.int 4,.int 2]=u3;have h0:(S++[u0])[S.length]?=some u0:=c7;have h1:((S++[u0])++[u1])[(S++[u0]).length]?=some u1:=c7;have h2:(((S++[u0])++[u1])++[u2])[((S++[u0])++[u1]).length]?=some u2:=c7;have h3:((((S++[u0])++[u1])++[u2])++[u3])[(((S++[u0])++[u1])++[u2]).length]?=some u3:=c7;have h0:=f9 (o:=u3) (f9 (o:=u2) (f9 (o:=u1) h0));have h1:=f9 (o:=u3) (f9 (o:=u2) h1);have h2:=f9 (o:=u3) h2;have l1:(S++[u0]).length=S.length+1:=by simp
 have l2:((S++[u0])++[u1]).length=S.length+2:=by simp
 have l3:(((S++[u0])++[u1])++[u2]).length=S.length+3:=by simp
 rw[l1]at h1;rw[l2]at h2;rw[l3]at h3;rw[l1,l2,l3];have T4:=(((T.push (o:=u0)).push (o:=u1)).push (o:=u2)).push (o:=u3);have O4:=((((On.refl t S).push (o:=u0)).push (o:=u1)).push (o:=u2)).push (o:=u3);have l4:((((S++[u0])++[u1])++[u2])++[u3]).length=S.length+4:=by simp
 generalize (((S++[u0])++[u1])++[u2])++[u3]=S4 at *;refine⟨_,rfl,hd T4.push (by decide) (by decide) λz S5 z0 z1 T5 O5 _=>?_⟩;have O5':=O4.trans ((On.refl t S4).push.trans O5);have h4:(S4++[SO.lst [SV.loc S.length,.loc (S.length+1),.loc (S.length+2),.loc (S.length+3)]])[S4.length]?=some (SO.lst [SV.loc S.length,.loc (S.length+1),.loc (S.length+2),.loc (S.length+3)]):=c7;have h4:=O5.keep _ _ (by omega) h4;have h0:=O5.keep _ _ (by omega) (f9 h0);have h1:=O5.keep _ _ (by omega) (f9 h1);have h2:=O5.keep _ _ (by omega) (f9 h2);have h3:=O5.keep _ _ (by omega) (f9 h3)
 have key:∀(r ls:Nat),S5[ls]?=some (.lst (natS (someL r)))->S.length<=ls->wSs Δ [(.asg (.nm 4) (.lst .nil)),(.loop (.nm 5) (.rng1 (.bi .len (.cons (.ix (.var 1) (.c (.int 1))) .nil))) [ih6 km,ih7,ih8 kd,ih9 kd]),(.ret (.var 4))] (m6 Q) [some (.loc t),some (webS n es),some (.bl true),some (.loc ls),none,none,none,none,none] S5:=by
  intro r ls hl sl;have lsl:=(gM hl).1;refine⟨by show 0<=100000;decide,_,rfl,_,_,rfl,rfl,_,rfl,_,rfl,⟨by omega,by rw[Vp];omega⟩,?_⟩;refine AI (l9 hΔ _) (λi ρ S'=>∃(o5 o6 o7 o8:Option SV) (cs:List (Option Nat)),ρ=[some (.loc t),some (webS n es),some (.bl true),some (.loc ls),some (.loc S5.length),o5,o6,o7,o8]/\cs.length=i/\LhO t S5.length ls r es S S' cs) ⟨_,_,_,_,[],rfl,rfl,T5.push,O5'.push,O5'.len,lsl,sl,c7,f9 hl,(λ_ h=>nomatch h),(λ_ _ _ _ h=>nomatch h)⟩ (λ_ _ _ _=>trivial) ?_ ?_
  ·rintro i x ρ S' E hE _ hx ⟨o5,o6,o7,o8,cs,rfl,hi,I⟩;have il:=(gM hx).1;obtain⟨rfl,_⟩:=n8 hx;rw[Xg];rw[o9,Vp]at il;exact I0 hΔ hd hm I hi (by omega) e6 tl λo6 o7 o8 c S' I'=>hE _ _ ⟨_,_,_,_,cs++[c],rfl,by rw[Vs,hi];rfl,I'⟩
  ·rintro ρ S' ⟨o5,o6,o7,o8,cs,rfl,hi,I⟩;rw[o9,Vp]at hi;have hi:cs.length=es.length:=by omega
   exact⟨_,rfl,q _ cs S' I.T I.O I.f0 I.hf hi I.lt I.pr⟩
 have z4:z=0\/z=1\/z=2\/z=3:=by omega
 rcases z4 with rfl | rfl | rfl | rfl
 ·exact⟨_,_,c5 h4,rfl,key 0 _ (by rw[h0,<-e0];rfl) (by omega)⟩
 ·exact⟨_,_,c5 h4,rfl,key 1 _ (by rw[h1,<-e1];rfl) (by omega)⟩
 ·exact⟨_,_,c5 h4,rfl,key 2 _ (by rw[h2,<-e2];rfl) (by omega)⟩
 ·exact⟨_,_,c5 h4,rfl,key 3 _ (by rw[h3,<-e3];rfl) (by omega)⟩
noncomputable def Nh(kw kd kh:Nat):List Stm:=[(.asg (.nm 2) (.call kw (.cons (.var 0) (.cons (.cmp .Eq (.call kd (.cons (.var 0) (.cons (.c (.int 8)) .nil))) (.c (.int 0))) .nil)))),(.ret (.tup (.cons (.var 2) (.cons (.call kh (.cons (.var 0) (.cons (.var 2) (.cons (.var 1) .nil)))) .nil))))]
noncomputable def JF(s:Sn):Prop:=∀{t:Nat} {S:Sto} {Q:QE},TapeS S t->(∀(n l:Nat) (es:EE) (cs:List (Option Nat)) (S':Sto),Web n es->TapeS S' t->On t S S'->S.length<=l->S'[l]?=some (.lst (optsS cs))->cs.length=es.length->(∀ c,some c∈cs->c<200)->(∀(j k c:Nat),j<k->cs[j]?=some (some c)->cs[k]?=some (some c)->¬ Shr es j k)->Q (.tup [webS n es,.loc l]) S')->s [.loc t,.bl true] S Q
theorem Ni(hΔ:∀ f,MonoN (Δ f)){kw kd kh:Nat}(hw:Qg (Δ kw))(hd:t9 (Δ kd))(hh:FH (Δ kh)){D:Df}(hb:D.body=Nh kw kd kh)(hN:D.N.length=3)(hp:D.ps.length=2):JF (i4 Δ D):=by
 intro t S Q T q;unfold i4;rw[hb,hN];refine⟨hp.symm,_,rfl,_,rfl,hd T (by decide) (by decide) λr S1 r0 r1 T1 O1 _=>hw T1 λn es S2 W T2 O2=>?_⟩;refine⟨_,rfl,_,rfl,_,rfl,_,rfl,hh T2 (by have:=W.len;omega) λl cs S3 T3 O3 l0 h3 cl lt pr=>⟨by show 2<=100000;decide,q n l es cs S3 W T3 ((O1.trans O2).trans O3) (by have:=(O1.trans O2).len;omega) h3 cl lt pr⟩⟩
noncomputable def Qo(kd:Nat):List Stm:=[(.asg (.nm 2) (.srtset (.op .Add (.comp ["_law_hue"] [] [] (.nm 0) (.seq (.var 1)) (.yes (.cmp .IsNot (.var 0) (.c .non))) (.var 0)) (.lst (.cons (.c (.int 0)) (.cons (.c (.int 150)) .nil)))))),(.asg (.nm 3) (.call kd (.cons (.var 0) (.cons (.bi .len (.cons (.var 2) .nil)) .nil)))),(.ret (.tup (.cons (.ix (.var 2) (.var 3)) (.cons (.ix (.var 2) (.op .Mod (.op .Add (.op .Add (.var 3) (.c (.int 1))) (.call kd (.cons (.var 0) (.cons (.op .Sub (.bi .len (.cons (.var 2) .nil)) (.c (.int 1))) .nil)))) (.bi .len (.cons (.var 2) .nil)))) .nil))))]
noncomputable def Nj(s:Sn):Prop:=∀{t l:Nat} {cs:List (Option Nat)} {S:Sto} {Q:QE},TapeS S t->l≠t->S[l]?=some (.lst (optsS cs))->cs.length<=60->(∀ c,some c∈cs->c<200)->(∀(a b:Nat) (S':Sto),a<200->b<200->TapeS S' t->On t S S'->Q (.tup [.int (a:Nat),.int (b:Nat)]) S')->s [.loc t,.loc l] S Q
theorem Nk(A:List Nat):∃ L:List Nat,(srt (AU ((A++[0,150]).map λ(a:Nat)=>(a:Int)))).map SV.int=natS L/\2<=L.length/\L.length<=A.length+2/\∀ a∈L,a∈A++[0,150]:=by
 refine⟨(srt (AU ((A++[0,150]).map λ(a:Nat)=>(a:Int)))).map Int.toNat,?_,?_,?_,?_⟩
 ·unfold natS;rw[XE];refine Xb λi hi=>?_;obtain⟨a,_,rfl⟩:=WU.mp ((AV _ _).mp ((Aw _).mem_iff.mp hi));rfl
 ·rw[Vp,(Aw _).length_eq]
  have:=List.Nodup.length_le_of_subset (l₁:=[(0:Int),150]) (l₂:=AU ((A++[0,150]).map λ(a:Nat)=>(a:Int))) (by decide) λx hx=>by
   refine(AV _ _).mpr ?_;rw[WB];exact WH _ hx
  exact this
 ·rw[Vp,(Aw _).length_eq];have sub:∀(ns:List Int) (a:Int),a∈AU ns->a∈ns:=λns a ha=>(AV ns a).mp ha;have:=List.Nodup.length_le_of_subset (Ht _) (sub ((A++[0,150]).map λ(a:Nat)=>(a:Int)));rw[Vp,Vs]at this;exact this
 ·intro a ha;obtain⟨i,hi,rfl⟩:=WU.mp ha;obtain⟨b,hb,rfl⟩:=WU.mp ((AV _ _).mp ((Aw _).mem_iff.mp hi));exact hb
theorem Q3(hΔ:∀ f,MonoN (Δ f)){kd:Nat}(hd:t9 (Δ kd)){D:Df}(hb:D.body=Qo kd)(hN:D.N.length=4)(hp:D.ps.length=2):Nj (i4 Δ D):=by
 intro t l cs S Q T lt hl cl c2 q;unfold i4;rw[hb,hN];refine⟨hp.symm,_,rfl,_,c5 hl,?_⟩;refine i5 (j6 hΔ _).2 (c4 hΔ _).1 (λi ys S'=>S'=S/\∃ A:List Nat,ys=natS A/\A.length<=i/\∀ a∈A,a<200) ⟨rfl,[],rfl,W0 _,λ_ h=>nomatch h⟩ (λ_ _ S' z=>by rw[z.1];exact rfl) ?_ ?_
 ·rintro i x ys S' hx ⟨rfl,A,rfl,al,aa⟩;have hx':(cs.map Cn)[i]?=some x:=hx;rw[Vx]at hx';obtain⟨c,hc,rfl⟩:=WZ.mp hx';have il:=(gM hc).1;cases c with
  | none=>exact⟨_,rfl,.inl ⟨rfl,_,rfl,ifF rfl ⟨rfl,A,rfl,by omega,aa⟩⟩⟩
  | some c=>exact⟨_,rfl,.inl ⟨rfl,_,rfl,ifT rfl ⟨_,rfl,by rw[i3];show _<100000;omega,rfl,A++[c],by rw[r6];rfl,by rw[Vs];simp;omega,λa ha=>(WD.mp ha).elim (aa a) λh=>by rw[W1.mp h];exact c2 c (Vv hc)⟩⟩⟩
 ·rintro ys S' ⟨rfl,A,rfl,al,aa⟩;rw[w9]at al;obtain⟨L,eL,l2,lL,Lm⟩:=Nk A;have L2:∀ a∈L,a<200:=λa ha=>(WD.mp (Lm a ha)).elim (aa a) λh=>by rcases W4.mp h with z | z;omega;rcases W4.mp z with z | z;omega;cases z
  have ea:natS A++[SV.int 0,SV.int 150]=natS (A++[0,150]):=by rw[r6];rfl
  refine⟨by show 2<=100000;decide,_,_,f9 c7,c7,by rw[i3];show _+2<=100000;omega,_,_,c5 c7,by rw[ea];exact FD _,by rw[Vp,Vs];have:[0,150].length=2:=rfl;omega,?_⟩;rw[eL];have T1:=(((T.push (o:=SO.lst (natS A))).push (o:=SO.lst [SV.int 0,SV.int 150])).push (o:=SO.lst (natS A++[SV.int 0,SV.int 150]))).push (o:=SO.lst (natS L));have O1:=((((On.refl t S').push (o:=SO.lst (natS A))).push (o:=SO.lst [SV.int 0,SV.int 150])).push (o:=SO.lst (natS A++[SV.int 0,SV.int 150]))).push (o:=SO.lst (natS L));have h2:((((S'++[SO.lst (natS A)])++[SO.lst [SV.int 0,SV.int 150]])++[SO.lst (natS A++[SV.int 0,SV.int 150])])++[SO.lst (natS L)])[(((S'++[SO.lst (natS A)])++[SO.lst [SV.int 0,SV.int 150]])++[SO.lst (natS A++[SV.int 0,SV.int 150])]).length]?=some (SO.lst (natS L)):=c7;have tk:t<(((S'++[SO.lst (natS A)])++[SO.lst [SV.int 0,SV.int 150]])++[SO.lst (natS A++[SV.int 0,SV.int 150])]).length:=(((T.push (o:=SO.lst (natS A))).push (o:=SO.lst [SV.int 0,SV.int 150])).push (o:=SO.lst (natS A++[SV.int 0,SV.int 150]))).lt;generalize (((S'++[SO.lst (natS A)])++[SO.lst [SV.int 0,SV.int 150]])++[SO.lst (natS A++[SV.int 0,SV.int 150])]).length=k2 at *;generalize (((S'++[SO.lst (natS A)])++[SO.lst [SV.int 0,SV.int 150]])++[SO.lst (natS A++[SV.int 0,SV.int 150])])++[SO.lst (natS L)]=S1 at *;refine⟨_,rfl,_,rfl,_,c5 h2,?_⟩;show Δ kd [.loc t,.int (((natS L).length:Nat):Int)] S1 _;rw[i3];refine hd T1 (by omega) (by omega) λr S2 r0 r1 T2 O2 _=>?_;have h2:=O2.keep _ _ (by omega) h2
  have get:∀ z:Int,0<=z->z<(L.length:Int)->∃ a:Nat,a<200/\atI (natS L) z=some (.int (a:Nat)):=λz z0 z1=>by
   have zl:z.toNat<L.length:=by omega
   have hz:=Vq zl;generalize L[z.toNat]'zl=a at *;refine⟨a,L2 a (Vv hz),?_⟩;rw[show z=((z.toNat:Nat):Int) by omega];exact j4 (y6 hz)
  obtain⟨a,a2,ha⟩:=get r r0 r1;refine⟨_,rfl,_,rfl,_,_,c5 h2,ha,_,rfl,_,rfl,_,rfl,_,rfl,_,c5 h2,?_⟩;show Δ kd [.loc t,.int ((((natS L).length:Nat):Int) - 1)] S2 _;rw[i3];refine hd T2 (by omega) (by omega) λr2 S3 r20 r21 T3 O3 _=>?_;have h2:=O3.keep _ _ (by omega) h2;refine⟨_,rfl,_,c5 h2,by rw[i3];show(0:Int)<_;omega,?_⟩;rw[i3];have lp:(0:Int)<(L.length:Int):=by omega
  obtain⟨b,b2,hb'⟩:=get ((r+1+r2) % (L.length:Int)) (XX _ (by omega)) (XA _ lp);exact⟨_,_,c5 h2,hb',by show 2<=100000;decide,q a b S3 a2 b2 T3 ((O1.trans O2).trans O3)⟩
end
theorem CN{prog:List Df}(hl:prog.length<1000000){d f:Nat}{D:Df}(hf:prog[f]?=some D){xs:List SV}{S:Sto}{Q:QE}(h:BV (W prog d) D xs S Q):W prog (d+1) (tz+f) xs S Q:=by
 rw[V6 hl hf];exact⟨Xl _ _,h⟩
section
variable{Δ:Nat->Sn}
theorem CO{D:Df}(nt:BU D.body=true){xs:List SV}{S:Sto}{Q:QE}(h:i4 (setE Δ λc S'=>Q (.exc c) S') D xs S λv S'=>Q (.tup [v]) S'):BV Δ D xs S Q:=⟨nt,_,_,λ_ _ q=>q,λ_ _ q=>q,h⟩
noncomputable def IA(s:Sn):Prop:=∀{n:Nat} {p:Int} {es:EE} {S:Sto} {Q:QE},Q (.bl (decide (0<=p)&&decide (p<n))) S->s [webS n es,.int p] S Q
theorem Ko{k:Nat}(h0:CD (Δ k)){D:Df}(hb:D.body=Cc k)(hN:D.N.length=2)(hp:D.ps.length=2):IA (i4 Δ D):=by
 intro n p es S Q q;unfold i4;rw[hb,hN];refine⟨hp.symm,_,rfl,h0 ⟨_,rfl,ifT rfl ⟨_,rfl,_,rfl,?_⟩⟩⟩;refine ifD (λz=>⟨_,rfl,_,_,rfl,rfl,?_⟩) (λz=>?_)
 ·rw[decide_eq_true z,Yf]at q;exact q
 ·rw[decide_eq_false z,YU]at q;exact q
noncomputable def Nl(k:Nat)(x m:Str)(c:XCls):List Stm:=[(.iff (.not (.call k (.cons (.var 0) (.cons (.var 1) .nil)))) [(.rse x c (.c (.str m)))] [])]
theorem Gg{k:Nat}{x m:Str}{c:XCls}(h0:C1 (Δ k)){D:Df}(hb:D.body=Nl k x m c)(hN:D.N.length=2)(hp:D.ps.length=2):BC (i4 Δ D):=by
 intro n p es S Q h q;unfold i4;rw[hb,hN];exact⟨hp.symm,_,rfl,_,rfl,h0 h ⟨_,rfl,ifF rfl q⟩⟩
noncomputable def IB(c:XCls)(s:Sn):Prop:=∀{n:Nat} {p:Int} {es:EE} {S:Sto} {Q:QE},(¬ (0<=p/\p<n)->Q (.exc c) S)->(0<=p->p<n->Q (.tup [.non]) S)->s [webS n es,.int p] S Q
theorem TV{k:Nat}{x m:Str}{c:XCls}(h0:IA (Δ k))(hk:k<1000000){D:Df}(hb:D.body=Nl k x m c)(hN:D.N.length=2)(hp:D.ps.length=2):IB c (BV Δ D):=by
 intro n p es S Q h1 h2;refine CO (by rw[hb];rfl) ?_;unfold i4;rw[hb,hN];refine⟨hp.symm,_,rfl,_,rfl,?_⟩;rw[m8 (W3 hk)];refine h0 ⟨_,rfl,?_⟩;refine ifB (λz=>⟨c,rfl,h1 λy=>?_⟩) (λz=>h2 ?_ ?_)
 ·rw[decide_eq_true y.1,decide_eq_true y.2]at z;cases z
 ·by_cases y:(0:Int)<=p
  ·exact y
  ·rw[decide_eq_false y]at z;cases z
 ·by_cases y:p<(n:Int)
  ·exact y
  ·rw[decide_eq_false y,YW]at z;cases z
noncomputable def Qp(x m:Str)(c:XCls):List Stm:=[(.iff (.cmp .Eq (.var 0) (.var 1)) [(.rse x c (.c (.str m)))] [])]
noncomputable def Nm(c:XCls)(s:Sn):Prop:=∀{a b:Nat} {S:Sto} {Q:QE},(a=b->Q (.exc c) S)->(a≠b->Q (.tup [.non]) S)->s [.int (a:Nat),.int (b:Nat)] S Q
theorem Vj{x m:Str}{c:XCls}{D:Df}(hb:D.body=Qp x m c)(hN:D.N.length=2)(hp:D.ps.length=2):Nm c (BV Δ D):=by
 intro a b S Q h1 h2;refine CO (by rw[hb];rfl) ?_;unfold i4;rw[hb,hN];refine⟨hp.symm,_,rfl,_,rfl,_,rfl,?_⟩;exact ifD (λz=>⟨c,rfl,h1 (WX.mp z)⟩) (λz=>h2 λe=>z (by rw[e]))
noncomputable def Qq(kc ku kh kf:Nat)(x m:Str)(c:XCls):List Stm:=[(.exx kc (.cons (.var 0) (.cons (.var 2) .nil))),(.exx ku (.cons (.var 3) (.cons (.var 4) .nil))),(.iff (.cmp .IsNot (.call kh (.cons (.var 0) (.cons (.var 1) (.cons (.var 2) (.cons (.var 4) .nil))))) (.c .non)) [(.rse x c (.c (.str m)))] []),(.asg (.nm 5) (.lst .nil)),(.asg (.nm 6) (.call kh (.cons (.var 0) (.cons (.var 1) (.cons (.var 2) (.cons (.var 3) .nil)))))),rf4 kf kh,(.ret (.var 5))]
noncomputable def TW(cp cr:XCls)(s:Sn):Prop:=∀{n a b:Nat} {p:Int} {w:SV} {es:EE} {cs:List Nat} {S:Sto} {Q:QE},Hv S w cs->a<1000->b<1000->Prp es cs->(∀ e∈es,e.1<e.2/\e.2<n)->es.length<=1000->
 (¬ (0<=p/\p<n)->Q (.exc cp) S)->(0<=p->p<n->(a=b\/∃ u,AtP es u p.toNat/\hu cs u=b)->∀ S',Gw S S'->Q (.exc cr) S')->
 (0<=p->p<n->a≠b->(∀ u,AtP es u p.toNat->hu cs u≠b)->∀ v S',Gw S S'->Q (.tup [v]) S')->s [webS n es,w,.int p,.int (a:Nat),.int (b:Nat)] S Q
theorem Vk{kc ku kh kf:Nat}{x m:Str}{cp cr:XCls}(hΔ:∀ f,MonoN (Δ f))(hc:IB cp (Δ (tz+kc)))(hu':Nm cr (Δ (tz+ku)))(hh:Cw (Δ kh))(hf:CG (Δ kf))(lh:kh<1000000)(lf:kf<1000000){D:Df}(hb:D.body=Qq kc ku kh kf x m cr)(hN:D.N.length=7)(hp:D.ps.length=5):TW cp cr (BV Δ D):=by
 intro n a b p w es cs S Q hk a9 b9 P hen hel q1 q2 q3;refine CO (by rw[hb];rfl) ?_;have tc:∀ k Xp,setE Δ Xp (tz+k)=Δ (tz+k):=λk Xp=>m8 (show 2000000+k≠1000000 by omega);unfold i4;rw[hb,hN];refine⟨hp.symm,_,rfl,_,rfl,?_⟩;unfold wCx;rw[tc];refine hc (λz=>⟨cp,rfl,q1 z⟩) λp0 pn=>?_;obtain⟨j,rfl⟩:=YI p0;have jn:j<n:=by omega
 refine⟨_,rfl,_,rfl,?_⟩;show setE Δ _ (tz+ku) _ _ _;rw[tc];refine hu' (λe=>⟨cr,rfl,q2 p0 pn (.inl e) S (Gw.refl S)⟩) λab=>?_;by_cases hno:∀ u,AtP es u j->hu cs u≠b
 ·refine NT (AR hΔ) (kh:=kh) (kf:=kf) (by rw[m8 (W3 lh)];exact hh) (by rw[m8 (W3 lf)];exact hf) _ hk a9 b9 P hen hel jn ab hno λl S' G _ _=>q3 p0 pn ab hno _ _ G
 ·have hl:=P.len
  obtain⟨u,hu1,hu2⟩:∃ u,AtP es u j/\hu cs u=b:=by
   by_cases z:∃ u,AtP es u j/\hu cs u=b
   ·exact z
   ·exact absurd (λu h e=>z ⟨u,h,e⟩) hno
  refine⟨_,rfl,_,rfl,_,rfl,_,rfl,?_⟩;show setE Δ _ kh _ _ _;rw[m8 (W3 lh)];refine hh hk hl hel jn b9 λS1 G1=>?_;cases hz:Ap es cs j b with
  | none=>exact absurd hu2 (Cd hz u hu1)
  | some t=>exact .inl ⟨rfl,_,rfl,ifT rfl ⟨cr,rfl,q2 p0 pn (.inr ⟨u,hu1,hu2⟩) S1 G1⟩⟩
noncomputable def exa(kt:Nat)(x m:Str)(c:XCls):Stm:=(.loop (.nm 6) (.seq (.var 2)) [(.iff (.or (.not (.call kt (.cons (.var 0) (.cons (.var 6) .nil)))) (.cmp .NotIn (.ix (.var 1) (.var 6)) (.tup (.cons (.var 3) (.cons (.var 4) .nil))))) [(.rse x c (.c (.str m)))] []),(.put (.var 5) (.var 6) (.ife (.cmp .Eq (.ix (.var 1) (.var 6)) (.var 3)) (.var 4) (.var 3)))])
noncomputable def Qr(ku kt ki:Nat)(x m m2:Str)(c:XCls):List Stm:=[(.exx ku (.cons (.var 3) (.cons (.var 4) .nil))),(.asg (.nm 5) (.bi .list (.cons (.var 1) .nil))),exa kt x m c,(.iff (.not (.call ki (.cons (.var 0) (.cons (.var 5) .nil)))) [(.rse x c (.c (.str m2)))] []),(.ret (.var 5))]
noncomputable def TX(c:XCls)(s:Sn):Prop:=∀{n l a b:Nat} {w:SV} {es:EE} {cs r:List Nat} {S:Sto} {Q:QE},Hv S w cs->a<1000->b<1000->S[l]?=some (.lst (natS r))->cs.length=es.length->(∀ e∈es,e.1<e.2/\e.2<n)->es.length<=60->(∀ t∈r,t<es.length)->r.length<=1000->
 (¬ (a≠b/\(∀ t∈r,hu cs t=a\/hu cs t=b)/\HuP es (parS (exL cs r a b)))->∀ S',Gw S S'->Q (.exc c) S')->(a≠b->(∀ t∈r,hu cs t=a\/hu cs t=b)->HuP es (parS (exL cs r a b))->∀ v S',Gw S S'->Q (.tup [v]) S')->s [webS n es,w,.loc l,.int (a:Nat),.int (b:Nat)] S Q
theorem JG{c a b:Nat}(a9:a<1000)(b9:b<1000):inS (pS c) [.int (a:Nat),.int (b:Nat)]=(decide (c=a)||decide (c=b)):=by
 unfold pS;split
 ·simp only[inS,Wx,Yy,Xy,eqF]
  congr 1<;>(rw[Wa,bQ,dQ];omega)
 ·rw[decide_eq_false (by omega),decide_eq_false (by omega)];rfl
theorem Vl{ku kt ki:Nat}{x m m2:Str}{c:XCls}(hΔ:∀ f,MonoN (Δ f))(hu':Nm c (Δ (tz+ku)))(ht:BW (Δ kt))(hi:BE (Δ ki))(lt:kt<1000000)(li:ki<1000000){D:Df}(hb:D.body=Qr ku kt ki x m m2 c)(hN:D.N.length=7)(hp:D.ps.length=5):TX c (BV Δ D):=by
 intro n l a b w es cs r S Q hk a9 b9 hl hcl hen hel rlt rlen q1 q2;refine CO (by rw[hb];rfl) ?_;have tc:∀ k Xp,setE Δ Xp (tz+k)=Δ (tz+k):=λk Xp=>m8 (show 2000000+k≠1000000 by omega);unfold i4;rw[hb,hN];refine⟨hp.symm,_,rfl,_,rfl,?_⟩;unfold wCx;rw[tc];refine hu' (λe=>⟨c,rfl,q1 (λz=>z.1 e) S (Gw.refl S)⟩) λab=>?_;refine⟨_,rfl,_,hk.seq,?_⟩;generalize hE:(setE Δ λc S'=>Q (.exc c) S')=Δ' at *;have hΔ':∀ f,MonoN (Δ' f):=hE▸AR hΔ;have ht':BW (Δ' kt):=by rw[<-hE,m8 (W3 lt)];exact ht
 have hi':BE (Δ' ki):=by rw[<-hE,m8 (W3 li)];exact hi
 have rs:∀{S':Sto} {Q':QE},Q (.exc c) S'->Δ' rz [.exc c] S' Q':=λh=>by rw[<-hE];exact⟨c,rfl,h⟩
 show wSs Δ' [exa kt x m c,(.iff (.not (.call ki (.cons (.var 0) (.cons (.var 5) .nil)))) [(.rse x c (.c (.str m2)))] []),(.ret (.var 5))] (m6 λv S'=>Q (.tup [v]) S') [some (webS n es),some w,some (.loc l),some (.int (a:Nat)),some (.int (b:Nat)),some (.loc S.length),none] (S++[.lst (parS cs)]);have ll:=(gM hl).1;have GwL:∀{S'},On S.length (S++[SO.lst (parS cs)]) S'->Gw S S':=λ{S'} O=>NR (Gw.refl S).push O (W0 _);refine⟨_,rfl,_,c5 (f9 hl),?_⟩;refine AB (l9 hΔ' _) (λi ρ S'=>∃ o6:Option SV,ρ=[some (webS n es),some w,some (.loc l),some (.int (a:Nat)),some (.int (b:Nat)),some (.loc S.length),o6]/\On S.length (S++[.lst (parS cs)]) S'/\S'[S.length]?=some (.lst (parS (exL cs (r.take i) a b)))/\∀ t∈r.take i,hu cs t=a\/hu cs t=b) ⟨none,rfl,On.refl _ _,by rw[ZL,Py];exact c7,λ_ h=>by rw[ZL]at h;cases h⟩ (λi ρ S' h=>?_) ?_ ?_
 ·obtain⟨_,_,O,_⟩:=h;show S'[l]?=(S++[SO.lst (parS cs)])[l]?;rw[f9 hl];exact O.keep _ _ (by omega) (f9 hl)
 ·rintro i y ρ S' hx ⟨o6,rfl,O,h5,hab⟩;obtain⟨t,hti,rfl⟩:=AQ hx;have tr:=Vv hti;have tl:=rlt t tr;have hk':=hk.gw (GwL O);have hc:=Bb (cs:=cs) (t:=t) (by omega);have hcp:(parS cs)[t]?=some (pS (hu cs t)):=Bk hc;have e:r.take (i+1)=r.take i++[t]:=by rw[Wz,hti];rfl
  refine⟨_,rfl,_,rfl,ht' tl ⟨_,rfl,ifF rfl ⟨_,rfl,_,rfl,_,_,hk'.seq,j4 hcp,_,rfl,_,rfl,by show 2<=100000;decide,by unfold pS;split<;>rfl,_,rfl,rfl,_,rfl,?_⟩⟩⟩;show if (!inS (pS (hu cs t)) [.int (a:Nat),.int (b:Nat)])=true then _ else _
  rw[JG a9 b9];by_cases hin:hu cs t=a\/hu cs t=b
  ·have hc9:hu cs t<1000:=by rcases hin with z | z<;>rw[z]<;>assumption
   rw[Aq hc9]at hcp;refine ifF (by rcases hin with z | z<;>simp[z]) (i0 ?_)
   have fin:∀ z:Int,z=((if hu cs t=a then b else a:Nat):Int)->HP (.loc S.length) (.int (t:Nat)) (.int z) S' λS4=>∃ o6:Option SV,[some (webS n es),some w,some (.loc l),some (.int (a:Nat)),some (.int (b:Nat)),some (.loc S.length),some (.int (t:Nat))]=[some (webS n es),some w,some (.loc l),some (.int (a:Nat)),some (.int (b:Nat)),some (.loc S.length),o6]/\On S.length (S++[.lst (parS cs)]) S4/\S4[S.length]?=some (.lst (parS (exL cs (r.take (i+1)) a b)))/\∀ t∈r.take (i+1),hu cs t=a\/hu cs t=b:=by
    rintro _ rfl;refine⟨_,t,h5,Pf (by rw[B7,AJ];omega),_,rfl,O.tape,?_,λu hu'=>?_⟩
    ·rw[BB h5,e,NO (by omega)];unfold parS;rw[List.map_set,Aq (by split<;>assumption)]
    ·rw[e]at hu';rcases WD.mp hu' with y | y
     ·exact hab u y
     ·rw[W1.mp y];exact hin
   refine⟨_,rfl,_,rfl,_,_,hk'.seq,j4 hcp,_,rfl,_,rfl,ifD (λz=>⟨_,rfl,_,rfl,_,rfl,fin _ ?_⟩) (λz=>⟨_,rfl,_,rfl,_,rfl,fin _ ?_⟩)⟩
   ·have z:hu cs t=a:=WX.mp z;rw[iP z]
   ·have z:¬ hu cs t=a:=λy=>z (congrArg _ y);rw[iG z]
  ·have hn:((decide (hu cs t=a)||decide (hu cs t=b)))=false:=by
    rw[decide_eq_false (λy=>hin (.inl y)),decide_eq_false (λy=>hin (.inr y))];rfl
   rw[hn];exact ifT rfl (rs (q1 (λz=>hin (z.2.1 t tr)) S' (GwL O)))
 ·rintro ρ S' ⟨o6,rfl,O,h5,hab⟩;rw[i3,Wt]at h5 hab;refine⟨_,rfl,_,rfl,hi' hen hel (NQ h5 (by rw[AJ];omega)) λrr S2 G2 e2=>⟨_,rfl,?_⟩⟩;have e3:(∃ xs,seqS (.loc S.length) S'=some xs/\HuP es xs)↔HuP es (parS (exL cs r a b)):=⟨λ⟨xs,y,z⟩=>by rw[c5 h5]at y;cases y;exact z,λz=>⟨_,c5 h5,z⟩⟩
  have G3:=(GwL O).trans G2;cases hr:rr with
  | true=>exact ifF rfl (i0 ⟨_,rfl,q2 ab hab (e3.mp (e2.mp hr)) _ _ G3⟩)
  | false=>exact ifT rfl (rs (q1 (λz=>by have:=e2.mpr (e3.mpr z.2.2);rw[hr]at this;cases this) S2 G3))
noncomputable def Nn(nm:Str)(lp:Pos)(ku ko kp kw kd:Nat):List Stm:=[(.exx ku (.cons (.var 2) (.cons (.var 3) .nil))),ro2,(.asg (.nm 5) (.call ko (.cons (.var 0) (.cons (.var 4) .nil)))),(.asg (.nm 6) (.lst .nil)),ro5 kp kw kd,ro6 nm lp]
noncomputable def No(c:XCls)(nm:Str)(lp:Pos)(s:Sn):Prop:=∀{n lh a b:Nat} {es:EE} {cs:List (Option Nat)} {S:Sto} {Q:QE},(∀ e∈es,e.1<e.2/\e.2<n)->n<=900->es.length<=60->cs.length=es.length->S[0]?=some (.tbl nm lp)->S[lh]?=some (.lst (optsS cs))->
 (a=b->Q (.exc c) S)->(a≠b->∀ v S',Gw S S'->Q (.tup [v]) S')->s [webS n es,.loc lh,.int (a:Nat),.int (b:Nat)] S Q
theorem VG{c:XCls}{nm:Str}{lp:Pos}{ku ko kp kw kd:Nat}(hΔ:∀ f,MonoN (Δ f))(hu':Nm c (Δ (tz+ku)))(hko:FC (Δ ko))(hkp:CK (Δ kp))(hkw:CM (Δ kw))(hkd:Dl (Δ kd))(lo:ko<1000000)(lp':kp<1000000)(lw:kw<1000000)(ld:kd<1000000){D:Df}(hb:D.body=Nn nm lp ku ko kp kw kd)(hN:D.N.length=9)(hp:D.ps.length=4):No c nm lp (BV Δ D):=by
 intro n lh a b es cs S Q hen n9 e6 cl ht hl q1 q2;refine CO (by rw[hb];rfl) ?_;unfold i4;rw[hb,hN];refine⟨hp.symm,_,rfl,_,rfl,?_⟩;unfold wCx;rw[m8 (show 2000000+ku≠1000000 by omega)];refine hu' (λe=>⟨c,rfl,q1 e⟩) λab=>?_;exact Nf (AR hΔ) (ko:=ko) (kp:=kp) (kw:=kw) (kd:=kd) (by rw[m8 (W3 lo)];exact hko) (by rw[m8 (W3 lp')];exact hkp) (by rw[m8 (W3 lw)];exact hkw) (by rw[m8 (W3 ld)];exact hkd) hen n9 e6 cl ht hl λl qs S' G _ _ _ _=>q2 ab _ _ G
end
noncomputable def cdO(t:Nat):Option Nat->Nat
 | some c=>c
 | none=>1000+t
noncomputable def cdL(cs:List (Option Nat)):List Nat:=(Vw cs.length).map λt=>cdO t (cs.getD t none)
theorem FI(cs:List (Option Nat)):(cdL cs).length=cs.length:=by unfold cdL;rw[Vp,WY]
theorem Np{cs:List (Option Nat)}{t:Nat}(h:t<cs.length):hu (cdL cs) t=cdO t (cs.getD t none):=by
 unfold hu cdL;rw[Vt,Vx,Wv h];rfl
theorem TY{cs:List (Option Nat)}(h:∀ c,some c∈cs->c<200):parS (cdL cs)=optsS cs:=by
 refine Xs λi=>?_;unfold parS cdL optsS;rw[XE,Vx,Vx];by_cases hi:i<cs.length
 ·have hc:=Vq hi;rw[Wv hi,hc];show some (pS (cdO i (cs.getD i none)))=some (Cn cs[i]);rw[Vt,hc];show some (pS (cdO i cs[i]))=some (Cn cs[i]);cases e:cs[i] with
  | none=>
    have:pS (1000+i) = .non:=iG (by omega);show some (pS (1000+i))=some .non;rw[this]
  | some c=>
    have:=h c (e▸Wi hi);show some (pS c)=some (.int (c:Nat));rw[Aq (by omega)]
 ·rw[Wk (by rw[WY];omega),Wk (by omega)];rfl
theorem TZ{es:EE}{cs:List (Option Nat)}(cl:cs.length=es.length)(h:∀ c,some c∈cs->c<200)(pr:∀(j k c:Nat),j<k->cs[j]?=some (some c)->cs[k]?=some (some c)->¬ Shr es j k):Prp es (cdL cs):=by
 have key:∀ t u y,t<u->u<cs.length->AtP es t y->AtP es u y->hu (cdL cs) t≠hu (cdL cs) u:=by
  intro t u y tu ul ht hu' e;rw[Np (by omega),Np ul,Vt,Vt]at e;have h1:=Vq (show t<cs.length by omega);have h2:=Vq ul;rw[h1,h2]at e;have e:cdO t cs[t]=cdO u cs[u]:=e;have m1:=Wi (show t<cs.length by omega);have m2:=Wi ul;generalize cs[t]=x at *;generalize cs[u]=z at *;cases x with
  | none=>cases z with
    | none=>have e:1000+t=1000+u:=e;omega
    | some c=>have e:1000+t=c:=e;have:=h c m2;omega
  | some c=>cases z with
    | none=>have e:c=1000+u:=e;have:=h c m1;omega
    | some d=>
      have e:c=d:=e;subst e;exact pr t u c tu h1 h2 (TK ht hu')
 refine⟨by rw[FI,cl],λt u y ht hu' e=>?_⟩;have tl:=ht.lt;have ul:=hu'.lt;rcases Yr t u with z | z | z
 ·exact absurd e (key t u y z (by omega) ht hu')
 ·exact z
 ·exact absurd e.symm (key u t y z (by omega) hu' ht)
noncomputable def clNm:List Str:=["NoPlace","NoTie","NoRow","NoFan","TooFew","NoStep","NotTwoSides","ShortList","BadRow"]
noncomputable def Nq(c:XCls)(k:Nat):Prop:=∃ a0 a1 a2 a3 a4 a5 a6 a7 a8:ZY,c.tb=([("NoPlace",a0,decide (0=k)),("NoTie",a1,decide (1=k)),("NoRow",a2,decide (2=k)),("NoFan",a3,decide (3=k)),("TooFew",a4,decide (4=k)),("NoStep",a5,decide (5=k)),("NotTwoSides",a6,decide (6=k)),("ShortList",a7,decide (7=k)),("BadRow",a8,decide (8=k))]:List (Str×ZY×Bool))
noncomputable def Gh(k:Nat):List Bool:=[decide (0=k),decide (1=k),decide (2=k),decide (3=k),decide (4=k),decide (5=k),decide (6=k),decide (7=k),decide (8=k)]
theorem Ta:∀ k,k<9->(Gh k).count true=1/\(Gh k)[k]?=some true/\∀ m,m<k->(Gh k)[m]?≠some true:=by decide
noncomputable def Nr:List Stm:=[(.iff (.cmp .Is (.var 0) (.c .non)) [(.ret (.c (.str "")))] []),(.asg (.nm 1) (.lst (.cons (.isx (.var 0) "NoPlace") (.cons (.isx (.var 0) "NoTie") (.cons (.isx (.var 0) "NoRow") .nil))))),(.asg (.nm 1) (.op .Add (.var 1) (.lst (.cons (.isx (.var 0) "NoFan") (.cons (.isx (.var 0) "TooFew") (.cons (.isx (.var 0) "NoStep") .nil)))))),(.asg (.nm 1) (.op .Add (.var 1) (.lst (.cons (.isx (.var 0) "NotTwoSides") (.cons (.isx (.var 0) "ShortList") (.cons (.isx (.var 0) "BadRow") .nil)))))),(.iff (.or (.cmp .NotEq (.mt .countB (.var 1) (.cons (.c (.bl true)) .nil)) (.c (.int 1))) (.not (.isv (.var 0)))) [(.ret (.c (.str "other")))] []),(.asg (.nm 2) (.lst (.cons (.c (.str "NoPlace")) (.cons (.c (.str "NoTie")) (.cons (.c (.str "NoRow")) (.cons (.c (.str "NoFan")) (.cons (.c (.str "TooFew")) (.cons (.c (.str "NoStep")) (.cons (.c (.str "NotTwoSides")) (.cons (.c (.str "ShortList")) (.cons (.c (.str "BadRow")) .nil))))))))))),(.ret (.ix (.var 2) (.mt .indexB (.var 1) (.cons (.c (.bl true)) .nil))))]
section
variable{Δ:Nat->Sn}
noncomputable def FJ(s:Sn):Prop:=(∀{S:Sto} {Q:QE},Q (.str "") S->s [.non] S Q)/\∀{c:XCls} {k:Nat} {S:Sto} {Q:QE},Nq c k->k<9->(∀ S',Gw S S'->Q (.str (clNm.getD k "")) S')->s [.exc c] S Q
theorem Nt{D:Df}(hb:D.body=Nr)(hN:D.N.length=3)(hp:D.ps.length=1):FJ (i4 Δ D):=by
 refine⟨λ{S Q} q=>?_,λ{c k S Q} ht hk q=>?_⟩
 ·unfold i4;rw[hb,hN];exact⟨hp.symm,_,rfl,.inl ⟨rfl,_,rfl,ifT rfl q⟩⟩
 ·unfold i4;rw[hb,hN];obtain⟨a0,a1,a2,a3,a4,a5,a6,a7,a8,et⟩:=ht;have b3:3<=big:=by show 3<=100000;omega
  refine⟨hp.symm,_,rfl,.inl ⟨rfl,_,rfl,ifF rfl (i0 ?_)⟩⟩;refine⟨_,rfl,c,a0,decide (0=k),rfl,by rw[et];simp,_,rfl,c,a1,decide (1=k),rfl,by rw[et];simp,_,rfl,c,a2,decide (2=k),rfl,by rw[et];simp,b3,?_⟩;show wSs Δ (_::_) (m6 Q) [some (.exc c),some (.loc S.length),none] (S++[.lst [.bl (decide (0=k)),.bl (decide (1=k)),.bl (decide (2=k))]]);have h1:(S++[SO.lst [.bl (decide (0=k)),.bl (decide (1=k)),.bl (decide (2=k))]])[S.length]?=some (.lst [.bl (decide (0=k)),.bl (decide (1=k)),.bl (decide (2=k))]):=c7;have G1:Gw S (S++[SO.lst [.bl (decide (0=k)),.bl (decide (1=k)),.bl (decide (2=k))]]):=(Gw.refl S).push;generalize S.length=l1 at *;generalize S++[SO.lst [.bl (decide (0=k)),.bl (decide (1=k)),.bl (decide (2=k))]]=S1 at *;refine⟨_,rfl,_,rfl,c,a3,decide (3=k),rfl,by rw[et];simp,_,rfl,c,a4,decide (4=k),rfl,by rw[et];simp,_,rfl,c,a5,decide (5=k),rfl,by rw[et];simp,b3,_,_,f9 h1,c7,by show 6<=100000;omega,?_⟩;have h2:((S1++[SO.lst [.bl (decide (3=k)),.bl (decide (4=k)),.bl (decide (5=k))]])++[SO.lst ([.bl (decide (0=k)),.bl (decide (1=k)),.bl (decide (2=k))]++[.bl (decide (3=k)),.bl (decide (4=k)),.bl (decide (5=k))])])[(S1++[SO.lst [.bl (decide (3=k)),.bl (decide (4=k)),.bl (decide (5=k))]]).length]?=some (SO.lst ([.bl (decide (0=k)),.bl (decide (1=k)),.bl (decide (2=k))]++[.bl (decide (3=k)),.bl (decide (4=k)),.bl (decide (5=k))])):=c7;have G2:=(G1.push (o:=SO.lst [.bl (decide (3=k)),.bl (decide (4=k)),.bl (decide (5=k))])).push (o:=SO.lst ([.bl (decide (0=k)),.bl (decide (1=k)),.bl (decide (2=k))]++[.bl (decide (3=k)),.bl (decide (4=k)),.bl (decide (5=k))]));show wSs Δ (_::_) (m6 Q) [some (.exc c),some (.loc (S1++[SO.lst [.bl (decide (3=k)),.bl (decide (4=k)),.bl (decide (5=k))]]).length),none] _;generalize (S1++[SO.lst [.bl (decide (3=k)),.bl (decide (4=k)),.bl (decide (5=k))]]).length=l2 at *;generalize (S1++[SO.lst [.bl (decide (3=k)),.bl (decide (4=k)),.bl (decide (5=k))]])++[SO.lst ([.bl (decide (0=k)),.bl (decide (1=k)),.bl (decide (2=k))]++[.bl (decide (3=k)),.bl (decide (4=k)),.bl (decide (5=k))])]=S2 at *;refine⟨_,rfl,_,rfl,c,a6,decide (6=k),rfl,by rw[et];simp,_,rfl,c,a7,decide (7=k),rfl,by rw[et];simp,_,rfl,c,a8,decide (8=k),rfl,by rw[et];simp,b3,_,_,f9 h2,c7,by show 9<=100000;omega,?_⟩;generalize hS3:S2++[SO.lst [.bl (decide (6=k)),.bl (decide (7=k)),.bl (decide (8=k))]]=S3 at *;have G3:Gw S S3:=by rw[<-hS3];exact G2.push
  show wSs Δ (_::_) (m6 Q) [some (.exc c),some (.loc S3.length),none] (S3++[.lst ((Gh k).map SV.bl)]);have h3:(S3++[SO.lst ((Gh k).map SV.bl)])[S3.length]?=some (SO.lst ((Gh k).map SV.bl)):=c7;have G4:=G3.push (o:=SO.lst ((Gh k).map SV.bl));generalize S3.length=l3 at *;generalize S3++[SO.lst ((Gh k).map SV.bl)]=S4 at *;obtain⟨f1,f2,f3⟩:=Ta k hk;refine⟨_,rfl,⟨_,_,rfl,h3⟩,_,true,rfl,h3,_,rfl,?_⟩;rw[f1];refine ifF rfl ⟨_,rfl,c,rfl,_,rfl,ifF rfl (i0 ⟨by show 9<=100000;omega,?_⟩)⟩;show wSs Δ [_] (m6 Q) [some (.exc c),some (.loc l3),some (.loc S4.length)] (S4++[.lst (clNm.map SV.str)]);refine⟨_,rfl,_,rfl,⟨_,_,rfl,f9 h3⟩,_,true,k,rfl,f9 h3,f2,f3,clNm.map SV.str,_,c5 c7,?_,q _ G4.push⟩;refine j4 ?_;rw[Vx,Vt,Vq (show k<clNm.length from hk)];rfl
noncomputable def VH(kr ko ke kc:Nat)(dn:Str)(Dc:ZY):List Stm:=[(.asg (.nm 6) (.c .non)),(.tryx 8 7 6 dn Dc [(.iff (.cmp .Eq (.var 0) (.c (.int 0))) [(.exx kr (.cons (.var 1) (.cons (.var 2) (.cons (.var 3) (.cons (.var 4) (.cons (.var 5) .nil))))))] [(.iff (.cmp .Eq (.var 0) (.c (.int 1))) [(.exx ko (.cons (.var 1) (.cons (.var 2) (.cons (.var 4) (.cons (.var 5) .nil)))))] [(.exx ke (.cons (.var 1) (.cons (.var 2) (.cons (.var 3) (.cons (.var 4) (.cons (.var 5) .nil))))))])])]),(.ret (.call kc (.cons (.var 6) .nil)))]
noncomputable def dueP(n:Nat)(es:EE)(cs:List Nat)(p:Int)(a b:Nat):Str:=if 0<=p/\p<n then (if a=b\/(Ap es cs p.toNat b).isSome=true then "NoRow" else "") else "NoPlace"
structure AskSp(nm:Str)(lp:Pos)(s:Sn):Prop where
 row:∀{n a b:Nat} {p:Int} {w:SV} {es:EE} {cs:List Nat} {S:Sto} {Q:QE},Hv S w cs->a<1000->b<1000->Prp es cs->(∀ e∈es,e.1<e.2/\e.2<n)->es.length<=60->(∀ S',Gw S S'->Q (.str (dueP n es cs p a b)) S')->s [.int (0:Int),webS n es,w,.int p,.int (a:Nat),.int (b:Nat)] S Q
 all:∀{n lh a b:Nat} {x:SV} {es:EE} {cs:List (Option Nat)} {S:Sto} {Q:QE},(∀ e∈es,e.1<e.2/\e.2<n)->n<=900->es.length<=60->cs.length=es.length->S[0]?=some (.tbl nm lp)->S[lh]?=some (.lst (optsS cs))->(∀ S',Gw S S'->Q (.str (if a=b then "NoRow" else "")) S')->s [.int (1:Int),webS n es,.loc lh,x,.int (a:Nat),.int (b:Nat)] S Q
 exc:∀{n l a b:Nat} {w:SV} {es:EE} {cs r:List Nat} {S:Sto} {Q:QE},Hv S w cs->a<1000->b<1000->S[l]?=some (.lst (natS r))->cs.length=es.length->(∀ e∈es,e.1<e.2/\e.2<n)->es.length<=60->(∀ t∈r,t<es.length)->r.length<=1000->
  (∀(e:Bool) S',Gw S S'->(e=true↔a≠b/\(∀ t∈r,hu cs t=a\/hu cs t=b)/\HuP es (parS (exL cs r a b)))->Q (.str (if e=true then "" else "NoRow")) S')->s [.int (2:Int),webS n es,w,.loc l,.int (a:Nat),.int (b:Nat)] S Q
theorem Tb{kr ko ke kc:Nat}{dn nm:Str}{lp:Pos}{Dc:ZY}{cp cr:XCls}(hr:TW cp cr (Δ (tz+kr)))(ho:No cr nm lp (Δ (tz+ko)))(he:TX cr (Δ (tz+ke)))(hc:FJ (Δ kc))(up:Dc∈cp.un)(ur:Dc∈cr.un)(tp:Nq cp 0)(tr:Nq cr 2){D:Df}(hb:D.body=VH kr ko ke kc dn Dc)(hN:D.N.length=8)(hp:D.ps.length=6):AskSp nm lp (i4 Δ D):=by
 have tc:∀ k Xp,setE Δ Xp (tz+k)=Δ (tz+k):=λk Xp=>m8 (show 2000000+k≠1000000 by omega);have rest:∀{Q:QE} {S:Sto} (v:SV) {ρ:EnvS},ρ[6]?=some (some v)->Δ kc [v] S Q->wSs Δ [(.ret (.call kc (.cons (.var 6) .nil)))] (m6 Q) ρ S:=λv ρ h q=>⟨v,h,q⟩
 refine⟨?_,?_,?_⟩
 ·intro n a b p w es cs S Q hk a9 b9 P hen hel q;unfold i4;rw[hb,hN];refine⟨hp.symm,?_⟩;refine⟨λc S'=>Dc∈c.un/\wSs Δ [(.ret (.call kc (.cons (.var 6) .nil)))] (m6 Q) ((WL 8 none).set 6 (some (.exc c))) S',λc S' h=>h,?_⟩;refine⟨_,rfl,_,rfl,ifT rfl ⟨_,rfl,_,rfl,_,rfl,_,rfl,_,rfl,?_⟩⟩;unfold wCx;rw[tc];refine hr hk a9 b9 P hen (by omega) (λz=>?_) (λp0 pn z S' G=>?_) (λp0 pn ab no v S' G=>?_)
  ·refine⟨cp,rfl,up,rest (.exc cp) rfl (hc.2 tp (by decide) λS2 G2=>?_)⟩;have:=q S2 G2;unfold dueP at this;rw[iG z]at this;exact this
  ·refine⟨cr,rfl,ur,rest (.exc cr) rfl (hc.2 tr (by decide) λS2 G2=>?_)⟩;have:=q S2 (G.trans G2);unfold dueP at this
   rw[iP ⟨p0,pn⟩,iP (z.imp id λ⟨u,h1,h2⟩=>by
    cases hz:Ap es cs p.toNat b with
    | none=>exact absurd h2 (Cd hz u h1)
    | some t=>rfl)]at this
   exact this
  ·refine i0 (Δ:=Δ) (i0 (Δ:=Δ) (i0 (Δ:=Δ) (rest .non rfl (hc.1 ?_))));have:=q S' G;unfold dueP at this
   rw[iP ⟨p0,pn⟩,iG (λy=>by
    rcases y with y | y
    ·exact ab y
    ·rw[JB no]at y;cases y)]at this
   exact this
 ·intro n lh a b x es cs S Q hen n9 e6 cl ht hl q;unfold i4;rw[hb,hN];refine⟨hp.symm,?_⟩;refine⟨λc S'=>Dc∈c.un/\wSs Δ [(.ret (.call kc (.cons (.var 6) .nil)))] (m6 Q) ((WL 8 none).set 6 (some (.exc c))) S',λc S' h=>h,?_⟩;refine⟨_,rfl,_,rfl,ifF rfl ⟨_,rfl,_,rfl,ifT rfl ⟨_,rfl,_,rfl,_,rfl,_,rfl,?_⟩⟩⟩;unfold wCx;rw[tc];refine ho hen n9 e6 cl ht hl (λz=>?_) (λab v S' G=>?_)
  ·refine⟨cr,rfl,ur,rest (.exc cr) rfl (hc.2 tr (by decide) λS2 G2=>?_)⟩;have:=q S2 G2;rw[iP z]at this;exact this
  ·refine i0 (Δ:=Δ) (i0 (Δ:=Δ) (i0 (Δ:=Δ) (i0 (Δ:=Δ) (rest .non rfl (hc.1 ?_)))));have:=q S' G;rw[iG ab]at this;exact this
 ·intro n l a b w es cs r S Q hk a9 b9 hl cl hen e6 rlt rlen q;unfold i4;rw[hb,hN];refine⟨hp.symm,?_⟩;refine⟨λc S'=>Dc∈c.un/\wSs Δ [(.ret (.call kc (.cons (.var 6) .nil)))] (m6 Q) ((WL 8 none).set 6 (some (.exc c))) S',λc S' h=>h,?_⟩;refine⟨_,rfl,_,rfl,ifF rfl ⟨_,rfl,_,rfl,ifF rfl ⟨_,rfl,_,rfl,_,rfl,_,rfl,_,rfl,?_⟩⟩⟩;unfold wCx;rw[tc];refine he hk a9 b9 hl cl hen e6 rlt rlen (λz S' G=>?_) (λab h2 h3 v S' G=>?_)
  ·exact⟨cr,rfl,ur,rest (.exc cr) rfl (hc.2 tr (by decide) λS2 G2=>q false S2 (G.trans G2) ⟨nofun,λy=>absurd y z⟩)⟩
  ·exact i0 (Δ:=Δ) (i0 (Δ:=Δ) (i0 (Δ:=Δ) (i0 (Δ:=Δ) (rest .non rfl (hc.1 (q true S' G ⟨λ_=>⟨ab,h2,h3⟩,λ_=>rfl⟩))))))
noncomputable def JH:List Stm:=[(.ret (.comp ["_law_tie","_law_pair"] ["_law_place","_law_hueing_here"] [2,1] (.tup (.cons (.nm 0) (.cons (.nm 1) .nil))) (.enum (.ix (.var 0) (.c (.int 1)))) (.yes (.and (.cmp .In (.var 2) (.var 1)) (.cmp .IsNot (.ix (.var 3) (.var 0)) (.c .non)))) (.ix (.var 3) (.var 0))))]
noncomputable def Dm(s:Sn):Prop:=∀{n p:Nat} {w:SV} {es:EE} {cs:List Nat} {S:Sto} {Q:QE},Hv S w cs->cs.length=es.length->es.length<=60->(∀(l:Nat) (L:List Nat) (S':Sto),Gw S S'->S'[l]?=some (.lst (natS L))->(∀ h,h<1000->(h∈L↔∃ u,AtP es u p/\hu cs u=h))->Q (.loc l) S')->s [webS n es,w,.int (p:Nat)] S Q
theorem Kp(hΔ:∀ f,MonoN (Δ f)){D:Df}(hb:D.body=JH)(hN:D.N.length=3)(hp:D.ps.length=3):Dm (i4 Δ D):=by
 intro n p w es cs S Q hk hl hel q;have ml:(es.map pairS).length=es.length:=Vp ..;unfold i4;rw[hb,hN];refine⟨hp.symm,_,rfl,_,_,rfl,rfl,_,rfl,?_⟩;refine i5 (j6 hΔ _).2 (c4 hΔ _).1 (λj ys S2=>S2=S/\∃ L:List Nat,ys=natS L/\L.length<=j/\∀ h,h∈L↔∃ u,u<j/\AtP es u p/\hu cs u=h/\h<1000) ⟨rfl,[],rfl,W0 _,λh=>⟨(λz=>nomatch z),λ⟨u,z,_⟩=>absurd z (X4 _)⟩⟩ (λ_ _ _ _=>trivial) ?_ ?_
 ·rintro i y ys S2 hy ⟨rfl,L,rfl,ll,lm⟩;obtain⟨y',hy',rfl⟩:=BX hy;obtain⟨e,he,rfl⟩:=BY hy';have il:=(gM he).1;have hc:=Bb (cs:=cs) (t:=i) (by omega);have hEe:NU es p i=(decide (e.1=p)||decide (e.2=p)):=by unfold NU;rw[he]
  refine⟨_,rfl,_,rfl,rfl,_,rfl,rfl,_,rfl,?_⟩;show if inS (.int p) [.int e.1,.int e.2]=true then _ else _
  rw[Cu,<-hEe]
  have skip:¬ (AtP es i p/\hu cs i<1000)->∀ h,h∈L↔∃ u,u<i+1/\AtP es u p/\hu cs u=h/\h<1000:=λno h=>by
   rw[lm];constructor
   ·rintro⟨u,h1,h2⟩;exact⟨u,by omega,h2⟩
   ·rintro⟨u,h1,h2,h3,h4⟩;by_cases e:u=i
    ·subst e;exact absurd ⟨h2,h3▸h4⟩ no
    ·exact⟨u,by omega,h2,h3,h4⟩
  cases hh:NU es p i with
  | false=>exact ifF rfl (ifF rfl ⟨rfl,L,rfl,by omega,skip λz=>by rw[hasE_iff.mpr z.1]at hh;cases hh⟩)
  | true=>
    refine ifT rfl ⟨_,rfl,_,rfl,_,_,hk.seq,j4 (Bk hc),.inl ⟨rfl,_,rfl,?_⟩⟩;show if (if true=true then !CA (pS (hu cs i)) else CA (pS (hu cs i)))=true then _ else _
    rw[iP rfl,TJ,Bool.not_not];refine ifD (λz=>?_) (λz=>⟨rfl,L,rfl,by omega,skip λy=>z y.2⟩);refine⟨_,rfl,_,rfl,_,_,hk.seq,j4 (Bk hc),by rw[i3];show _<100000;omega,rfl,L++[hu cs i],?_,by rw[Vs];simp;omega,λh=>?_⟩
    ·rw[r6,Aq z];rfl
    ·rw[WD,lm,W1];constructor
     ·rintro(⟨u,h1,h2⟩ | rfl)
      ·exact⟨u,by omega,h2⟩
      ·exact⟨i,by omega,hasE_iff.mp hh,rfl,z⟩
     ·rintro⟨u,h1,h2,h3,h4⟩;by_cases e:u=i
      ·subst e;exact .inr h3.symm
      ·exact .inl ⟨u,by omega,h2,h3,h4⟩
 ·rintro ys S2 ⟨rfl,L,rfl,ll,lm⟩;refine q _ L _ (Gw.refl S2).push c7 λh h9=>?_;rw[lm];constructor
  ·rintro⟨u,_,h2,h3,_⟩;exact⟨u,h2,h3⟩
  ·rintro⟨u,h2,h3⟩;refine⟨u,?_,h2,h3,h9⟩;rw[Af,ml];exact h2.lt
noncomputable def Qt(kh:Nat):List Stm:=[(.iff (.not (.chn .LtE .Lt (.c (.int 0)) (.var 2) (.ix (.var 0) (.c (.int 0))))) [(.ret (.c (.str "NoPlace")))] []),(.ret (.ix (.lst (.cons (.c (.str "")) (.cons (.c (.str "NoRow")) .nil))) (.bi .int (.cons (.or (.cmp .Eq (.var 3) (.var 4)) (.cmp .In (.var 4) (.call kh (.cons (.var 0) (.cons (.var 1) (.cons (.var 2) .nil)))))) .nil))))]
noncomputable def FK(s:Sn):Prop:=∀{n a b:Nat} {p:Int} {w:SV} {es:EE} {cs:List Nat} {S:Sto} {Q:QE},Hv S w cs->cs.length=es.length->es.length<=60->b<1000->(∀ S',Gw S S'->Q (.str (dueP n es cs p a b)) S')->s [webS n es,w,.int p,.int (a:Nat),.int (b:Nat)] S Q
theorem Q4{kh:Nat}(hh:Dm (Δ kh)){D:Df}(hb:D.body=Qt kh)(hN:D.N.length=5)(hp:D.ps.length=5):FK (i4 Δ D):=by
 intro n a b p w es cs S Q hk cl e6 b9 q;unfold i4;rw[hb,hN]
 have no:¬ (0<=p/\p<n)->Q (.str "NoPlace") S:=λz=>by
  have:=q S (Gw.refl S);unfold dueP at this
  rwa [iG z]at this
 refine⟨hp.symm,_,rfl,_,rfl,?_⟩;refine ifD (λz=>⟨_,rfl,_,_,rfl,rfl,_,rfl,?_⟩) (λz=>⟨_,rfl,ifT rfl (no λy=>z y.1)⟩);show if (!decide (p<(n:Int)))=true then _ else _
 refine ifB (λy=>no λu=>by rw[decide_eq_true u.2]at y;cases y) (λy=>i0 ?_)
 have y:p<(n:Int):=by
  by_cases u:p<(n:Int)
  ·exact u
  ·rw[decide_eq_false u]at y;cases y
 obtain⟨j,rfl⟩:=YI z;have jn:j<n:=by omega
 have hd:∀ S',Gw S S'->Q (.str (if a=b\/(Ap es cs j b).isSome=true then "NoRow" else "")) S':=λS' G=>by
  have:=q S' G;unfold dueP at this
  rwa [iP ⟨z,y⟩,Xr]at this
 refine⟨by show 2<=100000;decide,?_⟩;have h2:(S++[SO.lst [SV.str "",SV.str "NoRow"]])[S.length]?=some (SO.lst [SV.str "",SV.str "NoRow"]):=c7;have G1:Gw S (S++[SO.lst [SV.str "",SV.str "NoRow"]]):=(Gw.refl S).push;have hk1:=hk.gw G1;generalize S++[SO.lst [SV.str "",SV.str "NoRow"]]=S1 at *
 have fin:∀(e:Bool) S2,Gw S1 S2->(e=true↔a=b\/(Ap es cs j b).isSome=true)->sBi .int [.bl e] S2 λy S3=>sIx (.loc S.length) y S3 Q:=λe S2 G2 he=>by
  have h:=hd S2 (G1.trans G2);cases e with
  | true=>
    rw[iP (he.mp rfl)]at h;exact⟨_,_,c5 (G2.keep _ _ h2),rfl,h⟩
  | false=>
    rw[iG λz=>by have:=he.mpr z;cases this]at h;exact⟨_,_,c5 (G2.keep _ _ h2),rfl,h⟩
 refine⟨_,rfl,_,rfl,_,rfl,?_⟩;refine ifD (λe=>fin true S1 (Gw.refl _) ⟨λ_ => .inl (WX.mp e),λ_=>rfl⟩) (λe=>⟨_,rfl,_,rfl,_,rfl,_,rfl,hh hk1 cl e6 λl L S2 G2 hl hm=>?_⟩);show match BG (.loc l) S2 with | some ms=>_ | none=>_
 rw[Dd hl];refine⟨rfl,_,c5 hl,Gc L,?_⟩;rw[show(if false=true then !inS (.int (b:Nat)) (natS L) else inS (.int (b:Nat)) (natS L))=decide (b∈L) from by rw[iG (by decide),NI]];refine fin _ S2 G2 ?_;rw[dQ,hm b b9];constructor
 ·rintro⟨u,h1,h2⟩;right;cases hz:Ap es cs j b with
  | none=>exact absurd h2 (Cd hz u h1)
  | some t=>rfl
 ·rintro(h | h)
  ·exact absurd (congrArg _ h) e
  ·cases hz:Ap es cs j b with
   | none=>rw[hz]at h;cases h
   | some t=>exact⟨t,EX hz⟩
theorem Q5(bs:List Bool):blS (bs.map SV.bl)=some bs:=by
 induction bs with
 | nil=>rfl
 | cons b bs ih=>show(blS (bs.map SV.bl)).map (b::·)=_;rw[ih];rfl
noncomputable def Nu(ki:Nat):List Stm:=[(.iff (.or (.cmp .Eq (.var 3) (.var 4)) (.not (.bi .all (.cons (.comp ["_law_tie"] ["_law_hueing_here","_law_one","_law_other"] [1,3,4] (.nm 0) (.seq (.var 2)) .no (.cmp .In (.ix (.var 1) (.var 0)) (.tup (.cons (.var 2) (.cons (.var 3) .nil))))) .nil)))) [(.ret (.c (.str "NoRow")))] []),(.asg (.nm 5) (.comp ["_law_tie","_law_hue"] ["_law_ties","_law_one","_law_other"] [2,3,4] (.tup (.cons (.nm 0) (.cons (.nm 1) .nil))) (.enum (.var 1)) .no (.ife (.cmp .In (.var 0) (.var 2)) (.op .Sub (.op .Add (.var 3) (.var 4)) (.var 1)) (.var 1)))),(.ret (.ix (.lst (.cons (.c (.str "NoRow")) (.cons (.c (.str "")) .nil))) (.bi .int (.cons (.call ki (.cons (.var 0) (.cons (.var 5) .nil))) .nil))))]
noncomputable def Cz(s:Sn):Prop:=∀{n l a b:Nat} {w:SV} {es:EE} {cs r:List Nat} {S:Sto} {Q:QE},Hv S w cs->a<1000->b<1000->S[l]?=some (.lst (natS r))->cs.length=es.length->(∀ e∈es,e.1<e.2/\e.2<n)->es.length<=60->(∀ t∈r,t<es.length)->r.length<=1000->
 (∀(e:Bool) S',Gw S S'->(e=true↔a≠b/\(∀ t∈r,hu cs t=a\/hu cs t=b)/\HuP es (parS (exL cs r a b)))->Q (.str (if e=true then "" else "NoRow")) S')->s [webS n es,w,.loc l,.int (a:Nat),.int (b:Nat)] S Q
theorem Nv(hΔ:∀ f,MonoN (Δ f)){ki:Nat}(hi:BE (Δ ki)){D:Df}(hb:D.body=Nu ki)(hN:D.N.length=6)(hp:D.ps.length=5):Cz (i4 Δ D):=by
 intro n l a b w es cs r S Q hk a9 b9 hl hcl hen e6 rlt rlen q;unfold i4;rw[hb,hN];refine⟨hp.symm,_,rfl,_,rfl,_,rfl,?_⟩;refine ifD (λe=>?_) (λab=>?_)
 ·exact q false S (Gw.refl S) ⟨nofun,λz=>absurd (WX.mp e) z.1⟩
 have ab:a≠b:=λe=>ab (by rw[e]);refine⟨_,rfl,_,c5 hl,?_⟩;refine Dj hΔ (λi=>decide (hu cs (r.getD i 0)=a)||decide (hu cs (r.getD i 0)=b)) (by rw[i3];exact rlen) (λS' G=>by show S'[l]?=S[l]?;rw[hl,G.keep _ _ hl]) (λi x S' hx G=>?_) λS1 G1=>?_
 ·obtain⟨t,hti,rfl⟩:=AQ hx;have g:r.getD i 0=t:=by rw[Vt,hti];rfl
  have tl:=rlt t (Vv hti);have hc:=Bb (cs:=cs) (t:=t) (by omega);have hk':=hk.gw G;refine⟨_,rfl,_,rfl,_,_,hk'.seq,j4 (Bk hc),_,rfl,_,rfl,by show 2<=100000;decide,by unfold pS;split<;>rfl,_,rfl,rfl,?_⟩;show SV.bl (inS (pS (hu cs t)) [.int (a:Nat),.int (b:Nat)])=_/\Gw S S';rw[JG a9 b9,g];exact⟨rfl,G⟩
 rw[i3];have e1:∀ L:List Nat,(L.map λi=>SV.bl (decide (hu cs (r.getD i 0)=a)||decide (hu cs (r.getD i 0)=b)))=(L.map λi=>(decide (hu cs (r.getD i 0)=a)||decide (hu cs (r.getD i 0)=b))).map SV.bl:=λL=>by rw[XE];rfl
 rw[e1];refine⟨_,_,nofun,c5 c7,Q5 _,_,rfl,?_⟩
 have v:(((Vw r.length).map λi=>(decide (hu cs (r.getD i 0)=a)||decide (hu cs (r.getD i 0)=b))).all id)=decide (∀ t∈r,hu cs t=a\/hu cs t=b):=by
  rw[Wa,dQ,W9];constructor
  ·intro h t ht;obtain⟨i,hi⟩:=Xa ht;have:=h _ (XN (WJ.mpr (gM hi).1));rw[id,WK,dQ,dQ,Vt,hi]at this;exact this
  ·intro h c hc;obtain⟨i,hi,rfl⟩:=WU.mp hc;have hi:=WJ.mp hi;rw[id,WK,dQ,dQ,Vt,Vq hi];exact h _ (Wi hi)
 rw[v];have G2:=G1.push (o:=SO.lst (((Vw r.length).map λi=>(decide (hu cs (r.getD i 0)=a)||decide (hu cs (r.getD i 0)=b))).map SV.bl));generalize S1++[SO.lst (((Vw r.length).map λi=>(decide (hu cs (r.getD i 0)=a)||decide (hu cs (r.getD i 0)=b))).map SV.bl)]=S2 at *;by_cases hab:∀ t∈r,hu cs t=a\/hu cs t=b
 ·refine ifF (by rw[decide_eq_true hab];rfl) (i0 ?_);have hk2:=hk.gw G2;have hl2:=G2.keep _ _ hl;refine⟨_,rfl,_,hk2.seq,?_⟩
  refine i5 (j6 hΔ _).2 (c4 hΔ _).1 (λi ys S'=>S'=S2/\ys=parS ((exL cs r a b).take i)) ⟨rfl,rfl⟩ (λ_ _ S' z=>by
   rw[z.1];rcases hk2 with e | ⟨k,e,_⟩<;>(subst e;first | trivial | exact rfl)) ?_ ?_
  ·rintro i x ys S' hx ⟨rfl,rfl⟩;obtain⟨y,hy,rfl⟩:=BX hx;have il:i<cs.length:=by have:=(gM hy).1;rwa [B7]at this
   have hc:=Bb (cs:=cs) (t:=i) il;rw[Bk hc]at hy;cases hy;have he:=Bb (cs:=exL cs r a b) (t:=i) (by rw[AJ];exact il);have eh:=Hs (cs:=cs) (r:=r) (a:=a) (b:=b) il;have fin:∀ y,y=pS (hu (exL cs r a b) i)->(parS ((exL cs r a b).take i)).length<big/\S'=S'/\parS ((exL cs r a b).take i)++[y]=parS ((exL cs r a b).take (i+1)):=λy e=>⟨by rw[B7,Wn];show _<100000;omega,rfl,by rw[Wz,he,e];unfold parS;rw[WB];rfl⟩
   refine⟨_,rfl,_,rfl,?_⟩;show match BG (.loc l) S' with | some ms=>_ | none=>_
   rw[Dd hl2];refine⟨rfl,_,c5 hl2,Gc r,_,rfl,?_⟩;show if inS (.int (i:Nat)) (natS r)=true then _ else _
   rw[NI];refine ifD (λz=>?_) (λz=>⟨_,rfl,fin _ (by rw[eh,iG z])⟩);rw[iP z]at eh;have hin:=hab i z;have h9:hu cs i<1000:=by rcases hin with y | y<;>rw[y]<;>assumption
   rw[Aq h9];refine⟨_,rfl,_,rfl,_,rfl,fin _ ?_⟩;rw[eh];rcases hin with y | y
   ·rw[iP y,Aq b9,y];show SV.int ((a:Int)+(b:Int) - (a:Int))=SV.int (b:Int)
    congr 1;omega
   ·rw[iG (by rw[y];exact Ne.symm ab),Aq a9,y];show SV.int ((a:Int)+(b:Int) - (b:Int))=SV.int (a:Int)
    congr 1;omega
  ·rintro ys S' ⟨rfl,rfl⟩;have el:(BH (parS cs)).length=(exL cs r a b).length:=by rw[Af,B7,AJ]
   rw[el,Wt];have h5:(S'++[SO.lst (parS (exL cs r a b))])[S'.length]?=some (SO.lst (parS (exL cs r a b))):=c7;have G3:=G2.push (o:=SO.lst (parS (exL cs r a b)));show wSs Δ [_] (m6 Q) [some (webS n es),some w,some (.loc l),some (.int (a:Nat)),some (.int (b:Nat)),some (.loc S'.length)] (S'++[.lst (parS (exL cs r a b))]);generalize S'.length=l5 at *;generalize S'++[SO.lst (parS (exL cs r a b))]=S3 at *;refine⟨by show 2<=100000;decide,_,rfl,_,rfl,hi hen e6 (NQ (f9 h5) (by rw[AJ];omega)) λrr S4 G4 e2=>?_⟩;have h6:=G4.keep _ _ (c7 (S:=S3) (o:=SO.lst [SV.str "NoRow",SV.str ""]));have e3:(∃ xs,seqS (.loc l5) (S3++[SO.lst [SV.str "NoRow",SV.str ""]])=some xs/\HuP es xs)↔HuP es (parS (exL cs r a b)):=⟨λ⟨xs,y,z⟩=>by rw[c5 (f9 h5)]at y;cases y;exact z,λz=>⟨_,c5 (f9 h5),z⟩⟩
   have fin:=q rr S4 (G3.push.trans G4) ⟨λz=>⟨ab,hab,e3.mp (e2.mp z)⟩,λz=>e2.mpr (e3.mpr z.2.2)⟩;cases rr with
   | true=>exact⟨_,_,c5 h6,rfl,fin⟩
   | false=>exact⟨_,_,c5 h6,rfl,fin⟩
 ·refine ifT (by rw[decide_eq_false hab];rfl) (q false S2 G2 ⟨nofun,λz=>absurd z.2.1 hab⟩)
noncomputable def rzA(ka kf:Nat):Stm:=(.loop (.nm 5) (.seq (.op .Add (.lst (.cons (.neg (.c (.int 1))) (.cons (.ix (.var 1) (.c (.int 0))) (.cons (.op .Add (.ix (.var 1) (.c (.int 0))) (.c (.int 7))) .nil)))) (.lrng1 (.ix (.var 1) (.c (.int 0)))))) [(.iff (.cmp .NotEq (.call ka (.cons (.c (.int 0)) (.cons (.var 1) (.cons (.var 2) (.cons (.var 5) (.cons (.var 3) (.cons (.var 4) .nil))))))) (.call kf (.cons (.var 1) (.cons (.var 2) (.cons (.var 5) (.cons (.var 3) (.cons (.var 4) .nil))))))) [(.ret (.c (.bl false)))] [])])
noncomputable def rzB(ka:Nat):Stm:=(.iff (.cmp .NotEq (.call ka (.cons (.c (.int 1)) (.cons (.var 1) (.cons (.var 2) (.cons (.c (.int 0)) (.cons (.var 3) (.cons (.var 4) .nil))))))) (.ix (.lst (.cons (.c (.str "")) (.cons (.c (.str "NoRow")) .nil))) (.bi .int (.cons (.cmp .Eq (.var 3) (.var 4)) .nil)))) [(.ret (.c (.bl false)))] [])
noncomputable def rzC:Stm:=(.asg (.nm 6) (.comp ["_law_tie","_law_hue"] ["_law_one","_law_other"] [3,4] (.tup (.cons (.nm 0) (.cons (.nm 1) .nil))) (.enum (.var 2)) (.yes (.cmp .In (.var 1) (.tup (.cons (.var 2) (.cons (.var 3) .nil))))) (.var 0)))
noncomputable def rzD(kd:Nat):Stm:=(.asg (.nm 7) (.comp ["_law_tie"] ["_law_tape_here"] [0] (.nm 0) (.seq (.var 6)) (.yes (.cmp .Eq (.call kd (.cons (.var 1) (.cons (.c (.int 2)) .nil))) (.c (.int 0)))) (.var 0)))
noncomputable def rzF(ka ke:Nat):List Stm:=[(.iff (.cmp .NotEq (.call ka (.cons (.c (.int 2)) (.cons (.var 1) (.cons (.var 2) (.cons (.var 8) (.cons (.var 3) (.cons (.var 4) .nil))))))) (.call ke (.cons (.var 1) (.cons (.var 2) (.cons (.var 8) (.cons (.var 3) (.cons (.var 4) .nil))))))) [(.ret (.c (.bl false)))] [])]
noncomputable def rzE(ka ke kd:Nat):Stm:=(.loop (.nm 8) (.seq (.tup (.cons (.var 7) (.cons (.slc (.var 6) .no (.yes (.c (.int 1)))) (.cons (.slc (.var 6) (.yes (.c (.int 1))) (.yes (.c (.int 2)))) (.cons (.comp ["_law_tie"] ["_law_tape_here"] [0] (.nm 0) (.rng1 (.bi .len (.cons (.var 2) .nil))) (.yes (.cmp .Eq (.call kd (.cons (.var 1) (.cons (.c (.int 4)) .nil))) (.c (.int 0)))) (.var 0)) (.cons (.lst .nil) .nil))))))) (rzF ka ke))
noncomputable def Nw(ka kf ke kd:Nat):List Stm:=[rzA ka kf,rzB ka,rzC,rzD kd,rzE ka ke kd,(.ret (.c (.bl true)))]
structure RI(nm:Str)(lp:Pos)(t lh n a b:Nat)(es:EE)(cs:List (Option Nat)):Prop where
 W:Web n es
 t0:0<t
 tl:t<lh
 cl:cs.length=es.length
 c2:∀ c,some c∈cs->c<200
 P:Prp es (cdL cs)
 a9:a<1000
 b9:b<1000
structure RS(nm:Str)(lp:Pos)(t lh:Nat)(cs:List (Option Nat))(S:Sto):Prop where
 T:TapeS S t
 tb:S[0]?=some (.tbl nm lp)
 hh:S[lh]?=some (.lst (optsS cs))
variable{nm:Str}{lp:Pos}{t lh n a b:Nat}{es:EE}{cs:List (Option Nat)}{S S':Sto}
theorem RS.gw(I:RS nm lp t lh cs S)(G:Gw S S'):RS nm lp t lh cs S':=⟨G.tape I.T,G.keep _ _ I.tb,G.keep _ _ I.hh⟩
theorem RS.on(I:RS nm lp t lh cs S)(R:RI nm lp t lh n a b es cs)(T:TapeS S' t)(O:On t S S'):RS nm lp t lh cs S':=⟨T,O.keep _ _ (by have:=R.t0;omega) I.tb,O.keep _ _ (by have:=R.tl;omega) I.hh⟩
theorem RS.hv(I:RS nm lp t lh cs S)(R:RI nm lp t lh n a b es cs):Hv S (.loc lh) (cdL cs) := .loc (by rw[TY R.c2];exact I.hh)
theorem Tc(hΔ:∀ f,MonoN (Δ f)){ka kf:Nat}(ha:AskSp nm lp (Δ ka))(hf:FK (Δ kf)){E:EndsS}(R:RI nm lp t lh n a b es cs)(I:RS nm lp t lh cs S){o5 o6 o7 o8:Option SV}
 (q:∀(o5:Option SV) S',Gw S S'->E.nx [some (.loc t),some (webS n es),some (.loc lh),some (.int (a:Nat)),some (.int (b:Nat)),o5,o6,o7,o8] S'):
 wSt Δ (rzA ka kf) E [some (.loc t),some (webS n es),some (.loc lh),some (.int (a:Nat)),some (.int (b:Nat)),o5,o6,o7,o8] S:=by
 have n6:=R.W.few;have e6:=R.W.len;refine⟨_,rfl,_,_,rfl,rfl,_,rfl,_,_,rfl,rfl,by show 3<=100000;omega,_,rfl,_,_,rfl,rfl,_,rfl,⟨by omega,by omega⟩,_,_,f9 c7,c7,by rw[o9];show 3+_<=100000;omega,_,c5 c7,?_⟩;have G0:Gw S (((S++[SO.lst [SV.int (-1),SV.int (n:Nat),SV.int ((n:Int)+7)]])++[SO.lst (u8 0 (n:Nat))])++[SO.lst ([SV.int (-1),SV.int (n:Nat),SV.int ((n:Int)+7)]++u8 0 (n:Nat))]):=(((Gw.refl S).push).push).push;have hL:(((S++[SO.lst [SV.int (-1),SV.int (n:Nat),SV.int ((n:Int)+7)]])++[SO.lst (u8 0 (n:Nat))])++[SO.lst ([SV.int (-1),SV.int (n:Nat),SV.int ((n:Int)+7)]++u8 0 (n:Nat))])[((S++[SO.lst [SV.int (-1),SV.int (n:Nat),SV.int ((n:Int)+7)]])++[SO.lst (u8 0 (n:Nat))]).length]?=some (SO.lst ([SV.int (-1),SV.int (n:Nat),SV.int ((n:Int)+7)]++u8 0 (n:Nat))):=c7
 have itm:∀ x∈[SV.int (-1),SV.int (n:Nat),SV.int ((n:Int)+7)]++u8 0 (n:Nat),∃ p:Int,x = .int p:=λx hx=>by
  rcases WD.mp hx with h | h
  ·rcases W4.mp h with h | h
   ·exact⟨_,h⟩
   rcases W4.mp h with h | h
   ·exact⟨_,h⟩
   rcases W4.mp h with h | h
   ·exact⟨_,h⟩
   cases h
  ·obtain⟨i,hi⟩:=Xa h;exact⟨_,(n8 hi).1⟩
 show v8 (keepS (.loc ((S++[SO.lst [SV.int (-1),SV.int (n:Nat),SV.int ((n:Int)+7)]])++[SO.lst (u8 0 (n:Nat))]).length) _) _ _ _ ([SV.int (-1),SV.int (n:Nat),SV.int ((n:Int)+7)]++u8 0 (n:Nat)) _ (((S++[SO.lst [SV.int (-1),SV.int (n:Nat),SV.int ((n:Int)+7)]])++[SO.lst (u8 0 (n:Nat))])++[SO.lst ([SV.int (-1),SV.int (n:Nat),SV.int ((n:Int)+7)]++u8 0 (n:Nat))]);generalize ((S++[SO.lst [SV.int (-1),SV.int (n:Nat),SV.int ((n:Int)+7)]])++[SO.lst (u8 0 (n:Nat))]).length=lk at *;generalize ((S++[SO.lst [SV.int (-1),SV.int (n:Nat),SV.int ((n:Int)+7)]])++[SO.lst (u8 0 (n:Nat))])++[SO.lst ([SV.int (-1),SV.int (n:Nat),SV.int ((n:Int)+7)]++u8 0 (n:Nat))]=S1 at *;generalize [SV.int (-1),SV.int (n:Nat),SV.int ((n:Int)+7)]++u8 0 (n:Nat)=xs at *;refine AI (l9 hΔ _) (λi ρ S'=>(∃ o5,ρ=[some (.loc t),some (webS n es),some (.loc lh),some (.int (a:Nat)),some (.int (b:Nat)),o5,o6,o7,o8])/\Gw S1 S') ⟨⟨_,rfl⟩,Gw.refl _⟩ (λi ρ S' h=>by show S'[lk]?=S1[lk]?;rw[hL,h.2.keep _ _ hL]) ?_ ?_
 ·rintro i x ρ S' E' hE _ hx ⟨⟨o5,rfl⟩,G⟩;obtain⟨p,rfl⟩:=itm x (Vv hx);have I1:=I.gw (G0.trans G);refine⟨_,rfl,_,rfl,_,rfl,_,rfl,_,rfl,ha.row (I1.hv R) R.a9 R.b9 R.P R.W.en (by omega) λS2 G2=>?_⟩;refine⟨_,rfl,_,rfl,_,rfl,_,rfl,_,rfl,hf ((I1.gw G2).hv R) (by rw[FI,R.cl]) (by omega) R.b9 λS3 G3=>?_⟩;exact⟨_,rfl,ifF (by simp) (i0 (Δ:=Δ) (i0 (Δ:=Δ) (hE _ _ ⟨⟨_,rfl⟩,(G.trans G2).trans G3⟩)))⟩
 ·rintro ρ S' ⟨⟨o5,rfl⟩,G⟩;exact q _ _ (G0.trans G)
theorem Td{ka:Nat}(ha:AskSp nm lp (Δ ka)){E:EndsS}(R:RI nm lp t lh n a b es cs)(I:RS nm lp t lh cs S){o5 o6 o7 o8:Option SV}
 (q:∀ S',Gw S S'->E.nx [some (.loc t),some (webS n es),some (.loc lh),some (.int (a:Nat)),some (.int (b:Nat)),o5,o6,o7,o8] S'):
 wSt Δ (rzB ka) E [some (.loc t),some (webS n es),some (.loc lh),some (.int (a:Nat)),some (.int (b:Nat)),o5,o6,o7,o8] S:=by
 have n6:=R.W.few;have e6:=R.W.len;refine⟨_,rfl,_,rfl,_,rfl,_,rfl,ha.all R.W.en (by omega) (by omega) R.cl I.tb I.hh λS1 G1=>?_⟩;have h2:(S1++[SO.lst [SV.str "",SV.str "NoRow"]])[S1.length]?=some (SO.lst [SV.str "",SV.str "NoRow"]):=c7;refine⟨by show 2<=100000;decide,_,rfl,_,rfl,_,.str (if a=b then "NoRow" else ""),c5 h2,?_,_,rfl,ifF (by simp) (i0 (Δ:=Δ) (q _ G1.push))⟩;by_cases e:a=b
 ·rw[iP e,decide_eq_true (congrArg _ e)];rfl
 ·rw[iG e,decide_eq_false (λz=>e (WX.mp z))];rfl
theorem Te(hΔ:∀ f,MonoN (Δ f)){E:EndsS}(R:RI nm lp t lh n a b es cs)(I:RS nm lp t lh cs S){o5 o6 o7 o8:Option SV}
 (q:∀(l:Nat) (L:List Nat) S',Gw S S'->S'[l]?=some (.lst (natS L))->S.length<=l->L.length<=es.length->(∀ u∈L,u<es.length)->E.nx [some (.loc t),some (webS n es),some (.loc lh),some (.int (a:Nat)),some (.int (b:Nat)),o5,some (.loc l),o7,o8] S'):
 wSt Δ rzC E [some (.loc t),some (webS n es),some (.loc lh),some (.int (a:Nat)),some (.int (b:Nat)),o5,o6,o7,o8] S:=by
 have e6:=R.W.len;have cl:=R.cl;refine⟨_,rfl,_,c5 I.hh,?_⟩;refine i5 (j6 hΔ _).2 (c4 hΔ _).1 (λi ys S'=>S'=S/\∃ L:List Nat,ys=natS L/\L.length<=i/\∀ u∈L,u<es.length) ⟨rfl,[],rfl,W0 _,λ_ h=>nomatch h⟩ (λ_ _ _ z=>by rw[z.1];exact rfl) ?_ ?_
 ·rintro i x ys S' hx ⟨rfl,L,rfl,ll,lm⟩;obtain⟨y,hy,rfl⟩:=BX hx;have hy':(cs.map Cn)[i]?=some y:=hy;rw[Vx]at hy';obtain⟨c,hc,rfl⟩:=WZ.mp hy';have il:=(gM hc).1;refine⟨_,rfl,_,rfl,_,rfl,by show 2<=100000;decide,by cases c<;>rfl,_,rfl,rfl,_,rfl,?_⟩;refine ifB (λz=>?_) (λz=>⟨rfl,L,rfl,by omega,lm⟩);exact⟨_,rfl,by rw[i3];show _<100000;omega,rfl,L++[i],by rw[r6];rfl,by rw[Vs];simp;omega,λu hu'=>(WD.mp hu').elim (lm u) λh=>by rw[W1.mp h];omega⟩
 ·rintro ys S' ⟨rfl,L,rfl,ll,lm⟩;rw[Af,w9]at ll;exact q _ L _ (Gw.refl S').push c7 (W0 _) (by omega) lm
theorem JI(L:List Nat)(lo hi:Option Int):∃ L',Ey (natS L) lo hi=natS L'/\L'.length<=L.length/\∀ u∈L',u∈L:=by
 refine⟨(L.drop (HT.sIx (natS L).length 0 lo)).take (HT.sIx (natS L).length (natS L).length hi - HT.sIx (natS L).length 0 lo),?_,?_,λu h=>Ya (YZ h)⟩
 ·unfold Ey;generalize HT.sIx (natS L).length 0 lo=i;generalize HT.sIx (natS L).length (natS L).length hi - i=j;unfold natS;rw[ZN,ZO]
 ·rw[Wn,Xd];omega
theorem Ed(hΔ:∀ f,MonoN (Δ f)){kd:Nat}(hd:t9 (Δ kd)){m:Int}(m0:0<m)(m9:m<1000){xs:List SV}{X:List Nat}(ex:xs=natS X)(xl:X.length<=60){keep:Sto->Prop}{Q:List SV->Sto->Prop}(T:TapeS S t)(hk:∀ S',On t S S'->keep S')
 (q:∀(L:List Nat) S',TapeS S' t->On t S S'->L.length<=X.length->(∀ u∈L,u∈X)->Q (natS L) S'):HN keep (.nm 0) (wEo Δ (.yes (.cmp .Eq (.call kd (.cons (.var 1) (.cons (.c (.int m)) .nil))) (.c (.int 0))))).2 (wEx Δ (.var 0)).1 [none,some (.loc t)] Q xs [] S:=by
 subst ex;refine i5 (j6 hΔ _).2 (c4 hΔ _).1 (λi ys S'=>(TapeS S' t/\On t S S')/\∃ L:List Nat,ys=natS L/\L.length<=i/\∀ u∈L,u∈X) ⟨⟨T,On.refl _ _⟩,[],rfl,W0 _,λ_ h=>nomatch h⟩ (λ_ _ _ z=>hk _ z.1.2) ?_ ?_
 ·rintro i x ys S' hx ⟨⟨T1,O1⟩,L,rfl,ll,lm⟩;obtain⟨u,hu1,rfl⟩:=AQ hx;have um:=Vv hu1;have il:=(gM hu1).1;refine⟨_,rfl,hd T1 m0 (by omega) λr S2 r0 r1 T2 O2 _=>⟨_,rfl,?_⟩⟩;refine ifD (λz=>?_) (λz=>⟨⟨T2,O1.trans O2⟩,L,rfl,by omega,lm⟩);exact⟨_,rfl,by rw[i3];show _<100000;omega,⟨T2,O1.trans O2⟩,L++[u],by rw[r6];rfl,by rw[Vs];simp;omega,λv hv=>(WD.mp hv).elim (lm v) λh=>by rw[W1.mp h];exact um⟩
 ·rintro ys S' ⟨⟨T1,O1⟩,L,rfl,ll,lm⟩;rw[i3]at ll;exact q L S' T1 O1 ll lm
theorem Nx(m:Nat):u8 0 (m:Nat)=natS (Vw m):=by
 unfold u8 natS;rw[show(((m:Nat):Int) - 0).toNat=m by omega];refine Xb λi _=>?_;show SV.int (0+(i:Int)) = .int (i:Int);rw[Xg]
theorem Tf(hΔ:∀ f,MonoN (Δ f)){kd:Nat}(hd:t9 (Δ kd)){E:EndsS}(R:RI nm lp t lh n a b es cs)(I:RS nm lp t lh cs S){l6:Nat}{L6:List Nat}(h6:S[l6]?=some (.lst (natS L6)))(n6:l6≠t)(ll:L6.length<=es.length)(lm:∀ u∈L6,u<es.length){o5 o7 o8:Option SV}
 (q:∀(l:Nat) (L:List Nat) S',TapeS S' t->On t S S'->S'[l]?=some (.lst (natS L))->l≠t->L.length<=es.length->(∀ u∈L,u<es.length)->E.nx [some (.loc t),some (webS n es),some (.loc lh),some (.int (a:Nat)),some (.int (b:Nat)),o5,some (.loc l6),some (.loc l),o8] S'):
 wSt Δ (rzD kd) E [some (.loc t),some (webS n es),some (.loc lh),some (.int (a:Nat)),some (.int (b:Nat)),o5,some (.loc l6),o7,o8] S:=by
 have e6:=R.W.len;refine⟨_,rfl,_,c5 h6,?_⟩;refine Ed hΔ hd (m:=2) (by decide) (by decide) rfl (by omega) I.T (λS' O=>by show S'[l6]?=S[l6]?;rw[h6,O.keep _ _ n6 h6]) λL S' T O l1 l2=>?_;have:=T.lt;exact q S'.length L _ T.push O.push c7 (by omega) (by omega) λu hu'=>lm u (l2 u hu')
theorem Th(hΔ:∀ f,MonoN (Δ f)){ka ke kd:Nat}(ha:AskSp nm lp (Δ ka))(he:Cz (Δ ke))(hd:t9 (Δ kd)){E:EndsS}(R:RI nm lp t lh n a b es cs)(I:RS nm lp t lh cs S){l6 l7:Nat}{L6 L7:List Nat}(h6:S[l6]?=some (.lst (natS L6)))(n6:l6≠t)(ll6:L6.length<=es.length)(lm6:∀ u∈L6,u<es.length)(h7:S[l7]?=some (.lst (natS L7)))(n7:l7≠t)(ll7:L7.length<=es.length)(lm7:∀ u∈L7,u<es.length){o5 o8:Option SV}
 (q:∀(o8:Option SV) S',TapeS S' t->On t S S'->E.nx [some (.loc t),some (webS n es),some (.loc lh),some (.int (a:Nat)),some (.int (b:Nat)),o5,some (.loc l6),some (.loc l7),o8] S'):
 wSt Δ (rzE ka ke kd) E [some (.loc t),some (webS n es),some (.loc lh),some (.int (a:Nat)),some (.int (b:Nat)),o5,some (.loc l6),some (.loc l7),o8] S:=by
 have e6:=R.W.len;have cl:=R.cl;have T0:=I.T.lt;obtain⟨A,eA,lA,mA⟩:=JI L6 none (some 1);obtain⟨B,eB,lB,mB⟩:=JI L6 (some 1) (some 2);refine⟨_,rfl,_,rfl,_,rfl,_,h6,?_⟩;rw[eA];have hA:(S++[SO.lst (natS A)])[S.length]?=some (SO.lst (natS A)):=c7;have O1:On t S (S++[SO.lst (natS A)]):=(On.refl t S).push;have T1:=I.T.push (o:=SO.lst (natS A));have h61:=f9 (o:=SO.lst (natS A)) h6;have lS:(S++[SO.lst (natS A)]).length=S.length+1:=by simp
 refine⟨_,rfl,_,rfl,_,rfl,_,h61,?_⟩;rw[eB];have hB:((S++[SO.lst (natS A)])++[SO.lst (natS B)])[(S++[SO.lst (natS A)]).length]?=some (SO.lst (natS B)):=c7;have hA:=f9 (o:=SO.lst (natS B)) hA;have O2:=O1.push (o:=SO.lst (natS B));have T2:=T1.push (o:=SO.lst (natS B));have nA:S.length≠t:=by omega
 have nB:(S++[SO.lst (natS A)]).length≠t:=by omega
 generalize S.length=lA' at *;generalize (S++[SO.lst (natS A)]).length=lB' at *;generalize (S++[SO.lst (natS A)])++[SO.lst (natS B)]=S2 at *;have I2:=I.on R T2 O2;refine⟨_,rfl,_,c5 I2.hh,_,rfl,⟨by omega,by rw[w9];omega⟩,?_⟩;refine Ed hΔ hd (m:=4) (by decide) (by decide) (X:=Vw es.length) (by rw[w9,cl];exact Nx _) (by rw[WY];omega) I2.T (λ_ _=>trivial) λC S3 T3 O3 lC mC=>?_;have T3':=T3.lt;rw[WY]at lC;have hC:(S3++[SO.lst (natS C)])[S3.length]?=some (SO.lst (natS C)):=c7;refine⟨by show 0<=100000;omega,?_⟩;have hD:((S3++[SO.lst (natS C)])++[SO.lst []])[(S3++[SO.lst (natS C)]).length]?=some (SO.lst (natS [])):=c7;have hC:=f9 (o:=SO.lst []) hC;have O4:=((O2.trans O3).push (o:=SO.lst (natS C))).push (o:=SO.lst []);have O4':=(O3.push (o:=SO.lst (natS C))).push (o:=SO.lst []);have T4:=(T3.push (o:=SO.lst (natS C))).push (o:=SO.lst []);have hA4:=O4'.keep _ _ nA hA;have hB4:=O4'.keep _ _ nB hB;have h74:=O4.keep _ _ n7 h7;generalize S3.length=lC' at *;generalize (S3++[SO.lst (natS C)]).length=lD' at *;generalize (S3++[SO.lst (natS C)])++[SO.lst []]=S4 at *;refine⟨by show 5<=100000;omega,_,rfl,?_⟩;show v8 (keepS (.tup [.loc l7,.loc lA',.loc lB',.loc lC',.loc lD']) S4) _ _ _ [.loc l7,.loc lA',.loc lB',.loc lC',.loc lD'] _ S4
 have good:∀ x∈[SV.loc l7,.loc lA',.loc lB',.loc lC',.loc lD'],∃ l r,x = .loc l/\S4[l]?=some (.lst (natS r))/\r.length<=1000/\∀ u∈r,u<es.length:=λx hx=>by
  rcases W4.mp hx with h | hx
  ·exact⟨_,L7,h,h74,by omega,lm7⟩
  rcases W4.mp hx with h | hx
  ·exact⟨_,A,h,hA4,by omega,λu hu'=>lm6 u (mA u hu')⟩
  rcases W4.mp hx with h | hx
  ·exact⟨_,B,h,hB4,by omega,λu hu'=>lm6 u (mB u hu')⟩
  rcases W4.mp hx with h | hx
  ·exact⟨_,C,h,hC,by omega,λu hu'=>WJ.mp (mC u hu')⟩
  rcases W4.mp hx with h | hx
  ·exact⟨_,[],h,hD,by simp,λu hu'=>nomatch hu'⟩
  cases hx
 have I4:=I.on R T4 O4;refine AI (l9 hΔ _) (λi ρ S'=>(∃ o8,ρ=[some (.loc t),some (webS n es),some (.loc lh),some (.int (a:Nat)),some (.int (b:Nat)),o5,some (.loc l6),some (.loc l7),o8])/\Gw S4 S') ⟨⟨_,rfl⟩,Gw.refl _⟩ (λ_ _ _ _=>trivial) ?_ ?_
 ·rintro i x ρ S' E' hE _ hx ⟨⟨o8,rfl⟩,G⟩;obtain⟨l,r,rfl,hl,rl,rm⟩:=good x (Vv hx);have I1:=I4.gw G;have hcl:(cdL cs).length=es.length:=by rw[FI,cl]
  refine⟨_,rfl,_,rfl,_,rfl,_,rfl,_,rfl,ha.exc (I1.hv R) R.a9 R.b9 (G.keep _ _ hl) hcl R.W.en (by omega) rm rl λe S2 G2 e2=>?_⟩;refine⟨_,rfl,_,rfl,_,rfl,_,rfl,_,rfl,he ((I1.gw G2).hv R) R.a9 R.b9 (G2.keep _ _ (G.keep _ _ hl)) hcl R.W.en (by omega) rm rl λe' S3 G3 e3=>?_⟩;have ee:e=e':=by rw[Wa,e2,e3]
  subst ee;exact⟨_,rfl,ifF (by simp) (i0 (Δ:=Δ) (i0 (Δ:=Δ) (hE _ _ ⟨⟨_,rfl⟩,(G.trans G2).trans G3⟩)))⟩
 ·rintro ρ S' ⟨⟨o8,rfl⟩,G⟩;exact q _ _ (G.tape T4) (O4.trans G.on)
noncomputable def JJ(nm:Str)(lp:Pos)(s:Sn):Prop:=∀{t lh n a b:Nat} {es:EE} {cs:List (Option Nat)} {S:Sto} {Q:QE},RI nm lp t lh n a b es cs->RS nm lp t lh cs S->(∀ S',TapeS S' t->On t S S'->Q (.bl true) S')->s [.loc t,webS n es,.loc lh,.int (a:Nat),.int (b:Nat)] S Q
theorem Ny(hΔ:∀ f,MonoN (Δ f)){ka kf ke kd:Nat}(ha:AskSp nm lp (Δ ka))(hf:FK (Δ kf))(he:Cz (Δ ke))(hd:t9 (Δ kd)){D:Df}(hb:D.body=Nw ka kf ke kd)(hN:D.N.length=9)(hp:D.ps.length=5):JJ nm lp (i4 Δ D):=by
 intro t lh n a b es cs S Q R I q;unfold i4;rw[hb,hN];refine⟨hp.symm,?_⟩;have T0:=I.T.lt;refine Tc hΔ ha hf R I λo5 S1 G1=>Td ha R (I.gw G1) λS2 G2=>?_;have G12:=G1.trans G2;have I2:=I.gw G12;refine Te hΔ R I2 λl6 L6 S3 G3 h6 s6 ll6 lm6=>?_;have I3:=I2.gw G3;have n6:l6≠t:=by have:=G12.len;omega
 refine Tf hΔ hd R I3 h6 n6 ll6 lm6 λl7 L7 S4 T4 O4 h7 n7 ll7 lm7=>?_;have I4:=I3.on R T4 O4;refine Th hΔ ha he hd R I4 (O4.keep _ _ n6 h6) n6 ll6 lm6 h7 n7 ll7 lm7 λo8 S5 T5 O5=>?_;exact q S5 T5 (((G12.trans G3).on.trans O4).trans O5)
end
end Rf
namespace Hue
open PySem L2 Rf
noncomputable def top(i:Nat):Stmt:=PySem.Challenge.pw_huedties_k16_no_such_rows.main.body.getD i (.Pass ⟨0,0,0,0⟩)
noncomputable def Ch:XCls:=⟨24,[],[]⟩
noncomputable def AZ:XCls:=⟨37,[24],[("NoPlace",37,true),("NoTie",49,false),("NoRow",61,false),("NoFan",73,false),("TooFew",85,false),("NoStep",104,false),("NotTwoSides",123,false),("ShortList",142,false),("BadRow",161,false)]⟩
noncomputable def Gi:XCls:=⟨49,[24],[("NoPlace",37,false),("NoTie",49,true),("NoRow",61,false),("NoFan",73,false),("TooFew",85,false),("NoStep",104,false),("NotTwoSides",123,false),("ShortList",142,false),("BadRow",161,false)]⟩
noncomputable def AC:XCls:=⟨61,[24],[("NoPlace",37,false),("NoTie",49,false),("NoRow",61,true),("NoFan",73,false),("TooFew",85,false),("NoStep",104,false),("NotTwoSides",123,false),("ShortList",142,false),("BadRow",161,false)]⟩
noncomputable def cts:List (Str×XCls):=[("HueError",Ch),("NoPlace",AZ),("NoTie",Gi),("NoRow",AC)]
noncomputable def b0:List Stm:=Hm
noncomputable def d0:Df:=⟨"is_number",top 12,["thing"],["thing"],b0⟩
noncomputable def b1:List Stm:=VA
noncomputable def d1:Df:=⟨"is_listed",top 13,["thing"],["thing"],b1⟩
noncomputable def b2:List Stm:=Cc 0
noncomputable def d2:Df:=⟨"has_place",top 15,["web","place"],["web","place"],b2⟩
noncomputable def b3:List Stm:=J4 0
noncomputable def d3:Df:=⟨"has_tie",top 16,["web","tie"],["web","tie"],b3⟩
noncomputable def b4:List Stm:=Nl 2 "NoPlace" "the web has no such place" AZ
noncomputable def d4:Df:=⟨"check_place",top 17,["web","place"],["web","place"],b4⟩
noncomputable def b5:List Stm:=NB 3
noncomputable def d5:Df:=⟨"check_tie",top 18,["web","tie"],["web","tie"],b5⟩
noncomputable def b6:List Stm:=J5 4
noncomputable def d6:Df:=⟨"ties_at",top 19,["web","place"],["web","place"],b6⟩
noncomputable def b7:List Stm:=NJ 6
noncomputable def d7:Df:=⟨"count_at",top 20,["web","place"],["web","place"],b7⟩
noncomputable def b8:List Stm:=J6 5
noncomputable def d8:Df:=⟨"far_end",top 21,["web","tie","place"],["web","tie","place","one","other"],b8⟩
noncomputable def b9:List Stm:=NE
noncomputable def d9:Df:=⟨"parts",top 22,["web"],["web","least","one","other","low","high"],b9⟩
noncomputable def b10:List Stm:=Qi 5
noncomputable def d10:Df:=⟨"only",top 23,["web","ties"],["web","ties","tie"],b10⟩
noncomputable def b11:List Stm:=NX
noncomputable def d11:Df:=⟨"within",top 24,["web","places"],["web","places","among"],b11⟩
noncomputable def b12:List Stm:=Qk 0
noncomputable def d12:Df:=⟨"is_hue",top 26,["thing"],["thing"],b12⟩
noncomputable def b13:List Stm:=J9 1 12 14
noncomputable def d13:Df:=⟨"is_hueing",top 27,["web","thing"],["web","thing"],b13⟩
noncomputable def b14:List Stm:=NM
noncomputable def d14:Df:=⟨"clash_of",top 28,["web","row"],["web","row","first","clashes","tie","ends","hue","place","earlier"],b14⟩
noncomputable def b15:List Stm:=Ql 6
noncomputable def d15:Df:=⟨"tie_of_hue",top 30,["web","hueing","place","hue"],["web","hueing","place","hue","tie"],b15⟩
noncomputable def b16:List Stm:=Qp "NoRow" "both hues are alike" AC
noncomputable def d16:Df:=⟨"check_unlike",top 31,["one","other"],["one","other"],b16⟩
noncomputable def b17:List Stm:=Qq 4 16 15 8 "NoRow" "the row would not begin at this place" AC
noncomputable def d17:Df:=⟨"row_from",top 32,["web","hueing","place","one","other"],["web","hueing","place","one","other","row","tie"],b17⟩
noncomputable def b18:List Stm:=Qn 7
noncomputable def d18:Df:=⟨"word_of",top 33,["web","places"],["web","places"],b18⟩
noncomputable def b19:List Stm:=Nn "rows_of" ⟨130,29,130,52⟩ 16 10 9 11 18
noncomputable def d19:Df:=⟨"rows_of",top 34,["web","hueing","one","other"],["web","hueing","one","other","ties","both","found","places","row"],b19⟩
noncomputable def b20:List Stm:=Qr 16 3 13 "NoRow" "a tie has neither hue" "what comes is no hueing" AC
noncomputable def d20:Df:=⟨"exchanged",top 35,["web","hueing","ties","one","other"],["web","hueing","ties","one","other","changed","tie"],b20⟩
noncomputable def b21:List Stm:=Qd
noncomputable def d21:Df:=⟨"_law_tape",top 37,["_law_script","_law_k"],["_law_script","_law_k","_law_cell","_law_digits"],b21⟩
noncomputable def b22:List Stm:=Qf
noncomputable def d22:Df:=⟨"_law_draw",top 38,["_law_tape_here","_law_many"],["_law_tape_here","_law_many","_law_found","_law_once"],b22⟩
noncomputable def b23:List Stm:=NA 22
noncomputable def d23:Df:=⟨"_law_pairs_by",top 39,["_law_tape_here","_law_great"],["_law_tape_here","_law_great","_law_way","_law_many","_law_found","_law_turn","_law_one","_law_k","_law_sides"],b23⟩
noncomputable def b24:List Stm:=V8 22 23
noncomputable def d24:Df:=⟨"_law_web",top 40,["_law_tape_here","_law_great"],["_law_tape_here","_law_great","_law_many","_law_pairs","_law_ties","_law_one","_law_other"],b24⟩
noncomputable def b25:List Stm:=Qj
noncomputable def d25:Df:=⟨"_law_meet",top 41,["_law_web_here","_law_one","_law_other"],["_law_web_here","_law_one","_law_other"],b25⟩
noncomputable def b26:List Stm:=Qm 22 25
noncomputable def d26:Df:=⟨"_law_hueing",top 42,["_law_tape_here","_law_web_here","_law_bare"],["_law_tape_here","_law_web_here","_law_bare","_law_some","_law_found","_law_tie","_law_taken","_law_free","_law_hue"],b26⟩
noncomputable def b27:List Stm:=Gb 25
noncomputable def d27:Df:=⟨"_law_is_hueing",top 43,["_law_web_here","_law_row"],["_law_web_here","_law_row","_law_tie","_law_hue","_law_k"],b27⟩
noncomputable def b28:List Stm:=JH
noncomputable def d28:Df:=⟨"_law_hues",top 44,["_law_web_here","_law_hueing_here","_law_place"],["_law_web_here","_law_hueing_here","_law_place"],b28⟩
noncomputable def b29:List Stm:=Nr
noncomputable def d29:Df:=⟨"_law_class",top 45,["_law_caught"],["_law_caught","_law_fits","_law_names"],b29⟩
noncomputable def b30:List Stm:=Nh 24 22 26
noncomputable def d30:Df:=⟨"_law_case",top 46,["_law_tape_here","_law_bare"],["_law_tape_here","_law_bare","_law_web_here"],b30⟩
noncomputable def b31:List Stm:=Qo 22
noncomputable def d31:Df:=⟨"_law_two",top 47,["_law_tape_here","_law_hueing_here"],["_law_tape_here","_law_hueing_here","_law_some","_law_at"],b31⟩
noncomputable def b32:List Stm:=VH 17 19 20 29 "HueError" 24
noncomputable def d32:Df:=⟨"_law_asked",top 48,["_law_how","_law_web_here","_law_hueing_here","_law_thing","_law_one","_law_other"],["_law_how","_law_web_here","_law_hueing_here","_law_thing","_law_one","_law_other","_law_caught","error"],b32⟩
noncomputable def b33:List Stm:=Qt 28
noncomputable def d33:Df:=⟨"_law_from_due",top 49,["_law_web_here","_law_hueing_here","_law_place","_law_one","_law_other"],["_law_web_here","_law_hueing_here","_law_place","_law_one","_law_other"],b33⟩
noncomputable def b34:List Stm:=Nu 27
noncomputable def d34:Df:=⟨"_law_exchanged_due",top 50,["_law_web_here","_law_hueing_here","_law_ties","_law_one","_law_other"],["_law_web_here","_law_hueing_here","_law_ties","_law_one","_law_other","_law_made"],b34⟩
noncomputable def b35:List Stm:=Nw 32 33 34 22
noncomputable def d35:Df:=⟨"_law_right",top 51,["_law_tape_here","_law_web_here","_law_hueing_here","_law_one","_law_other"],["_law_tape_here","_law_web_here","_law_hueing_here","_law_one","_law_other","_law_place","_law_both","_law_some","_law_ties"],b35⟩
noncomputable def b36:List Stm:=[(.loop (.nm 1) (.rng1 (.op .Add (.c (.int 1)) (.bi .min (.cons (.c (.int 7)) (.cons (.bi .len (.cons (.var 0) .nil)) .nil))))) [(.asg (.nm 2) (.call 21 (.cons (.var 0) (.cons (.var 1) .nil)))),(.asg (.tup (.cons (.nm 3) (.cons (.nm 4) .nil))) (.call 30 (.cons (.var 2) (.cons (.c (.bl true)) .nil)))),(.asg (.nm 5) (.bi .list (.cons (.var 4) .nil))),(.loop (.nm 6) (.rng1 (.c (.int 4))) [(.asg (.tup (.cons (.nm 7) (.cons (.nm 8) .nil))) (.call 31 (.cons (.var 2) (.cons (.var 4) .nil)))),(.iff (.not (.call 35 (.cons (.var 2) (.cons (.var 3) (.cons (.var 4) (.cons (.var 7) (.cons (.ix (.lst (.cons (.var 8) (.cons (.var 7) .nil))) (.bi .int (.cons (.cmp .Eq (.var 6) (.c (.int 3))) .nil))) .nil))))))) [(.ret (.c (.bl false)))] [])]),(.iff (.cmp .NotEq (.var 4) (.var 5)) [(.ret (.c (.bl false)))] [])]),(.ret (.c (.bl true)))]
noncomputable def d36:Df:=⟨"law",top 52,["_law_script"],["_law_script","_law_k","_law_tape_here","_law_web_here","_law_hueing_here","_law_kept","_law_turn","_law_one","_law_other"],b36⟩
noncomputable def prog:List Df:=[d0,d1,d2,d3,d4,d5,d6,d7,d8,d9,d10,d11,d12,d13,d14,d15,d16,d17,d18,d19,d20,d21,d22,d23,d24,d25,d26,d27,d28,d29,d30,d31,d32,d33,d34,d35,d36]
theorem Dn:prog.all (EU cts (prog.map (·.name)))=true:=by decide +kernel
theorem hW(d:Nat):∀ f,MonoN (W prog d f):=Cb d
theorem hl:prog.length<1000000:=by decide
theorem s0(d:Nat):CD (W prog (d+1) 0):=NC (Δ:=W prog d) (D:=d0) rfl rfl rfl
theorem g0(d:Nat):T9 (W prog (d+1) 0):=Pu (Δ:=W prog d) (D:=d0) rfl rfl rfl
theorem s1(d:Nat):TB (W prog (d+1) 1):=Pw (Δ:=W prog d) (D:=d1) rfl rfl rfl
theorem s2(d:Nat):C1 (W prog (d+2) 2):=GV (Δ:=W prog (d+1)) (D:=d2) (s0 d) rfl rfl rfl
theorem z2(d:Nat):IA (W prog (d+2) 2):=Ko (Δ:=W prog (d+1)) (D:=d2) (s0 d) rfl rfl rfl
theorem s3(d:Nat):BW (W prog (d+2) 3):=Kc (Δ:=W prog (d+1)) (D:=d3) (s0 d) rfl rfl rfl
theorem s4(d:Nat):BC (W prog (d+3) 4):=Gg (Δ:=W prog (d+2)) (D:=d4) (s2 d) rfl rfl rfl
theorem x4(d:Nat):IB AZ (W prog (d+3) (tz+4)):=λh1 h2=>CN hl (D:=d4) rfl (TV (Δ:=W prog (d+2)) (D:=d4) (z2 d) (by decide) rfl rfl rfl h1 h2)
theorem s5(d:Nat):BD (W prog (d+3) 5):=GW (Δ:=W prog (d+2)) (D:=d5) (s3 d) rfl rfl rfl
theorem s6(d:Nat):CF (W prog (d+4) 6):=Ke (Δ:=W prog (d+3)) (D:=d6) (hW _) (s4 d) rfl rfl rfl
theorem s7(d:Nat):FE (W prog (d+5) 7):=NK (Δ:=W prog (d+4)) (D:=d7) (s6 d) rfl rfl rfl
theorem s8(d:Nat):CG (W prog (d+4) 8):=Kf (Δ:=W prog (d+3)) (D:=d8) (s5 d) rfl rfl rfl
theorem s9(d:Nat):CK (W prog (d+1) 9):=Kh (Δ:=W prog d) (D:=d9) (hW _) rfl rfl rfl
theorem s10(d:Nat):FC (W prog (d+4) 10):=Ps (Δ:=W prog (d+3)) (D:=d10) (hW _) (s5 d) rfl rfl rfl
theorem s11(d:Nat):CM (W prog (d+1) 11):=NZ (Δ:=W prog d) (D:=d11) (hW _) rfl rfl rfl
theorem s12(d:Nat):TC (W prog (d+2) 12):=Px (Δ:=W prog (d+1)) (D:=d12) (g0 d) rfl rfl rfl
theorem s14(d:Nat):Hu (W prog (d+1) 14):=Kj (Δ:=W prog d) (D:=d14) (hW _) rfl rfl rfl
theorem s13(d:Nat):BE (W prog (d+3) 13):=Hw (Δ:=W prog (d+2)) (D:=d13) (hW _) (s1 (d+1)) (s12 d) (s14 (d+1)) rfl rfl rfl
theorem s15(d:Nat):Cw (W prog (d+5) 15):=NS (Δ:=W prog (d+4)) (D:=d15) (hW _) (s6 d) rfl rfl rfl
theorem x16(d:Nat):Nm AC (W prog (d+1) (tz+16)):=λh1 h2=>CN hl (D:=d16) rfl (Vj (Δ:=W prog d) (D:=d16) rfl rfl rfl h1 h2)
theorem x17(d:Nat):TW AZ AC (W prog (d+6) (tz+17)):=λh1 h2 h3 h4 h5 h6 h7 h8 h9=>CN hl (D:=d17) rfl (Vk (Δ:=W prog (d+5)) (D:=d17) (hW _) (x4 (d+2)) (x16 (d+4)) (s15 d) (s8 (d+1)) (by decide) (by decide) rfl rfl rfl h1 h2 h3 h4 h5 h6 h7 h8 h9)
theorem s18(d:Nat):Dl (W prog (d+6) 18):=Q0 (Δ:=W prog (d+5)) (D:=d18) (hW _) (s7 d) rfl rfl rfl
theorem x19(d:Nat):No AC "rows_of" ⟨130,29,130,52⟩ (W prog (d+7) (tz+19)):=λh1 h2 h3 h4 h5 h6 h7 h8=>CN hl (D:=d19) rfl (VG (Δ:=W prog (d+6)) (D:=d19) (hW _) (x16 (d+5)) (s10 (d+2)) (s9 (d+5)) (s11 (d+5)) (s18 d) (by decide) (by decide) (by decide) (by decide) rfl rfl rfl h1 h2 h3 h4 h5 h6 h7 h8)
theorem x20(d:Nat):TX AC (W prog (d+4) (tz+20)):=λh1 h2 h3 h4 h5 h6 h7 h8 h9 h10 h11=>CN hl (D:=d20) rfl (Vl (Δ:=W prog (d+3)) (D:=d20) (hW _) (x16 (d+2)) (s3 (d+1)) (s13 d) (by decide) (by decide) rfl rfl rfl h1 h2 h3 h4 h5 h6 h7 h8 h9 h10 h11)
theorem s21(d:Nat):N9 (W prog (d+1) 21):=Pl (Δ:=W prog d) (D:=d21) rfl rfl rfl
theorem s22(d:Nat):t9 (W prog (d+1) 22):=Pk (Δ:=W prog d) (D:=d22) rfl rfl rfl
theorem s23(d:Nat):De (!·) (W prog (d+2) 23):=Kb (Δ:=W prog (d+1)) (D:=d23) (hW _) (s22 d) rfl rfl rfl
theorem s24(d:Nat):WebKSp (!·) (W prog (d+3) 24):=Pn (Δ:=W prog (d+2)) (D:=d24) (hW _) (s22 (d+1)) (s23 d) rfl rfl rfl
theorem s25(d:Nat):EY (W prog (d+1) 25):=NL (Δ:=W prog d) (D:=d25) rfl rfl rfl
theorem s26(d:Nat):FH (W prog (d+2) 26):=Ng (Δ:=W prog (d+1)) (D:=d26) (hW _) (s22 d) (s25 d) rfl rfl rfl
theorem s27(d:Nat):BE (W prog (d+2) 27):=Hy (Δ:=W prog (d+1)) (D:=d27) (hW _) (s25 d) rfl rfl rfl
theorem s28(d:Nat):Dm (W prog (d+1) 28):=Kp (Δ:=W prog d) (D:=d28) (hW _) rfl rfl rfl
theorem s29(d:Nat):FJ (W prog (d+1) 29):=Nt (Δ:=W prog d) (D:=d29) rfl rfl rfl
theorem s30(d:Nat):JF (W prog (d+4) 30):=Ni (Δ:=W prog (d+3)) (D:=d30) (hW _) (WebKSp.sp (c:=(!·)) (s24 d)) (s22 (d+2)) (s26 (d+1)) rfl rfl rfl
theorem s31(d:Nat):Nj (W prog (d+2) 31):=Q3 (Δ:=W prog (d+1)) (D:=d31) (hW _) (s22 d) rfl rfl rfl
theorem s32(d:Nat):AskSp "rows_of" ⟨130,29,130,52⟩ (W prog (d+8) 32):=Tb (Δ:=W prog (d+7)) (D:=d32) (x17 (d+1)) (x19 d) (x20 (d+3)) (s29 (d+6)) (by decide) (by decide) ⟨_,_,_,_,_,_,_,_,_,rfl⟩ ⟨_,_,_,_,_,_,_,_,_,rfl⟩ rfl rfl rfl
theorem s33(d:Nat):FK (W prog (d+2) 33):=Q4 (Δ:=W prog (d+1)) (D:=d33) (s28 d) rfl rfl rfl
theorem s34(d:Nat):Cz (W prog (d+3) 34):=Nv (Δ:=W prog (d+2)) (D:=d34) (hW _) (s27 d) rfl rfl rfl
theorem s35(d:Nat):JJ "rows_of" ⟨130,29,130,52⟩ (W prog (d+9) 35):=Ny (Δ:=W prog (d+8)) (D:=d35) (hW _) (s32 d) (s33 (d+6)) (s34 (d+5)) (s22 (d+7)) rfl rfl rfl
theorem Q6:∀ c:Option Nat,eqF (Cn c) (Cn c)=true
 | none=>rfl
 | some j=>decide_eq_true (rfl:(j:Int)=(j:Int))
theorem Kq(cs:List (Option Nat)):Dy (optsS cs) (optsS cs)=true:=by
 unfold Dy optsS;simp only[beq_self_eq_true,Yf];rw[W9];intro p hp;rw[ZP]at hp;obtain⟨c,_,rfl⟩:=WU.mp hp;exact Q6 c
noncomputable abbrev RSk:=RS "rows_of" ⟨130,29,130,52⟩
theorem law_main(ns:List Int)(h:ns.length<=63):W prog 10 36 [.ro (ns.map SV.int)] [.tbl "rows_of" ⟨130,29,130,52⟩] λx _=>x = .bl true:=by
 show i4 (W prog 9) d36 _ _ _
 have hj:∃ m:Nat,1+(if ((ns.map SV.int).length:Int)<(7:Int) then ((ns.map SV.int).length:Int) else 7)=(m:Int)/\m<=8:=by
  rw[Vp];generalize ns.length=k;refine⟨1+min k 7,?_,by omega⟩;split<;>omega
 obtain⟨m,hm,hm4⟩:=hj;refine⟨rfl,_,rfl,_,rfl,m,congrArg SV.int hm,⟨by omega,by omega⟩,?_⟩;refine AI (l9 (hW _) _) (λi ρ S'=>(∃ o1 o2 o3 o4 o5 o6 o7 o8,ρ=[some (.ro (ns.map SV.int)),o1,o2,o3,o4,o5,o6,o7,o8])/\S'[0]?=some (.tbl "rows_of" ⟨130,29,130,52⟩)) ⟨⟨_,_,_,_,_,_,_,_,rfl⟩,rfl⟩ (λ_ _ _ _=>trivial) ?_ ?_
 ·rintro i x ρ S E hE _ hx ⟨⟨o1,o2,o3,o4,o5,o6,o7,o8,rfl⟩,tb⟩;obtain⟨rfl,hi⟩:=n8 hx;rw[Xg]at hi ⊢;refine⟨_,rfl,_,rfl,s21 8 h (by omega) λa b ha hb hb2=>?_⟩;have T1:TapeS (S++[SO.lst [.int a,.int b]]) S.length:=⟨a,b,c7,ha,hb,hb2⟩
  have t0:=(gM tb).1;have tb:=f9 (o:=SO.lst [.int a,.int b]) tb;have l1:(S++[SO.lst [.int a,.int b]]).length=S.length+1:=by simp
  generalize S.length=t at *;generalize S++[SO.lst [.int a,.int b]]=S1 at *;refine⟨_,rfl,s30 5 T1 λn lh es cs S2 Wb T2 O2 l0 h2 cl lt pr=>?_⟩;show wSs (W prog 9) (_::_) E [some (.ro (ns.map SV.int)),some (.int (i:Nat)),some (.loc t),some (webS n es),some (.loc lh),o5,o6,o7,o8] S2;refine⟨_,rfl,_,c5 h2,?_⟩;show wSs (W prog 9) (_::_) E [some (.ro (ns.map SV.int)),some (.int (i:Nat)),some (.loc t),some (webS n es),some (.loc lh),some (.loc S2.length),o6,o7,o8] (S2++[.lst (optsS cs)]);have e6:=Wb.len;have I:RSk t lh cs (S2++[SO.lst (optsS cs)]):=⟨T2.push,f9 (O2.keep _ _ (by omega) tb),f9 h2⟩
  have hk:(S2++[SO.lst (optsS cs)])[S2.length]?=some (.lst (optsS cs)):=c7;have T2':=T2.lt;have P:=TZ cl lt pr;generalize S2.length=lk at *;generalize S2++[SO.lst (optsS cs)]=S3 at *;refine⟨_,rfl,⟨by decide,by decide⟩,?_⟩;refine AI (l9 (hW _) _) (λj ρ S'=>(∃ o6 o7 o8,ρ=[some (.ro (ns.map SV.int)),some (.int (i:Nat)),some (.loc t),some (webS n es),some (.loc lh),some (.loc lk),o6,o7,o8])/\RSk t lh cs S'/\S'[lk]?=some (.lst (optsS cs))) ⟨⟨_,_,_,rfl⟩,I,hk⟩ (λ_ _ _ _=>trivial) ?_ ?_
  ·rintro j y ρ S4 E' hE' _ hy ⟨⟨o6,o7,o8,rfl⟩,I4,hk4⟩;obtain⟨rfl,hj⟩:=n8 hy;rw[Xg]at hj ⊢;refine⟨_,rfl,_,rfl,s31 7 I4.T (by omega) I4.hh (by omega) lt λa b S5 a2 b2 T5 O5=>?_⟩;have hk5:=O5.keep _ _ (by omega) hk4;have I5:RSk t lh cs S5:=⟨T5,O5.keep _ _ (by omega) I4.tb,O5.keep _ _ (by omega) I4.hh⟩
   have h2:(S5++[SO.lst [SV.int (b:Nat),SV.int (a:Nat)]])[S5.length]?=some (SO.lst [SV.int (b:Nat),SV.int (a:Nat)]):=c7;have G:Gw S5 (S5++[SO.lst [SV.int (b:Nat),SV.int (a:Nat)]]):=(Gw.refl S5).push;have I6:=I5.gw G;have hk6:=G.keep _ _ hk5;have fin:∀(c:Nat) {Q:QE},c<200->(∀ S7,TapeS S7 t->On t (S5++[SO.lst [SV.int (b:Nat),SV.int (a:Nat)]]) S7->Q (.bl true) S7)->W prog 9 35 [.loc t,webS n es,.loc lh,.int (a:Nat),.int (c:Nat)] (S5++[SO.lst [SV.int (b:Nat),SV.int (a:Nat)]]) Q:=λc Q c2 q=>s35 0 ⟨Wb,by omega,by omega,cl,lt,P,by omega,by omega⟩ I6 q;refine⟨_,rfl,_,rfl,_,rfl,_,rfl,_,rfl,_,rfl,by show 2<=100000;decide,_,rfl,_,.int ((if (j:Int)=3 then a else b:Nat):Int),c5 h2,?_,?_⟩
   ·by_cases e:(j:Int)=3
    ·rw[iP e,decide_eq_true e];rfl
    ·rw[iG e,decide_eq_false e];rfl
   ·exact fin _ (by split<;>assumption) λS7 T7 O7=>⟨_,rfl,ifF rfl (i0 (Δ:=W prog 9) (i0 (Δ:=W prog 9) (hE' _ _ ⟨⟨_,_,_,rfl⟩,⟨T7,O7.keep _ _ (by omega) I6.tb,O7.keep _ _ (by omega) I6.hh⟩,O7.keep _ _ (by omega) hk6⟩)))⟩
  ·rintro ρ S4 ⟨⟨o6,o7,o8,rfl⟩,I4,hk4⟩;exact⟨_,rfl,_,rfl,_,_,I4.hh,hk4,.inl ⟨Ce _,Ce _⟩,_,rfl,ifF (by rw[Kq];rfl) (i0 (Δ:=W prog 9) (i0 (Δ:=W prog 9) (hE _ _ ⟨⟨_,_,_,_,_,_,_,_,rfl⟩,I4.tb⟩)))⟩
 ·rintro ρ S ⟨⟨o1,o2,o3,o4,o5,o6,o7,o8,rfl⟩,_⟩;exact rfl
end Hue
namespace PySem.W.Fast
theorem tw11244126559678729281:True:=⟨⟩
theorem tw10930422503967791240:True:=⟨⟩
theorem tw1923303884661718726:True:=⟨⟩
theorem tw1918462975131399117:True:=⟨⟩
theorem tw8315085879102177197:True:=⟨⟩
theorem tw13286766821071243336:True:=⟨⟩
theorem tw12041036060402023914:True:=⟨⟩
theorem tw4506790352082078196:True:=⟨⟩
theorem tw16769036835917453754:True:=⟨⟩
theorem tw474435889043788197:True:=⟨⟩
theorem tw7747301819258530845:True:=⟨⟩
theorem tw12401931634288503316:True:=⟨⟩
theorem tw8363532754845389628:True:=⟨⟩
theorem tw10131457087864195521:True:=⟨⟩
theorem tw6241166188125274388:True:=⟨⟩
theorem tw11313537451991980616:True:=⟨⟩
theorem tw17604920892530097782:True:=⟨⟩
theorem tw17350328658852903524:True:=⟨⟩
theorem tw98723600030273283:True:=⟨⟩
theorem tw6549078699796226553:True:=⟨⟩
theorem tw9413059434841544680:True:=⟨⟩
theorem tw17148259487838646438:True:=⟨⟩
theorem tw9709898568729483645:True:=⟨⟩
theorem tw14254969890578885040:True:=⟨⟩
theorem tw15055695422962524621:True:=⟨⟩
theorem tw8175933872260092319:True:=⟨⟩
theorem tw2501536930673417420:True:=⟨⟩
theorem tw16844427492164591083:True:=⟨⟩
theorem tw10730084602322740381:True:=⟨⟩
theorem tw1939460237635681273:True:=⟨⟩
theorem tw13913691565103748813:True:=⟨⟩
theorem tw11466945233213401256:True:=⟨⟩
theorem tw14085805336378666157:True:=⟨⟩
theorem tw7729017225521417309:True:=⟨⟩
theorem tw12632370660826211459:True:=⟨⟩
theorem tw10129930503027056843:True:=⟨⟩
theorem tw8395806709222845226:True:=⟨⟩
theorem tw17106838221269263138:True:=⟨⟩
theorem tw17206219515641510973:True:=⟨⟩
theorem tw5667964336811265755:True:=⟨⟩
theorem tw9275835273854003261:True:=⟨⟩
theorem tw5587046679938131692:True:=⟨⟩
theorem tw5301616916555721873:True:=⟨⟩
theorem tw12988500494214218435:True:=⟨⟩
theorem tw14896559417611602245:True:=⟨⟩
theorem tw17268652599065446012:True:=⟨⟩
theorem tw108964865268912619:True:=⟨⟩
theorem tw9959173505206575116:True:=⟨⟩
theorem tw74901077135791398:True:=⟨⟩
theorem tw2554711893539426753:True:=⟨⟩
theorem tw15699153866759884865:True:=⟨⟩
theorem tw406433471180063068:True:=⟨⟩
theorem tw4366691248944838314:True:=⟨⟩
theorem tw4504737567974183217:True:=⟨⟩
theorem tw17249698613597393416:True:=⟨⟩
theorem tw3919042610500349217:True:=⟨⟩
theorem tw1004652210606500085:True:=⟨⟩
theorem tw10990852711397594316:True:=⟨⟩
theorem tw10128525864837505140:True:=⟨⟩
theorem tw6565960880403931155:True:=⟨⟩
theorem tw15074687693553389886:True:=⟨⟩
theorem tw12285268141714450318:True:=⟨⟩
theorem tw5867457537806075690:True:=⟨⟩
theorem tw8534759985442108792:True:=⟨⟩
theorem tw14875088598796284357:True:=⟨⟩
theorem tw18190158377183154310:True:=⟨⟩
theorem tw7814511132109664299:True:=⟨⟩
theorem tw8192773190467849251:True:=⟨⟩
theorem tw5550431483374644463:True:=⟨⟩
theorem tw1076033397103390504:True:=⟨⟩
theorem tw13506438060212710164:True:=⟨⟩
theorem tw12067542487083685981:True:=⟨⟩
theorem tw1338088821274744172:True:=⟨⟩
theorem tw5999559807792265740:True:=⟨⟩
theorem tw8084632474436471153:True:=⟨⟩
theorem tw16166044365537272230:True:=⟨⟩
theorem tw15756550884356381946:True:=⟨⟩
theorem tw4502947435326489812:True:=⟨⟩
theorem tw5233854372907467179:True:=⟨⟩
theorem tw2087523335524992811:True:=⟨⟩
theorem tw12850246626138880647:True:=⟨⟩
theorem tw90417849596587101:True:=⟨⟩
theorem tw2335948239816884632:True:=⟨⟩
theorem tw10019090082773169068:True:=⟨⟩
theorem tw7552211873569765690:True:=⟨⟩
theorem tw182545771736597029:True:=⟨⟩
end PySem.W.Fast
namespace Hue
open PySem L2 Rf
theorem Vm{P:List ZW->Prop}(h:∀ a b c d e f,P [a,b,c,d,e,f]):∀ us:List ZW,us.length=6->P us:=KY λa=>KZ (P:=λus=>P (a::us)) (h a)
noncomputable def u7(K:Vn)(nm:Str)(i:Nat):Prop:=∃(f:ZY) (od an:Option ZY) (sl:Array (Option ZW)) (oc kV dc pm cd ct:ZW),PySem.W.nsIn K Za nm=some (some (.ref f))/\K.lookup f=some ⟨oc,od,.func (PySem.W.fnOf nm nm (defArgs (top i)) (defBody (top i)) (defScope (top i)) .none kV dc pm an cd ct),sl⟩/\PySem.W.codeIn K cd nm=true/\PySem.W.keepIn K (.ref f)=true
theorem lnkK_mk{K:Vn}{nm:Str}{i:Nat}{f:ZY}{od an:Option ZY}{sl:Array (Option ZW)}{oc kV dc pm cd ct:ZW}(a:PySem.W.nsIn K Za nm=some (some (.ref f)))(l:K.lookup f=some ⟨oc,od,.func (PySem.W.fnOf nm nm (defArgs (top i)) (defBody (top i)) (defScope (top i)) .none kV dc pm an cd ct),sl⟩)(c:PySem.W.codeIn K cd nm=true)(k:PySem.W.keepIn K (.ref f)=true):u7 K nm i:=⟨f,od,an,sl,oc,kV,dc,pm,cd,ct,a,l,c,k⟩
theorem i8{K:Vn}{h:Heap}{mg:Str->Option ZW}(X:K.In h)(G:h.Ns Za mg)(D:Df){i:Nat}(x:u7 K D.name i)(e:D.st=top i)(b:∀(kV doc pm:ZW) (an:Option ZY) (cdv ct:ZW) (us:List ZW),us.length=D.ps.length->A0S (PySem.W.fnOf D.name D.name (defArgs (top i)) (defBody (top i)) (defScope (top i)) .none kV doc pm an cdv ct) ⟨us,[]⟩=pure (D.ps.zip us)):PIn K mg D:=by
 obtain⟨_,_,_,_,_,_,_,_,_,_,a,l,c,k⟩:=x;exact⟨_,_,e▸Gx (st:=top i) l c k,J2 a l,PySem.W.mg_of X G a,k,(Gx (st:=top i) l c k).binds (ps:=D.ps) b⟩
theorem FL{P:Str×XCls->Prop}{D:Str×XCls}{l:List (Str×XCls)}(a:P D)(b:∀ x∈l,P x):∀ x∈D::l,P x:=Yb.mpr ⟨a,b⟩
theorem j9{P:Df->Prop}{D:Df}{l:List Df}(a:P D)(b:∀ x∈l,P x):∀ x∈D::l,P x:=Yb.mpr ⟨a,b⟩
theorem all_mk{l:PySem.W.OpenLaw}{w:Zf}{K:Vn}{h:Heap}{mg:Str->Option ZW}{fa:ZY}(X:K.In h)(G:h.Ns Za mg)(hfa:mg "law"=some (.ref fa))
 (x0:u7 K "is_number" 12)
 (x1:u7 K "is_listed" 13)
 (x2:u7 K "has_place" 15)
 (x3:u7 K "has_tie" 16)
 (x4:u7 K "check_place" 17)
 (x5:u7 K "check_tie" 18)
 (x6:u7 K "ties_at" 19)
 (x7:u7 K "count_at" 20)
 (x8:u7 K "far_end" 21)
 (x9:u7 K "parts" 22)
 (x10:u7 K "only" 23)
 (x11:u7 K "within" 24)
 (x12:u7 K "is_hue" 26)
 (x13:u7 K "is_hueing" 27)
 (x14:u7 K "clash_of" 28)
 (x15:u7 K "tie_of_hue" 30)
 (x16:u7 K "check_unlike" 31)
 (x17:u7 K "row_from" 32)
 (x18:u7 K "word_of" 33)
 (x19:u7 K "rows_of" 34)
 (x20:u7 K "exchanged" 35)
 (x21:u7 K "_law_tape" 37)
 (x22:u7 K "_law_draw" 38)
 (x23:u7 K "_law_pairs_by" 39)
 (x24:u7 K "_law_web" 40)
 (x25:u7 K "_law_meet" 41)
 (x26:u7 K "_law_hueing" 42)
 (x27:u7 K "_law_is_hueing" 43)
 (x28:u7 K "_law_hues" 44)
 (x29:u7 K "_law_class" 45)
 (x30:u7 K "_law_case" 46)
 (x31:u7 K "_law_two" 47)
 (x32:u7 K "_law_asked" 48)
 (x33:u7 K "_law_from_due" 49)
 (x34:u7 K "_law_exchanged_due" 50)
 (x35:u7 K "_law_right" 51)
 (x36:u7 K "law" 52)
 (z0:PySem.W.nsIn K Za "len"=some none)
 (z1:PySem.W.nsIn K Za "abs"=some none)
 (z2:PySem.W.nsIn K Za "min"=some none)
 (z3:PySem.W.nsIn K Za "max"=some none)
 (z4:PySem.W.nsIn K Za "int"=some none)
 (z5:PySem.W.nsIn K Za "list"=some none)
 (z6:PySem.W.nsIn K Za "tuple"=some none)
 (z7:PySem.W.nsIn K Za "all"=some none)
 (z8:PySem.W.nsIn K Za "any"=some none)
 (z9:PySem.W.nsIn K Za "sorted"=some none)
 (z10:PySem.W.nsIn K Za "isinstance"=some none)
 (z11:PySem.W.nsIn K Za "str"=some none)
 (z12:PySem.W.nsIn K Za "range"=some none)
 (z13:PySem.W.nsIn K Za "enumerate"=some none)
 (z14:PySem.W.nsIn K Za "zip"=some none)
 (z15:PySem.W.nsIn K Za "set"=some none)
 (z16:PySem.W.nsIn K Za "bool"=some none)
 (z17:PySem.W.nsIn K Za "dict"=some none)
 (z18:PySem.W.nsIn K Za "reversed"=some none)
 (z19:PySem.W.nsIn K Za "repr"=some none)
 (z20:PySem.W.nsIn K Za "sum"=some none)
 (kc0:ClsK K Ch) (gc0:PySem.W.nsIn K Za "HueError"=some (some (.ref 24)))
 (kc1:ClsK K AZ) (gc1:PySem.W.nsIn K Za "NoPlace"=some (some (.ref 37)))
 (kc2:ClsK K Gi) (gc2:PySem.W.nsIn K Za "NoTie"=some (some (.ref 49)))
 (kc3:ClsK K AC) (gc3:PySem.W.nsIn K Za "NoRow"=some (some (.ref 61)))
 : ∃ fd:A00,(∀(s:ZX) (v:ZW),BindsTo s fd ⟨[v],[]⟩ [("_law_script",v)])/\∀ base:Heap,K.In base->base.Ns Za mg->FnOk l.prog w K mg base CX0 10 fa fd ["_law_script"] (spS K (W prog 10 36)):=by
 have y:=x36;obtain⟨f36,od36,an36,sl36,oc36,kV36,dc36,pm36,cd36,ct36,a36,l36,c36,k36⟩:=x36;have e:=hfa.symm.trans (PySem.W.mg_of X G a36);cases e
 have B:Bl K mg:=by
  refine⟨⟨λ_ _=>PySem.W.mg_of X G,λ_=>W8 X G⟩,λb=>?_,W8 X G z12,W8 X G z13,W8 X G z18,W8 X G z14,W8 X G z20,W8 X G z15,W8 X G z17,λt ht=>?_⟩
  ·cases b with
   | len=>exact W8 X G z0
   | abs=>exact W8 X G z1
   | min=>exact W8 X G z2
   | max=>exact W8 X G z3
   | int=>exact W8 X G z4
   | list=>exact W8 X G z5
   | tuple=>exact W8 X G z6
   | all=>exact W8 X G z7
   | any=>exact W8 X G z8
   | sorted=>exact W8 X G z9
   | isi=>exact W8 X G z10
   | str=>exact W8 X G z11
   | repr=>exact W8 X G z19
  ·cases t with
   | int=>exact W8 X G z4
   | bool=>exact W8 X G z16
   | str=>exact W8 X G z11
   | list=>exact W8 X G z5
   | tuple=>exact W8 X G z6
   | none=>exact absurd rfl ht
 have hin:∀ D∈prog,PIn K mg D:=j9 (i8 X G d0 x0 rfl λ_ _ _ _ _ _=>Hk λ_=>rfl) (j9 (i8 X G d1 x1 rfl λ_ _ _ _ _ _=>Hk λ_=>rfl) (j9 (i8 X G d2 x2 rfl λ_ _ _ _ _ _=>B6 λ_ _=>rfl) (j9 (i8 X G d3 x3 rfl λ_ _ _ _ _ _=>B6 λ_ _=>rfl) (j9 (i8 X G d4 x4 rfl λ_ _ _ _ _ _=>B6 λ_ _=>rfl) (j9 (i8 X G d5 x5 rfl λ_ _ _ _ _ _=>B6 λ_ _=>rfl) (j9 (i8 X G d6 x6 rfl λ_ _ _ _ _ _=>B6 λ_ _=>rfl) (j9 (i8 X G d7 x7 rfl λ_ _ _ _ _ _=>B6 λ_ _=>rfl) (j9 (i8 X G d8 x8 rfl λ_ _ _ _ _ _=>N5 λ_ _ _=>rfl) (j9 (i8 X G d9 x9 rfl λ_ _ _ _ _ _=>Hk λ_=>rfl) (j9 (i8 X G d10 x10 rfl λ_ _ _ _ _ _=>B6 λ_ _=>rfl) (j9 (i8 X G d11 x11 rfl λ_ _ _ _ _ _=>B6 λ_ _=>rfl) (j9 (i8 X G d12 x12 rfl λ_ _ _ _ _ _=>Hk λ_=>rfl) (j9 (i8 X G d13 x13 rfl λ_ _ _ _ _ _=>B6 λ_ _=>rfl) (j9 (i8 X G d14 x14 rfl λ_ _ _ _ _ _=>B6 λ_ _=>rfl) (j9 (i8 X G d15 x15 rfl λ_ _ _ _ _ _=>Sy λ_ _ _ _=>rfl) (j9 (i8 X G d16 x16 rfl λ_ _ _ _ _ _=>B6 λ_ _=>rfl) (j9 (i8 X G d17 x17 rfl λ_ _ _ _ _ _=>KZ λ_ _ _ _ _=>rfl) (j9 (i8 X G d18 x18 rfl λ_ _ _ _ _ _=>B6 λ_ _=>rfl) (j9 (i8 X G d19 x19 rfl λ_ _ _ _ _ _=>Sy λ_ _ _ _=>rfl) (j9 (i8 X G d20 x20 rfl λ_ _ _ _ _ _=>KZ λ_ _ _ _ _=>rfl) (j9 (i8 X G d21 x21 rfl λ_ _ _ _ _ _=>B6 λ_ _=>rfl) (j9 (i8 X G d22 x22 rfl λ_ _ _ _ _ _=>B6 λ_ _=>rfl) (j9 (i8 X G d23 x23 rfl λ_ _ _ _ _ _=>B6 λ_ _=>rfl) (j9 (i8 X G d24 x24 rfl λ_ _ _ _ _ _=>B6 λ_ _=>rfl) (j9 (i8 X G d25 x25 rfl λ_ _ _ _ _ _=>N5 λ_ _ _=>rfl) (j9 (i8 X G d26 x26 rfl λ_ _ _ _ _ _=>N5 λ_ _ _=>rfl) (j9 (i8 X G d27 x27 rfl λ_ _ _ _ _ _=>B6 λ_ _=>rfl) (j9 (i8 X G d28 x28 rfl λ_ _ _ _ _ _=>N5 λ_ _ _=>rfl) (j9 (i8 X G d29 x29 rfl λ_ _ _ _ _ _=>Hk λ_=>rfl) (j9 (i8 X G d30 x30 rfl λ_ _ _ _ _ _=>B6 λ_ _=>rfl) (j9 (i8 X G d31 x31 rfl λ_ _ _ _ _ _=>B6 λ_ _=>rfl) (j9 (i8 X G d32 x32 rfl λ_ _ _ _ _ _=>Vm λ_ _ _ _ _ _=>rfl) (j9 (i8 X G d33 x33 rfl λ_ _ _ _ _ _=>KZ λ_ _ _ _ _=>rfl) (j9 (i8 X G d34 x34 rfl λ_ _ _ _ _ _=>KZ λ_ _ _ _ _=>rfl) (j9 (i8 X G d35 x35 rfl λ_ _ _ _ _ _=>KZ λ_ _ _ _ _=>rfl) (j9 (i8 X G d36 y rfl λ_ _ _ _ _ _=>Hk λ_=>rfl) (λ_ h=>nomatch h)))))))))))))))))))))))))))))))))))));refine⟨PySem.W.fnOf "law" "law" (defArgs (top 52)) (defBody (top 52)) (defScope (top 52)) .none kV36 dc36 pm36 an36 cd36 ct36,λs v => .of_eq rfl,λbase _ _=>?_⟩;have hcl:∀ p∈cts,ClsK K p.2/\PySem.W.nsIn K Za p.1=some (some (.ref p.2.ad)):=FL (P:=λp=>ClsK K p.2/\PySem.W.nsIn K Za p.1=some (some (.ref p.2.ad))) ⟨kc0,gc0⟩ (FL (P:=λp=>ClsK K p.2/\PySem.W.nsIn K Za p.1=some (some (.ref p.2.ad))) ⟨kc1,gc1⟩ (FL (P:=λp=>ClsK K p.2/\PySem.W.nsIn K Za p.1=some (some (.ref p.2.ad))) ⟨kc2,gc2⟩ (FL (P:=λp=>ClsK K p.2/\PySem.W.nsIn K Za p.1=some (some (.ref p.2.ad))) ⟨kc3,gc3⟩ (λ_ h=>nomatch h))));have hL:prog.length+1<1000000:=by decide
 have at_:∀(g:Nat) (x:Str),(prog.map (·.name))[g]?=some x->∃ D',prog[g]?=some D'/\D'.name=x:=λg x hx=>by
  rw[Vx]at hx;exact WZ.mp hx
 exact J1 (P:=l.prog) (w:=w) (base:=base) (k:=9) (Δ:=W prog 9) (D:=d36) (Gx (st:=top 52) l36 c36 k36) (J2 a36 l36) (W9.mp Dn d36 (Vv (show prog[36]?=some d36 from rfl))) B
  ⟨by rw[Vp];exact hL,hcl,V5 (Y9 hL) 9,λg x hx=>by
    obtain⟨D',hg,rfl⟩:=at_ g x hx;exact⟨D'.ps,(Db Dn B hL hcl hin 9 g D' hg).2⟩⟩ (λg x hx=>by
    obtain⟨D',hg,rfl⟩:=at_ g x hx;exact⟨D'.ps,(Db Dn B hL hcl hin 9 g D' hg).1⟩) (Cb 9)
theorem clsK_mk{K:Vn}{a:ZY}{un:List ZY}{tb:List (Str×ZY×Bool)}(t1:(PySem.W.clsIn K a).isSome=true)(t2:PySem.W.mroIn K a (.type "object")=some true)(t3:PySem.W.mroIn K a (.type "BaseException")=some true)(t4:PySem.W.findIn K (.ref a) "__class__"=some (some (.builtin "object.__class__")))(t5:PySem.W.findIn K (.ref a) "__getattribute__"=some (some (.builtin "BaseException.__getattribute__")))(t6:PySem.W.findIn K (.ref a) "__getattr__"=some none)
 (x:PySem.W.excIn K a bmVE "ValueError.__new__"=true) (nv:PySem.W.nsIn K Za "ValueError"=some none) (kv:PySem.W.kitOne K (.ref a) (.type "ValueError")=some true) (hu:∀ D∈un,PySem.W.mroIn K a (.ref D)=some true) (ht:∀ p∈tb,PySem.W.nsIn K Za p.1=some (some (.ref p.2.1))/\PySem.W.kitOne K (.ref a) (.ref p.2.1)=some p.2.2):ClsK K ⟨a,un,tb⟩:=⟨⟨t1,t2,t3,t4,t5,t6⟩,x,hu,nv,kv,ht⟩
theorem un_nil{K:Vn}{a:ZY}:∀ D∈([]:List ZY),PySem.W.mroIn K a (.ref D)=some true:=λ_ h=>nomatch h
theorem un_one{K:Vn}{a b:ZY}(h:PySem.W.mroIn K a (.ref b)=some true):∀ D∈[b],PySem.W.mroIn K a (.ref D)=some true:=λ_ m=>by rw[W1.mp m];exact h
theorem tb_nil{K:Vn}{a:ZY}:∀ p∈([]:List (Str×ZY×Bool)),PySem.W.nsIn K Za p.1=some (some (.ref p.2.1))/\PySem.W.kitOne K (.ref a) (.ref p.2.1)=some p.2.2:=λ_ h=>nomatch h
theorem tb_cons{K:Vn}{a c:ZY}{x:Str}{b:Bool}{l:List (Str×ZY×Bool)}(h1:PySem.W.nsIn K Za x=some (some (.ref c)))(h2:PySem.W.kitOne K (.ref a) (.ref c)=some b)(t:∀ p∈l,PySem.W.nsIn K Za p.1=some (some (.ref p.2.1))/\PySem.W.kitOne K (.ref a) (.ref p.2.1)=some p.2.2):∀ p∈(x,c,b)::l,PySem.W.nsIn K Za p.1=some (some (.ref p.2.1))/\PySem.W.kitOne K (.ref a) (.ref p.2.1)=some p.2.2:=λp m=>(W4.mp m).elim (λe=>by subst e;exact⟨h1,h2⟩) (t p)
theorem tabK_mk{K:Vn}{nm:Str}{i:Nat}{f c:ZY}{od an:Option ZY}{sl:Array (Option ZW)}{oc kV dc pm ct:ZW}(_:PySem.W.nsIn K Za nm=some (some (.ref f)))(_:K.lookup f=some ⟨oc,od,.func (PySem.W.fnOf nm nm (defArgs (top i)) (defBody (top i)) (defScope (top i)) .none kV dc pm an (.ref c) ct),sl⟩)(t:PySem.W.tabIn K nm=some (c,286))(h:PySem.W.codeHdIn K c 286=true):∃ c,TabK K nm c 286:=⟨c,t,h⟩
theorem walkL{l:PySem.W.OpenLaw}{q:Zd}{loose:List Str}{XP:(Str->Option ZW)->Heap->Prop}{YP:Zf->Heap->Prop}{d:DefRec}{K:Params->Vn}(hn:l.most=some 63)(hdf:d.params.defaults=[])
 (hY:∀(w:Zf) (h:Heap),YP w h->(K w.params).In h/\∀ T∈[286],h.get? T=some (PySem.W.tabObj #[])) (hT:∀ w:Zf,(K w.params).lookup 286=none/\∃ c,TabK (K w.params) "rows_of" c 286)
 (F:∀(w:Zf) (mg:Str->Option ZW) (fa:ZY) (h:Heap),(K w.params).In h->h.Ns Za mg->mg d.name=some (.ref fa)->
   ∃ fd:A00,(∀(s:ZX) (u:ZW),BindsTo s fd ⟨[u],[]⟩ [("_law_script",u)])/\∀ base:Heap,(K w.params).In base->base.Ns Za mg->FnOk l.prog w (K w.params) mg base CX0 10 fa fd ["_law_script"] (spS (K w.params) (W prog 10 36))):
 PySem.W.WalkO q loose XP YP l.row.toRowW d [] (λf vs=>PySem.call f vs):=
 L2.walk_ofT (n:=63) (k:=10) (x:="_law_script") (ts:=[286]) (sp:=λw=>spS (K w.params) (W prog 10 36)) hn (by decide) hdf ⟨rfl,by decide,by decide,rfl⟩ hY (λw T hz=>by
  cases W1.mp hz;obtain⟨a,c,b⟩:=hT w;exact⟨a,c,b.2⟩) F λw _ a ns hl hO hS=>Pj (tl:=[("rows_of",⟨130,29,130,52⟩)]) (law_main ns hl) (by decide) rfl (λi P p e1 e2=>by
  match i,e1,e2 with
  | 0,e1,e2=>cases e1;cases e2;exact(hT w).2
  | (i+1),e1,e2=>simp at e1) hO hS
end Hue
open PySem PySem.W PyProof.Rows
set_option maxRecDepth 100000 in
set_option maxHeartbeats 0 in
theorem PySem.Challenge.cw_huedties_k16_no_such_rows_holds : PySem.Challenge.rw_huedties_k16_no_such_rows.Holds := by
 w_on;o_law;k_head;(case hw=>w_witness2)
 k_fill
 refine Hue.walkL (l:=PySem.Challenge.rw_huedties_k16_no_such_rows) rfl rfl (λw h Y=>⟨PySem.W.km_in_of Y,PySem.W.km_tabs_of Y⟩) ?T ?F
 case T=>
  intro w;exact⟨by kernel_rfl,Hue.tabK_mk (i:=34) (by k_is) (by k_is) (by kernel_rfl) (by kernel_rfl)⟩
 case F=>
  intro w mg fa h KX G hmg;refine' Hue.all_mk KX G hmg ?_ ?_ ?_ ?_ ?_ ?_ ?_ ?_ ?_ ?_ ?_ ?_ ?_ ?_ ?_ ?_ ?_ ?_ ?_ ?_ ?_ ?_ ?_ ?_ ?_ ?_ ?_ ?_ ?_ ?_ ?_ ?_ ?_ ?_ ?_ ?_ ?_ ?_ ?_ ?_ ?_ ?_ ?_ ?_ ?_ ?_ ?_ ?_ ?_ ?_ ?_ ?_ ?_ ?_ ?_ ?_ ?_ ?_ ?kc0 ?_ ?kc1 ?_ ?kc2 ?_ ?kc3 ?_
  (case kc0=>exact Hue.clsK_mk (by kernel_rfl) (by k_is) (by k_is) (by k_is) (by k_is) (by k_is) (by k_exc) (by k_is) (by kernel_rfl) Hue.un_nil Hue.tb_nil)
  (case kc1=>exact Hue.clsK_mk (by kernel_rfl) (by k_is) (by k_is) (by k_is) (by k_is) (by k_is) (by k_exc) (by k_is) (by kernel_rfl) (Hue.un_one (by k_is)) (Hue.tb_cons (by k_is) (by kernel_rfl) (Hue.tb_cons (by k_is) (by kernel_rfl) (Hue.tb_cons (by k_is) (by kernel_rfl) (Hue.tb_cons (by k_is) (by kernel_rfl) (Hue.tb_cons (by k_is) (by kernel_rfl) (Hue.tb_cons (by k_is) (by kernel_rfl) (Hue.tb_cons (by k_is) (by kernel_rfl) (Hue.tb_cons (by k_is) (by kernel_rfl) (Hue.tb_cons (by k_is) (by kernel_rfl) Hue.tb_nil))))))))))
  (case kc2=>exact Hue.clsK_mk (by kernel_rfl) (by k_is) (by k_is) (by k_is) (by k_is) (by k_is) (by k_exc) (by k_is) (by kernel_rfl) (Hue.un_one (by k_is)) (Hue.tb_cons (by k_is) (by kernel_rfl) (Hue.tb_cons (by k_is) (by kernel_rfl) (Hue.tb_cons (by k_is) (by kernel_rfl) (Hue.tb_cons (by k_is) (by kernel_rfl) (Hue.tb_cons (by k_is) (by kernel_rfl) (Hue.tb_cons (by k_is) (by kernel_rfl) (Hue.tb_cons (by k_is) (by kernel_rfl) (Hue.tb_cons (by k_is) (by kernel_rfl) (Hue.tb_cons (by k_is) (by kernel_rfl) Hue.tb_nil))))))))))
  (case kc3=>exact Hue.clsK_mk (by kernel_rfl) (by k_is) (by k_is) (by k_is) (by k_is) (by k_is) (by k_exc) (by k_is) (by kernel_rfl) (Hue.un_one (by k_is)) (Hue.tb_cons (by k_is) (by kernel_rfl) (Hue.tb_cons (by k_is) (by kernel_rfl) (Hue.tb_cons (by k_is) (by kernel_rfl) (Hue.tb_cons (by k_is) (by kernel_rfl) (Hue.tb_cons (by k_is) (by kernel_rfl) (Hue.tb_cons (by k_is) (by kernel_rfl) (Hue.tb_cons (by k_is) (by kernel_rfl) (Hue.tb_cons (by k_is) (by kernel_rfl) (Hue.tb_cons (by k_is) (by kernel_rfl) Hue.tb_nil))))))))))
  all_goals first | exact Hue.lnkK_mk (by k_is) (by k_is) (by k_is) (by k_is) | k_is
