import PyProof.Rows.All
import Wide.All
import OpenK.AllK
import PySem.Challenge.RW_huedties_k48_settled_pairs
set_option Elab.async false
set_option linter.all false
set_option maxRecDepth 100000
open PySem.W renaming Frag->UL,mg_none_of->Uk
open List renaming getElem?_eq_getElem->UM,mem_of_getElem?->UO,length_map->UQ,length_append->UR,mem_singleton->UT,size_toArray->UV,getD_eq_getElem?_getD->UW,getElem?_map->UZ,mem_cons->Ub,mem_cons_of_mem->Uc,getElem?_append_left->Ud,replicate->Ue,mem_cons_self->Uh,append_assoc->Ui,range->Uj,mem_append->Ul,mem_append_left->Um,mem_append_right->Uo,all_eq_true->Uq,prefix_refl->Ur,getElem?_set_self->Ut,map_cons->Uv,getElem?_append_right->Uw,length_set->Uy,getElem?_concat_length->V1,mem_range->V4,getElem?_set_ne->V7,map_map->V9,isEmpty_iff->VB,map_congr_left->VE,append_nil->VF,length_cons->VG,mem_map->VH,map_append->VI,length_take->VJ,any_eq_true->VL,nodup_append->VN,take_succ->VP,getElem?_of_mem->VQ,find?_cons->VS,lookup_cons->VU,take_of_length_le->VV,replicate_succ->VW,length_range->VY,length_singleton->VZ,take_append_drop->Va,all_cons->Vb,any_cons->Vc,mem_filter->Ve,nodup_cons->Vg,getElem?_replicate->Vi,mem_iff_getElem->Vj,length_eq_zero_iff->Vk,getElem?_eq_none->Vn,length_filter_le->Vo,getD->Vp,getElem?_drop->Vq,reverse_cons->Vs,flatten_cons->Vt,of_mem_zip->Vu,length_reverse->Vv,length_drop->Vx,prefix_append->Vy,perm_append_comm->Vz,pairwise_iff_getElem->W0,drop_eq_getElem_cons->W1,pairwise_append->W6,getElem?_range->W7,getElem_mem->W8,pairwise_cons->WB,length_replicate->WD,countP_le_length->WG,pairwise_map->WH,drop_length->WK,take_length->WL,filter_append->WV,length->WW,pairwise_singleton->WX,drop_zero->WZ,eraseIdxIfInBounds_toArray->Wa,filter_cons->We,mem_of_mem_take->Wf,eq_nil_of_length_eq_zero->Wi,length_nil->Wj,filterMap_cons->Wk,reverse_append->Wl,getElem_of_mem->Wn,getElem?_take->Wp,length_eraseIdx_of_lt->Wr,nodup_nil->Ws,lookup->Wt,ext_getElem?->Wu,getElem?_inj->Wv,getElem?_take_of_lt->Ww,filterMap_cons_none->Wx,filterMap_cons_some->Wy,set_eq_of_length_le->Wz,eraseIdx_cons_succ->X0,mem_reverse->X6,cons_ne_nil->X8,getElem?_cons_succ->X9,drop_eq_nil_of_le->XA,find?_cons_of_pos->XE,find?_cons_of_neg->XF,range_succ->XG,mem_iff_getElem?->XH,set_append_right->XI,dropLast_eq_take->XJ,getElem?_zipWith->XM,mem_of_mem_drop->XQ,mapM_cons->XS,map_id->XT,mem_filterMap->XX,mem_replicate->Xd,find?_eq_none->Xe,any_eq_false->Xg,take_sublist->Xh,getElem_drop->Xj,reverse_perm->Xm,any_map->Xn,getElem_inj->Xo,map_reverse->Xr,append_inj'->Xs,nodup_range->Xu,foldl_cons->Xw,head?_drop->Xx,foldl->Y0,take_zero->Y1,tail_drop->Y6,zip_map'->YA,sum_cons->YB,map_nil->YF,all_map->YI,filter->YN,mapM->YO
open Bool renaming and_eq_true->UN,false_ne_true->Ua,not_eq_true'->Uu,false_eq_true->V2,or_eq_true->V8,eq_iff_iff->VR,or_eq_false_iff->Wh,false_or->XU,or_false->Y8,true_and->Y9,true_or->YG
open PySem.Heap renaming get?_push_of_some->UP,lt_size->UX,get?_push_size->UY,SameBut->Uz,get?_update_self->VD,size_push->VO,get?_update_other->VT,size_update->Wc,get?_none_of_le->XN,ExtBut->Xv
open Nat renaming le_refl->US,ne_of_lt->Ug,lt_of_lt_of_le->Us,le_trans->Ux,zero_add->VA,zero_le->VX,le_of_lt->Vf,lt_of_le_of_lt->Vh,lt_irrefl->Vr,not_lt_zero->W3,lt_succ_of_lt->W4,lt_or_ge->W5,le_succ->WJ,eq_zero_or_pos->WU,le_add_right->Wd,add_le_add_left->Wm,le_of_not_lt->X4,lt_succ_self->X5,sub_zero->XB,sub_self->XC,le_of_eq->XD,lt_of_le_of_ne->Xb,ne_of_gt->Xf,add_zero->Xi,lt_of_succ_le->Xk,le_succ_of_le->Xl,succ_le_succ->Xp,not_lt_of_gt->Xq,min_eq_right->Xt,le_antisymm->Xy,min_eq_left->Xz,mod_lt->Y4,succ_mul->YE,lt_trans->YH,le_total->YJ,succ->YL,cast->YM
open Array renaming length_toList->UU,getElem?_toList->V0,toList_append->V3,toList_push->Vm,toList_reverse->Wg,perm_iff_toList_perm->Wq,toArray_toList->XO,getElem_toList->XR,Perm->Xa,size_map->Y2,getD->Y3,size_zip->Y5,toList->YD
open Int renaming le_trans->V5,le_of_lt->V6,natCast_inj->VC,le_refl->VM,zero_add->Vw,eq_ofNat_of_zero_le->W9,emod_lt_of_pos->WC,emod_nonneg->WR,toNat_natCast->WY,not_lt->Wo,lt_of_lt_of_le->XZ,natCast_nonneg->Xc,mul_nonneg->Y7,toNat->YC
open Option renaming isSome->Vd,map_eq_some_iff->Vl,map_some->W2,isNone_iff_eq_none->WN,isSome_iff_exists->WQ,bind_some->X7,isNone->XW,isSome_some->XY,some->YK
open PySem renaming Value->YQ,wpAny_bind->YR,Shared->YS,Addr->YT,wpAny_pure->YV,model->YX,wpAny->YY,Program->YZ,mainGlobals->Ya,sizeLine->Yb,World->Yc,bootBuiltins->Yd,Around->Yf,starEach->Yg,Scope->Yi,compareOp->Yk,wpAny_truthy_bool->Ym,wpAny_holding->Yn,wpAny_mono->Yo,SetTable->Yr,wpAny_Call_Name_kw->Ys,wpAny_call_entry->Yt,NameKind->Yu,cellsFrom->Yv,wpAny_newObj_type->Yw,assignEach->Yx,wpAny_rule->Yy,wpAny_setField->Yz,wpAny_passesOwn->Z0,codeAny_builtin->Z2,codeAny_mono->Z3,wpAny_setState_of->Z5,sysModules->Z6,swappedStores->Z7,swapsWith->Z8,wpAny_callSpecial?_slot->Z9,wpAny_pyIter_tuple->ZA,attributeBase->ZC,scanBound->ZD,recursionLimit->ZE,FuncData->ZF,binaryOp->ZH,letOwnedTupleGo->ZJ,tupleKind_room_in1->ZL,wpAny_pyIter_enum->ZM,wpAny_pyIter_list->ZN,swapsWithSole->ZP,wpAny_attempt->ZQ,wpAny_newList->ZR,plainId_quiet->ZS,sizeLine_eq->ZT,wpAny_setEntries_of->ZW,call_meetsIn->ZX,tupleKind->ZY,Arguments->ZZ,builtinsNs->Za,call_meets->Zb,wpAny_seqItems->Zc,firstArgMember->Zd,wpAny_letOwnedTupleGo_enum->Ze,foldedSetIterable->Zi,fits_of_scanBound->Zj,wpAny_standAt->Zk,Comprehension->Zl,Operator->Zm,bindArgs->Zn,wpAny_Call_method0_late->Zo,compEnvC->Zp,wpAny_pyNext_enum_itemD->Zq,wpAny_askSetting->Zr,pickOrder->Zs,wpAny_pyNext_enum_endD->Zu,wpAny_execs_nil->Zw,pushCells_keeps->Zx,codeAny_of_tree->A00,wpAny_ite_split->A01,weight_type_call_type->A02,builtinLookup_eq_fast->A03,GenState->A04,subscripted->A05,keywordEach->A06,fitsIndex_both->A07,newFunctionEnv->A08,wpAny_field->A09,unsupported->A0a,wpAny_newTuple->A0c,relayAll->A0e,codeAny_call_builtin->A0f,wpAny_runValue->A0g,behindInMarks->A0h,comprehension->A0j,wpAny_call->A0k,closureFor->A0l,wpAny_assign_Name->A0m,name_of_addr->A0n,seqIndex_neg->A0o,wpAny_Call_method->A0p,wpAny_storeSet_of->A0u,setField->A0v,wpAny_pyIter_slot->A0w,PassesOwn->A0x,pushCells->A0y,check_set_init_1->A0B,wpAny_isInstance->A0C,seqIndex_of->A0D,wpAny_of_eq->A0E,wpAny_specialOf->A0G,typeLookup_type->A0H,wpAny_updateSeq->A0I,wpAny_Name->A0J,typeLookup->A0K,typeIs_int->A0M,backToKw->A0N,checkCount->A0Q,intKind_is->A0T,isSubtype_type->A0U,entryFor_alias->A0V,wpAny_fieldsOf->A0W,lastMarks->A0Z,seqIndex?->A10,seqItems?->A11,drawOrder->A13,DictEntry->A14
open PyProof.Rows renaming wpS_bind->YU,wpS_pure->YW,pendingOf->Ye,reverseSlice'->Yh,wpS_forRange->Yj,failedOf->Yl,wpS_modify->Yp,wpS_mono->Yq,oneType'->Z4,SortedTo->ZG,listUpdate_at->ZI,get?_update_seq->ZK,wpS_lift->ZO,firstMet->ZU,getElem?_mirror_all->ZV,K_mirror_equal->Zf,step_dedup->Zg,firstMet_length_le->Zh,subscriptTail_builtinR->Zt,setPending->Zv,getElem?_bubble->Zy,entry_list_sort->Zz,seqEpoch_at->A0b,slot_list_sort->A0d,subscriptTail->A0i,listItems_at->A0q,pairsOf_size->A0r,plain_sorted->A0s,entry_sorted->A0t,countRun'->A0z,reverseSlice'_eq->A0A,kind_sorted->A0F,Subscript_->A0L,binarySort'_eq->A0O,keyLt'_oneType->A0P,size_push'->A0R,args_list_sort->A0S,SortKind->A0X,general'->A0Y,sortRuns'->A12
noncomputable abbrev EE:=List (Nat×Nat)
theorem gM{α:Type}{l:List α}{i:Nat}{a:α}(h:l[i]?=some a):∃h:i<l.length,l[i]=a:=List.getElem?_eq_some_iff.mp h
theorem oj{α:Type}{a b:α}(h:some a=some b):a=b:=YK.inj h
theorem dQ{p:Prop}[Decidable p]:(decide p=true)=p:=decide_eq_true_eq
theorem iG{c:Prop}{h:Decidable c}(k:¬c){α:Sort u}{t e:α}:ite c t e=e:=if_neg k
theorem iP{c:Prop}{h:Decidable c}(k:c){α:Sort u}{t e:α}:ite c t e=t:=if_pos k
namespace L2
open PySem PySem.Spec PyProof.Rows
noncomputable abbrev Key:=Sum Int Str
noncomputable def Bc:Key->YQ->Bool
 | .inl k,v=>Value.isInt k v
 | .inr x,v=>Value.isStrOf x v
noncomputable def Tx(w:Yc):Key->Int
 | .inl k=>hashInt k
 | .inr x=>hashStr w x
theorem m6:∀{k:Key} {v:YQ},Bc k v=true->(∃ i t,k=Sum.inl i/\v=Value.int i t)\/(∃ x t,k=Sum.inr x/\v=Value.str x t)
 | .inl i,v,h=>by
   obtain⟨t,e⟩:=Value.isInt_shape (k:=i) (v:=v) h;exact .inl ⟨i,t,rfl,e⟩
 | .inr x,v,h=>by
   obtain⟨t,e⟩:=Value.isStrOf_shape (x:=x) (v:=v) h;exact .inr ⟨x,t,rfl,e⟩
theorem IV(i:Int)(t:Tok):Bc (.inl i) (.int i t)=true:=by simp[Bc,Value.isInt]
theorem IW(x:Str)(t:Tok):Bc (.inr x) (.str x t)=true:=by simp[Bc,Value.isStrOf]
theorem Pu(a b:Int):decide ((Sum.inl a:Key)=Sum.inl b)=(a == b):=by
 by_cases e:a=b
 ·subst e;simp
 ·have h:¬ (Sum.inl a:Key)=Sum.inl b:=λq=>e (Sum.inl.inj q);rw[decide_eq_false h];exact(beq_eq_false_iff_ne.mpr e).symm
theorem Pv(a b:Str):decide ((Sum.inr a:Key)=Sum.inr b)=decide (a=b):=by
 by_cases e:a=b
 ·subst e;simp
 ·have h:¬ (Sum.inr a:Key)=Sum.inr b:=λq=>e (Sum.inr.inj q);rw[decide_eq_false h,decide_eq_false e]
theorem Pw(a:Int)(b:Str):decide ((Sum.inl a:Key)=Sum.inr b)=false:=decide_eq_false (λq=>nomatch q)
theorem Px(a:Str)(b:Int):decide ((Sum.inr a:Key)=Sum.inl b)=false:=decide_eq_false (λq=>nomatch q)
noncomputable def i6(prog:YZ)(w:Yc):PySem.KeyKind prog w Key where
 is:=Bc
 hash:=Tx w
 inj:=λv a b ha hb=>by
  rcases m6 ha with⟨i,t,rfl,rfl⟩ | ⟨x,t,rfl,rfl⟩
  ·rcases m6 hb with⟨j,u,rfl,e⟩ | ⟨y,u,rfl,e⟩
   ·injection e with e1 _;rw[e1]
   ·exact nomatch e
  ·rcases m6 hb with⟨j,u,rfl,e⟩ | ⟨y,u,rfl,e⟩
   ·exact nomatch e
   ·injection e with e1 _;rw[e1]
 byValue:=λk v h=>by
   rcases m6 h with⟨i,t,rfl,rfl⟩ | ⟨x,t,rfl,rfl⟩<;>rfl
 pyHash:=λhv h=>by
  rcases m6 hv with⟨i,t,rfl,rfl⟩ | ⟨x,t,rfl,rfl⟩
  ·exact wpAny_pyHash_int h
  ·exact wpAny_pyHash_str h
 eqBool:=λhu hv h=>by
  rcases m6 hu with⟨i,t,rfl,rfl⟩ | ⟨x,t,rfl,rfl⟩
  ·rcases m6 hv with⟨j,u,rfl,rfl⟩ | ⟨y,u,rfl,rfl⟩
   ·rw[Pu]at h;exact wpAny_eqBool_int h
   ·rw[Pw]at h;exact SeqAt.EqAt.int_str i t y u _ _ _ _ h
  ·rcases m6 hv with⟨j,u,rfl,rfl⟩ | ⟨y,u,rfl,rfl⟩
   ·rw[Px]at h;exact SeqAt.EqAt.str_int x t j u _ _ _ _ h
   ·rw[Pv]at h;exact wpAny_eqBool_str h
 «strs»:=λk x t v h=>by
  rcases m6 h with⟨i,u,rfl,e⟩ | ⟨y,u,rfl,e⟩
  ·exact nomatch e
  ·injection e with e1 _;subst e1;cases v<;>rfl
theorem Fq(prog:YZ)(w:Yc)(k:Key)(v:YQ):(i6 prog w).is k v=Bc k v:=rfl
theorem Eb(prog:YZ)(w:Yc)(i:Int)(t:Tok):(i6 prog w).is (.inl i) (.int i t)=true:=IV i t
theorem Ec(prog:YZ)(w:Yc)(x:Str)(t:Tok):(i6 prog w).is (.inr x) (.str x t)=true:=IW x t
inductive V where
 | non | bl (b:Bool) | int (i:Int) | str (x:Str) | byt (b:Array UInt8) | flt (b:UInt64) | ref (a:YT) | ty (n:String)
 deriving DecidableEq
noncomputable def RelV:V->YQ->Prop
 | .non,u=>u=Value.none
 | .bl b,u=>u=Value.bool b
 | .int i,u=>∃ t,u=Value.int i t
 | .str x,u=>∃ t,u=Value.str x t
 | .byt b,u=>∃ t,u=Value.bytes b t
 | .flt b,u=>∃ t,u=Value.float b t
 | .ref a,u=>u=Value.ref a
 | .ty n,u=>u=Value.type n
noncomputable abbrev Vals:List V->List YQ->Prop:=Paired RelV
theorem Vals.length{xs:List V}{us:List YQ}(r:Vals xs us):xs.length=us.length:=Paired.length r
theorem Vals.get:∀{xs:List V} {us:List YQ} {i:Nat} {x:V},Vals xs us->xs[i]?=some x->∃ u,us[i]?=some u/\RelV x u
 | _,_,_,_,.nil,e=>by simp at e
 | _,_,0,_,.cons r _,e=>by simp at e;subst e;exact⟨_,rfl,r⟩
 | _,_,i+1,x,.cons _ t,e=>by
   obtain⟨u,h1,h2⟩:=Vals.get (i:=i) (x:=x) t (by simpa using e);exact⟨u,by simpa using h1,h2⟩
theorem Vals.set{x:V}{u:YQ}(r:RelV x u):∀{xs:List V} {us:List YQ} (i:Nat),Vals xs us->Vals (xs.set i x) (us.set i u)
 | _,_,_,.nil => .nil
 | _,_,0,.cons _ t => .cons r t
 | _,_,i+1,.cons q t => .cons q (Vals.set r i t)
theorem Vals.append:∀{xs ys:List V} {us ws:List YQ},Vals xs us->Vals ys ws->Vals (xs++ys) (us++ws)
 | _,_,_,_,.nil,s=>s
 | _,_,_,_,.cons r t,s => .cons r (Vals.append t s)
theorem Vals.take:∀{xs:List V} {us:List YQ} (n:Nat),Vals xs us->Vals (xs.take n) (us.take n)
 | _,_,0,_ => .nil
 | _,_,_+1,.nil => .nil
 | _,_,n+1,.cons r t => .cons r (Vals.take n t)
theorem Vals.drop:∀{xs:List V} {us:List YQ} (n:Nat),Vals xs us->Vals (xs.drop n) (us.drop n)
 | _,_,0,r=>r
 | _,_,_+1,.nil => .nil
 | _,_,n+1,.cons _ t=>Vals.drop n t
noncomputable def RelO:Option V->Option YQ->Prop
 | some v,some u=>RelV v u
 | none,none=>True
 | _,_=>False
noncomputable def KV{κ:Type}:List (κ×V)->List (κ×YQ)->Prop:=Paired λ(p:κ×V) (q:κ×YQ)=>p.1=q.1/\RelV p.2 q.2
noncomputable def kV:Key->V
 | .inl i => .int i
 | .inr x => .str x
inductive HO where
 | lst (xs:List V)
 | tup (xs:List V)
 | dK (kvs:List (Key×V)) | dT (kvs:List (List Key×V))
 | set (S:Int->Bool) (n:Nat)
 | ins (C dx:YT) (fs:List (Str×V))
 | own (x:YT)
 | xd (fs:List (Str×V))
 | met (f x:YT)
 | rng (lo hi:Int)
 | frz (o:Obj) (u:HO)
 | tbl (ps:Array YQ)
 | ext (φ:Heap->Prop)
noncomputable abbrev Hp:=YT->Option HO
noncomputable def upd(H:Hp)(a:YT)(o:HO):Hp:=λb=>if b=a then some o else H b
theorem g7{H:Hp}{a:YT}{o:HO}:upd H a o a=some o:=by unfold upd;rw[iP rfl]
theorem upd_ne{H:Hp}{a b:YT}{o:HO}(h:b≠a):upd H a o b=H b:=by unfold upd;rw[iG h]
theorem P4{H:Hp}{a b:YT}{o u:HO}(h:H a=some o)(h':H b=some u)(d:o≠u):a≠b:=by
 intro e;subst e;rw[h]at h';exact d (oj h')
theorem f7{H:Hp}{a b:YT}{o:HO}(h:H a=some o)(h':H b=none):a≠b:=by
 intro e;subst e;rw[h]at h';cases h'
section
variable(P:YZ)(w:Yc)
noncomputable def ObjOk(H:Hp)(h:Heap)(a:YT):HO->Prop
 | .lst xs=>xs.length<=Yb/\∃(its:List YQ) (n:Nat),Vals xs its/\h.get? a=some {cls := .type "list",data := .seq its.toArray n}
 | .tup xs=>xs.length<=Yb/\∃ its:List YQ,Vals xs its/\IsTup h a its.toArray
 | .dK kvs=>kvs.length<=Yb/\(a == Z6)=false/\∃ vs,KV kvs vs/\h.DictOf (i6 P w) a vs
 | .dT kvs=>kvs.length<=Yb/\(a == Z6)=false/\∃ xs:List (List Key×YT×YQ),
    Paired (λ(p:List Key×V) (q:List Key×YT×YQ)=>p.1=q.1/\H q.2.1=some (.tup (p.1.map kV))/\RelV p.2 q.2.2) kvs xs/\
    ∃ o es ep,h.get? a=some o/\o.ExactDict/\o.data = .dict es ep/\es.toList=xs.map (entryOfKey (ZY (i6 P w)))/\(xs.map (·.1)).Nodup
 | .set S n=>h.SetOf (intKind P w) a S n
 | .ins C dx fs=>H dx=some (.own a)/\fs.length<=1000/\dx≠a/\h.get? a=some (PySem.W.instObj C dx)/\
    ∃ mA,h.Ns1 dx mA/\(∀ f,RelO (fs.lookup f) (mA f))/\PySem.Within mA (fs.map (·.1))
 | .own _=>∃ o,h.get? a=some o
 | .xd fs=>∃ mA,h.Ns1 a mA/\∀ f,RelO (fs.lookup f) (mA f)
 | .rng lo hi=>∃ t u v,h.get? a=some {cls := .type "range",data := .fields #[.int lo t,.int hi u,.int 1 v]}
 | .frz o u=>h.get? a=some o/\ObjOk H h a u
 | .tbl ps=>h.get? a=some {cls := .none,data := .fields ps}
 | .met f x=>h.get? a=some (PySem.W.methodObj (.ref f) (.ref x))
 | .ext φ=>φ h/\(∃ o,h.get? a=some o)/\∀ h1 h2:Heap,φ h1->(∀ o,h1.get? a=some o->h2.get? a=some o)->φ h2
noncomputable def HOk(H:Hp)(h:Heap):Prop:=∀ a o,H a=some o->ObjOk P w H h a o
end
section
variable{P:YZ}{w:Yc}{H H':Hp}{h h':Heap}{a:YT}{o:HO}
theorem ObjOk.lt(x:ObjOk P w H h a o):a<h.objs.size:=by
 cases o with
 | lst xs=>obtain⟨_,_,_,_,e⟩:=x;exact UX e
 | tup xs=>obtain⟨_,_,_,p⟩:=x;exact p.lt
 | dK kvs=>obtain⟨_,_,_,_,o,_,_,e,_⟩:=x;exact UX e
 | dT kvs=>obtain⟨_,_,_,_,o,_,_,e,_⟩:=x;exact UX e
 | set S n=>obtain⟨o,_,_,_,e,_⟩:=x;exact UX e
 | ins C dx fs=>obtain⟨_,_,_,e,_⟩:=x;exact UX e
 | own y=>obtain⟨_,e⟩:=x;exact UX e
 | xd fs=>obtain⟨_,⟨_,_,_,e,_⟩,_⟩:=x;exact UX e
 | rng lo hi=>obtain⟨_,_,_,e⟩:=x;exact UX e
 | frz ob u=>obtain⟨e,_⟩:=x;exact UX e
 | tbl ps=>exact UX (show h.get? a=some _ from x)
 | met f y=>exact UX (show h.get? a=some _ from x)
 | ext φ=>obtain⟨_,⟨_,e⟩,_⟩:=x;exact UX e
theorem Paired.mapP{α β:Type}{F G:α->β->Prop}:∀{l₁:List α} {l₂:List β},Paired F l₁ l₂->(∀ a b,F a b->G a b)->Paired G l₁ l₂
 | _,_,.nil,_ => .nil
 | _,_,.cons r t,f => .cons (f _ _ r) (Paired.mapP t f)
theorem ObjOk.stay(x:ObjOk P w H h a o)(k:∀ b u,(b=a\/H b=some (.own a))->h.get? b=some u->h'.get? b=some u)
 (ho:∀ b,H b=some (.own a)->H' b=some (.own a)) (ht:∀ b xs,H b=some (.tup xs)->H' b=some (.tup xs)):ObjOk P w H' h' a o:=by
 induction o with
 | lst xs=>obtain⟨z,its,n,r,e⟩:=x;exact⟨z,its,n,r,k _ _ (.inl rfl) e⟩
 | tup xs=>obtain⟨z,its,r,ob,e,c⟩:=x;exact⟨z,its,r,ob,k _ _ (.inl rfl) e,c⟩
 | dK kvs=>obtain⟨z,y,vs,r,ob,es,ep,e,c⟩:=x;exact⟨z,y,vs,r,ob,es,ep,k _ _ (.inl rfl) e,c⟩
 | dT kvs=>
   obtain⟨z,y,xs,r,ob,es,ep,e,c⟩:=x;exact⟨z,y,xs,Paired.mapP r λp q z=>⟨z.1,ht _ _ z.2.1,z.2.2⟩,ob,es,ep,k _ _ (.inl rfl) e,c⟩
 | set S n=>obtain⟨ob,es,ep,t,e,c⟩:=x;exact⟨ob,es,ep,t,k _ _ (.inl rfl) e,c⟩
 | ins C dx fs=>
   obtain⟨d,z,ne,e,mA,⟨od,es,ep,e2,c⟩,r⟩:=x;exact⟨ho _ d,z,ne,k _ _ (.inl rfl) e,mA,⟨od,es,ep,k _ _ (.inr d) e2,c⟩,r⟩
 | own y=>obtain⟨ob,e⟩:=x;exact⟨ob,k _ _ (.inl rfl) e⟩
 | xd fs=>obtain⟨mA,⟨od,es,ep,e,c⟩,r⟩:=x;exact⟨mA,⟨od,es,ep,k _ _ (.inl rfl) e,c⟩,r⟩
 | rng lo hi=>obtain⟨t,u,v,e⟩:=x;exact⟨t,u,v,k _ _ (.inl rfl) e⟩
 | frz ob u ih=>obtain⟨e,q⟩:=x;exact⟨k _ _ (.inl rfl) e,ih q⟩
 | tbl ps=>
   have e:h.get? a=some {cls := .none,data := .fields ps}:=x;show h'.get? a=some {cls := .none,data := .fields ps};exact k a _ (.inl rfl) e
 | met f y=>
   have e:h.get? a=some (PySem.W.methodObj (.ref f) (.ref y)):=x;show h'.get? a=some (PySem.W.methodObj (.ref f) (.ref y));exact k a _ (.inl rfl) e
 | ext φ=>obtain⟨p,⟨o,e⟩,st⟩:=x;exact⟨st _ _ p λo q=>k _ _ (.inl rfl) q,⟨o,k _ _ (.inl rfl) e⟩,st⟩
theorem HOk.lt(x:HOk P w H h)(e:H a=some o):a<h.objs.size:=(x a o e).lt
theorem HOk.fresh(x:HOk P w H h)(e:h.objs.size<=a):H a=none:=by
 cases q:H a with
 | none=>rfl
 | some u=>exact absurd (Us (x.lt q) e) (Vr _)
theorem HOk.kept(x:HOk P w H h)(k:∀ b u,h.get? b=some u->h'.get? b=some u):HOk P w H h':=λa o e=>
 (x a o e).stay (λb u _ q=>k b u q) (λ_ q=>q) λ_ _ q=>q
theorem HOk.laid(x:HOk P w H h)(k:∀ b u,h.get? b=some u->h'.get? b=some u)(hp:h.objs.size<=a)(new:ObjOk P w (upd H a o) h' a o):HOk P w (upd H a o) h':=λb u e=>by
 have hn:=x.fresh hp;by_cases hb:b=a
 ·subst hb;rw[g7]at e;cases e;exact new
 ·rw[upd_ne hb]at e;exact(x b u e).stay (λc v _ q=>k c v q) (λc q=>by rw[upd_ne (f7 q hn)];exact q) λc xs q=>by rw[upd_ne (f7 q hn)];exact q
end
noncomputable def Rd(H:Hp)(a:YT)(u:HO):Prop:=H a=some u\/∃ o,H a=some (.frz o u)
theorem Rd.ok{P:YZ}{w:Yc}{H:Hp}{h:Heap}{a:YT}{u:HO}(r:Rd H a u)(x:HOk P w H h):ObjOk P w H h a u:=by
 rcases r with r | ⟨o,r⟩
 ·exact x a u r
 ·obtain⟨_,q⟩:=x a _ r;exact q
noncomputable def Mut:Option HO->Prop
 | some (.lst _)=>True
 | some (.dK _)=>True
 | some (.dT _)=>True
 | some (.set _ _)=>True
 | some (.ins _ _ _)=>True
 | some (.ext _)=>True
 | _=>False
section
variable{P:YZ}{w:Yc}{H:Hp}{h h':Heap}{x e:YT}{o':HO}
theorem HOk.write(ok:HOk P w H h)(mu:Mut (H x))(he:e=x\/H e=some (.own x))(k:∀ b u,b≠e->h.get? b=some u->h'.get? b=some u)(heo:∃ u,h'.get? e=some u)
 (new:ObjOk P w (upd H x o') h' x o'):HOk P w (upd H x o') h':=λb u q=>by
 have nown:∀ c y,H c=some (.own y)->c≠x:=λc y r z=>by subst z;rw[r]at mu;exact mu
 have ntup:∀ c xs,H c=some (.tup xs)->c≠x:=λc xs r z=>by subst z;rw[r]at mu;exact mu
 by_cases hb:b=x
 ·subst hb;rw[g7]at q;cases q;exact new
 ·rw[upd_ne hb]at q;by_cases hbe:b=e
  ·have q':H b=some (.own x):=by
    rcases he with z | z
    ·exact absurd (hbe.trans z) hb
    ·rw[hbe];exact z
   rw[q]at q';cases q';obtain⟨v,hv⟩:=heo;exact⟨v,by rw[hbe];exact hv⟩
  ·refine(ok b u q).stay (λc v hc r=>k c v ?_ r) (λc r=>by rw[upd_ne (nown c b r)];exact r) λc xs r=>by rw[upd_ne (ntup c xs r)];exact r
   rcases hc with rfl | hc
   ·exact hbe
   ·rintro rfl;rcases he with z | z
    ·exact nown c b hc z
    ·rw[hc]at z;cases z;exact hb rfl
end
structure Un(fs ex:List YT)(H H':Hp)(h h':Heap):Prop where
 keep:∀ b o,h.get? b=some o->H b=none->b∉fs->b∉ex->h'.get? b=some o
 slot:∀ b o,h.get? b=some o->H b=none->b∈fs->b∉ex->∃ sl,h'.get? b=some {o with slots:=sl}
 free:∀ b o,h.get? b=some o->H b=none->b∉ex->H' b=none
 there:∀ b o,h.get? b=some o->b∉ex->∃ o',h'.get? b=some o'
 tups:∀ b xs,H b=some (.tup xs)->H' b=some (.tup xs)
 frzs:∀ b o u,H b=some (.frz o (.lst u))->H' b=some (.frz o (.lst u))
 tbls:∀ b ps,H b=some (.tbl ps)->∃ more,H' b=some (.tbl (ps++more))
section
variable{fs fs' ex ex':List YT}{H H1 H2:Hp}{h h1 h2 h':Heap}{a x e:YT}{o:HO}
theorem Un.any(u:Un fs ex H H1 h h1){b:YT}{ob:Obj}(q:h.get? b=some ob)(n:H b=none)(hx:b∉ex):∃ sl,h1.get? b=some {ob with slots:=sl}:=by
 by_cases hb:b∈fs
 ·exact u.slot b ob q n hb hx
 ·exact⟨ob.slots,u.keep b ob q n hb hx⟩
theorem Un.kept(k:∀ b u,h.get? b=some u->h'.get? b=some u):Un fs ex H H h h':=
 ⟨λb ob q _ _ _=>k b ob q,λb ob q _ _ _=>⟨ob.slots,k b ob q⟩,λ_ _ _ n _=>n,λb ob q _=>⟨ob,k b ob q⟩,λ_ _ q=>q,λ_ _ _ q=>q,λ_ ps q=>⟨#[],by rw[q];simp⟩⟩
theorem Un.refl:Un fs ex H H h h:=Un.kept λ_ _ q=>q
theorem Un.laid(k:∀ b u,h.get? b=some u->h'.get? b=some u)(hp:h.objs.size<=a)(hn:H a=none):Un fs ex H (upd H a o) h h' where
 keep:=λb u q _ _ _=>k b u q
 slot:=λb u q _ _ _=>⟨u.slots,k b u q⟩
 free:=λb u q n _=>by rw[upd_ne (Ug (Us (UX q) hp))];exact n
 there:=λb u q _=>⟨u,k b u q⟩
 tups:=λb xs q=>by rw[upd_ne (f7 q hn)];exact q
 frzs:=λb u xs q=>by rw[upd_ne (f7 q hn)];exact q
 tbls:=λb ps q=>⟨#[],by rw[upd_ne (f7 q hn),q];simp⟩
theorem Un.write(mu:Mut (H x))(he:e=x\/H e=some (.own x))(k:∀ b u,b≠e->h.get? b=some u->h'.get? b=some u)(heo:∃ u,h'.get? e=some u):Un fs ex H (upd H x o) h h':=by
 have hx:∀ b,H b=none->b≠x:=λb n z=>by subst z;rw[n]at mu;exact mu
 have hb:∀ b,H b=none->b≠e:=λb n z=>by
  subst z;rcases he with r | r
  ·exact hx b n r
  ·rw[n]at r;cases r
 have hm:∀ b u,H b=some u->¬ Mut (some u)->b≠x:=λb u q nm z=>by subst z;rw[q]at mu;exact nm mu
 refine⟨λb u q n _ _=>k b u (hb b n) q,λb u q n _ _=>⟨u.slots,k b u (hb b n) q⟩,λb u q n _=>by rw[upd_ne (hx b n)];exact n,λb u q _=>?_,
  λb xs q=>by rw[upd_ne (hm b _ q λz=>z)];exact q,λb u xs q=>by rw[upd_ne (hm b _ q λz=>z)];exact q,λb ps q=>⟨#[],by rw[upd_ne (hm b _ q λz=>z),q];simp⟩⟩
 by_cases hbe:b=e
 ·subst hbe;exact heo
 ·exact⟨u,k b u hbe q⟩
end
noncomputable def trk(h:Heap)(H:Hp):List YT:=(Uj h.objs.size).filter λa=>(H a).isSome
noncomputable def E5(h:Heap)(H:Hp):Heap:=PySem.W.hideAll h (trk h H)
theorem IY(h:Heap)(H:Hp):(E5 h H).objs.size=h.objs.size:=PySem.W.hideAll_size _ _
theorem Js{h:Heap}{H:Hp}{b:YT}{o:Obj}(e:h.get? b=some o)(n:H b=none):(E5 h H).get? b=some o:=
 PySem.W.hideAll_get _ e λhm=>by
  have q:(H b).isSome=true:=(Ve.mp hm).2;rw[n]at q;simp at q
theorem N5{h:Heap}{H:Hp}{b:YT}{o:Obj}(e:(E5 h H).get? b=some o):h.get? b=some o/\H b=none:=by
 have e':h.get? b=some o:=PySem.W.of_hideAll (trk h H) e;refine⟨e',?_⟩;cases q:H b with
 | none=>rfl
 | some x=>
   have hm:b∈trk h H:=Ve.mpr ⟨V4.mpr (UX e'),by simp[q]⟩;have z:(E5 h H).get? b=none:=PySem.W.hideAll_none (trk h H) hm;rw[z]at e;cases e
noncomputable def BmAt(mg:Str->Option YQ)(h:Heap):Prop:=∃ bm ob,mg "__builtins__"=some (.ref bm)/\bm≠Za/\h.get? bm=some ob/\ob.cls = .type "module"/\ob.dict=some Za/\ob.data = .plain
structure Mod(K:UL)(mg:Str->Option YQ)(base:Heap):Prop where
 kin:K.In base
 glob:base.Ns Ya mg
 blt:∃ mb,base.Ns Za mb/\∀ x:Str,x≠"__name__"->mb x=Yd x
 nolimit:base.NoLimit
 bm:BmAt mg base
structure Cx where
 prog:YZ
 w:Yc
 K:UL
 mg:Str->Option YQ
 base:Heap
 A:Yf
 N:List Str
 s₀:YS
 H₀:Hp
 env:Env
 outer:List Env
 stack:List Env
 ex:List YT
 fn:Str->Bool
 calm:Bool
 pn:List (YT×Obj)
 xe:YQ->YS->Prop
noncomputable def frs(l:List Env):List YT:=l.filterMap (·.frame)
noncomputable abbrev Cx.fs(X:Cx):List YT:=frs X.outer
noncomputable def Vis(sc:Yi)(x:Str):Prop:=sc.names.lookup x=some .local\/sc.names.lookup x=some .cell\/sc.names.lookup x=some .free
noncomputable def Loc(sc:Yi)(x:Str):Prop:=sc.names.lookup x=some .local\/sc.names.lookup x=some .cell
noncomputable def Look(env:Env)(h:Heap)(m:Str->Option YQ)(x:Str)(u:YQ):Prop:=
 (env.kindOf x=some .local/\m x=some u)\/((env.kindOf x=some .cell\/env.kindOf x=some .free)/\∃ c,env.cells.lookup x=some c/\h.IsCell c (some u))
structure Cx.Ok(X:Cx):Prop where
 mod:Mod X.K X.mg X.base
 kind:X.env.scope.kind = .function
 glob:X.env.globals=Ya
 blt:X.env.builtins=Za
 above:X.s₀.heap.objs.size<=X.env.locals
 inj:∀ x y c,X.env.cells.lookup x=some c->X.env.cells.lookup y=some c->x=y
 has:∀ x,(X.env.kindOf x=some .cell\/X.env.kindOf x=some .free)->∃ c,X.env.cells.lookup x=some c
 cab:∀ x c,X.fn x=true->X.env.cells.lookup x=some c->X.s₀.heap.objs.size<=c
 hd:X.calm=true->X.A.handled=none
 frames:X.A.frames=some X.stack
 stk:X.stack=X.outer\/(X.stack=X.env::X.outer/\X.env.frame=some X.env.locals)
 exf:∀ b∈X.ex,b≠X.env.locals/\∀ x c,X.env.cells.lookup x=some c->c≠b
 bs:∀ b o,X.base.get? b=some o->X.s₀.heap.get? b=some o/\X.H₀ b=none
 bsz:X.base.objs.size<=X.s₀.heap.objs.size
 noex:∀ b o,X.base.get? b=some o->b∉X.ex
 exfs:∀ b∈X.ex,b∉X.fs
 funs:X.s₀.heap.FunFrames X.base X.outer
 frf:∀ b∈X.fs,X.H₀ b=none
structure Inv(X:Cx)(pins:List (YT×Obj))(σ:List (Option V))(H:Hp)(s:YS):Prop where
 ok:X.Ok
 os:s.os=X.s₀.os
 bare:AllBare s.gens
 base:Un X.fs X.ex X.H₀ H X.s₀.heap s.heap
 loc:∃ m,s.heap.Ns X.env.locals m/\∀(i:Nat) (x:Str) (v:V),X.N[i]?=some x->σ[i]?=some (some v)->Vis X.env.scope x->∃ u,RelV v u/\Look X.env s.heap m x u
 cell:∀ x c,X.env.cells.lookup x=some c->∃ v,s.heap.IsCell c v
 free:H X.env.locals=none
 freeC:∀ x c,X.env.cells.lookup x=some c->H c=none
 pin:∀ p∈X.pn++pins,s.heap.get? p.1=some p.2/\H p.1=none/\p.1≠X.env.locals/\p.1∉X.fs/\∀ v,p.2.data ≠ .cell v
 hok:HOk X.prog X.w H s.heap
 len:σ.length=X.N.length
section
variable{X:Cx}{pins:List (YT×Obj)}{σ:List (Option V)}{H H':Hp}{s:YS}{h':Heap}
theorem Cx.Ok.nofr(ok:X.Ok){b:YT}{o:Obj}(e:X.base.get? b=some o):b∉X.fs:=λhb=>by
 have:=(ok.funs.mem hb).1;rw[e]at this;cases this
theorem Inv.bs(I:Inv X pins σ H s):∀ b o,X.base.get? b=some o->s.heap.get? b=some o/\H b=none:=λb o e=>
 ⟨I.base.keep b o (I.ok.bs b o e).1 (I.ok.bs b o e).2 (I.ok.nofr e) (I.ok.noex b o e),I.base.free b o (I.ok.bs b o e).1 (I.ok.bs b o e).2 (I.ok.noex b o e)⟩
theorem Inv.bk(I:Inv X pins σ H s):∀ b o,X.base.get? b=some o->s.heap.get? b=some o:=λb o e=>(I.bs b o e).1
theorem Inv.mod(I:Inv X pins σ H s):Mod X.K X.mg X.base:=I.ok.mod
theorem Inv.kIn(I:Inv X pins σ H s):X.K.In s.heap:=I.ok.mod.kin.keeps I.bk
theorem Inv.nolimit(I:Inv X pins σ H s):s.heap.NoLimit:=I.ok.mod.nolimit.keeps I.bk
theorem Inv.fr(I:Inv X pins σ H s):∃ m,Fr X.base X.env.locals s.heap m:=
 let ⟨m,hn,_⟩:=I.loc
 ⟨m,hn,I.bk,Ux I.ok.bsz I.ok.above⟩
theorem Inv.lt(I:Inv X pins σ H s):X.env.locals<s.heap.objs.size:=let ⟨_,hn,_⟩:=I.loc;hn.lt
theorem Inv.sz(I:Inv X pins σ H s):X.s₀.heap.objs.size<=s.heap.objs.size:=Ux I.ok.above (Vf I.lt)
theorem Inv.nofs(I:Inv X pins σ H s){a:YT}(h:s.heap.objs.size<=a):a∉X.fs:=λhb=>by
 obtain⟨_,o,ho,_⟩:=I.ok.funs.mem hb;exact absurd (Us (UX ho) (Ux I.sz h)) (Vr _)
theorem Inv.cne(I:Inv X pins σ H s):∀ x c,X.env.cells.lookup x=some c->c≠X.env.locals:=λx c e z=>by
 obtain⟨v,o,ho,hd⟩:=I.cell x c e;obtain⟨m,⟨o',es,ep,ho',hd',_⟩,_⟩:=I.loc;rw[z,ho']at ho;cases ho;rw[hd']at hd;cases hd
theorem Inv.funs(I:Inv X pins σ H s):s.heap.FunFrames X.base X.outer:=by
 have all:∀(l:List Env),(∀ b∈frs l,b∈X.fs)->X.s₀.heap.FunFrames X.base l->s.heap.FunFrames X.base l:=by
  intro l
  induction l with
  | nil=>intro _ _;trivial
  | cons env r ih=>
    intro hs hl;obtain⟨hk,⟨L,o,hf,hn,ho,hd⟩,hr⟩:=hl;have hL:L∈X.fs:=hs L (by unfold frs;rw[Wk,hf];exact Uh);obtain⟨sl,e⟩:=I.base.slot L o ho (I.ok.frf L hL) hL λz=>I.ok.exfs L z hL;exact⟨hk,⟨L,_,hf,hn,e,hd⟩,ih (λb hb=>hs b (by unfold frs;rw[Wk,hf];exact Uc _ hb)) hr⟩
 exact all X.outer (λ_ hb=>hb) I.ok.funs
theorem Inv.stack(I:Inv X pins σ H s):s.heap.FunFrames X.base X.stack:=by
 rcases I.ok.stk with e | ⟨e,hf⟩
 ·rw[e];exact I.funs
 ·rw[e];obtain⟨m,hn,_⟩:=I.loc;refine .cons (by rw[I.ok.kind];decide) hf hn ?_ I.funs;exact XN (Ux I.ok.bsz I.ok.above)
theorem Inv.stkSub(I:Inv X pins σ H s):∀ b∈frs X.stack,b∈X.env.locals::X.fs:=λb hb=>by
 rcases I.ok.stk with e | ⟨e,hf⟩
 ·rw[e]at hb;exact Uc _ hb
 ·rw[e]at hb;unfold frs at hb;rw[Wk,hf]at hb;exact hb
theorem Inv.stkFree(I:Inv X pins σ H s):∀ b∈frs X.stack,H b=none:=λb hb=>by
 rcases Ub.mp (I.stkSub b hb) with e | hb
 ·rw[e];exact I.free
 ·obtain⟨_,o,ho,_⟩:=I.ok.funs.mem hb;exact I.base.free b o ho (I.ok.frf b hb) λz=>I.ok.exfs b z hb
theorem Inv.step{g':Array A04}{t':Nat}{d':Drawn}{ch:List YT}(I:Inv X pins σ H s)
 (hch:∀ b∈ch,(b∈X.ex\/X.s₀.heap.objs.size<=b)/\b≠X.env.locals/\(∀ x c,X.env.cells.lookup x=some c->c≠b)/\∀ p∈X.pn++pins,p.1≠b)
 (keep:∀ b o,b≠X.env.locals->b∉X.fs->b∉ch->s.heap.get? b=some o->H b=none->h'.get? b=some o)
 (slot:∀ b o,b≠X.env.locals->b∈X.fs->b∉ch->s.heap.get? b=some o->H b=none->∃ sl,h'.get? b=some {o with slots:=sl}) (free:∀ b o,b∉ch->s.heap.get? b=some o->H b=none->H' b=none)
 (there:∀ b o,b∉ch->s.heap.get? b=some o->∃ o',h'.get? b=some o')
 (tups:∀ b xs,H b=some (.tup xs)->H' b=some (.tup xs)) (frzs:∀ b o u,H b=some (.frz o (.lst u))->H' b=some (.frz o (.lst u))) (tbls:∀ b ps,H b=some (.tbl ps)->∃ more,H' b=some (.tbl (ps++more)))
 (ns:∀ m,s.heap.Ns X.env.locals m->h'.Ns X.env.locals m) (hok:HOk X.prog X.w H' h') (hg:AllBare g'):
 Inv X pins σ H' {s with heap:=h',gens:=g',drawn:=d',toks:=t'}:=by
 have neL:∀ b o,X.s₀.heap.get? b=some o->b≠X.env.locals:=λb o e=>Ug (Us (UX e) I.ok.above)
 have neC:∀ b o,X.s₀.heap.get? b=some o->b∉X.ex->b∉ch:=λb o e hx hb=>by
  rcases(hch b hb).1 with z | z
  ·exact hx z
  ·exact absurd (Us (UX e) z) (Vr _)
 have cellK:∀ x c,X.env.cells.lookup x=some c->∀ v,s.heap.IsCell c v->h'.IsCell c v:=λx c e v ⟨o,ho,hd⟩=>by
  have nch:c∉ch:=λz=>(hch c z).2.2.1 x c e rfl;by_cases hc:c∈X.fs
  ·obtain⟨sl,q⟩:=slot c o (I.cne x c e) hc nch ho (I.freeC x c e);exact⟨_,q,hd⟩
  ·exact⟨o,keep c o (I.cne x c e) hc nch ho (I.freeC x c e),hd⟩
 refine⟨I.ok,I.os,hg,⟨λb o e n hb hx=>?_,λb o e n hb hx=>?_,λb o e n hx=>?_,λb o e hx=>?_,λb xs e=>tups b xs (I.base.tups b xs e),λb o xs e=>frzs b o xs (I.base.frzs b o xs e),λb ps e=>?_⟩,?_,λx c e=>?_,?_,λx c e=>?_,λp hp=>?_,hok,I.len⟩
 ·exact keep b o (neL b o e) hb (neC b o e hx) (I.base.keep b o e n hb hx) (I.base.free b o e n hx)
 ·obtain⟨sl,e1⟩:=I.base.slot b o e n hb hx;obtain⟨sl',e2⟩:=slot b _ (neL b o e) hb (neC b o e hx) e1 (I.base.free b o e n hx);exact⟨sl',e2⟩
 ·obtain⟨o',e1⟩:=I.base.there b o e hx;exact free b o' (neC b o e hx) e1 (I.base.free b o e n hx)
 ·obtain⟨o',e1⟩:=I.base.there b o e hx;exact there b o' (neC b o e hx) e1
 ·obtain⟨m1,e1⟩:=I.base.tbls b ps e;obtain⟨m2,e2⟩:=tbls b _ e1;exact⟨m1++m2,by rw[e2,Array.append_assoc]⟩
 ·obtain⟨m,hn,hl⟩:=I.loc;refine⟨m,ns m hn,λi x v e1 e2 e3=>?_⟩;obtain⟨u,r,l⟩:=hl i x v e1 e2 e3;refine⟨u,r,?_⟩;rcases l with l | ⟨k,c,e,z⟩
  ·exact .inl l
  ·exact .inr ⟨k,c,e,cellK x c e _ z⟩
 ·obtain⟨v,z⟩:=I.cell x c e;exact⟨v,cellK x c e v z⟩
 ·obtain⟨m,⟨o,_,_,ho,_⟩,_⟩:=I.loc;exact free _ o (λz=>(hch _ z).2.1 rfl) ho I.free
 ·obtain⟨v,o,ho,hd⟩:=I.cell x c e;exact free c o (λz=>(hch c z).2.2.1 x c e rfl) ho (I.freeC x c e)
 ·obtain⟨e,n,ne,nf,d⟩:=I.pin p hp;have nch:p.1∉ch:=λz=>(hch p.1 z).2.2.2 p hp rfl;exact⟨keep p.1 p.2 ne nf nch e n,free p.1 p.2 nch e n,ne,nf,d⟩
theorem Inv.un{t':Nat}(I:Inv X pins σ H s)(u:Un X.fs [] H H' s.heap h')(hok:HOk X.prog X.w H' h'):Inv X pins σ H' {s with heap:=h',toks:=t'}:=by
 obtain⟨m,⟨o,es,ep,ho,r⟩,_⟩:=id I.loc;obtain⟨sl,hL⟩:=u.any ho I.free (by simp)
 exact I.step (g':=s.gens) (d':=s.drawn) (ch:=[]) (λ_ z=>nomatch z) (λb o _ hb _ e n=>u.keep b o e n hb (by simp)) (λb o _ hb _ e n=>u.slot b o e n hb (by simp)) (λb o _ e n=>u.free b o e n (by simp)) (λb o _ e=>u.there b o e (by simp)) u.tups u.frzs u.tbls (λm' hm=>by
  obtain⟨o',es',ep',ho',r'⟩:=hm;rw[ho]at ho';cases ho';exact⟨_,es',ep',hL,r'⟩) hok I.bare
theorem Inv.call{g':Array A04}{t':Nat}{d':Drawn}{ch:List YT}(I:Inv X pins σ H s)(u:Un (frs X.stack) ch H H' s.heap h')(hok:HOk X.prog X.w H' h')(hg:AllBare g')
 (hch:∀ b∈ch,(b∈X.ex\/X.s₀.heap.objs.size<=b)/\b≠X.env.locals/\(∀ x c,X.env.cells.lookup x=some c->c≠b)/\∀ p∈X.pn++pins,p.1≠b):
 Inv X pins σ H' {s with heap:=h',gens:=g',drawn:=d',toks:=t'}:=by
 obtain⟨m,⟨o,es,ep,ho,r⟩,_⟩:=id I.loc;obtain⟨sl,hL⟩:=u.any ho I.free λz=>(hch _ z).2.1 rfl
 exact I.step (ch:=ch) hch (λb o hL hb hc e n=>u.keep b o e n (λz=>(Ub.mp (I.stkSub b z)).elim hL hb) hc) (λb o _ _ hc e n=>u.any e n hc) (λb o hc e n=>u.free b o e n hc) (λb o hc e=>u.there b o e hc) u.tups u.frzs u.tbls (λm' hm=>by
  obtain⟨o',es',ep',ho',r'⟩:=hm;rw[ho]at ho';cases ho';exact⟨_,es',ep',hL,r'⟩) hok hg
theorem Inv.turned{t':Nat}{it:YT}(I:Inv X pins σ H s)(k:∀ b o,b≠it->s.heap.get? b=some o->h'.get? b=some o)(hn:H it=none)(hL:it≠X.env.locals)
 (h1:it∈X.ex\/X.s₀.heap.objs.size<=it) (h2:∀ x c,X.env.cells.lookup x=some c->c≠it) (h3:∀ p∈X.pn++pins,p.1≠it):Inv X pins σ H {s with heap:=h',toks:=t'}:=by
 have nit:∀ b u,H b=some u->b≠it:=λb u e z=>by rw[z,hn]at e;cases e
 refine I.step (g':=s.gens) (d':=s.drawn) (ch:=[it]) (λb hb=>?_) (λb o _ _ hc e _=>k b o (λz=>hc (by simp[z])) e) (λb o _ _ hc e _=>⟨o.slots,k b o (λz=>hc (by simp[z])) e⟩) (λ_ _ _ _ n=>n)
  (λb o hc e=>⟨o,k b o (λz=>hc (by simp[z])) e⟩) (λ_ _ e=>e) (λ_ _ _ e=>e) (λb ps e=>⟨#[],by rw[e];simp⟩) (λm hm=>?_) (λb u e=>?_) I.bare
 ·have e:b=it:=by simpa using hb
  subst e;exact⟨h1,hL,h2,h3⟩
 ·obtain⟨o,es,ep,ho,r⟩:=hm;exact⟨o,es,ep,k _ o (Ne.symm hL) ho,r⟩
 ·refine(I.hok b u e).stay (λc v hc q=>k c v ?_ q) (λ_ q=>q) λ_ _ q=>q;rcases hc with z | z
  ·rw[z];exact nit b u e
  ·exact nit c _ z
theorem Inv.tok(I:Inv X pins σ H s)(t:Nat):Inv X pins σ H {s with toks:=t}:=I.un (h':=s.heap) (t':=t) Un.refl I.hok
theorem Inv.kept{t':Nat}(I:Inv X pins σ H s)(k:∀ b u,s.heap.get? b=some u->h'.get? b=some u):Inv X pins σ H {s with heap:=h',toks:=t'}:=I.un (Un.kept k) (I.hok.kept k)
theorem Inv.laid{a:YT}{o:HO}{t':Nat}(I:Inv X pins σ H s)(k:∀ b u,s.heap.get? b=some u->h'.get? b=some u)(hp:s.heap.objs.size<=a)(new:ObjOk X.prog X.w (upd H a o) h' a o):
 Inv X pins σ (upd H a o) {s with heap:=h',toks:=t'}:=I.un (Un.laid k hp (I.hok.fresh hp)) (I.hok.laid k hp new)
theorem Inv.write{x e:YT}{o:HO}{t':Nat}(I:Inv X pins σ H s)(mu:Mut (H x))(he:e=x\/H e=some (.own x))(k:∀ b u,b≠e->s.heap.get? b=some u->h'.get? b=some u)(heo:∃ u,h'.get? e=some u)
 (new:ObjOk X.prog X.w (upd H x o) h' x o):Inv X pins σ (upd H x o) {s with heap:=h',toks:=t'}:=I.un (Un.write mu he k heo) (I.hok.write mu he k heo new)
theorem Inv.weak{σ':List (Option V)}(I:Inv X pins σ H s)(hl:σ'.length=σ.length)(w:∀(i:Nat) v,σ'[i]?=some (some v)->σ[i]?=some (some v)):Inv X pins σ' H s:=
 ⟨I.ok,I.os,I.bare,I.base,let ⟨m,hn,hl'⟩:=I.loc;⟨m,hn,λi x v e1 e2 e3=>hl' i x v e1 (w i v e2) e3⟩,I.cell,I.free,I.freeC,I.pin,I.hok,hl.trans I.len⟩
theorem Inv.pins_of{pins':List (YT×Obj)}(I:Inv X pins σ H s)(h:∀ p∈pins',s.heap.get? p.1=some p.2/\H p.1=none/\p.1≠X.env.locals/\p.1∉X.fs/\∀ v,p.2.data ≠ .cell v):Inv X pins' σ H s:=
 ⟨I.ok,I.os,I.bare,I.base,I.loc,I.cell,I.free,I.freeC,λp hp=>(Ul.mp hp).elim (λz=>I.pin p (Um _ z)) (h p),I.hok,I.len⟩
theorem Ed{N:List Str}(hN:N.Nodup){i j:Nat}{x:Str}(a:N[i]?=some x)(b:N[j]?=some x):i=j:=by
 obtain⟨h1,e1⟩:=gM a;obtain⟨h2,e2⟩:=gM b;exact(Xo hN).mp (e1.trans e2.symm)
theorem DW{M:Model}{A:Yf}{E:YQ->YS->Prop}{i:Nat}{x:Str}{v:V}{u:YQ}{Q:Unit->YS->Prop}(I:Inv X pins σ H s)(hN:X.N.Nodup)(hi:X.N[i]?=some x)(hx:Loc X.env.scope x)(r:RelV v u)
 (h:∀ s',Inv X pins (σ.set i (some v)) H s'->(∃ a,Uz a s.heap s'.heap/\(a=X.env.locals\/X.env.cells.lookup x=some a))->Q () s') (hf:X.fn x=true\/X.env.scope.names.lookup x=some .local:=by first | exact .inl rfl | exact .inr rfl | assumption):YY M A (storeName X.env x u) Q E s:=by
 obtain⟨m,hn,hl⟩:=id I.loc;have hcls:(X.env.scope.kind == .class||(X.env.scope.kind == .module&&X.env.locals != X.env.globals))=false:=by rw[I.ok.kind];rfl
 have hiσ:i<σ.length:=by rw[I.len];exact(gM hi).1
 have cne:=I.cne
 have tracked:∀{a:YT} {h':Heap},(∃ o,s.heap.get? a=some o/\H a=none)->Uz a s.heap h'->HOk X.prog X.w H h':=λ{a h'} ha hs b ob e=>by
  obtain⟨_,_,hfree⟩:=ha;refine(I.hok b ob e).stay (λc w' hc q=>(hs.2 c ?_).trans q) (λ_ q=>q) λ_ _ q=>q;rintro rfl;rcases hc with rfl | hc
  ·rw[hfree]at e;cases e
  ·rw[hfree]at hc;cases hc
 rcases hx with hk | hk
 ·refine wpAny_storeName_local hk hn (λh' hn' hs=>?_) hcls;obtain⟨oL,_,_,hoL,_⟩:=id hn;refine h _ ⟨I.ok,I.os,I.bare,⟨λb o e n hb hx=>?_,λb o e n hb hx=>?_,I.base.free,λb o e hx=>?_,I.base.tups,I.base.frzs,I.base.tbls⟩,⟨_,hn',λj y v' e1 e2 e3=>?_⟩,λy c e=>?_,I.free,I.freeC,λp hp=>?_,tracked ⟨oL,hoL,I.free⟩ hs,by simpa using I.len⟩ ⟨_,hs,.inl rfl⟩
  ·exact(hs.2 b (Ug (Us (UX e) I.ok.above))).trans (I.base.keep b o e n hb hx)
  ·obtain⟨sl,e1⟩:=I.base.slot b o e n hb hx;exact⟨sl,(hs.2 b (Ug (Us (UX e) I.ok.above))).trans e1⟩
  ·obtain⟨o',e1⟩:=I.base.there b o e hx;exact⟨o',(hs.2 b (Ug (Us (UX e) I.ok.above))).trans e1⟩
  ·by_cases hj:j=i
   ·subst hj;rw[hi]at e1;cases e1;rw[Ut hiσ]at e2;cases e2;exact⟨u,r,.inl ⟨hk,by simp⟩⟩
   ·rw[V7 (Ne.symm hj)]at e2;obtain⟨u',r',q⟩:=hl j y v' e1 e2 e3;refine⟨u',r',?_⟩;rcases q with⟨k,e⟩ | ⟨k,c,e,z⟩
    ·refine .inl ⟨k,?_⟩;have:y≠x:=λe=>hj (Ed hN e1 (e▸hi));simp[this,e]
    ·exact .inr ⟨k,c,e,z.sameBut hs (cne y c e)⟩
  ·obtain⟨w',z⟩:=I.cell y c e;exact⟨w',z.sameBut hs (cne y c e)⟩
  ·obtain⟨e,n,ne,nf,d⟩:=I.pin p hp;exact⟨(hs.2 p.1 ne).trans e,n,ne,nf,d⟩
 ·have hfn:X.fn x=true:=by
   rcases hf with z | z
   ·exact z
   ·rw[z]at hk;cases hk
  obtain⟨c,hc⟩:=I.ok.has x (.inl hk);obtain⟨w',z⟩:=I.cell x c hc;refine wpAny_storeName_cell I.ok.kind hk hc z (λh' hc' hs=>?_);obtain⟨oc,hoc,hocd⟩:=id z;refine h {s with heap:=h'} ⟨I.ok,I.os,I.bare,⟨λb o e n hb hx=>?_,λb o e n hb hx=>?_,I.base.free,λb o e hx=>?_,I.base.tups,I.base.frzs,I.base.tbls⟩,⟨m,hn.sameBut hs (Ne.symm (cne x c hc)),λj y v' e1 e2 e3=>?_⟩,λy c' e=>?_,I.free,I.freeC,λp hp=>?_,tracked ⟨oc,hoc,I.freeC x c hc⟩ hs,by simpa using I.len⟩ ⟨c,hs,.inr hc⟩
  ·exact(hs.2 b (Ug (Us (UX e) (I.ok.cab x c hfn hc)))).trans (I.base.keep b o e n hb hx)
  ·obtain⟨sl,e1⟩:=I.base.slot b o e n hb hx;exact⟨sl,(hs.2 b (Ug (Us (UX e) (I.ok.cab x c hfn hc)))).trans e1⟩
  ·obtain⟨o',e1⟩:=I.base.there b o e hx;exact⟨o',(hs.2 b (Ug (Us (UX e) (I.ok.cab x c hfn hc)))).trans e1⟩
  ·by_cases hj:j=i
   ·subst hj;rw[hi]at e1;cases e1;rw[Ut hiσ]at e2;cases e2;exact⟨u,r,.inr ⟨.inl hk,c,hc,hc'⟩⟩
   ·rw[V7 (Ne.symm hj)]at e2;obtain⟨u',r',q⟩:=hl j y v' e1 e2 e3;refine⟨u',r',?_⟩;rcases q with q | ⟨k,c',e,z'⟩
    ·exact .inl q
    ·refine .inr ⟨k,c',e,z'.sameBut hs ?_⟩;rintro rfl;exact hj (Ed hN e1 (I.ok.inj _ _ _ e hc▸hi))
  ·by_cases hcc:c'=c
   ·subst hcc;exact⟨_,hc'⟩
   ·obtain⟨w2,z2⟩:=I.cell y c' e;exact⟨w2,z2.sameBut hs hcc⟩
  ·obtain⟨e,n,ne,nf,d⟩:=I.pin p hp;refine⟨(hs.2 p.1 ?_).trans e,n,ne,nf,d⟩;intro q;rw[q,hoc]at e;have q':oc=p.2:=oj e;exact d w' (by rw[<-q'];exact hocd)
theorem Ee{M:Model}{A:Yf}{E:YQ->YS->Prop}{i:Nat}{x:Str}{v:V}{u:YQ}{Q:Unit->YS->Prop}(I:Inv X pins σ H s)(hN:X.N.Nodup)(hi:X.N[i]?=some x)(hx:Loc X.env.scope x)(r:RelV v u)
 (h:∀ s',Inv X pins (σ.set i (some v)) H s'->Q () s') (hf:X.fn x=true\/X.env.scope.names.lookup x=some .local:=by first | exact .inl rfl | exact .inr rfl | assumption):YY M A (storeName X.env x u) Q E s:=
 DW I hN hi hx r (λs' I' _=>h s' I') hf
theorem Inv.call'{s':YS}{ch:List YT}(I:Inv X pins σ H s)(ho:s'.os=s.os)(u:Un (frs X.stack) ch H H' s.heap s'.heap)(hok:HOk X.prog X.w H' s'.heap)(hg:AllBare s'.gens)
 (hch:∀ b∈ch,(b∈X.ex\/X.s₀.heap.objs.size<=b)/\b≠X.env.locals/\(∀ x c,X.env.cells.lookup x=some c->c≠b)/\∀ p∈X.pn++pins,p.1≠b):Inv X pins σ H' s':=by
 obtain⟨h',g',d',t',o'⟩:=s';have e:o'=s.os:=ho;subst e;exact I.call (g':=g') (t':=t') (d':=d') u hok hg hch
end
noncomputable abbrev XK:=YQ->Option YT->Hp->Prop
noncomputable abbrev St:=List (Option V)
noncomputable abbrev VK:=V->Hp->Prop
noncomputable abbrev TE:=St->Hp->VK->Prop
noncomputable abbrev TT:=St->Hp->(Bool->Hp->Prop)->Prop
noncomputable abbrev TA:=St->Hp->(List V->Hp->Prop)->Prop
structure Ends where
 nx:St->Hp->Prop
 rt:VK
 bk:St->Hp->Prop:=λ_ _=>False
 ct:St->Hp->Prop:=λ_ _=>False
noncomputable abbrev TS:=Ends->St->Hp->Prop
noncomputable def EP(X:Cx)(pins:List (YT×Obj))(σ:St)(Q:VK)(u:YQ)(s':YS):Prop:=∃ v H',Inv X pins σ H' s'/\RelV v u/\Q v H'
noncomputable def TP(X:Cx)(pins:List (YT×Obj))(σ:St)(Q:Bool->Hp->Prop)(b:Bool)(s':YS):Prop:=∃ H',Inv X pins σ H' s'/\Q b H'
noncomputable def AP(X:Cx)(pins:List (YT×Obj))(σ:St)(Q:List V->Hp->Prop)(us:List YQ)(s':YS):Prop:=∃ vs H',Inv X pins σ H' s'/\Vals vs us/\Q vs H'
noncomputable def SP(X:Cx)(pins:List (YT×Obj))(D:Ends)(f:Flow)(s':YS):Prop:=
 match f with
 | .next=>∃ σ' H',Inv X pins σ' H' s'/\D.nx σ' H'
 | .brk=>∃ σ' H',Inv X pins σ' H' s'/\D.bk σ' H'
 | .cont=>∃ σ' H',Inv X pins σ' H' s'/\D.ct σ' H'
 | .ret u=>∃ v σ' H',Inv X pins σ' H' s'/\RelV v u/\D.rt v H'
noncomputable def PE(X:Cx)(e:Expr)(t:TE):Prop:=
 ∀(pins:List (YT×Obj)) (s:YS) (σ:St) (H:Hp) (Q:VK),Inv X pins σ H s->t σ H Q->YY (YX X.prog X.w) X.A (eval e X.env) (EP X pins σ Q) X.xe s
noncomputable def PT(X:Cx)(e:Expr)(t:TT):Prop:=
 ∀(pins:List (YT×Obj)) (s:YS) (σ:St) (H:Hp) (Q:Bool->Hp->Prop),Inv X pins σ H s->t σ H Q->YY (YX X.prog X.w) X.A (isTrue e X.env (eval e X.env)) (TP X pins σ Q) X.xe s
noncomputable def PW(X:Cx)(e:Expr)(t:TT):Prop:=
 ∀(whole:Sem YQ) (pins:List (YT×Obj)) (s:YS) (σ:St) (H:Hp) (Q:Bool->Hp->Prop),Inv X pins σ H s->t σ H Q->YY (YX X.prog X.w) X.A (isTrue e X.env whole) (TP X pins σ Q) X.xe s
theorem PW.pt{X:Cx}{e:Expr}{t:TT}(h:PW X e t):PT X e t:=h _
noncomputable def PA(X:Cx)(es:List Expr)(t:TA):Prop:=
 ∀(pos:Pos) (pins:List (YT×Obj)) (s:YS) (σ:St) (H:Hp) (Q:List V->Hp->Prop),Inv X pins σ H s->t σ H Q->YY (YX X.prog X.w) X.A (spliced (backTo pos (Yg es X.env))) (AP X pins σ Q) X.xe s
noncomputable def PS(X:Cx)(st:Stmt)(t:TS):Prop:=
 ∀(pins:List (YT×Obj)) (s:YS) (σ:St) (H:Hp) (D:Ends),Inv X pins σ H s->t D σ H->YY (YX X.prog X.w) X.A (exec st X.env) (SP X pins D) X.xe s
noncomputable def PSs(X:Cx)(st:List Stmt)(t:TS):Prop:=
 ∀(pins:List (YT×Obj)) (s:YS) (σ:St) (H:Hp) (D:Ends),Inv X pins σ H s->t D σ H->YY (YX X.prog X.w) X.A (execs st X.env) (SP X pins D) X.xe s
theorem thn{α:Type}{t:Sem α}{Q Q':α->YS->Prop}{M:Model}{A:Yf}{E:YQ->YS->Prop}{s:YS}(h:YY M A t Q E s)(hQ:∀ a s,Q a s->Q' a s):YY M A t Q' E s:=Yo h hQ λ_ _ x=>x
section
variable{X:Cx}
noncomputable def N6(i:Nat):TE:=λσ H Q=>∃ v,σ[i]?=some (some v)/\Q v H
noncomputable def tC(v:V):TE:=λ_ H Q=>Q v H
theorem Py{i:Nat}{x:Str}{pos:Pos}(hN:X.N[i]?=some x)(hv:Vis X.env.scope x)(hd:(x == ("__debug__":Str))=false:=by decide)(hcd:(x == ("__classdict__":Str))=false:=by decide):PE X (.Name x pos) (N6 i):=by
 intro pins s σ H Q I h;obtain⟨v,e,h⟩:=h;obtain⟨m,hn,hl⟩:=I.loc;obtain⟨u,r,l⟩:=hl i x v hN e hv;have fin:EP X pins σ Q u s:=⟨v,H,I,r,h⟩
 rcases l with⟨hk,hm⟩ | ⟨hk,c,hc,hcell⟩
 ·exact A0J (wpAny_loadName_local I.ok.kind hk hn hm fin) hd
 ·rcases hk with hk | hk
  ·exact A0J (wpAny_loadName_cell I.ok.kind hk hc hcell fin) hd
  ·exact A0J (wpAny_loadName_free I.ok.kind hk hc hcell fin hcd) hd
theorem Jt{i j pos}:PE X (.Constant (.int i) j pos) (tC (.int i)):=λ_ _ _ H _ I h=>wpAny_Constant_int ⟨.int i,H,I.tok _,⟨_,rfl⟩,h⟩
theorem Rp{b j pos}:PE X (.Constant (.bool b) j pos) (tC (.bl b)):=λ_ _ _ H _ I h=>Constant_bool ⟨.bl b,H,I,rfl,h⟩
theorem Pz{j pos}:PE X (.Constant .none j pos) (tC .non):=λ_ _ _ H _ I h=>Constant_none ⟨.non,H,I,rfl,h⟩
theorem Q0{x j pos}:PE X (.Constant (.str x) j pos) (tC (.str x)):=λ_ _ _ H _ I h=>Calls.Constant_str ⟨.str x,H,I.tok _,⟨_,rfl⟩,h⟩
noncomputable def Gl(X:Cx)(x:Str):Prop:=X.env.kindOf x=some .globalImplicit
theorem N7{E:YQ->YS->Prop}{pins:List (YT×Obj)}{s:YS}{σ:St}{H:Hp}{x:Str}{u:YQ}{pos:Pos}{Q:YQ->YS->Prop}(I:Inv X pins σ H s)(hg:Gl X x)(hm:X.mg x=some u)(h:Q u s)
 (hd:(x == ("__debug__":Str))=false:=by decide):YY (YX X.prog X.w) X.A (eval (.Name x pos) X.env) Q E s:=
 Calls.Name_function_global I.ok.kind hg (Calls.loadGlobal_global (by rw[I.ok.glob];exact I.mod.glob.keeps I.bk) hm h) hd
theorem At{E:YQ->YS->Prop}{pins:List (YT×Obj)}{s:YS}{σ:St}{H:Hp}{x:Str}{u:YQ}{pos:Pos}{Q:YQ->YS->Prop}(I:Inv X pins σ H s)(hg:Gl X x)(hm:X.mg x=none)(hv:Yd x=some u)(h:Q u s)
 (hn:x≠"__name__":=by decide) (hd:(x == ("__debug__":Str))=false:=by decide):YY (YX X.prog X.w) X.A (eval (.Name x pos) X.env) Q E s:=by
 obtain⟨mb,h1,h2⟩:=I.mod.blt;exact Calls.Name_function_global I.ok.kind hg (Calls.loadGlobal_builtin (by rw[I.ok.glob];exact I.mod.glob.keeps I.bk) hm (by rw[I.ok.blt];exact h1.keeps I.bk) ((h2 x hn).trans hv) h) hd
theorem N8{x:Str}{v:V}{u:YQ}{pos:Pos}(hg:Gl X x)(hm:X.mg x=none)(hv:Yd x=some u)(r:RelV v u)(hn:x≠"__name__":=by decide)(hd:(x == ("__debug__":Str))=false:=by decide):PE X (.Name x pos) (tC v):=
 λ_ _ _ H _ I h=>At I hg hm hv ⟨v,H,I,r,h⟩ hn hd
variable{a b:Expr}{ta tb:TE}{pos:Pos}
variable{tA tB':TT}{rest:List Expr}
noncomputable def Rq(t u:TT):TT:=λσ H Q=>t σ H λc H1=>if c=true then u σ H1 Q else Q false H1
noncomputable def tOr(t u:TT):TT:=λσ H Q=>t σ H λc H1=>if c=true then Q true H1 else u σ H1 Q
noncomputable def Rr(t:TT):TT:=λσ H Q=>t σ H λc H1=>Q (!c) H1
theorem N9(ha:PT X a tA):PW X (.BoolOp .And [a] pos) tA:=by
 intro wh pins s σ H Q I h;refine isTrue_and (thn (ha pins s σ H Q I h) λc s1 e=>?_);cases c with
 | true=>exact isTrue_and_nil e
 | false=>exact e
theorem Q1(ha:PT X a tA):PW X (.BoolOp .Or [a] pos) tA:=by
 intro wh pins s σ H Q I h;refine isTrue_or (thn (ha pins s σ H Q I h) λc s1 e=>?_);cases c with
 | false=>exact isTrue_or_nil e
 | true=>exact e
theorem Ju(ha:PT X a tA)(hb:PW X (.BoolOp .And (b::rest) pos) tB'):PW X (.BoolOp .And (a::b::rest) pos) (Rq tA tB'):=by
 intro wh pins s σ H Q I h;refine isTrue_and (thn (ha pins s σ H _ I h) λc s1 ⟨H1,I1,q1⟩=>?_);cases c with
 | true=>exact hb wh pins s1 σ H1 Q I1 q1
 | false=>exact⟨H1,I1,q1⟩
theorem P5(ha:PT X a tA)(hb:PW X (.BoolOp .Or (b::rest) pos) tB'):PW X (.BoolOp .Or (a::b::rest) pos) (tOr tA tB'):=by
 intro wh pins s σ H Q I h;refine isTrue_or (thn (ha pins s σ H _ I h) λc s1 ⟨H1,I1,q1⟩=>?_);cases c with
 | true=>exact⟨H1,I1,q1⟩
 | false=>exact hb wh pins s1 σ H1 Q I1 q1
theorem Q2(ha:PT X a tA):PT X (.UnaryOp .Not a pos) (Rr tA):=by
 intro pins s σ H Q I h;exact isTrue_not (ha pins s σ H (λc H1=>Q (!c) H1) I h)
noncomputable def P6(ta tb:TE):TE:=λσ H Q=>ta σ H λx H1=>∃ c,x = .bl c/\if c=true then tb σ H1 Q else Q (.bl false) H1
noncomputable def Rt(ta tb:TE):TE:=λσ H Q=>ta σ H λx H1=>∃ c,x = .bl c/\if c=true then Q (.bl true) H1 else tb σ H1 Q
noncomputable def P7(ta:TE):TE:=λσ H Q=>ta σ H λx H1=>∃ c,x = .bl c/\Q (.bl (!c)) H1
theorem Jv{op}{t:TE}(h:PE X a t):PE X (.BoolOp op [a] pos) t:=λpins s σ H Q I hw=>BoolOp_one (h pins s σ H Q I hw)
theorem Jw(ha:PE X a ta)(hb:PE X (.BoolOp .And (b::rest) pos) tb):PE X (.BoolOp .And (a::b::rest) pos) (P6 ta tb):=by
 intro pins s σ H Q I h;refine BoolOp_and (thn (ha pins s σ H _ I h) λv s1 ⟨x,H1,I1,r1,q1⟩=>?_);obtain⟨c,rfl,q1⟩:=q1;cases r1;refine Ym ?_;cases c with
 | true=>exact hb pins s1 σ H1 Q I1 q1
 | false=>exact⟨.bl false,H1,I1,rfl,q1⟩
theorem P8(ha:PE X a ta)(hb:PE X (.BoolOp .Or (b::rest) pos) tb):PE X (.BoolOp .Or (a::b::rest) pos) (Rt ta tb):=by
 intro pins s σ H Q I h;refine BoolOp_or (thn (ha pins s σ H _ I h) λv s1 ⟨x,H1,I1,r1,q1⟩=>?_);obtain⟨c,rfl,q1⟩:=q1;cases r1;refine Ym ?_;cases c with
 | false=>exact hb pins s1 σ H1 Q I1 q1
 | true=>exact⟨.bl true,H1,I1,rfl,q1⟩
theorem Q3(ha:PE X a ta):PE X (.UnaryOp .Not a pos) (P7 ta):=by
 intro pins s σ H Q I h;refine UnaryOp_ (thn (ha pins s σ H _ I h) λv s1 ⟨x,H1,I1,r1,q1⟩=>?_);obtain⟨c,rfl,q1⟩:=q1;cases r1;exact not_of (Ym ⟨.bl (!c),H1,I1,rfl,q1⟩)
noncomputable def tIf(t:TT)(ta tb:TE):TE:=λσ H Q=>t σ H λc H1=>if c=true then ta σ H1 Q else tb σ H1 Q
theorem Jx{c:Expr}(hc:PT X c tA)(ha:PE X a ta)(hb:PE X b tb):PE X (.IfExp c a b pos) (tIf tA ta tb):=by
 intro pins s σ H Q I h;refine wpAny_IfExp (thn (hc pins s σ H _ I h) λd s1 ⟨H1,I1,q1⟩=>?_);cases d with
 | true=>exact ha pins s1 σ H1 Q I1 q1
 | false=>exact hb pins s1 σ H1 Q I1 q1
end
noncomputable def SqL(K:UL)(H:Hp)(a:YT)(xs:List V):Prop:=
 Rd H a (.lst xs)\/
  ∃(o:Obj) (its:Array YQ) (n:Nat),K.lookup a=some o/\o.cls = .type "list"/\o.dict=none/\o.data = .seq its n/\its.size<=Yb/\Vals xs its.toList
noncomputable def SqT(K:UL)(H:Hp)(a:YT)(xs:List V):Prop:=
 Rd H a (.tup xs)\/
  ∃(o:Obj) (its:Array YQ) (n:Nat),K.lookup a=some o/\o.cls = .type "tuple"/\o.data = .seq its n/\its.size<=Yb/\Vals xs its.toList
noncomputable def Ty:YQ->Option V
 | .none=>some .non
 | .bool b=>some (.bl b)
 | .int i _=>some (.int i)
 | .str x _=>some (.str x)
 | .bytes b _=>some (.byt b)
 | .float b _=>some (.flt b)
 | .ref a=>some (.ref a)
 | .type n=>some (.ty n)
 | _=>none
theorem RelV.abs{x:V}{u:YQ}(r:RelV x u):Ty u=some x:=by
 cases x with
 | non=>cases r;rfl
 | bl _=>cases r;rfl
 | int _=>obtain⟨t,rfl⟩:=r;rfl
 | str _=>obtain⟨t,rfl⟩:=r;rfl
 | byt _=>obtain⟨t,rfl⟩:=r;rfl
 | flt _=>obtain⟨t,rfl⟩:=r;rfl
 | ref _=>cases r;rfl
 | ty _=>cases r;rfl
theorem RelV.inj{x y:V}{u:YQ}(r:RelV x u)(q:RelV y u):x=y:=oj (r.abs.symm.trans q.abs)
theorem Vals.inj:∀{xs ys:List V} {us:List YQ},Vals xs us->Vals ys us->xs=ys
 | _,_,_,.nil,.nil=>rfl
 | _,_,_,.cons r t,.cons r' t'=>by rw[r.inj r',Vals.inj t t']
section
variable{X:Cx}{pins:List (YT×Obj)}{σ:St}{H:Hp}{s:YS}{a:YT}{xs ys:List V}
theorem SqL.of{K:UL}(h:H a=some (.lst xs)):SqL K H a xs := .inl (.inl h)
theorem SqT.of{K:UL}(h:H a=some (.tup xs)):SqT K H a xs := .inl (.inl h)
theorem Inv.list(I:Inv X pins σ H s)(h:SqL X.K H a xs):∃ its:List YQ,Vals xs its/\PlainL s.heap a its.toArray/\xs.length<=Yb:=by
 rcases h with h | ⟨o,its,n,hk,hc,hd,hs,hz,r⟩
 ·obtain⟨z,its,n,r,e⟩:=h.ok I.hok;exact⟨its,r,⟨_,n,e,rfl,rfl,rfl⟩,z⟩
 ·refine⟨its.toList,r,⟨o,n,I.kIn a o hk,hc,hd,by simpa using hs⟩,?_⟩;have e:=r.length;simp only[UU]at e;omega
theorem Inv.tuple(I:Inv X pins σ H s)(h:SqT X.K H a xs):∃ its:List YQ,Vals xs its/\IsTup s.heap a its.toArray/\xs.length<=Yb:=by
 rcases h with h | ⟨o,its,n,hk,hc,hs,hz,r⟩
 ·obtain⟨z,its,r,p⟩:=h.ok I.hok;exact⟨its,r,p,z⟩
 ·refine⟨its.toList,r,⟨o,I.kIn a o hk,hc,n,by simpa using hs⟩,?_⟩;have e:=r.length;simp only[UU]at e;omega
theorem Inv.list_inj(I:Inv X pins σ H s)(h:SqL X.K H a xs)(h':SqL X.K H a ys):xs=ys:=by
 obtain⟨its,r,⟨o,n,e,_,_,d⟩,_⟩:=I.list h;obtain⟨its',r',⟨o',n',e',_,_,d'⟩,_⟩:=I.list h';rw[e]at e';cases e';rw[d]at d';injection d' with d1 _;have:its=its':=by simpa using congrArg YD d1
 subst this;exact r.inj r'
theorem Inv.tuple_inj(I:Inv X pins σ H s)(h:SqT X.K H a xs)(h':SqT X.K H a ys):xs=ys:=by
 obtain⟨its,r,⟨o,e,_,n,d⟩,_⟩:=I.tuple h;obtain⟨its',r',⟨o',e',_,n',d'⟩,_⟩:=I.tuple h';rw[e]at e';cases e';rw[d]at d';injection d' with d1 _;have:its=its':=by simpa using congrArg YD d1
 subst this;exact r.inj r'
end
noncomputable abbrev Cx.wish(X:Cx)(E:YQ->YS->Prop):Cx:={X with xe:=E}
noncomputable abbrev Cx.nox(X:Cx):Cx:=X.wish λ_ _=>False
theorem Cx.Ok.wish{X:Cx}(ok:X.Ok)(E:YQ->YS->Prop):(X.wish E).Ok:=
 ⟨ok.mod,ok.kind,ok.glob,ok.blt,ok.above,ok.inj,ok.has,ok.cab,ok.hd,ok.frames,ok.stk,ok.exf,ok.bs,ok.bsz,ok.noex,ok.exfs,ok.funs,ok.frf⟩
theorem Cx.Ok.unwish{X:Cx}{E:YQ->YS->Prop}(ok:(X.wish E).Ok):X.Ok:=
 ⟨ok.mod,ok.kind,ok.glob,ok.blt,ok.above,ok.inj,ok.has,ok.cab,ok.hd,ok.frames,ok.stk,ok.exf,ok.bs,ok.bsz,ok.noex,ok.exfs,ok.funs,ok.frf⟩
section
variable{X:Cx}{pins:List (YT×Obj)}{σ:St}{H:Hp}{s:YS}{E:YQ->YS->Prop}
theorem Inv.wish(I:Inv X pins σ H s)(E:YQ->YS->Prop):Inv (X.wish E) pins σ H s:=⟨I.ok.wish E,I.os,I.bare,I.base,I.loc,I.cell,I.free,I.freeC,I.pin,I.hok,I.len⟩
theorem Inv.unwish(I:Inv (X.wish E) pins σ H s):Inv X pins σ H s:=⟨I.ok.unwish,I.os,I.bare,I.base,I.loc,I.cell,I.free,I.freeC,I.pin,I.hok,I.len⟩
theorem SP.unwish{D:Ends}{f:Flow}{s':YS}(h:SP (X.wish E) pins D f s'):SP X pins D f s':=by
 cases f with
 | next=>obtain⟨σ',H',I,q⟩:=h;exact⟨σ',H',I.unwish,q⟩
 | brk=>obtain⟨σ',H',I,q⟩:=h;exact⟨σ',H',I.unwish,q⟩
 | cont=>obtain⟨σ',H',I,q⟩:=h;exact⟨σ',H',I.unwish,q⟩
 | ret u=>obtain⟨v,σ',H',I,r,q⟩:=h;exact⟨v,σ',H',I.unwish,r,q⟩
theorem PSs.nox{st:List Stmt}{t:TS}(h:PSs X.nox st t):PSs X st t:=λpins s σ H D I hw=>
 Yo (h pins s σ H D (I.wish _) hw) (λ_ _ q=>q.unwish) λ_ _ z=>False.elim z
end
section
variable{X:Cx}{st:Stmt}{rest:List Stmt}{t u:TS}{e:Expr}{te:TE}{pos:Pos}
noncomputable def Rv:TS:=λD σ H=>D.nx σ H
noncomputable def Tz(t u:TS):TS:=λD σ H=>t {D with nx:=u D} σ H
theorem NA:PSs X [] Rv:=λ_ _ σ H _ I h=>Zw ⟨σ,H,I,h⟩
theorem Jy(h1:PS X st t)(h2:PSs X rest u):PSs X (st::rest) (Tz t u):=by
 intro pins s σ H D I h;refine wpAny_execs_cons (thn (h1 pins s σ H {D with nx:=u D} I h) λf s1 q=>?_);cases f with
 | next=>
   obtain⟨σ',H',I',q⟩:=q;exact h2 pins s1 σ' H' D I' q
 | ret v=>exact q
 | brk=>exact q
 | cont=>exact q
theorem Inv.quiet{pins:List (YT×Obj)}{σ:St}{H:Hp}{s:YS}(I:Inv X pins σ H s):interactive X.env=false:=by simp[interactive,I.ok.kind]
noncomputable def Rw(te:TE):TS:=λD σ H=>te σ H λ_ H1=>D.nx σ H1
theorem NB(he:PE X e te)(hs:Z8 e none pos.line X.env=pure false:=by rfl):PS X (.Expr e pos) (Rw te):=by
 intro pins s σ H D I h;exact wpAny_Expr_any (thn (he pins s σ H _ I h) λv s1 ⟨x,H1,I1,r1,q1⟩=>⟨σ,H1,I1,q1⟩) I.quiet hs
noncomputable def U0(te:TE):TS:=λD σ H=>te σ H D.rt
theorem Q4(he:PE X e te):PS X (.Return (some e) pos) (U0 te):=by
 intro pins s σ H D I h;exact wpAny_Return_some (thn (he pins s σ H _ I h) λv s1 ⟨x,H1,I1,r1,q1⟩=>⟨x,σ,H1,I1,r1,q1⟩)
noncomputable def Rx(c:TT)(t u:TS):TS:=λD σ H=>c σ H λb H1=>if b=true then t D σ H1 else u D σ H1
theorem Ry{c:Expr}{a b:List Stmt}{tc:TT}(hc:PT X c tc)(ha:PSs X a t)(hb:PSs X b u):PS X (.If c a b pos) (Rx tc t u):=by
 intro pins s σ H D I h;refine wpAny_If (thn (hc pins s σ H _ I h) λd s1 ⟨H1,I1,q1⟩=>?_);cases d with
 | true=>exact ha pins s1 σ H1 D I1 q1
 | false=>exact hb pins s1 σ H1 D I1 q1
end
noncomputable abbrev TG:=V->St->Hp->(St->Hp->Prop)->Prop
noncomputable abbrev TGs:=List V->St->Hp->(St->Hp->Prop)->Prop
noncomputable def PG(X:Cx)(target:Expr)(t:TG):Prop:=
 ∀(pins:List (YT×Obj)) (s:YS) (σ:St) (H:Hp) (v:V) (u:YQ) (Q:St->Hp->Prop),Inv X pins σ H s->RelV v u->t v σ H Q->
  YY (YX X.prog X.w) X.A (assign target X.env u) (λ_ s'=>∃ σ' H',Inv X pins σ' H' s'/\Q σ' H') X.xe s
noncomputable def PGs(X:Cx)(ts:List Expr)(t:TGs):Prop:=
 ∀(pins:List (YT×Obj)) (s:YS) (σ:St) (H:Hp) (vs:List V) (us:List YQ) (Q:St->Hp->Prop),Inv X pins σ H s->Vals vs us->t vs σ H Q->
  YY (YX X.prog X.w) X.A (assignInOrder ((Yx ts X.env).map (·.2)) us) (λ_ s'=>∃ σ' H',Inv X pins σ' H' s'/\Q σ' H') X.xe s
noncomputable abbrev Q5:=V->V->V->Hp->(Hp->Prop)->Prop
noncomputable def Rz(X:Cx)(t:Q5):Prop:=
 ∀(pins:List (YT×Obj)) (s:YS) (σ:St) (H:Hp) (o i v:V) (ov iv u:YQ) (Q:Hp->Prop),Inv X pins σ H s->RelV o ov->RelV i iv->RelV v u->t o i v H Q->
  YY (YX X.prog X.w) X.A (setItem ov iv u) (λ_ s'=>∃ H',Inv X pins σ H' s'/\Q H') X.xe s
section
variable{X:Cx}{pos:Pos}
noncomputable def Ef(i:Nat):TG:=λv σ H Q=>Q (σ.set i (some v)) H
theorem NC{i:Nat}{x:Str}(hN:X.N.Nodup)(hi:X.N[i]?=some x)(hx:Loc X.env.scope x)(hf:X.fn x=true\/X.env.scope.names.lookup x=some .local:=by first | exact .inl rfl | exact .inr rfl | assumption):PG X (.Name x pos) (Ef i):=by
 intro pins s σ H v u Q I r h;exact A0m (Ee I hN hi hx r (λs' I'=>⟨_,H,I',h⟩) hf)
noncomputable def U1:TGs:=λvs σ H Q=>vs=[]/\Q σ H
noncomputable def S9(t:TG)(u:TGs):TGs:=λvs σ H Q=>∃ v r,vs=v::r/\t v σ H λσ' H'=>u r σ' H' Q
theorem ND:PGs X [] U1:=by
 intro pins s σ H vs us Q I r h;obtain⟨e,h⟩:=h;subst e;cases r;exact assignInOrder_nil ⟨σ,H,I,h⟩
theorem Jz{e:Expr}{es:List Expr}{t:TG}{u:TGs}(h1:PG X e t)(h2:PGs X es u)
 (hs:(Yx (e::es) X.env).map (·.2)=assign e X.env::(Yx es X.env).map (·.2):=by rfl):PGs X (e::es) (S9 t u):=by
 intro pins s σ H vs us Q I r h;obtain⟨v,vr,e1,h⟩:=h;subst e1;cases r with
 | cons r rr=>
   rw[hs];refine assignInOrder_cons (thn (h1 pins s σ H _ _ _ I r h) λ_ s1 ⟨σ1,H1,I1,q1⟩=>?_);exact h2 pins s1 σ1 H1 _ _ Q I1 rr q1
noncomputable def U2(K:UL)(n:Nat)(t:TGs):TG:=λv σ H Q=>∃ a xs,v = .ref a/\SqT K H a xs/\xs.length=n/\t xs σ H Q
theorem Q6{es:List Expr}{k:Nat}{t:TGs}{n:Nat}(hc:X.calm=true)(h:PGs X es t)
 (hn:(Yx es X.env).length=n:=by rfl) (hst:(Yx es X.env).findIdx? (·.1)=none:=by rfl):PG X (.Tuple es k pos) (U2 X.K n t):=by
 intro pins s σ H v u Q I r hw;obtain⟨a,xs,e1,hq,hl,hw⟩:=hw;subst e1;cases r;obtain⟨its,rv,ht,hz⟩:=I.tuple hq;refine assign_Tuple_tuple (I.ok.hd hc) ht (by simp[hn,<-hl,rv.length]) hst λh' hx=>?_;have I1:Inv X pins σ H {s with heap:=h'}:=I.kept (t':=s.toks) λb o e=>hx b o (Ug (UX e)) e;exact h pins _ σ H xs _ Q I1 (by simpa using rv) hw
noncomputable def SA(to ti:TE)(t:Q5):TG:=λv σ H Q=>to σ H λo H1=>ti σ H1 λi H2=>t o i v H2 λH3=>Q σ H3
theorem Q7{o i:Expr}{to ti:TE}{t:Q5}(ho:PE X o to)(hi:PE X i ti)(hs:Rz X t)
 (ha:∀ v,assign (.Subscript o i pos) X.env v=(do
   let ov <- holding [v] (eval o X.env)
   let iv <- holding [v,ov] (eval i X.env)
   standAt pos
   holding [v,ov,iv] (setItem ov iv v)
   release [v,ov,iv] []):=by intro _;rfl):PG X (.Subscript o i pos) (SA to ti t):=by
 intro pins s σ H v u Q I r h;rw[ha];refine YR (Yn (thn (ho pins s σ H _ I h) λov s1 ⟨x,H1,I1,r1,q1⟩=>?_));refine YR (Yn (thn (hi pins s1 σ H1 _ I1 q1) λiv s2 ⟨y,H2,I2,r2,q2⟩=>?_));refine YR (Zk (YR (Yn (thn (hs pins s2 σ H2 x y v ov iv u _ I2 r1 r2 r q2) λ_ s3 ⟨H3,I3,q3⟩=>?_))));exact wpAny_release ⟨σ,H3,I3,q3⟩
noncomputable def Fs(te:TE)(g:TG):TS:=λD σ H=>te σ H λx H1=>g x σ H1 D.nx
theorem K0{tg e:Expr}{te:TE}{g:TG}(he:PE X e te)(hg:PG X tg g)(hs:ZP [tg] e pos.line X.env=pure false:=by rfl)(hw:Z7 [tg] e X.env=pure none:=by rfl)
 (h1:(Yx [tg] X.env).map (·.2)=[assign tg X.env]:=by rfl):PS X (.Assign [tg] e pos) (Fs te g):=by
 intro pins s σ H D I h;refine wpAny_Assign_stores (thn (he pins s σ H _ I h) λv s1 ⟨x,H1,I1,r1,q1⟩=>?_) hs hw;rw[h1];exact thn (hg pins s1 σ H1 x v _ I1 r1 q1) λ_ s2 q=>q
theorem Q8{i:Nat}{x:Str}{e:Expr}{te:TE}{pos':Pos}(hN:X.N.Nodup)(hi:X.N[i]?=some x)(hx:Loc X.env.scope x)(he:PE X e te)(hs:Z8 e (some (.Name x pos')) pos.line X.env=pure false:=by rfl)(hf:X.fn x=true\/X.env.scope.names.lookup x=some .local:=by first | exact .inl rfl | exact .inr rfl | assumption):
 PS X (.Assign [.Name x pos'] e pos) (Fs te (Ef i)):=by
 intro pins s σ H D I h;refine wpAny_Assign_Name (thn (he pins s σ H _ I h) λv s1 ⟨y,H1,I1,r1,q1⟩=>?_) hs;exact Ee I1 hN hi hx r1 (λs2 I2=>⟨_,H1,I2,q1⟩) hf
noncomputable def K3(c:TT)(tb:TS):TS:=λD σ H=>∃ W:Nat->St->Hp->Prop,(∃ m,W m σ H)/\∀ m σ H,W m σ H->
 c σ H λb H1=>if b=true then ∃ N:St->Hp->Prop,(∀ σ' H',N σ' H'->∃ m',m'<m/\W m' σ' H')/\tb {D with nx:=N,ct:=N,bk:=D.nx} σ H1 else D.nx σ H1
theorem K4{c:Expr}{body:List Stmt}{tc:TT}{tb:TS}(hp:A0x (YX X.prog X.w) X.A X.env X.xe)(hc:PT X c tc)(hb:PSs X body tb):PS X (.While c body [] pos) (K3 tc tb):=by
 intro pins s σ H D I h;obtain⟨W,⟨m0,w0⟩,turn⟩:=h;refine wpAny_While (codeAny_whileLoop (λn s'=>∃ σ' H',Inv X pins σ' H' s'/\W n σ' H') ?_ m0 ⟨σ,H,I,w0⟩);rintro n s1 ⟨σ1,H1,I1,w1⟩;refine Z0 hp (thn (hc pins s1 σ1 H1 _ I1 (turn n σ1 H1 w1)) λb s2 ⟨H2,I2,q2⟩=>?_);cases b with
 | true=>
   obtain⟨N,hN,q2⟩:=q2;rw[iP rfl];refine Z0 hp (thn (hb pins s2 σ1 H2 _ I2 q2) λf s3 q3=>?_);cases f with
   | next=>
     obtain⟨σ3,H3,I3,n3⟩:=q3;obtain⟨m',hm,w3⟩:=hN σ3 H3 n3;exact⟨m',hm,σ3,H3,I3,w3⟩
   | cont=>
     obtain⟨σ3,H3,I3,n3⟩:=q3;obtain⟨m',hm,w3⟩:=hN σ3 H3 n3;exact⟨m',hm,σ3,H3,I3,w3⟩
   | brk=>exact q3
   | ret v=>exact q3
 | false=>
   rw[iG Ua];exact Zw ⟨σ1,H2,I2,q2⟩
end
structure It where
 go:Nat->Hp->Prop
 yld:Nat->Hp->V->Hp->Prop
 stop:Nat->Hp->Prop
noncomputable def FpOk(X:Cx)(pins:List (YT×Obj))(H:Hp)(b:YT):Prop:=
 H b=none/\b≠X.env.locals/\b∉X.fs/\(b∈X.ex\/X.s₀.heap.objs.size<=b)/\(∀ x c,X.env.cells.lookup x=some c->c≠b)/\∀ p∈X.pn++pins,p.1≠b
theorem Inv.fpOk{X:Cx}{pins:List (YT×Obj)}{σ:St}{H H':Hp}{s:YS}{b:YT}(I:Inv X pins σ H s)(hb:s.heap.objs.size<=b)(hn:H' b=none):FpOk X pins H' b:=by
 refine⟨hn,Xf (Us I.lt hb),I.nofs hb,.inr (Ux I.sz hb),λx c e z=>?_,λp hp z=>?_⟩
 ·obtain⟨v,q⟩:=I.cell x c e;exact absurd (Us q.lt (by rw[z];exact hb)) (Vr _)
 ·exact absurd (Us (UX (I.pin p hp).1) (by rw[z];exact hb)) (Vr _)
structure Turn(P:YZ)(w:Yc)(K:UL)(tg:Expr)(J:It)(fp:List YT)(it:YT)(tn:Nat->Heap->Prop):Prop where
 mem:it∈fp
 obj:∀ i h,tn i h->∀ b∈fp,∃ o,h.get? b=some o/\∀ v,o.data ≠ .cell v
 keep:∀ i h h',tn i h->(∀ b∈fp,∀ o,h.get? b=some o->h'.get? b=some o)->tn i h'
 item:∀(X:Cx),X.prog=P->X.w=w->X.K=K->X.calm=true->∀(i:Nat) (pins:List (YT×Obj)) (s:YS) (σ:St) (H:Hp) (E:YQ->YS->Prop),Inv X pins σ H s->(∀ b∈fp,FpOk X pins H b)->tn i s.heap->J.go i H->
  YY (YX P w) X.A (pyNext (.ref it)) (λr s1=>∃ u,r=some u/\
   YY (YX P w) X.A (ZJ tg (.ref it) u) (λ_ s2=>∃ x H',Inv X pins σ H' s2/\RelV x u/\J.yld i H x H'/\tn (i+1) s2.heap/\∀ b∈fp,H' b=none) E s1) E s
 done:∀(X:Cx),X.prog=P->X.w=w->X.K=K->X.calm=true->∀(i:Nat) (pins:List (YT×Obj)) (s:YS) (σ:St) (H:Hp) (E:YQ->YS->Prop),Inv X pins σ H s->(∀ b∈fp,FpOk X pins H b)->tn i s.heap->J.stop i H->
   YY (YX P w) X.A (pyNext (.ref it)) (λr s1=>r=none/\Inv X pins σ H s1) E s
 self:∀(A:Yf) (i:Nat) (s:YS) (Q:YQ->YS->Prop) (E:YQ->YS->Prop),tn i s.heap->Q (.ref it) s->YY (YX P w) A (pyIter (.ref it)) Q E s
noncomputable abbrev TI:=St->Hp->(It->Hp->Prop)->Prop
noncomputable def PIE(X:Cx)(pins:List (YT×Obj))(σ:St)(tg:Expr)(R:It->Hp->Prop)(itv:YQ)(s2:YS):Prop:=
 ∃(it:YT) (fp:List YT) (tn:Nat->Heap->Prop) (J:It) (H':Hp),itv = .ref it/\Inv X pins σ H' s2/\Turn X.prog X.w X.K tg J fp it tn/\tn 0 s2.heap/\(∀ b∈fp,FpOk X pins H' b)/\R J H'
noncomputable def PI(X:Cx)(tg iter:Expr)(wi:TI):Prop:=
 ∀(pins:List (YT×Obj)) (s:YS) (σ:St) (H:Hp) (R:It->Hp->Prop),Inv X pins σ H s->wi σ H R->
  YY (YX X.prog X.w) X.A (eval iter X.env) (λv s1=>YY (YX X.prog X.w) X.A (pyIter v) (PIE X pins σ tg R) X.xe s1) X.xe s
theorem K5{M:Model}{A:Yf}{E:YQ->YS->Prop}{s:YS}{tg:Expr}{it:YT}{u:YQ}{o:Obj}{n:String}{vs:Array YQ}{Q:Unit->YS->Prop}(ho:s.heap.get? it=some o)(hc:o.cls = .type n)(hd:o.data = .fields vs)
 (hn:["enumerate","zip","dict_itemiterator","dict_reverseitemiterator","odict_iterator","itertools.zip_longest","itertools.pairwise"].contains n=false) (hQ:Q () s):YY M A (ZJ tg (.ref it) u) Q E s:=by
 unfold ZJ
 cases tg<;>first
  | exact YV hQ
  | (cases u<;>first
      | exact YV hQ
      | (refine YR (wpAny_load ho ?_)
         rw[hc,hd];show YY M A (if (["enumerate","zip","dict_itemiterator","dict_reverseitemiterator","odict_iterator","itertools.zip_longest","itertools.pairwise"].contains n&&vs[0]? == some (rawInt _))=true then _ else _) Q E s;rw[iG (by intro h;rw[hn,Bool.false_and]at h;cases h)];exact YV hQ))
noncomputable def Itl(K:UL)(a:YT):It:=
 ⟨λi H=>∃ xs x,SqL K H a xs/\xs[i]?=some x,λi H x H'=>H'=H/\∀ xs,SqL K H a xs->xs[i]?=some x,λi H=>∃ xs,SqL K H a xs/\xs.length<=i⟩
noncomputable def Itt(K:UL)(a:YT):It:=
 ⟨λi H=>∃ xs x,SqT K H a xs/\xs[i]?=some x,λi H x H'=>H'=H/\∀ xs,SqT K H a xs->xs[i]?=some x,λi H=>∃ xs,SqT K H a xs/\xs.length<=i⟩
noncomputable def Itr(lo:Int)(n:Nat):It:=⟨λi _=>i<n,λi H x H'=>H'=H/\x = .int (lo+i),λi _=>n<=i⟩
theorem IZ{P:YZ}{w:Yc}{K:UL}{tg:Expr}(a it:YT):Turn P w K tg (Itl K a) [it] it (λi h=>h.IsListIter it a i) where
 mem:=by simp
 obj:=λi h st b hb=>by
  have e:b=it:=by simpa using hb
  subst e;obtain⟨o,e,c,d⟩:=st;exact⟨o,e,λv z=>by rw[d]at z;cases z⟩
 keep:=λi h h' st k=>st.at λo e=>k it (by simp) o e
 item:=by
  intro X hP hw hK hc i pins s σ H E I hf st hg;subst hP hw hK;obtain⟨xs,x,hq,hx⟩:=hg;obtain⟨its,rv,p,hz⟩:=I.list hq;obtain⟨u,hu,ru⟩:=rv.get hx;obtain⟨f0,f1,f2,f3,f4,f5⟩:=hf it (by simp);refine wpAny_pyNext_list_item st p.isList (x:=u) (by simpa using hu) λh' st' sb=>?_;have I1:Inv X pins σ H {s with heap:=h'}:=I.turned (t':=s.toks) (λb o hb e=>(sb.2 b hb).trans e) f0 f1 f3 f4 f5;obtain⟨o,e,c,d⟩:=id st';exact⟨u,rfl,K5 (s:={s with heap:=h'}) e c d (by decide) ⟨x,H,I1,ru,⟨rfl,λys hy=>by rw[I.list_inj hy hq];exact hx⟩,st',λb hb=>(hf b hb).1⟩⟩
 done:=by
   intro X hP hw hK hc i pins s σ H E I hf st hg;subst hP hw hK;obtain⟨xs,hq,hx⟩:=hg;obtain⟨its,rv,p,hz⟩:=I.list hq;obtain⟨f0,f1,f2,f3,f4,f5⟩:=hf it (by simp);have hl:=rv.length;exact wpAny_pyNext_list_end (I.ok.hd hc) st p.isList (by simp;omega) λh' eb=>⟨rfl,I.turned (t':=s.toks) (λb o hb e=>eb b o hb e) f0 f1 f3 f4 f5⟩
 self:=λ_ _ _ _ _ st h=>wpAny_pyIter_listiter st h
theorem Ft{P:YZ}{w:Yc}{K:UL}{tg:Expr}(a it:YT):Turn P w K tg (Itt K a) [it] it (λi h=>h.IsTupleIter it a i) where
 mem:=by simp
 obj:=λi h st b hb=>by
  have e:b=it:=by simpa using hb
  subst e;obtain⟨o,e,c,d⟩:=st;exact⟨o,e,λv z=>by rw[d]at z;cases z⟩
 keep:=λi h h' st k=>st.at λo e=>k it (by simp) o e
 item:=by
  intro X hP hw hK hc i pins s σ H E I hf st hg;subst hP hw hK;obtain⟨xs,x,hq,hx⟩:=hg;obtain⟨its,rv,p,hz⟩:=I.tuple hq;obtain⟨u,hu,ru⟩:=rv.get hx;obtain⟨f0,f1,f2,f3,f4,f5⟩:=hf it (by simp);refine wpAny_pyNext_tuple_item st (show s.heap.IsTuple a its.toArray from p) (x:=u) (by simpa using hu) λh' st' sb=>?_;have I1:Inv X pins σ H {s with heap:=h'}:=I.turned (t':=s.toks) (λb o hb e=>(sb.2 b hb).trans e) f0 f1 f3 f4 f5;obtain⟨o,e,c,d⟩:=id st';exact⟨u,rfl,K5 (s:={s with heap:=h'}) e c d (by decide) ⟨x,H,I1,ru,⟨rfl,λys hy=>by rw[I.tuple_inj hy hq];exact hx⟩,st',λb hb=>(hf b hb).1⟩⟩
 done:=by
   intro X hP hw hK hc i pins s σ H E I hf st hg;subst hP hw hK;obtain⟨xs,hq,hx⟩:=hg;obtain⟨its,rv,p,hz⟩:=I.tuple hq;obtain⟨f0,f1,f2,f3,f4,f5⟩:=hf it (by simp);have hl:=rv.length;exact wpAny_pyNext_tuple_end (I.ok.hd hc) st (show s.heap.IsTuple a its.toArray from p) (by simp;omega) λh' eb=>⟨rfl,I.turned (t':=s.toks) (λb o hb e=>eb b o hb e) f0 f1 f3 f4 f5⟩
 self:=λ_ _ _ _ _ st h=>wpAny_pyIter_tupleiter st h
theorem Fu{P:YZ}{w:Yc}{K:UL}{tg:Expr}(it:YT)(lo:Int)(n:Nat):Turn P w K tg (Itr lo n) [it] it (λi h=>IsRangeIter h it (lo+(i:Nat) * 1) ((n:Int) - (i:Nat)) 1) where
 mem:=by simp
 obj:=λi h st b hb=>by
  have e:b=it:=by simpa using hb
  subst e
  exact⟨_,st,λv z=>by
   have z':Data.fields _=Data.cell v:=z;cases z'⟩
 keep:=λi h h' st k=>k it (by simp) _ st
 item:=by
  intro X hP hw hK hc i pins s σ H E I hf st hg;subst hP hw hK;obtain⟨f0,f1,f2,f3,f4,f5⟩:=hf it (by simp);have W:=Walks.range (prog:=X.prog) (w:=X.w) (I.ok.hd hc) it lo 1 n;refine W.item i s _ _ hg st λv h' tk hv st' kk=>?_;obtain⟨t,rfl⟩:=hv;have I1:Inv X pins σ H {s with heap:=h',toks:=tk}:=I.turned (λb o hb e=>kk b o (by simpa using hb) e) f0 f1 f3 f4 f5;refine⟨_,rfl,K5 (s:={s with heap:=h',toks:=tk}) (n:="range_iterator") st' rfl rfl (by decide) ⟨.int (lo+i),H,I1,⟨t,?_⟩,⟨rfl,rfl⟩,st',λb hb=>(hf b hb).1⟩⟩;rw[Int.mul_one]
 done:=by
   intro X hP hw hK hc i pins s σ H E I hf st hg;subst hP hw hK;obtain⟨f0,f1,f2,f3,f4,f5⟩:=hf it (by simp);exact wpAny_pyNext_range_end (I.ok.hd hc) st (by have:n<=i:=hg;omega) λh' eb=>⟨rfl,I.turned (t':=s.toks) (λb o hb e=>eb b o hb e) f0 f1 f3 f4 f5⟩
 self:=λ_ _ _ _ _ st h=>wpAny_pyIter_rangeiter st h
section
variable{X:Cx}{tg:Expr}
theorem K6{pins:List (YT×Obj)}{σ:St}{H:Hp}{s:YS}{R:It->Hp->Prop}{E:YQ->YS->Prop}{lo hi:Int}{t u v:Tok}{tk:Nat}(I:Inv X pins σ H s)(h1:-(2 ^ 62)<=lo)(h2:lo<2 ^ 62)(h3:-(2 ^ 62)<=hi)(h4:hi<2 ^ 62)
 (q:R (Itr lo (hi - lo).toNat) H):YY (YX X.prog X.w) X.A (pyIter (.ref s.heap.objs.size)) (PIE X pins σ tg R) E {s with heap:=s.heap.push {cls := .type "range",data := .fields #[.int lo t,.int hi u,.int 1 v]},toks:=tk}:=by
 refine wpAny_pyIter_range (IsRange.new ..) (small_one h1 h2 h3 h4) ?_;have I1:Inv X pins σ H {s with heap:=s.heap.push {cls := .type "range",data := .fields #[.int lo t,.int hi u,.int 1 v]},toks:=tk}:=I.kept λb o e=>UP _ e
 refine⟨(s.heap.push {cls := .type "range",data := .fields #[.int lo t,.int hi u,.int 1 v]}).objs.size,[(s.heap.push {cls := .type "range",data := .fields #[.int lo t,.int hi u,.int 1 v]}).objs.size],_,_,H,rfl,
  I1.kept (t':=tk) λb o e=>UP _ e,Fu _ lo (hi - lo).toNat,?_,λb hb=>?_,q⟩
 ·have e1:lo+((0:Nat):Int) * 1=lo:=by simp
  have e2:(((hi - lo).toNat:Nat):Int) - ((0:Nat):Int)=Builtin.Range.rangeSize lo hi 1:=by rw[rangeSize_one];split<;>omega
  show IsRangeIter _ _ (lo+((0:Nat):Int) * 1) ((((hi - lo).toNat:Nat):Int) - ((0:Nat):Int)) 1;rw[e1,e2];exact UY _ rfl
 ·have e:b=(s.heap.push {cls := .type "range",data := .fields #[.int lo t,.int hi u,.int 1 v]}).objs.size:=by simpa using hb
  subst e;exact I1.fpOk (US _) (I1.hok.fresh (US _))
noncomputable def SB(ta:TA):TI:=λσ H R=>ta σ H λvs H1=>∃ j:Int,vs=[.int j] /\ -(2 ^ 62)<=j/\j<2 ^ 62/\R (Itr 0 j.toNat) H1
theorem Ia{a:Expr}{ta:TA}{p pos:Pos}(hg:Gl X "range")(hm:X.mg "range"=none)(ha:PA X [a] ta)(hs:Yg [a] X.env=[(false,eval a X.env)]:=by rfl):PI X tg (.Call (.Name "range" p) [a] [] pos) (SB ta):=by
 intro pins s σ H R I h;refine Call_ (At I hg hm boot_range (PyProof.Rows.callWith_type1 (thn (ha pos pins s σ H _ I h) λus s1 ⟨vs,H1,I1,r1,q1⟩=>?_) hs rfl));obtain⟨j,e,q1,q2,q⟩:=q1;subst e;cases r1 with
 | cons r rr=>
   cases rr;obtain⟨t,rfl⟩:=r;exact call_range_1 (K6 I1 (by omega) (by omega) q1 q2 (by simpa using q))
noncomputable def SC(wi:TI)(g:TG)(tb:TS):TS:=λD σ H=>wi σ H λJ H1=>∃ W:Nat->Nat->St->Hp->Prop,(∃ m,W 0 m σ H1)/\∀ i m σ H,W i m σ H->
 (J.stop i H/\D.nx σ H)\/(J.go i H/\∃ N:St->Hp->Prop,(∀ σ' H',N σ' H'->∃ m',m'<m/\W (i+1) m' σ' H')/\∀ x H',J.yld i H x H'->g x σ H' λσ2 H2=>tb {D with nx:=N,ct:=N,bk:=D.nx} σ2 H2)
noncomputable def BT(fp:List YT)(h:Heap):List (YT×Obj):=fp.filterMap λb=>(h.get? b).map λo=>(b,o)
theorem Au{fp:List YT}{h:Heap}{b:YT}{o:Obj}(hb:b∈fp)(e:h.get? b=some o):(b,o)∈BT fp h:=XX.mpr ⟨b,hb,by rw[e];rfl⟩
theorem Ib{fp:List YT}{h:Heap}{p:YT×Obj}(hp:p∈BT fp h):p.1∈fp/\h.get? p.1=some p.2:=by
 obtain⟨b,hb,e⟩:=XX.mp hp;cases q:h.get? b with
 | none=>rw[q]at e;cases e
 | some o=>
   rw[q]at e;have e':(b,o)=p:=oj e;subst e';exact⟨hb,q⟩
theorem Inv.pinned{pins:List (YT×Obj)}{σ:St}{H:Hp}{s:YS}{fp:List YT}(I:Inv X pins σ H s)(hf:∀ b∈fp,FpOk X pins H b)(ho:∀ b∈fp,∃ o,s.heap.get? b=some o/\∀ v,o.data ≠ .cell v):Inv X (pins++BT fp s.heap) σ H s:=
 I.pins_of λp hp=>(Ul.mp hp).elim (λz=>I.pin p (Uo _ z)) λz=>by
  obtain⟨hb,e⟩:=Ib z;obtain⟨f0,f1,f2,_⟩:=hf p.1 hb;obtain⟨o,e',d⟩:=ho p.1 hb;rw[e]at e';cases e';exact⟨e,f0,f1,f2,d⟩
theorem Inv.unpinned{pins pl:List (YT×Obj)}{σ:St}{H:Hp}{s:YS}(I:Inv X (pins++pl) σ H s):Inv X pins σ H s:=I.pins_of λp hp=>I.pin p (Uo _ (Um _ hp))
theorem Q9{iter:Expr}{body:List Stmt}{wi:TI}{g:TG}{tb:TS}{pos:Pos}(hp:A0x (YX X.prog X.w) X.A X.env X.xe)(hc:X.calm=true)(hi:PI X tg iter wi)(hg:PG X tg g)(hb:PSs X body tb)
 (hs:∀ x,Zi iter X.env x=pure x:=by intro _;rfl):PS X (.For tg iter body [] pos) (SC wi g tb):=by
 intro pins s σ H D I h;refine wpAny_For (thn (hi pins s σ H _ I h) λv s1 h1=>thn h1 λitv s2 h2=>?_) hs;obtain⟨it,fp,tn,J,H2,e,I2,T,st2,f2,W,⟨m0,w0⟩,turn⟩:=h2;subst e;have stat:∀{H':Hp},(∀ b∈fp,H' b=none)->∀ b∈fp,FpOk X pins H' b:=λhn b hb=>⟨hn b hb,(f2 b hb).2⟩
 refine codeAny_forLoop_any (λn s'=>∃ i σ' H',Inv X pins σ' H' s'/\tn i s'.heap/\(∀ b∈fp,H' b=none)/\W i n σ' H') ?_ m0 ⟨0,σ,H2,I2,st2,λb hb=>(f2 b hb).1,w0⟩;rintro n s3 ⟨i,σ3,H3,I3,st3,fr3,w3⟩;rcases turn i n σ3 H3 w3 with⟨stop,qn⟩ | ⟨go,N,hN,step⟩
 ·refine Z0 hp (thn (T.done X rfl rfl rfl hc i pins s3 σ3 H3 X.xe I3 (stat fr3) st3 stop) λr s4 ⟨hr,I4⟩=>?_);subst hr;exact Zw ⟨σ3,H3,I4,qn⟩
 ·refine Z0 hp (thn (T.item X rfl rfl rfl hc i pins s3 σ3 H3 X.xe I3 (stat fr3) st3 go) λr s4 ⟨u,hr,h4⟩=>?_);subst hr;refine Z0 hp (thn h4 λ_ s5 ⟨x,H5,I5,r5,y5,st5,fr5⟩=>?_);have I5':=I5.pinned (stat fr5) (T.obj _ _ st5);refine Z0 hp (thn (hg _ s5 σ3 H5 x u _ I5' r5 (step x H5 y5)) λ_ s6 ⟨σ6,H6,I6,q6⟩=>?_);refine Z0 hp (thn (hb _ s6 σ6 H6 _ I6 q6) λf s7 q7=>?_)
  have again:∀{σ7:St} {H7:Hp},Inv X (pins++BT fp s5.heap) σ7 H7 s7->N σ7 H7->∃ m,m<n/\∃ i σ' H',Inv X pins σ' H' s7/\tn i s7.heap/\(∀ b∈fp,H' b=none)/\W i m σ' H':=λ{σ7 H7} I7 n7=>by
   obtain⟨m',hm,w7⟩:=hN σ7 H7 n7;refine⟨m',hm,i+1,σ7,H7,I7.unpinned,T.keep _ _ _ st5 λb hb o e=>(I7.pin (b,o) (Uo _ (Uo _ (Au hb e)))).1,λb hb=>?_,w7⟩;obtain⟨o,e,d⟩:=T.obj _ _ st5 b hb;exact(I7.pin (b,o) (Uo _ (Uo _ (Au hb e)))).2.1
  cases f with
  | next=>obtain⟨σ7,H7,I7,n7⟩:=q7;exact again I7 n7
  | cont=>obtain⟨σ7,H7,I7,n7⟩:=q7;exact again I7 n7
  | brk=>obtain⟨σ7,H7,I7,q7⟩:=q7;exact⟨σ7,H7,I7.unpinned,q7⟩
  | ret v=>obtain⟨x7,σ7,H7,I7,r7,q7⟩:=q7;exact⟨x7,σ7,H7,I7.unpinned,r7,q7⟩
end
noncomputable abbrev R2:=V->V->Hp->VK->Prop
noncomputable def OpR(X:Cx)(f:YQ->YQ->Sem YQ)(r:R2):Prop:=
 ∀(pins:List (YT×Obj)) (s:YS) (σ:St) (H:Hp) (x y:V) (v u:YQ) (Q:VK),Inv X pins σ H s->RelV x v->RelV y u->r x y H Q->
  YY (YX X.prog X.w) X.A (f v u) (EP X pins σ Q) X.xe s
noncomputable def UnR(X:Cx)(f:YQ->Sem YQ)(r:V->Hp->VK->Prop):Prop:=
 ∀(pins:List (YT×Obj)) (s:YS) (σ:St) (H:Hp) (x:V) (v:YQ) (Q:VK),Inv X pins σ H s->RelV x v->r x H Q->
  YY (YX X.prog X.w) X.A (f v) (EP X pins σ Q) X.xe s
noncomputable def CallR(X:Cx)(f:YQ)(r:List V->Hp->VK->Prop):Prop:=
 ∀(pins:List (YT×Obj)) (s:YS) (σ:St) (H:Hp) (xs:List V) (us:List YQ) (Q:VK),Inv X pins σ H s->Vals xs us->r xs H Q->
  YY (YX X.prog X.w) X.A (call f us) (EP X pins σ Q) X.xe s
noncomputable def U3(X:Cx)(r:V->Hp->(Bool->Hp->Prop)->Prop):Prop:=
 ∀(pins:List (YT×Obj)) (s:YS) (σ:St) (H:Hp) (x:V) (v:YQ) (Q:Bool->Hp->Prop),Inv X pins σ H s->RelV x v->r x H Q->
  YY (YX X.prog X.w) X.A (truthy v) (TP X pins σ Q) X.xe s
noncomputable def tOp(r:R2)(ta tb:TE):TE:=λσ H Q=>ta σ H λx H1=>tb σ H1 λy H2=>r x y H2 Q
noncomputable def tUn(r:V->Hp->VK->Prop)(ta:TE):TE:=λσ H Q=>ta σ H λx H1=>r x H1 Q
noncomputable def rI(C:Int->Int->Prop)(g:Int->Int->V):R2:=λx y H Q=>∃ i j,x = .int i/\y = .int j/\C i j/\Q (g i j) H
noncomputable def rI0(g:Int->Int->V):R2:=λx y H Q=>∃ i j,x = .int i/\y = .int j/\Q (g i j) H
noncomputable def rU(g:Int->V):V->Hp->VK->Prop:=λx H Q=>∃ i,x = .int i/\Q (g i) H
section
variable{X:Cx}{a b c:Expr}{ta tb tc:TE}{pos:Pos}
theorem QA(ha:PE X a ta)(hb:PE X b tb){pins:List (YT×Obj)}{s:YS}{σ:St}{H:Hp}{R:V->V->Hp->Prop}(I:Inv X pins σ H s)
 (h:ta σ H λx H1=>tb σ H1 λy H2=>R x y H2) {Q:YQ->YS->Prop} {f:YQ->YQ->Sem YQ}
 (hf:∀ v u s2 x y H2,Inv X pins σ H2 s2->RelV x v->RelV y u->R x y H2->YY (YX X.prog X.w) X.A (f v u) Q X.xe s2):
 YY (YX X.prog X.w) X.A (eval a X.env) (λv s₁=>YY (YX X.prog X.w) X.A (eval b X.env) (λu s₂=>YY (YX X.prog X.w) X.A (f v u) Q X.xe s₂) X.xe s₁) X.xe s:=by
 refine thn (ha pins s σ H _ I h) λv s1 ⟨x,H1,I1,r1,q1⟩=>?_;refine thn (hb pins s1 σ H1 _ I1 q1) λu s2 ⟨y,H2,I2,r2,q2⟩=>?_;exact hf v u s2 x y H2 I2 r1 r2 q2
theorem SD{op:Zm}{r:R2}(ho:OpR X (ZH op) r)(ha:PE X a ta)(hb:PE X b tb):PE X (.BinOp a op b pos) (tOp r ta tb):=by
 intro pins s σ H Q I h;exact wpAny_BinOp (QA ha hb I h λv u s2 x y H2 I2 rx ry q=>ho pins s2 σ H2 x y v u Q I2 rx ry q)
theorem P9{op:UnaryOp}{r:V->Hp->VK->Prop}(ho:UnR X (unaryOp op) r)(ha:PE X a ta):PE X (.UnaryOp op a pos) (tUn r ta):=by
 intro pins s σ H Q I h;exact UnaryOp_ (thn (ha pins s σ H _ I h) λv s1 ⟨x,H1,I1,r1,q1⟩=>ho pins s1 σ H1 x v Q I1 r1 q1)
theorem opI{f:YQ->YQ->Sem YQ}{C:Int->Int->Prop}{g:Int->Int->Int}
 (rule:∀(i j:Int) (t u:Tok) (s:YS) (Q:YQ->YS->Prop) (E:YQ->YS->Prop),C i j->Q (.int (g i j) s.toks) {s with toks:=s.toks+1}->YY (YX X.prog X.w) X.A (f (.int i t) (.int j u)) Q E s):
 OpR X f (rI C λi j => .int (g i j)):=by
 intro pins s σ H x y v u Q I rx ry h;obtain⟨i,j,rfl,rfl,hc,q⟩:=h;obtain⟨t,rfl⟩:=rx;obtain⟨t',rfl⟩:=ry;exact rule i j t t' s _ _ hc ⟨.int (g i j),H,I.tok _,⟨_,rfl⟩,q⟩
theorem SE{f:YQ->YQ->Sem YQ}{g:Int->Int->Int}
 (rule:∀(i j:Int) (t u:Tok) (s:YS) (Q:YQ->YS->Prop) (E:YQ->YS->Prop),Q (.int (g i j) s.toks) {s with toks:=s.toks+1}->YY (YX X.prog X.w) X.A (f (.int i t) (.int j u)) Q E s):
 OpR X f (rI0 λi j => .int (g i j)):=by
 intro pins s σ H x y v u Q I rx ry h;obtain⟨i,j,rfl,rfl,q⟩:=h;obtain⟨t,rfl⟩:=rx;obtain⟨t',rfl⟩:=ry;exact rule i j t t' s _ _ ⟨.int (g i j),H,I.tok _,⟨_,rfl⟩,q⟩
theorem NE{f:YQ->YQ->Sem YQ}{g:Int->Int->Bool}
 (rule:∀(i j:Int) (t u:Tok) (s:YS) (Q:YQ->YS->Prop) (E:YQ->YS->Prop),Q (.bool (g i j)) s->YY (YX X.prog X.w) X.A (f (.int i t) (.int j u)) Q E s):
 OpR X f (rI0 λi j => .bl (g i j)):=by
 intro pins s σ H x y v u Q I rx ry h;obtain⟨i,j,rfl,rfl,q⟩:=h;obtain⟨t,rfl⟩:=rx;obtain⟨t',rfl⟩:=ry;exact rule i j t t' s _ _ ⟨.bl (g i j),H,I,rfl,q⟩
noncomputable def SF(i j:Int):Prop:=0<j/\j<1073741824
noncomputable def SG(i j:Int):Prop:=0<=j/\j<=1000000/\i.natAbs<2 ^ 64
noncomputable def CMul(i j:Int):Prop:=(-(2 ^ 64)<i/\i<2 ^ 64)\/(-(2 ^ 64)<j/\j<2 ^ 64)
theorem CMul.ok{i j:Int}(h:CMul i j):IntMulOk i j:=by
 rcases h with⟨h1,h2⟩ | ⟨h1,h2⟩
 ·exact .of_left (intBits_le_64 h1 h2)
 ·exact .of_right (intBits_le_64 h1 h2)
theorem op_add:OpR X (ZH .Add) (rI0 λi j => .int (i+j)):=SE λ_ _ _ _ _ _ _ q=>add_int q
theorem QB:OpR X (ZH .Sub) (rI0 λi j => .int (i - j)):=SE λ_ _ _ _ _ _ _ q=>sub_int q
theorem op_mul:OpR X (ZH .Mult) (rI CMul λi j => .int (i * j)):=opI λ_ _ _ _ _ _ _ hc q=>mul_int q hc.ok
theorem NF:OpR X (ZH .FloorDiv) (rI SF λi j => .int (i / j)):=opI λi j _ _ _ _ _ hc q=>by
 have h1:(0:Int)<j:=hc.1;have h2:j<1073741824:=hc.2;exact floordiv_int (by omega) (by rw[Int.fdiv_eq_ediv_of_nonneg i (by omega)];exact q) (.inl (PyProof.noPylong_small (by omega)))
theorem QC:OpR X (ZH .Mod) (rI (λ_ j=>0<j) λi j => .int (i % j)):=opI λi j _ _ _ _ _ hc q=>by
 have h1:(0:Int)<j:=hc;exact mod_int' (by omega) (by rw[Int.fmod_eq_emod_of_nonneg i (by omega)];exact q)
theorem QD:OpR X (ZH .Pow) (rI SG λi j => .int (i ^ j.toNat)):=opI λ_ _ _ _ _ _ _ hc q=>pow_int_small hc.1 hc.2.1 hc.2.2 q
theorem unI{f:YQ->Sem YQ}{g:Int->Int}
 (rule:∀(i:Int) (t:Tok) (s:YS) (Q:YQ->YS->Prop) (E:YQ->YS->Prop),Q (.int (g i) s.toks) {s with toks:=s.toks+1}->YY (YX X.prog X.w) X.A (f (.int i t)) Q E s):
 UnR X f (rU λi => .int (g i)):=by
 intro pins s σ H x v Q I rx h;obtain⟨i,rfl,q⟩:=h;obtain⟨t,rfl⟩:=rx;exact rule i t s _ _ ⟨.int (g i),H,I.tok _,⟨_,rfl⟩,q⟩
theorem K7:UnR X (unaryOp .USub) (rU λi => .int (-i)):=unI λ_ _ _ _ _ q=>neg_int q
end
noncomputable def QF:V->V->Bool
 | .non,.non=>true | .non,.int _=>true | .int _,.non=>true | .non,.bl _=>true | .bl _,.non=>true | .non,.str _=>true | .str _,.non=>true
 | .int _,.int _=>true | .bl _,.bl _=>true | .str _,.str _=>true | .byt _,.byt _=>true
 | .int _,.str _=>true | .str _,.int _=>true | .bl _,.str _=>true | .str _,.bl _=>true
 | _,_=>false
noncomputable def rEq:R2:=λx y H Q=>QF x y=true/\Q (.bl (decide (x=y))) H
noncomputable def rNe:R2:=λx y H Q=>QF x y=true/\Q (.bl (!decide (x=y))) H
theorem HM{i j:Int}:decide (V.int i=V.int j)=(i == j):=by
 rw[VR];simp
theorem K8{i j:Bool}:decide (V.bl i=V.bl j)=(i == j):=by
 rw[VR];simp
theorem HN{i j:Str}:decide (V.str i=V.str j)=(i == j):=by
 rw[VR];simp
theorem HP{i j:Array UInt8}:decide (V.byt i=V.byt j)=(i.toList == j.toList):=by
 rw[VR];cases i;cases j;simp
section
variable{X:Cx}{a b c:Expr}{ta tb tc:TE}{pos:Pos}
theorem i0{pins:List (YT×Obj)}{σ:St}{H:Hp}{s:YS}{Q:VK}{k k':Bool}(I:Inv X pins σ H s)(q:Q (.bl k) H)(e:k=k'):EP X pins σ Q (.bool k') s:=by
 subst e;exact⟨.bl k,H,I,rfl,q⟩
theorem op_eq:OpR X (Yk .Eq) rEq:=by
 intro pins s σ H x y v u Q I rx ry h;obtain⟨hs,q⟩:=h;cases x with
 | non=>
   cases rx;cases y with
   | non=>cases ry;exact PySem.EqNone.eq_none_none (i0 I q (by simp))
   | bl j=>cases ry;exact PySem.EqNone.eq_none_bool (i0 I q (by simp))
   | int j=>obtain⟨t',rfl⟩:=ry;exact PySem.EqNone.eq_none_int (i0 I q (by simp))
   | str j=>obtain⟨t',rfl⟩:=ry;exact PySem.EqNone.eq_none_str (i0 I q (by simp))
   | _=>exact absurd (show false=true from hs) Ua
 | bl i=>
   cases rx;cases y with
   | non=>cases ry;exact PySem.EqNone.eq_bool_none (i0 I q (by simp))
   | bl j=>cases ry;exact eq_bool (i0 I q K8)
   | str j=>obtain⟨t',rfl⟩:=ry;exact PySem.EqMixed.eq_bool_str (i0 I q (by simp))
   | _=>exact absurd (show false=true from hs) Ua
 | int i=>
   obtain⟨t,rfl⟩:=rx;cases y with
   | non=>cases ry;exact PySem.EqNone.eq_int_none (i0 I q (by simp))
   | int j=>obtain⟨t',rfl⟩:=ry;exact eq_int (i0 I q HM)
   | str j=>obtain⟨t',rfl⟩:=ry;exact PySem.EqMixed.eq_int_str (i0 I q (by simp))
   | _=>exact absurd (show false=true from hs) Ua
 | str i=>
   obtain⟨t,rfl⟩:=rx;cases y with
   | non=>cases ry;exact PySem.EqNone.eq_str_none (i0 I q (by simp))
   | bl j=>cases ry;exact PySem.EqMixed.eq_str_bool (i0 I q (by simp))
   | int j=>obtain⟨t',rfl⟩:=ry;exact PySem.EqMixed.eq_str_int (i0 I q (by simp))
   | str j=>obtain⟨t',rfl⟩:=ry;exact eq_str (i0 I q HN)
   | _=>exact absurd (show false=true from hs) Ua
 | byt i=>
   obtain⟨t,rfl⟩:=rx;cases y with
   | byt j=>obtain⟨t',rfl⟩:=ry;exact PySem.W.eq_bytes (i0 I q HP)
   | _=>exact absurd (show false=true from hs) Ua
 | _=>cases y<;>exact absurd (show false=true from hs) Ua
theorem op_ne:OpR X (Yk .NotEq) rNe:=by
 intro pins s σ H x y v u Q I rx ry h;obtain⟨hs,q⟩:=h;cases x with
 | non=>
   cases rx;cases y with
   | non=>cases ry;exact PySem.EqNone.ne_none_none (i0 I q (by simp))
   | bl j=>cases ry;exact PySem.EqNone.ne_none_bool (i0 I q (by simp))
   | int j=>obtain⟨t',rfl⟩:=ry;exact PySem.EqNone.ne_none_int (i0 I q (by simp))
   | str j=>obtain⟨t',rfl⟩:=ry;exact PySem.EqNone.ne_none_str (i0 I q (by simp))
   | _=>exact absurd (show false=true from hs) Ua
 | bl i=>
   cases rx;cases y with
   | non=>cases ry;exact PySem.EqNone.ne_bool_none (i0 I q (by simp))
   | bl j=>cases ry;exact ne_bool (i0 I q (congrArg not K8))
   | str j=>obtain⟨t',rfl⟩:=ry;exact PySem.EqMixed.ne_bool_str (i0 I q (by simp))
   | _=>exact absurd (show false=true from hs) Ua
 | int i=>
   obtain⟨t,rfl⟩:=rx;cases y with
   | non=>cases ry;exact PySem.EqNone.ne_int_none (i0 I q (by simp))
   | int j=>obtain⟨t',rfl⟩:=ry;exact ne_int (i0 I q (congrArg not HM))
   | str j=>obtain⟨t',rfl⟩:=ry;exact PySem.EqMixed.ne_int_str (i0 I q (by simp))
   | _=>exact absurd (show false=true from hs) Ua
 | str i=>
   obtain⟨t,rfl⟩:=rx;cases y with
   | non=>cases ry;exact PySem.EqNone.ne_str_none (i0 I q (by simp))
   | bl j=>cases ry;exact PySem.EqMixed.ne_str_bool (i0 I q (by simp))
   | int j=>obtain⟨t',rfl⟩:=ry;exact PySem.EqMixed.ne_str_int (i0 I q (by simp))
   | str j=>obtain⟨t',rfl⟩:=ry;exact ne_str (i0 I q (congrArg not HN))
   | _=>exact absurd (show false=true from hs) Ua
 | byt i=>
   obtain⟨t,rfl⟩:=rx;cases y with
   | byt j=>obtain⟨t',rfl⟩:=ry;exact PySem.W.ne_bytes (i0 I q (congrArg not HP))
   | _=>exact absurd (show false=true from hs) Ua
 | _=>cases y<;>exact absurd (show false=true from hs) Ua
theorem SH:OpR X (Yk .Lt) (rI0 λi j => .bl (decide (i<j))):=NE λ_ _ _ _ _ _ _ q=>lt_int q
theorem SJ:OpR X (Yk .LtE) (rI0 λi j => .bl (decide (i<=j))):=NE λ_ _ _ _ _ _ _ q=>le_int q
theorem SK:OpR X (Yk .Gt) (rI0 λi j => .bl (decide (j<i))):=NE λ_ _ _ _ _ _ _ q=>gt_int q
theorem SL:OpR X (Yk .GtE) (rI0 λi j => .bl (decide (j<=i))):=NE λ_ _ _ _ _ _ _ q=>ge_int q
theorem QG:OpR X (Yk .Is) (λx y H Q=>y = .non/\Q (.bl (decide (x = .non))) H):=by
 intro pins s σ H x y v u Q I rx ry h;obtain⟨rfl,q⟩:=h;cases ry;refine is_none_gen (i0 I q ?_)
 cases x<;>first
  | (cases rx;rfl)
  | (obtain⟨t,rfl⟩:=rx;rfl)
theorem op_notN:OpR X (Yk .IsNot) (λx y H Q=>y = .non/\Q (.bl (!decide (x = .non))) H):=by
 intro pins s σ H x y v u Q I rx ry h;obtain⟨rfl,q⟩:=h;cases ry;refine isnot_none_gen (i0 I q ?_)
 cases x<;>first
  | (cases rx;rfl)
  | (obtain⟨t,rfl⟩:=rx;rfl)
theorem OpR.or{f:YQ->YQ->Sem YQ}{r r':R2}(h:OpR X f r)(h':OpR X f r'):OpR X f (λx y H Q=>r x y H Q\/r' x y H Q):=by
 intro pins s σ H x y v u Q I rx ry q;rcases q with q | q
 ·exact h pins s σ H x y v u Q I rx ry q
 ·exact h' pins s σ H x y v u Q I rx ry q
theorem NG{op:CmpOp}{r:R2}(ho:OpR X (Yk op) r)(ha:PE X a ta)(hb:PE X b tb)(hm:A0h op b=false):PE X (.Compare a [op] [b] pos) (tOp r ta tb):=by
 intro pins s σ H Q I h;exact wpAny_Compare1 (QA ha hb I h λv u s2 x y H2 I2 rx ry q=>ho pins s2 σ H2 x y v u Q I2 rx ry q) hm
noncomputable def PB(t:TE):TT:=λσ H Q=>t σ H λx H'=>∃ k,x = .bl k/\Q k H'
theorem NH{op:CmpOp}{r:R2}(ho:OpR X (Yk op) r)(ha:PE X a ta)(hb:PE X b tb)(hm:A0h op b=false):PT X (.Compare a [op] [b] pos) (PB (tOp r ta tb)):=by
 intro pins s σ H Q I h
 refine wpAny_isTrue_Compare1 (thn (ha pins s σ H _ I h) λv s1 ⟨x,H1,I1,r1,q1⟩=>thn (hb pins s1 σ H1 _ I1 q1) λu s2 ⟨y,H2,I2,r2,q2⟩=>
  thn (ho pins s2 σ H2 x y v u _ I2 r1 r2 q2) λc s3 ⟨z,H3,I3,r3,k,e,q3⟩=>?_) hm
 subst e;cases r3;exact Ym ⟨H3,I3,q3⟩
noncomputable def Fv(r r':R2)(ta tb tc:TE):TE:=λσ H Q=>ta σ H λx H1=>tb σ H1 λy H2=>r x y H2 λz H3=>∃ k,z = .bl k/\
 (if k=true then tc σ H3 λw' H4=>r' y w' H4 Q else Q (.bl false) H3)
theorem K9{op op':CmpOp}{r r':R2}(ho:OpR X (Yk op) r)(ho':OpR X (Yk op') r')(ha:PE X a ta)(hb:PE X b tb)(hc:PE X c tc)
 (hm:A0Z [op,op'] [b,c]=false:=by with_unfolding_all rfl):PE X (.Compare a [op,op'] [b,c] pos) (Fv r r' ta tb tc):=by
 intro pins s σ H Q I h
 refine Compare_chain (thn (ha pins s σ H _ I h) λv s1 ⟨x,H1,I1,r1,q1⟩=>chain_link (thn (hb pins s1 σ H1 _ I1 q1) λu s2 ⟨y,H2,I2,r2,q2⟩=>
  thn (ho pins s2 σ H2 x y v u _ I2 r1 r2 q2) λd s3 ⟨z,H3,I3,r3,k,e,q3⟩=>?_)) hm
 subst e;cases r3;refine Ym ?_;cases k with
 | false=>exact ite_ff ⟨.bl false,H3,I3,rfl,q3⟩
 | true=>exact ite_tt (chain_last (thn (hc pins s3 σ H3 _ I3 q3) λw' s4 ⟨z',H4,I4,r4,q4⟩=>ho' pins s4 σ H4 y z' u w' Q I4 r2 r4 q4))
theorem KA{op op':CmpOp}{r r':R2}(ho:OpR X (Yk op) r)(ho':OpR X (Yk op') r')(ha:PE X a ta)(hb:PE X b tb)(hc:PE X c tc)
 (hm:A0Z [op,op'] [b,c]=false:=by with_unfolding_all rfl):PT X (.Compare a [op,op'] [b,c] pos) (PB (Fv r r' ta tb tc)):=by
 intro pins s σ H Q I h
 refine isTrue_chain (thn (ha pins s σ H _ I h) λv s1 ⟨x,H1,I1,r1,q1⟩=>test_link (thn (hb pins s1 σ H1 _ I1 q1) λu s2 ⟨y,H2,I2,r2,q2⟩=>
  thn (ho pins s2 σ H2 x y v u _ I2 r1 r2 q2) λd s3 ⟨z,H3,I3,r3,k,e,q3⟩=>?_)) hm
 subst e;cases r3;refine Ym ?_;cases k with
 | false=>
   obtain⟨k',e',q'⟩:=q3;cases e';exact ite_ff ⟨H3,I3,q'⟩
 | true=>
   refine ite_tt (test_last (thn (hc pins s3 σ H3 _ I3 q3) λw' s4 ⟨z',H4,I4,r4,q4⟩=>thn (ho' pins s4 σ H4 y z' u w' _ I4 r2 r4 q4) λd' s5 ⟨z2,H5,I5,r5,k2,e2,q5⟩=>?_));subst e2;cases r5;exact Ym ⟨H5,I5,q5⟩
noncomputable def NI(K:UL)(x:V)(H:Hp)(k:Bool):Prop:=
 match x with
 | .non=>k=false
 | .bl b=>k=b
 | .int i=>k=(i != 0)
 | .str y=>y.length<=Yb/\k=((y.length:Int) != 0)
 | .byt y=>y.size<=Yb/\k=((y.size:Int) != 0)
 | .ref p=>(∃ xs,SqL K H p xs/\k=!xs.isEmpty)\/(∃ xs,SqT K H p xs/\k=!xs.isEmpty)\/∃ kvs,H p=some (.dK kvs)/\k=!kvs.isEmpty
 | _=>False
theorem Fw{κ:Type}{kvs:List (κ×V)}{vs:List (κ×YQ)}(r:KV kvs vs):(!vs.isEmpty)=!kvs.isEmpty:=by
 cases r<;>rfl
theorem Cb{xs:List V}{its:List YQ}(r:Vals xs its):(!its.toArray.isEmpty)=!xs.isEmpty:=by
 cases r<;>simp
theorem Bx:(Yb:Nat)<2 ^ 63:=by rw[ZT];decide
theorem QH:U3 X (λx H Q=>∃ k,NI X.K x H k/\Q k H):=by
 intro pins s σ H x v Q I rx h;obtain⟨k,e,q⟩:=h;have hl:=Bx;have hs:Yb=16777216:=ZT;cases x with
 | non=>
   cases rx;have e':k=false:=e;subst e';exact truthy_none ⟨H,I,q⟩
 | bl b=>
   cases rx;have e':k=b:=e;subst e';exact Ym ⟨H,I,q⟩
 | int i=>
   obtain⟨t,rfl⟩:=rx;have e':k=(i != 0):=e;subst e';exact PySem.P.truthy_int ⟨H,I,q⟩
 | str y=>
   obtain⟨t,rfl⟩:=rx;obtain⟨hy,e'⟩:y.length<=Yb/\k=((y.length:Int) != 0):=e;subst e';exact PySem.P.truthy_str (by omega) ⟨H,I.tok _,q⟩
 | byt y=>
   obtain⟨t,rfl⟩:=rx;obtain⟨hy,e'⟩:y.size<=Yb/\k=((y.size:Int) != 0):=e;subst e';exact PySem.W.truthy_bytes (by omega) ⟨H,I.tok _,q⟩
 | ref p=>
   cases rx;have e':(∃ xs,SqL X.K H p xs/\k=!xs.isEmpty)\/(∃ xs,SqT X.K H p xs/\k=!xs.isEmpty)\/∃ kvs,H p=some (.dK kvs)/\k=!kvs.isEmpty:=e;rcases e' with⟨xs,hx,e'⟩ | ⟨xs,hx,e'⟩ | ⟨kvs,hx,e'⟩
   ·subst e';obtain⟨its,r,pl,hz⟩:=I.list hx;have hlen:=r.length;exact wpAny_truthy_list pl.isList (by simp only[UV];omega) ⟨H,I.tok _,by rw[Cb r];exact q⟩
   ·subst e';obtain⟨its,r,pl,hz⟩:=I.tuple hx;have hlen:=r.length;exact truthy_tuple pl (by simp only[UV];omega) ⟨H,I.tok _,by rw[Cb r];exact q⟩
   ·subst e';obtain⟨hz,hS,vs,r,m⟩:kvs.length<=Yb/\(p == Z6)=false/\∃ vs,KV kvs vs/\s.heap.DictOf (i6 X.prog X.w) p vs:=I.hok p _ hx;have hlen:kvs.length=vs.length:=Paired.length r;exact wpAny_truthy_dict hS m (by omega) ⟨H,I.tok _,by rw[Fw r];exact q⟩
 | _=>exact(show False from e).elim
theorem KB(ha:PE X a ta)(he:∀ whole,isTrue a X.env whole=(do let v <- whole;standAt a.pos;holding [v] (truthy v))):
 PT X a (λσ H Q=>ta σ H λx H'=>∃ k,NI X.K x H' k/\Q k H'):=by
 intro pins s σ H Q I h;exact isTrue_plain (thn (ha pins s σ H _ I h) λv s1 ⟨x,H1,I1,r1,q1⟩=>QH pins s1 σ H1 x v Q I1 r1 q1) (he _)
theorem AS{x:V}{us:List YQ}(r:Vals [x] us):∃ u,us=[u]/\RelV x u:=by
 cases r with
 | cons r1 r2=>cases r2;exact⟨_,rfl,r1⟩
theorem PC{x y:V}{us:List YQ}(r:Vals [x,y] us):∃ u w',us=[u,w']/\RelV x u/\RelV y w':=by
 cases r with
 | cons r1 r2=>
   cases r2 with
   | cons r3 r4=>cases r4;exact⟨_,_,rfl,r1,r3⟩
theorem KC:CallR X (.builtin "abs") (λxs H Q=>∃ i,xs=[.int i]/\Q (.int (if i<0 then -i else i)) H):=by
 intro pins s σ H xs us Q I r h;obtain⟨i,rfl,q⟩:=h;obtain⟨u,rfl,t,rfl⟩:=AS r;exact call_abs_int λu tk=>⟨.int (if i<0 then -i else i),H,I.tok _,⟨_,rfl⟩,q⟩
theorem Ic(hc:X.calm=true):CallR X (.builtin "max") (λxs H Q=>∃ i j,xs=[.int i,.int j]/\Q (.int (if j>i then j else i)) H):=by
 intro pins s σ H xs us Q I r h;obtain⟨i,j,rfl,q⟩:=h;obtain⟨u,w',rfl,⟨t,rfl⟩,⟨t',rfl⟩⟩:=PC r;refine max_two_ints (I.ok.hd hc) λh' tk k=>⟨_,H,I.kept k,?_,q⟩
 by_cases hj:j>i
 ·rw[iP hj,iP hj];exact⟨_,rfl⟩
 ·rw[iG hj,iG hj];exact⟨_,rfl⟩
theorem Id(hc:X.calm=true):CallR X (.builtin "min") (λxs H Q=>∃ i j,xs=[.int i,.int j]/\Q (.int (if j<i then j else i)) H):=by
 intro pins s σ H xs us Q I r h;obtain⟨i,j,rfl,q⟩:=h;obtain⟨u,w',rfl,⟨t,rfl⟩,⟨t',rfl⟩⟩:=PC r;refine min_two_ints (I.ok.hd hc) λh' tk k=>⟨_,H,I.kept k,?_,q⟩
 by_cases hj:j<i
 ·rw[iP hj,iP hj];exact⟨_,rfl⟩
 ·rw[iG hj,iG hj];exact⟨_,rfl⟩
theorem Ie:CallR X (.type "int") (λxs H Q=>(∃ i,xs=[.int i]/\Q (.int i) H)\/∃ k,xs=[.bl k]/\Q (.int (if k then 1 else 0)) H):=by
 intro pins s σ H xs us Q I r h;rcases h with⟨i,rfl,q⟩ | ⟨k,rfl,q⟩
 ·obtain⟨u,rfl,t,rfl⟩:=AS r;exact call_int_int ⟨.int i,H,I,⟨_,rfl⟩,q⟩
 ·obtain⟨u,rfl,r1⟩:=AS r;cases r1;exact call_int_bool ⟨.int (if k then 1 else 0),H,I.tok _,⟨_,rfl⟩,q⟩
end
structure ObjM(h:Heap)(x dx C:YT)(mA:Str->Option YQ):Prop where
 obj:h.get? x=some (PySem.W.instObj C dx)
 ns:h.Ns1 dx mA
 ne:dx≠x
theorem Ig{h:Heap}{dx:YT}{mA:Str->Option YQ}(n:h.Ns1 dx mA):∃ od,h.get? dx=some od/\∀ name,PySem.W.lookIn name od=some (mA name):=by
 obtain⟨o,es,ep,ho,hd,hk,_,hm⟩:=n;refine⟨o,ho,λname=>?_⟩;have e:=hm name;unfold nsFind findBy at e;rw[<-Array.find?_toList]at e;unfold PySem.W.lookIn;rw[hd];dsimp only;split
 ·rename_i y q;rw[q]at e;exact congrArg some e
 ·rename_i q;rw[q]at e
  have a:es.toList.any (·.refKey)=false:=by
   rw[Xg];intro y hy;obtain⟨z,t,hkey⟩:=hk y (Array.mem_toList_iff.mp hy);simp[DictEntry.refKey,hkey]
  have a':¬ es.toList.any (·.refKey)=true:=by rw[a];exact Ua
  rw[iG a'];exact congrArg some e
theorem ObjM.look{h:Heap}{x dx C:YT}{mA:Str->Option YQ}(I:ObjM h x dx C mA):∃ od,PySem.W.InstAt h x (PySem.W.instObj C dx) C (some od)/\∀ name,PySem.W.lookIn name od=some (mA name):=
 let ⟨od,ho,hl⟩:=Ig I.ns
 ⟨od,⟨I.obj,rfl,rfl,ho⟩,hl⟩
theorem RelO.some_of{v:V}{o:Option YQ}(r:RelO (some v) o):∃ u,o=some u/\RelV v u:=by
 cases o with
 | none=>exact(show False from r).elim
 | some u=>exact⟨u,rfl,r⟩
section
variable{P:YZ}{w:Yc}{H H':Hp}{h h':Heap}{a C dx:YT}{fs fs':List (Str×V)}
theorem HQ(hok:HOk P w H h)(e:H a=some (.ins C dx fs)):∃ mA,ObjM h a dx C mA/\(∀ f,RelO (fs.lookup f) (mA f))/\PySem.Within mA (fs.map (·.1))/\fs.length<=1000/\H dx=some (.own a):=by
 obtain⟨d,z,ne,ob,mA,n,r,q⟩:=(show ObjOk P w H h a (.ins C dx fs) from hok a _ e)
 exact⟨mA,⟨ob,n,ne⟩,r,q,z,d⟩
end
structure Cls(K:UL)(C:YT):Prop where
 pg:PySem.W.plainGet K C Str.empty=true
 hd:PySem.W.hasDictIn K C=true
 po:PySem.W.plainOver K C=true
 sa:PySem.W.findIn K (.ref C) "__setattr__"=some (some (.builtin "object.__setattr__"))
theorem Cls.get{K:UL}{C:YT}(c:Cls K C)(f:Str):PySem.W.plainGet K C f=true:=c.pg
section
variable{X:Cx}{pins:List (YT×Obj)}{σ:St}{H:Hp}{s:YS}{A:Yf}{E:YQ->YS->Prop}{Q:YQ->YS->Prop}{c:YQ}{b:Bool}
inductive TyOf(K:UL)(H:Hp):V->YQ->Prop where
 | non:TyOf K H .non (.type "NoneType")
 | bl (x:Bool):TyOf K H (.bl x) (.type "bool")
 | int (i:Int):TyOf K H (.int i) (.type "int")
 | str (x:Str):TyOf K H (.str x) (.type "str")
 | flt (x:UInt64):TyOf K H (.flt x) (.type "float")
 | lst {a:YT} {xs:List V} (e:H a=some (.lst xs)):TyOf K H (.ref a) (.type "list")
 | frz {a:YT} {o:Obj} {xs:List V} (e:H a=some (.frz o (.lst xs))):TyOf K H (.ref a) (.type "list")
 | tup {a:YT} {xs:List V} (e:H a=some (.tup xs)):TyOf K H (.ref a) (.type "tuple")
 | dK {a:YT} {kvs:List (Key×V)} (e:H a=some (.dK kvs)):TyOf K H (.ref a) (.type "dict")
 | dT {a:YT} {kvs:List (List Key×V)} (e:H a=some (.dT kvs)):TyOf K H (.ref a) (.type "dict")
 | ins {a C dx:YT} {fs:List (Str×V)} (e:H a=some (.ins C dx fs)) (cl:Cls K C) (ha:PySem.W.findIn K (.ref C) "__class__"=some (some (.builtin "object.__class__")))
    (hn:PySem.W.specialIn K (.builtin "object.__class__") "__get__"=some (some (.builtin "getset_descriptor.__get__"))) (htk:PySem.W.takesIn K (.builtin "object.__class__")=some true)
    (hm:PySem.W.mroIn K C (.type "object")=some true):TyOf K H (.ref a) (.ref C)
theorem Ih{x:V}{u t:YQ}(I:Inv X pins σ H s)(rx:RelV x u)(ty:TyOf X.K H x t)(e:PySem.W.kitOne X.K t c=some b)(h:∀ tk,Q (.bool b) {s with toks:=tk}):
 YY (YX X.prog X.w) A (call (.builtin "isinstance") [u,c]) Q E s:=by
 cases ty with
 | non=>cases(show u=Value.none from rx);exact PySem.W.kia_one PySem.W.kitx_none I.kIn True.intro e (λz=>nomatch z) h
 | bl y=>cases(show u=Value.bool y from rx);exact PySem.W.kia_one PySem.W.kitx_bool I.kIn True.intro e (λz=>nomatch z) h
 | int i=>obtain⟨t,q⟩:=(show ∃ t,u=Value.int i t from rx);cases q;exact PySem.W.kia_one PySem.W.kitx_int I.kIn True.intro e (λz=>nomatch z) h
 | str y=>obtain⟨t,q⟩:=(show ∃ t,u=Value.str y t from rx);cases q;exact PySem.W.kia_one PySem.W.kitx_str I.kIn True.intro e (λz=>nomatch z) h
 | flt y=>obtain⟨t,q⟩:=(show ∃ t,u=Value.float y t from rx);cases q;exact PySem.W.kia_one PySem.W.kitx_float I.kIn True.intro e (λz=>nomatch z) h
 | @lst a xs ea=>
   cases(show u=Value.ref a from rx);obtain⟨_,_,n,_,h1⟩:=(show ObjOk X.prog X.w H s.heap a (.lst xs) from I.hok a _ ea)
   exact PySem.W.kia_one PySem.W.kitx_list I.kIn ⟨_,h1,rfl⟩ e (λz=>nomatch z) h
 | @frz a ob xs ea=>
   cases(show u=Value.ref a from rx);obtain⟨_,_,_,n,_,h1⟩:=(show ObjOk X.prog X.w H s.heap a (.frz ob (.lst xs)) from I.hok a _ ea)
   exact PySem.W.kia_one PySem.W.kitx_list I.kIn ⟨_,h1,rfl⟩ e (λz=>nomatch z) h
 | @tup a xs ea=>
   cases(show u=Value.ref a from rx);obtain⟨_,_,_,p⟩:=(show ObjOk X.prog X.w H s.heap a (.tup xs) from I.hok a _ ea)
   obtain⟨o,h1,h2,_⟩:=p;exact PySem.W.kia_one PySem.W.kitx_tuple I.kIn ⟨o,h1,h2⟩ e (λz=>nomatch z) h
 | @dK a kvs ea=>
   cases(show u=Value.ref a from rx);obtain⟨_,_,vs,_,p⟩:=(show ObjOk X.prog X.w H s.heap a (.dK kvs) from I.hok a _ ea)
   obtain⟨o,es,ep,h1,h2,_⟩:=p;exact PySem.W.kia_one PySem.W.kitx_dict I.kIn ⟨o,h1,h2.1⟩ e (λz=>nomatch z) h
 | @dT a kvs ea=>
   cases(show u=Value.ref a from rx);obtain⟨_,_,xs,_,o,es,ep,h1,h2,_⟩:=(show ObjOk X.prog X.w H s.heap a (.dT kvs) from I.hok a _ ea)
   exact PySem.W.kia_one PySem.W.kitx_dict I.kIn ⟨o,h1,h2.1⟩ e (λz=>nomatch z) h
 | @ins a C dx fs ea cl ha hn htk hm=>
   cases(show u=Value.ref a from rx);obtain⟨mA,O,_⟩:=HQ I.hok ea;obtain⟨od,J,_⟩:=O.look;exact PySem.W.kia_one (PySem.W.kitx_own (cl.get _) cl.hd ha hn htk hm) I.kIn J e (λz=>nomatch z) h
end
structure Room(k:Nat)(A:Yf):Prop where
 hd:A.handled=none
 dp:A.depth+3 * k+5<ZE
 un:A.units+16 * k+200<cLine
 gd:A.guards=some []
theorem Room.deeper{k:Nat}{A:Yf}(r:Room (k+1) A)(env:Env):Room k (A.deeper env):=
 ⟨r.hd,by have:=r.dp;show A.depth+1+3 * k+5<_;omega,by have:=r.un;show A.units+3+16 * k+200<_;omega,r.gd⟩
theorem Room.depth{k:Nat}{A:Yf}(r:Room k A):A.depth<ZE:=by have:=r.dp;omega
noncomputable def U4:TA:=λ_ H Q=>Q [] H
noncomputable def PD(ta:TE)(tr:TA):TA:=λσ H Q=>ta σ H λx H1=>tr σ H1 λxs H2=>Q (x::xs) H2
section
variable{X:Cx}{e:Expr}{es:List Expr}{te:TE}{t:TA}{pos:Pos}
theorem BU:PA X [] U4:=λ_ _ _ _ H Q I h=>Calls.spliced_nil ⟨[],H,I,.nil,h⟩
theorem Av(ha:PE X e te)(hr:PA X es t)(hs:Yg (e::es) X.env=(false,eval e X.env)::Yg es X.env:=by rfl):PA X (e::es) (PD te t):=by
 intro pos pins s σ H Q I h;rw[hs];show YY _ _ (spliced ((false,eval e X.env)::backTo pos (Yg es X.env))) _ _ s;refine Calls.spliced_cons (thn (ha pins s σ H _ I h) λu s1 ⟨x,H1,I1,r1,q1⟩=>?_);exact thn (hr pos pins s1 σ H1 _ I1 q1) λus s2 ⟨xs,H2,I2,r2,q2⟩=>⟨x::xs,H2,I2,.cons r1 r2,q2⟩
noncomputable def SM(t:TA):TE:=λσ H Q=>t σ H λxs H1=>xs.length<=Yb/\∀ p,H1 p=none->Q (.ref p) (upd H1 p (.tup xs))
noncomputable def SN(t:TA):TE:=λσ H Q=>t σ H λxs H1=>xs.length<=Yb/\∀ p,H1 p=none->Q (.ref p) (upd H1 p (.lst xs))
theorem QI{x1}(h:PA X es t):PE X (.Tuple es x1 pos) (SM t):=by
 intro pins s σ H Q I hq;refine wpAny_Tuple_spliced (thn (h pos pins s σ H _ I hq) λus s1 ⟨xs,H1,I1,r,z,q⟩=>⟨by rw[<-r.length];exact z,?_⟩);have hf:H1 s1.heap.objs.size=none:=I1.hok.fresh (US _);refine⟨.ref s1.heap.objs.size,upd H1 s1.heap.objs.size (.tup xs),I1.laid (t':=s1.toks) (λb u e=>UP _ e) (US _) ?_,rfl,q _ hf⟩;exact⟨z,us,r,⟨_,UY _ rfl,rfl,_,rfl⟩⟩
theorem QJ(h:PA X es t):PE X (.List es pos) (SN t):=by
 intro pins s σ H Q I hq;refine wpAny_List_spliced (thn (h pos pins s σ H _ I hq) λus s1 ⟨xs,H1,I1,r,z,q⟩=>⟨by rw[<-r.length];exact z,?_⟩);have hf:H1 s1.heap.objs.size=none:=I1.hok.fresh (US _);refine⟨.ref s1.heap.objs.size,upd H1 s1.heap.objs.size (.lst xs),I1.laid (t':=s1.toks) (λb u e=>UP _ e) (US _) ?_,rfl,q _ hf⟩;exact⟨z,us,0,r,UY _ rfl⟩
end
noncomputable abbrev Sp:=List V->Hp->VK->XK->Prop
noncomputable abbrev CXT:=List Env->Hp->YS->XK->YQ->YS->Prop
structure Env0(P:YZ)(w:Yc)(K:UL)(mg:Str->Option YQ)(base:Heap)(A:Yf)(outer:List Env)(s:YS)(H:Hp):Prop where
 frames:A.frames=some outer
 mod:Mod K mg base
 bs:∀ b o,base.get? b=some o->s.heap.get? b=some o/\H b=none
 bsz:base.objs.size<=s.heap.objs.size
 funs:s.heap.FunFrames base outer
 frf:∀ b∈frs outer,H b=none
 hok:HOk P w H s.heap
 bare:AllBare s.gens
noncomputable def CE(outer:List Env)(P:YZ)(w:Yc)(H:Hp)(s:YS)(Q:VK)(u:YQ)(s':YS):Prop:=
 ∃ v H',s'.os=s.os/\AllBare s'.gens/\Un (frs outer) [] H H' s.heap s'.heap/\HOk P w H' s'.heap/\RelV v u/\Q v H'
noncomputable def CR(CX:CXT)(outer:List Env)(P:YZ)(w:Yc)(H:Hp)(s:YS)(Q:VK)(E:XK)(r:Result)(s':YS):Prop:=
 match r with
 | .ok (.ret u)=>CE outer P w H s Q u s'
 | .ok _=>False
 | .error e=>CX outer H s E e s'
structure FnOk(P:YZ)(w:Yc)(K:UL)(mg:Str->Option YQ)(base:Heap)(CX:CXT)(k:Nat)(f:YT)(fd:ZF)(ps:List Str)(sp:Sp):Prop where
 len:∀ vs H Q E,sp vs H Q E->vs.length=ps.length
 run:∀(A:Yf) (outer:List Env) (s:YS) (H:Hp) (args:Args) (us:List YQ) (vs:List V) (Q:VK) (E:XK),Room k A->Env0 P w K mg base A outer s H->BindsTo s fd args (ps.zip us)->Vals vs us->sp vs H Q E->
  codeAny (YX P w) A (.call (.ref f) args) (CR CX outer P w H s Q E) s
section
variable{X:Cx}{pins:List (YT×Obj)}{σ:St}{H:Hp}{s s':YS}
theorem Inv.env0(I:Inv X pins σ H s):Env0 X.prog X.w X.K X.mg X.base X.A X.stack s H:=
 ⟨I.ok.frames,I.ok.mod,I.bs,Ux I.ok.bsz I.sz,I.stack,I.stkFree,I.hok,I.bare⟩
theorem Inv.after{Q:VK}{u:YQ}(I:Inv X pins σ H s)(h:CE X.stack X.prog X.w H s Q u s'):EP X pins σ Q u s':=by
 obtain⟨v,H',os,bare,un,hok,r,q⟩:=h;obtain⟨hh,g,d,t,os'⟩:=s';obtain rfl:os'=s.os:=os;exact⟨v,H',I.call (h':=hh) (g':=g) (d':=d) (t':=t) (ch:=[]) un hok bare (λb z=>absurd z (by simp)),r,q⟩
end
noncomputable def PF(sp:Sp)(dvs:List V)(E:XK)(t:TA):TE:=λσ H Q=>t σ H λvs H1=>sp (vs++dvs) H1 Q E
noncomputable def Binds(K:UL)(fd:ZF)(ps:List Str)(ds:List YQ):Prop:=
 ∀(s:YS) (us:List YQ),K.In s.heap->(us++ds).length=ps.length->BindsTo s fd ⟨us,[]⟩ (ps.zip (us++ds))
theorem Binds.all{K:UL}{fd:ZF}{ps:List Str}(h:∀ us:List YQ,us.length=ps.length->Zn fd ⟨us,[]⟩=pure (ps.zip us)):Binds K fd ps []:=λs us _ hl=>by
 rw[VF]at hl ⊢;exact .of_eq (h us hl)
noncomputable def Fx(CX:CXT)(X:Cx)(E:XK):Prop:=∀(pins:List (YT×Obj)) (σ:St) (H:Hp) (s:YS) (e:YQ) (s':YS),Inv X pins σ H s->CX X.stack H s E e s'->X.xe e s'
section
variable{X:Cx}{CX:CXT}{k:Nat}{f C:YT}{fd:ZF}{ps:List Str}{sp:Sp}{dvs:List V}{ds:List YQ}{E:XK}{x m:Str}{p pos apos:Pos}{e o:Expr}{es:List Expr}{ta:TE}{t:TA}
theorem QK{pins:List (YT×Obj)}{σ:St}{H:Hp}{s:YS}{Q:VK}{us:List YQ}{vs:List V}(F:FnOk X.prog X.w X.K X.mg X.base CX k f fd ps sp)(hr:Room k X.A)(hb:Binds X.K fd ps ds)(hd:Vals dvs ds)(hx:Fx CX X E)
 (I:Inv X pins σ H s) (r:Vals vs us) (h:sp (vs++dvs) H Q E):YY (YX X.prog X.w) X.A (call (.ref f) us) (EP X pins σ Q) X.xe s:=by
 have r2:Vals (vs++dvs) (us++ds):=r.append hd;have hl:(us++ds).length=ps.length:=by rw[<-r2.length];exact F.len _ _ _ _ h
 refine A0k (Z3 (F.run X.A X.stack s H ⟨us,[]⟩ (us++ds) (vs++dvs) Q E hr I.env0 (hb s us I.kIn hl) r2 h) λr s' hq=>?_);cases r with
 | error e=>exact hx pins σ H s e s' I hq
 | ok fl=>
   cases fl with
   | ret u=>exact I.after hq
   | next=>exact False.elim hq
   | brk=>exact False.elim hq
   | cont=>exact False.elim hq
theorem NJ(F:FnOk X.prog X.w X.K X.mg X.base CX k f fd ps sp)(hr:Room k X.A)(hg:Gl X x)(hm:X.mg x=some (.ref f))(hk:PySem.W.keepIn X.K (.ref f)=true)(hb:Binds X.K fd ps ds)(hd:Vals dvs ds)(hx:Fx CX X E)
 (ha:PA X (e::es) t) (hdb:(x == ("__debug__":Str))=false:=by decide) (he:Yg (e::es) X.env=(false,eval e X.env)::Yg es X.env:=by rfl) (hpl:(backTo pos (Yg es X.env)).any (·.1)=false:=by rfl):
 PE X (.Call (.Name x p) (e::es) [] pos) (PF sp dvs E t):=by
 intro pins s σ H Q I h;refine Ys (N7 I hg hm ?_ hdb);refine PySem.W.callWith_K (h₀:=X.base) I.ok.mod.kin hk (thn (ha pos pins s σ H _ I h) λus s1 ⟨vs,H1,I1,r,q⟩=>⟨I1.kIn,?_⟩) he hpl;exact QK F hr hb hd hx I1 r q
end
structure FnScope(N P:List Str)(sc:Yi):Prop where
 kind:sc.kind = .function
 co:sc.isCoroutine=false
 gen:sc.isGenerator=false
 nd:N.Nodup
 pre:N.take P.length=P
 par:∀ x∈P,sc.names.lookup x=some .local\/sc.names.lookup x=some .cell
 nofree:∀ y∈sc.names,y.2 ≠ .free
theorem DX{kindOf:Str->Option Yu}{x:Str}:∀{binds:List (Str×YQ)} {m:Str->Option YQ},(∀ v,(x,v)∉binds)->bindL kindOf binds m x=m x
 | [],_,_=>rfl
 | (n,v)::r,m,h=>by
   unfold bindL;rw[DX λw hw=>h w (Uc _ hw)];split
   ·have:x≠n:=by rintro rfl;exact h v Uh
    simp[this]
   ·rfl
theorem DY{kindOf:Str->Option Yu}{x:Str}:∀{binds:List (Str×YQ)} {m:Str->Option YQ},(∀ v,(x,v)∉binds)->bindC kindOf binds m x=m x
 | [],_,_=>rfl
 | (n,v)::r,m,h=>by
   unfold bindC;rw[DY λw hw=>h w (Uc _ hw)];split
   ·rfl
   ·have:x≠n:=by rintro rfl;exact h v Uh
    simp[this]
theorem DZ{kindOf:Str->Option Yu}{x:Str}{v:YQ}:∀{P:List Str} {vs:List YQ} {i:Nat} {m:Str->Option YQ},P.Nodup->P[i]?=some x->vs[i]?=some v->kindOf x=some .local->
 bindL kindOf (P.zip vs) m x=some v
 | [],_,_,_,_,h,_,_=>by simp at h
 | _::_,[],_,_,_,_,h,_=>by simp at h
 | p::P,w::vs,0,m,nd,h1,h2,hk=>by
   simp at h1 h2;subst h1;subst h2;show bindL kindOf ((p,w)::P.zip vs) m p=_;unfold bindL;rw[DX λv hv=>(Vg.mp nd).1 (Vu hv).1,iP hk];simp
 | p::P,w::vs,i+1,m,nd,h1,h2,hk=>by
   show bindL kindOf ((p,w)::P.zip vs) m x=_;unfold bindL;exact DZ (i:=i) (Vg.mp nd).2 (by simpa using h1) (by simpa using h2) hk
theorem Da{kindOf:Str->Option Yu}{x:Str}{v:YQ}:∀{P:List Str} {vs:List YQ} {i:Nat} {m:Str->Option YQ},P.Nodup->P[i]?=some x->vs[i]?=some v->kindOf x≠some .local->
 bindC kindOf (P.zip vs) m x=some v
 | [],_,_,_,_,h,_,_=>by simp at h
 | _::_,[],_,_,_,_,h,_=>by simp at h
 | p::P,w::vs,0,m,nd,h1,h2,hk=>by
   simp at h1 h2;subst h1;subst h2;show bindC kindOf ((p,w)::P.zip vs) m p=_;unfold bindC;rw[DY λv hv=>(Vg.mp nd).1 (Vu hv).1,iG hk];simp
 | p::P,w::vs,i+1,m,nd,h1,h2,hk=>by
   show bindC kindOf ((p,w)::P.zip vs) m x=_;unfold bindC;exact Da (i:=i) (Vg.mp nd).2 (by simpa using h1) (by simpa using h2) hk
noncomputable def start(N:List Str)(vs:List V):St:=vs.map some++Ue (N.length - vs.length) none
noncomputable def Ii(CX:CXT)(P:YZ)(w:Yc)(K:UL)(mg:Str->Option YQ)(base:Heap)(N:List Str)(qual:Str)(scope:Yi)(f:YT)(cd:YQ)(A:Yf)(outer:List Env)(s:YS)(H:Hp)(E:XK):Cx where
 prog:=P
 w:=w
 K:=K
 mg:=mg
 base:=base
 A:=A.deeper (envOfC qual scope s.heap.objs.size f cd)
 N:=N
 s₀:=s
 H₀:=H
 env:=envOfC qual scope s.heap.objs.size f cd
 outer:=outer
 stack:=envOfC qual scope s.heap.objs.size f cd::outer
 ex:=[]
 calm:=true
 fn:=λ_=>true
 pn:=[]
 xe:=λe s'=>YY (YX P w) (A.deeper (envOfC qual scope s.heap.objs.size f cd)) (leaving (envOfC qual scope s.heap.objs.size f cd) e) (λ_ s''=>CX outer H s E e s'') (λe' s''=>CX outer H s E e' s'') s'
theorem Eg{sc:Yi}{n:Nat}{x:Str}(h:sc.names.lookup x=some .cell):∃ c,(Yv n sc.names []).lookup x=some c:=by
 have q:=PySem.W.cellsFrom_some sc.names n [] (.inl h);exact WQ.mp q
theorem Ij{CX:CXT}{P:YZ}{w:Yc}{K:UL}{mg:Str->Option YQ}{base:Heap}{N ps:List Str}{qual:Str}{scope:Yi}{f:YT}{cd:YQ}{A:Yf}{outer:List Env}{s s1:YS}{H:Hp}{E:XK}{us:List YQ}{vs:List V}
 (S:FnScope N ps scope) (hd:A.handled=none) (e0:Env0 P w K mg base A outer s H) (hl:vs.length=ps.length) (r:Vals vs us)
 (x:InCallC s s.heap.objs.size (bindL (envOfC qual scope s.heap.objs.size f cd).kindOf (ps.zip us) λ_=>none) (Yv (s.heap.objs.size+1) scope.names []) (bindC (envOfC qual scope s.heap.objs.size f cd).kindOf (ps.zip us) λ_=>none) s1):
 Inv (Ii CX P w K mg base N qual scope f cd A outer s H E) [] (start N vs) H s1:=by
 have hpl:ps.length<=N.length:=by have:=congrArg WW S.pre;rw[VJ]at this;omega
 obtain⟨h1,tk,rfl,hk⟩:=x.done;have noA:∀ b:YT,b∉(Ii CX P w K mg base N qual scope f cd A outer s H E).ex:=λb z=>absurd (show b∈([]:List YT) from z) (by simp)
 refine⟨⟨e0.mod,S.kind,rfl,rfl,US _,λy z c h1 h2=>?_,λy hy=>?_,λy c _ h=>?_,λ_=>hd,Around.frames_deeper e0.frames,.inr ⟨rfl,rfl⟩,λb z=>absurd z (noA b),e0.bs,e0.bsz,λb _ _=>noA b,λb z=>absurd z (noA b),e0.funs,e0.frf⟩,
  rfl,e0.bare,Un.kept hk,⟨_,x.toInCall.ns,λi y v h1 h2 h3=>?_⟩,λy c h=>⟨_,x.cell y c h⟩,e0.hok.fresh (US _),λy c h=>?_,λp hp=>absurd (show p∈([]:List (YT×Obj)) from hp) (by simp),e0.hok.kept hk,?_⟩
 ·exact A0n x.apart (PySem.mem_of_lookup h1) (PySem.mem_of_lookup h2)
 ·have hy:scope.names.lookup y=some .cell\/scope.names.lookup y=some .free:=hy;rcases hy with hy | hy
  ·exact Eg hy
  ·exact absurd rfl (S.nofree _ (PySem.mem_of_lookup hy))
 ·exact Vf (x.above y c (PySem.mem_of_lookup h))
 ·have hi:i<vs.length:=by
   unfold start at h2;by_cases hi:i<vs.length
   ·exact hi
   ·rw[Uw (by simpa using hi)]at h2;rw[Vi]at h2;split at h2<;>cases h2
  have ha:vs[i]?=some v:=by
   unfold start at h2;rw[Ud (by simpa using hi),UZ]at h2;cases e:vs[i]? with
   | none=>rw[e]at h2;cases h2
   | some a=>rw[e]at h2;cases h2;rfl
  obtain⟨u,hu,rv⟩:=r.get ha
  have hp:ps[i]?=some y:=by
   rw[<-S.pre,Ww (by omega)];exact h1
  have ndP:ps.Nodup:=by rw[<-S.pre];exact S.nd.sublist (Xh _ _)
  refine⟨u,rv,?_⟩;rcases S.par y (UO hp) with k | k
  ·exact .inl ⟨k,DZ ndP hp hu k⟩
  ·obtain⟨c,e⟩:=Eg (n:=s.heap.objs.size+1) k;refine .inr ⟨.inl k,c,e,?_⟩;have q:=x.cell y c e;rw[Da ndP hp hu (by show scope.names.lookup y≠_;rw[k];decide)]at q;exact q
 ·exact e0.hok.fresh (Vf (x.above y c (PySem.mem_of_lookup h)))
 ·unfold start;show _=N.length;rw[UR,UQ,WD];omega
theorem SQ{CX:CXT}{P:YZ}{w:Yc}{K:UL}{mg:Str->Option YQ}{base:Heap}{k:Nat}{f:YT}{name qual:Str}{params:ZZ}{body:List Stmt}{scope:Yi}{dV kV doc pm cdv ct oc:YQ}{an od:Option YT}
 {osl:Array (Option YQ)} {N ps:List Str} {sp:Sp} (lk:K.lookup f=some ⟨oc,od,.func (PySem.W.fnOf name qual params body scope dV kV doc pm an cdv ct),osl⟩) (hcd:PySem.W.codeIn K cdv qual=true) (S:FnScope N ps scope)
 (len:∀ vs H Q E,sp vs H Q E->vs.length=ps.length)
 (hbody:∀(A:Yf) (outer:List Env) (s:YS) (H:Hp) (vs:List V) (Q:VK) (E:XK),Room k (A.deeper (envOfC qual scope s.heap.objs.size f cdv))->sp vs H Q E->
   ∃ t,PSs (Ii CX P w K mg base N qual scope f cdv A outer s H E) body t/\t {nx:=λ_ H'=>Q .non H',rt:=Q} (start N vs) H):
 FnOk P w K mg base CX (k+1) f (PySem.W.fnOf name qual params body scope dV kV doc pm an cdv ct) ps sp:=by
 refine⟨len,λA outer s H args us vs Q E hr e0 hb r hsp=>?_⟩;have hl:=len _ _ _ _ hsp;have KX:K.In s.heap:=e0.mod.kin.keeps λb o e=>(e0.bs b o e).1;have lim:s.heap.NoLimit:=e0.mod.nolimit.keeps λb o e=>(e0.bs b o e).1
 have hkind:∀ y∈ps.zip us,scope.names.lookup y.1=some .local\/(scope.names.lookup y.1=some .cell/\((Yv (s.heap.objs.size+1) scope.names []).lookup y.1).isSome=true):=λ⟨n,v⟩ hy=>by
  rcases S.par n (Vu hy).1 with q | q
  ·exact .inl q
  ·exact .inr ⟨q,PySem.W.cellsFrom_some _ _ _ (.inl q)⟩
 refine codeAny_call_function hr.depth (KX _ _ lk) rfl S.co S.gen rfl (PySem.W.codeRec_of KX hcd) (hb _ _ _ _ ?_);refine wpAny_newFunctionEnv_cells S.kind hkind λenv he s1 x=>?_;subst he;refine⟨lim.keeps x.toInCall.keep,codeAny_func ?_⟩;obtain⟨t,ht,hq⟩:=hbody A outer s H vs Q E (hr.deeper _) hsp;have I:Inv (Ii CX P w K mg base N qual scope f cdv A outer s H E) [] (start N vs) H s1:=Ij S hr.hd e0 hl r x;refine Yo (ht [] s1 (start N vs) H _ I hq) (λfl s' hs=>?_) λe s' hs=>hs
 have fin:∀{σ':St} {H':Hp} {v:V} {u:YQ},Inv (Ii CX P w K mg base N qual scope f cdv A outer s H E) [] σ' H' s'->RelV v u->Q v H'->CE outer P w H s Q u s':=
  λ{σ' H' v u} J rv q=>⟨v,H',J.os,J.bare,J.base,J.hok,rv,q⟩
 cases fl with
 | ret u=>
   obtain⟨v,σ',H',J,rv,q⟩:=hs;exact fin J rv q
 | next=>
   obtain⟨σ',H',J,q⟩:=hs;exact fin (v:=V.non) (u:=Value.none) J rfl q
 | brk=>
   obtain⟨_,_,_,q⟩:=hs;exact False.elim q
 | cont=>
   obtain⟨_,_,_,q⟩:=hs;exact False.elim q
section
variable{X:Cx}{x:Str}{p pos:Pos}{e:Expr}{es:List Expr}{t:TA}{id T:String}{r:List V->Hp->VK->Prop}
noncomputable def tCB(r:List V->Hp->VK->Prop)(t:TA):TE:=λσ H Q=>t σ H λvs H1=>r vs H1 Q
theorem w6(hc:CallR X (.builtin id) r)(hg:Gl X x)(hm:X.mg x=none)(hv:Yd x=some (.builtin id))(ha:PA X (e::es) t)(hn:x≠"__name__":=by decide)(hdb:(x == ("__debug__":Str))=false:=by decide)
 (he:Yg (e::es) X.env=(false,eval e X.env)::Yg es X.env:=by rfl) (hpl:(backTo pos (Yg es X.env)).any (·.1)=false:=by rfl):PE X (.Call (.Name x p) (e::es) [] pos) (tCB r t):=by
 intro pins s σ H Q I h;refine Ys (At I hg hm hv ?_ hn hdb);exact PyProof.Rows.callWith_builtin1 (thn (ha pos pins s σ H _ I h) λus s1 ⟨vs,H1,I1,r1,q1⟩=>hc pins s1 σ H1 vs us Q I1 r1 q1) he hpl
theorem A0(hc:CallR X (.type T) r)(hg:Gl X x)(hm:X.mg x=none)(hv:Yd x=some (.type T))(ha:PA X (e::es) t)(hn:x≠"__name__":=by decide)(hdb:(x == ("__debug__":Str))=false:=by decide)
 (he:Yg (e::es) X.env=(false,eval e X.env)::Yg es X.env:=by rfl) (hpl:(backTo pos (Yg es X.env)).any (·.1)=false:=by rfl):PE X (.Call (.Name x p) (e::es) [] pos) (tCB r t):=by
 intro pins s σ H Q I h;refine Ys (At I hg hm hv ?_ hn hdb);exact PyProof.Rows.callWith_type1 (thn (ha pos pins s σ H _ I h) λus s1 ⟨vs,H1,I1,r1,q1⟩=>hc pins s1 σ H1 vs us Q I1 r1 q1) he hpl
end
end L2
namespace HT
open PySem PyProof.Rows
noncomputable def lexLt:List Int->List Int->Bool
 | [],[]=>false
 | [],_::_=>true
 | _::_,[]=>false
 | x::xs,y::ys=>if x=y then lexLt xs ys else decide (x<y)
section
variable{prog:YZ}{w:Yc}{A:Yf}{E:YQ->YS->Prop}{s:YS}
noncomputable def sIx(n d:Nat):Option Int->Nat
 | none=>d
 | some v=>if v<0 then (v+(n:Int)).toNat else min v.toNat n
end
end HT
namespace L2
open PySem PySem.Spec PyProof.Rows
noncomputable abbrev TO:=St->Hp->(Option Int->Hp->Prop)->Prop
noncomputable def PO(X:Cx)(e:Option Expr)(t:TO):Prop:=
 ∀(pins:List (YT×Obj)) (s:YS) (σ:St) (H:Hp) (Q:Option Int->Hp->Prop),Inv X pins σ H s->t σ H Q->
  YY (YX X.prog X.w) X.A (evalPart e X.env) (λu s'=>∃ o H',Inv X pins σ H' s'/\IsPart u o/\Q o H') X.xe s
noncomputable def NK:TO:=λ_ H Q=>Q none H
noncomputable def SR(t:TE):TO:=λσ H Q=>t σ H λx H1=>∃ i,x = .int i/\Q (some i) H1
section
variable{X:Cx}{e:Expr}{te:TE}{lo hi:Option Expr}{tl th:TO}{pos p2:Pos}
theorem NL:PO X none NK:=by
 intro pins s σ H Q I h;rw[evalPart_none];exact YV ⟨none,H,I,.none,h⟩
theorem HR(h:PE X e te):PO X (some e) (SR te):=by
 intro pins s σ H Q I hw;rw[evalPart_some];refine thn (h pins s σ H _ I hw) λu s1 ⟨x,H1,I1,r1,q1⟩=>?_;obtain⟨i,rfl,q⟩:=q1;obtain⟨t,rfl⟩:=r1;exact⟨some i,H1,I1,.int i t,q⟩
noncomputable def SlR(X:Cx)(r:V->Option Int->Option Int->Hp->VK->Prop):Prop:=
 ∀(pins:List (YT×Obj)) (s:YS) (σ:St) (H:Hp) (x:V) (v vl vu:YQ) (lo hi:Option Int) (sl:YT) (Q:VK),Inv X pins σ H s->RelV x v->s.heap.IsSliceOf sl vl vu .none->IsPart vl lo->IsPart vu hi->r x lo hi H Q->
  ∃ T id,A0K (.type T) "__getitem__"=pure (some (.builtin id))/\s.TypeIs v T/\YY (YX X.prog X.w) X.A (getItem v (.ref sl)) (EP X pins σ Q) X.xe s
theorem SlR.or{r r':V->Option Int->Option Int->Hp->VK->Prop}(h:SlR X r)(h':SlR X r'):SlR X (λx lo hi H Q=>r x lo hi H Q\/r' x lo hi H Q):=by
 intro pins s σ H x v vl vu lo hi sl Q I rx hs pl pu q;rcases q with q | q
 ·exact h pins s σ H x v vl vu lo hi sl Q I rx hs pl pu q
 ·exact h' pins s σ H x v vl vu lo hi sl Q I rx hs pl pu q
end
noncomputable def ixN(n:Nat)(i:Int):Option Nat:=if 0<=i then (if i<n then some i.toNat else none) else if -(n:Int)<=i then some (i+n).toNat else none
noncomputable def atI{α:Type}(xs:List α)(i:Int):Option α:=(ixN xs.length i).bind λj=>xs[j]?
theorem HS{n:Nat}{i:Int}{j:Nat}(h:ixN n i=some j):A10 i n=some j/\j<n /\ -(n:Int)<=i/\i<n:=by
 unfold ixN at h;by_cases h0:0<=i
 ·rw[iP h0]at h;by_cases h1:i<n
  ·rw[iP h1]at h;have e:i.toNat=j:=oj h;exact⟨by rw[A0D h0 h1,e],by omega,by omega,h1⟩
  ·rw[iG h1]at h;cases h
 ·rw[iG h0]at h;by_cases h1:-(n:Int)<=i
  ·rw[iP h1]at h;have e:(i+n).toNat=j:=oj h;exact⟨by rw[A0o (by omega) h1,e],by omega,h1,by omega⟩
  ·rw[iG h1]at h;cases h
theorem HU{α:Type}{xs:List α}{i:Int}{v:α}(h:atI xs i=some v):∃ j,A10 i xs.length=some j/\xs[j]?=some v/\j<xs.length /\ -(xs.length:Int)<=i/\i<xs.length:=by
 unfold atI at h;cases e:ixN xs.length i with
 | none=>rw[e]at h;cases h
 | some j=>
   rw[e]at h;obtain⟨h1,h2,h3,h4⟩:=HS e;exact⟨j,h1,h,h2,h3,h4⟩
theorem f9{α:Type}{xs:List α}{j:Nat}{v:α}(h:xs[j]?=some v):atI xs (j:Int)=some v:=by
 have hj:j<xs.length:=(gM h).1
 have e:ixN xs.length (j:Int)=some j:=by
  unfold ixN;rw[iP (by omega),iP (by omega)];simp
 unfold atI;rw[e];exact h
theorem Eh{α:Type}(xs:List α)(v:α):atI (xs++[v]) (-1)=some v:=by
 have hl:(xs++[v]).length=xs.length+1:=by simp
 have e:ixN (xs++[v]).length (-1)=some xs.length:=by
  unfold ixN;rw[hl,iG (by decide),iP (by omega)]
  congr 1
  omega
 unfold atI;rw[e];show(xs++[v])[xs.length]?=some v;simp
noncomputable def HV(b:Expr):Prop:=∀ o i,A05 b false o i=operate [o,i] (getItem o i)
noncomputable def IxR(X:Cx)(r:R2):Prop:=
 ∀(value slice:Expr) (pins:List (YT×Obj)) (s:YS) (σ:St) (H:Hp) (x y:V) (v u:YQ) (Q:VK),Inv X pins σ H s->RelV x v->RelV y u->r x y H Q->
  A05 slice false v u=operate [v,u] (getItem v u)->YY (YX X.prog X.w) X.A (A0i value slice v u) (EP X pins σ Q) X.xe s
noncomputable def MtR(X:Cx)(id:String)(r:V->List V->Hp->VK->Prop):Prop:=
 ∀(pins:List (YT×Obj)) (s:YS) (σ:St) (H:Hp) (x:V) (xs:List V) (v:YQ) (us:List YQ) (Q:VK),Inv X pins σ H s->RelV x v->Vals xs us->r x xs H Q->
  YY (YX X.prog X.w) X.A (call (.builtin id) (v::us)) (EP X pins σ Q) X.xe s
section
variable{X:Cx}{a b:Expr}{ta tb:TE}{pos:Pos}
theorem IxR.or{r r':R2}(h:IxR X r)(h':IxR X r'):IxR X (λx y H Q=>r x y H Q\/r' x y H Q):=by
 intro value slice pins s σ H x y v u Q I rx ry q hs;rcases q with q | q
 ·exact h value slice pins s σ H x y v u Q I rx ry q hs
 ·exact h' value slice pins s σ H x y v u Q I rx ry q hs
theorem SS{r:R2}(hr:IxR X r)(ha:PE X a ta)(hb:PE X b tb)(hs:HV b):PE X (.Subscript a b pos) (tOp r ta tb):=by
 intro pins s σ H Q I h;exact A0L (QA ha hb I h λv u s2 x y H2 I2 rx ry q=>hr a b pins s2 σ H2 x y v u Q I2 rx ry q (hs _ _))
noncomputable def ST(K:UL):R2:=λx y H Q=>∃ p xs i v,x = .ref p/\y = .int i/\SqL K H p xs/\atI xs i=some v/\Q v H
noncomputable def SU(K:UL):R2:=λx y H Q=>∃ p xs i v,x = .ref p/\y = .int i/\SqT K H p xs/\atI xs i=some v/\Q v H
theorem ix_list:IxR X (ST X.K):=by
 intro value slice pins s σ H x y v u Q I rx ry h hs;obtain⟨p,xs,i,z,rfl,rfl,hq,he,q⟩:=h;cases rx;obtain⟨t,rfl⟩:=ry;obtain⟨its,r,pl,hz⟩:=I.list hq;obtain⟨j,h1,h2,h3,h4,h5⟩:=HU he;obtain⟨w,ew,rw'⟩:=r.get h2;have hl:=r.length;have hn:=Bx;have fin:EP X pins σ Q w s:=⟨z,H,I,rw',q⟩
 by_cases h0:0<=i
 ·have hj:i.toNat=j:=by
   rw[A0D h0 h5]at h1;exact oj h1
  exact item_listR pl.isList h0 (by omega) (by rw[hj];simpa using ew) fin hs
 ·have hj:(i+(its.toArray.size:Int)).toNat=j:=by
   rw[A0o (by omega) h4]at h1;rw[UV,<-hl];exact oj h1
  exact Zt (x:=w) pl.isList.typeIs slot_list_getitem.lookup
   (wpAny_getItem_list_neg (Q:=λr s'=>r=w/\EP X pins σ Q r s') pl.isList (by omega) (by rw[UV]<;>omega) (by omega) (by rw[hj];simpa using ew) ⟨rfl,fin⟩) hs
theorem QL:IxR X (SU X.K):=by
 intro value slice pins s σ H x y v u Q I rx ry h hs;obtain⟨p,xs,i,z,rfl,rfl,hq,he,q⟩:=h;cases rx;obtain⟨t,rfl⟩:=ry;obtain⟨its,r,pl,hz⟩:=I.tuple hq;obtain⟨j,h1,h2,h3,h4,h5⟩:=HU he;obtain⟨w,ew,rw'⟩:=r.get h2;have hl:=r.length;have hn:=Bx;have fin:EP X pins σ Q w s:=⟨z,H,I,rw',q⟩
 exact Zt (x:=w) pl.typeIs slot_tuple_getitem.lookup
  (getItem_tuple (j:=j) (Q:=λr s'=>r=w/\EP X pins σ Q r s') pl (by omega) (by omega) (by rw[UV,<-hl];exact h1) (by simpa using ew) ⟨rfl,fin⟩) hs
theorem Fy(its:List YQ)(n j:Nat)(u:YQ):Obj.mapSeq (·.setIfInBounds j u) {cls := .type "list",data := .seq its.toArray n}={cls := .type "list",data := .seq (its.set j u).toArray n}:=by
 simp[Obj.mapSeq]
theorem Inv.lst{pins:List (YT×Obj)}{σ:St}{H:Hp}{s:YS}{p:YT}{xs:List V}(I:Inv X pins σ H s)(h:H p=some (.lst xs)):
 ∃(its:List YQ) (n:Nat),Vals xs its/\s.heap.get? p=some {cls := .type "list",data := .seq its.toArray n}/\xs.length<=Yb:=by
 obtain⟨z,its,n,r,e⟩:=I.hok p _ h;exact⟨its,n,r,e,z⟩
theorem Inv.lstUpd{pins:List (YT×Obj)}{σ:St}{H:Hp}{s:YS}{p:YT}{xs ys:List V}{its its':List YQ}{n n':Nat}{f:Obj->Obj}(I:Inv X pins σ H s)(h:H p=some (.lst xs))
 (ho:s.heap.get? p=some {cls := .type "list",data := .seq its.toArray n}) (hf:f {cls := .type "list",data := .seq its.toArray n}={cls := .type "list",data := .seq its'.toArray n'}) (r:Vals ys its') (hz:ys.length<=Yb) (t:Nat):
 Inv X pins σ (upd H p (.lst ys)) {s with heap:=s.heap.update p f,toks:=t}:=by
 have e:(s.heap.update p f).get? p=some {cls := .type "list",data := .seq its'.toArray n'}:=by
  rw[VD f ho (by rw[hf]<;>rfl),hf]
 refine I.write (x:=p) (e:=p) (by rw[h];trivial) (.inl rfl) (λb u hb q=>(VT _ _ (Ne.symm hb)).trans q) ⟨_,e⟩ ?_;exact⟨hz,its',n',r,e⟩
noncomputable def KD:V->V->V->Hp->(Hp->Prop)->Prop:=λo i v H Q=>∃ p xs k j,o = .ref p/\i = .int k/\H p=some (.lst xs)/\ixN xs.length k=some j/\Q (upd H p (.lst (xs.set j v)))
theorem KG:Rz X KD:=by
 intro pins s σ H o i v ov iv u Q I ro ri rv h;obtain⟨p,xs,k,j,rfl,rfl,hp,hj,q⟩:=h;cases ro;obtain⟨t,rfl⟩:=ri;obtain⟨its,n,r,ho,hz⟩:=I.lst hp;obtain⟨h1,h2,h3,h4⟩:=HS hj;have hl:=r.length;have hn:=Bx
 have I':Inv X pins σ (upd H p (.lst (xs.set j v))) {s with heap:=s.heap.update p (Obj.mapSeq (·.setIfInBounds j u))}:=
  I.lstUpd hp ho (Fy its n j u) (r.set rv j) (by rw[Uy];exact hz) s.toks
 by_cases h0:0<=k
 ·have hk:k.toNat=j:=by
   rw[A0D h0 h4]at h1;exact oj h1
  exact PySem.W.ki_setAt ho h0 (by omega) (by rw[UV,<-hl];exact h4) (by rw[hk];exact⟨_,I',q⟩)
 ·have hk:(k+(its.toArray.size:Int)).toNat=j:=by
   rw[A0o (by omega) h3]at h1;rw[UV,<-hl];exact oj h1
  exact PySem.W.ki_setBack ho (by omega) (by rw[UV,<-hl];exact h3) (by omega) (by rw[hk];exact⟨_,I',q⟩)
noncomputable def y7:V->Bool
 | .non=>true
 | .bl _=>true
 | .int _=>true
 | .str _=>true
 | _=>false
noncomputable def eqV:V->V->Bool
 | .non,.non=>true
 | .bl a,.bl b=>a == b
 | .bl a,.int b=>(if a then 1 else 0) == b
 | .int a,.bl b=>a == (if b then 1 else 0)
 | .int a,.int b=>a == b
 | .str a,.str b=>a == b
 | _,_=>false
theorem KH{A:Yf}{s:YS}{y x:V}{u v:YQ}(ry:RelV y u)(rx:RelV x v)(fy:y7 y=true)(fx:y7 x=true):SeqAt.EqAt A s u v (eqV y x):=by
 cases y with
 | non=>
   cases ry;cases x with
   | non=>cases rx;exact SeqAt.EqAt.same _
   | bl b=>cases rx;exact SeqAt.EqAt.none_bool b
   | int b=>obtain⟨t,rfl⟩:=rx;exact SeqAt.EqAt.none_int b t
   | str b=>obtain⟨t,rfl⟩:=rx;exact SeqAt.EqAt.none_str b t
   | _=>exact absurd (show false=true from fx) Ua
 | bl a=>
   cases ry;cases x with
   | non=>cases rx;exact SeqAt.EqAt.bool_none a
   | bl b=>cases rx;exact SeqAt.EqAt.bool_bool a b
   | int b=>obtain⟨t,rfl⟩:=rx;exact SeqAt.EqAt.bool_int a b t
   | str b=>obtain⟨t,rfl⟩:=rx;exact SeqAt.EqAt.bool_str a b t
   | _=>exact absurd (show false=true from fx) Ua
 | int a=>
   obtain⟨t',rfl⟩:=ry;cases x with
   | non=>cases rx;exact SeqAt.EqAt.int_none a t'
   | bl b=>cases rx;exact SeqAt.EqAt.int_bool a t' b
   | int b=>obtain⟨t,rfl⟩:=rx;exact SeqAt.EqAt.int_int a t' b t
   | str b=>obtain⟨t,rfl⟩:=rx;exact SeqAt.EqAt.int_str a t' b t
   | _=>exact absurd (show false=true from fx) Ua
 | str a=>
   obtain⟨t',rfl⟩:=ry;cases x with
   | non=>cases rx;exact SeqAt.EqAt.str_none a t'
   | bl b=>cases rx;exact SeqAt.EqAt.str_bool a t' b
   | int b=>obtain⟨t,rfl⟩:=rx;exact SeqAt.EqAt.str_int a t' b t
   | str b=>obtain⟨t,rfl⟩:=rx;exact SeqAt.EqAt.str_str a t' b t
   | _=>exact absurd (show false=true from fx) Ua
 | _=>exact absurd (show false=true from fy) Ua
noncomputable def eqU(x:V)(u:YQ):Bool:=match u with
 | .none=>eqV .non x
 | .bool b=>eqV (.bl b) x
 | .int i _=>eqV (.int i) x
 | .str z _=>eqV (.str z) x
 | _=>false
theorem KI{x y:V}{u:YQ}(r:RelV y u)(f:y7 y=true):eqU x u=eqV y x:=by
 cases y with
 | non=>cases r;rfl
 | bl b=>cases r;rfl
 | int i=>obtain⟨t,rfl⟩:=r;rfl
 | str z=>obtain⟨t,rfl⟩:=r;rfl
 | _=>exact absurd (show false=true from f) Ua
theorem Bd{x:V}:∀{xs:List V} {us:List YQ},Vals xs us->xs.all y7=true->us.any (eqU x)=xs.any λy=>eqV y x
 | _,_,.nil,_=>rfl
 | y::xs,u::us,.cons r t,f=>by
   rw[Vb,UN]at f;rw[Vc,Vc,KI r f.1,Bd t f.2]
theorem B5{A:Yf}{s:YS}{x:V}{v:YQ}(rx:RelV x v)(fx:y7 x=true):∀{xs:List V} {us:List YQ},Vals xs us->xs.all y7=true->∀ u∈us,SeqAt.EqAt A s u v (eqU x u)
 | _,_,.nil,_=>λu hu=>by cases hu
 | y::xs,u::us,.cons r t,f=>λu' hu=>by
   rw[Vb,UN]at f;rcases Ub.mp hu with rfl | hu
   ·rw[KI r f.1];exact KH r rx f.1 fx
   ·exact B5 rx fx t f.2 u' hu
noncomputable def inV(x:V)(xs:List V):Bool:=xs.any λy=>eqV y x
noncomputable def rIn(K:UL)(neg:Bool):R2:=λx y H Q=>∃ p xs,y = .ref p/\(SqL K H p xs\/SqT K H p xs)/\y7 x=true/\xs.all y7=true/\Q (.bl (if neg then !inV x xs else inV x xs)) H
theorem Il:OpR X (Yk .In) (rIn X.K false):=by
 intro pins s σ H x y v u Q I rx ry h;obtain⟨p,xs,rfl,hq,fx,fs,q⟩:=h;cases ry;rcases hq with hq | hq
 ·obtain⟨its,r,pl,hz⟩:=I.list hq;refine SeqAt.in_listAt (eqU x) pl.isList (λw hw=>B5 rx fx r fs w (by simpa using hw)) ⟨.bl _,H,I,rfl,?_⟩;rw[show its.toArray.any (eqU x)=its.any (eqU x) by simp,Bd r fs];exact q
 ·obtain⟨its,r,pl,hz⟩:=I.tuple hq;refine SeqAt.in_tupleAt (eqU x) pl (λw hw=>B5 rx fx r fs w (by simpa using hw)) ⟨.bl _,H,I,rfl,?_⟩;rw[show its.toArray.any (eqU x)=its.any (eqU x) by simp,Bd r fs];exact q
theorem E6:OpR X (Yk .NotIn) (rIn X.K true):=by
 intro pins s σ H x y v u Q I rx ry h;obtain⟨p,xs,rfl,hq,fx,fs,q⟩:=h;cases ry;rcases hq with hq | hq
 ·obtain⟨its,r,pl,hz⟩:=I.list hq;refine SeqAt.notIn_listAt (eqU x) pl.isList (λw hw=>B5 rx fx r fs w (by simpa using hw)) ⟨.bl _,H,I,rfl,?_⟩;rw[show its.toArray.any (eqU x)=its.any (eqU x) by simp,Bd r fs];exact q
 ·obtain⟨its,r,pl,hz⟩:=I.tuple hq;refine SeqAt.notIn_tupleAt (eqU x) pl (λw hw=>B5 rx fx r fs w (by simpa using hw)) ⟨.bl _,H,I,rfl,?_⟩;rw[show its.toArray.any (eqU x)=its.any (eqU x) by simp,Bd r fs];exact q
theorem E7:CallR X (.builtin "len") (λxs H Q=>∃ p ys,xs=[.ref p]/\(SqL X.K H p ys\/SqT X.K H p ys)/\Q (.int ys.length) H):=by
 intro pins s σ H xs us Q I r h;obtain⟨p,ys,rfl,hq,q⟩:=h;obtain⟨u,rfl,rx⟩:=AS r;cases rx;have hn:=Bx;rcases hq with hq | hq
 ·obtain⟨its,r',pl,hz⟩:=I.list hq;have hlen:=r'.length;exact Calls.call_len_list pl.isList (by simp only[UV]<;>omega) ⟨.int ys.length,H,I.tok _,⟨s.toks+1,by rw[UV,hlen]⟩,q⟩
 ·obtain⟨its,r',pl,hz⟩:=I.tuple hq;have hlen:=r'.length;exact len_tuple pl (by simp only[UV]<;>omega) ⟨.int ys.length,H,I.tok _,⟨s.toks+1,by rw[UV,hlen]⟩,q⟩
theorem CallR.or{f:YQ}{r r':List V->Hp->VK->Prop}(h:CallR X f r)(h':CallR X f r'):CallR X f (λxs H Q=>r xs H Q\/r' xs H Q):=by
 intro pins s σ H xs us Q I rs q;rcases q with q | q
 ·exact h pins s σ H xs us Q I rs q
 ·exact h' pins s σ H xs us Q I rs q
theorem E8:CallR X (.type "list") (λxs H Q=>∃ p ys,xs=[.ref p]/\(SqL X.K H p ys\/SqT X.K H p ys)/\∀ l,H l=none->Q (.ref l) (upd H l (.lst ys))):=by
 intro pins s σ H xs us Q I r h;obtain⟨p,ys,rfl,hq,q⟩:=h;obtain⟨u,rfl,rx⟩:=AS r;cases rx
 have fin:∀(its:List YQ),Vals ys its->ys.length<=Yb->∀(h':Heap) (c':Nat),(∀ b o',s.heap.get? b=some o'->h'.get? b=some o')->
  h'.get? s.heap.objs.size=some {cls := .type "list",dict:=none,data := .seq its.toArray c',slots:=#[]}->EP X pins σ Q (.ref s.heap.objs.size) {s with heap:=h'}:=λits r' hz h' c' kp e=>
  ⟨.ref s.heap.objs.size,_,I.laid (t':=s.toks) kp (US _) (show ObjOk X.prog X.w _ h' _ (.lst ys) from ⟨hz,its,c',r',e⟩),rfl,q _ (I.hok.fresh (US _))⟩
 rcases hq with hq | hq
 ·obtain⟨its,r',pl,hz⟩:=I.list hq;have hlen:=r'.length;obtain⟨o,ho,hc,n,hd⟩:=pl.isList;exact call_list_seq p (.inl rfl) ho hc hd (λh' c' kp e=>fin its r' hz h' c' kp e) (by simp only[UV]<;>omega)
 ·obtain⟨its,r',pl,hz⟩:=I.tuple hq;have hlen:=r'.length;obtain⟨o,ho,hc,n,hd⟩:=pl;exact call_list_seq p (.inr rfl) ho hc hd (λh' c' kp e=>fin its r' hz h' c' kp e) (by simp only[UV]<;>omega)
theorem DS:CallR X (.type "tuple") (λxs H Q=>∃ p ys,xs=[.ref p]/\((SqL X.K H p ys/\∀ l,H l=none->Q (.ref l) (upd H l (.tup ys)))\/(SqT X.K H p ys/\Q (.ref p) H))):=by
 intro pins s σ H xs us Q I r h;obtain⟨p,ys,rfl,h⟩:=h;obtain⟨u,rfl,rx⟩:=AS r;cases rx;rcases h with⟨hq,q⟩ | ⟨hq,q⟩
 ·obtain⟨its,r',pl,hz⟩:=I.list hq;have hlen:=r'.length;refine call_tuple_list pl.isList (λh' kp=>?_) (by simp only[UV]<;>omega);have I1:Inv X pins σ H {s with heap:=h'}:=I.kept (t':=s.toks) kp
  have I2:Inv X pins σ (upd H h'.objs.size (.tup ys)) {s with heap:=h'.push {cls := .type "tuple",data := .seq its.toArray}}:=
   I1.laid (t':=s.toks) (λb o e=>UP _ e) (US _) (show ObjOk X.prog X.w _ _ _ (.tup ys) from ⟨hz,its,r',IsTup.new _ _⟩)
  exact⟨.ref h'.objs.size,_,I2,rfl,q _ (I1.hok.fresh (US _))⟩
 ·obtain⟨its,r',pl,hz⟩:=I.tuple hq;exact call_tuple_same pl ⟨.ref p,H,I,rfl,q⟩
noncomputable def tyV(K:UL)(T:String)(x:V)(H:Hp):Prop:=match x with
 | .str _=>T="str"
 | .int _=>T="int"
 | .ref p=>(T="list"/\∃ xs,SqL K H p xs)\/(T="tuple"/\∃ o,K.lookup p=some o/\o.cls = .type "tuple"/\o.dict=none)\/
    (T="dict"/\((∃ kvs,H p=some (.dK kvs))\/∃ kvs,H p=some (.dT kvs)))\/(T="set"/\∃ S n,H p=some (.set S n))
 | _=>False
theorem KJ{pins:List (YT×Obj)}{σ:St}{H:Hp}{s:YS}{T:String}{x:V}{v:YQ}(I:Inv X pins σ H s)(r:RelV x v)(ty:tyV X.K T x H):
 s.TypeIs v T/\∀ a,v = .ref a->∃ ob,s.heap.get? a=some ob/\ob.dict=none:=by
 cases x with
 | str z=>
   obtain⟨t,rfl⟩:=r;cases(show T="str" from ty);exact⟨typeIs_str s z t,λ_ e=>nomatch e⟩
 | int i=>
   obtain⟨t,rfl⟩:=r;cases(show T="int" from ty);exact⟨A0M s i t,λ_ e=>nomatch e⟩
 | ref p=>
   cases r;rcases ty with⟨rfl,xs,hq⟩ | ⟨rfl,o,hk,hc,hd⟩ | ⟨rfl,hk⟩ | ⟨rfl,S,n,hk⟩
   ·obtain⟨its,_,pl,_⟩:=I.list hq;refine⟨pl.isList.typeIs,λa e=>?_⟩;cases e;obtain⟨o,n,e,c,hd,_⟩:=pl;exact⟨o,e,hd⟩
   ·refine⟨⟨o,I.kIn p o hk,hc⟩,λa e=>?_⟩;cases e;exact⟨o,I.kIn _ o hk,hd⟩
   ·have z:∃ o,s.heap.get? p=some o/\o.ExactDict:=by
     rcases hk with⟨kvs,hk⟩ | ⟨kvs,hk⟩
     ·obtain⟨_,_,_,_,o,_,_,e,ex,_⟩:=I.hok p _ hk;exact⟨o,e,ex⟩
     ·obtain⟨_,_,_,_,o,_,_,e,ex,_⟩:=I.hok p _ hk;exact⟨o,e,ex⟩
    obtain⟨o,e,ex⟩:=z;refine⟨⟨o,e,ex.1⟩,λa e2=>?_⟩;cases e2;exact⟨o,e,ex.2.1⟩
   ·obtain⟨o,_,_,_,e,ex,_⟩:=I.hok p _ hk;refine⟨⟨o,e,ex.1⟩,λa e2=>?_⟩;cases e2;exact⟨o,e,ex.2.1⟩
 | _=>exact False.elim ty
noncomputable def QM(K:UL)(T:String)(r:V->List V->Hp->VK->Prop)(to:TE):TE:=λσ H Q=>to σ H λx H1=>tyV K T x H1/\r x [] H1 Q
noncomputable def tBM(K:UL)(T:String)(r:V->List V->Hp->VK->Prop)(to:TE)(t:TA):TE:=λσ H Q=>to σ H λx H1=>tyV K T x H1/\t σ H1 λxs H2=>r x xs H2 Q
variable{o e:Expr}{es:List Expr}{to:TE}{t:TA}{name:Str}{apos cpos:Pos}{T id:String}{r:V->List V->Hp->VK->Prop}
theorem Fz(pa:PlainAttrs T)(slot:Slot T name id)(hty:typeOf (.builtin id)=pure (.type "method_descriptor"))(hm:MtR X id r)(ho:PE X o to)
 (hbase:ZC o name X.env (eval o X.env)=eval o X.env:=by rfl) (hline:(apos.endLine == cpos.line)=true:=by rfl):PE X (.Call (.Attribute o name apos) [] [] cpos) (QM X.K T r to):=by
 intro pins s σ H Q I h;refine Zo hbase hline (thn (ho pins s σ H _ I h) λv s1 ⟨x,H1,I1,r1,ty,q1⟩=>?_);obtain⟨h1,h2⟩:=KJ I1 r1 ty;exact⟨T,id,pa,slot,hty,h1,h2,Calls.callWith_builtin rfl (PySem.evalArgs_none (hm pins s1 σ H1 x [] v [] Q I1 r1 .nil q1))⟩
theorem KK(pa:PlainAttrs T)(slot:Slot T name id)(hty:typeOf (.builtin id)=pure (.type "method_descriptor"))(hm:MtR X id r)(ho:PE X o to)(ha:PA X (e::es) t)
 (hbase:ZC o name X.env (eval o X.env)=eval o X.env:=by rfl)
 (hfew:((backTo cpos (Yg (e::es) X.env)).all (λx=>!x.1)&&(A0N cpos (A06 [] X.env)).all (λx=>x.1.isSome)
   && decide ((e::es).length+([]:List Keyword).length+(if ([]:List Keyword).isEmpty then 0 else 1)<30))=true:=by rfl)
 (hline:(apos.endLine == cpos.line)=true:=by rfl) (hs:Yg (e::es) X.env=(false,eval e X.env)::Yg es X.env:=by rfl) (hplain:(backTo cpos (Yg es X.env)).any (·.1)=false:=by rfl):
 PE X (.Call (.Attribute o name apos) (e::es) [] cpos) (tBM X.K T r to t):=by
 intro pins s σ H Q I h;refine wpAny_Call_method_late hbase hfew hline rfl (thn (ho pins s σ H _ I h) λv s1 ⟨x,H1,I1,r1,ty,q1⟩=>?_);obtain⟨h1,h2⟩:=KJ I1 r1 ty;refine⟨T,id,pa,slot,hty,h1,h2,?_⟩;have hA:=ha cpos pins s1 σ H1 _ I1 q1;rw[hs]at hA ⊢;refine Calls.callWith_builtin (by show(false||(backTo cpos (Yg es X.env)).any (·.1))=false;rw[hplain]<;>rfl) (Calls.evalArgs_plain ?_);exact thn hA λus s2 ⟨vs,H2,I2,r2,q2⟩=>hm pins s2 σ H2 x vs v us Q I2 r1 r2 q2
end
noncomputable def MtM(X:Cx)(id:String)(r:V->List V->Hp->VK->Prop):Prop:=
 ∀(pins:List (YT×Obj)) (s:YS) (σ:St) (H:Hp) (x:V) (xs:List V) (v:YQ) (us:List YQ) (Q:VK),Inv X pins σ H s->RelV x v->Vals xs us->r x xs H Q->
  YY (YX X.prog X.w) X.A (call (.builtin id) (v::us)) (EP X pins σ Q) X.xe s
theorem Vals.one{x:V}{us:List YQ}(h:Vals [x] us):∃ u,us=[u]/\RelV x u:=by
 cases h with
 | cons r q=>cases q;exact⟨_,rfl,r⟩
theorem Vals.two{x y:V}{us:List YQ}(h:Vals [x,y] us):∃ u v,us=[u,v]/\RelV x u/\RelV y v:=by
 cases h with
 | cons r q=>
   obtain⟨v,rfl,s⟩:=Vals.one q;exact⟨_,v,rfl,r,s⟩
theorem Vals.zero:∀{us:List YQ},Vals [] us->us=[]
 | _,.nil=>rfl
theorem Vals.dropLast{xs:List V}{us:List YQ}(h:Vals xs us):Vals xs.dropLast us.dropLast:=by
 induction h with
 | nil=>exact .nil
 | cons r t ih=>
   cases t with
   | nil=>exact .nil
   | cons q t'=>exact .cons r ih
theorem Vals.eraseIdx:∀{xs:List V} {us:List YQ} (i:Nat),Vals xs us->Vals (xs.eraseIdx i) (us.eraseIdx i)
 | _,_,_,.nil => .nil
 | _,_,0,.cons _ t=>t
 | _,_,i+1,.cons r t => .cons r (Vals.eraseIdx i t)
theorem Vals.reverse{xs:List V}{us:List YQ}(h:Vals xs us):Vals xs.reverse us.reverse:=by
 induction h with
 | nil=>exact .nil
 | cons r t ih=>rw[Vs,Vs];exact Vals.append ih (.cons r .nil)
theorem Vals.rep{xs:List V}{us:List YQ}(h:Vals xs us):∀ k:Nat,Vals (Ue k xs).flatten (Ue k us).flatten
 | 0 => .nil
 | k+1=>by
   rw[VW,VW,Vt,Vt];exact Vals.append h (Vals.rep h k)
theorem G9{α:Type}(l:List α):l.eraseIdx (l.length - 1)=l.dropLast:=by
 induction l with
 | nil=>rfl
 | cons a r ih=>
   cases r with
   | nil=>rfl
   | cons b r=>
     have e:(a::b::r).length - 1=((b::r).length - 1)+1:=by
      have h1:(a::b::r).length=r.length+2:=rfl;have h2:(b::r).length=r.length+1:=rfl;omega
     rw[e,X0,ih]
     all_goals rfl
theorem Db{α:Type}:∀(l:List α) (i:Nat),(l.eraseIdx i).length<=l.length
 | [],_=>US _
 | _::_,0=>WJ _
 | _::r,i+1=>Xp (Db r i)
theorem Dc(its:List YQ):∀(k:Nat) (acc:List YQ),
 Y0 (λx1 x2=>x1++x2) acc.toArray (Ue k its.toArray)=(acc++(Ue k its).flatten).toArray
 | 0,acc=>by simp
 | k+1,acc=>by
   have e:acc.toArray++its.toArray=(acc++its).toArray:=by simp
   have e2:(acc++its)++(Ue k its).flatten=acc++(Ue (k+1) its).flatten:=by
    rw[VW,Vt,Ui]
   rw[<-e2,<-Dc its k (acc++its),<-e,VW,Xw]
section
variable{X:Cx}{pins:List (YT×Obj)}{σ:St}{H:Hp}{s:YS}{l b:YT}{xs ys zs:List V}
theorem Inv.lset{its its':List YQ}{n:Nat}{f:Array YQ->Array YQ}{t':Nat}(I:Inv X pins σ H s)(hH:H l=some (.lst xs))
 (e:s.heap.get? l=some {cls := .type "list",data := .seq its.toArray n}) (hf:f its.toArray=its'.toArray) (hv:Vals ys its') (hz:ys.length<=Yb):
 Inv X pins σ (upd H l (.lst ys)) {s with heap:=s.heap.update l (Obj.mapSeq f),toks:=t'}:=by
 have q:=PySem.IsL.update e f;rw[hf]at q;refine I.write (x:=l) (e:=l) (by rw[hH];exact trivial) (.inl rfl) (λb' u hb hu=>(VT s.heap (Obj.mapSeq f) (Ne.symm hb)).trans hu) ⟨_,q⟩ ?_;exact⟨hz,its',_,hv,q⟩
theorem Inv.lnew{its:List YQ}{t':Nat}(I:Inv X pins σ H s)(hv:Vals ys its)(hz:ys.length<=Yb):
 Inv X pins σ (upd H s.heap.objs.size (.lst ys)) {s with heap:=s.heap.push {cls := .type "list",data := .seq its.toArray},toks:=t'}:=
 I.laid (λ_ _ q=>UP _ q) (US _) ⟨hz,its,0,hv,UY _ rfl⟩
theorem Inv.fresh(I:Inv X pins σ H s):H s.heap.objs.size=none:=I.hok.fresh (US _)
theorem Inv.lstM(I:Inv X pins σ H s)(hH:H l=some (.lst xs)):xs.length<=Yb/\∃(its:List YQ) (n:Nat),Vals xs its/\xs.length=its.length/\s.heap.get? l=some {cls := .type "list",data := .seq its.toArray n}:=by
 obtain⟨z,its,n,r,e⟩:=I.hok l _ hH;exact⟨z,its,n,r,r.length,e⟩
theorem KL{n:Nat}(h:n<=Yb):Builtin.List.listTooLong n=false:=by
 unfold Builtin.List.listTooLong;exact decide_eq_false (by omega)
end
section
variable{X:Cx}
noncomputable def HW:V->List V->Hp->VK->Prop:=λx vs H Q=>∃ l xs y,x = .ref l/\vs=[y]/\H l=some (.lst xs)/\xs.length<Yb/\Q .non (upd H l (.lst (xs++[y])))
theorem By:MtM X "list.append" HW:=by
 intro pins s σ H x vs v us Q I rx rv h;obtain⟨l,xs,y,rfl,rfl,hH,hz,q⟩:=h;cases rx;obtain⟨u,rfl,ru⟩:=rv.one;obtain⟨z,its,n,r,hl,e⟩:=I.lstM hH;refine Zb F.slot_list_append ⟨_,e,rfl⟩ F.entry_list_append (F.args_list_append_2 _ _) (PySem.list_append l its.toArray n u (by rw[UV];omega)) ⟨e,?_⟩;refine⟨.non,_,I.lset (its':=its++[u]) hH e (by simp) (r.append (.cons ru .nil)) ?_,rfl,q⟩;rw[UR,VZ];omega
noncomputable def SW:V->List V->Hp->VK->Prop:=λx vs H Q=>∃ l xs y,x = .ref l/\vs=[]/\H l=some (.lst xs)/\xs[xs.length - 1]?=some y/\Q y (upd H l (.lst xs.dropLast))
theorem KM:MtM X "list.pop" SW:=by
 intro pins s σ H x vs v us Q I rx rv h;obtain⟨l,xs,y,rfl,rfl,hH,hy,q⟩:=h;cases rx;have hus:=rv.zero;subst hus;obtain⟨z,its,n,r,hl,e⟩:=I.lstM hH;obtain⟨u,hu,ru⟩:=r.get hy
 have hy':its.toArray[its.toArray.size - 1]?=some u:=by
  show its.toArray[its.length - 1]?=some u;rw[<-V0,<-hl];exact hu
 refine Zb F.slot_list_pop ⟨_,e,rfl⟩ F.entry_list_pop (F.args_list_pop_1 _) (MeetsSeq.list_pop_last l its.toArray n u hy' (by rw[UV];omega)) ⟨e,?_⟩;refine⟨y,_,I.lset (its':=its.dropLast) hH e ?_ r.dropLast ?_,ru,q⟩
 ·show its.toArray.eraseIdxIfInBounds (its.toArray.size - 1)=its.dropLast.toArray;rw[UV,Wa,G9]
 ·rw[List.length_dropLast];omega
noncomputable def KN:V->List V->Hp->VK->Prop:=λx vs H Q=>∃ l xs i k y,x = .ref l/\vs=[.int i]/\H l=some (.lst xs) /\ -(2 ^ 63)<=i/\i<2 ^ 63/\A10 i xs.length=some k/\xs[k]?=some y/\Q y (upd H l (.lst (xs.eraseIdx k)))
theorem Ei:MtM X "list.pop" KN:=by
 intro pins s σ H x vs v us Q I rx rv h;obtain⟨l,xs,i,k,y,rfl,rfl,hH,h1,h2,hk,hy,q⟩:=h;cases rx;obtain⟨u,rfl,ru⟩:=rv.one;obtain⟨t,rfl⟩:=ru;obtain⟨z,its,n,r,hl,e⟩:=I.lstM hH;obtain⟨w,hw,rw'⟩:=r.get hy
 refine Zb F.slot_list_pop ⟨_,e,rfl⟩ F.entry_list_pop (F.args_list_pop_2 _ _)
  (MeetsSeq.list_pop_at l its.toArray n i t k w (A07 h1 h2) (by rw[UV,<-hl];exact hk) (by rw[<-V0];exact hw) (by rw[UV];omega)) ⟨e,?_⟩
 refine⟨y,_,I.lset (its':=its.eraseIdx k) hH e ?_ (r.eraseIdx k) ?_,rw',q⟩
 ·show its.toArray.eraseIdxIfInBounds k=(its.eraseIdx k).toArray;rw[Wa]
 ·have:=Db xs k;omega
noncomputable def SX:R2:=λx y H Q=>∃ l b xs zs,x = .ref l/\y = .ref b/\H l=some (.lst xs)/\H b=some (.lst zs)/\xs.length+zs.length<=Yb/\∀ p,H p=none->Q (.ref p) (upd H p (.lst (xs++zs)))
theorem QN:OpR X (ZH .Add) SX:=by
 intro pins s σ H x y v u Q I rx ry h;obtain⟨l,b,xs,zs,rfl,rfl,hH,hB,hz,q⟩:=h;cases rx;cases ry;obtain⟨z,its,n,r,hl,e⟩:=I.lstM hH;obtain⟨z2,its2,n2,r2,hl2,e2⟩:=I.lstM hB;refine PySem.P.add_list e e2 ?_ (by rw[UV,UV];omega);have ea:its.toArray++its2.toArray=(its++its2).toArray:=by simp
 rw[ea];exact⟨.ref _,_,I.lnew (t':=s.toks) (r.append r2) (by rw[UR];omega),rfl,q _ I.fresh⟩
noncomputable def SY:R2:=λx y H Q=>∃ l k xs,x = .ref l/\y = .int k/\H l=some (.lst xs) /\ -(2 ^ 63)<=k/\k<2 ^ 63/\xs.length * k.toNat<=Yb/\
 ∀ p,H p=none->Q (.ref p) (upd H p (.lst (Ue k.toNat xs).flatten))
theorem NM{α:Type}(xs:List α)(k:Nat):(Ue k xs).flatten.length=k * xs.length:=by
 induction k with
 | zero=>simp
 | succ k ih=>rw[VW,Vt,UR,ih,YE,Nat.add_comm]
theorem QO:OpR X (ZH .Mult) SY:=by
 intro pins s σ H x y v u Q I rx ry h;obtain⟨l,k,xs,rfl,rfl,hH,h1,h2,hz,q⟩:=h;cases rx;obtain⟨t,rfl⟩:=ry;obtain⟨z,its,n,r,hl,e⟩:=I.lstM hH;have hlen:its.toArray.size * k.toNat<=Yb:=by rw[UV,<-hl];exact hz
 have hcap:¬ its.toArray.size * k.toNat>(2 ^ 63 - 1) / 8:=by
  have:(Yb:Nat)<=(2 ^ 63 - 1) / 8:=by decide
  omega
 have hfit:¬ (!Builtin.List.listFitsIndex k)=true:=by
  rw[A07 h1 h2];exact Ua
 have hlong:¬ Builtin.List.listTooLong (its.toArray.size * k.toNat)=true:=by
  rw[KL hlen];exact Ua
 have hnew:Y0 (λx1 x2=>x1++x2) #[] (Ue (if its.toArray.isEmpty=true then 0 else k.toNat) its.toArray)=(Ue k.toNat its).flatten.toArray:=by
  have f0:∀ m:Nat,Y0 (λx1 x2=>x1++x2) #[] (Ue m its.toArray)=(Ue m its).flatten.toArray:=λm=>by
   have:=Dc its m [];rw[List.nil_append]at this;exact this
  rw[f0];cases its with
  | nil=>simp
  | cons a r'=>rw[iG (by simp)]
 refine wpAny_binaryOp_repeat_ref (T:="list") (U:="int") (by decide) ⟨_,e,rfl⟩ (λs'=>A0M s' k t) noFill_list_mul F.fills_int_mul F.slot_int_rmul repeat_list F.slot_int_index.lookup
  (Zb F.slot_int_rmul (A0M s k t) F.entry_int_rmul (F.args_int_rmul_2 _ _) (int___rmul___int_list k t l its.toArray n)
    ⟨e,rfl,⟨_,e,rfl⟩,Zb F.slot_list_mul ⟨_,e,rfl⟩ F.entry_list_mul (F.args_list_mul_2 _ _) (AutoListH.list___mul___list_int_3 l its.toArray n k t hfit hcap hlong) ⟨e,?_⟩⟩)
 rw[hnew];exact⟨.ref _,_,I.lnew (t':=s.toks) (r.rep k.toNat) (by rw[NM,Nat.mul_comm];exact hz),rfl,q _ I.fresh⟩
end
end L2
namespace Att
open PySem PySem.W PySem.Calls PyProof.Rows
theorem CM{P:Params}{h:Heap}:∀(ns:List Int) (vs:List YQ),WellAll P h vs (ns.map WData.int)->IntsAre vs ns:=by
 intro ns
 induction ns with
 | nil=>
   intro vs w;rw[YF]at w;cases w;exact .nil
 | cons n ns ih=>
   intro vs w;rw[Uv]at w;cases w with
   | cons a b=>
     cases a;exact .cons _ _ (ih _ b)
theorem Im{l:OpenLaw}{n:Nat}(hn:l.most=some n){P:Params}{h:Heap}{args:List WData}{vals:List YQ}
 (hpre:l.row.toRowW.claim.pre args=true) (hwl:WellAll P h vals args):
 ∃ a vs ns,vals=[Value.ref a]/\args=[WData.list (ns.map WData.int)]/\h.get? a=some {cls := .type "list",data := .seq vs.toArray}/\IntsAre vs ns/\ns.length<=n:=by
 have hsh:WShape.hasAll [] args [.list .int]=true:=(pre_splitW hpre).1;have hc:l.pre.holds [] {args:=args}=true:=(pre_splitW hpre).2;obtain⟨d,r,rfl,h1,h2⟩:=hasAllW_cons hsh;obtain rfl:=hasAllW_nil h2;obtain⟨xs,rfl,h3⟩:=hasW_list h1;obtain⟨ns,rfl⟩:=items_int h3
 have hlen:ns.length<=n:=by
  unfold OpenLaw.pre at hc
  have h4:(WTm.not (.lt (.lit (.int (n:Int))) (.len (.arg 0)))).holds [] {args:=[.list (ns.map .int)]}=true:=by
   have h4:=(holds_andW hc).1;rw[hn]at h4;exact h4
  have h5:=condW_of h4 (w_not (w_lt w_lit (w_len_list (w_arg rfl))));rw[UQ]at h5;refine X4 λq=>?_;have q':(n:Int)<((ns.length:Nat):Int):=by omega
  first
   | (rw[decide_eq_true q']at h5;exact absurd h5 (by decide))
   | (simp at h5;omega)
 cases hwl with
 | cons w1 w2=>
   cases w2;cases w1 with
   | list ho hall=>exact⟨_,_,ns,rfl,rfl,ho,CM ns _ hall,hlen⟩
theorem Io(l:OpenLaw)(args:List WData):l.row.toRowW.claim.post args (.bool true) args=true:=
 postW_of (r:=l.row.toRowW) (X:=(true == true))
  (show WShape.has [] (.bool true) .bool=true by first | rfl | decide | simp[WShape.has,WShape.arms,WShape.armsAll])
  (show(WTm.eq .res (.lit (.bool true))).value [] {args:=args,res:=some (.bool true),after:=args}=some (.bool (true == true)) from w_eq_bool (w_res rfl) w_lit) rfl
theorem attach_call{l:OpenLaw}{n:Nat}{q:YZ}{loose:List Str}{XP:(Str->Option YQ)->Heap->Prop}{YP:Yc->Heap->Prop}{d:DefRec}
 (hn:l.most=some n) (hdf:d.params.defaults=[])
 (call:∀(w:Yc) (s₀ s₁:YS) (mg mb:Str->Option YQ) (fa:YT) (o:Obj) (pm cd doc:YQ) (a:YT) (vs:List YQ) (ns:List Int),
   Ground q loose [] XP w s₀ mg mb s₁.heap->YP w s₁.heap->
   s₁.heap.get? fa=some o->o.data = .func (docDef d.name d.params d.body d.scope pm cd doc)->s₁.heap.CodeRec cd d.name->mg d.name=some (.ref fa)->
   s₁.heap.get? a=some {cls := .type "list",data := .seq vs.toArray}->IntsAre vs ns->ns.length<=n->s₁.gens=#[]->
   codeAny (YX l.prog w) callerA (.call (.ref fa) ⟨[.ref a],[]⟩) (λr s'=>r = .ok (.ret (.bool true))/\OldK s₁.heap s'.heap/\s'.os=s₁.os/\AllBare s'.gens) s₁):
 WalkO q loose XP YP l.row.toRowW d [] (λf vs=>PySem.call f vs):=by
 intro w s₀ s₁ mg mb G Y fa o pm cd doc dV kV ho hd hcd hD hmg hg args vals as hpre hlay hrd hwl hlo;obtain rfl:dV = .none:=Dflts.none hD hdf;obtain rfl:kV = .none:=Dflts.noKw hD;obtain⟨a,vs,ns,rfl,rfl,hobj,hints,hlen⟩:=Im hn hpre hwl;refine enter_call (Z3 (call w s₀ s₁ mg mb fa o pm cd doc a vs ns G Y ho (fd_plain hd) hcd hmg hobj hints hlen hg) λr s' hq=>?_);obtain⟨rfl,h2,h3,h4⟩:=hq;exact⟨.inl ⟨.bool true,.bool true,[],rfl,λ_=>rfl,.bool true,Io l _,λ_=>⟨List.Pairwise.nil,λ_ hm=>(nomatch hm)⟩⟩,h2,h3,h4⟩
end Att
namespace L2
open PySem PySem.Spec PyProof.Rows
theorem Dd:∀{vs:List YQ} {ns:List Int},IntsAre vs ns->Vals (ns.map V.int) vs
 | _,_,.nil => .nil
 | _,_,.cons n t h => .cons ⟨t,rfl⟩ (Dd h)
noncomputable def defArgs(s:Stmt):ZZ:=match s with
 | .FunctionDef _ a _ _ _ _ _ _ _ _=>a
 | _=>{posonlyargs:=[],args:=[],vararg:=none,kwonlyargs:=[],kw_defaults:=[],kwarg:=none,defaults:=[]}
noncomputable def defBody(s:Stmt):List Stmt:=match s with
 | .FunctionDef _ _ b _ _ _ _ _ _ _=>b
 | _=>[]
noncomputable def defScope(s:Stmt):Yi:=match s with
 | .FunctionDef _ _ _ _ _ _ sc _ _ _=>sc
 | _=>{kind := .function,names:=[],isGenerator:=false,isCoroutine:=false}
noncomputable abbrev CX0:CXT:=λ_ _ _ _ _ _=>False
noncomputable abbrev E0:XK:=λ_ _ _=>False
theorem SZ{X:Cx}:Fx CX0 X E0:=λ_ _ _ _ _ _ _ h=>h.elim
structure Fun(K:UL)(x qual:Str)(st:Stmt)(f:YT)(fd:ZF):Prop where
 ex:∃(oc:YQ) (od:Option YT) (kV doc pm:YQ) (an:Option YT) (cdv ct:YQ) (osl:Array (Option YQ)),
  fd=PySem.W.fnOf x qual (defArgs st) (defBody st) (defScope st) .none kV doc pm an cdv ct/\K.lookup f=some ⟨oc,od,.func fd,osl⟩/\PySem.W.codeIn K cdv qual=true
 kp:PySem.W.keepIn K (.ref f)=true
section
variable{P:YZ}{w:Yc}{K:UL}{mg:Str->Option YQ}{base:Heap}
theorem Fun.binds{x qual:Str}{st:Stmt}{f:YT}{fd:ZF}{ps:List Str}(F:Fun K x qual st f fd)
 (h:∀(kV doc pm:YQ) (an:Option YT) (cdv ct:YQ) (us:List YQ),us.length=ps.length->Zn (PySem.W.fnOf x qual (defArgs st) (defBody st) (defScope st) .none kV doc pm an cdv ct) ⟨us,[]⟩=pure (ps.zip us)):Binds K fd ps []:=by
 obtain⟨oc,od,kV,doc,pm,an,cdv,ct,osl,rfl,lk,hcd⟩:=F.ex;exact .all (h kV doc pm an cdv ct)
theorem GA{x qual:Str}{st:Stmt}{f:YT}{oc:YQ}{od an:Option YT}{osl:Array (Option YQ)}{kV doc pm cdv ct:YQ}(l:K.lookup f=some ⟨oc,od,.func (PySem.W.fnOf x qual (defArgs st) (defBody st) (defScope st) .none kV doc pm an cdv ct),osl⟩)
 (c:PySem.W.codeIn K cdv qual=true) (k:PySem.W.keepIn K (.ref f)=true):Fun K x qual st f (PySem.W.fnOf x qual (defArgs st) (defBody st) (defScope st) .none kV doc pm an cdv ct):=⟨⟨oc,od,kV,doc,pm,an,cdv,ct,osl,rfl,l,c⟩,k⟩
end
theorem Ip{n:Nat}(h:n<=1000):n<Yb:=Vh h (by decide)
end L2
set_option maxHeartbeats 4000000
namespace L2
open PySem PySem.Spec PyProof.Rows
noncomputable def j0(env:Env):List (Str×Yu)->List (Str×YT)->List (Str×YT)
 | [],acc=>acc
 | (n,k)::r,acc=>if k == .free then j0 env r ((n,(env.cells.lookup n).getD 0)::acc) else j0 env r acc
theorem Ad{env:Env}{scope:Yi}(h:∀ x∈scope.names,x.2 = .free->∃ c,env.cells.lookup x.1=some c):A0l scope env=pure (j0 env scope.names []):=by
 unfold A0l
 have go:∀(names:List (Str×Yu)) (acc:List (Str×YT)),(∀ x∈names,x.2 = .free->∃ c,env.cells.lookup x.1=some c)->
  (forIn names acc λx r=>match x with
    | (name,kind)=>if (kind == NameKind.free)=true then do let __do_lift <- cellOf env name;pure (ForInStep.yield ((name,__do_lift)::r)) else pure (ForInStep.yield r):Sem (List (Str×YT)))=pure (j0 env names acc):=by
  intro names
  induction names with
  | nil=>intro acc _;rfl
  | cons x r ih=>
    intro acc hx;obtain⟨n,k⟩:=x;rw[List.forIn_cons];have hr:=λy hy=>hx y (Uc _ hy);by_cases hk:k = .free
    ·subst hk;obtain⟨c,hc⟩:=hx (n,.free) Uh rfl;have hc':env.cells.lookup n=some c:=hc;unfold j0;simp only[beq_self_eq_true,if_true,cellOf,hc',Option.getD_some,pure_bind];exact ih _ hr
    ·have hb:(k == NameKind.free)=false:=by simpa using hk
     unfold j0;simp only[hb,V2,if_false,pure_bind];exact ih _ hr
 have:=go scope.names [] h;simp only[this]
 first | rfl | simp
theorem BF{env:Env}:∀(names:List (Str×Yu)) (acc:List (Str×YT)),(∀ x∈names,x.2 = .free->∃ c,env.cells.lookup x.1=some c)->(∀ p∈acc,env.cells.lookup p.1=some p.2)->
 ∀ p∈j0 env names acc,env.cells.lookup p.1=some p.2
 | [],_,_,ha,p,hp=>ha p hp
 | (n,k)::r,acc,h,ha,p,hp=>by
   unfold j0 at hp;have hr:=λy hy=>h y (Uc _ hy);split at hp
   ·rename_i hk;have hk:k = .free:=by simpa using hk
    obtain⟨c,hc⟩:=h (n,k) Uh hk;have hc':env.cells.lookup n=some c:=hc;refine BF r _ hr (λq hq=>?_) p hp;rcases Ub.mp hq with rfl | hq
    ·show env.cells.lookup n=some ((env.cells.lookup n).getD 0);rw[hc'];rfl
    ·exact ha q hq
   ·exact BF r acc hr ha p hp
theorem Bz{env:Env}:∀(names:List (Str×Yu)) (acc:List (Str×YT)),∀ p∈acc,p∈j0 env names acc
 | [],_,_,hp=>hp
 | (n,k)::r,acc,p,hp=>by
   unfold j0;split
   ·exact Bz r _ p (Uc _ hp)
   ·exact Bz r acc p hp
theorem Ae{env:Env}:∀(names:List (Str×Yu)) (acc:List (Str×YT)) (n:Str),(n,NameKind.free)∈names->∃ c,(n,c)∈j0 env names acc
 | (m,k)::r,acc,n,hn=>by
   unfold j0;rcases Ub.mp hn with e | hn
   ·cases e;simp only[beq_self_eq_true,if_true];exact⟨_,Bz r _ _ Uh⟩
   ·split
    ·exact Ae r _ n hn
    ·exact Ae r _ n hn
theorem B6{env:Env}:∀(names:List (Str×Yu)) (acc:List (Str×YT)),∀ p∈j0 env names acc,p∈acc\/(p.1,NameKind.free)∈names
 | [],_,_,hp => .inl hp
 | (n,k)::r,acc,p,hp=>by
   unfold j0 at hp;split at hp
   ·rename_i hk;have hk:k = .free:=by simpa using hk
    subst hk;rcases B6 r _ p hp with z | z
    ·rcases Ub.mp z with rfl | z
     ·exact .inr Uh
     ·exact .inl z
    ·exact .inr (Uc _ z)
   ·rcases B6 r _ p hp with z | z
    ·exact .inl z
    ·exact .inr (Uc _ z)
theorem A1:∀(names:List (Str×Yu)) (n:Nat) (acc:List (Str×YT)),∀ p∈Yv n names acc,p∈acc\/(n<=p.2/\(p.1,NameKind.cell)∈names)
 | [],_,_,_,hp => .inl hp
 | (x,k)::r,n,acc,p,hp=>by
   unfold Yv at hp;split at hp
   ·rename_i hk;have hk:k = .cell:=by simpa using hk
    subst hk;rcases A1 r (n+1) _ p hp with z | ⟨z,w⟩
    ·rcases Ub.mp z with rfl | z
     ·exact .inr ⟨US _,Uh⟩
     ·exact .inl z
    ·exact .inr ⟨Nat.le_of_succ_le z,Uc _ w⟩
   ·rcases A1 r n acc p hp with z | ⟨z,w⟩
    ·exact .inl z
    ·exact .inr ⟨z,Uc _ w⟩
theorem A2:∀(names:List (Str×Yu)) (n:Nat) (acc:List (Str×YT)),∀ p∈acc,p∈Yv n names acc
 | [],_,_,_,hp=>hp
 | (x,k)::r,n,acc,p,hp=>by
   unfold Yv;split
   ·exact A2 r _ _ p (Uc _ hp)
   ·exact A2 r _ _ p hp
theorem AV:∀(names:List (Str×Yu)) (n:Nat) (acc:List (Str×YT)) (x:Str),(x,NameKind.cell)∈names->∃ c,(x,c)∈Yv n names acc
 | (y,k)::r,n,acc,x,hx=>by
   unfold Yv;rcases Ub.mp hx with e | hx
   ·cases e;simp only[beq_self_eq_true,if_true];exact⟨_,A2 r _ _ _ Uh⟩
   ·split
    ·exact AV r _ _ x hx
    ·exact AV r _ _ x hx
theorem AW:∀(names:List (Str×Yu)) (h:Heap) (acc:List (Str×YT)),∀ p∈Yv h.objs.size names acc,p∈acc\/(A0y h names).IsCell p.2 none
 | [],_,_,_,hp => .inl hp
 | (x,k)::r,h,acc,p,hp=>by
   unfold Yv at hp;unfold A0y;split at hp
   ·rename_i hk;rw[iP hk];have:=AW r (h.push {cls := .type "cell",data := .cell none}) ((x,h.objs.size)::acc) p (by rw[VO];exact hp);rcases this with z | z
    ·rcases Ub.mp z with rfl | z
     ·exact .inr ⟨_,Zx _ _ _ _ (UY _ rfl),rfl⟩
     ·exact .inl z
    ·exact .inr z
   ·rename_i hk;rw[iG hk];exact AW r h acc p hp
theorem AE:∀(names:List (Str×Yu)) (n:Nat) (acc:List (Str×YT)),(acc.Pairwise λx y=>x.2≠y.2)->(∀ p∈acc,p.2<n)->(Yv n names acc).Pairwise λx y=>x.2≠y.2
 | [],_,_,h,_=>h
 | (x,k)::r,n,acc,h,hl=>by
   unfold Yv;split
   ·refine AE r (n+1) _ (WB.mpr ⟨λy hy e=>?_,h⟩) λp hp=>?_
    ·have h1:=hl y hy;have e':n=y.2:=e;exact absurd h1 (by rw[<-e'];exact Vr _)
    ·rcases Ub.mp hp with rfl | hp
     ·exact X5 _
     ·exact W4 (hl p hp)
   ·exact AE r n acc h hl
theorem AT{env:Env}(inj:∀ x y c,env.cells.lookup x=some c->env.cells.lookup y=some c->x=y):∀(names:List (Str×Yu)) (acc:List (Str×YT)),(names.map (·.1)).Nodup->
 (∀ x∈names,x.2 = .free->∃ c,env.cells.lookup x.1=some c)->(acc.Pairwise λx y=>x.2≠y.2)->(∀ p∈acc,env.cells.lookup p.1=some p.2/\p.1∉names.map (·.1))->(j0 env names acc).Pairwise λx y=>x.2≠y.2
 | [],_,_,_,h,_=>h
 | (n,k)::r,acc,nd,hf,h,ha=>by
   unfold j0;have nd':=Vg.mp nd;have hr:=λy hy=>hf y (Uc _ hy);split
   ·rename_i hk;have hk:k = .free:=by simpa using hk
    obtain⟨c,hc⟩:=hf (n,k) Uh hk;have hc':env.cells.lookup n=some c:=hc;refine AT inj r _ nd'.2 hr (WB.mpr ⟨λy hy e=>?_,h⟩) λp hp=>?_
    ·have e':(env.cells.lookup n).getD 0=y.2:=e;rw[hc']at e';have e2:c=y.2:=e';have q:=(ha y hy).1;have:=inj n y.1 c hc' (by rw[e2];exact q);exact(ha y hy).2 (by rw[<-this];exact Uh)
    ·rcases Ub.mp hp with rfl | hp
     ·refine⟨?_,nd'.1⟩;show env.cells.lookup n=some ((env.cells.lookup n).getD 0);rw[hc'];rfl
     ·exact⟨(ha p hp).1,λz=>(ha p hp).2 (Uc _ z)⟩
   ·exact AT inj r acc nd'.2 hr h λp hp=>⟨(ha p hp).1,λz=>(ha p hp).2 (Uc _ z)⟩
theorem AK{env:Env}:∀(names:List (Str×Yu)) (x:Str),
 (names.map λ(n,k)=>if (k == NameKind.free&&env.scope.kind == .function&&env.kindOf n == some .cell) then (n,NameKind.cell) else (n,k)).lookup x=
   (names.lookup x).map λk=>if (k == NameKind.free&&env.scope.kind == .function&&env.kindOf x == some .cell) then NameKind.cell else k
 | [],x=>rfl
 | (n,k)::r,x=>by
   have ih:=AK (env:=env) r x;rw[Uv];show Wt x ((if (k == NameKind.free&&env.scope.kind == .function&&env.kindOf n == some .cell)=true then (n,NameKind.cell) else (n,k))::_)=_;split
   ·rename_i hc;rw[VU,VU];cases hx:x == n with
    | false=>exact ih
    | true=>
      have e:x=n:=by simpa using hx
      subst e;simp only[W2];rw[iP hc]
   ·rename_i hc;rw[VU,VU];cases hx:x == n with
    | false=>exact ih
    | true=>
      have e:x=n:=by simpa using hx
      subst e;simp only[W2];rw[iG hc]
theorem n0{α:Type}:∀{l:List (Str×α)} {n:Str} {c:α},(l.map (·.1)).Nodup->(n,c)∈l->l.lookup n=some c
 | (k,v)::r,n,c,nd,h=>by
   have nd':=Vg.mp nd;rw[VU];rcases Ub.mp h with e | h2
   ·cases e;simp
   ·cases hb:n == k with
    | true=>
      have e:n=k:=by simpa using hb
      exact absurd (VH.mpr ⟨(n,c),h2,e⟩:k∈r.map (·.1)) nd'.1
    | false=>exact n0 nd'.2 h2
theorem A3{α:Type}:∀{l:List (Str×α)} {n:Str} {c:α},(n,c)∈l->∃ d,l.lookup n=some d
 | (k,v)::r,n,c,h=>by
   rw[VU];cases hb:n == k with
   | true=>exact⟨v,rfl⟩
   | false=>
     rcases Ub.mp h with e | h
     ·cases e;simp at hb
     ·exact A3 h
noncomputable abbrev r6(X:Cx)(scope:Yi)(N':List Str)(s2:YS)(H2:Hp)(cs:List (Str×YT))(C:YT)(fp:List YT):Cx where
 prog:=X.prog
 w:=X.w
 K:=X.K
 mg:=X.mg
 base:=X.base
 A:=X.A
 N:=N'
 s₀:=s2
 H₀:=H2
 env:=Zp scope cs C X.env
 outer:=X.stack
 stack:=X.stack
 ex:=fp
 fn:=λx=>scope.names.lookup x == some .cell
 calm:=X.calm
 pn:=X.pn
 xe:=λ_ _=>False
noncomputable def v6(sc0 sc:Yi)(own cn N:List Str)(js:List Nat):Bool:=
 (decide (sc.kind = .function))&&(sc.names.all λx=>!decide (x.2 = .free)||decide (sc0.names.lookup x.1=some .cell)||decide (sc0.names.lookup x.1=some .free))
 && decide ((sc.names.map (·.1)).Nodup)&&(own.all λx=>decide (sc.names.lookup x=some .local)||decide (sc.names.lookup x=some .cell))&&(cn.all λx=>decide (sc.names.lookup x=some .free))
 && decide ((own++cn).Nodup)&&decide (js.map (λj=>N[j]?)=cn.map some)
noncomputable def BV(k:Nat)(js:List Nat)(σ:St):St:=Ue k none++js.map λj=>(σ[j]?).join
noncomputable def Ej(X:Cx)(ifs:List Expr)(t:TT):Prop:=
 ∀(pins:List (YT×Obj)) (s:YS) (σ:St) (H:Hp) (Q:Bool->Hp->Prop),Inv X pins σ H s->t σ H Q->
  YY (YX X.prog X.w) X.A (forIn ifs true λc r=>if r=true then do let ok <- isTrue c X.env (eval c X.env);pure (ForInStep.yield ok) else pure (ForInStep.yield r)) (TP X pins σ Q) X.xe s
theorem KO{X:Cx}:Ej X [] (λ_ H Q=>Q true H):=λ_ _ _ H _ I h=>wpAny_tests_nil ⟨H,I,h⟩
theorem KP{X:Cx}{c:Expr}{t:TT}(h:PT X c t):Ej X [c] t:=λpins s σ H Q I hw=>wpAny_tests_one (h pins s σ H Q I hw)
theorem KQ{M:Model}{A:Yf}{E:YQ->YS->Prop}{s:YS}{scope:Yi}{env:Env}{cl:List (Str×YT)}{Q:Env->YS->Prop}
 (h:Q (newEnv scope s.heap.objs.size env.globals (Yv (s.heap.objs.size+1) scope.names cl) env.qual none .none (some env) Za) {s with heap:=A0y (s.heap.push {cls := .type "dict",data := .dict #[]}) scope.names}):
 YY M A (A08 scope env.globals cl [] env.qual none .none (some env)) Q E s:=by
 simp only[A08,XY,if_true];refine YR (wpAny_alloc ?_);refine YR (wpAny_layCells _ (λname kind cells=>by cases hkc:kind == NameKind.cell<;>simp[hkc]) _ _ _ _ ?_);rw[show({s with heap:=s.heap.push {cls := .type "dict",data := .dict #[]}}:YS).heap.objs.size=s.heap.objs.size+1 from VO ..];refine YR ?_;rw[List.forIn_nil];exact YV (YV h)
structure CForm(prog:YZ)(w:Yc)(A:Yf)(E tg iter:Expr)(ifs:List Expr)(emit:YQ->Env->Sem Unit)(dp:Nat:=0):Prop where
 turn:∀(it:YQ) (D:YT) (env:Env),compTurn E dp it (.ref D) env=(do
  standAt iter.pos
  match <- pyNext it with
  | none=>pure (.done .next)
  | some v=>
    ZJ tg it v
    assign tg env v
    let mut ok:=true
    for c in ifs do
     if ok then ok <- isTrue c env (eval c env)
    if ok then emit (.ref D) env
    again (.compLoop E dp it (.ref D) env))
 und:∀(it acc:YQ) (env:Env),A.under (.compLoop E dp it acc env)=A
 den:∀(it acc:YQ) (env:Env),(YX prog w).den (.compLoop E dp it acc env)=(compTurn E dp it acc env).onRaise (λx=>do noteFrame x env;theTreesLotGoes x)
 start:∀{R:Result->YS->Prop} {s:YS} {it acc:YQ} {env:Env},codeAny (YX prog w) A (.compLoop E dp it acc env) R s->YY (YX prog w) A (pyIter it) (λit' s'=>codeAny (YX prog w) A (.compLoop E dp it' acc env) R s') (notedBy (YX prog w) A env λx s'=>R (.error x) s') s->
  codeAny (YX prog w) A (.compStart E dp it acc env) R s
theorem CForm.loop{prog:YZ}{w:Yc}{A:Yf}{E tg iter:Expr}{ifs:List Expr}{emit:YQ->Env->Sem Unit}{dp:Nat}(F:CForm prog w A E tg iter ifs emit dp){R:Result->YS->Prop}{s:YS}{it:YQ}{D:YT}{env:Env}(I:Nat->YS->Prop)
 (turn:∀ n s,I n s->YY (YX prog w) A (pyNext it) (λr s₁=>match r with
   | none=>R (.ok .next) s₁
   | some v=>YY (YX prog w) A (ZJ tg it v) (λ_ s₁'=>YY (YX prog w) A (assign tg env v) (λ_ s₂=>
      YY (YX prog w) A (forIn ifs true λc r=>if r=true then do let ok <- isTrue c env (eval c env);pure (ForInStep.yield ok) else pure (ForInStep.yield r)) (λok s₃=>
       if ok=true then YY (YX prog w) A (emit (.ref D) env) (λ_ s₅=>∃ m,m<n/\I m s₅) (λ_ _=>False) s₃
       else ∃ m,m<n/\I m s₃) (λ_ _=>False) s₂) (λ_ _=>False) s₁') (λ_ _=>False) s₁) (λ_ _=>False) s)
 (n:Nat) (h:I n s):
 codeAny (YX prog w) A (.compLoop E dp it (.ref D) env) R s:=by
 refine codeAny_loop rfl I (λn s hI=>?_) n h;rw[F.und,F.den];refine wpAny_noted ?_;rw[F.turn];refine YR (Zk (YR (Yo (turn n s hI) (λr s₁ h₁=>?_) λ_ _ h'=>False.elim h')));cases r with
 | none=>exact YV h₁
 | some v=>
   refine YR (Yo h₁ (λ_ s₁' h₁'=>?_) λ_ _ h'=>False.elim h');refine YR (Yo h₁' (λ_ s₂ h₂=>YR (Yo h₂ (λok s₃ h₃=>?_) λ_ _ h'=>False.elim h')) λ_ _ h'=>False.elim h');cases ok with
   | false=>exact YV ⟨rfl,h₃⟩
   | true=>exact YR (Yo h₃ (λ_ s₅ h₅=>YV ⟨rfl,h₅⟩) λ_ _ h'=>False.elim h')
noncomputable def KR{α:Type}(J:It)(g:TG)(tt:TT)(tem:α->St->Hp->(α->Hp->Prop)->Prop)(σ':St)(Q:Hp->Prop)(W:Nat->Nat->α->Hp->Prop):Prop:=
 ∀ i m a H,W i m a H->(J.stop i H/\Q H)\/(J.go i H/\∃ N:α->Hp->Prop,(∀ a' H',N a' H'->∃ m',m'<m/\W (i+1) m' a' H')/\∀ x H',J.yld i H x H'->g x σ' H' λσ2 H2=>tt σ2 H2 λb H3=>if b=true then tem a σ2 H3 N else N a H3)
noncomputable def PH(elt:Expr)(acc:YQ)(env:Env):Sem Unit:=do
 let x <- eval elt env
 let _ <- call (.builtin "list.append") [acc,x]
theorem GB{prog:YZ}{w:Yc}{A:Yf}{elt tg iter:Expr}{ifs:List Expr}{scope:Yi}{pos:Pos}:CForm prog w A (.ListComp elt [⟨tg,iter,ifs,0⟩] scope pos) tg iter ifs (PH elt) where
 turn:=λ_ _ _=>compTurn_list ..
 und:=λ_ _ _=>rfl
 den:=λ_ _ _=>rfl
 start:=λh0 h=>codeAny_compStart_list h0 h
noncomputable def Sa(te:TE)(D:YT)(ys:List V)(σ:St)(H:Hp)(N:List V->Hp->Prop):Prop:=te σ H λv H4=>H4 D=some (.lst ys)/\ys.length<Yb/\N (ys++[v]) (upd H4 D (.lst (ys++[v])))
section
variable{X:Cx}{pins:List (YT×Obj)}{σ:St}{H2:Hp}{s2:YS}{tg elt iter:Expr}{ifs:List Expr}{scope:Yi}{pos:Pos}{own cn:List Str}{js:List Nat}{g:TG}{tt:TT}{te:TE}
theorem Ek{α:Type}{E:Expr}{emit:YQ->Env->Sem Unit}{mk:Sem YQ}{o0:Obj}{u0:HO}{a0:α}{tem:YT->α->St->Hp->(α->Hp->Prop)->Prop}(F:CForm X.prog X.w X.A E tg iter ifs emit)(hmk:∀{Q:YQ->YS->Prop},Q (.ref s2.heap.objs.size) {s2 with heap:=s2.heap.push o0}->YY (YX X.prog X.w) X.A mk Q X.xe s2)(nf0:o0.isFreed=false)(new0:∀(H:Hp) (h:Heap),h.get? s2.heap.objs.size=some o0->ObjOk X.prog X.w H h s2.heap.objs.size u0)(hok:v6 X.env.scope scope own cn X.N js=true)(hc:X.calm=true)
 (hg:∀ s2 H2 cs C fp,PG (r6 X scope (own++cn) s2 H2 cs C fp) tg g) (ht:∀ s2 H2 cs C fp,Ej (r6 X scope (own++cn) s2 H2 cs C fp) ifs tt) (hem:∀ D s2 H2 cs C fp pins s σ H (a:α) (N:α->Hp->Prop),Inv (r6 X scope (own++cn) s2 H2 cs C fp) pins σ H s->tem D a σ H N->YY (YX X.prog X.w) X.A (emit (.ref D) (Zp scope cs C X.env)) (λ_ s1=>∃ σ1 a1 H1,Inv (r6 X scope (own++cn) s2 H2 cs C fp) pins σ1 H1 s1/\N a1 H1) (λ_ _=>False) s)
 (I2:Inv X pins σ H2 s2) {it:YT} {fp:List YT} {tn:Nat->Heap->Prop} {J:It} (T:Turn X.prog X.w X.K tg J fp it tn) (st2:tn 0 s2.heap) (f2:∀ b∈fp,FpOk X pins H2 b)
 {Qe:Hp->Prop} (hW:∃ W:Nat->Nat->α->Hp->Prop,(∃ m,W 0 m a0 (upd H2 s2.heap.objs.size u0))/\KR J g tt (tem s2.heap.objs.size) (BV own.length js σ) Qe W)
 {RR:YQ->YT->Result->YS->Prop}
 (hRR:∀ C H' s',Inv X pins σ H' s'->FpOk X pins H' C->(∃ m,s'.heap.Ns C m)->Qe H'->RR (.ref s2.heap.objs.size) C (.ok .next) s'):
 YY (YX X.prog X.w) X.A mk (λacc s₃=>YY (YX X.prog X.w) X.A (A08 scope X.env.globals (j0 X.env scope.names []) [] X.env.qual none .none (some X.env)) (λcenv s₄=>
  codeAny (YX X.prog X.w) X.A (.compStart E 0 (.ref it) acc {cenv with scope:=relabel scope X.env}) (RR acc cenv.locals) s₄) X.xe s₃) X.xe s2:=by
 unfold v6 at hok;simp only[UN,dQ,Uq,V8,Uu,decide_eq_false_iff_not]at hok;obtain⟨⟨⟨⟨⟨⟨k1,k2⟩,k3⟩,k4⟩,k5⟩,k6⟩,k7⟩:=hok
 have hfreeK:∀ x∈scope.names,x.2 = .free->X.env.kindOf x.1=some .cell\/X.env.kindOf x.1=some .free:=λx hx hf=>by
  rcases k2 x hx with(z | z) | z
  ·exact absurd hf z
  ·exact .inl z
  ·exact .inr z
 have hfree:∀ x∈scope.names,x.2 = .free->∃ c,X.env.cells.lookup x.1=some c:=λx hx hf=>I2.ok.has x.1 (hfreeK x hx hf);refine hmk (KQ ?_);have hsz3:(s2.heap.push o0).objs.size=s2.heap.objs.size+1:=VO ..;dsimp only;generalize hh3:s2.heap.push o0=h3 at hsz3 ⊢;have old3:∀ b o,s2.heap.get? b=some o->h3.get? b=some o:=λb o e=>hh3▸UP _ e;have hD3:h3.get? s2.heap.objs.size=some o0:=hh3▸UY _ nf0;generalize hcs:Yv (h3.objs.size+1) scope.names (j0 X.env scope.names [])=cs;generalize hh4:A0y (h3.push {cls := .type "dict",data := .dict #[]}) scope.names=h4;have old4:∀ b o,h3.get? b=some o->h4.get? b=some o:=λb o e=>hh4▸Zx _ _ b o (UP _ e);have old:∀ b o,s2.heap.get? b=some o->h4.get? b=some o:=λb o e=>old4 b o (old3 b o e);have hD4:h4.get? s2.heap.objs.size=some o0:=old4 _ _ hD3;have hNs:h4.Ns h3.objs.size (λ_=>none):=hh4▸(Heap.Ns.new h3 (.type "dict")).keeps (Zx _ _);generalize hC:h3.objs.size=C at hNs hcs ⊢;have hCD:@Eq Nat C (s2.heap.objs.size+1):=by rw[<-hC];exact hsz3
 have clM:=BF (env:=X.env) scope.names [] hfree (λp hp=>absurd hp (by simp));have cellLt:∀ x c,X.env.cells.lookup x=some c->@LT.lt Nat _ c s2.heap.objs.size:=λx c e=>by obtain⟨v,z⟩:=I2.cell x c e;exact z.lt
 have apart:cs.Pairwise λx y=>x.2≠y.2:=by
  rw[<-hcs];refine AE _ _ _ (AT I2.ok.inj scope.names [] k3 hfree List.Pairwise.nil λp hp=>absurd hp (by simp)) λp hp=>?_;have:=cellLt _ _ (clM p hp);show @LT.lt Nat _ p.2 (C+1);omega
 have csM:∀ p∈cs,X.env.cells.lookup p.1=some p.2\/(C+1<=p.2/\(p.1,NameKind.cell)∈scope.names/\h4.IsCell p.2 none):=λp hp=>by
  have hp0:=hp;rw[<-hcs]at hp;rcases A1 _ _ _ p hp with z | ⟨z,y⟩
  ·exact .inl (clM p z)
  ·have e:h3.objs.size+1=(h3.push {cls := .type "dict",data := .dict #[]}).objs.size:=by rw[VO]
   have hp':=hp;rw[<-hC,e]at hp';rcases AW _ _ _ p hp' with q | q
   ·exact .inl (clM p q)
   ·exact .inr ⟨z,y,hh4▸q⟩
 have hX:(r6 X scope (own++cn) s2 H2 cs C fp).Ok:=by
  refine⟨I2.ok.mod,k1,I2.ok.glob,I2.ok.blt,by show @LE.le Nat _ s2.heap.objs.size C;omega,λx y c h1 h2=>A0n apart (PySem.mem_of_lookup h1) (PySem.mem_of_lookup h2),λx hx=>?_,λx c hf hx=>?_,I2.ok.hd,I2.ok.frames,.inl rfl,λb hb=>?_,I2.bs,Ux I2.ok.bsz I2.sz,λb o e hb=>?_,λb hb hf=>?_,I2.stack,I2.stkFree⟩
  ·have hx':(relabel scope X.env).names.lookup x=some .cell\/(relabel scope X.env).names.lookup x=some .free:=hx
   have hl:scope.names.lookup x=some .cell\/scope.names.lookup x=some .free:=by
    unfold relabel at hx';dsimp only at hx';rw[AK]at hx';cases e:scope.names.lookup x with
    | none=>rw[e]at hx';simp at hx'
    | some k=>
      rw[e]at hx';cases k<;>simp_all
   have:∃ c,(x,c)∈cs:=by
    rw[<-hcs];rcases hl with hl | hl
    ·exact AV _ _ _ x (PySem.mem_of_lookup hl)
    ·obtain⟨c,hc'⟩:=Ae (env:=X.env) scope.names [] x (PySem.mem_of_lookup hl);exact⟨c,A2 _ _ _ _ hc'⟩
   obtain⟨c,hm⟩:=this;exact A3 hm
  ·have hf':scope.names.lookup x=some .cell:=by simpa using hf
   have hm:=PySem.mem_of_lookup (show cs.lookup x=some c from hx);rcases csM _ hm with z | ⟨z,_⟩
   ·
    rw[<-hcs]at hm;rcases A1 _ _ _ _ hm with q | ⟨q,_⟩
    ·rcases B6 (env:=X.env) scope.names [] _ q with q' | q'
     ·exact absurd q' (by simp)
     ·have:=n0 k3 q';have h2:scope.names.lookup x=some .free:=this;rw[hf']at h2;cases h2
    ·show @LE.le Nat _ s2.heap.objs.size c;have q2:@LE.le Nat _ (C+1) c:=q;omega
   ·show @LE.le Nat _ s2.heap.objs.size c;have z2:@LE.le Nat _ (C+1) c:=z;omega
  ·obtain⟨f0,f1,f2',f3,f4,f5⟩:=f2 b hb;obtain⟨o,ho,_⟩:=T.obj 0 _ st2 b hb;have hb2:@LT.lt Nat _ b s2.heap.objs.size:=UX ho;refine⟨?_,λx c e=>?_⟩
   ·show @Ne Nat b C;omega
   ·rcases csM _ (PySem.mem_of_lookup (show cs.lookup x=some c from e)) with z | ⟨z,_⟩
    ·exact f4 x c z
    ·have z2:@LE.le Nat _ (C+1) c:=z;show @Ne Nat c b;omega
  ·obtain⟨f0,f1,f2',f3,f4,f5⟩:=f2 b hb;rcases f3 with z | z
   ·exact I2.ok.noex b o e z
   ·exact absurd (Us (UX e) (Ux I2.ok.bsz z)) (Vr _)
  ·obtain⟨f0,f1,f2',_⟩:=f2 b hb;rcases Ub.mp (I2.stkSub b hf) with z | z
   ·exact f1 z
   ·exact f2' z
 have capt:∀{H:Hp} {s:YS},Inv X pins σ H s->∀{i:Nat} {x:Str} {v:V},(own++cn)[i]?=some x->(BV own.length js σ)[i]?=some (some v)->∃ u,RelV v u/\((Zp scope cs C X.env).kindOf x=some .cell\/(Zp scope cs C X.env).kindOf x=some .free)/\∃ c,cs.lookup x=some c/\s.heap.IsCell c (some u):=λ{H s} IX {i x v} e1 e2=>by
  have hi:own.length<=i:=by
   rcases W5 i own.length with z | z
   ·exfalso;unfold BV at e2;rw[Ud (by simpa using z),Vi,iP z]at e2;cases e2
   ·exact z
  have e1':cn[i - own.length]?=some x:=by
   have:(own++cn)[i]?=some x:=e1;rw[Uw hi]at this;exact this
  have e2':(js.map λj=>(σ[j]?).join)[i - own.length]?=some (some v):=by
   unfold BV at e2;rw[Uw (by simpa using hi)]at e2;simpa using e2
  rw[UZ]at e2';cases hj:js[i - own.length]? with
  | none=>rw[hj]at e2';cases e2'
  | some j=>
    rw[hj]at e2';have e2'':(σ[j]?).join=some v:=by simpa using e2'
    have hσ:σ[j]?=some (some v):=by
     cases q:σ[j]? with
     | none=>rw[q]at e2'';cases e2''
     | some z=>rw[q]at e2'';simp at e2'';rw[e2'']
    have hNx:X.N[j]?=some x:=by
     have:=congrArg (λl=>l[i - own.length]?) k7;simp only[UZ,hj,e1',W2]at this;exact oj this
    have hfx:scope.names.lookup x=some .free:=k5 x (UO e1');have hK:=hfreeK (x,.free) (PySem.mem_of_lookup hfx) rfl;have hK':X.env.kindOf x=some .cell\/X.env.kindOf x=some .free:=hK;obtain⟨m,hn,hl⟩:=IX.loc
    have hvis:Vis X.env.scope x:=by
     rcases hK' with z | z
     ·exact .inr (.inl z)
     ·exact .inr (.inr z)
    obtain⟨u,r,l⟩:=hl j x v hNx hσ hvis;rcases l with⟨l1,_⟩ | ⟨l1,c,l2,l3⟩
    ·rcases hK' with z | z
     ·rw[z]at l1;cases l1
     ·rw[z]at l1;cases l1
    ·have hrl:(Zp scope cs C X.env).kindOf x=some .cell\/(Zp scope cs C X.env).kindOf x=some .free:=by
      show(relabel scope X.env).names.lookup x=_\/(relabel scope X.env).names.lookup x=_;unfold relabel;dsimp only;rw[AK,hfx];simp only[W2];split
      ·exact .inl rfl
      ·exact .inr rfl
     refine⟨u,r,hrl,c,?_,l3⟩;obtain⟨c',hc'⟩:=hX.has x hrl;have hc2:cs.lookup x=some c':=hc';rw[hc2];have hm:=PySem.mem_of_lookup hc2
     have:X.env.cells.lookup x=some c':=by
      rcases csM _ hm with z | ⟨_,z,_⟩
      ·exact z
      ·have:=n0 k3 z;have h2:scope.names.lookup x=some .cell:=this;rw[hfx]at h2;cases h2
     rw[l2]at this;exact this.symm
 have hDn:H2 s2.heap.objs.size=none:=I2.fresh;have hCn:H2 C=none:=I2.hok.fresh (show @LE.le Nat _ s2.heap.objs.size C by omega)
 have stkNe:∀ b,b≠X.env.locals->b∉X.fs->b∉frs X.stack:=λb h1 h2 hb=>by
  rcases Ub.mp (I2.stkSub b hb) with z | z
  ·exact h1 z
  ·exact h2 z
 have I4:Inv (r6 X scope (own++cn) s2 H2 cs C fp) pins (BV own.length js σ) (upd H2 s2.heap.objs.size u0) {s2 with heap:=h4}:=by
  refine⟨hX,rfl,I2.bare,Un.laid old (US _) hDn,⟨λ_=>none,hNs,λi x v e1 e2 e3=>?_⟩,λx c e=>?_,?_,λx c e=>?_,λp hp=>?_,I2.hok.laid old (US _) (new0 _ _ hD4),?_⟩
  ·obtain⟨u,r,hr,c,l2,l3⟩:=capt I2 e1 e2;exact⟨u,r,.inr ⟨hr,c,l2,l3.keeps λb o e=>old b o e⟩⟩
  ·rcases csM _ (PySem.mem_of_lookup (show cs.lookup x=some c from e)) with z | ⟨_,_,z⟩
   ·obtain⟨v,q⟩:=I2.cell _ _ z;exact⟨v,q.keeps λb o e=>old b o e⟩
   ·exact⟨none,z⟩
  ·show upd H2 s2.heap.objs.size u0 C=none;rw[upd_ne (show @Ne Nat C s2.heap.objs.size by omega)];exact hCn
  ·have hne:c≠s2.heap.objs.size/\H2 c=none:=by
    rcases csM _ (PySem.mem_of_lookup (show cs.lookup x=some c from e)) with z | ⟨z,_,_⟩
    ·exact⟨Ug (cellLt _ _ z),I2.freeC _ _ z⟩
    ·have z2:@LE.le Nat _ (C+1) c:=z;exact⟨show @Ne Nat c s2.heap.objs.size by omega,I2.hok.fresh (show @LE.le Nat _ s2.heap.objs.size c by omega)⟩
   rw[upd_ne hne.1];exact hne.2
  ·obtain⟨e,n,ne,nf,d⟩:=I2.pin p hp;have hlt:@LT.lt Nat _ p.1 s2.heap.objs.size:=UX e;refine⟨old _ _ e,?_,?_,stkNe _ ne nf,d⟩
   ·rw[upd_ne (Ug hlt)];exact n
   ·show @Ne Nat p.1 C;omega
  ·show(BV own.length js σ).length=(own++cn).length;unfold BV;have hl:=congrArg WW k7;simp only[UQ]at hl;simp[hl]
 have stat:∀{H':Hp},(∀ b∈fp,H' b=none)->∀ b∈fp,FpOk (r6 X scope (own++cn) s2 H2 cs C fp) pins H' b:=λhn b hb=>by
  obtain⟨f0,f1,f2',f3,f4,f5⟩:=f2 b hb;exact⟨hn b hb,(hX.exf b hb).1,stkNe b f1 f2',.inl hb,λx c e=>(hX.exf b hb).2 x c e,f5⟩
 have back:∀{σ':St} {H':Hp} {s':YS},Inv (r6 X scope (own++cn) s2 H2 cs C fp) pins σ' H' s'->Inv X pins σ H' s':=λ{σ' H' s'} J'=>
  I2.call' (ch:=fp) J'.os J'.base J'.hok J'.bare λb hb=>by
   obtain⟨f0,f1,f2',f3,f4,f5⟩:=f2 b hb;exact⟨f3,f1,f4,f5⟩
 obtain⟨W,⟨m0,w0⟩,turn⟩:=hW
 have loop:codeAny (YX X.prog X.w) X.A (.compLoop E 0 (.ref it) (.ref s2.heap.objs.size) (Zp scope cs C X.env)) (RR (.ref s2.heap.objs.size) C) {s2 with heap:=h4}:=by
  refine F.loop (λn s'=>∃ i ys H',Inv (r6 X scope (own++cn) s2 H2 cs C fp) pins (BV own.length js σ) H' s'/\tn i s'.heap/\(∀ b∈fp,H' b=none)/\W i n ys H') ?_ m0
   ⟨0,a0,_,I4,T.keep _ _ _ st2 λb hb o e=>old b o e,λb hb=>?_,w0⟩
  ·rintro n s3 ⟨i,ys,H3,I3,st3,fr3,w3⟩;rcases turn i n ys H3 w3 with⟨stop,q⟩ | ⟨go,N,hN,step⟩
   ·refine thn (T.done (r6 X scope (own++cn) s2 H2 cs C fp) rfl rfl rfl hc i pins s3 _ H3 _ I3 (stat fr3) st3 stop) λr s4 ⟨hr,I5⟩=>?_;subst hr;obtain⟨m,hn,_⟩:=I5.loc;exact hRR C H3 s4 (back I5) (I2.fpOk (show @LE.le Nat _ s2.heap.objs.size C by omega) I5.free) ⟨m,hn⟩ q
   ·refine thn (T.item (r6 X scope (own++cn) s2 H2 cs C fp) rfl rfl rfl hc i pins s3 _ H3 _ I3 (stat fr3) st3 go) λr s4 ⟨u,hr,h4'⟩=>?_;subst hr;refine thn h4' λ_ s5 ⟨x,H5,I5,r5,y5,st5,fr5⟩=>?_;have I5':=I5.pinned (stat fr5) (T.obj _ _ st5);refine thn (hg s2 H2 cs C fp _ s5 _ H5 x u _ I5' r5 (step x H5 y5)) λ_ s6 ⟨σ6,H6,I6,q6⟩=>?_;refine thn (ht s2 H2 cs C fp _ s6 σ6 H6 _ I6 q6) λb s7 ⟨H7,I7,q7⟩=>?_
    have again:∀{σ8:St} {H8:Hp} {s8:YS} {ys8:α},Inv (r6 X scope (own++cn) s2 H2 cs C fp) (pins++BT fp s5.heap) σ8 H8 s8->(∀(j:Nat) v,(BV own.length js σ)[j]?=some (some v)->σ8[j]?=some (some v))->(∃ m',m'<n/\W (i+1) m' ys8 H8)->
     ∃ m,m<n/\∃ i ys H',Inv (r6 X scope (own++cn) s2 H2 cs C fp) pins (BV own.length js σ) H' s8/\tn i s8.heap/\(∀ b∈fp,H' b=none)/\W i m ys H':=λ{σ8 H8 s8 ys8} I8 hw8 ⟨m',hm,w8⟩=>by
     refine⟨m',hm,i+1,ys8,H8,I8.unpinned.weak (by rw[I8.len,I4.len]) hw8,T.keep _ _ _ st5 λb hb o e=>(I8.pin (b,o) (Uo _ (Uo _ (Au hb e)))).1,λb hb=>?_,w8⟩;obtain⟨o,e,d⟩:=T.obj _ _ st5 b hb;exact(I8.pin (b,o) (Uo _ (Uo _ (Au hb e)))).2.1
    have capK:∀{σ8:St} {H8:Hp} {s8:YS},Inv (r6 X scope (own++cn) s2 H2 cs C fp) (pins++BT fp s5.heap) σ8 H8 s8->Inv (r6 X scope (own++cn) s2 H2 cs C fp) (pins++BT fp s5.heap) (BV own.length js σ) H8 s8:=λ{σ8 H8 s8} I8=>by
     have IX:=back I8.unpinned;refine⟨I8.ok,I8.os,I8.bare,I8.base,?_,I8.cell,I8.free,I8.freeC,I8.pin,I8.hok,I4.len⟩;obtain⟨m,hn,_⟩:=I8.loc;refine⟨m,hn,λi x v e1 e2 e3=>?_⟩;obtain⟨u,r,z⟩:=capt IX e1 e2;exact⟨u,r,.inr z⟩
    cases b with
    | false=>
      rw[iG Ua];rw[iG Ua]at q7;exact again (capK I7) (λ_ _ e=>e) (hN _ _ q7)
    | true=>
      rw[iP rfl];rw[iP rfl]at q7;exact thn (hem _ s2 H2 cs C fp _ s7 σ6 H7 _ _ I7 q7) λ_ s9 ⟨σ9,a9,H9,I9,q9⟩=>again (capK I9) (λ_ _ e=>e) (hN _ _ q9)
  ·obtain⟨f0,_⟩:=f2 b hb;obtain⟨o,ho,_⟩:=T.obj 0 _ st2 b hb;rw[upd_ne (Ug (UX ho))];exact f0
 exact F.start loop (T.self _ 0 _ _ _ (T.keep _ _ _ st2 λb hb o e=>old b o e) loop)
end
end L2
namespace PySem
open AutoSeq1 (wpAny_loadPart')
section
variable{prog:YZ}{w:Yc}{A:Yf}{E:YQ->YS->Prop}{s:YS}
theorem B4{it l:YT}{i:Nat}{items}{x:YQ}{Q:YQ->YS->Prop}(hit:s.heap.IsTupleIter it l i)
 (hl:s.heap.IsTuple l items) (hx:items[i]?=some x)
 (hQ:∀ h',h'.IsTupleIter it l (i+1)->Uz it s.heap h'->Q x {s with heap:=h'}):
 YY (YX prog w) A (Builtin.SmallTypes.nextOf (.ref it)) Q E s:=by
 obtain⟨o,ho,hc,hd⟩:=id hit;obtain⟨ol,hol,_,nl,hdl⟩:=hl;unfold Builtin.SmallTypes.nextOf
 refine YR (Z9 (name:=Str.ofString "__next__") hit.typeIs F.slot_tuple_iterator_next
  (Yt F.slot_tuple_iterator_next hit.typeIs F.entry_tuple_iterator_next ?_ (F.args_tuple_iterator_next_1 _)))
 show YY _ _ (field (.ref it) 0 >>= _) _ _ s;refine YR (A09 ho hd (x := .ref l) rfl ?_);show YY _ _ (if (Value.ref l == Value.none)=true then _ else _) _ _ s;rw[iG (show ¬ ((Value.ref l == Value.none)=true) from Ua)];show YY _ _ (field (.ref it) 1 >>= _) _ _ s;refine YR (A09 ho hd (x := .int i 0) rfl ?_);show YY _ _ (A11 (.ref l) >>= _) _ _ s;refine YR (Zc hol hdl ?_);simp only[WY,hx];refine YR (Yz ho hd (by simp) (YV ⟨x,rfl,YV (hQ _ ?_ (Uz.update ..))⟩))
 exact⟨_,VD _ ho (Obj.isFreed_of_fields (Obj.data_mapFields hd _)),(Obj.cls_mapFields ..).trans hc,by
  rw[Obj.data_mapFields hd];simp[rawInt]⟩
theorem B7{it l:YT}{i:Nat}{items}{Q:YQ->YS->Prop}(hh:A.handled=none)
 (hit:s.heap.IsTupleIter it l i) (hl:s.heap.IsTuple l items) (hx:items[i]?=none)
 (hE:∀ h' e,Xv it s.heap h'->(∃ o,h'.get? e=some o/\o.cls = .type "StopIteration")->E (.ref e) {s with heap:=h'}):
 YY (YX prog w) A (Builtin.SmallTypes.nextOf (.ref it)) Q E s:=by
 obtain⟨o,ho,hc,hd⟩:=id hit;obtain⟨ol,hol,_,nl,hdl⟩:=hl;unfold Builtin.SmallTypes.nextOf
 refine YR (Z9 (name:=Str.ofString "__next__") hit.typeIs F.slot_tuple_iterator_next
  (Yt F.slot_tuple_iterator_next hit.typeIs F.entry_tuple_iterator_next ?_ (F.args_tuple_iterator_next_1 _)))
 show YY _ _ (field (.ref it) 0 >>= _) _ _ s;refine YR (A09 ho hd (x := .ref l) rfl ?_);show YY _ _ (if (Value.ref l == Value.none)=true then _ else _) _ _ s;rw[iG (show ¬ ((Value.ref l == Value.none)=true) from Ua)];show YY _ _ (field (.ref it) 1 >>= _) _ _ s;refine YR (A09 ho hd (x := .int i 0) rfl ?_);show YY _ _ (A11 (.ref l) >>= _) _ _ s;refine YR (Zc hol hdl ?_);simp only[WY,hx];refine YR (Yy (YR (Yz ho hd (by simp) ?_)))
 first
  | refine YR (wpAny_letGo ?_)
  | skip
 show YY _ _ (newExc (.type "StopIteration") [] >>= _) _ _ _;refine YR ?_;simp only[newExc,newTuple];refine YR (Yw ?_ (by size_fits));refine YR (m:=Zd _ _) (A0E (a:=Value.none) (by first | rfl | (simp only[Zd];rfl)) ?_);refine Yw ?_ (by size_fits);simp only[raiseNew];refine YR (wpAny_handled ?_)
 first | rw[show A.in1.handled=none from hh] | rw[hh]
 refine YR (YV (wpAny_throw ?_));exact hE _ _ (((Uz.update ..).extBut.push _).push _) ⟨_,UY _ rfl,rfl⟩
end
theorem B3{prog:YZ}{w:Yc}{A:Yf}(hh:A.handled=none)(it l:YT)(hne:l≠it)(items:Array YQ):
 Draws prog w A it [it,l] items.size (λi v=>items[i]?=some v) (λi h=>h.IsTupleIter it l i/\h.IsTuple l items) where
 live:=λ_ _ st=>let ⟨o,ho,_⟩:=st.1;⟨o,ho⟩
 frame:=λ_ _ _ st hk=>⟨st.1.at λo e=>hk it (by simp) o e,let ⟨o,ho,r⟩:=st.2;⟨o,hk l (by simp) o ho,r⟩⟩
 item:=λi s Q E hi st hQ=>by
  refine B4 st.1 st.2 (x:=items[i]) (by simp[hi]) λh' hit' hs'=>?_;exact hQ _ h' s.toks (by simp[hi]) ⟨hit',st.2.extBut hs'.extBut hne⟩ hs'
 done:=λs Q E st hE=>B7 hh st.1 st.2 (by simp) hE
theorem BW(l:YT)(items:Array YQ)(n:Nat)(dct:Option YT)(sl:Array (Option YQ)):
 Meets (Builtin.«enumerate.__new__» ⟨[.type "enumerate",.ref l],[]⟩) (λ_ R s=>s.heap.get? l=some {cls := .type "tuple",dict:=dct,data := .seq items n,slots:=sl}/\
  R (.ok (.ret (.ref (s.heap.push {cls := .type "tuple_iterator",data := .fields #[.ref l,.int 0 0]}).objs.size)))
   {s with heap:=(s.heap.push {cls := .type "tuple_iterator",data := .fields #[.ref l,.int 0 0]}).push {cls := .type "enumerate",data := .fields #[.none,.bool false,.ref s.heap.objs.size,rawInt 0,.none,.none]}}):=
 .of_wp λprog w A R s h=>by
  obtain⟨hp,g,d,tk,os⟩:=s;obtain⟨hl,h⟩:=h;have hsub:=sub_enumerate;have hL:Heap.IsTuple (Shared.heap ⟨hp,g,d,tk,os⟩) l items:=⟨_,hl,rfl,n,rfl⟩
  wp_walk using wpAny_loadPart' hl
  refine wpAny_stack_any λst=>YV ?_;split
  ·rename_i c _ _ _ _ _;cases(c == Value.type "enumerate")
   ·wp_walk using wpAny_loadPart' hl,ZA hL
    exact⟨_,rfl,h⟩
   ·wp_walk using wpAny_loadPart' hl,ZA hL
    exact⟨_,rfl,h⟩
  ·wp_walk using wpAny_loadPart' hl,ZA hL
   exact⟨_,rfl,h⟩
section
variable{prog:YZ}{w:Yc}{A:Yf}{E:YQ->YS->Prop}{s:YS}
theorem AX{l:YT}{items:Array YQ}{Q:YQ->YS->Prop}(hL:s.heap.IsTuple l items)
 (h:∀ h',IsEnum h' (s.heap.objs.size+1) s.heap.objs.size 0 .none->h'.IsTupleIter s.heap.objs.size l 0->h'.objs.size=s.heap.objs.size+2->
   (∀ b o,s.heap.get? b=some o->h'.get? b=some o)->Q (.ref (s.heap.objs.size+1)) {s with heap:=h'}):
 YY (YX prog w) A (call (.type "enumerate") [.ref l]) Q E s:=by
 obtain⟨⟨c,dct,dt,sl⟩,hl,hc,n,hd⟩:=hL;replace hc:c = .type "tuple":=hc;replace hd:dt = .seq items n:=hd;subst hc hd
 refine callType_new F.called_enumerate (by decide) (F.typeCall_enumerate_1 _) (F.newCall_enumerate_1 _) (λobj=>F.args_object_init_2 obj _) F.entry_enumerate_new
  (BW l items n dct sl) ⟨hl,?_⟩
 have hz:(s.heap.push {cls := .type "tuple_iterator",data := .fields #[.ref l,.int 0 0]}).objs.size=s.heap.objs.size+1:=VO ..;show _/\_;rw[hz]
 have he:IsEnum ((s.heap.push {cls := .type "tuple_iterator",data := .fields #[.ref l,.int 0 0]}).push
  {cls := .type "enumerate",data := .fields #[.none,.bool false,.ref s.heap.objs.size,rawInt 0,.none,.none]}) (s.heap.objs.size+1) s.heap.objs.size 0 .none:=by
  have:=UY (s.heap.push {cls := .type "tuple_iterator",data := .fields #[.ref l,.int 0 0]})
   (o:={cls := .type "enumerate",data := .fields #[.none,.bool false,.ref s.heap.objs.size,rawInt 0,.none,.none]}) rfl
  rw[hz]at this;exact this
 refine⟨⟨_,he,rfl⟩,h _ he ⟨_,UP _ (UY _ rfl),rfl,rfl⟩ (by rw[VO,hz]) λb o x=>UP _ (UP _ x)⟩
end
end PySem
namespace L2
open PySem PySem.Spec PyProof.Rows
section
variable{X:Cx}{pins:List (YT×Obj)}{σ:St}{H:Hp}{s:YS}{h':Heap}
theorem Inv.turnedL{t':Nat}{ch:List YT}(I:Inv X pins σ H s)(k:∀ b o,b∉ch->s.heap.get? b=some o->h'.get? b=some o)(hf:∀ b∈ch,FpOk X pins H b):Inv X pins σ H {s with heap:=h',toks:=t'}:=by
 have nit:∀ b u,H b=some u->b∉ch:=λb u e z=>by rw[(hf b z).1]at e;cases e
 refine I.step (g':=s.gens) (d':=s.drawn) (ch:=ch) (λb hb=>?_) (λb o _ _ hc e _=>k b o hc e) (λb o _ _ hc e _=>⟨o.slots,k b o hc e⟩) (λ_ _ _ _ n=>n)
  (λb o hc e=>⟨o,k b o hc e⟩) (λ_ _ e=>e) (λ_ _ _ e=>e) (λb ps e=>⟨#[],by rw[e];simp⟩) (λm hm=>?_) (λb u e=>?_) I.bare
 ·obtain⟨f0,f1,f2,f3,f4,f5⟩:=hf b hb;exact⟨f3,f1,f4,f5⟩
 ·obtain⟨o,es,ep,ho,r⟩:=hm;exact⟨o,es,ep,k _ o (λz=>(hf _ z).2.1 rfl) ho,r⟩
 ·refine(I.hok b u e).stay (λc v hc q=>k c v ?_ q) (λ_ q=>q) λ_ _ q=>q;rcases hc with z | z
  ·rw[z];exact nit b u e
  ·exact nit c _ z
theorem Inv.turnLay{t':Nat}{ch:List YT}{o:HO}(I:Inv X pins σ H s)(k:∀ b u,b∉ch->s.heap.get? b=some u->h'.get? b=some u)(hf:∀ b∈ch,FpOk X pins H b)
 (new:ObjOk X.prog X.w (upd H s.heap.objs.size o) h' s.heap.objs.size o):Inv X pins σ (upd H s.heap.objs.size o) {s with heap:=h',toks:=t'}:=by
 have hT:H s.heap.objs.size=none:=I.fresh;have nit:∀ b u,H b=some u->b∉ch:=λb u e z=>by rw[(hf b z).1]at e;cases e
 have lt:∀ b u,s.heap.get? b=some u->b≠s.heap.objs.size:=λb u e=>Ug (UX e)
 refine I.step (g':=s.gens) (d':=s.drawn) (ch:=ch) (λb hb=>?_) (λb o _ _ hc e _=>k b o hc e) (λb o _ _ hc e _=>⟨o.slots,k b o hc e⟩) (λb u _ e n=>by rw[upd_ne (lt b u e)];exact n)
  (λb o hc e=>⟨o,k b o hc e⟩) (λb xs e=>by rw[upd_ne (f7 e hT)];exact e) (λb u xs e=>by rw[upd_ne (f7 e hT)];exact e) (λb ps e=>⟨#[],by rw[upd_ne (f7 e hT),e];simp⟩) (λm hm=>?_) (λb u e=>?_) I.bare
 ·obtain⟨f0,f1,f2,f3,f4,f5⟩:=hf b hb;exact⟨f3,f1,f4,f5⟩
 ·obtain⟨o,es,ep,ho,r⟩:=hm;exact⟨o,es,ep,k _ o (λz=>(hf _ z).2.1 rfl) ho,r⟩
 ·by_cases hb:b=s.heap.objs.size
  ·subst hb;rw[g7]at e;cases e;exact new
  ·rw[upd_ne hb]at e;refine(I.hok b u e).stay (λc v hc q=>k c v ?_ q) (λc q=>by rw[upd_ne (f7 q hT)];exact q) λc xs q=>by rw[upd_ne (f7 q hT)];exact q
   rcases hc with z | z
   ·rw[z];exact nit b u e
   ·exact nit c _ z
end
noncomputable def QP(K:UL)(a:YT):It:=
 ⟨λi H=>∃ xs x,SqL K H a xs/\xs[i]?=some x,λi H x H'=>∃ p v,H p=none/\x = .ref p/\(∀ xs,SqL K H a xs->xs[i]?=some v)/\H'=upd H p (.tup [.int i,v]),λi H=>∃ xs,SqL K H a xs/\xs.length=i⟩
noncomputable def QQ(K:UL)(a:YT):It:=
 ⟨λi H=>∃ xs x,SqT K H a xs/\xs[i]?=some x,λi H x H'=>∃ p v,H p=none/\x = .ref p/\(∀ xs,SqT K H a xs->xs[i]?=some v)/\H'=upd H p (.tup [.int i,v]),λi H=>∃ xs,SqT K H a xs/\xs.length=i⟩
theorem KS:2<=Yb:=by decide
theorem GC{P:YZ}{w:Yc}{K:UL}{elts:List Expr}{kx:Nat}{tp:Pos}(a e it:YT)(hei:e≠it)(hae:a≠e)(hai:a≠it):Turn P w K (.Tuple elts kx tp) (QP K a) [e,it] e (λi h=>(∃ old,IsEnum h e it i old)/\h.IsListIter it a i) where
 mem:=by simp
 obj:=λi h st b hb=>by
  rcases Ub.mp hb with rfl | hb
  ·obtain⟨⟨old,z⟩,_⟩:=st;exact⟨_,z,λv q=>by cases q⟩
  ·have e':b=it:=by simpa using hb
   subst e';obtain⟨o,q,c,d⟩:=st.2;exact⟨o,q,λv z=>by rw[d]at z;cases z⟩
 keep:=λi h h' st k=>⟨let ⟨old,z⟩:=st.1;⟨old,k e (by simp) _ z⟩,st.2.at λo q=>k it (by simp) o q⟩
 item:=by
  intro X hP hw hK hc i pins s σ H E I hf st hg;subst hP hw hK;obtain⟨xs,x,hq,hx⟩:=hg;obtain⟨its,rv,p,hz⟩:=I.list hq;obtain⟨u,hu,ru⟩:=rv.get hx;obtain⟨⟨old,he⟩,hli⟩:=st
  have hil:i<its.toArray.size:=by
   have:=(gM hu).1;simpa using this
  refine Zq (Draws.list (prog:=X.prog) (w:=X.w) (A:=X.A.in1) (show X.A.in1.handled=none from I.ok.hd hc) it a hai its.toArray) he ⟨hli,p.isList⟩ hil hei (by simp[hei,Ne.symm hae]) λy h' tk hy ho hs' hT hsz hk=>?_
  have hyu:y=u:=by
   have:its.toArray[i]?=some u:=by simpa using hu
   rw[this]at hy;exact(oj hy).symm
  subst hyu;refine⟨_,rfl,?_⟩
  have I1:Inv X pins σ (upd H s.heap.objs.size (.tup [.int i,x])) {s with heap:=h',toks:=tk+1}:=
   I.turnLay (ch:=[e,it]) (λb o hb q=>hk b o (λz=>hb (by simp[z])) (λz=>hb (by simp[z])) q) hf ⟨KS,[.int i tk,y],.cons ⟨tk,rfl⟩ (.cons ru .nil),⟨_,hT,rfl,_,rfl⟩⟩
  refine Ze ho λh2 he2 hs2=>?_
  have hfp1:∀ b∈[e,it],FpOk X pins (upd H s.heap.objs.size (.tup [.int i,x])) b:=λb hb=>by
   obtain⟨f0,f1⟩:=hf b hb
   have hbl:b≠s.heap.objs.size:=by
    rcases Ub.mp hb with rfl | hb
    ·exact Ug (UX he)
    ·have e':b=it:=by simpa using hb
     subst e';obtain⟨o,q,_⟩:=hli;exact Ug (UX q)
   exact⟨by rw[upd_ne hbl];exact f0,f1⟩
  have I2:Inv X pins σ (upd H s.heap.objs.size (.tup [.int i,x])) {s with heap:=h2,toks:=tk+1}:=
   Inv.turnedL (s:={s with heap:=h',toks:=tk+1}) (t':=tk+1) (ch:=[e,it]) I1 (λb o hb q=>(hs2.2 b (λz=>hb (by simp[z]))).trans q) hfp1
  refine⟨.ref s.heap.objs.size,_,I2,rfl,⟨_,x,I.fresh,rfl,λys hy=>by rw[I.list_inj hy hq];exact hx,rfl⟩,⟨⟨y,by simpa using he2⟩,hs'.1.extBut hs2.extBut (Ne.symm hei)⟩,λb hb=>(hfp1 b hb).1⟩
 done:=by
   intro X hP hw hK hc i pins s σ H E I hf st hg;subst hP hw hK;obtain⟨xs,hq,hx⟩:=hg;obtain⟨its,rv,p,hz⟩:=I.list hq;obtain⟨⟨old,he⟩,hli⟩:=st;have hl:=rv.length;have hn:its.toArray.size=i:=by simp;omega
   refine Zu (Draws.list (prog:=X.prog) (w:=X.w) (A:=X.A.in1) (show X.A.in1.handled=none from I.ok.hd hc) it a hai its.toArray) he (by rw[hn];exact⟨hli,p.isList⟩) λh' eb=>⟨rfl,I.turnedL (t':=s.toks) (ch:=[e,it]) (λb o hb q=>eb b o (λz=>hb (by simp[z])) q) hf⟩
 self:=λ_ _ _ _ _ st h=>let ⟨old,z⟩:=st.1;ZM z h
theorem GD{P:YZ}{w:Yc}{K:UL}{elts:List Expr}{kx:Nat}{tp:Pos}(a e it:YT)(hei:e≠it)(hae:a≠e)(hai:a≠it):Turn P w K (.Tuple elts kx tp) (QQ K a) [e,it] e (λi h=>(∃ old,IsEnum h e it i old)/\h.IsTupleIter it a i) where
 mem:=by simp
 obj:=λi h st b hb=>by
  rcases Ub.mp hb with rfl | hb
  ·obtain⟨⟨old,z⟩,_⟩:=st;exact⟨_,z,λv q=>by cases q⟩
  ·have e':b=it:=by simpa using hb
   subst e';obtain⟨o,q,c,d⟩:=st.2;exact⟨o,q,λv z=>by rw[d]at z;cases z⟩
 keep:=λi h h' st k=>⟨let ⟨old,z⟩:=st.1;⟨old,k e (by simp) _ z⟩,st.2.at λo q=>k it (by simp) o q⟩
 item:=by
  intro X hP hw hK hc i pins s σ H E I hf st hg;subst hP hw hK;obtain⟨xs,x,hq,hx⟩:=hg;obtain⟨its,rv,p,hz⟩:=I.tuple hq;obtain⟨u,hu,ru⟩:=rv.get hx;obtain⟨⟨old,he⟩,hli⟩:=st
  have hil:i<its.toArray.size:=by
   have:=(gM hu).1;simpa using this
  refine Zq (B3 (prog:=X.prog) (w:=X.w) (A:=X.A.in1) (show X.A.in1.handled=none from I.ok.hd hc) it a hai its.toArray) he ⟨hli,p⟩ hil hei (by simp[hei,Ne.symm hae]) λy h' tk hy ho hs' hT hsz hk=>?_
  have hyu:y=u:=by
   have:its.toArray[i]?=some u:=by simpa using hu
   rw[this]at hy;exact(oj hy).symm
  subst hyu;refine⟨_,rfl,?_⟩
  have I1:Inv X pins σ (upd H s.heap.objs.size (.tup [.int i,x])) {s with heap:=h',toks:=tk+1}:=
   I.turnLay (ch:=[e,it]) (λb o hb q=>hk b o (λz=>hb (by simp[z])) (λz=>hb (by simp[z])) q) hf ⟨KS,[.int i tk,y],.cons ⟨tk,rfl⟩ (.cons ru .nil),⟨_,hT,rfl,_,rfl⟩⟩
  refine Ze ho λh2 he2 hs2=>?_
  have hfp1:∀ b∈[e,it],FpOk X pins (upd H s.heap.objs.size (.tup [.int i,x])) b:=λb hb=>by
   obtain⟨f0,f1⟩:=hf b hb
   have hbl:b≠s.heap.objs.size:=by
    rcases Ub.mp hb with rfl | hb
    ·exact Ug (UX he)
    ·have e':b=it:=by simpa using hb
     subst e';obtain⟨o,q,_⟩:=hli;exact Ug (UX q)
   exact⟨by rw[upd_ne hbl];exact f0,f1⟩
  have I2:Inv X pins σ (upd H s.heap.objs.size (.tup [.int i,x])) {s with heap:=h2,toks:=tk+1}:=
   Inv.turnedL (s:={s with heap:=h',toks:=tk+1}) (t':=tk+1) (ch:=[e,it]) I1 (λb o hb q=>(hs2.2 b (λz=>hb (by simp[z]))).trans q) hfp1
  refine⟨.ref s.heap.objs.size,_,I2,rfl,⟨_,x,I.fresh,rfl,λys hy=>by rw[I.tuple_inj hy hq];exact hx,rfl⟩,⟨⟨y,by simpa using he2⟩,hs'.1.extBut hs2.extBut (Ne.symm hei)⟩,λb hb=>(hfp1 b hb).1⟩
 done:=by
   intro X hP hw hK hc i pins s σ H E I hf st hg;subst hP hw hK;obtain⟨xs,hq,hx⟩:=hg;obtain⟨its,rv,p,hz⟩:=I.tuple hq;obtain⟨⟨old,he⟩,hli⟩:=st;have hl:=rv.length;have hn:its.toArray.size=i:=by simp;omega
   refine Zu (B3 (prog:=X.prog) (w:=X.w) (A:=X.A.in1) (show X.A.in1.handled=none from I.ok.hd hc) it a hai its.toArray) he (by rw[hn];exact⟨hli,p⟩) λh' eb=>⟨rfl,I.turnedL (t':=s.toks) (ch:=[e,it]) (λb o hb q=>eb b o (λz=>hb (by simp[z])) q) hf⟩
 self:=λ_ _ _ _ _ st h=>let ⟨old,z⟩:=st.1;ZM z h
section
variable{X:Cx}
noncomputable def Sc(K:UL)(ta:TA):TI:=λσ H R=>ta σ H λvs H1=>∃ a,vs=[.ref a]/\(((∃ xs,SqL K H1 a xs)/\R (QP K a) H1)\/((∃ xs,SqT K H1 a xs)/\R (QQ K a) H1))
theorem Cc:Yd "enumerate"=some (.type "enumerate"):=by decide +kernel
theorem NN{a:Expr}{ta:TA}{p pos:Pos}{elts:List Expr}{kx:Nat}{tp:Pos}(hg:Gl X "enumerate")(hm:X.mg "enumerate"=none)(ha:PA X [a] ta)(hs:Yg [a] X.env=[(false,eval a X.env)]:=by rfl):
 PI X (.Tuple elts kx tp) (.Call (.Name "enumerate" p) [a] [] pos) (Sc X.K ta):=by
 intro pins s σ H R I h;refine Call_ (At I hg hm Cc (PyProof.Rows.callWith_type1 (thn (ha pos pins s σ H _ I h) λus s1 ⟨vs,H1,I1,r1,q1⟩=>?_) hs rfl));obtain⟨l,e,q1⟩:=q1;subst e;cases r1 with
 | cons r rr=>
   cases rr;cases r;rcases q1 with⟨⟨xs,hq⟩,q⟩ | ⟨⟨xs,hq⟩,q⟩
   ·obtain⟨its,rv,pl,hz⟩:=I1.list hq;have hlt:@LT.lt Nat _ l s1.heap.objs.size:=by obtain⟨o,n,e,_⟩:=pl;exact UX e
    refine call_enumerate_list pl.isList λh' he hli hsz hk=>?_;refine ZM he ?_;have I2:Inv X pins σ H1 {s1 with heap:=h'}:=I1.kept (t':=s1.toks) hk;refine⟨s1.heap.objs.size+1,[s1.heap.objs.size+1,s1.heap.objs.size],_,_,H1,rfl,I2,GC l _ s1.heap.objs.size (show @Ne Nat _ _ by omega) (show @Ne Nat _ _ by omega) (show @Ne Nat _ _ by omega),⟨⟨_,he⟩,hli⟩,λb hb=>?_,q⟩
    have hb2:@LE.le Nat _ s1.heap.objs.size b:=by
     rcases Ub.mp hb with rfl | hb
     ·exact WJ _
     ·have e:b=s1.heap.objs.size:=by simpa using hb
      rw[e];exact US _
    exact I1.fpOk hb2 (I1.hok.fresh hb2)
   ·obtain⟨its,rv,pl,hz⟩:=I1.tuple hq;have hlt:@LT.lt Nat _ l s1.heap.objs.size:=by obtain⟨o,e,_⟩:=pl;exact UX e
    refine AX (show s1.heap.IsTuple l its.toArray from pl) λh' he hli hsz hk=>?_;refine ZM he ?_;have I2:Inv X pins σ H1 {s1 with heap:=h'}:=I1.kept (t':=s1.toks) hk;refine⟨s1.heap.objs.size+1,[s1.heap.objs.size+1,s1.heap.objs.size],_,_,H1,rfl,I2,GD l _ s1.heap.objs.size (show @Ne Nat _ _ by omega) (show @Ne Nat _ _ by omega) (show @Ne Nat _ _ by omega),⟨⟨_,he⟩,hli⟩,λb hb=>?_,q⟩
    have hb2:@LE.le Nat _ s1.heap.objs.size b:=by
     rcases Ub.mp hb with rfl | hb
     ·exact WJ _
     ·have e:b=s1.heap.objs.size:=by simpa using hb
      rw[e];exact US _
    exact I1.fpOk hb2 (I1.hok.fresh hb2)
end
theorem Iq(its:List YQ)(k:Nat)(y:YQ):(its.toArray.extract 0 k).push y++its.toArray.extract k=(its.take k++y::its.drop k).toArray:=by
 apply Array.toList_inj.mp;simp
 first
  | done
  | exact VV (by simp)
section
variable{X:Cx}
noncomputable def HX:V->List V->Hp->VK->Prop:=λx vs H Q=>∃ l xs i y,x = .ref l/\vs=[.int i,y]/\H l=some (.lst xs)/\0<=i/\i<=xs.length/\xs.length<Yb/\Q .non (upd H l (.lst (xs.take i.toNat++y::xs.drop i.toNat)))
theorem De:MtM X "list.insert" HX:=by
 intro pins s σ H x vs v us Q I rx rv h;obtain⟨l,xs,i,y,rfl,rfl,hH,h0,h1,hz,q⟩:=h;cases rx;obtain⟨u1,u2,rfl,⟨t,rfl⟩,ru⟩:=Vals.two rv;obtain⟨z,its,n,r,hl,e⟩:=I.lstM hH;have hn:=Bx;refine Zb F.slot_list_insert ⟨_,e,rfl⟩ F.entry_list_insert (F.args_list_insert_3 _ _ _) (AutoSeq1.list_insert_list_int_val_1 l its.toArray n i t u2 (by rw[A07 (by omega) (by omega)];exact Ua) (by rw[UV];omega)) ⟨e,?_⟩;refine⟨.non,_,I.lset (its':=its.take i.toNat++u2::its.drop i.toNat) hH e ?_ (Vals.append (r.take _) (.cons ru (r.drop _))) ?_,rfl,q⟩
 ·have hk:(if i<0 then (i+(its.toArray.size:Int)).toNat else min i.toNat its.toArray.size)=i.toNat:=by
   rw[iG (by omega),UV];omega
  show(let k:=if i<0 then (i+(its.toArray.size:Int)).toNat else min i.toNat its.toArray.size;(its.toArray.extract 0 k).push u2++its.toArray.extract k)=_;rw[hk];exact Iq its i.toNat u2
 ·rw[UR,VJ,VG,Vx];omega
noncomputable def AY(xs ys:List V):Bool:=xs.length == ys.length&&(xs.zip ys).all λp=>eqV p.1 p.2
noncomputable def NO(K:UL)(neg:Bool):R2:=λx y H Q=>∃ a b xs ys,x = .ref a/\y = .ref b/\SqL K H a xs/\SqL K H b ys/\((xs.all y7=true/\ys.all y7=true)\/xs=[]\/ys=[])/\Q (.bl (if neg then !AY xs ys else AY xs ys)) H
theorem Cd{xs ys:List V}(hl:xs.length=ys.length):(Uj xs.length).all (λj=>eqV (xs.getD j .non) (ys.getD j .non))=AY xs ys:=by
 have e1:AY xs ys=(xs.zip ys).all λp=>eqV p.1 p.2:=by unfold AY;simp[hl]
 rw[e1,VR,Uq,Uq];constructor
 ·intro h p hp;obtain⟨j,hj,e⟩:=Vj.mp hp;have hj1:j<xs.length:=by simp at hj;omega
  have hj2:j<ys.length:=by omega
  have:=h j (V4.mpr hj1);rw[<-e];simpa[Vp,hj1,hj2] using this
 ·intro h j hj;have hj1:j<xs.length:=V4.mp hj;have hj2:j<ys.length:=by omega
  have:=h (xs[j],ys[j]) (Vj.mpr ⟨j,by simp;omega,by simp⟩);simpa[Vp,hj1,hj2] using this
theorem Ce{xs ys:List V}{us ws:List YQ}{A:Yf}{s:YS}(r1:Vals xs us)(r2:Vals ys ws)(f:(xs.all y7=true/\ys.all y7=true)\/xs=[]\/ys=[]):
 ∀ j (h1:j<us.toArray.size) (h2:j<ws.toArray.size),SeqAt.EqAt A s us.toArray[j] ws.toArray[j] (eqV (xs.getD j .non) (ys.getD j .non)):=by
 intro j h1 h2;have l1:=r1.length;have l2:=r2.length;simp only[UV]at h1 h2;have hj1:j<xs.length:=by omega
 have hj2:j<ys.length:=by omega
 obtain⟨f1,f2⟩:xs.all y7=true/\ys.all y7=true:=by
  rcases f with f | f | f
  ·exact f
  ·subst f;simp at hj1
  ·subst f;simp at hj2
 obtain⟨u,eu,ru⟩:=r1.get (i:=j) (x:=xs[j]) (by simp[hj1]);obtain⟨w',ew,rw'⟩:=r2.get (i:=j) (x:=ys[j]) (by simp[hj2])
 have e1:us.toArray[j]=u:=by
  have:=gM eu;obtain⟨_,q⟩:=this;simpa using q
 have e2:ws.toArray[j]=w':=by
  obtain⟨_,q⟩:=gM ew;simpa using q
 rw[e1,e2];have g1:xs.getD j .non=xs[j]:=by simp[Vp,hj1]
 have g2:ys.getD j .non=ys[j]:=by simp[Vp,hj2]
 rw[g1,g2];exact KH ru rw' (Uq.mp f1 _ (W8 hj1)) (Uq.mp f2 _ (W8 hj2))
theorem QR(hu:X.A.units<cLine):OpR X (Yk .Eq) (NO X.K false):=by
 intro pins s σ H x y v u Q I rx ry h;obtain⟨a,b,xs,ys,rfl,rfl,h1,h2,f,q⟩:=h;cases rx;cases ry;obtain⟨its1,r1,p1,_⟩:=I.list h1;obtain⟨its2,r2,p2,_⟩:=I.list h2;have l1:=r1.length;have l2:=r2.length;by_cases hl:xs.length=ys.length
 ·refine SeqAt.eq_listAt p1.isList p2.isList (by simp;omega) hu (Ce r1 r2 f) ⟨.bl _,H,I,rfl,?_⟩;rw[UV,<-l1,Cd hl];exact q
 ·refine SeqAt.eq_list_lengthsAt p1.isList p2.isList (by simp;omega) hu ⟨.bl false,H,I,rfl,?_⟩;have e:AY xs ys=false:=by unfold AY;simp[hl]
  rw[show(if false=true then !AY xs ys else AY xs ys)=AY xs ys from rfl,e]at q;exact q
theorem QS(hu:X.A.units<cLine):OpR X (Yk .NotEq) (NO X.K true):=by
 intro pins s σ H x y v u Q I rx ry h;obtain⟨a,b,xs,ys,rfl,rfl,h1,h2,f,q⟩:=h;cases rx;cases ry;obtain⟨its1,r1,p1,_⟩:=I.list h1;obtain⟨its2,r2,p2,_⟩:=I.list h2;have l1:=r1.length;have l2:=r2.length;by_cases hl:xs.length=ys.length
 ·refine(SeqAt.RcNeAt.lists p1.isList p2.isList (by simp;omega) hu (Ce r1 r2 f)) _ _ _ _ ?_;refine⟨.bl _,H,I,rfl,?_⟩;rw[UV,<-l1,Cd hl];exact q
 ·refine(SeqAt.RcNeAt.lists_lengths p1.isList p2.isList (by simp;omega) hu) _ _ _ _ ?_;refine⟨.bl true,H,I,rfl,?_⟩;have e:AY xs ys=false:=by unfold AY;simp[hl]
  rw[show(if true=true then !AY xs ys else AY xs ys)=!AY xs ys from rfl,e]at q;exact q
theorem call_isi1:CallR X (.builtin "isinstance") (λxs H Q=>∃ x T t b,xs=[x,.ty T]/\TyOf X.K H x t/\PySem.W.kitOne X.K t (.type T)=some b/\Q (.bl b) H):=by
 intro pins s σ H xs us Q I r h;obtain⟨x,T,t,b,rfl,ty,e,q⟩:=h;obtain⟨u1,u2,rfl,r1,r2⟩:=Vals.two r;cases r2;exact Ih I r1 ty e λtk=>⟨.bl b,H,I.tok tk,rfl,q⟩
theorem GE{pins:List (YT×Obj)}{σ:St}{H:Hp}{s:YS}{A:Yf}{E:YQ->YS->Prop}{Q:YQ->YS->Prop}{b:Bool}{x:V}{u t:YQ}{tp:YT}{dd:Option YT}{its:List YQ}{n:Nat}{sl:Array (Option YQ)}(I:Inv X pins σ H s)(rx:RelV x u)(ty:TyOf X.K H x t)
 (htp:s.heap.get? tp=some ⟨.type "tuple",dd,.seq its.toArray n,sl⟩) (e:PySem.W.kitAny X.K t its=some b) (h:∀ tk,Q (.bool b) {s with toks:=tk}):
 YY (YX X.prog X.w) A (call (.builtin "isinstance") [u,.ref tp]) Q E s:=by
 cases ty with
 | non=>cases(show u=Value.none from rx);exact PySem.W.kia_tup PySem.W.kitx_none I.kIn True.intro htp e (λz=>nomatch z) h
 | bl y=>cases(show u=Value.bool y from rx);exact PySem.W.kia_tup PySem.W.kitx_bool I.kIn True.intro htp e (λz=>nomatch z) h
 | int i=>obtain⟨t,q⟩:=(show ∃ t,u=Value.int i t from rx);cases q;exact PySem.W.kia_tup PySem.W.kitx_int I.kIn True.intro htp e (λz=>nomatch z) h
 | str y=>obtain⟨t,q⟩:=(show ∃ t,u=Value.str y t from rx);cases q;exact PySem.W.kia_tup PySem.W.kitx_str I.kIn True.intro htp e (λz=>nomatch z) h
 | flt y=>obtain⟨t,q⟩:=(show ∃ t,u=Value.float y t from rx);cases q;exact PySem.W.kia_tup PySem.W.kitx_float I.kIn True.intro htp e (λz=>nomatch z) h
 | @lst a xs ea=>
   cases(show u=Value.ref a from rx);obtain⟨_,_,n,_,h1⟩:=(show ObjOk X.prog X.w H s.heap a (.lst xs) from I.hok a _ ea)
   exact PySem.W.kia_tup PySem.W.kitx_list I.kIn ⟨_,h1,rfl⟩ htp e (λz=>nomatch z) h
 | @frz a ob xs ea=>
   cases(show u=Value.ref a from rx);obtain⟨_,_,_,n,_,h1⟩:=(show ObjOk X.prog X.w H s.heap a (.frz ob (.lst xs)) from I.hok a _ ea)
   exact PySem.W.kia_tup PySem.W.kitx_list I.kIn ⟨_,h1,rfl⟩ htp e (λz=>nomatch z) h
 | @tup a xs ea=>
   cases(show u=Value.ref a from rx);obtain⟨_,_,_,p⟩:=(show ObjOk X.prog X.w H s.heap a (.tup xs) from I.hok a _ ea)
   obtain⟨o,h1,h2,_⟩:=p;exact PySem.W.kia_tup PySem.W.kitx_tuple I.kIn ⟨o,h1,h2⟩ htp e (λz=>nomatch z) h
 | @dK a kvs ea=>
   cases(show u=Value.ref a from rx);obtain⟨_,_,vs,_,p⟩:=(show ObjOk X.prog X.w H s.heap a (.dK kvs) from I.hok a _ ea)
   obtain⟨o,es,ep,h1,h2,_⟩:=p;exact PySem.W.kia_tup PySem.W.kitx_dict I.kIn ⟨o,h1,h2.1⟩ htp e (λz=>nomatch z) h
 | @dT a kvs ea=>
   cases(show u=Value.ref a from rx);obtain⟨_,_,xs,_,o,es,ep,h1,h2,_⟩:=(show ObjOk X.prog X.w H s.heap a (.dT kvs) from I.hok a _ ea)
   exact PySem.W.kia_tup PySem.W.kitx_dict I.kIn ⟨o,h1,h2.1⟩ htp e (λz=>nomatch z) h
 | @ins a C dx fs ea cl ha hn htk hm=>
   cases(show u=Value.ref a from rx);obtain⟨mA,O,_⟩:=HQ I.hok ea;obtain⟨od,J,_⟩:=O.look;exact PySem.W.kia_tup (PySem.W.kitx_own (cl.get _) cl.hd ha hn htk hm) I.kIn J htp e (λz=>nomatch z) h
theorem HY:∀(Ts:List String) {us:List YQ},Vals (Ts.map V.ty) us->us=Ts.map Value.type
 | [],_,.nil=>rfl
 | T::r,_,.cons h t=>by cases h;rw[HY r t];rfl
theorem Ir:CallR X (.builtin "isinstance") (λxs H Q=>∃(x:V) (p:YT) (Ts:List String) (t:YQ) (b:Bool),xs=[x,.ref p]/\H p=some (.tup (Ts.map V.ty))/\TyOf X.K H x t/\PySem.W.kitAny X.K t (Ts.map Value.type)=some b/\Q (.bl b) H):=by
 intro pins s σ H xs us Q I r h;obtain⟨x,p,Ts,t,b,rfl,hp,ty,e,q⟩:=h;obtain⟨u1,u2,rfl,r1,r2⟩:=Vals.two r;cases r2;obtain⟨_,its,rv,⟨⟨c,dd,dt,sl⟩,h1,h2,n,h3⟩⟩:=(show ObjOk X.prog X.w H s.heap p (.tup (Ts.map V.ty)) from I.hok p _ hp)
 have ei:=HY Ts rv;subst ei;replace h2:c = .type "tuple":=h2;replace h3:dt = .seq (Ts.map Value.type).toArray n:=h3;subst h2 h3;exact GE I r1 ty h1 e λtk=>⟨.bl b,H,I.tok tk,rfl,q⟩
theorem Iu(hc:X.calm=true):CallR X (.builtin "all") (λxs H Q=>∃(a:YT) (bs:List Bool),xs=[.ref a]/\SqL X.K H a (bs.map V.bl)/\Q (.bl (bs.all id)) H):=by
 intro pins s σ H xs us Q I r h;obtain⟨a,bs,rfl,hq,q⟩:=h;obtain⟨u,rfl,ru⟩:=AS r;cases ru;obtain⟨its,rv,pl,hz⟩:=I.list hq;have hl:=rv.length;rw[UQ]at hl;refine call_all_walk (ZN pl.isList ?_);have hlt:a<s.heap.objs.size:=by obtain⟨o,n,e,_⟩:=pl;exact UX e
 refine⟨s.heap.objs.size,_,_,_,_,_,λi=>bs.getD i false,rfl,Walks.list (by exact I.ok.hd hc) s.heap.objs.size a (Ug hlt) its.toArray,⟨⟨_,UY _ rfl,rfl,rfl⟩,pl.isList.push _⟩,?_,λh' tk hk=>?_⟩
 ·intro i v s' Q' E' hv hQ';have hv':its[i]?=some v:=by simpa using hv
  have hi:i<its.length:=(gM hv').1;have hb:(bs.map V.bl)[i]?=some (.bl (bs[i]'(by omega))):=by simp
  obtain⟨u',eu,ru'⟩:=rv.get hb;rw[hv']at eu;cases eu;cases ru';have hg:bs.getD i false=bs[i]'(by omega):=by simp[Vp,show i<bs.length by omega]
  have hQ2:Q' (bs.getD i false) s':=hQ';rw[hg]at hQ2;exact Ym hQ2
 ·have I1:Inv X pins σ H {s with heap:=h',toks:=tk}:=I.kept λb o e=>hk b o (by simp;exact Ug (UX e)) (UP _ e);refine⟨.bl _,H,I1,rfl,?_⟩
  have e:(Uj its.toArray.size).all (λi=>bs.getD i false)=bs.all id:=by
   rw[UV,<-hl,VR,Uq,Uq];constructor
   ·intro h b hb;obtain⟨j,hj,e⟩:=Vj.mp hb;have:=h j (V4.mpr hj);simpa[Vp,hj,e] using this
   ·intro h j hj;have hj1:j<bs.length:=V4.mp hj;have:=h bs[j] (W8 hj1);simpa[Vp,hj1] using this
  rw[e];exact q
theorem Iv:CallR X (.type "range") (λxs H Q=>∃ b,xs=[.int b]/\∀ p,H p=none->Q (.ref p) (upd H p (.rng 0 b))):=by
 intro pins s σ H xs us Q I r h;obtain⟨b,rfl,q⟩:=h;obtain⟨u1,rfl,⟨t,rfl⟩⟩:=AS r;refine call_range_1 ⟨.ref s.heap.objs.size,_,I.laid (o := .rng 0 b) (λb o e=>UP _ e) (US _) ⟨_,_,_,UY _ rfl⟩,rfl,q _ I.fresh⟩
noncomputable def Iw(lo:Int)(n:Nat):List V:=(Uj n).map λ(i:Nat)=>V.int (lo+(i:Int))
theorem El(lo:Int)(n:Nat):(Iw lo n).length=n:=by unfold Iw;simp
theorem E9(hc:X.calm=true):CallR X (.type "list") (λxs H Q=>∃ p a b,xs=[.ref p]/\H p=some (.rng a b) /\ -(2 ^ 62)<=a/\a<2 ^ 62 /\ -(2 ^ 62)<=b/\b<2 ^ 62/\(b - a).toNat<=100000/\∀ l,H l=none->Q (.ref l) (upd H l (.lst (Iw a (b - a).toNat)))):=by
 intro pins s σ H xs us Q I r h;obtain⟨p,a,b,rfl,hp,h1,h2,h3,h4,h5,q⟩:=h;obtain⟨u,rfl,ru⟩:=AS r;cases ru;obtain⟨t,u',v,ho⟩:=(show ObjOk X.prog X.w H s.heap p (.rng a b) from I.hok p _ hp)
 have hn:Builtin.Range.rangeSize a b 1=(((b - a).toNat:Nat):Int):=by rw[rangeSize_one];split<;>omega
 refine call_list_range (I.ok.hd hc) (show IsRange s.heap p a b 1 t u' v from ho) (small_one h1 h2 h3 h4) hn (by omega) λh' tk acc c' kp e hi=>?_;have hz:(b - a).toNat<=Yb:=Ux h5 (by decide);refine⟨.ref s.heap.objs.size,_,I.laid kp (US _) (show ObjOk X.prog X.w _ h' _ (.lst (Iw a (b - a).toNat)) from ⟨by rw[El];exact hz,acc.toList,c',?_,by simpa using e⟩),rfl,q _ I.fresh⟩;obtain⟨hs,hv⟩:=hi
 have key:∀(n:Nat) (l:List YQ) (lo:Int),l.length=n->(∀(j:Nat) (v:YQ),l[j]?=some v->∃ t,v=Value.int (lo+(j:Int)) t)->Vals ((Uj n).map λ(i:Nat)=>V.int (lo+(i:Int))) l:=by
  intro n
  induction n with
  | zero=>intro l lo hl _;cases l with | nil=>exact .nil | cons _ _=>simp at hl
  | succ n ih=>
    intro l lo hl hv;cases l with
    | nil=>simp at hl
    | cons x r=>
      rw[List.range_succ_eq_map,Uv,V9];refine .cons ?_ ?_
      ·obtain⟨t,e⟩:=hv 0 x (by simp);exact⟨t,e⟩
      ·have:=ih r (lo+1) (by simpa using hl) λj v hj=>by
        obtain⟨t,e⟩:=hv (j+1) v (by simpa using hj);refine⟨t,?_⟩;rw[e]
        congr 1
        omega
       have e2:((λ(i:Nat)=>V.int (lo+(i:Int)))∘YL)=λ(i:Nat)=>V.int (lo+1+(i:Int)):=by
        funext i
        show V.int (lo+((i+1:Nat):Int))=V.int (lo+1+(i:Int))
        congr 1
        omega
       rw[e2];exact this
 refine key _ _ a (by simpa using hs) λj v hj=>?_;obtain⟨t,e⟩:=hv j v (by simpa using hj);exact⟨t,by rw[e];congr 1;omega⟩
end
noncomputable def srt(ns:List Int):List Int:=ns.mergeSort (λa b=>decide (a<=b))
theorem Be(ns:List Int):(srt ns).Perm ns:=List.mergeSort_perm _ _
theorem KU(ns:List Int):(srt ns).Pairwise (·<=·):=by
 have h:=List.pairwise_mergeSort (le:=λ(a b:Int)=>decide (a<=b)) (λa b c h1 h2=>by simp only[dQ]at *;omega) (λa b=>by simp only[V8,dQ];omega) ns;exact h.imp λh=>of_decide_eq_true h
theorem GF{ns ns':List Int}(hp:ns'.Perm ns)(hs:ns'.Pairwise (·<=·)):ns'=srt ns:=
 List.Perm.eq_of_pairwise (λ_ _ _ _ a b=>Int.le_antisymm a b) hs (KU ns) (hp.trans (Be ns).symm)
theorem AF:∀{ns:List Int} {us:List YQ},Vals (ns.map V.int) us->IntsAre us ns
 | [],_,.nil => .nil
 | _::_,_,.cons ⟨_,e⟩ t=>by subst e;exact .cons _ _ (AF t)
theorem C0:∀{ns:List Int} {us:List YQ},IntsAre us ns->Vals (ns.map V.int) us
 | _,_,.nil => .nil
 | _,_,.cons _ _ t => .cons ⟨_,rfl⟩ (C0 t)
theorem KW:Yd "sorted"=some (.builtin "sorted"):=by decide +kernel
section
variable{κ:Type}[DecidableEq κ]
noncomputable def AZ(kvs:List (κ×V))(k:κ):Option V:=(kvs.find? λkv=>decide (kv.1=k)).map (·.2)
noncomputable def Af(kvs:List (κ×V))(k:κ)(v:V):List (κ×V):=
 if (kvs.any λkv=>decide (kv.1=k))=true then kvs.map (λkv=>if kv.1=k then (kv.1,v) else kv) else kvs++[(k,v)]
theorem Bf{p:κ×V}{r:List (κ×V)}{k:κ}(e:p.1=k):AZ (p::r) k=some p.2:=by simp[AZ,VS,e]
theorem Bg{p:κ×V}{r:List (κ×V)}{k:κ}(e:¬ p.1=k):AZ (p::r) k=AZ r k:=by simp[AZ,VS,e]
theorem Em(k:κ):∀ kvs:List (κ×V),(kvs.any λkv=>decide (kv.1=k))=(AZ kvs k).isSome
 | []=>rfl
 | p::r=>by
   rw[Vc];by_cases e:p.1=k
   ·simp only[Bf e,decide_eq_true e,YG,XY]
   ·rw[Bg e,decide_eq_false e,XU];exact Em k r
theorem CG(kvs:List (κ×V))(k:κ)(v:V):(Af kvs k v).length<=kvs.length+1:=by
 unfold Af;split
 ·rw[UQ];omega
 ·rw[UR,VG,Wj];omega
theorem RelO.isSome_eq{o:Option V}{u:Option YQ}(r:RelO o u):o.isSome=u.isSome:=by
 cases o with
 | none=>cases u with
   | none=>rfl
   | some _=>exact(show False from r).elim
 | some _=>cases u with
   | none=>exact(show False from r).elim
   | some _=>rfl
theorem RelO.getD{o:Option V}{u:Option YQ}{d:V}{d':YQ}(r:RelO o u)(rd:RelV d d'):RelV (o.getD d) (u.getD d'):=by
 cases o with
 | none=>cases u with
   | none=>exact rd
   | some _=>exact(show False from r).elim
 | some _=>cases u with
   | none=>exact(show False from r).elim
   | some _=>exact r
theorem KV.val{kvs:List (κ×V)}{vs:List (κ×YQ)}(r:KV kvs vs)(k:κ):RelO (AZ kvs k) (valueAt vs k):=by
 unfold KV at r
 induction r with
 | nil=>exact True.intro
 | @cons p q ps qs h t ih=>
   obtain⟨h1,h2⟩:=h;by_cases e:p.1=k
   ·have e':q.1=k:=h1.symm.trans e;have b:valueAt (q::qs) k=some q.2:=by simp[valueAt,VS,e']
    rw[Bf e,b];exact h2
   ·have e':¬ q.1=k:=λz=>e (h1.trans z);have b:valueAt (q::qs) k=valueAt qs k:=by simp[valueAt,VS,e']
    rw[Bg e,b];exact ih
theorem KV.any{kvs:List (κ×V)}{vs:List (κ×YQ)}(r:KV kvs vs)(k:κ):(kvs.any λkv=>decide (kv.1=k))=vs.any λkv=>decide (kv.1=k):=by
 unfold KV at r
 induction r with
 | nil=>rfl
 | cons h t ih=>rw[Vc,Vc,ih,h.1]
theorem KV.repl{kvs:List (κ×V)}{vs:List (κ×YQ)}(r:KV kvs vs)(k:κ){y:V}{u:YQ}(ry:RelV y u):
 KV (kvs.map λkv=>if kv.1=k then (kv.1,y) else kv) (vs.map λkv=>if kv.1=k then (kv.1,u) else kv):=by
 unfold KV at r ⊢
 induction r with
 | nil=>exact .nil
 | @cons p q ps qs h t ih=>
   rw[Uv,Uv];refine .cons ?_ ih;obtain⟨h1,h2⟩:=h;by_cases e:p.1=k
   ·rw[iP e,iP (h1.symm.trans e)];exact⟨h1,ry⟩
   ·rw[iG e,iG (λz=>e (h1.trans z))];exact⟨h1,h2⟩
theorem KV.put{kvs:List (κ×V)}{vs:List (κ×YQ)}(r:KV kvs vs)(k:κ){y:V}{u:YQ}(ry:RelV y u):KV (Af kvs k y) (stored vs k u):=by
 unfold Af stored;rw[r.any k];by_cases e:(vs.any λkv=>decide (kv.1=k))=true
 ·rw[iP e,iP e];exact r.repl k ry
 ·rw[iG e,iG e];exact Paired.snoc r ⟨rfl,ry⟩
theorem KV.keys{kvs:List (κ×V)}{vs:List (κ×YQ)}(r:KV kvs vs):kvs.map (·.1)=vs.map (·.1):=by
 unfold KV at r
 induction r with
 | nil=>rfl
 | cons h t ih=>rw[Uv,Uv,ih,h.1]
theorem KV.length{kvs:List (κ×V)}{vs:List (κ×YQ)}(r:KV kvs vs):kvs.length=vs.length:=Paired.length r
end
theorem En{P:YZ}{w:Yc}{k:Key}{u:YQ}(r:RelV (kV k) u):(i6 P w).is k u=true:=by
 cases k with
 | inl i=>obtain⟨t,e⟩:=(show ∃ t,u=Value.int i t from r);subst e;exact Eb P w i t
 | inr x=>obtain⟨t,e⟩:=(show ∃ t,u=Value.str x t from r);subst e;exact Ec P w x t
theorem Dh{P:YZ}{w:Yc}:∀{ks:List Key} {us:List YQ},Vals (ks.map kV) us->ItemsAre (i6 P w) ks us
 | [],_,r=>by rw[YF]at r;cases r;exact .nil
 | k::ks,_,r=>by
   rw[Uv]at r;cases r with
   | cons h t=>exact .cons (En h) (Dh t)
noncomputable abbrev KT(H:Hp):List (List Key×V)->List (List Key×YT×YQ)->Prop:=Paired λp q=>p.1=q.1/\H q.2.1=some (.tup (p.1.map kV))/\RelV p.2 q.2.2
theorem KT.val{H:Hp}{kvs:List (List Key×V)}{xs:List (List Key×YT×YQ)}(r:KT H kvs xs)(k:List Key):RelO (AZ kvs k) ((atKey xs k).map (·.2)):=by
 induction r with
 | nil=>exact True.intro
 | @cons p q ps qs h t ih=>
   obtain⟨h1,_,h2⟩:=h;by_cases e:p.1=k
   ·have e':q.1=k:=h1.symm.trans e;have b:atKey (q::qs) k=some q.2:=by simp[atKey,VS,e']
    rw[Bf e,b];exact h2
   ·have e':¬ q.1=k:=λz=>e (h1.trans z);have b:atKey (q::qs) k=atKey qs k:=by simp[atKey,VS,e']
    rw[Bg e,b];exact ih
theorem KT.repl{H:Hp}{kvs:List (List Key×V)}{xs:List (List Key×YT×YQ)}(r:KT H kvs xs)(k:List Key){y:V}{u:YQ}(ry:RelV y u):
 KT H (kvs.map λkv=>if kv.1=k then (kv.1,y) else kv) (xs.map (putAt k u)):=by
 induction r with
 | nil=>exact .nil
 | @cons p q ps qs h t ih=>
   rw[Uv,Uv];refine .cons ?_ ih;obtain⟨h1,h2,h3⟩:=h;unfold putAt;by_cases e:p.1=k
   ·rw[iP e,iP (h1.symm.trans e)];exact⟨h1,h2,ry⟩
   ·rw[iG e,iG (λz=>e (h1.trans z))];exact⟨h1,h2,h3⟩
theorem KT.put{H:Hp}{kvs:List (List Key×V)}{xs:List (List Key×YT×YQ)}(r:KT H kvs xs)(k:List Key){b:YT}{y:V}{u:YQ}(hb:H b=some (.tup (k.map kV)))(ry:RelV y u):
 KT H (Af kvs k y) (storedH xs k b u):=by
 have e:(kvs.any λkv=>decide (kv.1=k))=(atKey xs k).isSome:=by
  rw[Em,(r.val k).isSome_eq,Option.isSome_map]
 unfold Af storedH;rw[e];by_cases q:(atKey xs k).isSome=true
 ·rw[iP q,iP q];exact r.repl k ry
 ·rw[iG q,iG q];exact Paired.snoc r ⟨rfl,hb,ry⟩
theorem KT.keeps{H H':Hp}{kvs:List (List Key×V)}{xs:List (List Key×YT×YQ)}(r:KT H kvs xs)(ht:∀ b ys,H b=some (.tup ys)->H' b=some (.tup ys)):KT H' kvs xs:=
 Paired.mapP r λ_ _ z=>⟨z.1,ht _ _ z.2.1,z.2.2⟩
section
variable{P:YZ}{w:Yc}{H:Hp}{h:Heap}{a:YT}
theorem PJ{u:HO}(ok:HOk P w H h)(e:Rd H a u):ObjOk P w H h a u:=e.ok ok
theorem CH{kvs:List (Key×V)}(ok:HOk P w H h)(e:Rd H a (.dK kvs)):kvs.length<=Yb/\(a == Z6)=false/\∃ vs,KV kvs vs/\h.DictOf (i6 P w) a vs:=
 show ObjOk P w H h a (.dK kvs) from PJ ok e
theorem Sd{kvs:List (Key×V)}(ok:HOk P w H h)(e:H a=some (.dK kvs)):kvs.length<=Yb/\(a == Z6)=false/\∃ vs,KV kvs vs/\h.DictOf (i6 P w) a vs:=CH ok (.inl e)
theorem Cf{ks:List Key}(ok:HOk P w H h)(e:H a=some (.tup (ks.map kV))):(ZY (i6 P w)).is h ks a:=by
 obtain⟨_,its,r,o,h1,h2,n,h3⟩:=(show ObjOk P w H h a (.tup (ks.map kV)) from ok a _ e)
 exact⟨o,its.toArray,n,h1,h2,h3,by simpa using Dh r⟩
theorem Di{kvs:List (List Key×V)}(ok:HOk P w H h)(e:Rd H a (.dT kvs)):kvs.length<=Yb/\(a == Z6)=false/\
 ∃ xs,KT H kvs xs/\h.DictOfH (ZY (i6 P w)) a xs:=by
 obtain⟨z,y,xs,r,o,es,ep,h1,h2,h3,h4,h5⟩:=(show ObjOk P w H h a (.dT kvs) from PJ ok e)
 refine⟨z,y,xs,r,o,es,ep,h1,h2,h3,h4,λx hx=>?_,h5⟩
 have all:∀{l:List (List Key×V)} {m:List (List Key×YT×YQ)},KT H l m->∀ x∈m,(ZY (i6 P w)).is h x.1 x.2.1:=by
  intro l m q
  induction q with
  | nil=>intro x hx;exact nomatch hx
  | @cons p q ps qs hq t ih=>
    intro x hx;rcases Ub.mp hx with e | hx
    ·subst e;exact Cf ok (by rw[<-hq.1];exact hq.2.1)
    ·exact ih x hx
 exact all r x hx
theorem Se{kvs:List (List Key×V)}(ok:HOk P w H h)(e:H a=some (.dT kvs)):kvs.length<=Yb/\(a == Z6)=false/\
 ∃ xs,KT H kvs xs/\h.DictOfH (ZY (i6 P w)) a xs:=Di ok (.inl e)
end
noncomputable def DGet(H:Hp)(a:YT)(y:V)(r:Option V):Prop:=
 (∃ kvs k,Rd H a (.dK kvs)/\y=kV k/\r=AZ kvs k)\/∃ kvs k b,Rd H a (.dT kvs)/\y = .ref b/\H b=some (.tup (k.map kV))/\r=AZ kvs k
noncomputable def DPut(H:Hp)(a:YT)(y v:V)(H':Hp):Prop:=
 (∃ kvs k,H a=some (.dK kvs)/\y=kV k/\kvs.length<Yb/\H'=upd H a (.dK (Af kvs k v)))\/
 ∃ kvs k b,H a=some (.dT kvs)/\y = .ref b/\H b=some (.tup (k.map kV))/\kvs.length<Yb/\H'=upd H a (.dT (Af kvs k v))
theorem DGet.t{H:Hp}{a b:YT}{kvs:List (List Key×V)}{k:List Key}(e:H a=some (.dT kvs))(eb:H b=some (.tup (k.map kV))):DGet H a (.ref b) (AZ kvs k) := .inr ⟨kvs,k,b,.inl e,rfl,eb,rfl⟩
theorem DPut.t{H:Hp}{a b:YT}{kvs:List (List Key×V)}{k:List Key}{v:V}(e:H a=some (.dT kvs))(eb:H b=some (.tup (k.map kV)))(hl:kvs.length<Yb):
 DPut H a (.ref b) v (upd H a (.dT (Af kvs k v))) := .inr ⟨kvs,k,b,e,rfl,eb,hl,rfl⟩
section
variable{X:Cx}{pins:List (YT×Obj)}{σ:St}{H:Hp}{s:YS}{a:YT}{y v:V}{u r:YQ}{o:Option V}{A:Yf}{E:YQ->YS->Prop}
theorem Inv.big(I:Inv X pins σ H s):Z6<s.heap.objs.size:=by
 have h:Ya<s.heap.objs.size:=(I.mod.glob.keeps I.bk).lt;exact YH (by decide) h
theorem Ix{Q:YQ->YS->Prop}(hu:A.units+1<cLine)(I:Inv X pins σ H s)(g:DGet H a y (some v))(ry:RelV y u)(h:∀ w' s',Inv X pins σ H s'->RelV v w'->Q w' s'):
 YY (YX X.prog X.w) A (getItem (.ref a) u) Q E s:=by
 rcases g with⟨kvs,k,e,ey,l⟩ | ⟨kvs,k,b,e,ey,eb,l⟩
 ·subst ey;obtain⟨z,hd,vs,rel,dd⟩:=CH I.hok e;obtain⟨w',hw,rw'⟩:=RelO.some_of (v:=v) (o:=valueAt vs k) (by rw[l];exact rel.val k);exact wpAny_getItem_of (En ry) dd.mapOf hw (h w' _ (I.tok _) rw')
 ·subst ey;cases(show u=Value.ref b from ry);obtain⟨z,hd,xs,rel,dd⟩:=Di I.hok e;obtain⟨w',hw,rw'⟩:=RelO.some_of (v:=v) (o:=(atKey xs k).map (·.2)) (by rw[l];exact rel.val k);obtain⟨p,hp,hp2⟩:=Vl.mp hw;refine wpAny_getItem_heap (ZL hu) (Cf I.hok eb) dd hp ?_;rw[hp2];exact h w' _ (I.tok _) rw'
theorem HZ{h':Heap}{t':Nat}{ob:HO}(I:Inv X pins σ H s)(mu:Mut (H a))(hs:Uz a s.heap h')(he:∃ q,h'.get? a=some q)(new:ObjOk X.prog X.w (upd H a ob) h' a ob):
 Inv X pins σ (upd H a ob) {s with heap:=h',toks:=t'}:=
 I.write (x:=a) (e:=a) mu (.inl rfl) (λb q hb z=>(hs.2 b hb).trans z) he new
theorem QT{P:YZ}{w:Yc}{H':Hp}{h':Heap}{kvs:List (Key×V)}{vs:List (Key×YQ)}(z:kvs.length<=Yb)(hd:(a == Z6)=false)(rel:KV kvs vs)(dd:h'.DictOf (i6 P w) a vs):
 ObjOk P w H' h' a (.dK kvs):=⟨z,hd,vs,rel,dd⟩
theorem Iy{H':Hp}{Q:Unit->YS->Prop}(hu:A.units+1<cLine)(I:Inv X pins σ H s)(g:DPut H a y v H')(ry:RelV y u)(rv:RelV v r)(h:∀ s',Inv X pins σ H' s'->Q () s'):
 YY (YX X.prog X.w) A (setItem (.ref a) u r) Q E s:=by
 rcases g with⟨kvs,k,e,ey,l,eH⟩ | ⟨kvs,k,b,e,ey,eb,l,eH⟩
 ·subst ey eH;obtain⟨z,hd,vs,rel,dd⟩:=Sd I.hok e;have hz:vs.length<=Yb:=by rw[<-rel.length];exact z
  have hl:(Af kvs k v).length<=Yb:=by have:=CG kvs k v;omega
  refine wpAny_setItem_pairs (hsz:=hz) (En ry) dd λh' dd' hs=>h _ ?_;have he:∃ q,h'.get? a=some q:=let ⟨q,_,_,hq,_⟩:=dd';⟨q,hq⟩
  exact HZ I (by rw[e];exact True.intro) hs he (QT hl hd (rel.put k rv) dd')
 ·subst ey eH;cases(show u=Value.ref b from ry);obtain⟨z,hd,xs,rel,dd⟩:=Se I.hok e;have hz:xs.length<=Yb:=by rw[<-Paired.length rel];exact z
  have hl:(Af kvs k v).length<=Yb:=by have:=CG kvs k v;omega
  refine wpAny_setItem_heap (hsz:=hz) (ZL hu) (Cf I.hok eb) dd λh' dd' hs=>h _ ?_;obtain⟨q,es,ep,hq,h2,h3,h4,_,h5⟩:=dd';refine HZ I (by rw[e];exact True.intro) hs ⟨q,hq⟩ ⟨hl,hd,_,(rel.put k eb rv).keeps λc ys ec=>?_,q,es,ep,hq,h2,h3,h4,h5⟩;rw[upd_ne (P4 ec e (λz=>nomatch z))];exact ec
end
noncomputable def Sf(i:Expr):Prop:=∀ ov iv,A05 i false ov iv=operate [ov,iv] (getItem ov iv)
theorem NP{prog:YZ}{w:Yc}{A:Yf}{E:YQ->YS->Prop}{s:YS}{env:Env}{value slice:Expr}{pos:Pos}{T id:String}{Q:YQ->YS->Prop}
 (hl:A0K (.type T) "__getitem__"=pure (some (.builtin id))) (hs:Sf slice)
 (h:YY (YX prog w) A (eval value env) (λo s₁=>YY (YX prog w) A (eval slice env) (λi s₂=>s₂.TypeIs o T/\YY (YX prog w) A (getItem o i) Q E s₂) E s₁) E s):
 YY (YX prog w) A (eval (.Subscript value slice pos) env) Q E s:=by
 refine A0L (Yo h (λo s₁ h₁=>Yo h₁ (λi s₂ h₂=>?_) λ_ _ x=>x) λ_ _ x=>x);obtain⟨hT,h₂⟩:=h₂;unfold A0i;refine YR ?_;rw[getitemInPython_of_ne hT.not_modules];refine YR (A0G hT hl ?_)
 have fin:YY (YX prog w) A (A05 slice false o i) (λr s₃=>YY (YX prog w) A (letTemporaryGo value o r >>= λ_=>pure r) Q E s₃) E s₂:=by
  rw[hs o i];exact wpAny_operating (Yo h₂ (λr s₃ h₃=>YR (wpAny_letTemporaryGo (YV h₃))) λ_ _ x=>x)
 first
  | exact YV (YR fin)
  | exact YR (YV (YR fin))
  | exact YR fin
theorem Ep{X:Cx}{pins:List (YT×Obj)}{σ:St}{H:Hp}{s:YS}{a:YT}{y:V}{o:Option V}(I:Inv X pins σ H s)(g:DGet H a y o):s.TypeIs (.ref a) "dict":=by
 rcases g with⟨kvs,k,e,_,_⟩ | ⟨kvs,k,b,e,_,_,_⟩
 ·obtain⟨_,_,vs,_,dd⟩:=CH I.hok e;exact dd.typeIs
 ·obtain⟨_,_,xs,_,dd⟩:=Di I.hok e;exact dd.typeIs
noncomputable def Sh(td ty:TE):TE:=λσ H Q=>td σ H λx H1=>ty σ H1 λy H2=>∃ a v,x = .ref a/\DGet H2 a y (some v)/\Q v H2
section
variable{X:Cx}{o i e value:Expr}{pos pos' tpos:Pos}{td ty tv:TE}
theorem NQ(hu:X.A.units+1<cLine)(ho:PE X o td)(hi:PE X i ty)(hs:Sf i):PE X (.Subscript o i pos) (Sh td ty):=by
 intro pins s σ H Q I h;refine NP PySem.F.slot_dict_getitem.lookup hs (thn (ho pins s σ H _ I h) λu s1 ⟨x,H1,I1,rx,q1⟩=>thn (hi pins s1 σ H1 _ I1 q1) λiv s2 ⟨y,H2,I2,ry,a,v,ex,g,q2⟩=>?_);subst ex;obtain rfl:u=Value.ref a:=rx;exact⟨Ep I2 g,Ix hu I2 g ry λw' s3 I3 rw'=>⟨v,H2,I3,rw',q2⟩⟩
end
theorem KY{P:YZ}{w:Yc}{H:Hp}(h:Heap)(hb:Z6<h.objs.size):ObjOk P w H (h.push {cls := .type "dict",data := .dict #[]}) h.objs.size (.dK []):=
 ⟨VX _,beq_eq_false_iff_ne.mpr (Ne.symm (Ug hb)),[],.nil,Heap.DictOf.new h⟩
noncomputable def QU:TE:=λ_ H Q=>∀ p,H p=none->Q (.ref p) (upd H p (.dK []))
section
variable{X:Cx}{pos:Pos}
theorem KZ:PE X (.Dict [] [] pos) QU:=λpins s σ H Q I h=>
 wpAny_Dict_empty ⟨.ref s.heap.objs.size,_,I.laid (a:=s.heap.objs.size) (o := .dK []) (t':=s.toks) (λ_ _ q=>UP _ q) (US _) (KY s.heap I.big),rfl,h _ (I.hok.fresh (US _))⟩
end
structure M1(X:Cx)(o:Expr)(m:Str)(apos:Pos)(e:Expr)(cpos:Pos):Prop where
 base:ZC o m X.env (eval o X.env)=eval o X.env
 few:((backTo cpos (Yg [e] X.env)).all (λx=>!x.1)&&(A0N cpos (A06 [] X.env)).all (λx=>x.1.isSome)
  && decide (([e]:List Expr).length+([]:List Keyword).length+(if ([]:List Keyword).isEmpty then 0 else 1)<30))=true
 line:(apos.endLine == cpos.line)=true
 trees:backTo cpos (Yg [e] X.env)=[(false,eval e X.env)]
structure M2(X:Cx)(o:Expr)(m:Str)(apos:Pos)(e f:Expr)(cpos:Pos):Prop where
 base:ZC o m X.env (eval o X.env)=eval o X.env
 few:((backTo cpos (Yg [e,f] X.env)).all (λx=>!x.1)&&(A0N cpos (A06 [] X.env)).all (λx=>x.1.isSome)
  && decide (([e,f]:List Expr).length+([]:List Keyword).length+(if ([]:List Keyword).isEmpty then 0 else 1)<30))=true
 line:(apos.endLine == cpos.line)=true
 trees:backTo cpos (Yg [e,f] X.env)=[(false,eval e X.env),(false,eval f X.env)]
noncomputable def IsD(H:Hp)(a:YT):Prop:=(∃ kvs,Rd H a (.dK kvs))\/∃ kvs,Rd H a (.dT kvs)
theorem Ka{X:Cx}{pins:List (YT×Obj)}{σ:St}{H:Hp}{s:YS}{a:YT}(I:Inv X pins σ H s)(d:IsD H a):
 s.TypeIs (.ref a) "dict"/\(∀ b,Value.ref a = .ref b->∃ ob,s.heap.get? b=some ob/\ob.dict=none)/\(a == Z6)=false:=by
 rcases d with⟨kvs,e⟩ | ⟨kvs,e⟩
 ·obtain⟨_,hd,vs,_,dd⟩:=CH I.hok e;refine⟨dd.typeIs,λb q=>?_,hd⟩;cases q;obtain⟨ob,_,_,h1,h2,_⟩:=dd;exact⟨ob,h1,h2.2.1⟩
 ·obtain⟨_,hd,xs,_,dd⟩:=Di I.hok e;refine⟨dd.typeIs,λb q=>?_,hd⟩;cases q;obtain⟨ob,_,_,h1,h2,_⟩:=dd;exact⟨ob,h1,h2.2.1⟩
section
variable{X:Cx}{pins:List (YT×Obj)}{σ:St}{H:Hp}{s:YS}{a:YT}{y d:V}{u r:YQ}{o:Option V}{A:Yf}{E:YQ->YS->Prop}
theorem QV{Q:YQ->YS->Prop}(hu:A.units+1<cLine)(I:Inv X pins σ H s)(g:DGet H a y o)(ry:RelV y u)(h:∀ w' s',Inv X pins σ H s'->RelV (o.getD .non) w'->Q w' s'):
 YY (YX X.prog X.w) A (call (.builtin "dict.get") [.ref a,u]) Q E s:=by
 rcases g with⟨kvs,k,e,ey,l⟩ | ⟨kvs,k,b,e,ey,eb,l⟩
 ·subst ey;obtain⟨z,hd,vs,rel,dd⟩:=CH I.hok e;refine ZX PySem.F.slot_dict_get dd.typeIs PySem.F.entry_dict_get (PySem.F.args_dict_get_2 _ _) (meets_dict_get (i6 X.prog X.w) a (En ry) hd) ⟨_,dd.mapOf,h _ _ (I.tok _) ?_⟩;rw[l];exact(rel.val k).getD rfl
 ·subst ey;cases(show u=Value.ref b from ry);obtain⟨z,hd,xs,rel,dd⟩:=Di I.hok e;refine ZX PySem.F.slot_dict_get dd.typeIs PySem.F.entry_dict_get (PySem.F.args_dict_get_2 _ _) (meetsH_dict_get (ZY (i6 X.prog X.w)) a b hd) ⟨ZL hu,k,xs,Cf I.hok eb,dd,h _ _ (I.tok _) ?_⟩;rw[l];exact(rel.val k).getD rfl
theorem QW{Q:YQ->YS->Prop}(hu:A.units+1<cLine)(I:Inv X pins σ H s)(g:DGet H a y o)(ry:RelV y u)(rd:RelV d r)(h:∀ w' s',Inv X pins σ H s'->RelV (o.getD d) w'->Q w' s'):
 YY (YX X.prog X.w) A (call (.builtin "dict.get") [.ref a,u,r]) Q E s:=by
 rcases g with⟨kvs,k,e,ey,l⟩ | ⟨kvs,k,b,e,ey,eb,l⟩
 ·subst ey;obtain⟨z,hd,vs,rel,dd⟩:=CH I.hok e;refine ZX PySem.F.slot_dict_get dd.typeIs PySem.F.entry_dict_get (PySem.F.args_dict_get_3 _ _ _) (meets_dict_get_default (i6 X.prog X.w) a (En ry) hd r) ⟨_,dd.mapOf,h _ _ (I.tok _) ?_⟩;rw[l];exact(rel.val k).getD rd
 ·subst ey;cases(show u=Value.ref b from ry);obtain⟨z,hd,xs,rel,dd⟩:=Di I.hok e;refine ZX PySem.F.slot_dict_get dd.typeIs PySem.F.entry_dict_get (PySem.F.args_dict_get_3 _ _ _) (meetsH_dict_get_default (ZY (i6 X.prog X.w)) a b hd r) ⟨ZL hu,k,xs,Cf I.hok eb,dd,h _ _ (I.tok _) ?_⟩;rw[l];exact(rel.val k).getD rd
end
noncomputable def QX(td ty:TE):TE:=λσ H Q=>td σ H λx H1=>∃ a,x = .ref a/\IsD H1 a/\ty σ H1 λy H2=>∃ o,DGet H2 a y o/\Q (o.getD .non) H2
noncomputable def QY(td ty tx:TE):TE:=λσ H Q=>td σ H λx H1=>∃ a,x = .ref a/\IsD H1 a/\ty σ H1 λy H2=>tx σ H2 λz H3=>∃ o,DGet H3 a y o/\Q (o.getD z) H3
section
variable{X:Cx}{o e f:Expr}{apos cpos:Pos}{td ty tx:TE}
theorem Kb(hu:X.A.units+1<cLine)(ho:PE X o td)(he:PE X e ty)(m:M1 X o "get" apos e cpos):PE X (.Call (.Attribute o "get" apos) [e] [] cpos) (QX td ty):=by
 intro pins s σ H Q I h;refine A0p m.base m.few m.line PySem.F.plainAttrs_dict PySem.F.slot_dict_get PySem.F.type_dict_get (thn (ho pins s σ H _ I h) λu s1 ⟨x,H1,I1,rx,a,ex,d,q1⟩=>?_);subst ex;obtain rfl:u=Value.ref a:=rx;obtain⟨t1,t2,_⟩:=Ka I1 d;refine⟨t1,t2,?_⟩;rw[m.trees];refine Calls.callWith_builtin rfl (Calls.evalArgs_plain (Calls.spliced_cons (thn (he pins s1 σ H1 _ I1 q1) λiv s2 ⟨y,H2,I2,ry,ov,g,q2⟩=>Calls.spliced_nil ?_)));exact QV hu I2 g ry λw' s3 I3 rw'=>⟨_,H2,I3,rw',q2⟩
theorem Kc(hu:X.A.units+1<cLine)(ho:PE X o td)(he:PE X e ty)(hf:PE X f tx)(m:M2 X o "get" apos e f cpos):PE X (.Call (.Attribute o "get" apos) [e,f] [] cpos) (QY td ty tx):=by
 intro pins s σ H Q I h;refine A0p m.base m.few m.line PySem.F.plainAttrs_dict PySem.F.slot_dict_get PySem.F.type_dict_get (thn (ho pins s σ H _ I h) λu s1 ⟨x,H1,I1,rx,a,ex,d,q1⟩=>?_);subst ex;obtain rfl:u=Value.ref a:=rx;obtain⟨t1,t2,_⟩:=Ka I1 d;refine⟨t1,t2,?_⟩;rw[m.trees]
 refine Calls.callWith_builtin rfl (Calls.evalArgs_plain (Calls.spliced_cons (thn (he pins s1 σ H1 _ I1 q1) λiv s2 ⟨y,H2,I2,ry,q2⟩=>
  Calls.spliced_cons (thn (hf pins s2 σ H2 _ I2 q2) λfv s3 ⟨z,H3,I3,rz,ov,g,q3⟩=>Calls.spliced_nil ?_))))
 exact QW hu I3 g ry rz λw' s4 I4 rw'=>⟨_,H3,I4,rw',q3⟩
end
end L2
set_option maxHeartbeats 1000000
namespace L2
open PySem PySem.Spec PyProof.Rows
section
variable{X:Cx}{pins:List (YT×Obj)}{σ:St}{H:Hp}{s:YS}{a:YT}{u u':HO}
theorem Inv.retag(I:Inv X pins σ H s)(hu:H a=some u)(h1:∀ xs,u ≠ .tup xs)(h2:∀ y,u ≠ .own y)(h3:∀ ps,u ≠ .tbl ps)(h4:∀ o xs,u ≠ .frz o (.lst xs))(new:ObjOk X.prog X.w (upd H a u') s.heap a u'):Inv X pins σ (upd H a u') s:=by
 have ne:∀ b,H b=none->b≠a:=λb n z=>by rw[z,hu]at n;cases n
 refine⟨I.ok,I.os,I.bare,⟨I.base.keep,I.base.slot,λb o e n hx=>?_,I.base.there,λb xs e=>?_,λb o w e=>?_,λb ps e=>?_⟩,I.loc,I.cell,?_,λx c e=>?_,λp hp=>?_,λb o e=>?_,I.len⟩
 ·have q:=I.base.free b o e n hx;rw[upd_ne (ne b q)];exact q
 ·have q:=I.base.tups b xs e;by_cases hb:b=a
  ·rw[hb,hu]at q;exact absurd (oj q) (h1 xs)
  ·rw[upd_ne hb];exact q
 ·have q:=I.base.frzs b o w e;by_cases hb:b=a
  ·rw[hb,hu]at q;exact absurd (oj q) (h4 o w)
  ·rw[upd_ne hb];exact q
 ·obtain⟨m,q⟩:=I.base.tbls b ps e;by_cases hb:b=a
  ·rw[hb,hu]at q;exact absurd (oj q) (h3 _)
  ·exact⟨m,by rw[upd_ne hb];exact q⟩
 ·rw[upd_ne (ne _ I.free)];exact I.free
 ·rw[upd_ne (ne _ (I.freeC x c e))];exact I.freeC x c e
 ·obtain⟨p1,p2,p3⟩:=I.pin p hp;exact⟨p1,by rw[upd_ne (ne _ p2)];exact p2,p3⟩
 ·by_cases hb:b=a
  ·subst hb;rw[g7]at e;cases e;exact new
  ·rw[upd_ne hb]at e;refine(I.hok b o e).stay (λ_ _ _ q=>q) (λc q=>?_) (λc xs q=>?_)
   ·by_cases hc:c=a
    ·rw[hc,hu]at q;exact absurd (oj q) (h2 _)
    ·rw[upd_ne hc];exact q
   ·by_cases hc:c=a
    ·rw[hc,hu]at q;exact absurd (oj q) (h1 _)
    ·rw[upd_ne hc];exact q
theorem Inv.melt{ks:List (Key×V)}{o:Obj}(I:Inv X pins σ H s)(hu:H a=some (.frz o (.dK ks))):Inv X pins σ (upd H a (.dK ks)) s:=
 I.retag hu nofun nofun nofun (λo' xs z=>by injection z with z1 z2;cases z2) (show ObjOk X.prog X.w H s.heap a (.frz o (.dK ks)) from I.hok a _ hu).2
end
theorem Si{P:YZ}{w:Yc}{k:Key}{u:YQ}(h:(i6 P w).is k u=true):RelV (kV k) u:=by
 rw[Fq]at h;cases k with
 | inl i=>cases u<;>first | (cases h;done) | (simp[Bc,Value.isInt]at h;subst h;exact⟨_,rfl⟩)
 | inr x=>cases u<;>first | (cases h;done) | (simp[Bc,Value.isStrOf]at h;subst h;exact⟨_,rfl⟩)
section
variable{X:Cx}{tg:Expr}
noncomputable def U5(H H':Hp):Prop:=∃ a o ks,H a=some (.frz o (.dK ks))/\H'=upd H a (.dK ks)
noncomputable def Ke(td ty tv:TE):TS:=λD σ H=>tv σ H λv H1=>td σ H1 λx H2=>ty σ H2 λy H3=>∃ a H3' H4,x = .ref a/\(H3'=H3\/U5 H3 H3')/\DPut H3' a y v H4/\D.nx σ H4
theorem Kf{o i value:Expr}{pos pos':Pos}{td ty tv:TE}(hu:X.A.units+1<cLine)(ho:PE X o td)(hi:PE X i ty)(hv:PE X value tv)(hs:Z8 value (some (.Subscript o i pos')) pos.line X.env=pure false):
 PS X (.Assign [.Subscript o i pos'] value pos) (Ke td ty tv):=by
 intro pins s σ H D I h;refine wpAny_Assign_Subscript (thn (hv pins s σ H _ I h) λr s1 ⟨v,H1,I1,rv,q1⟩=>thn (ho pins s1 σ H1 _ I1 q1) λu s2 ⟨x,H2,I2,rx,q2⟩=>thn (hi pins s2 σ H2 _ I2 q2) λiv s3 ⟨y,H3,I3,ry,a,H3',H4,ex,m,g,q3⟩=>?_) hs;subst ex;obtain rfl:u=Value.ref a:=rx
 have I3':Inv X pins σ H3' s3:=by
  rcases m with rfl | ⟨b,o',ks,e1,rfl⟩
  ·exact I3
  ·exact I3.melt e1
 exact Iy hu I3' g ry rv λs4 I4=>⟨σ,H4,I4,q3⟩
end
section
variable{prog:YZ}{w:Yc}{A:Yf}{R:Result->YS->Prop}{I:YT}{fp wr:List YT}{G:Array A04->Array A04->Prop}{n:Nat}{P:Nat->YQ->Prop}{St:Nat->YS->Prop}
noncomputable def TupsAt(prog:YZ)(w:Yc)(h:Heap)(n:Nat)(ta:Nat->YT)(kv:Nat->Key×YQ):Prop:=∀ i,i<n->∃ key,(i6 prog w).is (kv i).1 key=true/\h.IsTuple (ta i) #[key,(kv i).2]
theorem TupsAt.keep{h h':Heap}{ta:Nat->YT}{kv:Nat->Key×YQ}(t:TupsAt prog w h n ta kv)(k:∀ i o,i<n->h.get? (ta i)=some o->h'.get? (ta i)=some o):TupsAt prog w h' n ta kv:=λi hi=>by
 obtain⟨key,hk,o,ho,r⟩:=t i hi;exact⟨key,hk,o,k i o hi ho,r⟩
end
end L2
set_option maxHeartbeats 2000000
namespace L2
open PySem PySem.Spec PyProof.Rows
theorem KV.at{κ:Type}{ks:List (κ×V)}{vs:List (κ×YQ)}(r:KV ks vs):∀{i:Nat} {p:κ×V},ks[i]?=some p->∃ v,vs[i]?=some (p.1,v)/\RelV p.2 v:=by
 intro i
 induction r generalizing i with
 | nil=>exact λh=>by simp at h
 | @cons a b _ _ h _ ih=>
   intro p hp;cases i with
   | zero=>cases hp;exact⟨b.2,by rw[h.1];rfl,h.2⟩
   | succ i=>exact ih hp
section
variable{X:Cx}{o:Expr}{apos cpos pos p:Pos}{td:TE}
noncomputable def QZ(td:TE):TE:=λσ H Q=>td σ H λx H1=>∃ a ks,x = .ref a/\Rd H1 a (.dK ks)/\∀ p,H1 p=none->Q (.ref p) (upd H1 p (.lst (ks.map (·.2))))
theorem NR{κ:Type}{ks:List (κ×V)}{vs:List (κ×YQ)}(r:KV ks vs):Vals (ks.map (·.2)) (vs.map (·.2)):=by
 induction r with
 | nil=>exact .nil
 | cons h _ ih=>exact .cons h.2 ih
theorem Kg(hc:X.calm=true)(hg:Gl X "list")(hm:X.mg "list"=none)(hv:Yd "list"=some (.type "list"))(ho:PE X o td)
 (hbase:ZC o "values" X.env (eval o X.env)=eval o X.env:=by rfl) (hline:(apos.endLine == cpos.line)=true:=by rfl)
 (he:Yg [.Call (.Attribute o "values" apos) [] [] cpos] X.env=[(false,eval (.Call (.Attribute o "values" apos) [] [] cpos) X.env)]:=by rfl):
 PE X (.Call (.Name "list" p) [.Call (.Attribute o "values" apos) [] [] cpos] [] pos) (QZ td):=by
 intro pins s σ H Q I h;refine Ys (At I hg hm hv ?_);refine PyProof.Rows.callWith_type1 (rest:=[]) ?_ he rfl;rw[he];refine Calls.spliced_cons ?_;refine Zo hbase hline (thn (ho pins s σ H _ I h) λv s1 ⟨x,H1,I1,r1,a,ks,e,hd,q⟩=>?_);subst e;cases r1;obtain⟨hz,hsm,vs,kv,ob,es,ep,hob,hex,dat,keys,prs,nd⟩:=CH I1.hok hd;have hl:ks.length=vs.length:=KV.length kv;refine⟨"dict","dict.values",PySem.F.plainAttrs_dict,PySem.F.slot_dict_values,PySem.F.type_dict_values,⟨ob,hob,hex.1⟩,λb eb=>by cases eb;exact⟨ob,hob,hex.2.1⟩,Calls.callWith_builtin rfl (PySem.evalArgs_none ?_)⟩;refine ZX PySem.F.slot_dict_values ⟨ob,hob,hex.1⟩ PySem.F.entry_dict_values (PySem.F.args_dict_values_1 _) (meets_dict_values (i6 X.prog X.w) a hsm) ⟨⟨vs,ob,es,ep,hob,hex,dat,keys,prs,nd⟩,?_⟩;refine Calls.spliced_nil ?_;have dm:Heap.DictAt (i6 X.prog X.w) (s1.heap.push {cls := .type "dict_values",data := .fields #[.ref a]}) a vs ep:=⟨ob,es,UP _ hob,hex,dat,keys,prs,nd⟩
 refine PySem.W.kdl_call (A:=X.A) (PySem.W.kdl_values (knd:=i6 X.prog X.w) (kvs:=vs) (ep:=ep)) (I1.ok.hd hc) ⟨⟨_,UY _ rfl,rfl,rfl⟩,dm⟩ (by rw[<-hl];exact hz) λh' tk acc c k hS hacc=>?_;have I2:Inv X pins σ H1 {s1 with heap:=s1.heap.push {cls := .type "dict_values",data := .fields #[.ref a]}}:=I1.kept (t':=s1.toks) λb ob q=>UP _ q;have ea:acc.toList=vs.map (·.2):=PySem.W.kdl_vals_eq acc.toList (by rw[UU];exact hacc.1) λj v e=>hacc.2 j v (by rw[<-V0];exact e);exact⟨.ref _,upd H1 _ (.lst (ks.map (·.2))),I2.laid (t':=tk) (o := .lst (ks.map (·.2))) k (US _) ⟨by rw[UQ];exact hz,acc.toList,c,by rw[ea];exact NR kv,by rw[XO];exact hS⟩,rfl,q _ (I2.hok.fresh (US _))⟩
end
theorem Ha{α:Type}{f:α->V}:∀{ks:List α} {l:List YQ},l.length=ks.length->(∀(i:Nat) (p:α) (v:YQ),ks[i]?=some p->l[i]?=some v->RelV (f p) v)->Vals (ks.map f) l
 | [],[],_,_ => .nil
 | k::ks,v::l,e,h => .cons (h 0 k v rfl rfl) (Ha (YL.inj e) λi p u a b=>h (i+1) p u a b)
section
variable{X:Cx}
theorem GG(hc:X.calm=true):CallR X (.type "list") (λxs H Q=>∃(a:YT) (ks:List (Key×V)),xs=[.ref a]/\Rd H a (.dK ks)/\∀ l,H l=none->Q (.ref l) (upd H l (.lst (ks.map λp=>kV p.1)))):=by
 intro pins s σ H xs us Q I r h;obtain⟨a,ks,rfl,hd,q⟩:=h;obtain⟨u,rfl,rx⟩:=AS r;cases rx;obtain⟨hz,hsm,vs,kv,ob,es,ep,dm⟩:=CH I.hok hd;have hl:ks.length=vs.length:=KV.length kv;refine PySem.W.kdl_call (A:=X.A) (PySem.W.kdl_dict (knd:=i6 X.prog X.w) (kvs:=vs) (ep:=ep) hsm) (I.ok.hd hc) ⟨ob,es,dm⟩ (by rw[<-hl];exact hz) λh' tk acc c k hS hacc=>?_;refine⟨.ref _,upd H _ (.lst (ks.map λp=>kV p.1)),I.laid (t':=tk) (o := .lst (ks.map λp=>kV p.1)) k (US _) ⟨by rw[UQ];exact hz,acc.toList,c,?_,by rw[XO];exact hS⟩,rfl,q _ (I.hok.fresh (US _))⟩;refine Ha (by rw[UU,hl];exact hacc.1) λi p v hp hv=>?_;obtain⟨k',x,e1,e2⟩:=hacc.2 i v (by rw[<-V0];exact hv);obtain⟨w,e3,_⟩:=KV.at kv hp;rw[e1]at e3;cases e3;exact Si e2
end
end L2
namespace Srt
open PySem PyProof.Rows
noncomputable def Sg(xs:Array Keyed)(lo k:Nat):Prop:=∀ i j,i<=j->j<k->K xs (lo+i)<=K xs (lo+j)
noncomputable def Dg(xs:Array Keyed)(lo k:Nat):Prop:=∀ i j,i<=j->j<k->K xs (lo+j)<=K xs (lo+i)
structure Sb(a₀ a1:Array Keyed)(lo:Nat)(pd:Array (Nat×Nat×Nat))(st:SortSt):Prop where
 perm:(arrOf st).Perm a₀
 kind:kindOf st=Z4
 failed:Yl st=none
 pend:Ye st=pd
 pre:∀ i,i<lo->(arrOf st)[i]?=a1[i]?
section
variable{a₀ a1:Array Keyed}{lo:Nat}{pd:Array (Nat×Nat×Nat)}{st:SortSt}
theorem Sb.size(h:Sb a₀ a1 lo pd st):(arrOf st).size=a₀.size:=h.perm.size_eq
theorem Sb.put(h:Sb a₀ a1 lo pd st){xs:Array Keyed}(hp:xs.Perm (arrOf st))(hq:∀ i,i<lo->xs[i]?=(arrOf st)[i]?):Sb a₀ a1 lo pd (setArr st xs):=
 ⟨hp.trans h.perm,h.kind,h.failed,h.pend,λi hi=>(hq i hi).trans (h.pre i hi)⟩
theorem Sb.at(h:Sb a₀ a1 lo pd st)(h0:IntKeys a₀){i:Nat}(hi:i<a₀.size):∃ t q,(arrOf st)[i]?=some (.int (K (arrOf st) i) t,q):=
 SBase.at (a₀:=a₀) (st:=SortSt.mk' Z4 (arrOf st) #[] 0 none) ⟨h.perm,rfl,rfl,rfl⟩ h0 hi
theorem mir_pre{xs:Array Keyed}{i j k:Nat}(hj:j<=xs.size)(h:k<i):(mirror xs i j ((j - i) / 2))[k]?=xs[k]?:=by
 rw[ZV hj,iG (by omega)]
theorem bub_pre{xs:Array Keyed}{s d k:Nat}(hs:s<xs.size)(hd:d<=s)(h:k<s - d):(bubble xs s d)[k]?=xs[k]?:=by
 rw[Zy hs d hd,iG (by omega),iG (by omega)]
end
section
variable{prog:YZ}{w:Yc}{A:Yf}{E:YQ->YS->Prop}{s:YS}{a₀ a1:Array Keyed}{lo:Nat}{pd:Array (Nat×Nat×Nat)}
theorem lt_at{st:SortSt}{i j:Nat}{Q:Option Bool->SortSt->Prop}(hB:Sb a₀ a1 lo pd st)(h0:IntKeys a₀)(hi:i<a₀.size)(hj:j<a₀.size)
 (h:Q (some (decide (K (arrOf st) i<K (arrOf st) j))) st):wpS (YX prog w) A E s (ltAt' i j) Q st:=by
 obtain⟨t,p,e1⟩:=hB.at h0 hi;obtain⟨u,q,e2⟩:=hB.at h0 hj;exact wpS_ltAt hB.kind e1 e2 h
theorem ins_at{st:SortSt}{n ok:Nat}{Q:Bool->SortSt->Prop}(h0:IntKeys a₀)(hn:lo+n<=a₀.size)(hok:ok<=n)(hB:Sb a₀ a1 lo pd st)(hs:Sg (arrOf st) lo ok)
 (h:∀ st',Sb a₀ a1 lo pd st'->Sg (arrOf st') lo n->Q true st'):wpS (YX prog w) A E s (binarySort' lo n ok) Q st:=by
 rw[A0O]
 refine YU (Yq (Yj (I:=λk c st'=>c=(none,())/\Sb a₀ a1 lo pd st'/\Sg (arrOf st') lo (min k n))
  (Q:=λc st'=>c=(none,())/\Sb a₀ a1 lo pd st'/\Sg (arrOf st') lo n) ?one ?out ?ini) ?beh)
 case beh=>rintro c st' ⟨rfl,b,g⟩;exact YW (h st' b g)
 case ini=>
  refine⟨rfl,hB,λi j hij hj=>?_⟩;rcases WU ok with z | z
  ·rw[show i=j by omega];exact VM _
  ·exact hs i j hij (by omega)
 case out=>
  rintro c st' ⟨e,b,g⟩;rw[show min (max (max ok 1) n) n=n by omega]at g;exact⟨e,b,g⟩
 case one=>
  rintro k c st' a b ⟨rfl,hb,g⟩;rw[show min k n=k by omega]at g;have hk:lo+k<a₀.size:=by omega
  refine YU (Yq (Yj (I:=λx c z=>z=st'/\∃ l r,c=(none,l,r)/\l<=r/\r<=k/\r - l<=k - x/\(∀ i,i<l->K (arrOf st') (lo+i)<=K (arrOf st') (lo+k))/\∀ i,r<=i->i<k->K (arrOf st') (lo+k)<K (arrOf st') (lo+i))
   (Q:=λc z=>z=st'/\∃ l r,c=(none,l,r)/\l<=k/\(∀ i,i<l->K (arrOf st') (lo+i)<=K (arrOf st') (lo+k))/\∀ i,l<=i->i<k->K (arrOf st') (lo+k)<K (arrOf st') (lo+i)) ?i1 ?i2 ?i3) ?i4)
  case i3=>exact⟨rfl,0,k,rfl,by omega,by omega,by omega,λi hi=>by omega,λi h1 h2=>by omega⟩
  case i2=>
   rintro c z ⟨rfl,l,r,rfl,h1,h2,h3,h4,h5⟩;rw[show r=l by omega]at h5;exact⟨rfl,l,r,rfl,by omega,h4,h5⟩
  case i1=>
   rintro x c z _ hx ⟨rfl,l,r,rfl,h1,h2,h3,h4,h5⟩;dsimp only;by_cases ge:l≥r
   ·rw[iP ge];rw[show r=l by omega]at h5;exact YW ⟨rfl,l,r,rfl,by omega,h4,h5⟩
   ·rw[iG ge];refine YU (lt_at hb h0 hk (by omega) ?_);by_cases y:K (arrOf z) (lo+k)<K (arrOf z) (lo+(l+r) / 2)
    ·simp only[y,decide_true,if_true];exact YW ⟨rfl,l,(l+r) / 2,rfl,by omega,by omega,by omega,h4,λi p q=>XZ y (g _ _ p q)⟩
    ·simp only[y,decide_false,V2,if_false];exact YW ⟨rfl,(l+r) / 2+1,r,rfl,by omega,by omega,by omega,λi p=>V5 (g i ((l+r) / 2) (by omega) (by omega)) (Wo.mp y),h5⟩
  case i4=>
   rintro c z ⟨rfl,l,r,rfl,h1,h4,h5⟩;show wpS _ _ _ _ (do moveDown' (lo+k) (lo+l);pure (ForInStep.yield (none,()))) _ _;rw[moveDown'_eq];have hz:lo+k<(arrOf z).size:=by rw[hb.size];exact hk
   refine YU (Yp (YW ⟨rfl,hb.put (bubble_perm _ _ _) (λi hi=>bub_pre hz (by omega) (by omega)),?_⟩));rw[show min (k+1) n=k+1 by omega];intro i j hij hj;show K (bubble (arrOf z) (lo+k) (lo+k - (lo+l))) (lo+i)<=K (bubble (arrOf z) (lo+k) (lo+k - (lo+l))) (lo+j);rw[K_bubble hz (by omega),K_bubble hz (by omega),show lo+k - (lo+k - (lo+l))=lo+l by omega];by_cases i1:i<l
   ·rw[iG (by omega),iG (by omega)];by_cases j1:j<l
    ·rw[iG (by omega),iG (by omega)];exact g _ _ hij (by omega)
    ·by_cases j2:j=l
     ·rw[iP (by omega)];exact h4 _ i1
     ·rw[iG (by omega),iP (by omega),show lo+j - 1=lo+(j - 1) by omega];exact g _ _ (by omega) (by omega)
   ·by_cases i2:i=l
    ·rw[iP (by omega)];by_cases j2:j=l
     ·rw[iP (by omega)];exact VM _
     ·rw[iG (by omega),iP (by omega),show lo+j - 1=lo+(j - 1) by omega];exact V6 (h5 _ (by omega) (by omega))
    ·rw[iG (by omega),iP (by omega),iG (by omega),iP (by omega),show lo+i - 1=lo+(i - 1) by omega,show lo+j - 1=lo+(j - 1) by omega];exact g _ _ (by omega) (by omega)
end
noncomputable def upL(lo a m:Nat):StateT SortSt Sem AscSt:=
 forIn [a:m] ((none,a):AscSt) λ_ c=>do
  match <- ltAt' (lo+c.2) (lo+c.2 - 1) with
  | some b=>if b=true then pure (.done (none,c.2)) else pure (.yield (none,c.2+1))
  | _=>pure (.done (some none,c.2))
noncomputable def endL(lo n m:Nat):StateT SortSt Sem (Option Nat):=do
 Yh lo (lo+n)
 let c <- upL lo n m
 match c.1 with
 | some r=>pure r
 | none=>pure (some c.2)
noncomputable def dnL(lo n m:Nat):StateT SortSt Sem DescSt:=
 forIn [n:m] ((none,n,0):DescSt) λ_ c=>do
  match <- ltAt' (lo+c.2.1) (lo+c.2.1 - 1) with
  | some b=>
    if b=true then
     if c.2.2>0 then do
      Yh (lo+c.2.1 - (c.2.2+1)) (lo+c.2.1)
      pure (.yield (none,c.2.1+1,0))
     else pure (.yield (none,c.2.1+1,0))
    else do
     match <- ltAt' (lo+c.2.1 - 1) (lo+c.2.1) with
     | some d=>if d=true then pure (.done (none,c.2.1,c.2.2)) else pure (.yield (none,c.2.1+1,c.2.2+1))
     | _=>pure (.done (some none,c.2.1,c.2.2))
  | _=>pure (.done (some none,c.2.1,c.2.2))
noncomputable def dpL(lo n m:Nat):StateT SortSt Sem (Option Nat):=do
 liftM (rule "list.sort.descending-run")
 let c <- dnL lo (n+1) m
 match c.1 with
 | some r=>pure r
 | none=>
   if c.2.2>0 then do
    Yh (lo+c.2.1 - (c.2.2+1)) (lo+c.2.1)
    endL lo c.2.1 m
   else endL lo c.2.1 m
theorem run_eq(lo m:Nat):A0z lo m=(do
 let c <- upL lo 1 m
 match c.1 with
 | some r=>pure r
 | none=>
   if (c.2 == m)=true then pure (some c.2)
   else if c.2>1 then do
    match <- ltAt' lo (lo+c.2 - 1) with
    | some b=>if b=true then pure (some c.2) else do
       Yh lo (lo+c.2)
       dpL lo c.2 m
    | _=>pure none
   else dpL lo c.2 m):=by
 rw[countRun'_eq];have e3:∀ n (f:PUnit->StateT SortSt Sem (Option Nat)),(∀ u,f u=(upL lo n m >>= λc=>match c.1 with | some r=>pure r | none=>pure (some c.2)))->(Yh lo (lo+n) >>= f)=endL lo n m:=λn f h=>congrArg (λk=>Yh lo (lo+n) >>= k) (funext h);have up:∀ n (f g:AscSt->StateT SortSt Sem (Option Nat)),(∀ r n,f (r,n)=g (r,n))->(upL lo n m >>= f)=(upL lo n m >>= g):=λn f g h=>congrArg (λk=>upL lo n m >>= k) (funext λc=>h c.1 c.2);have dn:∀ n (f g:DescSt->StateT SortSt Sem (Option Nat)),(∀ r n q,f (r,n,q)=g (r,n,q))->(dnL lo n m >>= f)=(dnL lo n m >>= g):=λn f g h=>congrArg (λk=>dnL lo n m >>= k) (funext λc=>h c.1 c.2.1 c.2.2)
 have dp:∀ n (f:PUnit->StateT SortSt Sem (Option Nat)),(∀ u,f u=(dnL lo (n+1) m >>= λc=>match c.1 with
  | some r=>pure r
  | none=>if c.2.2>0 then do
     Yh (lo+c.2.1 - (c.2.2+1)) (lo+c.2.1)
     endL lo c.2.1 m
    else endL lo c.2.1 m))->(liftM (rule "list.sort.descending-run") >>= f)=dpL lo n m:=λn f h=>congrArg (λk=>liftM (rule "list.sort.descending-run") >>= k) (funext h)
 refine up 1 _ _ λr n=>?_;cases r with
 | some r=>rfl
 | none=>
   dsimp only;split
   ·rfl
   ·split
    ·refine congrArg (λk=>ltAt' lo (lo+n - 1) >>= k) (funext λx=>?_);cases x with
     | none=>rfl
     | some b=>
       dsimp only;split
       ·rfl
       ·refine congrArg (λk=>Yh lo (lo+n) >>= k) (funext λu=>?_);refine dp n _ λu=>dn (n+1) _ _ λr n q=>?_;cases r with
        | some r=>rfl
        | none=>
          dsimp only;split
          ·refine congrArg (λk=>Yh (lo+n - (q+1)) (lo+n) >>= k) (funext λu=>?_);exact e3 n _ λu=>up n _ _ λr n=>by cases r<;>rfl
          ·exact e3 n _ λu=>up n _ _ λr n=>by cases r<;>rfl
    ·refine dp n _ λu=>dn (n+1) _ _ λr n q=>?_;cases r with
     | some r=>rfl
     | none=>
       dsimp only;split
       ·refine congrArg (λk=>Yh (lo+n - (q+1)) (lo+n) >>= k) (funext λu=>?_);exact e3 n _ λu=>up n _ _ λr n=>by cases r<;>rfl
       ·exact e3 n _ λu=>up n _ _ λr n=>by cases r<;>rfl
section
variable{prog:YZ}{w:Yc}{A:Yf}{E:YQ->YS->Prop}{s:YS}{a₀ a1:Array Keyed}{lo:Nat}{pd:Array (Nat×Nat×Nat)}
theorem rev_at{st:SortSt}{i j:Nat}{Q:Unit->SortSt->Prop}(h:Q () (setArr st (mirror (arrOf st) i j ((j - i) / 2)))):wpS (YX prog w) A E s (Yh i j) Q st:=by
 rw[A0A];exact Yp h
theorem Sb.mir{st:SortSt}(hB:Sb a₀ a1 lo pd st){i j:Nat}(hi:lo<=i)(hj:j<=a₀.size):Sb a₀ a1 lo pd (setArr st (mirror (arrOf st) i j ((j - i) / 2))):=
 hB.put (mirror_perm _ _ _ _) λk hk=>mir_pre (by rw[hB.size];exact hj) (by omega)
theorem Sg.more{xs:Array Keyed}{x:Nat}(h:Sg xs lo x)(h1:1<=x)(hx:K xs (lo+x - 1)<=K xs (lo+x)):Sg xs lo (x+1):=λi j hij hj=>by
 by_cases z:j<x
 ·exact h i j hij z
 ·rw[show j=x by omega];by_cases y:i=x
  ·rw[y];exact VM _
  ·refine V5 (h i (x - 1) (by omega) (by omega)) ?_;rw[show lo+(x - 1)=lo+x - 1 by omega];exact hx
theorem Dg.more{xs ys:Array Keyed}{x:Nat}(h:Dg xs lo x)(e:∀ k,K ys k=K xs k)(h1:1<=x)(hx:K xs (lo+x)<=K xs (lo+x - 1)):Dg ys lo (x+1):=λi j hij hj=>by
 rw[e,e];by_cases z:j<x
 ·exact h i j hij z
 ·rw[show j=x by omega];by_cases y:i=x
  ·rw[y];exact VM _
  ·have:=h i (x - 1) (by omega) (by omega);rw[show lo+(x - 1)=lo+x - 1 by omega]at this;exact V5 hx this
theorem up_at{st:SortSt}{a m:Nat}{Q:AscSt->SortSt->Prop}(h0:IntKeys a₀)(hm:lo+m<=a₀.size)(ha:1<=a)(ham:a<=m)(hB:Sb a₀ a1 lo pd st)(hs:Sg (arrOf st) lo a)
 (h:∀ n,a<=n->n<=m->Sg (arrOf st) lo n->(n=m\/K (arrOf st) (lo+n)<K (arrOf st) (lo+n - 1))->Q (none,n) st):wpS (YX prog w) A E s (upL lo a m) Q st:=by
 unfold upL;refine Yj (I:=λx c z=>z=st/\c=(none,x)/\Sg (arrOf st) lo x) (λx c z hx hxm=>?_) (λc z=>?_) ⟨rfl,rfl,hs⟩
 ·rintro⟨rfl,rfl,g⟩;refine YU (lt_at hB h0 (by omega) (by omega) ?_);by_cases y:K (arrOf z) (lo+x)<K (arrOf z) (lo+x - 1)
  ·simp only[y,decide_true,if_true];exact YW (h x hx (by omega) g (.inr y))
  ·simp only[y,decide_false,V2,if_false];exact YW ⟨rfl,rfl,g.more (by omega) (Wo.mp y)⟩
 ·rintro⟨rfl,rfl,g⟩;rw[show max a m=m by omega]at g ⊢;exact h m ham (US _) g (.inl rfl)
theorem end_at{st:SortSt}{n m:Nat}{Q:Option Nat->SortSt->Prop}(h0:IntKeys a₀)(hm:lo+m<=a₀.size)(h1:1<=n)(hnm:n<=m)(hB:Sb a₀ a1 lo pd st)(hs:Dg (arrOf st) lo n)
 (h:∀ k st',Sb a₀ a1 lo pd st'->1<=k->k<=m->Sg (arrOf st') lo k->Q (some k) st'):wpS (YX prog w) A E s (endL lo n m) Q st:=by
 unfold endL;have hz:lo+n<=(arrOf st).size:=by rw[hB.size];omega
 have hB':=hB.mir (i:=lo) (j:=lo+n) (US _) (by omega);refine YU (rev_at (YU (up_at h0 hm h1 hnm hB' (λi j hij hj=>?_) λk k1 k2 g _=>YW (h k _ hB' (by omega) k2 g))));show K (mirror (arrOf st) lo (lo+n) _) (lo+i)<=K (mirror (arrOf st) lo (lo+n) _) (lo+j);rw[K_mirror hz,K_mirror hz,iP (by omega),iP (by omega)];have:=hs (n - 1 - j) (n - 1 - i) (by omega) (by omega);rw[show lo+(n - 1 - j)=lo+(lo+n) - 1 - (lo+j) by omega,show lo+(n - 1 - i)=lo+(lo+n) - 1 - (lo+i) by omega]at this;exact this
theorem dn_at{st:SortSt}{n m:Nat}{Q:DescSt->SortSt->Prop}(h0:IntKeys a₀)(hm:lo+m<=a₀.size)(h1:1<=n)(hnm:n<=m)(hB:Sb a₀ a1 lo pd st)(hs:Dg (arrOf st) lo n)
 (h:∀ x q st',Sb a₀ a1 lo pd st'->n<=x->x<=m->Dg (arrOf st') lo x->q+1<=x->(∀ i,lo+x - (q+1)<=i->i<lo+x->K (arrOf st') i=K (arrOf st') (lo+x - 1))->Q (none,x,q) st'):wpS (YX prog w) A E s (dnL lo n m) Q st:=by
 unfold dnL;refine Yj (I:=λx c z=>∃ q,c=(none,x,q)/\Sb a₀ a1 lo pd z/\Dg (arrOf z) lo x/\q+1<=x/\∀ i,lo+x - (q+1)<=i->i<lo+x->K (arrOf z) i=K (arrOf z) (lo+x - 1)) (λx c z hx hxm=>?_) (λc z=>?_) ⟨0,rfl,hB,hs,by omega,λi a b=>by congr 1;omega⟩
 ·rintro⟨q,rfl,hb,g,hq,he⟩;have hz:lo+x<=(arrOf z).size:=by rw[hb.size];omega
  dsimp only;refine YU (lt_at hb h0 (by omega) (by omega) ?_);by_cases y:K (arrOf z) (lo+x)<K (arrOf z) (lo+x - 1)
  ·simp only[y,decide_true,if_true];by_cases p:q>0
   ·rw[iP p];exact YU (rev_at (YW ⟨0,rfl,hb.mir (by omega) (by omega),g.more (Zf hz he) (by omega) (V6 y),by omega,λi a b=>by congr 1;omega⟩))
   ·rw[iG p];exact YW ⟨0,rfl,hb,g.more (λ_=>rfl) (by omega) (V6 y),by omega,λi a b=>by congr 1;omega⟩
  ·simp only[y,decide_false,V2,if_false];refine YU (lt_at hb h0 (by omega) (by omega) ?_);by_cases v:K (arrOf z) (lo+x - 1)<K (arrOf z) (lo+x)
   ·simp only[v,decide_true,if_true];exact YW (h x q z hb hx (by omega) g hq he)
   ·simp only[v,decide_false,V2,if_false];have e:K (arrOf z) (lo+x)=K (arrOf z) (lo+x - 1):=by omega
    refine YW ⟨q+1,rfl,hb,g.more (λ_=>rfl) (by omega) (by omega),by omega,λi a b=>?_⟩;rw[show lo+(x+1) - 1=lo+x by omega];by_cases u:i=lo+x
    ·rw[u]
    ·rw[e];exact he i (by omega) (by omega)
 ·rintro⟨q,rfl,hb,g,hq,he⟩;rw[show max n m=m by omega]at g hq he ⊢;exact h m q z hb hnm (US _) g hq he
theorem dp_at{st:SortSt}{n m:Nat}{Q:Option Nat->SortSt->Prop}(h0:IntKeys a₀)(hm:lo+m<=a₀.size)(hnm:n+1<=m)(hB:Sb a₀ a1 lo pd st)(hs:Dg (arrOf st) lo (n+1))
 (h:∀ k st',Sb a₀ a1 lo pd st'->1<=k->k<=m->Sg (arrOf st') lo k->Q (some k) st'):wpS (YX prog w) A E s (dpL lo n m) Q st:=by
 unfold dpL;refine YU (ZO (Yy ⟨rfl,?_⟩));refine YU (dn_at h0 hm (by omega) hnm hB hs λx q st' hb hx1 hx2 g hq he=>?_);have hz:lo+x<=(arrOf st').size:=by rw[hb.size];omega
 dsimp only;by_cases p:q>0
 ·rw[iP p];refine YU (rev_at (end_at h0 hm (by omega) hx2 (hb.mir (by omega) (by omega)) (λi j hij hj=>?_) h));show K (mirror (arrOf st') _ _ _) (lo+j)<=K (mirror (arrOf st') _ _ _) (lo+i);rw[Zf hz he,Zf hz he];exact g i j hij hj
 ·rw[iG p];exact end_at h0 hm (by omega) hx2 hb g h
theorem run_at{st:SortSt}{m:Nat}{Q:Option Nat->SortSt->Prop}(h0:IntKeys a₀)(hm:lo+m<=a₀.size)(h1:1<=m)(hB:Sb a₀ a1 lo pd st)
 (h:∀ k st',Sb a₀ a1 lo pd st'->1<=k->k<=m->Sg (arrOf st') lo k->Q (some k) st'):wpS (YX prog w) A E s (A0z lo m) Q st:=by
 rw[run_eq];refine YU (up_at h0 hm (US 1) h1 hB (λi j hij hj=>by rw[show i=j by omega];exact VM _) λn n1 n2 g hor=>?_);dsimp only;by_cases e:n=m
 ·rw[iP (by simpa using e)];exact YW (h n st hB n1 n2 g)
 ·rw[iG (by simpa using e)];have hlt:=hor.resolve_left e;by_cases z:n>1
  ·rw[iP z];refine YU (lt_at hB h0 (by omega) (by omega) ?_);by_cases y:K (arrOf st) lo<K (arrOf st) (lo+n - 1)
   ·simp only[y,decide_true,if_true];exact YW (h n st hB n1 n2 g)
   ·simp only[y,decide_false,V2,if_false];have hz:lo+n<=(arrOf st).size:=by rw[hB.size];omega
    have al:∀ k,lo<=k->k<lo+n->K (arrOf st) k=K (arrOf st) (lo+n - 1):=λk a b=>by
     have p:=g 0 (k - lo) (by omega) (by omega);have q:=g (k - lo) (n - 1) (by omega) (by omega);rw[show lo+(k - lo)=k by omega]at p q;rw[show lo+(n - 1)=lo+n - 1 by omega]at q;rw[Xi]at p;omega
    refine YU (rev_at (dp_at h0 hm (by omega) (hB.mir (US _) (by omega)) ?_ h));refine Dg.more (xs:=arrOf st) (λi j hij hj=>?_) (Zf hz al) (by omega) (V6 hlt);rw[al _ (by omega) (by omega),al (lo+i) (by omega) (by omega)];exact VM _
  ·rw[iG z];have:n=1:=by omega
   subst this;refine dp_at h0 hm (by omega) hB ?_ h;exact Dg.more (xs:=arrOf st) (λi j hij hj=>by rw[show i=j by omega];exact VM _) (λ_=>rfl) (US _) (V6 hlt)
end
noncomputable def Er:Bool->Keyed->Array Keyed->Nat->Nat->Nat->StateT SortSt Sem (Option Nat):=sortPriv% PySem.Builtin.gallop
noncomputable abbrev GS:=Option (Option Nat)×Nat×Nat
noncomputable def bey(l:Bool)(k:Keyed)(a:Array Keyed)(o i:Nat):StateT SortSt Sem (Option Bool):=do
 let x <- elem' a (o+i)
 if l=true then lt' x k else do
  let r <- lt' k x
  pure (r.map λb=>!b)
noncomputable def NS(f:Nat->StateT SortSt Sem (Option Bool))(n lo hi:Nat):StateT SortSt Sem GS:=
 forIn [:n] ((none,lo,hi):GS) λ_ c=>if c.2.1≥c.2.2 then pure (.done (none,c.2.1,c.2.2)) else do
  match <- f (c.2.1+(c.2.2 - c.2.1) / 2) with
  | some b=>if b=true then pure (.yield (none,c.2.1+(c.2.2 - c.2.1) / 2+1,c.2.2)) else pure (.yield (none,c.2.1,c.2.1+(c.2.2 - c.2.1) / 2))
  | _=>pure (.done (some none,c.2.1,c.2.2))
noncomputable def NT(f:Nat->StateT SortSt Sem (Option Bool))(n lo hi:Nat):StateT SortSt Sem (Option Nat):=do
 let c <- NS f n lo hi
 match c.1 with
 | some r=>pure r
 | none=>pure (some c.2.2)
noncomputable def Qa(f:Nat->StateT SortSt Sem (Option Bool))(n h:Nat):StateT SortSt Sem GS:=
 forIn [:n] ((none,0,1):GS) λ_ c=>if c.2.2≥n - h then pure (.done (none,c.2.1,c.2.2)) else do
  match <- f (h+c.2.2) with
  | some b=>if (!b)=true then pure (.done (none,c.2.1,c.2.2)) else pure (.yield (none,c.2.2,2 * c.2.2+1))
  | _=>pure (.done (some none,c.2.1,c.2.2))
noncomputable def Qb(f:Nat->StateT SortSt Sem (Option Bool))(n h:Nat):StateT SortSt Sem GS:=
 forIn [:n] ((none,0,1):GS) λ_ c=>if c.2.2≥h+1 then pure (.done (none,c.2.1,c.2.2)) else do
  match <- f (h - c.2.2) with
  | some b=>if b=true then pure (.done (none,c.2.1,c.2.2)) else pure (.yield (none,c.2.2,2 * c.2.2+1))
  | _=>pure (.done (some none,c.2.1,c.2.2))
noncomputable def NU(f:Nat->StateT SortSt Sem (Option Bool))(n h:Nat):StateT SortSt Sem (Option Nat):=do
 match <- f h with
 | some r=>
   if r=true then do
    let c <- Qa f n h
    match c.1 with
    | some r=>pure r
    | none=>NT f n (h+c.2.1+1) (h+min c.2.2 (n - h))
   else do
    let c <- Qb f n h
    match c.1 with
    | some r=>pure r
    | none=>NT f n (h+1 - min c.2.2 (h+1)) (h - c.2.1)
 | _=>pure none
theorem Qc(l:Bool)(k:Keyed)(a:Array Keyed)(o n h:Nat):Er l k a o n h=NU (bey l k a o) n h:=by
 unfold NU;refine congrArg (λg=>bey l k a o h >>= g) (funext λx=>?_);cases x with
 | none=>rfl
 | some r=>
   cases r with
   | true=>
     refine congrArg (λg=>Qa (bey l k a o) n h >>= g) (funext λc=>?_);obtain⟨c,d,e⟩:=c;cases c with
     | some r=>rfl
     | none=>
       refine congrArg (λg=>NS (bey l k a o) n (h+d+1) (h+min e (n - h)) >>= g) (funext λc=>?_);obtain⟨c,d,e⟩:=c;cases c<;>rfl
   | false=>
     refine congrArg (λg=>Qb (bey l k a o) n h >>= g) (funext λc=>?_);obtain⟨c,d,e⟩:=c;cases c with
     | some r=>rfl
     | none=>
       refine congrArg (λg=>NS (bey l k a o) n (h+1 - min e (h+1)) (h - d) >>= g) (funext λc=>?_);obtain⟨c,d,e⟩:=c;cases c<;>rfl
section
variable{prog:YZ}{w:Yc}{A:Yf}{E:YQ->YS->Prop}{s:YS}
noncomputable def PK(prog:YZ)(w:Yc)(A:Yf)(E:YQ->YS->Prop)(s:YS)(f:Nat->StateT SortSt Sem (Option Bool))(b:Nat->Bool)(n:Nat)(st:SortSt):Prop:=
 ∀ i,i<n->∀ Q:Option Bool->SortSt->Prop,Q (some (b i)) st->wpS (YX prog w) A E s (f i) Q st
structure Many(b:Nat->Bool)(n k:Nat):Prop where
 le:k<=n
 yes:∀ i,i<k->b i=true
 no:∀ i,k<=i->i<n->b i=false
theorem Kh{f:Nat->StateT SortSt Sem (Option Bool)}{b:Nat->Bool}{n lo hi:Nat}{st:SortSt}{Q:Option Nat->SortSt->Prop}(hf:PK prog w A E s f b n st)(mono:∀ i j,i<=j->b j=true->b i=true)(h1:lo<=hi)(h2:hi<=n)(y:∀ i,i<lo->b i=true)(z:∀ i,hi<=i->i<n->b i=false)
 (q:∀ k,Many b n k->Q (some k) st):wpS (YX prog w) A E s (NT f n lo hi) Q st:=by
 unfold NT NS
 refine YU (Yq (Yj (I:=λx c t=>t=st/\∃ l r,c=(none,l,r)/\l<=r/\r<=n/\r - l<=n - x/\(∀ i,i<l->b i=true)/\∀ i,r<=i->i<n->b i=false)
  (Q:=λc t=>t=st/\∃ l r,c=(none,l,r)/\Many b n r) ?a ?b ⟨rfl,lo,hi,rfl,h1,h2,by omega,y,z⟩) ?c)
 case a=>
  rintro x c t _ hx ⟨rfl,l,r,rfl,a1,a2,a3,a4,a5⟩;dsimp only;by_cases g:l≥r
  ·rw[iP g];exact YW ⟨rfl,l,r,rfl,a2,λi hi=>a4 i (by omega),a5⟩
  ·rw[iG g];refine YU (hf (l+(r - l) / 2) (by omega) _ ?_);cases e:b (l+(r - l) / 2) with
   | true=>exact YW ⟨rfl,_,r,rfl,by omega,a2,by omega,λi hi=>mono i _ (by omega) e,a5⟩
   | false=>
     refine YW ⟨rfl,l,_,rfl,by omega,by omega,by omega,a4,λi hi hn=>?_⟩;cases e':b i with
     | false=>rfl
     | true=>rw[mono _ i hi e']at e;cases e
 case b=>
  rintro c t ⟨rfl,l,r,rfl,a1,a2,a3,a4,a5⟩;have:l=r:=by omega
  subst this;exact⟨rfl,l,l,rfl,a2,a4,a5⟩
 case c=>
  rintro c t ⟨rfl,l,r,rfl,m⟩;exact YW (q r m)
theorem Qd{f:Nat->StateT SortSt Sem (Option Bool)}{b:Nat->Bool}{n h:Nat}{st:SortSt}{Q:Option Nat->SortSt->Prop}(hf:PK prog w A E s f b n st)(mono:∀ i j,i<=j->b j=true->b i=true)(hn:h<n)
 (q:∀ k,Many b n k->Q (some k) st):wpS (YX prog w) A E s (NU f n h) Q st:=by
 have anti:∀ i j,i<=j->b i=false->b j=false:=λi j hij e=>by
  cases e':b j with
  | false=>rfl
  | true=>rw[mono i j hij e']at e;cases e
 unfold NU;refine YU (hf h hn _ ?_);cases e:b h with
 | true=>
   dsimp only;rw[iP rfl];unfold Qa
   refine YU (Yq (Yj (I:=λx c t=>t=st/\∃ l o,c=(none,l,o)/\l<o/\x+1<=o/\l<n - h/\b (h+l)=true)
    (Q:=λc t=>t=st/\∃ l o,c=(none,l,o)/\l<o/\l<n - h/\b (h+l)=true/\(n - h<=o\/b (h+o)=false)) ?a ?b ⟨rfl,0,1,rfl,by omega,by omega,by omega,e⟩) ?c)
   case a=>
    rintro x c t _ hx ⟨rfl,l,o,rfl,a1,a2,a3,a4⟩;dsimp only;by_cases g:o≥n - h
    ·rw[iP g];exact YW ⟨rfl,l,o,rfl,a1,a3,a4,.inl g⟩
    ·rw[iG g];refine YU (hf (h+o) (by omega) _ ?_);cases e':b (h+o) with
     | true=>exact YW ⟨rfl,o,_,rfl,by omega,by omega,by omega,e'⟩
     | false=>exact YW ⟨rfl,l,o,rfl,a1,a3,a4,.inr e'⟩
   case b=>
    rintro c t ⟨rfl,l,o,rfl,a1,a2,a3,a4⟩;exact⟨rfl,l,o,rfl,a1,a3,a4,.inl (by omega)⟩
   case c=>
    rintro c t ⟨rfl,l,o,rfl,a1,a3,a4,a5⟩;dsimp only;refine Kh hf mono (by omega) (by omega) (λi hi=>mono i _ (by omega) a4) (λi hi hn'=>?_) q;rcases a5 with z | z
    ·omega
    ·exact anti _ i (by omega) z
 | false=>
   dsimp only;rw[iG (by decide)];unfold Qb
   refine YU (Yq (Yj (I:=λx c t=>t=st/\∃ l o,c=(none,l,o)/\l<o/\x+1<=o/\l<=h/\b (h - l)=false)
    (Q:=λc t=>t=st/\∃ l o,c=(none,l,o)/\l<o/\l<=h/\b (h - l)=false/\(h+1<=o\/b (h - o)=true)) ?a ?b ⟨rfl,0,1,rfl,by omega,by omega,by omega,e⟩) ?c)
   case a=>
    rintro x c t _ hx ⟨rfl,l,o,rfl,a1,a2,a3,a4⟩;dsimp only;by_cases g:o≥h+1
    ·rw[iP g];exact YW ⟨rfl,l,o,rfl,a1,a3,a4,.inl g⟩
    ·rw[iG g];refine YU (hf (h - o) (by omega) _ ?_);cases e':b (h - o) with
     | true=>exact YW ⟨rfl,l,o,rfl,a1,a3,a4,.inr e'⟩
     | false=>exact YW ⟨rfl,o,_,rfl,by omega,by omega,by omega,e'⟩
   case b=>
    rintro c t ⟨rfl,l,o,rfl,a1,a2,a3,a4⟩;exact⟨rfl,l,o,rfl,a1,a3,a4,.inl (by omega)⟩
   case c=>
    rintro c t ⟨rfl,l,o,rfl,a1,a3,a4,a5⟩;dsimp only;refine Kh hf mono (by omega) (by omega) (λi hi=>?_) (λi hi hn'=>anti _ i (by omega) a4) q;rcases a5 with z | z
    ·omega
    ·exact mono i _ (by omega) z
end
noncomputable def nk(p:Keyed):Int:=numOf p.1
noncomputable def Ik(p:Keyed):Prop:=∃ n t,p.1 = .int n t
noncomputable def Up(l:List Keyed):Prop:=l.Pairwise λx y=>nk x<=nk y
structure Res(A B r:List Keyed):Prop where
 pm:r.Perm (A++B)
 so:Up r
structure Mi(A B O:List Keyed)(i j:Nat):Prop where
 pm:O.Perm (A.take i++B.take j)
 so:Up O
 la:∀ x∈O,∀ y∈A.drop i,nk x<=nk y
 lb:∀ x∈O,∀ y∈B.drop j,nk x<=nk y
section
variable{A B O:List Keyed}{i j:Nat}
theorem Up.app{l m:List Keyed}(a:Up l)(b:Up m)(h:∀ x∈l,∀ y∈m,nk x<=nk y):Up (l++m):=W6.mpr ⟨a,b,h⟩
theorem Up.get{l:List Keyed}(a:Up l){i j:Nat}{x y:Keyed}(hi:l[i]?=some x)(hj:l[j]?=some y)(hij:i<=j):nk x<=nk y:=by
 obtain⟨h1,rfl⟩:=gM hi;obtain⟨h2,rfl⟩:=gM hj;rcases W5 i j with z | z
 ·exact(W0.mp a) i j h1 h2 z
 ·have:i=j:=by omega
  subst this;exact VM _
theorem m7{l:List Keyed}{i:Nat}{y:Keyed}(h:y∈l.drop i):∃ k,i<=k/\l[k]?=some y:=by
 obtain⟨k,hk⟩:=XH.mp h;rw[Vq]at hk;exact⟨i+k,by omega,hk⟩
theorem n4{l:List Keyed}{i:Nat}{y:Keyed}(h:y∈l.take i):∃ k,k<i/\l[k]?=some y:=by
 obtain⟨k,hk⟩:=XH.mp h;rw[Wp]at hk;split at hk
 ·rename_i z;exact⟨k,z,hk⟩
 ·cases hk
theorem Ag{l:List Keyed}{i:Nat}{x:Keyed}(h:l[i]?=some x):l.drop i=x::l.drop (i+1):=by
 obtain⟨h1,rfl⟩:=gM h;exact W1 h1
theorem Ah{l:List Keyed}{i:Nat}{x:Keyed}(h:l[i]?=some x):l.take (i+1)=l.take i++[x]:=by rw[VP,h];rfl
theorem Mi.pushA(M:Mi A B O i j)(hA:Up A){x:Keyed}(hx:A[i]?=some x)(h:∀ y∈B.drop j,nk x<=nk y):Mi A B (O++[x]) (i+1) j:=by
 have dx:=Ag hx;refine⟨?_,M.so.app (WX _ _) λa ha b hb=>?_,λa ha y hy=>?_,λa ha y hy=>?_⟩
 ·rw[Ah hx,Ui];refine(M.pm.append_right [x]).trans ?_;rw[Ui];exact List.Perm.append_left _ Vz
 ·rw[UT.mp hb];exact M.la a ha x (by rw[dx];exact Uh ..)
 ·rcases Ul.mp ha with ha | ha
  ·exact M.la a ha y (by rw[dx];exact Uc _ hy)
  ·rw[UT.mp ha];obtain⟨k,hk,e⟩:=m7 hy;exact hA.get hx e (by omega)
 ·rcases Ul.mp ha with ha | ha
  ·exact M.lb a ha y hy
  ·rw[UT.mp ha];exact h y hy
theorem Mi.pushB(M:Mi A B O i j)(hB:Up B){x:Keyed}(hx:B[j]?=some x)(h:∀ y∈A.drop i,nk x<=nk y):Mi A B (O++[x]) i (j+1):=by
 have dx:=Ag hx;refine⟨?_,M.so.app (WX _ _) λa ha b hb=>?_,λa ha y hy=>?_,λa ha y hy=>?_⟩
 ·rw[Ah hx,<-Ui];exact M.pm.append_right [x]
 ·rw[UT.mp hb];exact M.lb a ha x (by rw[dx];exact Uh ..)
 ·rcases Ul.mp ha with ha | ha
  ·exact M.la a ha y hy
  ·rw[UT.mp ha];exact h y hy
 ·rcases Ul.mp ha with ha | ha
  ·exact M.lb a ha y (by rw[dx];exact Uc _ hy)
  ·rw[UT.mp ha];obtain⟨k,hk,e⟩:=m7 hy;exact hB.get hx e (by omega)
theorem Mi.moreA(hA:Up A)(M:Mi A B O i j):∀ k,i+k<=A.length->(∀ t x,t<k->A[i+t]?=some x->∀ y∈B.drop j,nk x<=nk y)->Mi A B (O++(A.drop i).take k) (i+k) j
 | 0,_,_=>by rw[Y1,VF];exact M
 | k+1,hk,h=>by
   have ih:=Mi.moreA hA M k (by omega) λt x ht=>h t x (by omega);have hx:=UM (show i+k<A.length by omega);have:=ih.pushA hA hx (h k _ (by omega) hx);rw[Ui]at this;have e:(A.drop i).take (k+1)=(A.drop i).take k++[A[i+k]]:=by rw[VP,Vq,hx];rfl
   rw[e];exact this
theorem Mi.moreB(hB:Up B)(M:Mi A B O i j):∀ k,j+k<=B.length->(∀ t x,t<k->B[j+t]?=some x->∀ y∈A.drop i,nk x<=nk y)->Mi A B (O++(B.drop j).take k) i (j+k)
 | 0,_,_=>by rw[Y1,VF];exact M
 | k+1,hk,h=>by
   have ih:=Mi.moreB hB M k (by omega) λt x ht=>h t x (by omega);have hx:=UM (show j+k<B.length by omega);have:=ih.pushB hB hx (h k _ (by omega) hx);rw[Ui]at this;have e:(B.drop j).take (k+1)=(B.drop j).take k++[B[j+k]]:=by rw[VP,Vq,hx];rfl
   rw[e];exact this
theorem CP{l:List Keyed}(h:Up l)(i:Nat):Up (l.drop i):=List.Pairwise.sublist (List.drop_sublist i l) h
theorem Mi.done(M:Mi A B O i j)(hA:Up A)(hj:B.length<=j):Res A B (O++A.drop i):=by
 refine⟨?_,M.so.app (CP hA i) M.la⟩;have p:=M.pm;rw[VV hj]at p;refine(p.append_right _).trans ?_;rw[Ui];refine(List.Perm.append_left _ Vz).trans ?_;rw[<-Ui,Va]
theorem Mi.last(M:Mi A B O i j)(hB:Up B){x:Keyed}(hx:A[i]?=some x)(hi:i+1=A.length)(h:∀ y∈B,nk y<=nk x):Res A B (O++B.drop j++A.drop i):=by
 have dx:=Ag hx;rw[show A.drop (i+1)=[] from XA (by omega)]at dx;rw[dx];refine⟨?_,(M.so.app (CP hB j) M.lb).app (WX _ _) λa ha b hb=>?_⟩
 ·have p:=M.pm;have tA:A.take i++[x]=A:=by rw[<-Ah hx,VV (by omega)]
  refine((p.append_right (B.drop j)).append_right [x]).trans ?_;rw[Ui (A.take i),Va,Ui];refine(List.Perm.append_left _ Vz).trans ?_;rw[<-Ui,tA]
 ·rw[UT.mp hb];rcases Ul.mp ha with ha | ha
  ·exact M.la a ha x (by rw[dx];exact List.mem_singleton_self _)
  ·exact h a (XQ ha)
end
section
variable{prog:YZ}{w:Yc}{A:Yf}{E:YQ->YS->Prop}{s:YS}
theorem Hb{st:SortSt}{x y:Keyed}{Q:Option Bool->SortSt->Prop}(hx:Ik x)(hy:Ik y)(hk:kindOf st=Z4)(h:Q (some (decide (nk x<nk y))) st):wpS (YX prog w) A E s (lt' x y) Q st:=by
 obtain⟨a,t,ea⟩:=hx;obtain⟨b,u,eb⟩:=hy;obtain⟨x1,x2⟩:=x;obtain⟨y1,y2⟩:=y;cases ea;cases eb;rw[lt'_eq];refine YU (wpS_get ?_);rw[hk,A0P];refine YU (ZO (ZQ (oneLt_int ⟨rfl,?_⟩)));exact YW h
theorem u6{st:SortSt}{a:Array Keyed}{i:Nat}{x:Keyed}{Q:Keyed->SortSt->Prop}(h:a.toList[i]?=some x)(q:Q x st):wpS (YX prog w) A E s (elem' a i) Q st:=by
 have e:a[i]?=some x:=by rw[<-V0];exact h
 rw[elem'_eq,e];exact YW q
noncomputable def bB(l:Bool)(k:Keyed)(L:List Keyed)(o n i:Nat):Bool:=match L[o+i]? with
 | some x=>decide (i<n)&&if l then decide (nk x<nk k) else !decide (nk k<nk x)
 | none=>false
theorem NV{l:Bool}{k:Keyed}{L:List Keyed}{o n:Nat}(hL:∀ i j x y,o<=i->i<=j->j<o+n->L[i]?=some x->L[j]?=some y->nk x<=nk y)(hn:o+n<=L.length):∀ i j,i<=j->bB l k L o n j=true->bB l k L o n i=true:=by
 intro i j hij h;unfold bB at h ⊢;cases hj:L[o+j]? with
 | none=>rw[hj]at h;cases h
 | some y=>
   rw[hj]at h;simp only[UN,dQ]at h;have hi:=UM (show o+i<L.length by omega);rw[hi];have:=hL _ _ _ _ (by omega) (by omega) (by omega) hi hj;simp only[UN,dQ];refine⟨by omega,?_⟩;cases l with
   | true=>simp only[if_true,dQ]at h ⊢;omega
   | false=>simp only[V2,if_false,Uu,decide_eq_false_iff_not]at h ⊢;omega
theorem Dj{st:SortSt}{l:Bool}{k:Keyed}{a:Array Keyed}{o n h:Nat}{Q:Option Nat->SortSt->Prop}(hk:kindOf st=Z4)(ik:Ik k)(ia:∀ x∈a.toList,Ik x)(hL:∀ i j x y,o<=i->i<=j->j<o+n->a.toList[i]?=some x->a.toList[j]?=some y->nk x<=nk y)(hn:o+n<=a.toList.length)(hh:h<n)
 (q:∀ c,Many (bB l k a.toList o n) n c->Q (some c) st):wpS (YX prog w) A E s (Er l k a o n h) Q st:=by
 rw[Qc];refine Qd (b:=bB l k a.toList o n) (λi hi Q q=>?_) (NV hL hn) hh q;have hx:=UM (show o+i<a.toList.length by omega);unfold bey;refine YU (u6 hx ?_);have ix:=ia _ (UO hx);unfold bB at q;rw[hx]at q;cases l with
 | true=>
   rw[iP rfl];refine Hb ix ik hk ?_;simpa[hi] using q
 | false=>
   rw[iG (by decide)];refine YU (Hb ik ix hk (YW ?_));simpa[hi] using q
theorem t8{α:Type}{c:Prop}[Decidable c]{m1 m2:StateT SortSt Sem α}{Q:α->SortSt->Prop}{st:SortSt}(h1:c->wpS (YX prog w) A E s m1 Q st)(h2:¬c->wpS (YX prog w) A E s m2 Q st):wpS (YX prog w) A E s (if c then m1 else m2) Q st:=by
 split
 ·exact h1 ‹_›
 ·exact h2 ‹_›
theorem l7{α:Type}{c:Prop}[Decidable c]{m1 m2:StateT SortSt Sem α}{Q:α->SortSt->Prop}{st:SortSt}(h:c)(k:wpS (YX prog w) A E s m1 Q st):wpS (YX prog w) A E s (if c then m1 else m2) Q st:=by rw[iP h];exact k
theorem l8{α:Type}{c:Prop}[Decidable c]{m1 m2:StateT SortSt Sem α}{Q:α->SortSt->Prop}{st:SortSt}(h:¬c)(k:wpS (YX prog w) A E s m2 Q st):wpS (YX prog w) A E s (if c then m1 else m2) Q st:=by rw[iG h];exact k
end
noncomputable def Sj:Array Keyed->Array Keyed->StateT SortSt Sem (Array Keyed):=sortPriv% PySem.Builtin.mergeLo
structure Ks(st z:SortSt):Prop where
 k:kindOf z=kindOf st
 a:arrOf z=arrOf st
 p:Ye z=Ye st
 f:Yl z=Yl st
theorem Ks.refl(st:SortSt):Ks st st:=⟨rfl,rfl,rfl,rfl⟩
theorem Ks.gal{st z:SortSt}(h:Ks st z)(g:Nat):Ks st (SortSt.mk' (kindOf z) (arrOf z) (Ye z) g (Yl z)):=⟨h.k,h.a,h.p,h.f⟩
theorem A4(a:Array Keyed)(i j:Nat):(a.extract i j).toList=(a.toList.drop i).take (j - i):=by
 rw[Array.toList_extract,List.extract_eq_take_drop]
theorem EA(a:Array Keyed)(i:Nat):(a.extract i a.size).toList=a.toList.drop i:=by
 rw[A4,VV (by rw[Vx,UU];exact US _)]
theorem Mi.nil(A B:List Keyed):Mi A B [] 0 0:=⟨.nil,.nil,(λ_ h=>nomatch h),λ_ h=>nomatch h⟩
noncomputable abbrev LS:=Option (Array Keyed)×Array Keyed×Nat×Nat×Nat×Nat×Nat
noncomputable abbrev dn(a b o:Array Keyed)(i j:Nat):Array Keyed:=o++a.extract i a.size++b.extract j b.size
noncomputable abbrev ls(a b o:Array Keyed)(i j:Nat):Array Keyed:=o++b.extract j b.size++a.extract i a.size
noncomputable def loC(a b o:Array Keyed)(i j g m k:Nat):StateT SortSt Sem (ForInStep LS):=do
 let x <- elem' a i
 if (i+1+1 == a.size)=true then pure (.done (some (ls a b (o.push x) (i+1) j),o.push x,i+1,j,g,m,k))
 else if (decide (m<7)&&decide (k<7))=true then pure (.done (none,o.push x,i+1,j,g,m,k))
 else pure (.yield (none,o.push x,i+1,j,g,m,k))
noncomputable def loB(a b o:Array Keyed)(i j g m n:Nat):StateT SortSt Sem (ForInStep LS):=do
 let x <- elem' b j
 if (j+1 == b.size)=true then pure (.done (some (dn a b (o.push x) i (j+1)),o.push x,i,j+1,g,m,n)) else do
  let y <- elem' a i
  match <- Er true y b (j+1) (b.size - (j+1)) 0 with
  | some k=>(if k>0 then (if (j+1+k == b.size)=true then pure (.done (some (dn a b (o.push x++b.extract (j+1) (j+1+k)) i (j+1+k)),o.push x++b.extract (j+1) (j+1+k),i,j+1+k,g,m,k))
     else loC a b (o.push x++b.extract (j+1) (j+1+k)) i (j+1+k) g m k) else loC a b (o.push x) i (j+1) g m k)
  | _=>pure (.done (some (dn a b (o.push x) i (j+1)),o.push x,i,j+1,g,m,n))
noncomputable def loA(a b o:Array Keyed)(i j g m n:Nat):StateT SortSt Sem (ForInStep LS):=do
 modify λz=>SortSt.mk' (kindOf z) (arrOf z) (Ye z) g (Yl z)
 let y <- elem' b j
 match <- Er false y a i (a.size - i) 0 with
 | some k=>(if k>0 then (if (i+k+1 == a.size)=true then pure (.done (some (ls a b (o++a.extract i (i+k)) (i+k) j),o++a.extract i (i+k),i+k,j,g,k,n))
    else if (i+k == a.size)=true then pure (.done (some (dn a b (o++a.extract i (i+k)) (i+k) j),o++a.extract i (i+k),i+k,j,g,k,n))
    else loB a b (o++a.extract i (i+k)) (i+k) j g k n) else loB a b o i j g k n)
 | _=>pure (.done (some (dn a b o i j),o,i,j,g,m,n))
theorem C1{k:Keyed}{L:List Keyed}{o n c:Nat}(M:Many (bB false k L o n) n c){t:Nat}{x:Keyed}(hx:L[o+t]?=some x)(ht:t<n):(t<c->nk x<=nk k)/\(c<=t->nk k<nk x):=by
 constructor
 ·intro h;have:=M.yes t h;unfold bB at this;rw[hx]at this;simp[ht]at this;omega
 ·intro h;have:=M.no t h ht;unfold bB at this;rw[hx]at this;simp[ht]at this;omega
theorem Cg{k:Keyed}{L:List Keyed}{o n c:Nat}(M:Many (bB true k L o n) n c){t:Nat}{x:Keyed}(hx:L[o+t]?=some x)(ht:t<n):(t<c->nk x<nk k)/\(c<=t->nk k<=nk x):=by
 constructor
 ·intro h;have:=M.yes t h;unfold bB at this;rw[hx]at this;simp[ht]at this;omega
 ·intro h;have:=M.no t h ht;unfold bB at this;rw[hx]at this;simp[ht]at this;omega
structure Two(a b:Array Keyed)(la:Keyed):Prop where
 ia:∀ x∈a.toList,Ik x
 ib:∀ x∈b.toList,Ik x
 hA:Up a.toList
 hB:Up b.toList
 hla:a.toList[a.size - 1]?=some la
 hlt:∀ y∈b.toList,nk y<nk la
section
variable{a b:Array Keyed}{la:Keyed}(T:Two a b la)
include T
theorem Two.gA{i:Nat}(h:i<a.size):∃ x,a.toList[i]?=some x/\Ik x:=by
 have e:=UM (show i<a.toList.length by rw[UU];exact h);exact⟨_,e,T.ia _ (UO e)⟩
theorem Two.gB{i:Nat}(h:i<b.size):∃ x,b.toList[i]?=some x/\Ik x:=by
 have e:=UM (show i<b.toList.length by rw[UU];exact h);exact⟨_,e,T.ib _ (UO e)⟩
theorem Two.fin{o:Array Keyed}{i j:Nat}(M:Mi a.toList b.toList o.toList i j)(hj:b.size<=j):Res a.toList b.toList (dn a b o i j).toList:=by
 have lb1:b.toList.length=b.size:=UU;unfold dn;rw[V3,V3,EA,EA,XA (as:=b.toList) (by omega),VF];exact M.done T.hA (by omega)
theorem Two.lst{o:Array Keyed}{i j:Nat}(M:Mi a.toList b.toList o.toList i j)(hi:i+1=a.size):Res a.toList b.toList (ls a b o i j).toList:=by
 have la1:a.toList.length=a.size:=UU;unfold ls;rw[V3,V3,EA,EA];have e:i=a.size - 1:=by omega
 subst e;exact M.last T.hB T.hla (by omega) λy hy=>V6 (T.hlt y hy)
end
@[elab_as_elim] theorem ex4{τ α β γ δ:Type}{f:α->β->γ->δ->τ}{R:α->β->γ->δ->Prop}{P:τ->Prop}(c:τ)(h:∃ x y z u,c=f x y z u/\R x y z u)(k:∀ x y z u,R x y z u->P (f x y z u)):P c:=by
  obtain⟨x,y,z,u,rfl,r⟩:=h;exact k x y z u r
@[elab_as_elim] theorem ex5{τ α β γ δ ε:Type}{f:α->β->γ->δ->ε->τ}{R:α->β->γ->δ->ε->Prop}{P:τ->Prop}(c:τ)(h:∃ x y z u v,c=f x y z u v/\R x y z u v)(k:∀ x y z u v,R x y z u v->P (f x y z u v)):P c:=by
  obtain⟨x,y,z,u,v,rfl,r⟩:=h;exact k x y z u v r
@[elab_as_elim] theorem ex6{τ α β γ δ ε ζ:Type}{f:α->β->γ->δ->ε->ζ->τ}{R:α->β->γ->δ->ε->ζ->Prop}{P:τ->Prop}(c:τ)(h:∃ x y z u v w,c=f x y z u v w/\R x y z u v w)(k:∀ x y z u v w,R x y z u v w->P (f x y z u v w)):P c:=by
  obtain⟨x,y,z,u,v,w,rfl,r⟩:=h;exact k x y z u v w r
@[elab_as_elim] theorem ex2{τ α β:Type}{f:α->β->τ}{R:α->β->Prop}{P:τ->Prop}(c:τ)(h:∃ x y,c=f x y/\R x y)(k:∀ x y,R x y->P (f x y)):P c:=by
  obtain⟨x,y,rfl,r⟩:=h;exact k x y r
noncomputable def Ends(a b:Array Keyed)(st:SortSt)(x:Nat)(c:LS)(z:SortSt):Prop:=Ks st z/\((∃ r d,c=(some r,d)/\Res a.toList b.toList r.toList)\/∃ o i j g m n,c=(none,o,i,j,g,m,n)/\Mi a.toList b.toList o.toList i j/\i+1<a.size/\j<b.size/\x<=i+j)
noncomputable def NW(a b:Array Keyed)(st:SortSt)(x:Nat)(r:ForInStep LS)(z:SortSt):Prop:=match r with
 | .done c=>Ends a b st x c z
 | .yield c=>∃ o i j g m n,c=(none,o,i,j,g,m,n)/\Ks st z/\Mi a.toList b.toList o.toList i j/\i+1<a.size/\j<b.size/\x<=i+j
section
variable{prog:YZ}{w:Yc}{A:Yf}{E:YQ->YS->Prop}{s:YS}{a b:Array Keyed}{la:Keyed}
theorem Ki(T:Two a b la){st z:SortSt}{o:Array Keyed}{x i j g m k:Nat}(K:Ks st z)(M:Mi a.toList b.toList o.toList i j)(hi:i+1<a.size)(hj:j<b.size)(hx:x<=i+j)(h:∀ u,a.toList[i]?=some u->∀ y∈b.toList.drop j,nk u<=nk y):
 wpS (YX prog w) A E s (loC a b o i j g m k) (NW a b st x) z:=by
 obtain⟨u,hu,iu⟩:=T.gA (i:=i) (by omega);unfold loC;refine YU (u6 hu ?_);have M':Mi a.toList b.toList (o.push u).toList (i+1) j:=by rw[Vm];exact M.pushA T.hA hu (h u hu)
 by_cases e:i+1+1=a.size
 ·refine l7 (by simpa using e) ?_;exact YW ⟨K,.inl ⟨_,_,rfl,T.lst M' e⟩⟩
 ·refine l8 (by simpa using e) ?_;by_cases f:(decide (m<7)&&decide (k<7))=true
  ·refine l7 f ?_;exact YW ⟨K,.inr ⟨_,_,_,_,_,_,rfl,M',by omega,hj,by omega⟩⟩
  ·refine l8 f ?_;exact YW ⟨_,_,_,_,_,_,rfl,K,M',by omega,hj,by omega⟩
theorem Kj(T:Two a b la){st z:SortSt}(hk:kindOf st=Z4){o:Array Keyed}{x i j g m n:Nat}(K:Ks st z)(M:Mi a.toList b.toList o.toList i j)(hi:i+1<a.size)(hj:j<b.size)(hx:x<=i+j)(h:∀ u,b.toList[j]?=some u->∀ y∈a.toList.drop i,nk u<=nk y):
 wpS (YX prog w) A E s (loB a b o i j g m n) (NW a b st x) z:=by
 have lb1:b.toList.length=b.size:=UU;obtain⟨u,hu,iu⟩:=T.gB hj;unfold loB;refine YU (u6 hu ?_);have M':Mi a.toList b.toList (o.push u).toList i (j+1):=by rw[Vm];exact M.pushB T.hB hu (h u hu)
 by_cases e:j+1=b.size
 ·refine l7 (by simpa using e) ?_;exact YW ⟨K,.inl ⟨_,_,rfl,T.fin M' (by omega)⟩⟩
 refine l8 (by simpa using e) ?_;obtain⟨v,hv,iv⟩:=T.gA (i:=i) (by omega);refine YU (u6 hv ?_);refine YU (Dj (K.k.trans hk) iv T.ib (λp q x y _ h2 _ h3 h4=>T.hB.get h3 h4 h2) (by omega) (by omega) λk Mk=>?_);have kl:=Mk.le
 have M2:=M'.moreB T.hB k (by omega) λt x ht hx y hy=>by
  have:=(Cg Mk hx (by omega)).1 ht;obtain⟨p,hp,e⟩:=m7 hy;exact V5 (V6 this) (T.hA.get hv e hp)
 have rest:∀ u',a.toList[i]?=some u'->∀ y∈b.toList.drop (j+1+k),nk u'<=nk y:=λu' hu' y hy=>by
  rw[hv]at hu';rw[<-oj hu'];obtain⟨p,hp,e⟩:=m7 hy;have pl:=(gM e).1;have e':b.toList[j+1+(p - (j+1))]?=some y:=by rw[show j+1+(p - (j+1))=p by omega];exact e
  exact(Cg Mk e' (by omega)).2 (by omega)
 dsimp only;by_cases k0:k>0
 ·refine l7 k0 ?_
  have M3:Mi a.toList b.toList (o.push u++b.extract (j+1) (j+1+k)).toList i (j+1+k):=by
   rw[V3,A4,show j+1+k - (j+1)=k by omega];exact M2
  by_cases e2:j+1+k=b.size
  ·refine l7 (by simpa using e2) ?_;exact YW ⟨K,.inl ⟨_,_,rfl,T.fin M3 (by omega)⟩⟩
  ·refine l8 (by simpa using e2) ?_;exact Ki T K M3 hi (by omega) (by omega) rest
 ·refine l8 k0 ?_;have:k=0:=by omega
  subst this;exact Ki T K M' hi (by omega) (by omega) rest
theorem Kk(T:Two a b la){st z:SortSt}(hk:kindOf st=Z4){o:Array Keyed}{x i j g m n:Nat}(K:Ks st z)(M:Mi a.toList b.toList o.toList i j)(hi:i+1<a.size)(hj:j<b.size)(hx:x<=i+j):
 wpS (YX prog w) A E s (loA a b o i j g m n) (NW a b st x) z:=by
 have la1:a.toList.length=a.size:=UU;obtain⟨u,hu,iu⟩:=T.gB hj;unfold loA;refine YU (Yp ?_);have K:=K.gal g;refine YU (u6 hu ?_);refine YU (Dj (K.k.trans hk) iu T.ia (λp q x y _ h2 _ h3 h4=>T.hA.get h3 h4 h2) (by omega) (by omega) λk Mk=>?_);have kl:=Mk.le;have lt:=T.hlt u (UO hu)
 have kn:i+k<a.size:=by
  rcases W5 (i+k) a.size with z | z
  ·exact z
  ·have e:a.toList[i+(a.size - 1 - i)]?=some la:=by rw[show i+(a.size - 1 - i)=a.size - 1 by omega];exact T.hla
   have:=(C1 Mk e (by omega)).1 (by omega);omega
 have M2:=M.moreA T.hA k (by omega) λt x ht hx y hy=>by
  have:=(C1 Mk hx (by omega)).1 ht;obtain⟨p,hp,e⟩:=m7 hy;exact V5 this (T.hB.get hu e hp)
 have rest:∀ u',b.toList[j]?=some u'->∀ y∈a.toList.drop (i+k),nk u'<=nk y:=λu' hu' y hy=>by
  rw[hu]at hu';rw[<-oj hu'];obtain⟨p,hp,e⟩:=m7 hy;have pl:=(gM e).1;have e':a.toList[i+(p - i)]?=some y:=by rw[show i+(p - i)=p by omega];exact e
  exact V6 ((C1 Mk e' (by omega)).2 (by omega))
 dsimp only;by_cases k0:k>0
 ·refine l7 k0 ?_
  have M3:Mi a.toList b.toList (o++a.extract i (i+k)).toList (i+k) j:=by
   rw[V3,A4,show i+k - i=k by omega];exact M2
  by_cases e2:i+k+1=a.size
  ·refine l7 (by simpa using e2) ?_;exact YW ⟨K,.inl ⟨_,_,rfl,T.lst M3 e2⟩⟩
  ·refine l8 (by simpa using e2) ?_;refine l8 (by simp;omega) ?_;exact Kj T hk K M3 (by omega) hj (by omega) rest
 ·refine l8 k0 ?_;have:k=0:=by omega
  subst this;exact Kj T hk K M hi hj hx rest
end
section
variable{prog:YZ}{w:Yc}{A:Yf}{E:YQ->YS->Prop}{s:YS}
theorem Sl{a b:Array Keyed}{la:Keyed}(T:Two a b la){st:SortSt}{Q:Array Keyed->SortSt->Prop}(hk:kindOf st=Z4)(hb0:1<=b.size)(h00:∀ x y,a.toList[0]?=some x->b.toList[0]?=some y->nk y<=nk x)(q:∀ r z,Ks st z->Res a.toList b.toList r.toList->Q r z):wpS (YX prog w) A E s (Sj a b) Q st:=by
 have la1:a.toList.length=a.size:=UU;have lb1:b.toList.length=b.size:=UU;have ha0:1<=a.size:=by have:=(gM T.hla).1;omega
 obtain⟨b0,hb,_⟩:=T.gB (i:=0) (by omega)
 have M0:Mi a.toList b.toList (#[b0]:Array Keyed).toList 0 1:=(Mi.nil _ _).pushB T.hB hb λy hy=>by
  obtain⟨k,_,e⟩:=m7 hy;obtain⟨x,hx,_⟩:=T.gA (i:=0) (by omega);exact V5 (h00 x b0 hx hb) (T.hA.get hx e (by omega))
 refine YU (ZO (Yy ⟨rfl,?_⟩));refine YU (u6 hb ?_);refine t8 (λc1=>?_) λc1=>?_
 ·exact YW (q _ _ (Ks.refl st) (T.fin M0 (by simp at c1;omega)))
 refine t8 (λc2=>?_) λc2=>?_
 ·exact YW (q _ _ (Ks.refl st) (T.lst M0 (by simpa using c2)))
 replace c1:¬ 1=b.size:=by simpa using c1
 replace c2:¬ 0+1=a.size:=by simpa using c2
 refine YU (wpS_get ?_)
 refine YU (Yq (Yj (I:=λx c z=>∃ out i j g,c=(none,out,i,j,g)/\Ks st z/\Mi a.toList b.toList out.toList i j/\i+1<a.size/\j<b.size/\x<=i+j)
  (Q:=λc z=>∃ r d,c=(some r,d)/\Ks st z/\Res a.toList b.toList r.toList) ?out ?no ⟨#[b0],0,1,_,rfl,Ks.refl st,M0,by omega,by omega,by omega⟩) ?beh)
 case beh=>
  exact λc z h=>ex2 c h λr d h=>YW (q r z h.1 h.2)
 case no=>
  rintro c z ⟨out,i,j,g,rfl,K,M,h1,h2,h3⟩;omega
 case out=>
  refine λx c z _ hx h=>ex4 c h λout i j g h=>?_;dsimp only;have K:=h.1;have M:=h.2.1;have h1:=h.2.2.1;have h2:=h.2.2.2.1;have h3:=h.2.2.2.2;clear h
  refine YU (Yq (Yj (I:=λy c z=>∃ out i j m n,c=(none,out,i,j,m,n)/\Ks st z/\Mi a.toList b.toList out.toList i j/\i+1<a.size/\j<b.size/\x+y<=i+j)
   (Q:=λc z=>Ks st z/\((∃ r d,c=(some r,d)/\Res a.toList b.toList r.toList)\/∃ out i j m n,c=(none,out,i,j,m,n)/\Mi a.toList b.toList out.toList i j/\i+1<a.size/\j<b.size/\x+1<=i+j)) ?one ?none ⟨out,i,j,0,0,rfl,K,M,h1,h2,by omega⟩) ?two)
  case none=>
   rintro c z ⟨out,i,j,m,n,rfl,K,M,h1,h2,h3⟩;omega
  case one=>
   clear h1 h2 h3 M K;refine λy c z _ hy h=>ex5 c h λout i j m n h=>?_;dsimp only;have K:=h.1;have M:=h.2.1;have h1:=h.2.2.1;have h2:=h.2.2.2.1;have h3:=h.2.2.2.2;clear h;obtain⟨u,hu,iu⟩:=T.gB h2;obtain⟨v,hv,iv⟩:=T.gA (i:=i) (by omega);refine YU (u6 hu ?_);refine YU (u6 hv ?_);refine YU (Hb iu iv (K.k.trans hk) ?_);refine t8 (λw=>?_) λw=>?_
   ·replace w:nk u<nk v:=by simpa using w
    refine YU (u6 hu ?_)
    have M':Mi a.toList b.toList (out.push u).toList i (j+1):=by
     rw[Vm];refine M.pushB T.hB hu λy hy=>?_;obtain⟨p,hp,e⟩:=m7 hy;exact V5 (V6 w) (T.hA.get hv e hp)
    refine t8 (λe=>?_) λe=>?_
    ·exact YW ⟨K,.inl ⟨_,_,rfl,T.fin M' (by simp at e;omega)⟩⟩
    replace e:¬ j+1=b.size:=by simpa using e
    refine t8 (λ_=>?_) λ_=>?_
    ·exact YW ⟨K,.inr ⟨_,_,_,_,_,rfl,M',h1,by omega,by omega⟩⟩
    ·exact YW ⟨_,_,_,_,_,rfl,K,M',h1,by omega,by omega⟩
   ·replace w:¬ nk u<nk v:=by simpa using w
    refine YU (u6 hv ?_)
    have M':Mi a.toList b.toList (out.push v).toList (i+1) j:=by
     rw[Vm];refine M.pushA T.hA hv λy hy=>?_;obtain⟨p,hp,e⟩:=m7 hy;exact V5 (Wo.mp w) (T.hB.get hu e hp)
    refine t8 (λe=>?_) λe=>?_
    ·exact YW ⟨K,.inl ⟨_,_,rfl,T.lst M' (by simpa using e)⟩⟩
    replace e:¬ i+1+1=a.size:=by simpa using e
    refine t8 (λ_=>?_) λ_=>?_
    ·exact YW ⟨K,.inr ⟨_,_,_,_,_,rfl,M',by omega,h2,by omega⟩⟩
    ·exact YW ⟨_,_,_,_,_,rfl,K,M',by omega,h2,by omega⟩
  case two=>
   clear h1 h2 h3 M K;refine λc z h=>h.2.elim (λR=>ex2 c R λr d R=>YW ⟨r,_,rfl,h.1,R⟩) λh'=>ex5 c h' λout i j m n M=>?_
   ·have K:=h.1;have h1:=M.2.1;have h2:=M.2.2.1;have h3:=M.2.2.2;replace M:=M.1;dsimp only;refine YU (ZO (Yy ⟨rfl,?_⟩))
    refine YU (Yq (Yj (I:=λy c z=>∃ o i j g m n,c=(none,o,i,j,g,m,n)/\Ks st z/\Mi a.toList b.toList o.toList i j/\i+1<a.size/\j<b.size/\x+1<=i+j)
     (Q:=Ends a b st (x+1)) ?aa ?bb ⟨_,_,_,_,_,_,rfl,K,M,h1,h2,h3⟩) ?cc)
    case aa=>
     clear h1 h2 h3 M K h;refine λy c z _ hy h=>ex6 c h λo i j g m n h=>?_;dsimp only;have K:=h.1;have M:=h.2.1;have h1:=h.2.2.1;have h2:=h.2.2.2.1;have h3:=h.2.2.2.2;refine Yq (Q:=NW a b st (x+1)) ?_ λr z h=>?_
     ·refine t8 (λ_=>?_) λ_=>?_
      ·exact Kk T hk (g:=g - 1) (m:=m) (n:=n) K M h1 h2 h3
      ·exact Kk T hk (g:=g) (m:=m) (n:=n) K M h1 h2 h3
     ·cases r with
      | done c=>exact h
      | yield c=>exact h
    case bb=>
     rintro c z ⟨o,i,j,g,m,n,rfl,K,M,h1,h2,h3⟩;exact⟨K,.inr ⟨_,_,_,_,_,_,rfl,M,h1,h2,h3⟩⟩
    case cc=>
     refine λc z h=>h.2.elim (λR=>ex2 c R λr d R=>YW ⟨r,_,rfl,h.1,R⟩) λh'=>ex6 c h' λo i j g m n M=>?_;dsimp only;exact YU (Yp (YW ⟨o,i,j,_,rfl,h.1.gal _,M⟩))
end
noncomputable def Sm:Array Keyed->Array Keyed->StateT SortSt Sem (Array Keyed):=sortPriv% PySem.Builtin.mergeHi
structure Mh(A B O:List Keyed)(i j:Nat):Prop where
 pm:O.Perm (A.drop i++B.drop j)
 so:Up O
 la:∀ x∈O,∀ y∈A.take i,nk y<=nk x
 lb:∀ x∈O,∀ y∈B.take j,nk y<=nk x
section
variable{A B O:List Keyed}{i j:Nat}
theorem Up.cons{x:Keyed}{l:List Keyed}(a:Up l)(h:∀ y∈l,nk x<=nk y):Up (x::l):=WB.mpr ⟨h,a⟩
theorem Mh.pushA(M:Mh A B O (i+1) j)(hA:Up A){x:Keyed}(hx:A[i]?=some x)(h:∀ y∈B.take j,nk y<=nk x):Mh A B (x::O) i j:=by
 have tx:=Ah hx;have mx:x∈A.take (i+1):=by rw[tx];simp
 refine⟨?_,M.so.cons λy hy=>M.la y hy x mx,λu hu y hy=>?_,λu hu y hy=>?_⟩
 ·rw[Ag hx];exact M.pm.cons x
 ·rcases Ub.mp hu with e | hu
  ·rw[e];obtain⟨k,hk,e⟩:=n4 hy;exact hA.get e hx (by omega)
  ·exact M.la u hu y (by rw[tx];exact Um _ hy)
 ·rcases Ub.mp hu with e | hu
  ·rw[e];exact h y hy
  ·exact M.lb u hu y hy
theorem Mh.pushB(M:Mh A B O i (j+1))(hB:Up B){x:Keyed}(hx:B[j]?=some x)(h:∀ y∈A.take i,nk y<=nk x):Mh A B (x::O) i j:=by
 have tx:=Ah hx;have mx:x∈B.take (j+1):=by rw[tx];simp
 refine⟨?_,M.so.cons λy hy=>M.lb y hy x mx,λu hu y hy=>?_,λu hu y hy=>?_⟩
 ·rw[Ag hx];exact(M.pm.cons x).trans List.perm_middle.symm
 ·rcases Ub.mp hu with e | hu
  ·rw[e];exact h y hy
  ·exact M.la u hu y hy
 ·rcases Ub.mp hu with e | hu
  ·rw[e];obtain⟨k,hk,e⟩:=n4 hy;exact hB.get e hx (by omega)
  ·exact M.lb u hu y (by rw[tx];exact Um _ hy)
theorem Mh.moreA(hA:Up A){p:Nat}:∀ k {O:List Keyed},Mh A B O (p+k) j->p+k<=A.length->(∀ t x,p<=t->t<p+k->A[t]?=some x->∀ y∈B.take j,nk y<=nk x)->Mh A B ((A.drop p).take k++O) p j
 | 0,_,M,_,_=>M
 | k+1,_,M,hk,h=>by
   have hx:=UM (show p+k<A.length by omega);have M1:=Mh.pushA (i:=p+k) M hA hx (h _ _ (by omega) (by omega) hx);have:=Mh.moreA hA k M1 (by omega) λt x h1 h2=>h t x h1 (by omega);have e:(A.drop p).take (k+1)=(A.drop p).take k++[A[p+k]]:=by rw[VP,Vq,hx];rfl
   rw[e,Ui];exact this
theorem Mh.moreB(hB:Up B){p:Nat}:∀ k {O:List Keyed},Mh A B O i (p+k)->p+k<=B.length->(∀ t x,p<=t->t<p+k->B[t]?=some x->∀ y∈A.take i,nk y<=nk x)->Mh A B ((B.drop p).take k++O) i p
 | 0,_,M,_,_=>M
 | k+1,_,M,hk,h=>by
   have hx:=UM (show p+k<B.length by omega);have M1:=Mh.pushB (j:=p+k) M hB hx (h _ _ (by omega) (by omega) hx);have:=Mh.moreB hB k M1 (by omega) λt x h1 h2=>h t x h1 (by omega);have e:(B.drop p).take (k+1)=(B.drop p).take k++[B[p+k]]:=by rw[VP,Vq,hx];rfl
   rw[e,Ui];exact this
theorem BG{l:List Keyed}(h:Up l)(i:Nat):Up (l.take i):=List.Pairwise.sublist (Xh i l) h
theorem PL(A B O:List Keyed)(i j:Nat)(p:O.Perm (A.drop i++B.drop j)):(A.take i++B.take j++O).Perm (A++B):=by
 refine(List.Perm.append_left _ p).trans ?_;rw[Ui];refine(List.Perm.append_left _ ?_).trans (l₂:=A.take i++(A.drop i++(B.take j++B.drop j))) ?_
 ·rw[<-Ui,<-Ui];exact List.Perm.append_right _ Vz
 ·rw[Va,<-Ui,Va]
theorem Mh.done(M:Mh A B O i j)(hA:Up A)(hB:Up B)(h:i=0\/j=0):Res A B (A.take i++B.take j++O):=by
 refine⟨PL A B O i j M.pm,?_⟩;refine Up.app (Up.app (BG hA i) (BG hB j) λx hx y hy=>?_) M.so λx hx y hy=>?_
 ·rcases h with rfl | rfl
  ·cases hx
  ·cases hy
 ·rcases Ul.mp hx with hx | hx
  ·exact M.la y hy x hx
  ·exact M.lb y hy x hx
theorem Mh.first(M:Mh A B O i j)(hA:Up A)(hB:Up B)(h:∀ x∈B.take j,∀ y∈A,nk x<=nk y):Res A B (B.take j++A.take i++O):=by
 refine⟨(List.Perm.append_right O Vz).trans (PL A B O i j M.pm),?_⟩;refine Up.app (Up.app (BG hB j) (BG hA i) λx hx y hy=>h x hx y (Wf hy)) M.so λx hx y hy=>?_;rcases Ul.mp hx with hx | hx
 ·exact M.lb y hy x hx
 ·exact M.la y hy x hx
end
noncomputable abbrev LH:=Option (Array Keyed)×Nat×Nat×Array Keyed×Nat×Nat×Nat
noncomputable abbrev dh(a b o:Array Keyed)(i j:Nat):Array Keyed:=a.extract 0 i++b.extract 0 j++o.reverse
noncomputable abbrev fh(a b o:Array Keyed)(i j:Nat):Array Keyed:=b.extract 0 j++a.extract 0 i++o.reverse
noncomputable def hiC(a b o:Array Keyed)(i j g m k:Nat):StateT SortSt Sem (ForInStep LH):=do
 let x <- elem' a (i - 1)
 if (i - 1 == 0)=true then pure (.done (some (dh a b (o.push x) (i - 1) j),i - 1,j,o.push x,g,m,k))
 else if (decide (m<7)&&decide (k<7))=true then pure (.done (none,i - 1,j,o.push x,g,m,k))
 else pure (.yield (none,i - 1,j,o.push x,g,m,k))
noncomputable def hiB(a b o:Array Keyed)(i j g m n:Nat):StateT SortSt Sem (ForInStep LH):=do
 let x <- elem' b (j - 1)
 if (j - 1 == 1)=true then pure (.done (some (fh a b (o.push x) i (j - 1)),i,j - 1,o.push x,g,m,n)) else do
  let y <- elem' a (i - 1)
  match <- Er true y b 0 (j - 1) (j - 1 - 1) with
  | some p=>(if j - 1 - p>0 then (if (p == 1)=true then pure (.done (some (fh a b (o.push x++(b.extract p (j - 1)).reverse) i p),i,p,o.push x++(b.extract p (j - 1)).reverse,g,m,j - 1 - p))
     else if (p == 0)=true then pure (.done (some (dh a b (o.push x++(b.extract p (j - 1)).reverse) i p),i,p,o.push x++(b.extract p (j - 1)).reverse,g,m,j - 1 - p))
     else hiC a b (o.push x++(b.extract p (j - 1)).reverse) i p g m (j - 1 - p)) else hiC a b (o.push x) i (j - 1) g m (j - 1 - p))
  | _=>pure (.done (some (dh a b (o.push x) i (j - 1)),i,j - 1,o.push x,g,m,n))
noncomputable def hiA(a b o:Array Keyed)(i j g m n:Nat):StateT SortSt Sem (ForInStep LH):=do
 modify λz=>SortSt.mk' (kindOf z) (arrOf z) (Ye z) g (Yl z)
 let y <- elem' b (j - 1)
 match <- Er false y a 0 i (i - 1) with
 | some p=>(if i - p>0 then (if (p == 0)=true then pure (.done (some (dh a b (o++(a.extract p i).reverse) p j),p,j,o++(a.extract p i).reverse,g,i - p,n))
    else hiB a b (o++(a.extract p i).reverse) p j g (i - p) n) else hiB a b o i j g (i - p) n)
 | _=>pure (.done (some (dh a b o i j),i,j,o,g,m,n))
noncomputable def PM(a b:Array Keyed)(st:SortSt)(x:Nat)(c:LH)(z:SortSt):Prop:=Ks st z/\((∃ r d,c=(some r,d)/\Res a.toList b.toList r.toList)\/∃ i j o g m n,c=(none,i,j,o,g,m,n)/\Mh a.toList b.toList o.toList.reverse i j/\1<=i/\i<=a.size/\2<=j/\j<=b.size/\x+(i+j)<=a.size+b.size)
noncomputable def NX(a b:Array Keyed)(st:SortSt)(x:Nat)(r:ForInStep LH)(z:SortSt):Prop:=match r with
 | .done c=>PM a b st x c z
 | .yield c=>∃ i j o g m n,c=(none,i,j,o,g,m,n)/\Ks st z/\Mh a.toList b.toList o.toList.reverse i j/\1<=i/\i<=a.size/\2<=j/\j<=b.size/\x+(i+j)<=a.size+b.size
structure Tw(a b:Array Keyed)(fb:Keyed):Prop where
 ia:∀ x∈a.toList,Ik x
 ib:∀ x∈b.toList,Ik x
 hA:Up a.toList
 hB:Up b.toList
 hfb:b.toList[0]?=some fb
 hlt:∀ y∈a.toList,nk fb<nk y
section
variable{a b:Array Keyed}{fb:Keyed}(T:Tw a b fb)
include T
theorem Tw.gA{i:Nat}(h:i<a.size):∃ x,a.toList[i]?=some x/\Ik x:=by
 have e:=UM (show i<a.toList.length by rw[UU];exact h);exact⟨_,e,T.ia _ (UO e)⟩
theorem Tw.gB{i:Nat}(h:i<b.size):∃ x,b.toList[i]?=some x/\Ik x:=by
 have e:=UM (show i<b.toList.length by rw[UU];exact h);exact⟨_,e,T.ib _ (UO e)⟩
theorem Tw.fin{o:Array Keyed}{i j:Nat}(M:Mh a.toList b.toList o.toList.reverse i j)(h:i=0\/j=0):Res a.toList b.toList (dh a b o i j).toList:=by
 unfold dh;rw[V3,V3,A4,A4,Wg,WZ,WZ,XB,XB];exact M.done T.hA T.hB h
theorem Tw.fst{o:Array Keyed}{i:Nat}(M:Mh a.toList b.toList o.toList.reverse i 1):Res a.toList b.toList (fh a b o i 1).toList:=by
 unfold fh;rw[V3,V3,A4,A4,Wg,WZ,WZ,XB,XB];refine M.first T.hA T.hB λx hx y hy=>?_
 obtain⟨k,hk,e⟩:=n4 hx;rw[show k=0 by omega,T.hfb]at e;rw[<-oj e];exact V6 (T.hlt y hy)
end
theorem Bh(o:Array Keyed)(x:Keyed):(o.push x).toList.reverse=x::o.toList.reverse:=by rw[Vm,Wl];rfl
theorem Hc(o a:Array Keyed)(p i:Nat):(o++(a.extract p i).reverse).toList.reverse=(a.toList.drop p).take (i - p)++o.toList.reverse:=by rw[V3,Wl,Wg,List.reverse_reverse,A4]
section
variable{prog:YZ}{w:Yc}{A:Yf}{E:YQ->YS->Prop}{s:YS}{a b:Array Keyed}{fb:Keyed}
theorem Kl(T:Tw a b fb){st z:SortSt}{o:Array Keyed}{x i j g m k:Nat}(K:Ks st z)(M:Mh a.toList b.toList o.toList.reverse i j)(h1:1<=i)(h2:i<=a.size)(h3:2<=j)(h4:j<=b.size)(hx:x+(i+j)<=a.size+b.size)(h:∀ u,a.toList[i - 1]?=some u->∀ y∈b.toList.take j,nk y<=nk u):
 wpS (YX prog w) A E s (hiC a b o i j g m k) (NX a b st x) z:=by
 obtain⟨u,hu,iu⟩:=T.gA (i:=i - 1) (by omega);unfold hiC;refine YU (u6 hu ?_)
 have M':Mh a.toList b.toList (o.push u).toList.reverse (i - 1) j:=by
  rw[Bh];exact Mh.pushA (by rw[show i - 1+1=i by omega];exact M) T.hA hu (h u hu)
 by_cases e:i - 1=0
 ·refine l7 (by simpa using e) ?_;exact YW ⟨K,.inl ⟨_,_,rfl,T.fin M' (.inl e)⟩⟩
 ·refine l8 (by simpa using e) ?_;by_cases f:(decide (m<7)&&decide (k<7))=true
  ·refine l7 f ?_;exact YW ⟨K,.inr ⟨_,_,_,_,_,_,rfl,M',by omega,by omega,h3,h4,by omega⟩⟩
  ·refine l8 f ?_;exact YW ⟨_,_,_,_,_,_,rfl,K,M',by omega,by omega,h3,h4,by omega⟩
theorem Km(T:Tw a b fb){st z:SortSt}(hk:kindOf st=Z4){o:Array Keyed}{x i j g m n:Nat}(K:Ks st z)(M:Mh a.toList b.toList o.toList.reverse i j)(h1:1<=i)(h2:i<=a.size)(h3:2<=j)(h4:j<=b.size)(hx:x+(i+j)<=a.size+b.size)(h:∀ u,b.toList[j - 1]?=some u->∀ y∈a.toList.take i,nk y<=nk u):
 wpS (YX prog w) A E s (hiB a b o i j g m n) (NX a b st x) z:=by
 have lb1:b.toList.length=b.size:=UU;obtain⟨u,hu,iu⟩:=T.gB (i:=j - 1) (by omega);unfold hiB;refine YU (u6 hu ?_)
 have M':Mh a.toList b.toList (o.push u).toList.reverse i (j - 1):=by
  rw[Bh];exact Mh.pushB (by rw[show j - 1+1=j by omega];exact M) T.hB hu (h u hu)
 by_cases e:j - 1=1
 ·refine l7 (by simpa using e) ?_;rw[e]at M' ⊢;exact YW ⟨K,.inl ⟨_,_,rfl,T.fst M'⟩⟩
 refine l8 (by simpa using e) ?_;obtain⟨v,hv,iv⟩:=T.gA (i:=i - 1) (by omega);refine YU (u6 hv ?_);refine YU (Dj (K.k.trans hk) iv T.ib (λp q x y _ h2 _ h3 h4=>T.hB.get h3 h4 h2) (by omega) (by omega) λp Mk=>?_);have kl:=Mk.le
 have up:∀ t x,p<=t->t<j - 1->b.toList[t]?=some x->∀ y∈a.toList.take i,nk y<=nk x:=λt x a1 a2 hx y hy=>by
  obtain⟨c,hc,e⟩:=n4 hy;have:=(Cg Mk (t:=t) (by rw[VA];exact hx) a2).2 a1;exact V5 (T.hA.get e hv (by omega)) this
 have rest:∀ u',a.toList[i - 1]?=some u'->∀ y∈b.toList.take p,nk y<=nk u':=λu' hu' y hy=>by
  rw[hv]at hu';rw[<-oj hu'];obtain⟨c,hc,e⟩:=n4 hy;exact V6 ((Cg Mk (t:=c) (by rw[VA];exact e) (by omega)).1 hc)
 dsimp only;by_cases k0:j - 1 - p>0
 ·refine l7 k0 ?_
  have M3:Mh a.toList b.toList (o.push u++(b.extract p (j - 1)).reverse).toList.reverse i p:=by
   rw[Hc];exact Mh.moreB T.hB (j - 1 - p) (by rw[show p+(j - 1 - p)=j - 1 by omega];exact M') (by omega) λt x a1 a2=>up t x a1 (by omega)
  by_cases e1:p=1
  ·refine l7 (by simpa using e1) ?_;subst e1;exact YW ⟨K,.inl ⟨_,_,rfl,T.fst M3⟩⟩
  refine l8 (by simpa using e1) ?_;by_cases e2:p=0
  ·refine l7 (by simpa using e2) ?_;exact YW ⟨K,.inl ⟨_,_,rfl,T.fin M3 (.inr e2)⟩⟩
  refine l8 (by simpa using e2) ?_;exact Kl T K M3 h1 h2 (by omega) (by omega) (by omega) rest
 ·refine l8 k0 ?_;have:p=j - 1:=by omega
  subst this;exact Kl T K M' h1 h2 (by omega) (by omega) (by omega) rest
theorem Kn(T:Tw a b fb){st z:SortSt}(hk:kindOf st=Z4){o:Array Keyed}{x i j g m n:Nat}(K:Ks st z)(M:Mh a.toList b.toList o.toList.reverse i j)(h1:1<=i)(h2:i<=a.size)(h3:2<=j)(h4:j<=b.size)(hx:x+(i+j)<=a.size+b.size):
 wpS (YX prog w) A E s (hiA a b o i j g m n) (NX a b st x) z:=by
 have la1:a.toList.length=a.size:=UU;obtain⟨u,hu,iu⟩:=T.gB (i:=j - 1) (by omega);unfold hiA;refine YU (Yp ?_);have K:=K.gal g;refine YU (u6 hu ?_);refine YU (Dj (K.k.trans hk) iu T.ia (λp q x y _ h2 _ h3 h4=>T.hA.get h3 h4 h2) (by omega) (by omega) λp Mk=>?_);have kl:=Mk.le
 have up:∀ t x,p<=t->t<i->a.toList[t]?=some x->∀ y∈b.toList.take j,nk y<=nk x:=λt x a1 a2 hx y hy=>by
  obtain⟨c,hc,e⟩:=n4 hy;have:=(C1 Mk (t:=t) (by rw[VA];exact hx) a2).2 a1;exact V5 (T.hB.get e hu (by omega)) (V6 this)
 have rest:∀ u',b.toList[j - 1]?=some u'->∀ y∈a.toList.take p,nk y<=nk u':=λu' hu' y hy=>by
  rw[hu]at hu';rw[<-oj hu'];obtain⟨c,hc,e⟩:=n4 hy;exact(C1 Mk (t:=c) (by rw[VA];exact e) (by omega)).1 hc
 dsimp only;by_cases k0:i - p>0
 ·refine l7 k0 ?_
  have M3:Mh a.toList b.toList (o++(a.extract p i).reverse).toList.reverse p j:=by
   rw[Hc];exact Mh.moreA T.hA (i - p) (by rw[show p+(i - p)=i by omega];exact M) (by omega) λt x a1 a2=>up t x a1 (by omega)
  by_cases e2:p=0
  ·refine l7 (by simpa using e2) ?_;exact YW ⟨K,.inl ⟨_,_,rfl,T.fin M3 (.inl e2)⟩⟩
  refine l8 (by simpa using e2) ?_;exact Km T hk K M3 (by omega) (by omega) h3 h4 (by omega) rest
 ·refine l8 k0 ?_;have:p=i:=by omega
  subst this;exact Km T hk K M h1 h2 h3 h4 hx rest
end
theorem Mh.nil(A B:List Keyed):Mh A B [] A.length B.length:=⟨by rw[WK,WK];exact .refl _,List.Pairwise.nil,(λ_ h=>nomatch h),λ_ h=>nomatch h⟩
section
variable{prog:YZ}{w:Yc}{A:Yf}{E:YQ->YS->Prop}{s:YS}
theorem So{a b:Array Keyed}{fb:Keyed}(T:Tw a b fb){st:SortSt}{Q:Array Keyed->SortSt->Prop}(hk:kindOf st=Z4)(ha0:1<=a.size)(hll:∀ x,a.toList[a.size - 1]?=some x->∀ y∈b.toList,nk y<=nk x)(q:∀ r z,Ks st z->Res a.toList b.toList r.toList->Q r z):wpS (YX prog w) A E s (Sm a b) Q st:=by
 have la1:a.toList.length=a.size:=UU;have lb1:b.toList.length=b.size:=UU;have hb0:1<=b.size:=by have:=(gM T.hfb).1;omega
 obtain⟨a0,ha,_⟩:=T.gA (i:=a.size - 1) (by omega)
 have M0:Mh a.toList b.toList (#[a0]:Array Keyed).toList.reverse (a.size - 1) b.size:=by
  refine Mh.pushA (O:=[]) ?_ T.hA ha λy hy=>hll a0 ha y (Wf hy);have:=Mh.nil a.toList b.toList;rw[la1,lb1]at this;rw[show a.size - 1+1=a.size by omega];exact this
 refine YU (ZO (Yy ⟨rfl,?_⟩));refine YU (u6 ha ?_);refine t8 (λc1=>?_) λc1=>?_
 ·exact YW (q _ _ (Ks.refl st) (T.fin M0 (.inl (by simpa using c1))))
 replace c1:¬ a.size - 1=0:=by simpa using c1
 refine t8 (λc2=>?_) λc2=>?_
 ·replace c2:b.size=1:=by simpa using c2
  refine YW (q _ _ (Ks.refl st) ?_);rw[c2]at M0 ⊢;exact T.fst M0
 replace c2:¬ b.size=1:=by simpa using c2
 refine YU (wpS_get ?_)
 refine YU (Yq (Yj (I:=λx c z=>∃ i j out g,c=(none,i,j,out,g)/\Ks st z/\Mh a.toList b.toList out.toList.reverse i j/\1<=i/\i<=a.size/\2<=j/\j<=b.size/\x+(i+j)<=a.size+b.size)
  (Q:=λc z=>∃ r d,c=(some r,d)/\Ks st z/\Res a.toList b.toList r.toList) ?out ?no ⟨a.size - 1,b.size,#[a0],_,rfl,Ks.refl st,M0,by omega,by omega,by omega,by omega,by omega⟩) ?beh)
 case beh=>
  exact λc z h=>ex2 c h λr d h=>YW (q r z h.1 h.2)
 case no=>
  rintro c z ⟨i,j,out,g,rfl,K,M,h1,h2,h3,h4,h5⟩;omega
 case out=>
  refine λx c z _ hx h=>ex4 c h λi j out g h=>?_;dsimp only;have K:=h.1;have M:=h.2.1;have h1:=h.2.2.1;have h2:=h.2.2.2.1;have h3:=h.2.2.2.2.1;have h4:=h.2.2.2.2.2.1;have h5:=h.2.2.2.2.2.2;clear h
  refine YU (Yq (Yj (I:=λy c z=>∃ i j out m n,c=(none,i,j,out,m,n)/\Ks st z/\Mh a.toList b.toList out.toList.reverse i j/\1<=i/\i<=a.size/\2<=j/\j<=b.size/\x+y+(i+j)<=a.size+b.size)
   (Q:=λc z=>Ks st z/\((∃ r d,c=(some r,d)/\Res a.toList b.toList r.toList)\/∃ i j out m n,c=(none,i,j,out,m,n)/\Mh a.toList b.toList out.toList.reverse i j/\1<=i/\i<=a.size/\2<=j/\j<=b.size/\x+1+(i+j)<=a.size+b.size)) ?one ?none ⟨i,j,out,0,0,rfl,K,M,h1,h2,h3,h4,by omega⟩) ?two)
  case none=>
   rintro c z ⟨i,j,out,m,n,rfl,K,M,h1,h2,h3,h4,h5⟩;omega
  case one=>
   clear h1 h2 h3 h4 h5 M K;refine λy c z _ hy h=>ex5 c h λi j out m n h=>?_;dsimp only;have K:=h.1;have M:=h.2.1;have h1:=h.2.2.1;have h2:=h.2.2.2.1;have h3:=h.2.2.2.2.1;have h4:=h.2.2.2.2.2.1;have h5:=h.2.2.2.2.2.2;clear h;obtain⟨u,hu,iu⟩:=T.gB (i:=j - 1) (by omega);obtain⟨v,hv,iv⟩:=T.gA (i:=i - 1) (by omega);refine YU (u6 hu ?_);refine YU (u6 hv ?_);refine YU (Hb iu iv (K.k.trans hk) ?_);refine t8 (λw=>?_) λw=>?_
   ·replace w:nk u<nk v:=by simpa using w
    refine YU (u6 hv ?_)
    have M':Mh a.toList b.toList (out.push v).toList.reverse (i - 1) j:=by
     rw[Bh];refine Mh.pushA (by rw[show i - 1+1=i by omega];exact M) T.hA hv λy hy=>?_;obtain⟨p,hp,e⟩:=n4 hy;exact V5 (T.hB.get e hu (by omega)) (V6 w)
    refine t8 (λe=>?_) λe=>?_
    ·exact YW ⟨K,.inl ⟨_,_,rfl,T.fin M' (.inl (by simpa using e))⟩⟩
    replace e:¬ i - 1=0:=by simpa using e
    refine t8 (λ_=>?_) λ_=>?_
    ·exact YW ⟨K,.inr ⟨_,_,_,_,_,rfl,M',by omega,by omega,h3,h4,by omega⟩⟩
    ·exact YW ⟨_,_,_,_,_,rfl,K,M',by omega,by omega,h3,h4,by omega⟩
   ·replace w:¬ nk u<nk v:=by simpa using w
    refine YU (u6 hu ?_)
    have M':Mh a.toList b.toList (out.push u).toList.reverse i (j - 1):=by
     rw[Bh];refine Mh.pushB (by rw[show j - 1+1=j by omega];exact M) T.hB hu λy hy=>?_;obtain⟨p,hp,e⟩:=n4 hy;exact V5 (T.hA.get e hv (by omega)) (Wo.mp w)
    refine t8 (λe=>?_) λe=>?_
    ·replace e:j - 1=1:=by simpa using e
     rw[e]at M' ⊢;exact YW ⟨K,.inl ⟨_,_,rfl,T.fst M'⟩⟩
    replace e:¬ j - 1=1:=by simpa using e
    refine t8 (λ_=>?_) λ_=>?_
    ·exact YW ⟨K,.inr ⟨_,_,_,_,_,rfl,M',h1,h2,by omega,by omega,by omega⟩⟩
    ·exact YW ⟨_,_,_,_,_,rfl,K,M',h1,h2,by omega,by omega,by omega⟩
  case two=>
   clear h1 h2 h3 h4 h5 M K;refine λc z h=>h.2.elim (λR=>ex2 c R λr d R=>YW ⟨r,_,rfl,h.1,R⟩) λh'=>ex5 c h' λi j out m n M=>?_
   ·have K:=h.1;have h1:=M.2.1;have h2:=M.2.2.1;have h3:=M.2.2.2.1;have h4:=M.2.2.2.2.1;have h5:=M.2.2.2.2.2;replace M:=M.1;dsimp only;refine YU (ZO (Yy ⟨rfl,?_⟩))
    refine YU (Yq (Yj (I:=λy c z=>∃ i j o g m n,c=(none,i,j,o,g,m,n)/\Ks st z/\Mh a.toList b.toList o.toList.reverse i j/\1<=i/\i<=a.size/\2<=j/\j<=b.size/\x+1+(i+j)<=a.size+b.size)
     (Q:=PM a b st (x+1)) ?aa ?bb ⟨_,_,_,_,_,_,rfl,K,M,h1,h2,h3,h4,h5⟩) ?cc)
    case aa=>
     clear h1 h2 h3 h4 h5 M K h;refine λy c z _ hy h=>ex6 c h λi j o g m n h=>?_;dsimp only;have K:=h.1;have M:=h.2.1;have h1:=h.2.2.1;have h2:=h.2.2.2.1;have h3:=h.2.2.2.2.1;have h4:=h.2.2.2.2.2.1;have h5:=h.2.2.2.2.2.2;clear h;refine Yq (Q:=NX a b st (x+1)) ?_ λr z h=>?_
     ·refine t8 (λ_=>?_) λ_=>?_
      ·exact Kn T hk (g:=g - 1) (m:=m) (n:=n) K M h1 h2 h3 h4 h5
      ·exact Kn T hk (g:=g) (m:=m) (n:=n) K M h1 h2 h3 h4 h5
     ·cases r with
      | done c=>exact h
      | yield c=>exact h
    case bb=>
     exact λc z h=>ex6 c h λi j o g m n h=>⟨h.1,.inr ⟨_,_,_,_,_,_,rfl,h.2⟩⟩
    case cc=>
     refine λc z h=>h.2.elim (λR=>ex2 c R λr d R=>YW ⟨r,_,rfl,h.1,R⟩) λh'=>ex6 c h' λi j o g m n M=>?_;dsimp only;exact YU (Yp (YW ⟨i,j,o,_,rfl,h.1.gal _,M⟩))
end
theorem Qf(i:Nat):mergeAt' i=(do
 let s <- get
 let (some (sa,na,power),some (sb,nb,_)):=((Ye s)[i]?,(Ye s)[i+1]?) | A0a "internal:list.sort.pending"
 set (Zv s (((Ye s).setIfInBounds i (sa,na+nb,power)).eraseIdxIfInBounds (i+1)))
 let some k <- Er false (<- elem' (arrOf s) sb) (arrOf s) sa na 0 | return false
 let (sa,na):=(sa+k,na - k)
 if na == 0 then return true
 let some nb <- Er true (<- elem' (arrOf s) (sa+na - 1)) (arrOf s) sb nb (nb - 1) | return false
 if nb == 0 then return true
 let x:=(arrOf s).extract sa sb
 let y:=(arrOf s).extract sb (sb+nb)
 let merged <- if na<=nb then Sj x y else Sm x y
 modify λs=>setArr s (merged.toList.zipIdx.foldl (λa (p,j)=>a.setIfInBounds (sa+j) p) (arrOf s))
 return (Yl (<- get)).isNone):=rfl
theorem Hd(sa:Nat):∀(m M:List Keyed) (o:Nat) (P S:List Keyed) (a:Array Keyed),a.toList=P++(M++S)->m.length=M.length->P.length=sa+o->
 ((m.zipIdx o).foldl (λa (x:Keyed×Nat)=>a.setIfInBounds (sa+x.2) x.1) a).toList=P++(m++S)
 | [],[],_,_,_,_,e,_,_=>e
 | p::m,x::M,o,P,S,a,e,hl,hp=>by
   rw[List.zipIdx_cons,Xw]
   have:=Hd sa m M (o+1) (P++[p]) S (a.setIfInBounds (sa+o) p) (by
    rw[Array.toList_setIfInBounds,e,<-hp,XI _ _ (US _),XC,Ui];rfl) (by simpa using hl) (by rw[UR,hp];rfl)
   rw[this,Ui];rfl
 | [],_::_,_,_,_,_,_,h,_=>by simp at h
 | _::_,[],_,_,_,_,_,h,_=>by simp at h
structure Ru(L1 L2:List Keyed)(st:SortSt):Prop where
 k:kindOf st=Z4
 f:Yl st=none
 a:(arrOf st).toList=L1++L2
 u1:Up L1
 u2:Up L2
 ik:∀ x∈L1++L2,Ik x
structure Fi(L:List Keyed)(st:SortSt):Prop where
 f:Yl st=none
 a:(arrOf st).toList.Perm L
 u:Up (arrOf st).toList
 p:(Ye st).size<=1
section
variable{prog:YZ}{w:Yc}{A:Yf}{E:YQ->YS->Prop}{s:YS}
theorem Qg{L1 L2:List Keyed}{st:SortSt}{pw p2:Nat}{Q:Bool->SortSt->Prop}(R:Ru L1 L2 st)(h1:1<=L1.length)(h2:1<=L2.length)(hp:Ye st=#[(0,L1.length,pw),(L1.length,L2.length,p2)])
 (q:∀ z,Fi (L1++L2) z->Q true z):wpS (YX prog w) A E s (mergeAt' 0) Q st:=by
 rw[Qf];refine YU (wpS_get ?_);have e1:(Ye st)[0]?=some (0,L1.length,pw):=by rw[hp];rfl
 have e2:(Ye st)[0+1]?=some (L1.length,L2.length,p2):=by rw[hp];rfl
 simp only[e1,e2];refine YU (Yp (f:=λ_=>Zv st (((Ye st).setIfInBounds 0 (0,L1.length+L2.length,pw)).eraseIdxIfInBounds (0+1))) ?_);generalize hz:Zv st (((Ye st).setIfInBounds 0 (0,L1.length+L2.length,pw)).eraseIdxIfInBounds (0+1))=z0;have zk:kindOf z0=Z4:=by rw[<-hz];exact R.k
 have za:arrOf z0=arrOf st:=by rw[<-hz]
 have zf:Yl z0=none:=by rw[<-hz];exact R.f
 have zp:(Ye z0).size<=1:=by
  rw[<-hz];show(((Ye st).setIfInBounds 0 (0,L1.length+L2.length,pw)).eraseIdxIfInBounds (0+1)).size<=1;rw[hp];simp[Array.eraseIdxIfInBounds]
 have ll:(arrOf st).toList.length=L1.length+L2.length:=by rw[R.a,UR]
 have ls:(arrOf st).size=L1.length+L2.length:=by rw[<-UU];exact ll
 have gA:∀{i x},L1[i]?=some x->(arrOf st).toList[i]?=some x:=λ{i x} h=>by
  rw[R.a,Ud (gM h).1];exact h
 have gB:∀{i x},L2[i]?=some x->(arrOf st).toList[L1.length+i]?=some x:=λ{i x} h=>by
  rw[R.a,Uw (by omega),show L1.length+i - L1.length=i by omega];exact h
 have gA':∀{i x},i<L1.length->(arrOf st).toList[i]?=some x->L1[i]?=some x:=λ{i x} h e=>by
  rw[R.a,Ud h]at e;exact e
 have gB':∀{i x},L1.length<=i->(arrOf st).toList[i]?=some x->L2[i - L1.length]?=some x:=λ{i x} h e=>by
  rw[R.a,Uw h]at e;exact e
 have ik:∀ x∈(arrOf st).toList,Ik x:=λx hx=>R.ik x (by rw[<-R.a];exact hx);have hb0:=UM (show 0<L2.length by omega);have hal:=UM (show L1.length - 1<L1.length by omega);generalize L2[0]=b0 at hb0;generalize L1[L1.length - 1]=al at hal;have ib0:=ik b0 (UO (gB hb0));have ial:=ik al (UO (gA hal));have whole:(∀ x∈L1,∀ y∈L2,nk x<=nk y)->Fi (L1++L2) z0:=λh=>⟨zf,by rw[za,R.a],by rw[za,R.a];exact R.u1.app R.u2 h,zp⟩
 refine YU (u6 (by have:=gB hb0;rwa [Xi]at this) ?_);refine YU (Dj zk ib0 ik (λi j x y _ a1 a2 a3 a4=>R.u1.get (gA' (by omega) a3) (gA' (by omega) a4) a1) (by omega) (by omega) λk Mk=>?_);have kl:=Mk.le;have fy:∀ t x,L1[t]?=some x->(t<k->nk x<=nk b0)/\(k<=t->nk b0<nk x):=λt x hx=>C1 Mk (t:=t) (by rw[VA];exact gA hx) (gM hx).1;dsimp only;by_cases c1:L1.length - k=0
 ·refine l7 (by simpa using c1) ?_;refine YW (q _ (whole λx hx y hy=>?_));obtain⟨i,hi⟩:=VQ hx;obtain⟨j,hj⟩:=VQ hy;have:=(gM hi).1;exact V5 ((fy i x hi).1 (by omega)) (R.u2.get hb0 hj (by omega))
 refine l8 (by simpa using c1) ?_;refine YU (u6 (by rw[show 0+k+(L1.length - k) - 1=L1.length - 1 by omega];exact gA hal) ?_);refine YU (Dj zk ial ik (λi j x y a0 a1 a2 a3 a4=>R.u2.get (gB' (by omega) a3) (gB' (by omega) a4) (by omega)) (by omega) (by omega) λm Mm=>?_);have ml:=Mm.le;have sy:∀ t x,L2[t]?=some x->(t<m->nk x<nk al)/\(m<=t->nk al<=nk x):=λt x hx=>Cg Mm (t:=t) (gB hx) (gM hx).1;dsimp only;by_cases c2:m=0
 ·refine l7 (by simpa using c2) ?_;refine YW (q _ (whole λx hx y hy=>?_));obtain⟨i,hi⟩:=VQ hx;obtain⟨j,hj⟩:=VQ hy;have:=(gM hi).1;exact V5 (R.u1.get hi hal (by omega)) ((sy j y hj).2 (by omega))
 refine l8 (by simpa using c2) ?_
 have ex:((arrOf st).extract (0+k) L1.length).toList=L1.drop k:=by
  rw[A4,R.a,VA,List.drop_append_of_le_length kl,List.take_append_of_le_length (by rw[Vx];exact US _),VV (by rw[Vx];exact US _)]
 have ey:((arrOf st).extract L1.length (L1.length+m)).toList=L2.take m:=by
  rw[A4,R.a,List.drop_left,show L1.length+m - L1.length=m by omega]
 have sx:((arrOf st).extract (0+k) L1.length).size=L1.length - k:=by rw[<-UU,ex,Vx]
 have sY:((arrOf st).extract L1.length (L1.length+m)).size=m:=by rw[<-UU,ey,VJ];omega
 generalize (arrOf st).extract (0+k) L1.length=x at ex sx ⊢;generalize (arrOf st).extract L1.length (L1.length+m)=y at ey sY ⊢;have ia:∀ u∈x.toList,Ik u:=λu hu=>R.ik u (Um _ (XQ (by rw[<-ex];exact hu)));have ib:∀ u∈y.toList,Ik u:=λu hu=>R.ik u (Uo _ (Wf (by rw[<-ey];exact hu)));have hA:Up x.toList:=by rw[ex];exact CP R.u1 k
 have hB:Up y.toList:=by rw[ey];exact BG R.u2 m
 have xa:x.toList[x.size - 1]?=some al:=by rw[ex,Vq,sx,show k+(L1.length - k - 1)=L1.length - 1 by omega];exact hal
 have yb:y.toList[0]?=some b0:=by rw[ey,Wp,iP (by omega)];exact hb0
 have lt1:∀ u∈y.toList,nk u<nk al:=λu hu=>by
  rw[ey]at hu;obtain⟨i,hi,e⟩:=n4 hu;exact(sy i u e).1 hi
 have lt2:∀ u∈x.toList,nk b0<nk u:=λu hu=>by
  rw[ex]at hu;obtain⟨i,hi,e⟩:=m7 hu;exact(fy i u e).2 hi
 have fin:∀(r:Array Keyed) (z:SortSt),Ks z0 z->Res x.toList y.toList r.toList->Q true (setArr z (r.toList.zipIdx.foldl (λa (p:Keyed×Nat)=>a.setIfInBounds (0+k+p.2) p.1) (arrOf z))):=λr z K Rs=>by
  have pr:=Rs.1;have ur:=Rs.2;rw[ex,ey]at pr;have lr:r.toList.length=(L1.drop k++L2.take m).length:=pr.length_eq
  have ez:(arrOf z).toList=L1.take k++((L1.drop k++L2.take m)++L2.drop m):=by
   rw[K.a,za,R.a,Ui,Va,<-Ui,Va]
  have bk:=Hd (0+k) r.toList (L1.drop k++L2.take m) 0 (L1.take k) (L2.drop m) (arrOf z) ez lr (by rw[VJ];omega);have mr:∀ u∈r.toList,u∈L1.drop k\/u∈L2.take m:=λu hu=>Ul.mp (pr.mem_iff.mp hu);refine q _ ⟨K.f.trans zf,?_,?_,by show(Ye z).size<=1;rw[K.p];exact zp⟩
  ·show(r.toList.zipIdx.foldl (λa (p:Keyed×Nat)=>a.setIfInBounds (0+k+p.2) p.1) (arrOf z)).toList.Perm _;rw[bk];refine((pr.append_right (L2.drop m)).append_left (L1.take k)).trans ?_;rw[<-ez,K.a,za,R.a]
  ·show Up (r.toList.zipIdx.foldl (λa (p:Keyed×Nat)=>a.setIfInBounds (0+k+p.2) p.1) (arrOf z)).toList;rw[bk];refine(BG R.u1 k).app (ur.app (CP R.u2 m) ?_) ?_
   ·intro u hu v hv;obtain⟨j,hj,ej⟩:=m7 hv;rcases mr u hu with h | h
    ·obtain⟨i,hi,ei⟩:=m7 h;have:=(gM ei).1;exact V5 (R.u1.get ei hal (by omega)) ((sy j v ej).2 hj)
    ·obtain⟨i,hi,ei⟩:=n4 h;exact R.u2.get ei ej (by omega)
   ·intro u hu v hv;obtain⟨i,hi,ei⟩:=n4 hu;have a1:=(fy i u ei).1 hi;rcases Ul.mp hv with hv | hv
    ·rcases mr v hv with h | h
     ·obtain⟨j,hj,ej⟩:=m7 h;exact R.u1.get ei ej (by omega)
     ·obtain⟨j,hj,ej⟩:=n4 h;exact V5 a1 (R.u2.get hb0 ej (by omega))
    ·obtain⟨j,hj,ej⟩:=m7 hv;exact V5 a1 (R.u2.get hb0 ej (by omega))
 have tail:∀(r:Array Keyed) (z:SortSt),Ks z0 z->Res x.toList y.toList r.toList->wpS (YX prog w) A E s (do
  modify λs=>setArr s (r.toList.zipIdx.foldl (λa (p,j)=>a.setIfInBounds (0+k+j) p) (arrOf s))
  return (Yl (<- get)).isNone) Q z:=λr z K Rs=>by
  refine YU (Yp (YU (wpS_get (YW ?_))));have:=fin r z K Rs;have e:(Yl z).isNone=true:=by rw[K.f,zf];rfl
  show Q (Yl z).isNone _;rw[e];exact this
 by_cases c3:L1.length - k<=m
 ·refine l7 c3 ?_;refine YU (Sl (la:=al) ⟨ia,ib,hA,hB,xa,lt1⟩ zk (by omega) (λu v a1 a2=>?_) λr z K Rs=>tail r z K Rs);rw[yb]at a2;rw[<-oj a2];exact V6 (lt2 u (UO a1))
 ·refine l8 c3 ?_;refine YU (So (fb:=b0) ⟨ia,ib,hA,hB,yb,lt2⟩ zk (by omega) (λu a1 v hv=>?_) λr z K Rs=>tail r z K Rs);rw[xa]at a1;rw[<-oj a1];exact V6 (lt1 v hv)
end
theorem He{xs:Array Keyed}{i:Nat}{x:Keyed}(h:xs.toList[i]?=some x):K xs i=nk x:=by
 rw[V0]at h;unfold K;rw[h];rfl
theorem PN{xs:Array Keyed}{lo k:Nat}(h:Sg xs lo k):Up ((xs.toList.drop lo).take k):=by
 refine W0.mpr λi j hi hj hij=>?_;have a1:=UM hi;have a2:=UM hj;have jk:j<k:=by rw[VJ]at hj;omega
 rw[Wp,iP (by omega),Vq]at a1 a2;rw[<-He a1,<-He a2];exact h i j (by omega) jk
theorem Sq{xs:Array Keyed}(h:Up xs.toList):ZG xs xs.size:=λi j hij hj=>by
 have a1:=UM (show i<xs.toList.length by rw[UU];omega);have a2:=UM (show j<xs.toList.length by rw[UU];omega);rw[He a1,He a2];exact h.get a1 a2 hij
theorem Sg.pre{xs ys:Array Keyed}{n:Nat}(h:Sg xs 0 n)(e:∀ i,i<n->ys[i]?=xs[i]?):Sg ys 0 n:=λi j hij hj=>by
 have k:∀ i,i<n->K ys (0+i)=K xs (0+i):=λi hi=>by unfold K;rw[VA,e i hi]
 rw[k i (by omega),k j hj];exact h i j hij hj
structure Lv(a₀:Array Keyed)(st:SortSt):Prop where
 perm:(arrOf st).Perm a₀
 kind:kindOf st=Z4
 failed:Yl st=none
 runs:((Ye st).size<=1/\ZG (arrOf st) a₀.size)\/∃ n1 pw,1<=n1/\n1<a₀.size/\Ye st=#[(0,n1,pw),(n1,a₀.size - n1,0)]/\Sg (arrOf st) 0 n1/\Sg (arrOf st) n1 (a₀.size - n1)
section
variable{prog:YZ}{w:Yc}{A:Yf}{E:YQ->YS->Prop}{s:YS}{a₀:Array Keyed}
theorem Lv.one{st:SortSt}(h:Sb a₀ a₀ 0 #[] st)(g:Sg (arrOf st) 0 a₀.size):Lv a₀ (Zv st ((Ye st).push (0,a₀.size,0))):=
 ⟨h.perm,h.kind,h.failed,.inl ⟨by show((Ye st).push _).size<=1;rw[h.pend];exact US 1,λi j hij hj=>by have:=g i j hij hj;rwa [VA,VA]at this⟩⟩
theorem Ko{st:SortSt}{Q:Bool->SortSt->Prop}(h0:IntKeys a₀){n1 pw:Nat}(h1:1<=n1)(h2:n1<a₀.size)(L:Lv a₀ st)(hp:Ye st=#[(0,n1,pw),(n1,a₀.size - n1,0)])(g1:Sg (arrOf st) 0 n1)(g2:Sg (arrOf st) n1 (a₀.size - n1))
 (q:∀ z,(arrOf z).Perm a₀->Yl z=none->ZG (arrOf z) a₀.size->(Ye z).size<=1->Q true z):wpS (YX prog w) A E s (mergeAt' 0) Q st:=by
 have sz:(arrOf st).toList.length=a₀.size:=by rw[UU];exact L.perm.size_eq
 have l1:((arrOf st).toList.take n1).length=n1:=by rw[VJ];omega
 have l2:((arrOf st).toList.drop n1).length=a₀.size - n1:=by rw[Vx];omega
 have e:=Va n1 (arrOf st).toList;refine Qg (L1:=(arrOf st).toList.take n1) (L2:=(arrOf st).toList.drop n1) (pw:=pw) (p2:=0) ⟨L.kind,L.failed,e.symm,?_,?_,?_⟩ (by omega) (by omega) (by rw[l1,l2];exact hp) λz F=>?_
 ·have:=PN g1;rwa [WZ]at this
 ·have:=PN g2;rwa [VV (by omega)]at this
 ·intro x hx;rw[e]at hx;exact h0 x (L.perm.toList.mem_iff.mp hx)
 ·have pm:(arrOf z).toList.Perm a₀.toList:=by have:=F.a;rw[e]at this;exact this.trans L.perm.toList
  have pz:(arrOf z).Perm a₀:=Wq.mpr pm;have:=Sq F.u;rw[pz.size_eq]at this;exact q z pz F.f this F.p
theorem Hf{st:SortSt}{Q:Unit->SortSt->Prop}(h0:IntKeys a₀)(hB:SBase a₀ st)(h64:64<=a₀.size)(h128:a₀.size<128)
 (h:∀ st',(arrOf st').Perm a₀->Yl st'=none->ZG (arrOf st') a₀.size->Q () st'):wpS (YX prog w) A E s A12 Q st:=by
 rw[sortRuns'_eq];refine YU (wpS_get ?_);dsimp only
 obtain⟨mr,hmr,m1,m2⟩:∃ mr,minRun' a₀.size a₀.size 0=mr/\a₀.size<=2 * mr/\1<=mr/\mr<a₀.size:=by
  refine⟨a₀.size / 2+max 0 (a₀.size % 2),?_,by omega,by omega,by omega⟩;obtain⟨f,hf⟩:∃ f,a₀.size=f+1+1:=⟨a₀.size - 2,by omega⟩
  have:minRun' (f+1+1) a₀.size 0=a₀.size / 2+max 0 (a₀.size % 2):=by rw[minRun'_succ,iG (by omega),minRun'_succ,iP (by omega)]
  rwa [<-hf]at this
 simp only[hB.size,hmr];have S0:Sb a₀ a₀ 0 #[] st:=⟨hB.perm,hB.kind,hB.failed,hB.pend,λi hi=>by omega⟩
 refine YU (Yq (Yj
  (I:=λx c z=>(x=0/\c=(none,0)/\Sb a₀ a₀ 0 #[] z)\/(x=1/\∃ n1,c=(none,n1)/\mr<=n1/\n1<a₀.size/\Sb a₀ (arrOf z) n1 #[(0,n1,0)] z/\Sg (arrOf z) 0 n1)\/(1<=x/\c=(none,a₀.size)/\Lv a₀ z))
  (Q:=λc z=>c=(none,a₀.size)/\Lv a₀ z) ?step ?fin (.inl ⟨rfl,rfl,S0⟩)) ?post)
 case fin=>
  rintro c z (⟨hx,_,_⟩ | ⟨hx,_⟩ | ⟨_,hc,hD⟩)
  ·omega
  ·omega
  ·exact⟨hc,hD⟩
 case step=>
  rintro x c z _ hx (⟨rfl,rfl,hB'⟩ | ⟨rfl,n1,rfl,hn1,hn2,hB',g1⟩ | ⟨hx1,rfl,hD⟩)
  ·dsimp only;refine l8 (by omega) ?_
   have go:∀ n z,Sb a₀ a₀ 0 #[] z->mr<=n->n<=a₀.size->Sg (arrOf z) 0 n->wpS (YX prog w) A E s (do
    modify λs=>Zv s ((Ye s).push (0,n,0))
    pure (ForInStep.yield ((none:Option Unit),0+n))) (λr st'=>match r with
    | .done b=>b=(none,a₀.size)/\Lv a₀ st'
    | .yield b=>(0+1=0/\b=(none,0)/\Sb a₀ a₀ 0 #[] st')\/(0+1=1/\∃ n1,b=(none,n1)/\mr<=n1/\n1<a₀.size/\Sb a₀ (arrOf st') n1 #[(0,n1,0)] st'/\Sg (arrOf st') 0 n1)\/(1<=0+1/\b=(none,a₀.size)/\Lv a₀ st')) z:=λn z S a1 a2 g=>by
    refine YU (Yp (YW ?_));by_cases e:n=a₀.size
    ·subst e;exact .inr (.inr ⟨by omega,by rw[VA],Lv.one S g⟩)
    ·exact .inr (.inl ⟨rfl,n,by rw[VA],a1,by omega,⟨S.perm,S.kind,S.failed,by show(Ye z).push _=_;rw[S.pend];rfl,λ_ _=>rfl⟩,g⟩)
   refine YU (run_at h0 (by omega) (by omega) hB' λm z2 S2 a1 a2 g2=>?_);dsimp only;by_cases hlt:m<mr
   ·refine l7 hlt ?_;refine YU (ZO (Yy ⟨rfl,?_⟩));refine YU (ins_at h0 (by omega) (by omega) S2 g2 λz3 S3 g3=>?_);rw[iG (by decide)];refine YU (wpS_get ?_);have hb:(Ye z3).back?=none:=by rw[S3.pend];rfl
    rw[hb];dsimp only;exact go _ z3 S3 (by omega) (by omega) g3
   ·refine l8 hlt ?_;refine YU (wpS_get ?_);have hb:(Ye z2).back?=none:=by rw[S2.pend];rfl
    rw[hb];dsimp only;exact go _ z2 S2 (by omega) (by omega) g2
  ·dsimp only;refine l8 (by omega) ?_;refine YU (run_at h0 (by omega) (by omega) hB' λm z2 S2 a1 a2 g2=>?_);dsimp only;by_cases hlt:m<mr
   ·refine l7 hlt ?_;refine YU (ZO (Yy ⟨rfl,?_⟩));refine YU (ins_at h0 (by omega) (by omega) S2 g2 λz3 S3 g3=>?_);rw[iG (by decide)];refine YU (wpS_get ?_);have hb:(Ye z3).back?=some (0,n1,0):=by rw[S3.pend];rfl
    rw[hb];dsimp only;have e:min (a₀.size - n1) mr=a₀.size - n1:=by omega
    refine YU (Yq (Yj (I:=λ_ c z''=>z''=z3/\c=(none,())) (Q:=λc z''=>z''=z3/\c=(none,())) ?_ (λ_ _ hh=>hh) ⟨rfl,rfl⟩) ?_)
    ·rintro y c z'' _ _ ⟨rfl,rfl⟩;refine YU (wpS_get ?_);rw[iG (by rw[S3.pend];exact Vr 1)];exact YW ⟨rfl,rfl⟩
    ·rintro c z'' ⟨rfl,rfl⟩;refine YU (Yp (YU (Yp (YW ?_))));refine .inr (.inr ⟨by omega,by rw[e,show n1+(a₀.size - n1)=a₀.size by omega],S3.perm,S3.kind,S3.failed,.inr ⟨n1,power' a₀.size (2 * 0+n1) (2 * 0+n1+n1+min (a₀.size - n1) mr) a₀.size,by omega,hn2,?_,g1.pre S3.pre,by rw[<-e];exact g3⟩⟩);show((Ye _).modify ((Ye _).size - 1) _).push (n1,min (a₀.size - n1) mr,0)=_;rw[S3.pend];generalize power' a₀.size (2 * 0+n1) (2 * 0+n1+n1+min (a₀.size - n1) mr) a₀.size=pw;rw[e];rfl
   ·refine l8 hlt ?_;refine YU (wpS_get ?_);have hb:(Ye z2).back?=some (0,n1,0):=by rw[S2.pend];rfl
    rw[hb];dsimp only;have e:m=a₀.size - n1:=by omega
    refine YU (Yq (Yj (I:=λ_ c z''=>z''=z2/\c=(none,())) (Q:=λc z''=>z''=z2/\c=(none,())) ?_ (λ_ _ hh=>hh) ⟨rfl,rfl⟩) ?_)
    ·rintro y c z'' _ _ ⟨rfl,rfl⟩;refine YU (wpS_get ?_);rw[iG (by rw[S2.pend];exact Vr 1)];exact YW ⟨rfl,rfl⟩
    ·rintro c z'' ⟨rfl,rfl⟩;refine YU (Yp (YU (Yp (YW ?_))));refine .inr (.inr ⟨by omega,by rw[e,show n1+(a₀.size - n1)=a₀.size by omega],S2.perm,S2.kind,S2.failed,.inr ⟨n1,power' a₀.size (2 * 0+n1) (2 * 0+n1+n1+m) a₀.size,by omega,hn2,?_,g1.pre S2.pre,by rw[<-e];exact g2⟩⟩);show((Ye _).modify ((Ye _).size - 1) _).push (n1,m,0)=_;rw[S2.pend];generalize power' a₀.size (2 * 0+n1) (2 * 0+n1+n1+m) a₀.size=pw;rw[e];rfl
  ·dsimp only;refine l7 (US _) ?_;exact YW ⟨rfl,hD⟩
 case post=>
  rintro c z ⟨rfl,hD⟩;dsimp only
  refine YU (Yq (Yj (I:=λx c z=>c=(none,())/\((x=0/\Lv a₀ z)\/((arrOf z).Perm a₀/\Yl z=none/\ZG (arrOf z) a₀.size/\(Ye z).size<=1)))
   (Q:=λc z=>c=(none,())/\(arrOf z).Perm a₀/\Yl z=none/\ZG (arrOf z) a₀.size) ?one ?two ⟨rfl,.inl ⟨rfl,hD⟩⟩) ?beh)
  case two=>
   rintro c z ⟨rfl,⟨e,_⟩ | ⟨b1,b2,b3,b4⟩⟩
   ·omega
   ·exact⟨rfl,b1,b2,b3⟩
  case beh=>
   rintro c z ⟨rfl,b1,b2,b3⟩;exact YW (h _ b1 b2 b3)
  case one=>
   have stop:∀ z,(arrOf z).Perm a₀->Yl z=none->ZG (arrOf z) a₀.size->(Ye z).size<=1->True:=λ_ _ _ _ _=>trivial;rintro x c z _ _ ⟨rfl,⟨rfl,L⟩ | ⟨b1,b2,b3,b4⟩⟩
   ·refine YU (wpS_get ?_);rcases L.runs with⟨r1,r2⟩ | ⟨n1,pw,r1,r2,r3,r4,r5⟩
    ·refine l7 r1 ?_;exact YW ⟨rfl,L.perm,L.failed,r2⟩
    ·rw[iG (by rw[r3];exact(by decide:¬ (2:Nat)<=1))];have ei:(Ye z).size - 2=0:=by rw[r3];rfl
     rw[ei];refine YU (Ko h0 r1 r2 L r3 r4 r5 λz' c1 c2 c3 c4=>?_);exact YW ⟨rfl,.inr ⟨c1,c2,c3,c4⟩⟩
   ·refine YU (wpS_get ?_);refine l7 b4 ?_;exact YW ⟨rfl,b1,b2,b3⟩
end
section
variable{prog:YZ}{w:Yc}{A:Yf}{E:YQ->YS->Prop}{s:YS}
theorem Iz{a:YT}{vs:List YQ}{ns:List Int}{n:Nat}{P:Fin->YS->Prop}(ho:s.heap.get? a=some (seqObj "list" vs.toArray n))(hI:IntsAre vs ns)(h64:64<=vs.length)(h128:vs.length<128)
 (h:∀(out:Array YQ) (ns':List Int),IntsAre out.toList ns'->ns'.Perm ns->ns'.Pairwise (·<=·)->P (.done (.ret .none)) {s with heap:=sortedHeap s.heap a vs out}):
 YY (YX prog w) A (Builtin.«list.sort» ⟨[.ref a],[]⟩) P E s:=by
 rw[list_sort_plain];refine YR (A0q ho rfl (YR (ZI ho rfl ?_)));obtain⟨e1,ho1⟩:∃ e1,(s.heap.update a (Obj.mapSeq λ_=>#[])).get? a=some (seqObj "list" #[] e1):=⟨_,ZK ho (λ_=>#[])⟩
 refine YR (A0b ho1 rfl (YR (A0c (YR (ZR (Yn ?_))))))
 have ho6:(((s.heap.update a (Obj.mapSeq λ_=>#[])).push (seqObj "tuple" vs.toArray 0)).push (seqObj "list" #[] 0)).get? a=some (seqObj "list" #[] e1):=
  UP _ (UP _ ho1)
 show YY (YX prog w) A _ P E {s with heap:=((s.heap.update a (Obj.mapSeq λ_=>#[])).push (seqObj "tuple" vs.toArray 0)).push (seqObj "list" #[] 0)};dsimp only;have c:¬ vs.toArray.size<2:=by simp;omega
 rw[iG c,iG c]
 match vs,hI,h64 with
 | v::u::vs,hI,h64=>
   rw[keyKind_ints hI];refine YR (YV ?_)
   refine YR (Yo (Hf (a₀:=pairsOf (v::u::vs)) (st:=SortSt.mk' Z4 (pairsOf (v::u::vs)) #[] 7 none)
    (Q:=λ_ z=>(arrOf z).Perm (pairsOf (v::u::vs))/\Yl z=none/\ZG (arrOf z) (pairsOf (v::u::vs)).size)
    hI.intKeys ⟨Xa.refl _,rfl,rfl,rfl⟩ (by rw[A0r];exact h64) (by rw[A0r];exact h128) λz a1 a2 a3=>⟨a1,a2,a3⟩) ?_ λ_ _ e=>e)
   rintro⟨⟨⟩,z⟩ s' ⟨rfl,hp,hf,hs⟩;obtain⟨ns',b1,b2,b3⟩:=sorted_out hI hp hs;dsimp only;refine YR (A0b ho6 rfl (YR (ZI ho6 rfl ?_ (hsz2:=by refine Ux (XD ((Y2 ..).trans (hp.size_eq.trans (A0r _)))) ?_;rw[ZT];omega))));rw[hf];simp only[bne_self_eq_false,V2,if_false];exact YV (h _ ns' b1 b2 b3)
theorem sort_all{a:YT}{vs:List YQ}{ns:List Int}{n:Nat}{P:Fin->YS->Prop}(ho:s.heap.get? a=some (seqObj "list" vs.toArray n))(hI:IntsAre vs ns)(h128:vs.length<128)
 (h:∀(out:Array YQ) (ns':List Int),IntsAre out.toList ns'->ns'.Perm ns->ns'.Pairwise (·<=·)->P (.done (.ret .none)) {s with heap:=sortedHeap s.heap a vs out}):
 YY (YX prog w) A (Builtin.«list.sort» ⟨[.ref a],[]⟩) P E s:=by
 rcases W5 vs.length 64 with c | c
 ·exact list_sort_tree ho hI c h
 ·exact Iz ho hI c h128 h
theorem sorted_all{l:YT}{vs:List YQ}{ns:List Int}{Q:YQ->YS->Prop}(hl:s.heap.IsList l vs.toArray)(hI:IntsAre vs ns)(h128:vs.length<128)
 (h:∀(out:Array YQ) (ns':List Int),IntsAre out.toList ns'->ns'.Perm ns->ns'.Pairwise (·<=·)->Q (.ref (s.heap.objs.size+1)) {s with heap:=sortedAll s.heap vs out}):
 YY (YX prog w) A (call (.builtin "sorted") [.ref l]) Q E s:=by
 refine Calls.call_function_entry A0F A0s A0t (args_sorted1 _) ?_;unfold Builtin.«sorted»;refine YR (m:=A0Q "sorted" 1 1 _) (YV (YR (collect_list hl (YR (ZR ?_)))));have hz:((s.heap.push (seqObj "list" #[] 0)).update s.heap.objs.size (Obj.mapSeq (·++vs.toArray))).objs.size=s.heap.objs.size+1:=by rw[Wc,A0R]
 have hg:(((s.heap.push (seqObj "list" #[] 0)).update s.heap.objs.size (Obj.mapSeq (·++vs.toArray))).push (seqObj "list" vs.toArray 0)).get? (s.heap.objs.size+1)=some (seqObj "list" vs.toArray 0):=by
  rw[<-hz];exact UY _ rfl
 show YY _ _ _ _ _ {s with heap:=((s.heap.push (seqObj "list" #[] 0)).update s.heap.objs.size (Obj.mapSeq (·++vs.toArray))).push (seqObj "list" vs.toArray 0)};rw[hz];exact YR (Yn (Yt A0d ⟨_,hg,rfl⟩ Zz (sort_all hg hI h128 λout ns' a1 a2 a3=>⟨_,rfl,YV ⟨_,rfl,h out ns' a1 a2 a3⟩⟩) (A0S _)))
end
end Srt
namespace L2
open PySem PySem.Spec PyProof.Rows
section
variable{X:Cx}
theorem EB:CallR X (.builtin "sorted") (λxs H Q=>∃ p ns,xs=[.ref p]/\SqL X.K H p (ns.map V.int)/\ns.length<128/\∀ l,H l=none->Q (.ref l) (upd H l (.lst ((srt ns).map V.int)))):=by
 intro pins s σ H xs us Q I r h;obtain⟨p,ns,rfl,hq,hb,q⟩:=h;obtain⟨u,rfl,rx⟩:=AS r;cases rx;obtain⟨its,r',pl,hz⟩:=I.list hq;have hlen:=r'.length;rw[UQ]at hlen;refine Srt.sorted_all pl.isList (AF r') (by omega) λout ns' a1 a2 a3=>?_;obtain⟨e,he⟩:=sortedAll_at s.heap its out;have en:=GF a2 a3;subst en;refine⟨.ref (s.heap.objs.size+1),_,I.laid (t':=s.toks) (λb o h=>sortedAll_old h) (WJ _) (show ObjOk X.prog X.w _ _ _ (.lst ((srt ns).map V.int)) from ⟨?_,out.toList,e,C0 a1,by simpa using he⟩),rfl,q _ (I.hok.fresh (WJ _))⟩;rw[UQ,a2.length_eq];exact Ux (Vf hb) (by decide)
end
end L2
namespace Srt
open PySem PySem.Spec PyProof.Rows
section
variable{prog:YZ}{w:Yc}{A:Yf}{E:YQ->YS->Prop}{s:YS}{a₀:Array Keyed}
theorem runs_any{st:SortSt}{Q:Unit->SortSt->Prop}(h0:IntKeys a₀)(hB:SBase a₀ st)(h2:2<=a₀.size)(h128:a₀.size<128)
 (h:∀ st',(arrOf st').Perm a₀->Yl st'=none->ZG (arrOf st') a₀.size->Q () st'):wpS (YX prog w) A E s A12 Q st:=by
 rcases W5 a₀.size 64 with c | c
 ·exact wpS_sortRuns h0 hB h2 c λst' p f o=>h st' p f o
 ·exact Hf h0 hB c h128 h
end
end Srt
namespace L2
open PySem PySem.Spec PyProof.Rows
mutual
noncomputable def Dat(H:Hp):V->PyData->Prop
 | x,.none=>x = .non
 | x,.bool b=>x = .bl b
 | x,.int i=>x = .int i
 | x,.str s=>x = .str s
 | x,.list ds=>∃ a xs,x = .ref a/\H a=some (.lst xs)/\DatAll H xs ds
 | x,.tuple ds=>∃ a xs,x = .ref a/\H a=some (.tup xs)/\DatAll H xs ds
 | _,.dict _=>False
noncomputable def DatAll(H:Hp):List V->List PyData->Prop
 | [],[]=>True
 | x::xs,d::ds=>Dat H x d/\DatAll H xs ds
 | [],_::_=>False
 | _::_,[]=>False
end
mutual
theorem Dat.mono{H H':Hp}(k:∀ b o,H b=some o->H' b=some o):∀(x:V) (d:PyData),Dat H x d->Dat H' x d
 | _,.none,h=>by unfold Dat at h ⊢;exact h
 | _,.bool _,h=>by unfold Dat at h ⊢;exact h
 | _,.int _,h=>by unfold Dat at h ⊢;exact h
 | _,.str _,h=>by unfold Dat at h ⊢;exact h
 | x,.list ds,h=>by
   unfold Dat at h ⊢;obtain⟨a,xs,e,h1,h2⟩:=h;exact⟨a,xs,e,k _ _ h1,DatAll.mono k xs ds h2⟩
 | x,.tuple ds,h=>by
   unfold Dat at h ⊢;obtain⟨a,xs,e,h1,h2⟩:=h;exact⟨a,xs,e,k _ _ h1,DatAll.mono k xs ds h2⟩
 | _,.dict _,h=>by unfold Dat at h;exact h.elim
theorem DatAll.mono{H H':Hp}(k:∀ b o,H b=some o->H' b=some o):∀(xs:List V) (ds:List PyData),DatAll H xs ds->DatAll H' xs ds
 | [],[],_=>by unfold DatAll;trivial
 | x::xs,d::ds,h=>by
   unfold DatAll at h ⊢;exact⟨Dat.mono k x d h.1,DatAll.mono k xs ds h.2⟩
 | [],_::_,h=>by unfold DatAll at h;exact h.elim
 | _::_,[],h=>by unfold DatAll at h;exact h.elim
end
section
variable{X:Cx}{pins:List (YT×Obj)}{σ:St}{H:Hp}{s:YS}
mutual
theorem Inv.reads(I:Inv X pins σ H s):∀(x:V) (d:PyData) (v:YQ),Dat H x d->RelV x v->∃ as,Reads s.heap v d as
 | _,.none,_,h,r=>by unfold Dat at h;subst h;cases r;exact⟨_,.none⟩
 | _,.bool _,_,h,r=>by unfold Dat at h;subst h;cases r;exact⟨_,.bool _⟩
 | _,.int _,_,h,r=>by unfold Dat at h;subst h;obtain⟨t,rfl⟩:=r;exact⟨_,.int _ _⟩
 | _,.str _,_,h,r=>by unfold Dat at h;subst h;obtain⟨t,rfl⟩:=r;exact⟨_,.str _ _⟩
 | x,.list ds,v,h,r=>by
   unfold Dat at h;obtain⟨a,xs,rfl,h1,h2⟩:=h;cases r;obtain⟨its,rv,pl,_⟩:=I.list (SqL.of h1);obtain⟨o,n,ho,hc,_,hd⟩:=pl;obtain⟨as,ra⟩:=Inv.readsAll I xs ds its h2 rv;exact⟨_,.list ho hc hd (by simpa using ra)⟩
 | x,.tuple ds,v,h,r=>by
   unfold Dat at h;obtain⟨a,xs,rfl,h1,h2⟩:=h;cases r;obtain⟨its,rv,pl,_⟩:=I.tuple (SqT.of h1);obtain⟨o,ho,hc,n,hd⟩:=pl;obtain⟨as,ra⟩:=Inv.readsAll I xs ds its h2 rv;exact⟨_,.tuple ho hc hd (by simpa using ra)⟩
 | _,.dict _,_,h,_=>by unfold Dat at h;exact h.elim
theorem Inv.readsAll(I:Inv X pins σ H s):∀(xs:List V) (ds:List PyData) (vs:List YQ),DatAll H xs ds->Vals xs vs->∃ as,ReadsAll s.heap vs ds as
 | [],[],_,_,r=>by cases r;exact⟨_,.nil⟩
 | x::xs,d::ds,_,h,r=>by
   unfold DatAll at h;cases r with
   | cons r1 r2=>
     obtain⟨as,ra⟩:=Inv.reads I x d _ h.1 r1;obtain⟨bs,rb⟩:=Inv.readsAll I xs ds _ h.2 r2;exact⟨_,.cons ra rb⟩
 | [],_::_,_,h,_=>by unfold DatAll at h;exact h.elim
 | _::_,[],_,h,_=>by unfold DatAll at h;exact h.elim
end
end
mutual
theorem Dat.noDict{H:Hp}:∀(x:V) (d:PyData),Dat H x d->d.hasDict=false
 | _,.none,_=>by simp only[PyData.hasDict]
 | _,.bool _,_=>by simp only[PyData.hasDict]
 | _,.int _,_=>by simp only[PyData.hasDict]
 | _,.str _,_=>by simp only[PyData.hasDict]
 | x,.list ds,h=>by
   unfold Dat at h;obtain⟨a,xs,e,h1,h2⟩:=h;simp only[PyData.hasDict];exact DatAll.noDict xs ds h2
 | x,.tuple ds,h=>by
   unfold Dat at h;obtain⟨a,xs,e,h1,h2⟩:=h;simp only[PyData.hasDict];exact DatAll.noDict xs ds h2
 | _,.dict _,h=>by unfold Dat at h;exact h.elim
theorem DatAll.noDict{H:Hp}:∀(xs:List V) (ds:List PyData),DatAll H xs ds->PyData.hasDictAll ds=false
 | [],[],_=>by simp only[PyData.hasDictAll]
 | x::xs,d::ds,h=>by
   unfold DatAll at h;simp only[PyData.hasDictAll,Wh];exact⟨Dat.noDict x d h.1,DatAll.noDict xs ds h.2⟩
 | [],_::_,h=>by unfold DatAll at h;exact h.elim
 | _::_,[],h=>by unfold DatAll at h;exact h.elim
end
noncomputable def Es:PyData->Str
 | .str x=>x
 | d=>d.shown
section
variable{X:Cx}
structure Fit(d:PyData):Prop where
 sh:d.showable=true
 sz:d.shown.length<=Yb
 dp:d.depth<=40
theorem J0(hg:X.A.guards=some [])(hu:X.A.units+100<cLine):CallR X (.type "str") (λxs H Q=>∃ x d,xs=[x]/\Dat H x d/\Fit d/\Q (.str (Es d)) H):=by
 intro pins s σ H xs us Q I r h;obtain⟨x,d,rfl,hd,f,q⟩:=h;obtain⟨u,rfl,ru⟩:=AS r
 have refs:∀ a,u = .ref a->(∀ z,d ≠ .str z)->YY (YX X.prog X.w) X.A (call (.type "str") [u]) (EP X pins σ Q) X.xe s:=λa e hn=>by
  subst e;obtain⟨as,rd⟩:=I.reads x d _ hd ru;refine str_of_reads rd f.sh (PyData.noDict_hsm (Dat.noDict x d hd)) hg (by have:=f.dp;omega) (λ_ _ e=>e) (λh' u tk hk=>?_) f.sz;refine⟨.str d.shown,H,I.kept (t':=tk) hk,⟨_,rfl⟩,?_⟩
  have e:Es d=d.shown:=by
   cases d with
   | str z=>exact absurd rfl (hn z)
   | _=>rfl
  rw[<-e];exact q
 cases d with
 | none=>unfold Dat at hd;subst hd;cases ru;exact P.str_of_none ⟨.str "None",H,I.tok _,⟨_,rfl⟩,q⟩
 | bool b=>unfold Dat at hd;subst hd;cases ru;exact P.str_of_bool ⟨.str (if b then "True" else "False"),H,I.tok _,⟨_,rfl⟩,by cases b<;>exact q⟩
 | int i=>unfold Dat at hd;subst hd;obtain⟨t,rfl⟩:=ru;exact P.str_of_int (by have:=f.sh;simpa[PyData.showable] using this) ⟨.str (toString i),H,I.tok _,⟨_,rfl⟩,q⟩
 | str z=>unfold Dat at hd;subst hd;obtain⟨t,rfl⟩:=ru;exact P.str_of_str ⟨.str z,H,I,⟨_,rfl⟩,q⟩
 | list ds=>
   have hd':=hd;unfold Dat at hd';obtain⟨a,xs,rfl,_⟩:=hd';exact refs a ru (λz e=>nomatch e)
 | tuple ds=>
   have hd':=hd;unfold Dat at hd';obtain⟨a,xs,rfl,_⟩:=hd';exact refs a ru (λz e=>nomatch e)
 | dict _=>unfold Dat at hd;exact hd.elim
end
section
variable{X:Cx}{a b:Expr}{ta:TE}{pos:Pos}
theorem J1:OpR X (Yk .IsNot) (λx y H Q=>∃ c d,x = .bl c/\y = .bl d/\Q (.bl (c != d)) H):=by
 intro pins s σ H x y v u Q I rx ry h;obtain⟨c,d,rfl,rfl,q⟩:=h;cases rx;cases ry;exact isnot_bool ⟨.bl (c != d),H,I,rfl,q⟩
end
theorem b_set:Yd "set"=some (.type "set"):=by decide +kernel
section
variable{prog:YZ}{w:Yc}{A:Yf}{E:YQ->YS->Prop}{s:YS}
noncomputable def IsPr(h:Heap)(v:YQ)(a b:Int):Prop:=∃ p o n t u,v = .ref p/\h.get? p=some o/\o.cls = .type "tuple"/\o.data = .seq #[.int a t,.int b u] n
theorem IsPr.at{h h':Heap}{v:YQ}{a b:Int}(x:IsPr h v a b)(k:∀ p o,h.get? p=some o->o.cls = .type "tuple"->h'.get? p=some o):IsPr h' v a b:=by
 obtain⟨p,o,n,t1,t2,e,ho,hc,hd⟩:=x;exact⟨p,o,n,t1,t2,e,k p o ho hc,hc,hd⟩
end
noncomputable def Up(xs:Array Nat):Prop:=∀ i j (hi:i<xs.size) (hj:j<xs.size),i<j->xs[i]<xs[j]
theorem up_list{xs:Array Nat}:Up xs↔xs.toList.Pairwise (·<·):=by
 rw[W0]
 exact⟨λh i j hi hj hij=>by simpa using h i j (by simpa using hi) (by simpa using hj) hij,λh i j hi hj hij=>by
  have:=h i j (by simpa using hi) (by simpa using hj) hij
  rwa [XR,XR]at this⟩
theorem Kp{xs:Array Nat}(hu:Up xs)(j:Nat):∀(f lo hi:Nat),hi<=xs.size->lo<=hi->hi - lo<=f->(∀ i (h:i<xs.size),i<lo->xs[i]<j)->(∀ i (h:i<xs.size),hi<=i->j<=xs[i])->
 (SetTable.below.go xs j f lo hi)<=xs.size/\(∀ i (h:i<xs.size),i<SetTable.below.go xs j f lo hi->xs[i]<j)/\(∀ i (h:i<xs.size),SetTable.below.go xs j f lo hi<=i->j<=xs[i]):=by
 intro f
 induction f with
 | zero=>
   intro lo hi h1 h2 h3 h4 h5;have:lo=hi:=by omega
   subst this;unfold SetTable.below.go;exact⟨h1,h4,h5⟩
 | succ f ih=>
   intro lo hi h1 h2 h3 h4 h5;unfold SetTable.below.go;by_cases hlh:lo<hi
   ·rw[iP hlh];have hm:(lo+hi) / 2<xs.size:=by omega
    have e:xs.getD ((lo+hi) / 2) j=xs[(lo+hi) / 2]:=by simp[Y3,hm]
    dsimp only;rw[e];by_cases hc:xs[(lo+hi) / 2]<j
    ·rw[iP hc];refine ih _ _ h1 (by omega) (by omega) (λi h hi'=>?_) h5;by_cases z:i=(lo+hi) / 2
     ·subst z;exact hc
     ·exact YH (hu i _ h hm (by omega)) hc
    ·rw[iG hc];refine ih _ _ (by omega) (by omega) (by omega) h4 (λi h hi'=>?_);by_cases z:i=(lo+hi) / 2
     ·subst z;omega
     ·have:=hu _ i hm h (by omega);omega
   ·rw[iG hlh];have:lo=hi:=by omega
    subst this;exact⟨h1,h4,h5⟩
theorem Et{xs:Array Nat}(hu:Up xs)(j:Nat):SetTable.below xs j<=xs.size/\(∀ i (h:i<xs.size),i<SetTable.below xs j->xs[i]<j)/\(∀ i (h:i<xs.size),SetTable.below xs j<=i->j<=xs[i]):=
 Kp hu j xs.size 0 xs.size (US _) (VX _) (by omega) (λi _ h=>absurd h (W3 _)) (λi h h'=>absurd h (Nat.not_lt.mpr h'))
theorem Qh{xs:Array Nat}(hu:Up xs){j:Nat}(hn:xs[SetTable.below xs j]?≠some j):Up (SetTable.insertAt xs (SetTable.below xs j) j):=by
 obtain⟨h1,h2,h3⟩:=Et hu j;rw[up_list,SetTable.toList_insertAt];have hl:=up_list.mp hu
 have hgt:∀ i (h:i<xs.size),SetTable.below xs j<=i->j<xs[i]:=by
  intro i h hi;have:=h3 i h hi;by_cases z:SetTable.below xs j=i
  ·have:xs[i]≠j:=λe=>hn (by rw[z];simp[h,e]);omega
  ·have a:=hu _ i (by omega) h (Xb hi z);have b:=h3 (SetTable.below xs j) (by omega) (US _);omega
 rw[W6];refine⟨hl.take,?_,?_⟩
 ·rw[WB];refine⟨λy hy=>?_,hl.drop⟩;obtain⟨i,hi,e⟩:=Vj.mp hy;rw[Xj]at e;have hi':SetTable.below xs j+i<xs.size:=by simp at hi;omega
  have:=hgt _ hi' (Wd _ _);rw[<-e];simpa using this
 ·intro x hx y hy;obtain⟨i,hi,e⟩:=Vj.mp hx;have hib:i<SetTable.below xs j:=by simp at hi;omega
  have hx':x<j:=by
   rw[<-e,List.getElem_take];have:=h2 i (by omega) hib;simpa using this
  rcases Ub.mp hy with rfl | hy
  ·exact hx'
  ·obtain⟨k,hk,e2⟩:=Vj.mp hy;rw[Xj]at e2;have hk':SetTable.below xs j+k<xs.size:=by simp at hk;omega
   have:=hgt _ hk' (Wd _ _);have h:xs.toList[SetTable.below xs j+k]'(by simpa using hk')=xs[SetTable.below xs j+k]:=by simp
   rw[h]at e2;omega
structure Tab(w:Yc)(t:Yr):Prop where
 up:Up t.place
 no:t.dummies=#[]
 led:t.led=!w.params.followText "set-order"
theorem Kq{w:Yc}{t:Yr}(T:Tab w t)(j:Nat):t.slot j ≠ .dummy:=by
 unfold SetTable.slot;rw[T.no];dsimp only;split
 ·exact λz=>nomatch z
 ·have:SetTable.has #[] j=false:=rfl;rw[this];exact λz=>nomatch z
theorem Qi{w:Yc}{t:Yr}(T:Tab w t)(g:Nat->Int)(h:Int):∀(f:Nat) (p:SetTable.Probe) (j:Nat) (d:Option Nat),p.dummy=none->SetTable.probe.go t g h f p=some (.empty j d)->t.slot j = .empty/\d=none:=by
 intro f
 induction f with
 | zero=>intro p j d _ e;unfold SetTable.probe.go at e;cases e
 | succ f ih=>
   intro p j d hp e
   have adv:∀ q:SetTable.Probe,q.dummy=none->(t.advance q).dummy=none:=by
    intro q hq;unfold SetTable.advance;split
    ·exact hq
    ·exact hq
   unfold SetTable.probe.go at e;split at e
   ·rename_i hs;cases e;exact⟨hs,hp⟩
   ·rename_i hs;exact absurd hs (Kq T _)
   ·split at e
    ·cases e
    ·exact ih _ _ _ (adv _ hp) e
theorem Kr{w:Yc}{t:Yr}(T:Tab w t){h:Int}{j:Nat}{b:Bool}(e:t.freeSlot h=some (j,b)):t.place[SetTable.below t.place j]?≠some j:=by
 unfold SetTable.freeSlot at e;split at e
 ·rename_i j' d hp;unfold SetTable.probe at hp;obtain⟨hs,hd⟩:=Qi T _ _ _ _ _ _ rfl hp;subst hd;cases e;unfold SetTable.slot at hs;dsimp only[Option.getD_none]at hs ⊢;split at hs
  ·cases hs
  ·rename_i hn;intro z;exact hn (by rw[z];simp)
 ·cases e
theorem BH{w:Yc}{t:Yr}(T:Tab w t)(n:Nat):Tab w (t.standIn n):=by
 refine⟨?_,rfl,T.led⟩;show Up (Array.range n);intro i j hi hj hij;simpa using hij
theorem Qj{w:Yc}{t:Yr}(T:Tab w t)(n:Nat):Tab w (t.orStandIn n):=by
 unfold SetTable.orStandIn;split
 ·exact T
 ·exact BH T n
theorem NY{w:Yc}{t:Yr}(T:Tab w t)(es:Array (Int×YQ))(h:Int)(x:YQ):Tab w (layNew t es h x).2.1:=by
 unfold layNew;split
 ·rename_i j b e;refine Qj (t:=(t.put j).1) ⟨Qh T.up (Kr T e),?_,T.led⟩ _;show(if SetTable.has t.dummies j=true then _ else t.dummies)=#[];rw[T.no];rfl
 ·exact BH T _
theorem J3{w:Yc}{t:Yr}(T:Tab w t)(es:Array (Int×YQ))(n:Nat):Tab w (A0e t es n).2.1:=by
 unfold A0e;split
 ·rename_i t' order e;dsimp only;split
  ·unfold SetTable.relaid SetTable.laid at e;obtain⟨owner,_,e⟩:=Option.bind_eq_some_iff.mp e;have e':=oj e;have e1:=congrArg Prod.fst e';subst e1;refine⟨?_,rfl,T.led⟩;rw[up_list]
   have key:∀ l:List Nat,l.Pairwise (·<·)->((l.filterMap λj=>(owner.getD j none).map (j,·)).map (·.1)).Pairwise (·<·):=by
    intro l hl
    have:(l.filterMap λj=>(owner.getD j none).map (j,·)).map (·.1)=l.filter λj=>(owner.getD j none).isSome:=by
     induction l with
     | nil=>rfl
     | cons a l ih=>
       have ih:=ih (WB.mp hl).2;cases ho:owner.getD a none with
       | none=>rw[Wx (by rw[ho];rfl),List.filter_cons_of_neg (by rw[ho];simp),ih]
       | some b=>rw[Wy (b:=(a,b)) (by rw[ho];rfl),List.filter_cons_of_pos (by rw[ho];rfl),Uv,ih]
    rw[this];exact hl.filter _
   simpa using key _ List.pairwise_lt_range
  ·exact BH T _
 ·exact BH T _
noncomputable def SetX(prog:YZ)(w:Yc)(h:Heap)(a:YT)(L:List Int):Prop:=
 ∃ o es ep t,h.get? a=some o/\o.ExactSet/\o.data = .set es ep t/\ElemsOf (intKind prog w) es.toList/\es.size<ZD/\t.fits es.size=true/\Tab w t/\(es.toList.map λe=>numOf e.2).Perm L
section
variable{prog:YZ}{w:Yc}{A:Yf}{E:YQ->YS->Prop}{s:YS}
theorem SetX.keep{h h':Heap}{a:YT}{L:List Int}(x:SetX prog w h a L)(k:∀ o,h.get? a=some o->h'.get? a=some o):SetX prog w h' a L:=by
 obtain⟨o,es,ep,t,ho,r⟩:=x;exact⟨o,es,ep,t,k o ho,r⟩
theorem CQ{k:Int}{v:YQ}(h:(intKind prog w).is k v=true):numOf v=k:=by
 obtain⟨t,rfl⟩:=Value.isInt_shape (k:=k) (v:=v) h;rfl
theorem Kt{h:Heap}{a:YT}{o:Obj}{es es':Array (Int×YQ)}{ep:Nat}{t t':Yr}{L:List Int}(ho:h.get? a=some o)(hx:o.ExactSet)(hd:o.data = .set es ep t)
 (he:ElemsOf (intKind prog w) es'.toList) (hb:es'.size<ZD) (hf:t'.fits es'.size=true) (hT:Tab w t') (hp:(es'.toList.map λe=>numOf e.2).Perm L):
 (h.update a (Obj.putSet es' t')).get? a=some {o with data := .set es' (ep+1) t'}/\SetX prog w (h.update a (Obj.putSet es' t')) a L:=by
 have g:=VD (Obj.putSet es' t') ho (by rw[putSet_of es' t' hd];rfl);rw[putSet_of es' t' hd]at g;exact⟨g,_,es',ep+1,t',g,hx,rfl,he,hb,hf,hT,hp⟩
theorem PP{g:Bool->Sem Unit}(hg:∀(b:Bool) (s₁:YS) (Q':Unit->YS->Prop),Q' () s₁->YY (YX prog w) A (g b) Q' E s₁){a:YT}{o:Obj}{es es1:Array (Int×YQ)}{ep:Nat}{t t2:Yr}{L:List Int}{dm:Bool}
 {R:Option Bool->YS->Prop} (ho:s.heap.get? a=some o) (hx:o.ExactSet) (hd:o.data = .set es ep t) (he:ElemsOf (intKind prog w) es1.toList) (hb:es1.size<ZD) (hf:t2.fits es1.size=true) (hT:Tab w t2) (hp:(es1.toList.map λe=>numOf e.2).Perm L)
 (h:∀ h',Uz a s.heap h'->SetX prog w h' a L->R (some true) {s with heap:=h'}):
 YY (YX prog w) A (do
  storeSet a es1 t2
  if (!dm&&t2.tooFull)=true then do
      g (A0e t2 es1 (SetTable.grown es1.size)).2.2
      storeSet a (A0e t2 es1 (SetTable.grown es1.size)).1 (A0e t2 es1 (SetTable.grown es1.size)).2.1
      pure (some true)
   else pure (some true)) R E s:=by
 obtain⟨g1,x1⟩:=Kt (prog:=prog) ho hx hd he hb hf hT hp;have b1:=Uz.update s.heap a (Obj.putSet es1 t2);refine YR (A0u ho hd ?_ (Zj hb));by_cases hc:(!dm&&t2.tooFull)=true
 ·rw[iP hc];have hpr:=relayAll_perm t2 es1 (SetTable.grown es1.size);have hfr:=relayAll_fits t2 es1 (SetTable.grown es1.size);have hTr:=J3 hT es1 (SetTable.grown es1.size)
  have hsz:(A0e t2 es1 (SetTable.grown es1.size)).1.size<ZD:=by
   rw[<-UU,hpr.length_eq,UU];exact hb
  obtain⟨_,x2⟩:=Kt (prog:=prog) g1 hx rfl (he.perm hpr) hsz hfr hTr ((hpr.map _).trans hp);exact YR (hg _ _ _ (YR (A0u g1 rfl (YV (h _ (b1.trans (Uz.update _ a _)) x2)) (Zj hsz))))
 ·rw[iG hc];exact YV (h _ b1 x1)
theorem U6{a:YT}{L:List Int}{k:Int}{tk:Tok}{Q:Bool->YS->Prop}(hX:SetX prog w s.heap a L)(hroom:L.length+1<ZD)
 (h:∀ h' b,Uz a s.heap h'->SetX prog w h' a (Zg L k)->Q b {s with heap:=h'}):YY (YX prog w) A (setAddHashed a (.int k tk) ((intKind prog w).hash k)) Q E s:=by
 obtain⟨o,es,ep,t,ho,hx,hd,hel,hb,hf,hT,hp⟩:=hX;have hkey:(intKind prog w).is k (.int k tk)=true:=A0T _ _ _ _;have hsz:es.size=L.length:=by rw[<-hp.length_eq,UQ,UU]
 unfold setAddHashed setAddHashedIn;refine Yn (YR (Z5 ho hd hf ?_));dsimp only;rw[byScan_of (knd:=intKind prog w) rfl hb hel,iP rfl];unfold setAddByScan;refine YR (YR (Yy (YR (wpAny_setScan_of hkey ho hd hf hel ?_))))
 have hin:(L.any (· == k))=true↔∃ e∈es.toList,(intKind prog w).is k e.2=true:=by
  rw[VL];constructor
  ·rintro⟨x,hxL,e⟩;obtain⟨y,hy,ey⟩:=VH.mp (hp.mem_iff.mpr hxL);obtain⟨⟨k',hk',_⟩,_⟩:=hel y hy;have:numOf y.2=k':=CQ hk';have:k'=k:=by rw[<-this,ey];simpa using e
   subst this;exact⟨y,hy,hk'⟩
  ·rintro⟨y,hy,hk'⟩;refine⟨k,hp.mem_iff.mp (VH.mpr ⟨y,hy,CQ hk'⟩),by simp⟩
 cases hr:List.findIdx? (λe=>(intKind prog w).is k e.2) es.toList with
 | some j=>
   obtain⟨hj,hpj,_⟩:=List.findIdx?_eq_some_iff_getElem.mp hr;have hL:Zg L k=L:=by unfold Zg;rw[iP (hin.mpr ⟨_,W8 hj,hpj⟩)]
   refine YV (YV ?_);exact h s.heap _ (Uz.refl a s.heap) (by rw[hL];exact⟨o,es,ep,t,ho,hx,hd,hel,hb,hf,hT,hp⟩)
 | none=>
   have hL:Zg L k=L++[k]:=by
    unfold Zg;rw[iG];intro z;obtain⟨e,he,hk'⟩:=hin.mp z;have:=List.findIdx?_eq_none_iff.mp hr e he;rw[hk']at this;cases this
   have q1:=layNew_perm t es ((intKind prog w).hash k) (.int k tk);have q2:=layNew_fits t es ((intKind prog w).hash k) (.int k tk);have q3:=NY hT es ((intKind prog w).hash k) (.int k tk);generalize layNew t es ((intKind prog w).hash k) (.int k tk)=lay at q1 q2 q3 ⊢;obtain⟨es1,t1,dm,gv⟩:=lay;dsimp only at q1 q2 q3 ⊢;rw[Vm]at q1;have he1:ElemsOf (intKind prog w) es1.toList:=(hel.push hkey rfl).perm q1
   have hz1:es1.size<ZD:=by
    rw[<-UU,q1.length_eq,UR,UU,hsz];simpa using hroom
   have hp1:(es1.toList.map λe=>numOf e.2).Perm (Zg L k):=by
    rw[hL];refine(q1.map _).trans ?_;rw[VI];exact hp.append_right _
   have hgw:∀(b:Bool) (s₁:YS) (Q':Unit->YS->Prop),Q' () s₁->YY (YX prog w) A (match b with | true=>rule "set.scan.the-table-gave-way" | false=>pure ()) Q' E s₁:=
    λb s₁ Q' hq=>by cases b<;>first | exact YV hq | exact Yy hq
   refine YR (hgw _ _ _ ?_);split
   ·refine YR ?_;rw[hashByValue_scannable 8 rfl];refine YV (PP hgw ho hx hd he1 hz1 q2 q3 hp1 λh' hsb hX'=>?_);exact YV (h h' _ hsb hX')
   ·refine YR (YV ?_);rw[iP rfl];refine PP hgw ho hx hd he1 hz1 q2 q3 hp1 λh' hsb hX'=>?_;exact YV (h h' _ hsb hX')
end
section
variable{prog:YZ}{w:Yc}{A:Yf}{R:Result->YS->Prop}{I:YT}{fp wr:List YT}{G:Array A04->Array A04->Prop}{n:Nat}{P:Nat->YQ->Prop}{St:Nat->YS->Prop}
theorem Sr(W:WalksS prog w A.in1 I fp wr G n P St)(S:YT)(hSf:S∉fp)(val:Nat->Int)(hval:∀ i v,P i v->∃ t,v = .int (val i) t)(hb:n+1<ZD):
 ∀(k i:Nat) (s:YS),i+k=n->St i s->SetX prog w s.heap S (ZU val i)->
  (∀ s',Moved (S::wr) G s s'->SetX prog w s'.heap S (ZU val n)->R (.ok (.ret .none)) s')->
  codeAny (YX prog w) A (.builtin "set.update.loop" ⟨[.ref S,.ref I],[]⟩) R s:=by
 have nw:S∉wr:=λz=>hSf (W.sub _ z);have up:∀ b∈wr,b∈S::wr:=λb hb=>Uc _ hb;intro k
 induction k with
 | zero=>
   intro i s hk hst hX hR;obtain rfl:i=n:=hk;refine Z2 F.entry_set_update_loop ?_;rw[Around.under_plainId F.plain_set_update_loop _];exact YR (m:=pyNext (.ref I)) (W.done s _ _ hst λs' hm=>YV (hR s' (hm.mono up) (hX.keep λo e=>hm.heap S o nw e)))
 | succ k ih=>
   intro i s hk hst hX hR;refine Z2 F.entry_set_update_loop ?_;rw[Around.under_plainId F.plain_set_update_loop _];refine YR (m:=pyNext (.ref I)) (W.item i s _ _ (by omega) hst λv s1 hP st1 hm=>?_);obtain⟨t,rfl⟩:=hval i v hP;refine YR (m:=holding [Value.int (val i) t] (setAdd S (.int (val i) t))) (Yn ?_);unfold setAdd;have X1:SetX prog w s1.heap S (ZU val i):=hX.keep λo e=>hm.heap S o nw e;have room:(ZU val i).length+1<ZD:=by have:=Zh val i;omega
   refine Yn (YR ((intKind prog w).pyHash (k:=val i) (A0T _ _ _ _) ?_));refine U6 (s:={s1 with toks:=s1.toks+1}) X1 room λh2 b hsb X2=>?_;rw[<-firstMet_succ]at X2;have oth:∀ b o,b≠S->s1.heap.get? b=some o->h2.get? b=some o:=λb o hne e=>(hsb.2 b hne).trans e;refine YV ⟨ZS F.plain_set_update_loop _,ih (i+1) _ (by omega) (W.frame _ s1 _ _ st1 (WJ _) λb hbf o e=>oth b o (λz=>hSf (z▸hbf)) e) X2 λs3 m3 X3=>?_⟩;exact hR s3 (Moved.trans W.gtrans ((hm.mono up).then_heap (WJ _) λb o hb e=>oth b o (λz=>hb (by rw[z];exact Uh)) e) m3) X3
end
section
variable{prog:YZ}{w:Yc}{A:Yf}{E:YQ->YS->Prop}{s:YS}
noncomputable abbrev Ai(w:Yc):Obj:={cls := .type "set",dict:=none,data := .set #[] 0 (.fresh 0 0 (!w.params.followText "set-order"))}
theorem Ss(a:YQ){Q₁:YQ->YS->Prop}(h:Q₁ (.ref s.heap.objs.size) {s with heap:=s.heap.push (Ai w)}):codeAny (YX prog w) A (.call (.builtin "set.__new__") ⟨[.type "set",a],[]⟩) (wants Q₁ E) s:=by
 refine A00 ?_;show YY _ A.in1 (checkBuiltinCall "set.__new__" ⟨[.type "set",a],[]⟩ >>= λ_=>again (.builtin "set.__new__" ⟨[.type "set",a],[]⟩)) _ _ s;refine YR (A0E (F.newCall_set_1 a) (YV ⟨ZS F.plain_set_new _,Z2 F.entry_set_new ?_⟩));rw[Around.under_plainId F.plain_set_new _];unfold Builtin.«set.__new__» Builtin.Frozenset.newClass;have sub:=sub_set_self;obtain⟨hp,g,d,tk,os⟩:=s;dsimp only
 wp_walk
 refine Zr (YV ?_);dsimp only;simp only[newObj];exact YR (wpAny_alloc (YV (YV h)))
theorem Ku(h:Heap):SetX prog w (h.push (Ai w)) h.objs.size []:=
 ⟨_,#[],0,_,UY _ rfl,⟨rfl,rfl,rfl⟩,rfl,λe he=>by simp at he,by decide,rfl,⟨λi j hi=>absurd hi (W3 _),rfl,rfl⟩,by simp⟩
set_option maxHeartbeats 8000000 in
theorem Su{l:YT}{items:Array YQ}{ns:List Int}{Q:YQ->YS->Prop}(hh:A.handled=none)(hl:s.heap.IsList l items)(hi:IntsAre items.toList ns)(hb:items.size+1<ZD)
 (h:∀(h':Heap) (tk:Nat),SetX prog w h' s.heap.objs.size (ZU (λi=>ns.getD i 0) items.size)->(∀ b o,b<s.heap.objs.size->s.heap.get? b=some o->h'.get? b=some o)->Q (.ref s.heap.objs.size) {s with heap:=h',toks:=tk}):
 YY (YX prog w) A (call (.type "set") [.ref l]) Q E s:=by
 obtain⟨c,tl,hmro⟩:=F.called_set.mro;have made:=F.called_set.made;have sub:=F.called_set.sub;have u1:=F.called_set.notType;have u2:=F.called_set.canCreate;have u3:=F.typeCall_set_1 (.ref l);refine A0k (A00 ?_);show YY _ _ (callAny (.type "set") _) _ _ _;refine YV ⟨Code.quiet_builtin _ (by decide +kernel),Z2 F.entry_type_call ?_⟩;rw[Around.under_plain (A02 "set" [.ref l] []) rfl]
 repeat (any_goals (first | assumption | wp_step))
 refine Z3 (Ss (.ref l) (E:=E) (Q₁:=λobj s₁=>obj = .ref s.heap.objs.size/\s₁={s with heap:=s.heap.push (Ai w)}) ⟨rfl,rfl⟩) λr s₁ hr=>?_;cases r with
 | error e=>exact hr
 | ok fl=>
   cases fl with
   | ret obj=>
     obtain⟨rfl,rfl⟩:=hr;have gS:(s.heap.push (Ai w)).get? s.heap.objs.size=some (Ai w):=UY _ rfl;have hT:Shared.TypeIs {s with heap:=s.heap.push (Ai w)} (.ref s.heap.objs.size) "set":=⟨_,gS,rfl⟩
     have u4:=F.called_set.init.lookup;have u5:=F.called_set.init.bind (.ref s.heap.objs.size)
     repeat (any_goals (first | assumption | wp_step))
     refine Z3 (A0f (R:=wants (λr s₂=>r = .none/\∃ h' tk,s₂={s with heap:=h',toks:=tk}/\SetX prog w h' s.heap.objs.size (ZU (λi=>ns.getD i 0) items.size)/\
      (∀ b o,b<s.heap.objs.size->s.heap.get? b=some o->h'.get? b=some o)) E) F.called_set.init.plain F.entry_set_init (A0B hT ?_)) λr₂ s₂ hr₂=>?_
     ·obtain⟨⟨cl,di,da,sl⟩,ol,cl',nl,da'⟩:=hl;simp only at cl' da';subst cl' da';have hol:(s.heap.push (Ai w)).get? l=some {cls := .type "list",dict:=di,data := .seq items nl,slots:=sl}:=UP _ ol;have v1:=F.sub_list_set;have v2:=F.sub_list_frozenset;have v3:(Value.type "list" == Value.type "dict")=false:=by decide
      have hl1:(s.heap.push (Ai w)).IsList l items:=⟨_,hol,rfl,nl,rfl⟩
      unfold Builtin.«set.__init__» noKeywords Builtin.Frozenset.updateFrom;generalize hPI:pyIter=PI
      wp_walk
      subst hPI;refine ZN hl1 (YR (A0g ?_));have lS:l<s.heap.objs.size:=UX ol;have z1:(s.heap.push (Ai w)).objs.size=s.heap.objs.size+1:=VO _ _;have lI:l≠(s.heap.push (Ai w)).objs.size:=by rw[z1];exact Ug (W4 lS)
      have hSf:s.heap.objs.size∉[(s.heap.push (Ai w)).objs.size,l]:=by
       rw[z1];intro z;rcases Ub.mp z with z | z
       ·exact absurd z (Ug (X5 _))
       ·exact absurd (UT.mp z) (Xf lS)
      have hval:∀(i:Nat) (v:YQ),items[i]?=some v->∃ t,v = .int ((λi=>ns.getD i 0) i) t:=λi v hv=>IntsAre.int_at hi i v (by rw[V0];exact hv)
      refine Sr ((Walks.list (by simp[hh]) _ l lI items).toS) s.heap.objs.size hSf (λi=>ns.getD i 0) hval hb items.size 0 _ (VA _)
       ⟨⟨_,UY _ rfl,rfl,rfl⟩,hl1.push _⟩ ((Ku s.heap).keep λo e=>UP _ e) λs' hm X'=>?_
      obtain⟨h',g',d',tk',os'⟩:=s';obtain rfl:g'=s.gens:=hm.gens;obtain rfl:d'=s.drawn:=hm.drawn;obtain rfl:os'=s.os:=hm.os;refine YV (YV ⟨rfl,h',tk',rfl,X',λb o hb e=>hm.heap b o (λz=>?_) (UP _ (UP _ e))⟩);rcases Ub.mp z with z | z
      ·exact absurd z (Ug hb)
      ·have z':=UT.mp z;rw[z1]at z';exact absurd z' (Ug (W4 hb))
     ·cases r₂ with
      | error e=>exact hr₂
      | ok fl₂=>
        cases fl₂ with
        | ret r=>
          obtain⟨rfl,h',tk,rfl,X',hk'⟩:=hr₂
          repeat (any_goals (first | assumption | wp_step))
          exact h _ _ X' hk'
        | _=>exact hr₂.elim
   | _=>exact hr.elim
end
namespace SiF
theorem slot_si_next:Slot "set_iterator" "__next__" "set_iterator.__next__":=
 .of (owner:="set_iterator") (n:="__next__") (by rw[A0H,A03];kernel_rfl) (by decide +kernel) (by decide +kernel) (by decide +kernel)
  (by first | exact .inl (by decide +kernel) | exact .inr (by decide +kernel)) (by rw[A0U];kernel_rfl)
theorem entry_si_next:entryFor table "set_iterator.__next__"=some Builtin.«set_iterator.__next__»:=entryFor_of_fast (by kernel_rfl)
theorem args_si_next(a:YQ):argsOk "set_iterator.__next__" ⟨[a],[]⟩:=by unfold argsOk;kernel_rfl
theorem slot_si_iter:Slot "set_iterator" "__iter__" "set_iterator.__iter__":=
 .of (owner:="set_iterator") (n:="__iter__") (by rw[A0H,A03];kernel_rfl) (by decide +kernel) (by decide +kernel) (by decide +kernel)
  (by first | exact .inl (by decide +kernel) | exact .inr (by decide +kernel)) (by rw[A0U];kernel_rfl)
theorem entry_si_iter:entryFor table "set_iterator.__iter__"=some Builtin.«dict_keyiterator.__iter__»:=A0V (id':="dict_keyiterator.__iter__") (by kernel_rfl) rfl (by decide +kernel) (by kernel_rfl)
theorem args_si_iter(a:YQ):argsOk "set_iterator.__iter__" ⟨[a],[]⟩:=by unfold argsOk;kernel_rfl
theorem entry_set_iter:entryFor table "set.__iter__"=some Builtin.«frozenset.__iter__»:=A0V (id':="frozenset.__iter__") (by kernel_rfl) rfl (by decide +kernel) (by kernel_rfl)
end SiF
theorem erase_perm{α:Type}:∀{l:List α} {i:Nat} (h:i<l.length),(l[i]::l.eraseIdx i).Perm l
 | a::l,0,h => .rfl
 | a::l,i+1,h=>(List.Perm.swap a _ _).trans ((erase_perm (l:=l) (i:=i) (by simpa using h)).cons a)
section
variable{prog:YZ}{w:Yc}{A:Yf}{E:YQ->YS->Prop}
theorem NZ{src:Source}{n:Nat}(hn:n≠0){s:YS}{Q:Nat->YS->Prop}(h:∀ i d,i<n->Q i {s with drawn:=d}):YY (YX prog w) A (choose src n) Q E s:=by
 intro Γ p hΓ;show Sem.wp _ _ (.choose src n .pure) _ _ _ _;rw[Sem.wp_choose];exact⟨hn,h _ _ (Y4 _ (Nat.pos_of_ne_zero hn))⟩
theorem PQ{α:Type}:∀(n:Nat) (xs:List α) (s:YS) (Q:List α->YS->Prop),xs.length=n->(∀ ys d,ys.Perm xs->Q ys {s with drawn:=d})->YY (YX prog w) A (A13 n xs) Q E s
 | 0,xs,s,Q,hl,h=>by
   unfold A13;have:xs=[]:=Wi hl;subst this;exact YV (h [] s.drawn .rfl)
 | n+1,[],s,Q,hl,h=>by cases hl
 | n+1,x::xs,s,Q,hl,h=>by
   unfold A13;refine YR (NZ (by simp) λi d hi=>?_);rw[UM hi];dsimp only;refine YR (PQ n _ _ _ (by rw[Wr hi];simp at hl ⊢;omega) λys d' hp=>YV (h _ d' ?_));exact((hp.cons _)).trans (erase_perm hi)
end
theorem Hg{α:Type}(f:Nat->Nat):∀(n k:Nat) (left:List α) (out:Array α),left.length=n->(pickOrder.go f n k left out).toList.Perm (out.toList++left)
 | 0,k,left,out,hl=>by
   have:left=[]:=Wi hl;subst this;unfold pickOrder.go;simp
 | n+1,k,left,out,hl=>by
   unfold pickOrder.go;have hi:f k % left.length<left.length:=Y4 _ (by omega);rw[UM hi];dsimp only;refine(Hg f n (k+1) _ _ (by rw[Wr hi];omega)).trans ?_;rw[Vm,Ui];exact List.Perm.append_left _ (erase_perm hi)
theorem J4{α:Type}(f:Nat->Nat)(xs:Array α):(Zs f xs).toList.Perm xs.toList:=by
 unfold Zs;simpa using Hg f xs.size 0 xs.toList #[] (by simp)
end L2
set_option maxHeartbeats 400000
namespace L2
open PySem PySem.Spec PyProof.Rows
noncomputable def SetAt(w:Yc)(h:Heap)(a:YT)(es:Array (Int×YQ))(ep:Nat)(t:Yr):Prop:=∃ o,h.get? a=some o/\o.cls = .type "set"/\o.data = .set es ep t/\t.fits es.size=true/\Tab w t
theorem SetAt.keep{w:Yc}{h h':Heap}{a:YT}{es:Array (Int×YQ)}{ep:Nat}{t:Yr}(x:SetAt w h a es ep t)(k:∀ o,h.get? a=some o->h'.get? a=some o):SetAt w h' a es ep t:=let ⟨o,e,r⟩:=x;⟨o,k o e,r⟩
noncomputable def slotAt(t:Yr)(i:Nat):Nat:=if i=0 then 0 else t.place.getD (i - 1) 0+1
theorem GH{w:Yc}{t:Yr}(T:Tab w t){i:Nat}(hi:i<=t.place.size):SetTable.below t.place (slotAt t i)=i:=by
 obtain⟨h1,h2,h3⟩:=Et T.up (slotAt t i);by_cases z:i=0
 ·subst z;have e:slotAt t 0=0:=rfl;rw[e]at h2 h1 ⊢;by_cases q:SetTable.below t.place 0=0
  ·exact q
  ·have:=h2 0 (by omega) (by omega);omega
 ·have e:slotAt t i=t.place[i - 1]'(by omega)+1:=by unfold slotAt;rw[iG z];simp[Y3,show i - 1<t.place.size by omega]
  rw[e]at h1 h2 h3 ⊢;rcases Nat.lt_trichotomy (SetTable.below t.place (t.place[i - 1]'(by omega)+1)) i with q | q | q
  ·have:=h3 (i - 1) (by omega) (by omega);omega
  ·exact q
  ·have hi2:i<t.place.size:=by omega
   have a:=h2 i hi2 q;have b:=T.up (i - 1) i (by omega) hi2 (by omega);omega
inductive Way(w:Yc)(h:Heap)(T0 S:YT)(es:Array (Int×YQ))(ep:Nat)(t:Yr)(fs:List (Int×YQ))(i:Nat):YQ->Prop where
 | text (hw:w.params.followText "set-order"=true) (hf:fs=(Zs (w.params.setOrder S ep) es).toList):Way w h T0 S es ep t fs i (.int 0 0)
 | table (hw:w.params.followText "set-order"=false) (hd:(!t.plain&&decide (es.size>1))=false) (hf:fs=es.toList):Way w h T0 S es ep t fs i (.int (slotAt t i:Nat) 0)
 | drawn (hw:w.params.followText "set-order"=false) (pl:List Nat) (o:Obj) (n:Nat) (ho:h.get? T0=some o) (hd:o.data = .seq (pl.map λk=>Value.int (k:Nat) 0).toArray n) (hl:pl.length=fs.length)
    (hf:∀(k:Nat) p,pl[k]?=some p->es[p]?=fs[k]?):Way w h T0 S es ep t fs i (.ref T0)
noncomputable def Sit(w:Yc)(h:Heap)(T0 I S:YT)(es:Array (Int×YQ))(ep:Nat)(t:Yr)(fs:List (Int×YQ))(i:Nat):Prop:=
 ∃ o first,h.get? I=some o/\o.cls = .type "set_iterator"/\o.data = .fields #[first,.int (i:Nat) 0,.ref S,.int (es.size:Nat) 0,.int (ep:Nat) 0]/\Way w h T0 S es ep t fs i first
section
variable{prog:YZ}{w:Yc}{A:Yf}{E:YQ->YS->Prop}{s:YS}{T0 I S:YT}{es:Array (Int×YQ)}{ep:Nat}{t:Yr}{fs:List (Int×YQ)}{i:Nat}
theorem Sit.typeIs(x:Sit w s.heap T0 I S es ep t fs i):s.TypeIs (.ref I) "set_iterator":=let ⟨o,_,e,c,_⟩:=x;⟨o,e,c⟩
theorem Aj{b:Bool}(hw:w.params.followText "set-order"=b){Q:Bool->YS->Prop}(h:Q b s):YY (YX prog w) A setsByText Q E s:=by
 unfold setsByText;refine YR (Zr (YV ?_));show Q (w.params.followText "set-order") s;rw[hw];exact h
theorem Bi{sl:Nat}{Q:Option (YQ×Nat)->YS->Prop}(y:SetAt w s.heap S es ep t)(hw:w.params.followText "set-order"=true)(h:Q (((Zs (w.params.setOrder S ep) es)[i]?).map λe=>(e.2,sl)) s):
 YY (YX prog w) A (setNext S sl i ep) Q E s:=by
 obtain⟨oS,hoS,hcS,hdS,hf,T⟩:=y;unfold setNext;refine YR (Z5 hoS hdS hf ?_);dsimp only;refine YR (Aj hw ?_);rw[iP rfl,iG (by simp)];refine YR ?_;unfold setWalk;refine YR (Z5 hoS hdS hf ?_);dsimp only;refine YR (Aj hw ?_);rw[iP rfl];refine YR (Zr (YV ?_));exact YV h
theorem BP{Q:Option (YQ×Nat)->YS->Prop}(y:SetAt w s.heap S es ep t)(hw:w.params.followText "set-order"=false)(hd:(!t.plain&&decide (es.size>1))=false)(hi:i<=es.size)
 (h:Q (match es[i]?,t.place[i]? with | some (_,x),some j=>some (x,j+1) | _,_=>none) s):YY (YX prog w) A (setNext S (slotAt t i) i ep) Q E s:=by
 obtain⟨oS,hoS,hcS,hdS,hf,T⟩:=y
 have hsz:t.place.size=es.size:=by
  simp only[SetTable.fits,UN,beq_iff_eq]at hf;exact hf.1
 unfold setNext;refine YR (Z5 hoS hdS hf ?_);dsimp only;refine YR (Aj hw ?_);rw[iG Ua];show YY _ _ (if (!t.plain&&decide (es.size>1))=true then _ else _) _ _ _;rw[hd,iG Ua];show YY _ _ ((if (!t.led&&!es.isEmpty)=true then A0a "set:maker-not-led" else pure ()) >>= _) _ _ _;rw[T.led,hw];refine YR ?_;rw[show(!(!false)&&!es.isEmpty)=false from rfl,iG Ua];refine YV (YV ?_);rw[GH T (by omega)];exact h
theorem J5{e:Int×YQ}{Q:Option YQ->YS->Prop}(x:Sit w s.heap T0 I S es ep t fs i)(y:SetAt w s.heap S es ep t)(hl:fs.length=es.size)(hi:fs[i]?=some e)
 (hQ:∀ h',Uz I s.heap h'->Sit w h' T0 I S es ep t fs (i+1)->Q (some e.2) {s with heap:=h'}):YY (YX prog w) A (pyNext (.ref I)) Q E s:=by
 obtain⟨o,first,ho,hc,hd,W⟩:=id x;obtain⟨oS,hoS,hcS,hdS,hf,T⟩:=id y;have hlt:i<es.size:=by rw[<-hl];exact(gM hi).1
 unfold pyNext;refine YR (ZQ (Z9 (name:=Str.ofString "__next__") x.typeIs SiF.slot_si_next (Yt SiF.slot_si_next x.typeIs SiF.entry_si_next ?_ (SiF.args_si_next _))));unfold Builtin.«set_iterator.__next__»;refine YR (m:=slotArgs "__next__" 0 ⟨[.ref I],[]⟩) (YV ?_);refine YR (A0W ho hd ?_);dsimp only;refine YR (ZW hoS hdS hf ?_);rw[iG (by simp)]
 have step2:∀(nx:Nat) (v:YQ),v=e.2->(∀ h',(∀ T o,T≠I->s.heap.get? T=some o->h'.get? T=some o)->Way w h' T0 S es ep t fs (i+1) (.int nx 0))->
  YY (YX prog w) A.in1 (do A0v (.ref I) 0 (rawInt nx);A0v (.ref I) 1 (rawInt ((i:Int)+1));ret v) (λfin s'=>∃ v,fin=Fin.done (Flow.ret v)/\YY (YX prog w) A (pure (some v)) Q E s')
   (λe s'=>YY (YX prog w) A (do let __do_lift <- isInstance e (Value.type "StopIteration");if __do_lift=true then pure none else throw e) Q E s') s:=by
  intro nx v hv hW;subst hv;refine YR (Yz ho hd (by simp) ?_);have g1:=VD (Obj.mapFields (·.setIfInBounds 0 (rawInt nx))) ho (Obj.isFreed_of_fields (Obj.data_mapFields hd _));refine YR (Yz g1 (Obj.data_mapFields hd _) (by simp) ?_);have g2:=VD (Obj.mapFields (·.setIfInBounds 1 (rawInt ((i:Int)+1)))) g1 (Obj.isFreed_of_fields (Obj.data_mapFields (Obj.data_mapFields hd _) _));refine YV ⟨_,rfl,YV (hQ _ ((Uz.update _ I _).trans (Uz.update _ I _)) ⟨_,_,g2,?_,?_,hW _ λT o hT e=>?_⟩)⟩
  ·exact((Obj.cls_mapFields ..).trans (Obj.cls_mapFields ..)).trans hc
  ·rw[Obj.data_mapFields (Obj.data_mapFields hd _)];simp[rawInt]
  ·exact(VT _ _ (Ne.symm hT)).trans ((VT _ _ (Ne.symm hT)).trans e)
 cases W with
 | text hw hf'=>
   dsimp only;refine YR (Bi (i:=i) (ep:=ep) y hw ?_);have:(Zs (w.params.setOrder S ep) es)[i]?=some e:=by rw[<-V0,<-hf'];exact hi
   rw[this];exact step2 0 e.2 rfl λh' _ => .text hw hf'
 | table hw hd' hf'=>
   dsimp only;refine YR (BP (i:=i) (ep:=ep) y hw hd' (by omega) ?_)
   have hsz:t.place.size=es.size:=by
    simp only[SetTable.fits,UN,beq_iff_eq]at hf;exact hf.1
   have e1:es[i]?=some e:=by rw[<-V0,<-hf'];exact hi
   have e2:t.place[i]?=some (t.place[i]'(by omega)):=by simp[show i<t.place.size by omega]
   rw[e1,e2];refine step2 _ e.2 rfl λh' _=>?_;have:t.place[i]'(by omega)+1=slotAt t (i+1):=by unfold slotAt;rw[iG (by omega)];simp[Y3,show i<t.place.size by omega]
   rw[this];exact .table hw hd' hf'
 | drawn hw pl oT nT hoT hdT hlT hfT=>
   dsimp only;refine YR (Zc hoT hdT ?_);have hip:i<pl.length:=by omega
   have e1:pl[i]?=some (pl[i]'hip):=by simp
   have e2:(pl.map λk=>Value.int (k:Nat) 0).toArray[(i:Int).toNat]?=some (.int ((pl[i]'hip:Nat):Int) 0):=by simp[hip]
   dsimp only;rw[e2];dsimp only;have e3:es[pl[i]'hip]?=some e:=by rw[hfT i _ e1];exact hi
   refine YR ?_;unfold setNextDrawn;refine YR (Z5 hoS hdS hf ?_);dsimp only;rw[iG (by simp),WY,e3];refine YV (YR (Yz ho hd (by simp) ?_));have g1:=VD (Obj.mapFields (·.setIfInBounds 1 (rawInt ((i:Int)+1)))) ho (Obj.isFreed_of_fields (Obj.data_mapFields hd _));have hTI:T0≠I:=λz=>by subst z;rw[ho]at hoT;cases hoT;rw[hd]at hdT;cases hdT
   refine YV ⟨_,rfl,YV (hQ _ (Uz.update _ I _) ⟨_,_,g1,(Obj.cls_mapFields ..).trans hc,?_,.drawn hw pl oT nT ((VT _ _ (Ne.symm hTI)).trans hoT) hdT hlT hfT⟩)⟩;rw[Obj.data_mapFields hd];simp[rawInt]
theorem Kv{Q:Option YQ->YS->Prop}(hh:A.handled=none)(hQ:∀ h',Xv I s.heap h'->Q none {s with heap:=h'})(k:Sem Unit)(hk:∀(Q':Unit->YS->Prop) (E':YQ->YS->Prop),(∀ h',Uz I s.heap h'->Q' () {s with heap:=h'})->YY (YX prog w) A.in1 k Q' E' s):
 YY (YX prog w) A.in1 (k >>= λ_=>newExc (.type "StopIteration") [] >>= λe=>raiseNew (α:=Fin) e) (λfin s'=>∃ v,fin=Fin.done (Flow.ret v)/\YY (YX prog w) A (pure (some v)) Q E s')
  (λe s'=>YY (YX prog w) A (do let __do_lift <- isInstance e (Value.type "StopIteration");if __do_lift=true then pure none else throw e) Q E s') s:=by
 refine YR (hk _ _ λh' hs=>?_);refine YR ?_;simp only[newExc,newTuple];refine YR (Yw ?_ (by size_fits));refine YR (m:=Zd _ _) (A0E (a:=Value.none) (by first | rfl | (simp only[Zd];rfl)) ?_);refine Yw ?_ (by size_fits);simp only[raiseNew];refine YR (wpAny_handled ?_);rw[show A.in1.handled=none from hh];refine YR (YV (wpAny_throw ?_));refine YR (A0C (T:="StopIteration") (b:=true) ⟨_,UY _ rfl,rfl⟩ isSubtype_stop ?_);exact YV (hQ _ ((hs.extBut.push _).push _))
theorem Kw{Q:Option YQ->YS->Prop}(hh:A.handled=none)(x:Sit w s.heap T0 I S es ep t fs es.size)(y:SetAt w s.heap S es ep t)(hl:fs.length=es.size)
 (hQ:∀ h',Xv I s.heap h'->Q none {s with heap:=h'}):YY (YX prog w) A (pyNext (.ref I)) Q E s:=by
 obtain⟨o,first,ho,hc,hd,W⟩:=id x;obtain⟨oS,hoS,hcS,hdS,hf,T⟩:=id y;unfold pyNext;refine YR (ZQ (Z9 (name:=Str.ofString "__next__") x.typeIs SiF.slot_si_next (Yt SiF.slot_si_next x.typeIs SiF.entry_si_next ?_ (SiF.args_si_next _))));unfold Builtin.«set_iterator.__next__»;refine YR (m:=slotArgs "__next__" 0 ⟨[.ref I],[]⟩) (YV ?_);refine YR (A0W ho hd ?_);dsimp only;refine YR (ZW hoS hdS hf ?_);rw[iG (by simp)];have one:∀(Q':Unit->YS->Prop) (E':YQ->YS->Prop),(∀ h',Uz I s.heap h'->Q' () {s with heap:=h'})->YY (YX prog w) A.in1 (A0v (.ref I) 2 .none) Q' E' s:=λQ' E' q=>Yz ho hd (by simp) (q _ (Uz.update ..));cases W with
 | text hw hf'=>
   dsimp only;refine YR (Bi (i:=es.size) (ep:=ep) y hw ?_);have:(Zs (w.params.setOrder S ep) es)[es.size]?=none:=by rw[<-V0,<-hf'];exact Vn (by omega)
   rw[this];exact Kv hh hQ _ one
 | table hw hd' hf'=>
   dsimp only;refine YR (BP (i:=es.size) (ep:=ep) y hw hd' (US _) ?_);rw[show es[es.size]?=none by simp];exact Kv hh hQ _ one
 | drawn hw pl oT nT hoT hdT hlT hfT=>
   dsimp only;refine YR (Zc hoT hdT ?_);have e2:(pl.map λk=>Value.int (k:Nat) 0).toArray[((es.size:Nat):Int).toNat]?=none:=by simp;omega
   dsimp only;rw[e2];dsimp only
   have two:=Kv (prog:=prog) (w:=w) (A:=A) (E:=E) (s:=s) (I:=I) (Q:=Q) hh hQ (A0v (.ref I) 0 (rawInt 0) >>= λ_=>A0v (.ref I) 2 .none) λQ' E' q=>by
    refine YR (Yz ho hd (by simp) ?_);have g1:=VD (Obj.mapFields (·.setIfInBounds 0 (rawInt 0))) ho (Obj.isFreed_of_fields (Obj.data_mapFields hd _));exact Yz g1 (Obj.data_mapFields hd _) (by simp) (q _ ((Uz.update _ I _).trans (Uz.update _ I _)))
   rw[bind_assoc]at two;exact two
theorem J6{Q:YQ->YS->Prop}(x:Sit w s.heap T0 I S es ep t fs i)(h:Q (.ref I) s):YY (YX prog w) A (pyIter (.ref I)) Q E s:=by
 refine A0w x.typeIs SiF.slot_si_iter (Yt SiF.slot_si_iter x.typeIs SiF.entry_si_iter ?_ (SiF.args_si_iter _));show YY _ _ (ret (.ref I)) _ _ s;exact YV ⟨_,rfl,"set_iterator",_,x.typeIs,SiF.slot_si_next.lookup,h⟩
theorem Sit.keep{h h':Heap}(x:Sit w h T0 I S es ep t fs i)(k:∀ b,b=I\/b=T0->∀ o,h.get? b=some o->h'.get? b=some o):Sit w h' T0 I S es ep t fs i:=by
 obtain⟨o,first,ho,hc,hd,W⟩:=x;refine⟨o,first,k I (.inl rfl) _ ho,hc,hd,?_⟩;cases W with
 | text hw hf=>exact .text hw hf
 | table hw hp hf=>exact .table hw hp hf
 | drawn hw pl oT n hoT hdT hl hf=>exact .drawn hw pl oT n (k T0 (.inr rfl) _ hoT) hdT hl hf
theorem Sv(hh:A.handled=none)(T0 I S:YT)(hne:S≠I)(es:Array (Int×YQ))(ep:Nat)(t:Yr)(fs:List (Int×YQ))(hl:fs.length=es.size):
 Walks prog w A I [I,S,T0] [I] es.size (λi v=>∃ e,fs[i]?=some e/\e.2=v) (λi h=>Sit w h T0 I S es ep t fs i/\SetAt w h S es ep t) where
 sub:=λb hb=>by simp at hb;simp[hb]
 frame:=λ_ _ _ st hk=>⟨st.1.keep λb hb o e=>hk b (by rcases hb with rfl | rfl<;>simp) o e,st.2.keep λo e=>hk S (by simp) o e⟩
 item:=λi s Q E hi st hQ=>by
  have hi':i<fs.length:=by omega
  refine J5 (e:=fs[i]) st.1 st.2 hl (by simp) λh' hs' x'=>?_;exact hQ fs[i].2 h' s.toks ⟨fs[i],by simp,rfl⟩ ⟨x',st.2.keep λo e=>hs'.extBut _ _ hne e⟩ λb o hb e=>hs'.extBut b o (λh=>hb (by simp[h])) e
 done:=λs Q E st hQ=>Kw hh st.1 st.2 hl λh' he'=>hQ h' s.toks λb o hb e=>he' b o (λh=>hb (by simp[h])) e
 self:=λ_ _ _ _ st hQ=>J6 st.1 hQ
theorem Sw{Q:YQ->YS->Prop}(y:SetAt w s.heap S es ep t)(hz:es.size<=Yb)
 (hQ:∀ h' d I T0 fs,(∀ b o,s.heap.get? b=some o->h'.get? b=some o)->s.heap.objs.size<=I->s.heap.objs.size<=T0->h'.objs.size=I+1->fs.Perm es.toList->Sit w h' T0 I S es ep t fs 0->Q (.ref I) {s with heap:=h',drawn:=d}):YY (YX prog w) A (pyIter (.ref S)) Q E s:=by
 obtain⟨oS,hoS,hcS,hdS,hf,T⟩:=id y;have hT:s.TypeIs (.ref S) "set":=⟨oS,hoS,hcS⟩
 refine A0w hT F.slot_set_iter (Yt F.slot_set_iter hT SiF.entry_set_iter ?_ (F.args_set_iter_1 _));unfold Builtin.«frozenset.__iter__»;refine YR (m:=Builtin.Frozenset.slot0 "__iter__" ⟨[.ref S],[]⟩) (YV ?_);refine YR (m:=Builtin.Frozenset.sizeOf S) ?_;unfold Builtin.Frozenset.sizeOf;refine YR (ZW hoS hdS hf (YV ?_));refine YR ?_;unfold setDrawn;refine YR (Z5 hoS hdS hf ?_);dsimp only
 have fin:∀(first:YQ) (h:Heap) (d:Drawn) (fs:List (Int×YQ)) (T0:YT),(∀ b o,s.heap.get? b=some o->h.get? b=some o)->s.heap.objs.size<=h.objs.size->s.heap.objs.size<=T0->fs.Perm es.toList->(∀ h',(∀ b o,h.get? b=some o->h'.get? b=some o)->Way w h' T0 S es ep t fs 0 first)->
  YY (YX prog w) A.in1 (setEpoch S >>= λe=>newFields "set_iterator" [first,rawInt 0,.ref S,rawInt (es.size:Nat),rawInt e] >>= λv=>ret v)
   (λfin s'=>∃ r,fin=Fin.done (Flow.ret r)/\∃ T' r_1,s'.TypeIs r T'/\A0K (.type T') "__next__"=pure (some r_1)/\Q r s') E {s with heap:=h,drawn:=d}:=by
  intro first h d fs T0 hk h1 h2 hp hW
  refine YR (wpAny_setEpoch_of (hk _ _ hoS) hdS hf ?_);refine YR (Yw ?_ (by size_fits));refine YV ⟨_,rfl,"set_iterator",_,⟨_,UY _ rfl,rfl⟩,SiF.slot_si_next.lookup,?_⟩;have kp:∀ b o,h.get? b=some o->(h.push {cls := .type "set_iterator",data := .fields #[first,rawInt 0,.ref S,rawInt (es.size:Nat),rawInt (ep:Nat)]}).get? b=some o:=λb o e=>UP _ e;exact hQ _ d h.objs.size T0 fs (λb o e=>kp b o (hk b o e)) h1 h2 (VO _ _) hp ⟨_,first,UY _ rfl,rfl,rfl,hW _ kp⟩
 cases hw:w.params.followText "set-order" with
 | true=>
   refine YR (Aj hw (YV ?_));show YY _ _ (if (!true&&(!t.plain&&decide (es.size>1)))=true then _ else _) _ _ _;rw[iG (by simp)];refine YR (YV ?_);exact fin _ s.heap s.drawn _ s.heap.objs.size (λ_ _ e=>e) (US _) (US _) (J4 (w.params.setOrder S ep) es) λh' _ => .text hw rfl
 | false=>
   refine YR (Aj hw (YV ?_));show YY _ _ (if (!false&&(!t.plain&&decide (es.size>1)))=true then _ else _) _ _ _;cases hpl:(!t.plain&&decide (es.size>1)) with
   | false=>
     rw[iG (by simp)];refine YR (YV ?_);exact fin _ s.heap s.drawn es.toList s.heap.objs.size (λ_ _ e=>e) (US _) (US _) .rfl λh' _ => .table hw hpl rfl
   | true=>
     rw[iP (by simp)];refine YR (PQ es.size (Uj es.size) s _ (by simp) λpl d hp=>?_);refine YR (A0c ?_ (by rw[UQ,hp.length_eq,VY];exact hz));have hin:∀ p∈pl,p<es.size:=λp hpm=>V4.mp (hp.mem_iff.mp hpm);have efs:∃ fs:List (Int×YQ),fs=pl.filterMap (λp=>es[p]?):=⟨_,rfl⟩
     obtain⟨fs,efs⟩:=efs
     have hfs:∀(l:List Nat),(∀ p∈l,p<es.size)->(l.filterMap λp=>es[p]?).length=l.length/\∀(k:Nat) p,l[k]?=some p->es[p]?=(l.filterMap λp=>es[p]?)[k]?:=by
      intro l
      induction l with
      | nil=>intro _;exact⟨rfl,λk p h=>by simp at h⟩
      | cons a l ih=>
        intro hl;obtain⟨i1,i2⟩:=ih λp hp=>hl p (Uc _ hp);have ha:=hl a (Uh ..);have ea:es[a]?=some es[a]:=by simp[ha]
        rw[Wy ea];refine⟨by simp[i1],λk p h=>?_⟩;cases k with
        | zero=>simp at h;subst h;simp[ha]
        | succ k=>simpa using i2 k p (by simpa using h)
     obtain⟨l1,l2⟩:=hfs pl hin;refine fin _ _ d fs s.heap.objs.size (λb o e=>UP _ e) (by rw[VO];exact WJ _) (US _) ?_ λh' k=>?_
     ·rw[efs];exact(hp.filterMap _).trans (by rw[filterMap_getElem?_range])
     ·exact .drawn hw pl _ 0 (k _ _ (UY _ rfl)) rfl (by rw[efs,l1]) (λk p h=>by rw[efs];exact l2 k p h)
end
end L2
set_option maxHeartbeats 800000
namespace L2
open PySem PySem.Spec PyProof.Rows
section
variable{prog:YZ}{w:Yc}{A:Yf}{E:YQ->YS->Prop}{s:YS}{S:YT}{es:Array (Int×YQ)}{ep:Nat}{t:Yr}
theorem Sx{Q:Bool->YS->Prop}(hT:s.TypeIs (.ref S) "set")(h:Q false s):YY (YX prog w) A (Builtin.List.listLengthHint (.ref S)) Q E s:=by
 unfold Builtin.List.listLengthHint;refine YR (A0G hT PySem.F.slot_set_len.lookup ?_);generalize hid:("set.__len__":String)=id0
 wp_delta
 rw[show splitId id0=some ("set","__len__") from by subst hid;decide +kernel];subst hid;refine YR (A0C (T:="set") (b:=true) hT sub_set_self ?_);refine A01 (λz=>absurd z (by decide)) (λ_=>?_);refine A01 (λ_=>?_) (λz=>absurd (by decide +kernel) z);exact YR (wpAny_typeOf hT (YV h))
theorem Kx{Q:List YQ->YS->Prop}(hh:A.handled=none)(y:SetAt w s.heap S es ep t)(hz:es.size<=Yb)
 (hQ:∀ h' tk d (acc:List YQ) (fs:List (Int×YQ)),(∀ b o,s.heap.get? b=some o->h'.get? b=some o)->s.heap.objs.size<=h'.objs.size->fs.Perm es.toList->acc=fs.map (·.2)->Q acc {s with heap:=h',toks:=tk,drawn:=d}):
 YY (YX prog w) A (collect (.ref S)) Q E s:=by
 obtain⟨oS,hoS,hcS,hdS,hf,T⟩:=id y;unfold collect;refine YR (A0g (Z2 PySem.F.entry_proto_collect ?_));rw[Around.under_plainId PySem.F.plain_proto_collect _];refine YR (m:=newList []) (Yw ?_);refine YV ⟨ZS PySem.F.plain_list_iadd _,Z2 PySem.F.entry_list_iadd ?_⟩;rw[Around.under_plainId PySem.F.plain_list_iadd _];show YY _ A.in1 (Builtin.List.listExtendWith (.ref s.heap.objs.size) (.ref S) (.ref s.heap.objs.size)) _ _ {s with heap:=s.heap.push {cls := .type "list",data := .seq ([]:List YQ).toArray}};have y1:SetAt w (s.heap.push {cls := .type "list",data := .seq ([]:List YQ).toArray}) S es ep t:=y.keep λo e=>UP _ e;have hne:s.heap.objs.size≠S:=λz=>by rw[<-z]at hoS;exact absurd (UX hoS) (Vr _)
 have hL:(s.heap.push {cls := .type "list",data := .seq ([]:List YQ).toArray}).get? s.heap.objs.size=some {cls := .type "list",data := .seq #[]}:=UY _ rfl;have hz1:(s.heap.push {cls := .type "list",data := .seq ([]:List YQ).toArray}).objs.size=s.heap.objs.size+1:=VO _ _;unfold Builtin.List.listExtendWith;refine YR (wpAny_typeOf (T:="set") ⟨oS,UP _ hoS,hcS⟩ ?_);have b1:Builtin.List.listSameRef (.ref s.heap.objs.size) (.ref S)=false:=by simp[Builtin.List.listSameRef,hne]
 have b2:(Value.type "set" == Value.type "list")=false:=by decide
 have b3:(Value.type "set" == Value.type "tuple")=false:=by decide
 simp only[b1,b2,b3,Y8,V2,if_false];refine YR (Sw (s:={s with heap:=s.heap.push {cls := .type "list",data := .seq ([]:List YQ).toArray}}) y1 hz λh2 d I T0 fs k2 hI hT0 hz2 hp x2=>?_);have y2:SetAt w h2 S es ep t:=y1.keep λo e=>k2 _ _ e;refine YR (Yn (Sx (s:={s with heap:=h2,drawn:=d}) ⟨oS,k2 _ _ (UP _ hoS),hcS⟩ ?_));have hL2:=k2 _ _ hL;have LI:s.heap.objs.size≠I:=by rw[hz1]at hI;exact Ug hI
 have LT:s.heap.objs.size≠T0:=by rw[hz1]at hT0;exact Ug hT0
 have SI:S≠I:=λz=>by
  have h1:=UX hoS;rw[hz1,<-z]at hI;exact absurd (Xk hI) (Xq h1)
 have nf:s.heap.objs.size∉[I,S,T0]:=by
  simp only[Ub,List.not_mem_nil,or_false,not_or];exact⟨LI,hne,LT⟩
 have hlen:fs.length=es.size:=by rw[hp.length_eq,UU]
 have W:=(Sv (prog:=prog) (w:=w) (A:=A.in1) hh T0 I S SI es ep t fs hlen).toS
 have key:∀(h:Heap) (c tk:Nat),Sit w h T0 I S es ep t fs 0->SetAt w h S es ep t->(∀ b o,b≠s.heap.objs.size->h2.get? b=some o->h.get? b=some o)->h.get? s.heap.objs.size=some {cls := .type "list",dict:=none,data := .seq #[] c,slots:=#[]}->s.heap.objs.size<=h.objs.size->
  codeAny (YX prog w) A (.builtin "list.extend.loop" ⟨[.ref s.heap.objs.size,.ref I,.ref s.heap.objs.size],[]⟩) (wants (λv s'=>∃ h' tk' acc c',v = .ref s.heap.objs.size/\s'={s with heap:=h',toks:=tk',drawn:=d}/\(∀ b o,s.heap.get? b=some o->h'.get? b=some o)/\s.heap.objs.size<=h'.objs.size/\h'.get? s.heap.objs.size=some {cls := .type "list",dict:=none,data := .seq acc c',slots:=#[]}/\ItemsOf (λi v=>∃ e,fs[i]?=some e/\e.2=v) acc es.size) E) {s with heap:=h,toks:=tk,drawn:=d}:=by
  intro h c tk x3 y3 k3 hL3 hz3;refine codeAny_extend_loopS W hz s.heap.objs.size nf (.ref s.heap.objs.size) es.size 0 _ #[] c rfl (VX _) ⟨x3,y3⟩ hL3 (ItemsOf.nil _) λs' acc c' hm hS' hacc=>?_;rw[Moved.eq_with hm];refine⟨s'.heap,s'.toks,acc,c',rfl,rfl,λb o e=>hm.heap b o (λz=>?_) (k3 b o (Ug (UX e)) (k2 _ _ (UP _ e))),Vf (UX hS'),hS',hacc⟩;rcases Ub.mp z with z | z
  ·exact absurd z (Ug (UX e))
  ·have z':=UT.mp z;rw[hz1]at hI;have:=UX e;rw[z']at this;exact absurd this (Xq (Xk hI))
 have fin:∀ r s',wants (λv s'=>∃ h' tk' acc c',v = .ref s.heap.objs.size/\s'={s with heap:=h',toks:=tk',drawn:=d}/\(∀ b o,s.heap.get? b=some o->h'.get? b=some o)/\s.heap.objs.size<=h'.objs.size/\h'.get? s.heap.objs.size=some {cls := .type "list",dict:=none,data := .seq acc c',slots:=#[]}/\ItemsOf (λi v=>∃ e,fs[i]?=some e/\e.2=v) acc es.size) E r s'->
  wants (λv s'=>YY (YX prog w) A (match v with | .ref a=>load a >>= λo=>(match o.data with | .seq xs _=>pure xs.toList | _=>A0a "internal:collect") | _=>A0a "internal:collect") Q E s') E r s':=by
  intro r s' hr;cases r with
  | error e=>exact hr
  | ok fl=>
    cases fl with
    | ret v=>
      obtain⟨h',tk',acc,c',rfl,rfl,h3,h4,h5,h6⟩:=hr;refine YR (wpAny_load (s:={s with heap:=h',toks:=tk',drawn:=d}) h5 (YV (hQ h' tk' d _ fs h3 h4 hp ?_)));refine Wu λk=>?_;rw[UZ,V0];by_cases hk:k<es.size
      ·have ha:acc[k]?=some (acc[k]'(by rw[h6.1];exact hk)):=by simp[h6.1,hk]
       obtain⟨e,he,ev⟩:=h6.2 k _ ha;rw[ha,he,<-ev];rfl
      ·rw[Array.getElem?_eq_none (by rw[h6.1];omega),Vn (by omega)];rfl
    | _=>exact hr.elim
 refine A01 (λ_=>?_) (λ_=>YV ⟨ZS PySem.F.plain_extend_loop _,Z3 (key _ _ _ x2 y2 (λ_ _ _ e=>e) hL2 (Vf (UX hL2))) fin⟩);refine YR (Yy (YR ?_));show YY _ _ (updateSeq s.heap.objs.size (·.push .none) >>= λ_=>updateSeq s.heap.objs.size (·.pop)) _ _ _;refine YR (A0I hL2 rfl ?_);have u1:=VD (Obj.mapSeq (·.push Value.none)) hL2 rfl;refine A0I (hz:=by seq_fits) u1 rfl ?_;have u2:=VD (Obj.mapSeq (·.pop)) u1 rfl;have oth:∀ b o,b≠s.heap.objs.size->h2.get? b=some o->((h2.update s.heap.objs.size (Obj.mapSeq (·.push Value.none))).update s.heap.objs.size (Obj.mapSeq (·.pop))).get? b=some o:=λb o hb e=>(VT _ _ (Ne.symm hb)).trans ((VT _ _ (Ne.symm hb)).trans e);refine YV ⟨ZS PySem.F.plain_extend_loop _,Z3 (key _ _ _ (x2.keep λb hb o e=>oth b o (by rcases hb with rfl | rfl;exact LI.symm;exact LT.symm) e) (y2.keep λo e=>oth _ o hne.symm e) oth u2 ?_) fin⟩;rw[Wc,Wc];exact Vf (UX hL2)
end
theorem _root_.L2.Inv.dr{X:Cx}{pins:List (YT×Obj)}{σ:St}{H:Hp}{s:YS}(I:Inv X pins σ H s)(d:Drawn):Inv X pins σ H {s with drawn:=d}:=
 ⟨I.ok,I.os,I.bare,I.base,I.loc,I.cell,I.free,I.freeC,I.pin,I.hok,I.len⟩
section
variable{prog:YZ}{w:Yc}{A:Yf}{E:YQ->YS->Prop}{s:YS}
theorem Na{S:YT}{L:List Int}{Q:YQ->YS->Prop}(hh:A.handled=none)(x:SetX prog w s.heap S L)(h64:L.length<128)
 (h:∀(h':Heap) (tk:Nat) (d:Drawn) (l:YT) (out:Array YQ) (e:Nat),(∀ b o,s.heap.get? b=some o->h'.get? b=some o)->s.heap.objs.size<=l->h'.get? l=some (seqObj "list" out e)->IntsAre out.toList (srt L)->Q (.ref l) {s with heap:=h',toks:=tk,drawn:=d}):
 YY (YX prog w) A (call (.builtin "sorted") [.ref S]) Q E s:=by
 obtain⟨o,es,ep,t,ho,hx,hd,hel,hb,hf,hT,hp⟩:=x;refine Calls.call_function_entry A0F A0s A0t (args_sorted1 _) ?_;unfold Builtin.«sorted»;refine YR (m:=A0Q "sorted" 1 1 _) (YV ?_);refine YR (Kx (A:=A.in1) hh ⟨o,ho,hx.1,hd,hf,hT⟩ (Zj hb) λh2 tk d acc fs k2 hz2 hpf hacc=>?_)
 have hints:∀ v∈acc,∃ n tt,v=Value.int n tt:=by
  intro v hv;rw[hacc]at hv;obtain⟨e,he,rfl⟩:=VH.mp hv;obtain⟨⟨k,hk,_⟩,_⟩:=hel e (hpf.mem_iff.mp he);obtain⟨tt,e2⟩:=Value.isInt_shape (k:=k) (v:=e.2) hk;exact⟨k,tt,e2⟩
 have hI:IntsAre acc (acc.map numOf):=intsAre_map acc hints
 have hpL:(acc.map numOf).Perm L:=by
  rw[hacc,V9];exact(hpf.map _).trans hp
 have hl64:acc.length<128:=by have:=hpL.length_eq;rw[UQ]at this;omega
 refine YR (ZR ?_ (by rw[ZT];omega));have hoL:(h2.push (seqObj "list" acc.toArray 0)).get? h2.objs.size=some (seqObj "list" acc.toArray 0):=UY _ rfl;refine YR (Yn (Yt (s:={s with heap:=h2.push (seqObj "list" acc.toArray 0),toks:=tk,drawn:=d}) A0d ⟨_,hoL,rfl⟩ Zz (Srt.sort_all hoL hI hl64 λout ns' a1 a2 a3=>⟨_,rfl,?_⟩) (A0S _)));have en:ns'=srt L:=GF (a2.trans hpL) a3;subst en;obtain⟨e,he⟩:=sortedHeap_at (vs:=acc) (out:=out) hoL;refine YV ⟨_,rfl,h _ tk d h2.objs.size out e (λb o eb=>?_) hz2 he a1⟩;have hlt:=UX (k2 b o eb);rw[sortedHeap_old (Ug hlt) (by rw[VO];exact W4 hlt)];exact UP _ (k2 b o eb)
end
section
variable{X:Cx}
theorem J7:Yd "sorted"=some (.builtin "sorted"):=by decide +kernel
noncomputable def CN(ns:List Int):List Int:=ZU (λi=>ns.getD i 0) ns.length
end
open PySem.AutoSeq1 (wpAny_loadPart')
open PySem.MeetsSeq PySem.MeetsSeq2 PySem.MeetsSeq3
section
variable{prog:YZ}{w:Yc}{A:Yf}{E:YQ->YS->Prop}{s:YS}{a₀:Array Keyed}
structure SBk(κ:A0X)(a₀:Array Keyed)(st:SortSt):Prop where
 perm:(arrOf st).Perm a₀
 kind:kindOf st=κ
 failed:Yl st=none
 pend:Ye st=#[]
theorem SBk.size{κ:A0X}{st:SortSt}(h:SBk κ a₀ st):(arrOf st).size=a₀.size:=h.perm.size_eq
theorem SBk.setArr{κ:A0X}{st:SortSt}(h:SBk κ a₀ st){xs:Array Keyed}(hp:xs.Perm (arrOf st)):SBk κ a₀ (setArr st xs):=⟨hp.trans h.perm,h.kind,h.failed,h.pend⟩
variable{κ:A0X}
end
section
variable{X:Cx}
noncomputable def lt2(p q:Int×Int):Bool:=HT.lexLt [p.1,p.2] [q.1,q.2]
end
noncomputable def Kpt(hb h:Heap):Prop:=∀ b o,hb.get? b=some o->h.get? b=some o
structure Sk(hb h:Heap)(a k:YT)(ks xs:Array YQ)(e:Nat):Prop where
 a0:hb.get? a=none
 k0:hb.get? k=none
 ne:k≠a
 kp:Kpt hb h
 kk:∃ n,h.get? k=some (seqObj "list" ks n)
 aa:h.get? a=some (seqObj "list" xs e)
theorem EC{hb h:Heap}{a:YT}{g:Obj->Obj}(z:hb.get? a=none)(K:Kpt hb h):Kpt hb (h.update a g):=λb o q=>
 ((Uz.update h a g).2 b λe=>by rw[e,z]at q;cases q).trans (K b o q)
theorem Sk.setK{hb h:Heap}{a k:YT}{ks xs:Array YQ}{e:Nat}(S:Sk hb h a k ks xs e)(f:Array YQ->Array YQ):Sk hb (h.update k (Obj.mapSeq f)) a k (f ks) xs e:=
 ⟨S.a0,S.k0,S.ne,EC S.k0 S.kp,S.kk.elim λ_ q=>⟨_,ZK q f⟩,((Uz.update h k _).2 a S.ne.symm).trans S.aa⟩
theorem AG{n:Nat}(h:n<128):n<=Yb:=by rw[ZT];omega
section
variable{prog:YZ}{w:Yc}{A:Yf}{E:YQ->YS->Prop}{s:YS}{hb:Heap}{a k:YT}{vs:List YQ}{P:PySem.Fin->YS->Prop}{keys:Array YQ}{e:Nat}
theorem Hh{st:SortSt}(S:Sk hb s.heap a k keys #[] e)(hz:keys.size=vs.length)(lt:vs.length<128)(hp:(arrOf st).Perm (keys.zip vs.toArray))(hn:Yl st=none)(h:∀ h' c,Kpt hb h'->h'.get? a=some (seqObj "list" ((arrOf st).map (·.2)) c)->P (.done (.ret .none)) {s with heap:=h'}):YY (YX prog w) A (ksk_tail a false e (.ref k) st) P E s:=by
 obtain⟨n,q⟩:=S.kk;have S1:=S.setK λ_=>#[]
 have z:((arrOf st).map (·.2)).size<128:=by
  have:=hp.size_eq;have zv:vs.toArray.size=vs.length:=rfl;rw[Y5]at this;rw[Y2];omega
 exact YR (ZI q rfl (YR (wpAny_letGo (YR (A0b S1.aa rfl (YR (ZI S1.aa rfl
  (by rw[hn,bne_self_eq_false];exact YV (h _ _ (EC S.a0 S1.kp) (ZK S1.aa _))) (VX _) (Xl (AG z)))))))) (AG (hz▸lt)) (VX _))
end
section
variable{prog:YZ}{w:Yc}{A:Yf}{E:YQ->YS->Prop}{s:YS}{vs:List YQ}
theorem Ch{hb h:Heap}{o:Obj}(K:Kpt hb h):Kpt hb (h.push o):=λb _ q=>UP _ (K b _ q)
noncomputable abbrev Two(h:Heap)(vs:List YQ):Heap:=((h.push (seqObj "list" #[] 0)).update h.objs.size (Obj.mapSeq λz=>z++vs.toArray)).push (seqObj "list" vs.toArray 0)
end
theorem C2{α β:Type}{R:α->β->Prop}{out its:List β}(p:out.Perm its):∀{ws:List α},Paired R ws its->∃ ws',Paired R ws' out/\ws'.Perm ws:=by
 induction p with
 | nil=>exact λ{ws} r=>⟨ws,r,.refl _⟩
 | cons x _ ih=>
   intro ws r;cases r with
   | cons r rr=>
     obtain⟨ws',r',p'⟩:=ih rr;exact⟨_::ws',.cons r r',.cons _ p'⟩
 | swap x y l=>
   intro ws r;cases r with
   | cons r rr=>
     cases rr with
     | cons r2 rr2=>exact⟨_::_::_,.cons r2 (.cons r rr2),.swap ..⟩
 | trans _ _ ih1 ih2=>
   intro ws r;obtain⟨w2,r2,p2⟩:=ih2 r;obtain⟨w1,r1,p1⟩:=ih1 r2;exact⟨w1,r1,p1.trans p2⟩
noncomputable def Ci(vs:List V)(js:List Nat)(σ:St):St:=vs.map some++js.map λj=>(σ[j]?).join
noncomputable abbrev Eu(X:Cx)(A:Yf)(q:Str)(sc:Yi)(N':List Str)(s:YS)(H:Hp)(f c':YT):Cx where
 prog:=X.prog
 w:=X.w
 K:=X.K
 mg:=X.mg
 base:=X.base
 A:=A.deeper (PySem.W.envX q sc s.heap.objs.size f (.ref c') (j0 X.env sc.names []))
 N:=N'
 s₀:=s
 H₀:=H
 env:=PySem.W.envX q sc s.heap.objs.size f (.ref c') (j0 X.env sc.names [])
 outer:=X.stack
 stack:=PySem.W.envX q sc s.heap.objs.size f (.ref c') (j0 X.env sc.names [])::X.stack
 ex:=[]
 fn:=λx=>sc.names.lookup x == some .cell
 calm:=true
 pn:=[]
 xe:=λ_ _=>False
noncomputable def BQ(sc0 sc:Yi)(ps cn N:List Str)(js:List Nat):Bool:=v6 sc0 sc ps cn N js&&(!sc.isCoroutine&&!sc.isGenerator)&&sc.names.all λx=>!decide (x.2 = .cell)
section
variable{X:Cx}{pins:List (YT×Obj)}{σ:St}{H:Hp}{s:YS}{A:Yf}{q:Str}{sc:Yi}{ps cn:List Str}{js:List Nat}{f c':YT}{vs:List V}{us:List YQ}{h':Heap}{tk:Nat}
theorem Nb(I:Inv X pins σ H s)(hok:BQ X.env.scope sc ps cn X.N js=true)(hA:A.frames=some X.stack)(hd:A.handled=none)(r:Vals vs us)(hl:vs.length=ps.length)
 (hns:h'.Ns s.heap.objs.size (λx=>(ps.zip us).reverse.lookup x)) (hk:∀ b o,s.heap.get? b=some o->h'.get? b=some o):
 Inv (Eu X A q sc (ps++cn) s H f c') [] (Ci vs js σ) H {s with heap:=h',toks:=tk}:=by
 unfold BQ v6 at hok;simp only[UN,dQ,Uq,V8,Uu,decide_eq_false_iff_not]at hok;obtain⟨⟨⟨⟨⟨⟨⟨⟨k1,k2⟩,k3⟩,k4⟩,k5⟩,k6⟩,k7⟩,k8⟩,k9⟩:=hok
 have hfreeK:∀ x∈sc.names,x.2 = .free->X.env.kindOf x.1=some .cell\/X.env.kindOf x.1=some .free:=λx hx hf=>by
  rcases k2 x hx with(z | z) | z
  ·exact absurd hf z
  ·exact .inl z
  ·exact .inr z
 have hfree:∀ x∈sc.names,x.2 = .free->∃ c,X.env.cells.lookup x.1=some c:=λx hx hf=>I.ok.has x.1 (hfreeK x hx hf);have clM:=BF (env:=X.env) sc.names [] hfree (λp hp=>nomatch hp);have apart:=AT I.ok.inj sc.names [] k3 hfree List.Pairwise.nil λp hp=>nomatch hp;have noC:∀{x:Str},sc.names.lookup x=some .cell->False:=λ{x} e=>k9 _ (PySem.mem_of_lookup e) rfl;have look:∀{x:Str} {c:YT},(j0 X.env sc.names []).lookup x=some c->X.env.cells.lookup x=some c:=λ{x c} e=>clM _ (PySem.mem_of_lookup e)
 have cell:∀{x:Str} {c:YT},(j0 X.env sc.names []).lookup x=some c->∃ v,h'.IsCell c v:=λ{x c} e=>by
  obtain⟨v,o,ho,hd⟩:=I.cell x c (look e);exact⟨v,o,hk _ _ ho,hd⟩
 have hul:us.length=ps.length:=r.length▸hl;obtain⟨m,hm,hloc⟩:=id I.loc
 refine⟨⟨I.ok.mod,k1,rfl,rfl,US _,λx y c h1 h2=>A0n apart (PySem.mem_of_lookup h1) (PySem.mem_of_lookup h2),λx hx=>?_,λx c h=>(noC (beq_iff_eq.mp h)).elim,λ_=>hd,Around.frames_deeper hA,.inr ⟨rfl,rfl⟩,λ_ z=>(nomatch z),I.bs,Ux I.ok.bsz I.sz,λ_ _ _ z=>(nomatch z),λ_ z=>(nomatch z),I.stack,I.stkFree⟩,
  rfl,I.bare,Un.kept hk,⟨_,hns,λi x v h1 h2 h3=>?_⟩,λx c e=>cell e,I.hok.fresh (US _),λx c e=>I.freeC x c (look e),λ_ hp=>(nomatch hp),I.hok.kept hk,?_⟩
 ·have hx':sc.names.lookup x=some .cell\/sc.names.lookup x=some .free:=hx;rcases hx' with z | z
  ·exact(noC z).elim
  ·obtain⟨c,hc⟩:=Ae (env:=X.env) sc.names [] x (PySem.mem_of_lookup z);exact A3 hc
 ·have h1:(ps++cn)[i]?=some x:=h1;have nd:=VN.mp k6;by_cases hi:i<ps.length
  ·rw[Ud hi]at h1;have h2:(Ci vs js σ)[i]?=some (some v):=h2;unfold Ci at h2;rw[Ud (by simpa[hl] using hi),UZ]at h2;obtain⟨v',e1,e2⟩:=Vl.mp h2;cases e2;obtain⟨u,hu,rv⟩:=r.get e1;refine⟨u,rv,.inl ⟨(k4 x (UO h1)).elim id λz=>(noC z).elim,?_⟩⟩;refine n0 (?_:((ps.zip us).reverse.map (·.1)).Nodup) (X6.mpr (UO (i:=i) ?_))
   ·rw[Xr,List.map_fst_zip (XD hul.symm)];exact(Xm _).nodup_iff.mpr nd.1
   ·rw[List.getElem?_zip_eq_some];exact⟨h1,hu⟩
  ·rw[Uw (X4 hi)]at h1;have h2:(Ci vs js σ)[i]?=some (some v):=h2;unfold Ci at h2;rw[Uw (by simpa[hl] using hi),UQ,hl,UZ]at h2;obtain⟨j,e1,e2⟩:=Vl.mp h2
   have e3:X.N[j]?=some x:=by
    have:=congrArg (λl=>l[i - ps.length]?) k7;simp only[UZ,e1,h1,W2]at this;exact oj this
   have hfx:=k5 x (UO h1);have hvis:=hfreeK (x,.free) (PySem.mem_of_lookup hfx) rfl
   have e4:σ[j]?=some (some v):=by
    cases z:σ[j]? with
    | none=>rw[z]at e2;cases e2
    | some y=>rw[z]at e2;exact congrArg some e2
   obtain⟨u,rv,lk⟩:=hloc j x v e3 e4 (hvis.elim (λz => .inr (.inl z)) λz => .inr (.inr z));refine⟨u,rv,?_⟩;rcases lk with⟨z,_⟩ | ⟨_,c,hc,o,ho,hod⟩
   ·have z':X.env.kindOf x=some .local:=z;rcases hvis with y | y<;>(rw[z']at y;cases y)
   ·obtain⟨c2,hc2⟩:=A3 (Ae (env:=X.env) sc.names [] x (PySem.mem_of_lookup hfx)).choose_spec;have:c2=c:=oj ((look hc2).symm.trans hc);subst this;exact .inr ⟨.inr hfx,c2,hc2,o,hk _ _ ho,hod⟩
 ·show(Ci vs js σ).length=(ps++cn).length;have:=congrArg WW k7;rw[UQ,UQ]at this;unfold Ci;rw[UR,UR,UQ,UQ,hl,this]
noncomputable def DT(f:YT)(q:Str)(params:ZZ)(body:Expr)(sc:Yi)(cl:List (Str×YT))(c':YT):HO := .ext λh=>∃ pm ctv,h.get? f=some (PySem.W.kla_obj "<lambda>" q params body sc cl pm c' ctv)
noncomputable def CodO(c':YT)(q:Str):HO := .ext λh=>h.CodeRec (.ref c') q
theorem Ky{params:ZZ}{body:Expr}{t:TE}{Q:VK}(I:Inv X pins σ H s)(hok:BQ X.env.scope sc ps cn X.N js=true)(hA:A.frames=some X.stack)(hd:A.handled=none)(dep:A.depth<ZE)
 (hf:H f=some (DT f q params body sc (j0 X.env sc.names []) c')) (hc:H c'=some (CodO c' q)) (hbind:∀ pm ctv,Zn (PySem.W.kla_fn "<lambda>" q params body sc (j0 X.env sc.names []) pm (.ref c') ctv) ⟨us,[]⟩=pure (ps.zip us))
 (r:Vals vs us) (hl:vs.length=ps.length) (hb:PE (Eu X A q sc (ps++cn) s H f c') body t) (ht:t (Ci vs js σ) H Q):
 YY (YX X.prog X.w) A (call (.ref f) us []) (EP X pins σ Q) (λ_ _=>False) s:=by
 have hok':=hok;unfold BQ v6 at hok;simp only[UN,dQ,Uq,V8,Uu,decide_eq_false_iff_not]at hok;obtain⟨⟨⟨⟨⟨⟨⟨⟨k1,k2⟩,k3⟩,k4⟩,k5⟩,k6⟩,k7⟩,k8⟩,k9⟩:=hok;obtain⟨⟨pm,ctv,ho⟩,_⟩:=I.hok f _ hf;obtain⟨hcd,_⟩:=I.hok c' _ hc;refine A0k (PySem.W.kla_callFunE dep ho rfl k8.1 k8.2 rfl hcd ?_);rw[hbind];refine YV (wpAny_newFunctionEnv k9 (λx hx=>?_) (λh₁ hns hsb=>⟨?_,?_⟩) k1)
 ·exact(k4 x.1 (Vu (show(x.1,x.2)∈ps.zip us from hx)).1).elim id λz=>(k9 _ (PySem.mem_of_lookup z) rfl).elim
 ·exact I.nolimit.fresh _ hsb
 ·have hk:∀ b o,s.heap.get? b=some o->h₁.get? b=some o:=λb o e=>hsb.extBut b o (Ug (UX e)) (UP _ e);have J:=Nb (q:=q) (f:=f) (c':=c') (tk:=s.toks+(ps.zip us).length) I hok' hA hd r hl hns hk;refine PySem.W.kla_codeExpr (Yo (hb [] _ _ H Q J ht) (λv s' ⟨x,H',J',rx,qx⟩=>?_) λe s' z=>False.elim z);exact⟨x,H',I.call' J'.os J'.base J'.hok J'.bare λ_ z=>(nomatch z),rx,qx⟩
end
section
variable{prog:YZ}{w:Yc}{A:Yf}{E:YQ->YS->Prop}{s:YS}{hb:Heap}{a k:YT}{vs:List YQ}{P:PySem.Fin->YS->Prop}{keys:Array YQ}{e:Nat}{kz:List Int}
theorem Nc(S:Sk hb s.heap a k keys #[] e)(hk:IntsAre keys.toList kz)(hl:kz.length=vs.length)(lt:vs.length<128)(h:∀ h' (out:Array YQ) c,Kpt hb h'->h'.get? a=some (seqObj "list" out c)->KskOut false kz vs out.toList->P (.done (.ret .none)) {s with heap:=h'}):
 YY (YX prog w) A (ksk_end a false vs.toArray e (.ref k) keys) P E s:=by
 have hz:keys.size=vs.length:=(UU.symm.trans hk.length).trans hl;have zz:(keys.zip vs.toArray).size=vs.length:=by have zv:vs.toArray.size=vs.length:=rfl;rw[Y5];omega
 show YY _ _ (do let kind <- if vs.toArray.size<2 then pure A0Y else keyKind' keys
                    let ((),st) <- (if vs.toArray.size<2 then pure () else A12).run (SortSt.mk' kind (keys.zip vs.toArray) #[] 7 none)
                    ksk_tail a false e (.ref k) st) P E s
 cases W5 vs.toArray.size 2 with
 | inl l2=>
   simp only[l2,if_true]
   have hs:ZG (arrOf (SortSt.mk' A0Y (keys.zip vs.toArray) #[] 7 none)) (arrOf (SortSt.mk' A0Y (keys.zip vs.toArray) #[] 7 none)).size:=by
    intro i j hij hj;have hj2:j<(keys.zip vs.toArray).size:=hj;rw[UV]at l2;have:i=j:=by omega
    subst this;exact VM _
   exact YR (YV (YR (YV (Hh (st:=SortSt.mk' A0Y (keys.zip vs.toArray) #[] 7 none) S hz (Us lt (by decide)) (Xa.refl _) rfl λh' c k g=>h h' _ c k g (ksk_out (b:=false) hk (Xa.refl _) hs)))))
 | inr g2=>
   have l2:¬ vs.toArray.size<2:=Nat.not_lt_of_le g2;rw[UV]at g2;simp only[l2,if_false,ksk_kind hk (hz▸g2)];refine YR (YV (YR (Yo (Q:=λr s'=>s'=s/\(arrOf r.2).Perm (keys.zip vs.toArray)/\Yl r.2=none/\ZG (arrOf r.2) (keys.zip vs.toArray).size) (E:=λ_ _=>False) ?_ ?_ λ_ _ f=>f.elim)))
   ·exact Srt.runs_any (a₀:=keys.zip vs.toArray) (Q:=λ_ st'=>(arrOf st').Perm (keys.zip vs.toArray)/\Yl st'=none/\ZG (arrOf st') (keys.zip vs.toArray).size) (ksk_intKeys hk) ⟨Xa.refl _,rfl,rfl,rfl⟩ (show 2<=(keys.zip vs.toArray).size by omega) (show(keys.zip vs.toArray).size<128 by omega) λ_ p f o=>⟨p,f,o⟩
   ·intro r s' ⟨e',p,f,o⟩;cases e';exact Hh S hz (Us lt (by decide)) p f λh' c k g=>h h' _ c k g (ksk_out (b:=false) hk p (p.size_eq▸o))
end
section
variable{X:Cx}{pins:List (YT×Obj)}{σ:St}{H:Hp}{s:YS}{A:Yf}{E:YQ->YS->Prop}{a k:YT}{vs:List YQ}{P:PySem.Fin->YS->Prop}{e:Nat}{kz:List Int}{h':Heap}
theorem Inv.take{t':Nat}{o:HO}(I:Inv X pins σ H s)(hf:FpOk X pins H a)(new:ObjOk X.prog X.w (upd H a o) s.heap a o):Inv X pins σ (upd H a o) {s with toks:=t'}:=by
 obtain⟨f0,f1,f2,f3,f4,f5⟩:=hf
 refine I.step (h':=s.heap) (g':=s.gens) (d':=s.drawn) (ch:=[a]) (λb hb=>?_) (λb o _ _ _ e _=>e) (λb o _ _ _ e _=>⟨o.slots,e⟩) (λb u hc e n=>by rw[upd_ne (λz=>hc (by simp[z]))];exact n)
  (λb o _ e=>⟨o,e⟩) (λb xs e=>by rw[upd_ne (f7 e f0)];exact e) (λb u xs e=>by rw[upd_ne (f7 e f0)];exact e) (λb ps e=>⟨#[],by rw[upd_ne (f7 e f0),e];simp⟩) (λm hm=>hm) (λb u e=>?_) I.bare
 ·rw[UT.mp hb];exact⟨f3,f1,f4,f5⟩
 ·by_cases hb:b=a
  ·subst hb;rw[g7]at e;cases e;exact new
  ·rw[upd_ne hb]at e;exact(I.hok b u e).stay (λc v _ q=>q) (λc q=>by rw[upd_ne (f7 q f0)];exact q) λc xs q=>by rw[upd_ne (f7 q f0)];exact q
theorem Kz{c:String}{xs:Array YQ}{n:Nat}:∀ v,(seqObj c xs n).data ≠ .cell v:=λ_ z=>nomatch z
theorem L0{f:YQ}{J:Hp->Prop}(fa:FpOk X pins H a)(fk:FpOk X pins H k)(ne:k≠a)(I:Inv X pins σ H s)(ha:s.heap.get? a=some (seqObj "list" #[] e))(hk:s.heap.get? k=some (seqObj "list" #[] 0))(jh:J H)(lt:vs.length<128)(hl:kz.length=vs.length)
 (turn:∀(i:Nat) (v:YQ) (z:Int) (pins':List (YT×Obj)) (H':Hp) (s':YS),vs[i]?=some v->kz[i]?=some z->Inv X pins' σ H' s'->J H'->YY (YX X.prog X.w) A (call f [v]) (EP X pins' σ λr H2=>r = .int z/\J H2) (λ_ _=>False) s')
 (h:∀(s':YS) (H':Hp) (out:Array YQ) (c:Nat),Inv X pins σ H' s'->FpOk X pins H' a->J H'->s'.heap.get? a=some (seqObj "list" out c)->KskOut false kz vs out.toList->P (.done (.ret .none)) s'):
 YY (YX X.prog X.w) A (ksk_rest a f false vs.toArray e (.ref k)) P E s:=by
 have fp:∀{H':Hp} {b:YT},b=a\/b=k->H' b=none->FpOk X pins H' b:=λhb n=>by
  rcases hb with rfl | rfl
  ·exact⟨n,fa.2⟩
  ·exact⟨n,fk.2⟩
 unfold ksk_rest;refine YR (Yy ?_);rw[List.forIn_toArray];refine YR (ksk_fold (λi s'=>∃ H' ks n,Inv X pins σ H' s'/\J H'/\H' a=none/\H' k=none/\s'.heap.get? a=some (seqObj "list" #[] e)/\s'.heap.get? k=some (seqObj "list" ks n)/\IntsAre ks.toList (kz.take i)) vs 0 s ⟨H,#[],0,I,jh,fa.1,fk.1,ha,hk,.nil⟩ ?_ ?_)
 ·rintro j v s' hv ⟨H',ks,n,I',j',na,nk,ga,gk,hi⟩;rw[VA]at hi ⊢;have jl:=(gM hv).1;have hz:kz[j]?=some kz[j]:=UM (hl▸jl)
  have I2:Inv X (pins++[(a,seqObj "list" #[] e),(k,seqObj "list" ks n)]) σ H' s':=I'.pins_of λp hp=>by
   rcases Ul.mp hp with z | z
   ·exact I'.pin p (Uo _ z)
   ·rcases Ub.mp z with rfl | z
    ·exact⟨ga,na,fa.2.1,fa.2.2.1,Kz⟩
    ·rw[UT.mp z];exact⟨gk,nk,fk.2.1,fk.2.2.1,Kz⟩
  refine YR (ZQ (Yo (turn j v _ _ H' s' hv hz I2 j') (λr s2 ⟨x,H2,I3,rx,ex,j2⟩=>?_) λ_ _ no=>no.elim));subst ex;obtain⟨t,rfl⟩:=rx;have pa:=I3.pin (a,seqObj "list" #[] e) (Uo _ (Uo _ (.head _)));have pk:=I3.pin (k,seqObj "list" ks n) (Uo _ (Uo _ (.tail _ (.head _))))
  have sz:ks.size=j:=by
   have:=hi.length;rw[VJ,UU]at this;omega
  have sb:=Uz.update s2.heap k (Obj.mapSeq (·.push (.int kz[j] t)));refine YR (ZI pk.1 rfl (YV ⟨rfl,H2,_,_,I3.unpinned.turnedL (ch:=[k]) (λb o hb q=>(sb.2 b λz=>hb (by simp[z])).trans q) (λb hb=>by rw[UT.mp hb];exact fp (.inr rfl) pk.2.1),j2,pa.2.1,pk.2.1,(sb.2 a ne.symm).trans pa.1,ZK pk.1 _,?_⟩) (AG (by omega)) (Xl (AG (show(ks.push (.int kz[j] t)).size<128 by rw[Array.size_push];omega))));rw[Vm,List.take_add_one,hz];exact ksk_snoc hi
 ·rintro s' ⟨H',ks,n,I',j',na,nk,ga,gk,hi⟩;rw[VA,VV (XD hl)]at hi;refine YR (A0q gk rfl (Nc (hb:=PySem.W.hideAll s'.heap [a,k]) ⟨PySem.W.hideAll_none _ (.head _),PySem.W.hideAll_none _ (.tail _ (.head _)),ne,λb o q=>PySem.W.of_hideAll _ q,⟨n,gk⟩,ga⟩ hi hl lt λh' out c K g o=>?_));exact h _ H' out c (I'.turnedL (t':=s'.toks) (ch:=[a,k]) (λb o hb q=>K b o (PySem.W.hideAll_get _ q hb)) λb hb=>(Ub.mp hb).elim (λz=>by rw[z];exact fp (.inl rfl) na) λz=>by rw[UT.mp z];exact fp (.inr rfl) nk) (fp (.inl rfl) na) j' g o
noncomputable def PR(h:Heap)(l:YT)(vs:List YQ):Prop:=∃(T:String) (o:Obj) (n:Nat),(T="list"\/T="tuple")/\h.get? l=some o/\o.cls = .type T/\o.data = .seq vs.toArray n
theorem GJ{f:YQ}{J:Hp->Prop}{l q:YT}{Q:YQ->YS->Prop}(ef:f = .ref q)(I:Inv X pins σ H s)(hl:PR s.heap l vs)(jh:J H)(lt:vs.length<128)(hz:kz.length=vs.length)
 (turn:∀(i:Nat) (v:YQ) (z:Int) (pins':List (YT×Obj)) (H':Hp) (s':YS),vs[i]?=some v->kz[i]?=some z->Inv X pins' σ H' s'->J H'->YY (YX X.prog X.w) A.in1.in1 (call f [v]) (EP X pins' σ λr H2=>r = .int z/\J H2) (λ_ _=>False) s')
 (h:∀(s':YS) (H':Hp) (a:YT) (out:Array YQ) (c:Nat),Inv X pins σ H' s'->FpOk X pins H' a->J H'->s'.heap.get? a=some (seqObj "list" out c)->KskOut false kz vs out.toList->Q (.ref a) s'):
 YY (YX X.prog X.w) A (call (.builtin "sorted") [.ref l] [(Str.ofString "key",f)]) Q E s:=by
 subst ef;obtain⟨T,o,n,hT,ho0,hc,hd⟩:=hl;refine call_function_entry_kw A0F A0s A0t (ksk_s1 _ _) ?_;refine YR (m:=A0Q "sorted" 1 1 _) (YV (YR (wpAny_collect_seq l hT ho0 hc hd (λh1 K1=>?_) (AG lt))));have I1:Inv X pins σ H {s with heap:=h1}:=I.kept (t':=s.toks) K1;refine YR (ZR ?_ (AG lt));have ho:(h1.push (seqObj "list" vs.toArray 0)).get? h1.objs.size=some (seqObj "list" vs.toArray 0):=UY _ rfl;have a0:h1.get? h1.objs.size=none:=XN (US _);have u1:=ZK ho λ_=>(#[]:Array YQ)
 have hv:vs.toArray.size<128:=lt;refine YR (Yn (wpAny_call_entry_kw A0d ⟨_,ho,rfl⟩ Zz (ksk_t1 _ _▸?_) (ksk_l1 _ _)));have s3:((h1.push (seqObj "list" vs.toArray 0)).update h1.objs.size (Obj.mapSeq λ_=>(#[]:Array YQ))).objs.size=h1.objs.size+1:=(Wc ..).trans (A0R ..);refine YR (A0q ho rfl (YR (ZI ho rfl (YR (A0b u1 rfl (YR (A0c (YR (ZR (Yn ?_) (VX _))) (AG hv))))) (AG hv) (VX _))));have ksz:(((h1.push (seqObj "list" vs.toArray 0)).update h1.objs.size (Obj.mapSeq λ_=>(#[]:Array YQ))).push (seqObj "tuple" vs.toArray 0)).objs.size=h1.objs.size+2:=by rw[A0R,s3]
 have K2:Kpt h1 ((((h1.push (seqObj "list" vs.toArray 0)).update h1.objs.size (Obj.mapSeq λ_=>(#[]:Array YQ))).push (seqObj "tuple" vs.toArray 0)).push (seqObj "list" #[] 0)):=Ch (Ch (EC a0 (Ch λ_ _ q=>q)))
 refine L0 (s:={s with heap:=(((h1.push (seqObj "list" vs.toArray 0)).update h1.objs.size (Obj.mapSeq λ_=>(#[]:Array YQ))).push (seqObj "tuple" vs.toArray 0)).push (seqObj "list" #[] 0)}) (J:=J) (pins:=pins) (I1.fpOk (US _) (I1.hok.fresh (US _))) (I1.fpOk (by rw[ksz];exact Wd _ 2) (I1.hok.fresh (by rw[ksz];exact Wd _ 2)))
  (by rw[ksz];show @Ne Nat (h1.objs.size+2) h1.objs.size;omega) (I1.kept (t':=s.toks) K2) (UP _ (UP _ u1)) (UY _ rfl) jh lt hz turn λs' H' out c I' f' j g o=>?_
 exact⟨_,rfl,YV ⟨_,rfl,h s' H' _ out c I' f' j g o⟩⟩
end
noncomputable def TabOk(H:Hp)(q:Str)(pos:Pos)(ps:Array YQ):Prop:=TriplesOk ps.toList/\(codeAmong pos ps.toList=none\/∃ c',codeAmong pos ps.toList=some (.ref c')/\H c'=some (CodO c' q))
structure LamNew(H H':Hp)(P f c':YT)(q:Str)(pos:Pos)(u:HO):Prop where
 lam:H' f=some u
 cod:H' c'=some (CodO c' q)
 new:H f=none
 keep:∀ b o,b≠P->H b=some o->H' b=some o
 tab:∃ ps,H' P=some (.tbl ps)/\TabOk H' q pos ps
section
variable{X:Cx}{pins:List (YT×Obj)}{σ:St}{H:Hp}{s:YS}{A:Yf}{E:YQ->YS->Prop}{q:Str}{pos:Pos}{ps:Array YQ}{sc:Yi}{params:ZZ}{body:Expr}{c P c' f:YT}{h h':Heap}
theorem L3{Pr:YZ}{w:Yc}{H':Hp}{cl:List (Str×YT)}{pm ctv:YQ}(e:h.get? f=some (PySem.W.kla_obj "<lambda>" q params body sc cl pm c' ctv)):ObjOk Pr w H' h f (DT f q params body sc cl c'):=
 ⟨⟨pm,ctv,e⟩,⟨_,e⟩,λ_ _ ⟨pm,ctv,e⟩ k=>⟨pm,ctv,k _ e⟩⟩
theorem Qk{Pr:YZ}{w:Yc}{H':Hp}(e:h.CodeRec (.ref c') q):ObjOk Pr w H' h c' (CodO c' q):=by
 obtain⟨c,o,vs,t,e1,e2,e3,e4⟩:=e;cases e1;refine⟨⟨c',o,vs,t,rfl,e2,e3,e4⟩,⟨o,e2⟩,λh1 h2 ⟨c,o,vs,t,e1,e2,e3,e4⟩ k=>?_⟩;cases e1;exact⟨c',o,vs,t,rfl,k _ e2,e3,e4⟩
theorem L4{Q:YQ->YS->Prop}(I:Inv X pins σ H s)(hc:X.env.code = .ref c)(C:PySem.W.CodeHd X.base c P)(hP:H P=some (.tbl ps))(ht:TabOk H q pos ps)(hq:X.env.qual++"<lambda>"=q)(hdef:defaultsOf params X.env=([],[]))
 (hcl:A0l sc X.env=pure (j0 X.env sc.names [])) (h:∀ f c' H' s',Inv X pins σ H' s'->LamNew H H' P f c' q pos (DT f q params body sc (j0 X.env sc.names []) c')->Q (.ref f) s'):
 YY (YX X.prog X.w) A (eval (.Lambda params body sc pos) X.env) Q E s:=by
 refine PySem.W.kla_eval hdef ?_;rw[hq];have hps:s.heap.get? P=some (PySem.W.tabObj ps):=I.hok P _ hP;have hg:=I.mod.glob.keeps I.bk;have C':=C.keeps I.bk;obtain⟨bm,ob,b1,b2,b3,b4,b5,b6⟩:=I.mod.bm
 have hgP:Ya≠P:=λz=>by
  obtain⟨o,es,ep,e,hd,_⟩:=hg;rw[z,hps]at e;cases e;cases hd
 have hbP:bm≠P:=λz=>by
  have e:=I.bk _ _ b3;rw[z,hps]at e;cases e;cases b4
 have hbG:bm≠Ya:=λz=>by
  obtain⟨o,es,ep,e,hd,_⟩:=I.mod.glob;rw[z,e]at b3;cases b3;rw[hd]at b6;cases b6
 have hbu:s.heap.BuiltinsAt X.mg P:=⟨bm,ob,b1,b2,hbG,hbP,I.bk _ _ b3,b4,b5,b6⟩
 have nP:∀{b:YT},H b=none->b≠P:=λn z=>by rw[z,hP]at n;cases n
 rcases ht.2 with hnf | ⟨c',hf,hc'⟩
 ·refine PySem.W.kla_makeFunction hcl I.ok.glob hg hc C' hps ht.1 hnf hgP hbu λc' ctv h' tk hx hge hlt hrec htb=>?_;have nf0:(PySem.W.kla_obj "<lambda>" q params body sc (j0 X.env sc.names []) ((X.mg "__name__").getD .none) c' ctv).isFreed=false:=rfl;have ob0:∃ pm,(PySem.W.kla_obj "<lambda>" q params body sc (j0 X.env sc.names []) ((X.mg "__name__").getD .none) c' ctv)=PySem.W.kla_obj "<lambda>" q params body sc (j0 X.env sc.names []) pm c' ctv:=⟨_,rfl⟩
  generalize (PySem.W.kla_obj "<lambda>" q params body sc (j0 X.env sc.names []) ((X.mg "__name__").getD .none) c' ctv)=ob at nf0 ob0 ⊢;obtain⟨pm,eob⟩:=ob0;have hx':∀ b o,b≠P->s.heap.get? b=some o->(h'.push ob).get? b=some o:=λb o n e=>UP _ (hx b o n e);have hP':(h'.push ob).get? P=_:=UP _ htb;have hf':(h'.push ob).get? h'.objs.size=_:=(UY h' nf0).trans (congrArg some eob);have hc2:(h'.push ob).CodeRec (.ref c') q:=hrec.keeps λb o e=>UP _ e;have nc:H c'=none:=I.hok.fresh hge;have nf:H h'.objs.size=none:=I.hok.fresh (Ux hge (Vf hlt));have cP:=nP nc;have fP:=nP nf;have cf:c'≠h'.objs.size:=Ug hlt
  let H':=upd (upd (upd H P (.tbl (ps++#[rawInt pos.line,rawInt pos.col,.ref c']))) c' (CodO c' q)) h'.objs.size (DT h'.objs.size q params body sc (j0 X.env sc.names []) c')
  have kp:∀ b o,b≠P->H b=some o->H' b=some o:=λb o n e=>by
   show upd _ _ _ b=_;rw[upd_ne (f7 e nf),upd_ne (f7 e nc),upd_ne n];exact e
  have eP:H' P=some (.tbl (ps++#[rawInt pos.line,rawInt pos.col,.ref c'])):=by
   show upd _ _ _ P=_;rw[upd_ne fP.symm,upd_ne cP.symm,g7]
  have ec:H' c'=some (CodO c' q):=by
   show upd _ _ _ c'=_;rw[upd_ne cf,g7]
  have ef:H' h'.objs.size=some (DT h'.objs.size q params body sc (j0 X.env sc.names []) c'):=g7
  have old:∀ b,H' b=none\/b=P\/b=c'\/b=h'.objs.size\/H' b=H b:=λb=>by
   by_cases z1:b=P
   ·exact .inr (.inl z1)
   ·by_cases z2:b=c'
    ·exact .inr (.inr (.inl z2))
    ·by_cases z3:b=h'.objs.size
     ·exact .inr (.inr (.inr (.inl z3)))
     ·refine .inr (.inr (.inr (.inr ?_)));show upd _ _ _ b=_;rw[upd_ne z3,upd_ne z2,upd_ne z1]
  refine h _ c' H' _ (I.step (g':=s.gens) (d':=s.drawn) (ch:=[]) (λ_ z=>nomatch z) (λb o _ _ _ e n=>hx' b o (nP n) e) (λb o _ _ _ e n=>⟨o.slots,hx' b o (nP n) e⟩) (λb o _ e n=>?_) (λb o _ e=>?_) (λb xs e=>kp _ _ (λz=>by rw[z,hP]at e;cases e) e) (λb o xs e=>kp _ _ (λz=>by rw[z,hP]at e;cases e) e) (λb qs e=>?_) (λm hm=>?_) (λb u e=>?_) I.bare) ⟨ef,ec,nf,kp,_,eP,?_,.inr ⟨c',?_,ec⟩⟩
  ·have lb:=UX e;show upd _ _ _ b=_;rw[upd_ne (Ug (Us lb (Ux hge (Vf hlt)))),upd_ne (Ug (Us lb hge)),upd_ne (nP n)];exact n
  ·by_cases z:b=P
   ·subst z;exact⟨_,hP'⟩
   ·exact⟨o,hx' b o z e⟩
  ·by_cases z:b=P
   ·subst z;rw[hP]at e;cases e;exact⟨_,eP⟩
   ·exact⟨#[],by rw[kp b _ z e];simp⟩
  ·obtain⟨o,es,ep,ho,r⟩:=hm;exact⟨o,es,ep,hx' _ o (nP I.free) ho,r⟩
  ·rcases old b with z | z | z | z | z
   ·rw[z]at e;cases e
   ·subst z;rw[eP]at e;cases e;exact hP'
   ·subst z;rw[ec]at e;cases e;exact Qk hc2
   ·subst z;rw[ef]at e;cases e;exact L3 hf'
   ·by_cases y:b=P
    ·subst y;rw[eP]at e;cases e;exact hP'
    ·rw[z]at e;refine(I.hok b u e).stay (λc v hc q=>hx' c v ?_ q) (λc q=>kp _ _ (λz=>by rw[z,hP]at q;cases q) q) λc xs q=>kp _ _ (λz=>by rw[z,hP]at q;cases q) q;rcases hc with rfl | hc
     ·exact y
     ·exact λz=>by rw[z,hP]at hc;cases hc
  ·rw[V3];exact TriplesOk_snoc _ _ _ _ ht.1
  ·rw[V3];exact codeAmong_snoc _ ht.1 hnf
 ·refine PySem.W.kla_makeFunctionHit hcl I.ok.glob hg hc C' hps ht.1 hf hbu λctv h' tk hk hsz=>?_;have nf:H h'.objs.size=none:=I.hok.fresh hsz;have kp:∀ b o,H b=some o->upd H h'.objs.size (DT h'.objs.size q params body sc (j0 X.env sc.names []) c') b=some o:=λb o e=>by rw[upd_ne (f7 e nf)];exact e
  exact h _ c' _ _ (I.laid (a:=h'.objs.size) (o:=DT h'.objs.size q params body sc (j0 X.env sc.names []) c') (t':=tk) (λb u e=>UP _ (hk b u e)) hsz (L3 (UY _ rfl))) ⟨g7,kp _ _ hc',nf,λb o _ e=>kp _ _ e,ps,kp _ _ hP,ht.1,.inr ⟨c',hf,kp _ _ hc'⟩⟩
end
theorem Cj:∀{kz:List Int} {ws:List V} {its:List YQ},Vals ws its->Paired (λ(p:Int×V) (q:Int×YQ)=>p.1=q.1/\RelV p.2 q.2) (kz.zip ws) (kz.zip its)
 | [],_,_,_ => .nil
 | _::_,_,_,.nil => .nil
 | _::_,_,_,.cons r t => .cons ⟨rfl,r⟩ (Cj t)
theorem Ck{R:Int->Int->Prop}:∀{ys:List (Int×V)} {zs:List (Int×YQ)},Paired (λ(p:Int×V) (q:Int×YQ)=>p.1=q.1/\RelV p.2 q.2) ys zs->Vals (ys.map (·.2)) (zs.map (·.2))/\ys.map (·.1)=zs.map (·.1)
 | _,_,.nil=>⟨.nil,rfl⟩
 | _,_,.cons r t=>⟨.cons r.2 (Ck (R:=R) t).1,by rw[Uv,Uv,r.1,(Ck (R:=R) t).2]⟩
noncomputable def Sy(X:Cx)(q:Str)(lp:Pos)(params:ZZ)(body:Expr)(sc:Yi)(js:List Nat)(tb:TE)(vs:List V)(σ:St)(H1:Hp)(Q:VK):Prop:=
 ∃(p:YT) (ws:List V) (kz:List Int) (c P:YT) (ps:Array YQ),vs=[.ref p]/\ws.length<128/\kz.length=ws.length/\X.env.code = .ref c/\PySem.W.codeHdIn X.K c P=true/\H1 P=some (.tbl ps)/\TabOk H1 q lp ps/\
  ∀ f c' H2,LamNew H1 H2 P f c' q lp (DT f q params body sc (j0 X.env sc.names []) c')->∃ J:Hp->Prop,J H2/\(SqL X.K H2 p ws\/SqT X.K H2 p ws)/\(∀ H,J H->H f=some (DT f q params body sc (j0 X.env sc.names []) c')/\H c'=some (CodO c' q))/\
   (∀(i:Nat) v z H,ws[i]?=some v->kz[i]?=some z->J H->tb (Ci [v] js σ) H λr H'=>r = .int z/\J H')/\
   ∀ H l (ys:List (Int×V)),J H->H l=none->ys.Perm (kz.zip ws)->(ys.map (·.1)).Pairwise (·<=·)->Q (.ref l) (upd H l (.lst (ys.map (·.2))))
theorem L5{X:Cx}{p pos kp lp:Pos}{e body:Expr}{params:ZZ}{sc:Yi}{x q:Str}{cn:List Str}{js:List Nat}{t:TA}{tb:TE}(hg:Gl X "sorted")(hm:X.mg "sorted"=none)(ha:PA X [e] t)(hok:BQ X.env.scope sc [x] cn X.N js=true)(hq:X.env.qual++"<lambda>"=q)
 (hdef:defaultsOf params X.env=([],[])) (hbind:∀(cl:List (Str×YT)) (pm c' ctv u:YQ),Zn (PySem.W.kla_fn "<lambda>" q params body sc cl pm c' ctv) ⟨[u],[]⟩=pure [(x,u)]) (hd:X.calm=true) (dep:X.A.depth<ZE)
 (hb:∀ s H f c',PE (Eu X X.A.in1.in1 q sc ([x]++cn) s H f c') body tb) (he:backTo pos (Yg [e] X.env)=(false,eval e X.env)::backTo pos (Yg [] X.env)) (hpl:(backTo pos (Yg [e] X.env)).any (·.1)=false):
 PE X (.Call (.Name "sorted" p) [e] [⟨some "key",.Lambda params body sc lp,kp⟩] pos) (λσ H Q=>t σ H λvs H1=>Sy X q lp params body sc js tb vs σ H1 Q):=by
 intro pins s σ H Q I h;have hok':=hok;unfold BQ v6 at hok';simp only[UN,dQ,Uq,V8,Uu,decide_eq_false_iff_not]at hok';obtain⟨⟨⟨⟨⟨⟨⟨⟨k1,k2⟩,k3⟩,k4⟩,k5⟩,k6⟩,k7⟩,k8⟩,k9⟩:=hok'
 have hcl:A0l sc X.env=pure (j0 X.env sc.names []):=Ad λy hy hf=>I.ok.has y.1 (by
  rcases k2 y hy with(z | z) | z
  ·exact absurd hf z
  ·exact .inl z
  ·exact .inr z)
 refine Ys (At I hg hm (show Yd "sorted"=some (.builtin "sorted") by decide +kernel) ?_ (by decide) (by decide));refine callWith_kw (thn (ha pos pins s σ H _ I h) λus s1 ⟨vs,H1,I1,r1,p,ws,kz,c,P,ps,ev,lt,lk,ec,C,hP,ht,h1⟩=>?_) he hpl rfl rfl;refine thn (Q:=λzs s2=>∃ f c' H2,zs=[.ref f]/\Inv X pins σ H2 s2/\LamNew H1 H2 P f c' q lp (DT f q params body sc (j0 X.env sc.names []) c')) (wpAny_evalAll_cons (YR (L4 I1 ec (PySem.W.codeHd_of_K I1.mod.kin C) hP ht hq hdef hcl λf c' H2 s2 I2 L=>YR (Zk (YV (wpAny_evalAll_nil ⟨f,c',H2,rfl,I2,L⟩)))))) λzs s2 ⟨f,c',H2,ez,I2,L⟩=>?_;subst ez;subst ev;obtain⟨u,rfl,rx⟩:=AS r1;cases rx;obtain⟨J,j2,hl,hJ,turn,fin⟩:=h1 f c' H2 L
 obtain⟨its,r',pl⟩:∃ its:List YQ,Vals ws its/\PR s2.heap p its:=by
  rcases hl with hl | hl
  ·obtain⟨its,r',pl,_⟩:=I2.list hl;obtain⟨o,h1,h2,n,h3⟩:=pl.isList;exact⟨its,r',"list",o,n,.inl rfl,h1,h2,h3⟩
  ·obtain⟨its,r',⟨o,h1,h2,n,h3⟩,_⟩:=I2.tuple hl;exact⟨its,r',"tuple",o,n,.inr rfl,h1,h2,h3⟩
 have hlen:=r'.length;refine GJ (f := .ref f) (kz:=kz) rfl I2 pl j2 (by omega) (by omega) (λi v z pins' H' s' hv hz I' j'=>?_) λs' H' a out cc I' f' j' g ⟨zs,pm,eo,pw⟩=>?_
 ·have il:=(gM hv).1;have hw:=UM (show i<ws.length by omega);obtain⟨u,hu,ru⟩:=r'.get hw;rw[hv]at hu;cases hu;exact Ky (ps:=[x]) (js:=js) I' hok I'.ok.frames (I'.ok.hd hd) dep (hJ H' j').1 (hJ H' j').2 (λpm ctv=>hbind _ _ _ _ _) (.cons ru .nil) rfl (hb s' H' f c') (turn i _ z H' hw hz j')
 ·obtain⟨ys,rp,py⟩:=C2 pm (Cj (kz:=kz) r');have po:=Ck (R:=(·<=·)) rp
  have hz2:(ys.map (·.2)).length<=Yb:=by
   rw[UQ,py.length_eq,List.length_zip];exact AG (Vh (Nat.min_le_right _ _) lt)
  refine⟨.ref a,_,I'.take (t':=s'.toks) f' (show ObjOk X.prog X.w _ _ _ (.lst (ys.map (·.2))) from ⟨hz2,out.toList,cc,eo▸po.1,by simpa using g⟩),rfl,fin H' a ys j' f'.1 py ?_⟩;rw[po.2,WH];exact pw.imp λ{a b} h=>by simpa using h
noncomputable def Hi(ts:List YT)(H:Hp):Prop:=(∀ P∈ts,H P=some (.tbl #[]))/\∀ b,H b=none\/(∃ o xs,H b=some (.frz o (.lst xs)))\/b∈ts
theorem J8{P:YZ}{w:Yc}{K:UL}{mg mb:Str->Option YQ}{k:Nat}{fa a:YT}{fd:ZF}{x:Str}{sp:Sp}{s₁:YS}{vs:List YQ}{ns:List Int}{ts:List YT}
 (KX:K.In s₁.heap) (hns:s₁.heap.Ns Ya mg) (hb:s₁.heap.Ns Za mb) (hbb:∀ x:Str,x≠"__name__"->mb x=Yd x) (hlim:s₁.heap.NoLimit) (hbm:BmAt mg s₁.heap) (hg:s₁.gens=#[])
 (ha:s₁.heap.get? a=some {cls := .type "list",data := .seq vs.toArray}) (hi:IntsAre vs ns) (hl:ns.length<=Yb) (hr:Room k callerA) (hts:∀ T∈ts,s₁.heap.get? T=some (PySem.W.tabObj #[])/\K.lookup T=none/\∃ c,PySem.W.codeHdIn K c T=true)
 (F:∀ base:Heap,K.In base->base.Ns Ya mg->FnOk P w K mg base CX0 k fa fd [x] sp) (hbind:∀(s:YS) (u:YQ),BindsTo s fd ⟨[u],[]⟩ [(x,u)])
 (hsp:∀ H:Hp,Hi ts H->SqL K H a (ns.map V.int)->sp [.ref a] H (λv _=>v = .bl true) λ_ _ _=>False):
 codeAny (YX P w) callerA (.call (.ref fa) ⟨[.ref a],[]⟩) (λr s'=>r = .ok (.ret (.bool true))/\OldK s₁.heap s'.heap/\s'.os=s₁.os/\AllBare s'.gens) s₁:=by
 have rv:=Dd hi;have lenV:=hi.length;have aT:a∉ts:=λz=>by have e:=(hts a z).1;rw[ha]at e;cases e
 have core:∀ H:Hp,Hi ts H->SqL K H a (ns.map V.int)->HOk P w H s₁.heap->(∀ b,H b≠none->b=a\/b∈ts)->(H a≠none->K.lookup a=none)->
  codeAny (YX P w) callerA (.call (.ref fa) ⟨[.ref a],[]⟩) (λr s'=>r = .ok (.ret (.bool true))/\OldK s₁.heap s'.heap/\s'.os=s₁.os/\AllBare s'.gens) s₁:=by
  intro H hO hS hok hA hK;have t6:∀{b:YT} {o:Obj},s₁.heap.get? b=some o->H b=none->(E5 s₁.heap H).get? b=some o:=λe n=>Js e n
  have noA:∀{b:YT} {o:Obj},s₁.heap.get? b=some o->o≠{cls := .type "list",data := .seq vs.toArray}->o≠PySem.W.tabObj #[]->H b=none:=λ{b o} e d d'=>by
   cases q:H b with
   | none=>rfl
   | some u=>
     rcases hA b (by rw[q];simp) with z | z
     ·rw[z,ha]at e;exact absurd (oj e).symm d
     ·rw[(hts b z).1]at e;exact absurd (oj e).symm d'
  have nsK:∀{b:YT} {m:Str->Option YQ},s₁.heap.Ns b m->(E5 s₁.heap H).Ns b m:=λ{b m} ⟨o,es,ep,e,d,r⟩=>⟨o,es,ep,t6 e (noA e (λz=>by rw[z]at d;cases d) (λz=>by rw[z]at d;cases d)),d,r⟩
  have hKb:K.In (E5 s₁.heap H):=λb o e=>t6 (KX b o e) (by
   cases q:H b with
   | none=>rfl
   | some u=>
     rcases hA b (by rw[q];simp) with z | z
     ·subst z;rw[hK (by rw[q];simp)]at e;cases e
     ·rw[(hts b z).2.1]at e;cases e)
  have hM:Mod K mg (E5 s₁.heap H):=⟨hKb,nsK hns,⟨mb,nsK hb,hbb⟩,let ⟨mc,h1,h2⟩:=hlim;⟨mc,nsK h1,h2⟩,let ⟨bm,ob,b1,b2,b3,b4,b5,b6⟩:=hbm;⟨bm,ob,b1,b2,t6 b3 (noA b3 (λz=>by rw[z]at b6;cases b6) (λz=>by rw[z]at b6;cases b6)),b4,b5,b6⟩⟩
  have e0:Env0 P w K mg (E5 s₁.heap H) callerA [] s₁ H:=⟨rfl,hM,λb o e=>N5 e,XD (IY _ _),trivial,(λ_ z=>nomatch z),hok,.of_eq hg⟩
  refine Z3 ((F _ hKb (nsK hns)).run callerA [] s₁ H ⟨[.ref a],[]⟩ [.ref a] [.ref a] _ _ hr e0 (hbind s₁ (.ref a)) (.cons rfl .nil) (hsp H hO hS)) λr s' h=>?_;cases r with
  | error e=>exact False.elim h
  | ok fl=>
    cases fl with
    | next=>exact False.elim h
    | brk=>exact False.elim h
    | cont=>exact False.elim h
    | ret u=>
      obtain⟨v,H',os,bare,un,hok',r',q⟩:=h;have q':v = .bl true:=q;subst q';obtain rfl:u=Value.bool true:=r'
      have one:∀ b o,s₁.heap.get? b=some o->s'.heap.get? b=some o\/(b∈ts/\∃ more,s'.heap.get? b=some (PySem.W.tabObj (#[]++more))):=λb o e=>by
       cases q:H b with
       | none=>exact .inl (un.keep b o e q (λz=>nomatch z) (λz=>nomatch z))
       | some u=>
         rcases hO.2 b with z | ⟨ob,xs,z⟩ | z
         ·rw[q]at z;cases z
         ·have z2:=un.frzs b ob _ z;obtain⟨e1,_⟩:=hok b _ z;obtain⟨e2,_⟩:=hok' b _ z2;rw[e]at e1;cases e1;exact .inl e2
         ·obtain⟨more,z2⟩:=un.tbls b _ (hO.1 b z);exact .inr ⟨z,more,hok' b _ z2⟩
      refine⟨rfl,⟨λb o e=>?_,λb o e=>?_⟩,os,bare⟩
      ·rcases one b o e with z | ⟨z,more,g⟩
       ·exact .inl z
       ·obtain⟨e1,_,c,hc⟩:=hts b z;rw[e]at e1;cases e1;exact .inr (.inl ⟨((PySem.W.codeHd_of_K KX hc).tab e).isCodeTable,rfl,#[],more,rfl,g⟩)
      ·rcases one b o e with z | ⟨z,more,g⟩
       ·exact⟨_,z⟩
       ·exact⟨_,g⟩
 have noTS:∀{b:YT},b∈ts->K.lookup b=none:=λz=>(hts _ z).2.1;cases hk:K.lookup a with
 | some o=>
   have e:=KX a o hk;rw[ha]at e;cases e;refine core (λb=>if b∈ts then some (.tbl #[]) else none) ⟨λT hT=>iP hT,λb=>?_⟩ (.inr ⟨_,vs.toArray,_,hk,rfl,rfl,rfl,by rw[UV,lenV];exact hl,by simpa using rv⟩) (λb u z=>?_) (λb z=>?_) λz=>absurd (iG aT) z
   ·by_cases hb:b∈ts
    ·exact .inr (.inr hb)
    ·exact .inl (iG hb)
   ·by_cases hb:b∈ts
    ·have z':=(iP hb).symm.trans z;cases z';exact(hts b hb).1
    ·have z':=(iG hb).symm.trans z;cases z'
   ·by_cases hb:b∈ts
    ·exact .inr hb
    ·exact absurd (iG hb) z
 | none=>
   refine core (λb=>if b∈ts then some (.tbl #[]) else if b=a then some (.frz {cls := .type "list",data := .seq vs.toArray} (.lst (ns.map V.int))) else none) ⟨λT hT=>iP hT,λb=>?_⟩ (.inl (.inr ⟨{cls := .type "list",data := .seq vs.toArray},(iG aT).trans (iP rfl)⟩)) (λb u z=>?_) (λb z=>?_) λ_=>hk
   ·by_cases hb:b∈ts
    ·exact .inr (.inr hb)
    ·by_cases h2:b=a
     ·exact .inr (.inl ⟨_,_,(iG hb).trans (iP h2)⟩)
     ·exact .inl ((iG hb).trans (iG h2))
   ·by_cases hb:b∈ts
    ·have z':=(iP hb).symm.trans z;cases z';exact(hts b hb).1
    ·by_cases h2:b=a
     ·have z':=((iG hb).trans (iP h2)).symm.trans z;cases z';subst h2;exact⟨ha,by rw[UQ];exact hl,vs,_,rv,ha⟩
     ·have z':=((iG hb).trans (iG h2)).symm.trans z;cases z'
   ·by_cases hb:b∈ts
    ·exact .inr hb
    ·by_cases h2:b=a
     ·exact .inl h2
     ·exact absurd ((iG hb).trans (iG h2)) z
theorem walk_ofT{l:PySem.W.OpenLaw}{n k:Nat}{q:YZ}{loose:List Str}{XP:(Str->Option YQ)->Heap->Prop}{YP:Yc->Heap->Prop}{d:DefRec}{K:Params->UL}{sp:Yc->Sp}{x:Str}{ts:List YT}
 (hn:l.most=some n) (hn2:n<=Yb) (hdf:d.params.defaults=[]) (hr:Room k callerA)
 (hY:∀(w:Yc) (h:Heap),YP w h->(K w.params).In h/\∀ T∈ts,h.get? T=some (PySem.W.tabObj #[])) (hT:∀ w:Yc,∀ T∈ts,(K w.params).lookup T=none/\∃ c,PySem.W.codeHdIn (K w.params) c T=true)
 (F:∀(w:Yc) (mg:Str->Option YQ) (fa:YT) (h:Heap),(K w.params).In h->h.Ns Ya mg->mg d.name=some (.ref fa)->
   ∃ fd:ZF,(∀(s:YS) (u:YQ),BindsTo s fd ⟨[u],[]⟩ [(x,u)])/\
    ∀ base:Heap,(K w.params).In base->base.Ns Ya mg->FnOk l.prog w (K w.params) mg base CX0 k fa fd [x] (sp w))
 (hsp:∀(w:Yc) (H:Hp) (a:YT) (ns:List Int),ns.length<=n->Hi ts H->SqL (K w.params) H a (ns.map V.int)->sp w [.ref a] H (λv _=>v = .bl true) λ_ _ _=>False):
 PySem.W.WalkO q loose XP YP l.row.toRowW d [] (λf vs=>PySem.call f vs):=by
 refine Att.attach_call hn hdf λw s₀ s₁ mg mb fa o pm cd doc a vs ns G Y ho hd hcd hmg hobj hints hlen hg=>?_;obtain⟨KX,hts⟩:=hY w _ Y;obtain⟨fd,hb,hF⟩:=F w mg fa _ KX G.T.g hmg;exact J8 KX G.T.g G.T.b G.T.builtins G.T.nolimit G.T.bmain hg hobj hints (Ux hlen hn2) hr (λT z=>⟨hts T z,hT w T z⟩) hF hb λH hO hS=>hsp w H a ns hlen hO hS
end L2
namespace Rf
open PySem L2
inductive TyN where
 | int | bool | str | list | tuple | none
 deriving DecidableEq
noncomputable def TyN.nm:TyN->String
 | .int=>"int" | .bool=>"bool" | .str=>"str" | .list=>"list" | .tuple=>"tuple" | .none=>"NoneType"
inductive SV where
 | non | bl (b:Bool) | int (i:Int) | str (x:Str) | tup (xs:List SV) | loc (k:Nat) | ro (xs:List SV) | ty (t:TyN)
inductive SO where
 | lst (xs:List SV)
 | iset (ms:List Int)
 | dtp (kvs:List ((Int×Int)×Int)) | dtl (kvs:List (List Int×SV)) | dtf (o:Obj) (us:List (List Key×V)) (kvs:List (List Int×SV)) | dct (kvs:List (Int×SV)) | dcf (o:Obj) (ks:List (Key×V)) (kvs:List (Int×SV)) | tbl (x:Str) (lp:Pos)
noncomputable abbrev Sto:=List SO
noncomputable abbrev EnvS:=List (Option SV)
noncomputable def FzL(K:UL)(H:Hp)(a:YT)(vs:List V):Prop:=(∃ o,H a=some (.frz o (.lst vs)))\/
 ∃(o:Obj) (its:Array YQ) (n:Nat),K.lookup a=some o/\o.cls = .type "list"/\o.dict=none/\o.data = .seq its n/\its.size<=Yb/\Vals vs its.toList
theorem FzL.sq{K:UL}{H:Hp}{a:YT}{vs:List V}(h:FzL K H a vs):SqL K H a vs:=h.imp (λ⟨o,e⟩ => .inr ⟨o,e⟩) id
mutual
noncomputable def Rl(K:UL)(as:List YT)(H:Hp):V->SV->Prop
 | v,.non=>v = .non
 | v,.bl b=>v = .bl b
 | v,.int i=>v = .int i
 | v,.str x=>v = .str x
 | v,.tup xs=>∃ p vs,v = .ref p/\H p=some (.tup vs)/\RlAll K as H vs xs
 | v,.loc k=>∃ a,as[k]?=some a/\v = .ref a
 | v,.ro xs=>∃ a vs,v = .ref a/\FzL K H a vs/\RlAll K as H vs xs
 | v,.ty t=>v = .ty t.nm
noncomputable def RlAll(K:UL)(as:List YT)(H:Hp):List V->List SV->Prop
 | vs,[]=>vs=[]
 | vs,x::xs=>∃ v r,vs=v::r/\Rl K as H v x/\RlAll K as H r xs
end
noncomputable def imm:HO->Bool
 | .tup _=>true
 | .frz _ (.lst _)=>true
 | .ext _=>true
 | _=>false
noncomputable def KeepU(H H':Hp):Prop:=∀ b o,H b=some o->imm o=true->H' b=some o
theorem KeepU.refl(H:Hp):KeepU H H:=λ_ _ h _=>h
theorem KeepU.trans{H H' H'':Hp}(a:KeepU H H')(b:KeepU H' H''):KeepU H H'':=λx o h i=>b x o (a x o h i) i
theorem Ak{H:Hp}{p:YT}{o:HO}(hp:H p=none):KeepU H (upd H p o):=λb u h _=>by
 rw[upd_ne (f7 h hp)];exact h
theorem C3{H:Hp}{a:YT}{u o:HO}(h:H a=some u)(i:imm u=false):KeepU H (upd H a o):=λb v hb iv=>by
 rw[upd_ne (P4 hb h (by intro z;rw[z,i]at iv;cases iv))];exact hb
theorem FzL.mono{K:UL}{H H':Hp}{a:YT}{vs:List V}(k:KeepU H H')(h:FzL K H a vs):FzL K H' a vs:=h.imp (λ⟨o,e⟩=>⟨o,k _ _ e rfl⟩) id
theorem CS{α:Type}{as as':List α}(h:as <+: as'){k:Nat}{a:α}(e:as[k]?=some a):as'[k]?=some a:=by
 obtain⟨t,rfl⟩:=h;rw[Ud ((gM e).1)];exact e
mutual
theorem Rl.mono{K:UL}{as as':List YT}{H H':Hp}(ha:as <+: as')(hH:KeepU H H'):∀(x:SV) (v:V),Rl K as H v x->Rl K as' H' v x
 | .non,v,h=>by unfold Rl at h ⊢;exact h
 | .bl _,v,h=>by unfold Rl at h ⊢;exact h
 | .int _,v,h=>by unfold Rl at h ⊢;exact h
 | .str _,v,h=>by unfold Rl at h ⊢;exact h
 | .tup xs,v,h=>by
   unfold Rl at h ⊢;obtain⟨p,vs,e,hp,h⟩:=h;exact⟨p,vs,e,hH p _ hp rfl,RlAll.mono ha hH xs vs h⟩
 | .ro xs,v,h=>by
   unfold Rl at h ⊢;obtain⟨p,vs,e,hp,h⟩:=h;exact⟨p,vs,e,hp.mono hH,RlAll.mono ha hH xs vs h⟩
 | .ty _,v,h=>by unfold Rl at h ⊢;exact h
 | .loc k,v,h=>by
   unfold Rl at h ⊢;obtain⟨a,e,z⟩:=h;exact⟨a,CS ha e,z⟩
theorem RlAll.mono{K:UL}{as as':List YT}{H H':Hp}(ha:as <+: as')(hH:KeepU H H'):∀(xs:List SV) (vs:List V),RlAll K as H vs xs->RlAll K as' H' vs xs
 | [],vs,h=>by unfold RlAll at h ⊢;exact h
 | x::xs,vs,h=>by
   unfold RlAll at h ⊢;obtain⟨v,r,e,h1,h2⟩:=h;exact⟨v,r,e,Rl.mono ha hH x v h1,RlAll.mono ha hH xs r h2⟩
end
section
variable{K:UL}{as:List YT}{H:Hp}
theorem rl_non{v:V}:Rl K as H v .non↔v = .non:=by unfold Rl;exact Iff.rfl
theorem rl_bl{v:V}{b:Bool}:Rl K as H v (.bl b)↔v = .bl b:=by unfold Rl;exact Iff.rfl
theorem rl_int{v:V}{i:Int}:Rl K as H v (.int i)↔v = .int i:=by unfold Rl;exact Iff.rfl
theorem rl_str{v:V}{x:Str}:Rl K as H v (.str x)↔v = .str x:=by unfold Rl;exact Iff.rfl
theorem rl_tup{v:V}{xs:List SV}:Rl K as H v (.tup xs)↔∃ p vs,v = .ref p/\H p=some (.tup vs)/\RlAll K as H vs xs:=by rw[Rl]
theorem rl_loc{v:V}{k:Nat}:Rl K as H v (.loc k)↔∃ a,as[k]?=some a/\v = .ref a:=by unfold Rl;exact Iff.rfl
theorem rl_ro{v:V}{xs:List SV}:Rl K as H v (.ro xs)↔∃ a vs,v = .ref a/\FzL K H a vs/\RlAll K as H vs xs:=by rw[Rl]
theorem rl_ty{v:V}{n:TyN}:Rl K as H v (.ty n)↔v = .ty n.nm:=by unfold Rl;exact Iff.rfl
theorem rla_nil{vs:List V}:RlAll K as H vs []↔vs=[]:=by unfold RlAll;exact Iff.rfl
theorem rla_cons{vs:List V}{x:SV}{xs:List SV}:RlAll K as H vs (x::xs)↔∃ v r,vs=v::r/\Rl K as H v x/\RlAll K as H r xs:=by rw[RlAll]
theorem RlAll.nil:RlAll K as H [] []:=rla_nil.mpr rfl
theorem RlAll.cons{v:V}{x:SV}{vs:List V}{xs:List SV}(h:Rl K as H v x)(t:RlAll K as H vs xs):RlAll K as H (v::vs) (x::xs):=rla_cons.mpr ⟨v,vs,rfl,h,t⟩
theorem RlAll.length:∀{xs:List SV} {vs:List V},RlAll K as H vs xs->vs.length=xs.length
 | [],_,h=>by rw[rla_nil.mp h];rfl
 | x::xs,_,h=>by
   obtain⟨v,r,rfl,_,t⟩:=rla_cons.mp h;simp[t.length]
theorem RlAll.get:∀{xs:List SV} {vs:List V} {i:Nat} {x:SV},RlAll K as H vs xs->xs[i]?=some x->∃ v,vs[i]?=some v/\Rl K as H v x
 | [],_,i,_,_,e=>by simp at e
 | y::xs,_,0,_,h,e=>by
   obtain⟨v,r,rfl,a,_⟩:=rla_cons.mp h;simp at e;subst e;exact⟨v,rfl,a⟩
 | y::xs,_,i+1,_,h,e=>by
   obtain⟨v,r,rfl,_,t⟩:=rla_cons.mp h;simpa using t.get (by simpa using e)
theorem RlAll.append:∀{xs ys:List SV} {vs us:List V},RlAll K as H vs xs->RlAll K as H us ys->RlAll K as H (vs++us) (xs++ys)
 | [],_,_,_,h,h'=>by rw[rla_nil.mp h];exact h'
 | x::xs,_,_,_,h,h'=>by
   obtain⟨v,r,rfl,a,t⟩:=rla_cons.mp h;exact .cons a (t.append h')
theorem RlAll.take:∀{xs:List SV} {vs:List V} (n:Nat),RlAll K as H vs xs->RlAll K as H (vs.take n) (xs.take n)
 | _,_,0,_=>by simpa using RlAll.nil
 | [],_,n+1,h=>by rw[rla_nil.mp h];exact .nil
 | x::xs,_,n+1,h=>by
   obtain⟨v,r,rfl,a,t⟩:=rla_cons.mp h;exact .cons a (t.take n)
theorem RlAll.drop:∀{xs:List SV} {vs:List V} (n:Nat),RlAll K as H vs xs->RlAll K as H (vs.drop n) (xs.drop n)
 | _,_,0,h=>h
 | [],_,n+1,h=>by rw[rla_nil.mp h];exact .nil
 | x::xs,_,n+1,h=>by
   obtain⟨v,r,rfl,a,t⟩:=rla_cons.mp h;exact t.drop n
theorem RlAll.set{x:SV}{v:V}(hx:Rl K as H v x):∀{xs:List SV} {vs:List V} (n:Nat),RlAll K as H vs xs->RlAll K as H (vs.set n v) (xs.set n x)
 | [],_,n,h=>by rw[rla_nil.mp h];exact .nil
 | y::xs,_,0,h=>by
   obtain⟨_,r,rfl,_,t⟩:=rla_cons.mp h;exact .cons hx t
 | y::xs,_,n+1,h=>by
   obtain⟨_,r,rfl,a,t⟩:=rla_cons.mp h;exact .cons a (t.set hx n)
theorem RlAll.rev:∀{xs:List SV} {vs:List V},RlAll K as H vs xs->RlAll K as H vs.reverse xs.reverse
 | [],_,h=>by rw[rla_nil.mp h];exact .nil
 | x::xs,_,h=>by
   obtain⟨v,r,rfl,a,t⟩:=rla_cons.mp h;rw[Vs,Vs];exact t.rev.append (.cons a .nil)
theorem RlAll.ins{x:SV}{v:V}(hx:Rl K as H v x){xs:List SV}{vs:List V}(h:RlAll K as H vs xs)(n:Nat):RlAll K as H (vs.take n++v::vs.drop n) (xs.take n++x::xs.drop n):=(h.take n).append (.cons hx (h.drop n))
theorem RlAll.ints{is:List Int}:RlAll K as H (is.map V.int) (is.map SV.int):=by
 induction is with
 | nil=>exact .nil
 | cons i is ih=>exact .cons (rl_int.mpr rfl) ih
end
noncomputable def RlD(K:UL)(as:List YT)(H:Hp):List (Key×V)->List (Int×SV)->Prop
 | ks,[]=>ks=[]
 | ks,p::r=>∃ v t,ks=(.inl p.1,v)::t/\Rl K as H v p.2/\RlD K as H t r
theorem RlD.mono{K:UL}{as as':List YT}{H H':Hp}(ha:as <+: as')(hH:KeepU H H'):∀(kvs:List (Int×SV)) (ks:List (Key×V)),RlD K as H ks kvs->RlD K as' H' ks kvs
 | [],_,h=>h
 | p::r,_,⟨v,t,e,h1,h2⟩=>⟨v,t,e,Rl.mono ha hH p.2 v h1,RlD.mono ha hH r t h2⟩
noncomputable def RlT(K:UL)(as:List YT)(H:Hp):List (List Key×V)->List (List Int×SV)->Prop
 | us,[]=>us=[]
 | us,p::r=>∃ v t,us=(p.1.map Sum.inl,v)::t/\Rl K as H v p.2/\RlT K as H t r
theorem RlT.mono{K:UL}{as as':List YT}{H H':Hp}(ha:as <+: as')(hH:KeepU H H'):∀(kvs:List (List Int×SV)) (us:List (List Key×V)),RlT K as H us kvs->RlT K as' H' us kvs
 | [],_,h=>h
 | p::r,_,⟨v,t,e,h1,h2⟩=>⟨v,t,e,Rl.mono ha hH p.2 v h1,RlT.mono ha hH r t h2⟩
noncomputable def dtV(kvs:List ((Int×Int)×Int)):List (List Key×V):=kvs.map λp=>([.inl p.1.1,.inl p.1.2],V.int p.2)
noncomputable def TabK(K:UL)(x:Str)(c P:YT):Prop:=PySem.W.tabIn K x=some (c,P)/\PySem.W.codeHdIn K c P=true
noncomputable abbrev Ql(x:Str):Str:=x++".<locals>."++"<lambda>"
noncomputable def RlO(K:UL)(as:List YT)(H:Hp)(a:YT):SO->Prop
 | .lst xs=>∃ vs,H a=some (.lst vs)/\RlAll K as H vs xs
 | .iset ms=>∃ F,H a=some (.set F ms.length)/\∀ k,F k=decide (k∈ms)
 | .dtp kvs=>H a=some (.dT (dtV kvs))
 | .dtl kvs=>∃ us,H a=some (.dT us)/\RlT K as H us kvs
 | .dtf o us kvs=>H a=some (.frz o (.dT us))/\RlT K as H us kvs
 | .dct kvs=>∃ ks,H a=some (.dK ks)/\RlD K as H ks kvs
 | .dcf o ks kvs=>H a=some (.frz o (.dK ks))/\RlD K as H ks kvs
 | .tbl x lp=>∃ c ps,H a=some (.tbl ps)/\TabK K x c a/\TabOk H (Ql x) lp ps
structure Ok(K:UL)(as:List YT)(H:Hp)(S:Sto):Prop where
 len:as.length=S.length
 nd:as.Nodup
 obj:∀(k:Nat) (o:SO) (a:YT),S[k]?=some o->as[k]?=some a->RlO K as H a o
noncomputable def EnvOk(K:UL)(as:List YT)(H:Hp)(σ:St)(ρ:EnvS):Prop:=σ.length=ρ.length/\∀(i:Nat) (x:SV),ρ[i]?=some (some x)->∃ v,σ[i]?=some (some v)/\Rl K as H v x
theorem EnvOk.mono{K:UL}{as as':List YT}{H H':Hp}{σ:St}{ρ:EnvS}(h:EnvOk K as H σ ρ)(ha:as <+: as')(hH:KeepU H H'):EnvOk K as' H' σ ρ:=⟨h.1,λi x e=>let ⟨v,a,b⟩:=h.2 i x e;⟨v,a,Rl.mono ha hH x v b⟩⟩
theorem EnvOk.set{K:UL}{as:List YT}{H:Hp}{σ:St}{ρ:EnvS}(h:EnvOk K as H σ ρ){i:Nat}{v:V}{x:SV}(hx:Rl K as H v x):EnvOk K as H (σ.set i (some v)) (ρ.set i (some x)):=⟨by rw[Uy,Uy];exact h.1,λj y e=>by
 by_cases hij:i=j
 ·subst hij;have hi:i<ρ.length:=by have:=(gM e).1;rwa [Uy]at this
  rw[Ut hi]at e;rw[Ut (by rw[h.1];exact hi)];cases e;exact⟨v,rfl,hx⟩
 ·rw[V7 hij]at e ⊢;exact h.2 j y e⟩
section
variable{K:UL}{as:List YT}{H:Hp}{S:Sto}
theorem RlO.mono{as':List YT}{H':Hp}{a:YT}(ha:as <+: as')(hH:KeepU H H')(e:∀ u,H a=some u->H' a=some u):∀{o:SO},RlO K as H a o->RlO K as' H' a o
 | .lst xs,⟨vs,h1,h2⟩=>⟨vs,e _ h1,RlAll.mono ha hH xs vs h2⟩
 | .iset ms,⟨F,h1,h2⟩=>⟨F,e _ h1,h2⟩
 | .dtp kvs,h1=>e _ h1
 | .dtl kvs,⟨us,h1,h2⟩=>⟨us,e _ h1,RlT.mono ha hH kvs us h2⟩
 | .dtf _ us kvs,⟨h1,h2⟩=>⟨e _ h1,RlT.mono ha hH kvs us h2⟩
 | .dct kvs,⟨ks,h1,h2⟩=>⟨ks,e _ h1,RlD.mono ha hH kvs ks h2⟩
 | .dcf _ ks kvs,⟨h1,h2⟩=>⟨e _ h1,RlD.mono ha hH kvs ks h2⟩
 | .tbl x lp,⟨c,ps,h1,h2,h3⟩=>⟨c,ps,e _ h1,h2,h3.1,h3.2.imp id λ⟨c',h4,h5⟩=>⟨c',h4,hH _ _ h5 rfl⟩⟩
theorem RlO.some{a:YT}:∀{o:SO},RlO K as H a o->∃ u,H a=some u/\imm u=false
 | .lst _,⟨_,h,_⟩=>⟨_,h,rfl⟩
 | .iset _,⟨_,h,_⟩=>⟨_,h,rfl⟩
 | .dtp _,h=>⟨_,h,rfl⟩
 | .dtl _,⟨_,h,_⟩=>⟨_,h,rfl⟩
 | .dtf _ _ _,⟨h,_⟩=>⟨_,h,rfl⟩
 | .dct _,⟨_,h,_⟩=>⟨_,h,rfl⟩
 | .dcf _ _ _,⟨h,_⟩=>⟨_,h,rfl⟩
 | .tbl _ _,⟨_,_,h,_⟩=>⟨_,h,rfl⟩
theorem Ok.at(h:Ok K as H S){k:Nat}{o:SO}(e:S[k]?=some o):∃ a,as[k]?=some a/\RlO K as H a o:=by
 have hk:k<as.length:=by rw[h.len];exact(gM e).1
 exact⟨as[k],UM hk,h.obj k o _ e (UM hk)⟩
theorem Ok.of(h:Ok K as H S){k:Nat}{a:YT}(e:as[k]?=some a):∃ o,S[k]?=some o/\RlO K as H a o:=by
 have hk:k<S.length:=by rw[<-h.len];exact(gM e).1
 exact⟨S[k],UM hk,h.obj k _ a (UM hk) e⟩
theorem Ok.new(h:Ok K as H S){p:YT}{o:HO}(hp:H p=none):Ok K as (upd H p o) S:=⟨h.len,h.nd,λk u a e ea=>by
 have r:=h.obj k u a e ea;obtain⟨z,hz,_⟩:=r.some;exact r.mono (Ur as) (Ak hp) λvs hv=>by rw[upd_ne (f7 hz hp)];exact hv⟩
theorem Ok.free(h:Ok K as H S){p:YT}(hp:H p=none):p∉as:=λhm=>by
 obtain⟨k,hk⟩:=VQ hm;obtain⟨o,_,r⟩:=h.of hk;obtain⟨z,hz,_⟩:=r.some;rw[hp]at hz;cases hz
theorem Ok.pushO(h:Ok K as H S){p:YT}(hp:H p=none){u:HO}{x:SO}(r:RlO K (as++[p]) (upd H p u) p x):Ok K (as++[p]) (upd H p u) (S++[x]):=by
 have pre:as <+: as++[p]:=Vy _ _;refine⟨by rw[UR,UR,h.len];rfl,?_,λk o a e ea=>?_⟩
 ·rw[VN];refine⟨h.nd,by simp,λa ha b hb=>?_⟩;rw[UT.mp hb];intro z;subst z;exact h.free hp ha
 ·by_cases hk:k<S.length
  ·rw[Ud hk]at e;rw[Ud (by rw[h.len];exact hk)]at ea;exact((h.new (o:=u) hp).obj k o a e ea).mono pre (KeepU.refl _) λ_ z=>z
  ·have hk':k=S.length:=by
    have:=(gM e).1;rw[UR,VZ]at this;omega
   subst hk';rw[V1]at e;rw[<-h.len,V1]at ea;cases e;cases ea;exact r
theorem Ok.push(h:Ok K as H S){p:YT}(hp:H p=none){vs:List V}{xs:List SV}(r:RlAll K as H vs xs):Ok K (as++[p]) (upd H p (.lst vs)) (S++[.lst xs]):=h.pushO hp ⟨vs,g7,RlAll.mono (Vy _ _) (Ak hp) xs vs r⟩
theorem Ok.writeO(h:Ok K as H S){k:Nat}{a:YT}{y x:SO}{u:HO}(e:S[k]?=some y)(ea:as[k]?=some a)(r:KeepU H (upd H a u)->RlO K as (upd H a u) a x):Ok K as (upd H a u) (S.set k x)/\KeepU H (upd H a u):=by
 obtain⟨z,h1,iz⟩:=(h.obj k _ a e ea).some;have ku:KeepU H (upd H a u):=C3 h1 iz;refine⟨⟨by rw[Uy];exact h.len,h.nd,λj o b eo eb=>?_⟩,ku⟩;by_cases hj:k=j
 ·subst hj;rw[Ut ((gM e).1)]at eo;rw[ea]at eb;cases eo;cases eb;exact r ku
 ·rw[V7 hj]at eo
  have hab:b≠a:=λz=>by
   subst z;exact hj ((Wv ((gM ea).1) h.nd).mp (ea.trans eb.symm))
  exact(h.obj j o b eo eb).mono (Ur as) ku λws hw=>by rw[upd_ne hab];exact hw
theorem Ok.write(h:Ok K as H S){k:Nat}{a:YT}{ys xs:List SV}{vs:List V}(e:S[k]?=some (.lst ys))(ea:as[k]?=some a)(r:RlAll K as H vs xs):Ok K as (upd H a (.lst vs)) (S.set k (.lst xs))/\KeepU H (upd H a (.lst vs)):=h.writeO e ea λku=>⟨vs,g7,RlAll.mono (Ur as) ku xs vs r⟩
end
structure Go(as:List YT)(H:Hp)(as':List YT)(H':Hp):Prop where
 pre:as <+: as'
 keep:∀ b o,H b=some o->b∉as->H' b=some o/\b∉as'
theorem Go.refl(as:List YT)(H:Hp):Go as H as H:=⟨Ur _,λ_ _ h n=>⟨h,n⟩⟩
theorem Go.trans{as as1 as2:List YT}{H H1 H2:Hp}(a:Go as H as1 H1)(b:Go as1 H1 as2 H2):Go as H as2 H2:=⟨a.pre.trans b.pre,λx o h n=>let ⟨h1,n1⟩:=a.keep x o h n;b.keep x o h1 n1⟩
theorem Go.new{as:List YT}{H:Hp}{p:YT}{o:HO}(hp:H p=none):Go as H as (upd H p o):=⟨Ur _,λb u h n=>⟨by rw[upd_ne (f7 h hp)];exact h,n⟩⟩
theorem Go.push{as:List YT}{H:Hp}{p:YT}{o:HO}(hp:H p=none):Go as H (as++[p]) (upd H p o):=⟨Vy _ _,λb u h n=>⟨by rw[upd_ne (f7 h hp)];exact h,by
 rw[Ul,UT];rintro(z | z)
 ·exact n z
 ·exact f7 h hp z⟩⟩
theorem Go.write{as:List YT}{H:Hp}{a:YT}{o:HO}(ha:a∈as):Go as H as (upd H a o):=⟨Ur _,λb u h n=>⟨by rw[upd_ne (λz=>n (by rw[z];exact ha))];exact h,n⟩⟩
section
variable{K:UL}{as as':List YT}{H H':Hp}{S:Sto}
theorem Ok.away(h:Ok K as H S){b:YT}{o:HO}(e:H b=some o)(i:imm o=true):b∉as:=λhm=>by
 obtain⟨k,hk⟩:=VQ hm;obtain⟨_,_,r⟩:=h.of hk;obtain⟨z,hz,iz⟩:=r.some;rw[e]at hz;cases hz;rw[i]at iz;cases iz
theorem Go.ku(g:Go as H as' H')(ok:Ok K as H S):KeepU H H':=λb o h i=>(g.keep b o h (ok.away h i)).1
end
end Rf
namespace L2
open PySem PySem.Spec PyProof.Rows
open PySem.AutoSeq1 (wpAny_loadPart')
section
variable{X:Cx}
theorem T9:Yd "any"=some (.builtin "any"):=by decide +kernel
theorem J9(hc:X.calm=true):CallR X (.builtin "any") (λxs H Q=>∃(a:YT) (bs:List Bool),xs=[.ref a]/\SqL X.K H a (bs.map V.bl)/\Q (.bl (bs.any id)) H):=by
 intro pins s σ H xs us Q I r h;obtain⟨a,bs,rfl,hq,q⟩:=h;obtain⟨u,rfl,ru⟩:=AS r;cases ru;obtain⟨its,rv,pl,hz⟩:=I.list hq;have hl:=rv.length;rw[UQ]at hl;refine call_any_walk (ZN pl.isList ?_);have hlt:a<s.heap.objs.size:=by obtain⟨o,n,e,_⟩:=pl;exact UX e
 refine⟨s.heap.objs.size,_,_,_,_,_,λi=>bs.getD i false,rfl,Walks.list (by exact I.ok.hd hc) s.heap.objs.size a (Ug hlt) its.toArray,⟨⟨_,UY _ rfl,rfl,rfl⟩,pl.isList.push _⟩,?_,λh' tk hk=>?_⟩
 ·intro i v s' Q' E' hv hQ';have hv':its[i]?=some v:=by simpa using hv
  have hi:i<its.length:=(gM hv').1;have hb:(bs.map V.bl)[i]?=some (.bl (bs[i]'(by omega))):=by simp
  obtain⟨u',eu,ru'⟩:=rv.get hb;rw[hv']at eu;cases eu;cases ru';have hg:bs.getD i false=bs[i]'(by omega):=by simp[Vp,show i<bs.length by omega]
  have hQ2:Q' (bs.getD i false) s':=hQ';rw[hg]at hQ2;exact Ym hQ2
 ·have I1:Inv X pins σ H {s with heap:=h',toks:=tk}:=I.kept λb o e=>hk b o (by simp;exact Ug (UX e)) (UP _ e);refine⟨.bl _,H,I1,rfl,?_⟩
  have e:(Uj its.toArray.size).any (λi=>bs.getD i false)=bs.any id:=by
   rw[UV,<-hl,VR,VL,VL];constructor
   ·rintro⟨j,hj,e⟩;have hj1:j<bs.length:=V4.mp hj;exact⟨bs[j],W8 hj1,by simpa[Vp,hj1] using e⟩
   ·rintro⟨b,hb,e⟩;obtain⟨j,hj,e2⟩:=Vj.mp hb;exact⟨j,V4.mpr hj,by simpa[Vp,hj,e2] using e⟩
  rw[e];exact q
end
end L2
namespace Rf
open PySem L2
noncomputable abbrev QE:=SV->Sto->Prop
noncomputable abbrev WE:=EnvS->Sto->QE->Prop
noncomputable abbrev WA:=EnvS->Sto->(List SV->Sto->Prop)->Prop
noncomputable abbrev WT:=EnvS->Sto->(Bool->Sto->Prop)->Prop
noncomputable def Post(K:UL)(as:List YT)(H:Hp)(Q:VK):QE:=λx S'=>∀ as' H' v,Go as H as' H'->Ok K as' H' S'->Rl K as' H' v x->Q v H'
noncomputable def TB(K:UL)(as:List YT)(H:Hp)(Q:List V->Hp->Prop):List SV->Sto->Prop:=λxs S'=>∀ as' H' vs,Go as H as' H'->Ok K as' H' S'->RlAll K as' H' vs xs->Q vs H'
noncomputable def PostT(K:UL)(as:List YT)(H:Hp)(Q:Bool->Hp->Prop):Bool->Sto->Prop:=λb S'=>∀ as' H',Go as H as' H'->Ok K as' H' S'->Q b H'
noncomputable def lift(K:UL)(w:WE):TE:=λσ H Q=>∃ as ρ S,Ok K as H S/\EnvOk K as H σ ρ/\w ρ S (Post K as H Q)
noncomputable def liftA(K:UL)(w:WA):TA:=λσ H Q=>∃ as ρ S,Ok K as H S/\EnvOk K as H σ ρ/\w ρ S (TB K as H Q)
noncomputable def liftT(K:UL)(w:WT):TT:=λσ H Q=>∃ as ρ S,Ok K as H S/\EnvOk K as H σ ρ/\w ρ S (PostT K as H Q)
noncomputable def Mono(w:WE):Prop:=∀ ρ S (P P':QE),(∀ x S',P x S'->P' x S')->w ρ S P->w ρ S P'
noncomputable def MonoA(w:WA):Prop:=∀ ρ S (P P':List SV->Sto->Prop),(∀ x S',P x S'->P' x S')->w ρ S P->w ρ S P'
noncomputable def MonoT(w:WT):Prop:=∀ ρ S (P P':Bool->Sto->Prop),(∀ x S',P x S'->P' x S')->w ρ S P->w ρ S P'
theorem g8{X:Cx}{e:Expr}{t:TE}(t':TE)(h:PE X e t)(imp:∀ σ H Q,t' σ H Q->t σ H Q):PE X e t':=λpins s σ H Q I hw=>h pins s σ H Q I (imp σ H Q hw)
theorem ED{X:Cx}{e:Expr}{t:TT}(t':TT)(h:PT X e t)(imp:∀ σ H Q,t' σ H Q->t σ H Q):PT X e t':=λpins s σ H Q I hw=>h pins s σ H Q I (imp σ H Q hw)
theorem L6{X:Cx}{e:List Expr}{t:TA}(t':TA)(h:PA X e t)(imp:∀ σ H Q,t' σ H Q->t σ H Q):PA X e t':=λp pins s σ H Q I hw=>h p pins s σ H Q I (imp σ H Q hw)
section
variable{K:UL}{as as1 as2:List YT}{H H1 H2:Hp}
theorem Post.mono{Q:VK}{x:SV}{S:Sto}(h:Post K as H Q x S)(g:Go as H as1 H1):Post K as1 H1 Q x S:=λas' H' v g'=>h as' H' v (g.trans g')
end
noncomputable abbrev S2:=SV->SV->Sto->QE->Prop
noncomputable abbrev S1:=SV->Sto->QE->Prop
noncomputable abbrev Sn:=List SV->Sto->QE->Prop
noncomputable def w2(s:S2)(a b:WE):WE:=λρ S Q=>a ρ S λx S1=>b ρ S1 λy S2=>s x y S2 Q
noncomputable def w1(s:S1)(a:WE):WE:=λρ S Q=>a ρ S λx S1=>s x S1 Q
noncomputable def wn(s:Sn)(a:WA):WE:=λρ S Q=>a ρ S λxs S1=>s xs S1 Q
noncomputable def Mono2(s:S2):Prop:=∀ x y S (P P':QE),(∀ x S',P x S'->P' x S')->s x y S P->s x y S P'
noncomputable def Dl(s:S1):Prop:=∀ x S (P P':QE),(∀ x S',P x S'->P' x S')->s x S P->s x S P'
noncomputable def MonoN(s:Sn):Prop:=∀ x S (P P':QE),(∀ x S',P x S'->P' x S')->s x S P->s x S P'
theorem Mono.two{s:S2}{a b:WE}(hs:Mono2 s)(ha:Mono a)(hb:Mono b):Mono (w2 s a b):=λρ S P P' i h=>ha _ _ _ _ (λ_ _ h=>hb _ _ _ _ (λ_ _ h=>hs _ _ _ _ _ i h) h) h
theorem Mono.one{s:S1}{a:WE}(hs:Dl s)(ha:Mono a):Mono (w1 s a):=λρ S P P' i h=>ha _ _ _ _ (λ_ _ h=>hs _ _ _ _ i h) h
theorem Mono.n{s:Sn}{a:WA}(hs:MonoN s)(ha:MonoA a):Mono (wn s a):=λρ S P P' i h=>ha _ _ _ _ (λ_ _ h=>hs _ _ _ _ i h) h
noncomputable def BO(K:UL)(s:S2)(r:R2):Prop:=∀ as H S x y v u Q,Ok K as H S->Rl K as H v x->Rl K as H u y->s x y S (Post K as H Q)->r v u H Q
noncomputable def U7(K:UL)(s:S1)(r:V->Hp->VK->Prop):Prop:=∀ as H S x v Q,Ok K as H S->Rl K as H v x->s x S (Post K as H Q)->r v H Q
noncomputable def TC(K:UL)(s:Sn)(r:List V->Hp->VK->Prop):Prop:=∀ as H S xs vs Q,Ok K as H S->RlAll K as H vs xs->s xs S (Post K as H Q)->r vs H Q
theorem Bj{K:UL}{s:S2}{r:R2}{wa wb:WE}(sim:BO K s r)(ms:Mono2 s)(ma:Mono wa)(mb:Mono wb):∀ σ H Q,lift K (w2 s wa wb) σ H Q->tOp r (lift K wa) (lift K wb) σ H Q:=by
 rintro σ H Q ⟨as,ρ,S,ok,en,h⟩;refine⟨as,ρ,S,ok,en,ma _ _ _ _ (λx S1 hb as1 H1 v g1 ok1 rv=>?_) h⟩;refine⟨as1,ρ,S1,ok1,en.mono g1.pre (g1.ku ok),mb _ _ _ _ (λy S2 hs as2 H2 u g2 ok2 ru=>?_) hb⟩;exact sim as2 H2 S2 x y v u Q ok2 (Rl.mono g2.pre (g2.ku ok1) x v rv) ru (ms _ _ _ _ _ (λz S3 hz=>hz.mono (g1.trans g2)) hs)
theorem Qm{K:UL}{s:S1}{r:V->Hp->VK->Prop}{wa:WE}(sim:U7 K s r)(ms:Dl s)(ma:Mono wa):∀ σ H Q,lift K (w1 s wa) σ H Q->tUn r (lift K wa) σ H Q:=by
 rintro σ H Q ⟨as,ρ,S,ok,en,h⟩;refine⟨as,ρ,S,ok,en,ma _ _ _ _ (λx S1 hs as1 H1 v g1 ok1 rv=>?_) h⟩;exact sim as1 H1 S1 x v Q ok1 rv (ms _ _ _ _ (λz S3 hz=>hz.mono g1) hs)
theorem TD{K:UL}{s:Sn}{r:List V->Hp->VK->Prop}{wa:WA}(sim:TC K s r)(ms:MonoN s)(ma:MonoA wa):∀ σ H Q,lift K (wn s wa) σ H Q->tCB r (liftA K wa) σ H Q:=by
 rintro σ H Q ⟨as,ρ,S,ok,en,h⟩;refine⟨as,ρ,S,ok,en,ma _ _ _ _ (λx S1 hs as1 H1 v g1 ok1 rv=>?_) h⟩;exact sim as1 H1 S1 x v Q ok1 rv (ms _ _ _ _ (λz S3 hz=>hz.mono g1) hs)
noncomputable def Dm:WA:=λ_ S Q=>Q [] S
noncomputable def Cm(a:WE)(b:WA):WA:=λρ S Q=>a ρ S λx S1=>b ρ S1 λxs S2=>Q (x::xs) S2
theorem MonoA.nil:MonoA Dm:=λ_ _ _ _ i h=>i _ _ h
theorem MonoA.cons{a:WE}{b:WA}(ha:Mono a)(hb:MonoA b):MonoA (Cm a b):=λ_ _ _ _ i h=>ha _ _ _ _ (λ_ _ h=>hb _ _ _ _ (λ_ _ h=>i _ _ h) h) h
theorem Nd{X:Cx}{K:UL}:PA X [] (liftA K Dm):=L6 _ BU λσ H Q ⟨as,ρ,S,ok,en,h⟩=>h as H [] (Go.refl _ _) ok .nil
theorem L7{K:UL}{a:WE}{b:WA}(ma:Mono a)(mb:MonoA b):∀ σ H Q,liftA K (Cm a b) σ H Q->PD (lift K a) (liftA K b) σ H Q:=by
 rintro σ H Q ⟨as,ρ,S,ok,en,h⟩;refine⟨as,ρ,S,ok,en,ma _ _ _ _ (λx S1 hs as1 H1 v g1 ok1 rv=>?_) h⟩;refine⟨as1,ρ,S1,ok1,en.mono g1.pre (g1.ku ok),mb _ _ _ _ (λxs S2 hq as2 H2 vs g2 ok2 rs=>?_) hs⟩;exact hq as2 H2 _ (g1.trans g2) ok2 (.cons (Rl.mono g2.pre (g2.ku ok1) x v rv) rs)
theorem L8{X:Cx}{K:UL}{e:Expr}{es:List Expr}{a:WE}{b:WA}(ma:Mono a)(mb:MonoA b)(h1:PE X e (lift K a))(h2:PA X es (liftA K b))(hs:Yg (e::es) X.env=(false,eval e X.env)::Yg es X.env):PA X (e::es) (liftA K (Cm a b)):=L6 _ (Av h1 h2 hs) (L7 ma mb)
noncomputable def Qn(i:Nat):WE:=λρ S Q=>∃ x,ρ[i]?=some (some x)/\Q x S
noncomputable def wC(x:SV):WE:=λ_ S Q=>Q x S
theorem Mono.var{i:Nat}:Mono (Qn i):=λ_ _ _ _ i ⟨x,a,b⟩=>⟨x,a,i _ _ b⟩
theorem Mono.c{x:SV}:Mono (wC x):=λ_ _ _ _ i h=>i _ _ h
theorem Nf{K:UL}{i:Nat}:∀ σ H Q,lift K (Qn i) σ H Q->N6 i σ H Q:=λσ H Q ⟨as,ρ,S,ok,en,x,e,h⟩=>let ⟨v,ev,rv⟩:=en.2 i x e;⟨v,ev,h as H v (Go.refl _ _) ok rv⟩
theorem Ev{K:UL}{x:SV}{v:V}(hx:∀ as H,Rl K as H v x):∀ σ H Q,lift K (wC x) σ H Q->tC v σ H Q:=λσ H Q ⟨as,ρ,S,ok,en,h⟩=>h as H v (Go.refl _ _) ok (hx as H)
noncomputable def big:Nat:=100000
theorem Bk{n:Nat}(h:n<=big):n<=Yb:=Ux h (by decide)
theorem Cn{n:Nat}(h:n<big):n<Yb:=Us h (by decide)
noncomputable def Ng:Sn:=λxs S Q=>xs.length<=big/\Q (.tup xs) S
noncomputable def Nh:Sn:=λxs S Q=>xs.length<=big/\Q (.loc S.length) (S++[.lst xs])
theorem MonoN.tup:MonoN Ng:=λ_ _ _ _ i h=>⟨h.1,i _ _ h.2⟩
theorem MonoN.lst:MonoN Nh:=λ_ _ _ _ i h=>⟨h.1,i _ _ h.2⟩
theorem L9{K:UL}{as:List YT}{H:Hp}{S:Sto}{p:YT}(ok:Ok K as H S):Rl K (as++[p]) (upd H p (.lst vs)) (.ref p) (.loc S.length):=rl_loc.mpr ⟨p,by rw[<-ok.len,V1],rfl⟩
theorem u7{K:UL}{as:List YT}{H:Hp}{S:Sto}{Q:VK}{xs:List SV}{vs:List V}(ok:Ok K as H S)(r:RlAll K as H vs xs)(h:Post K as H Q (.loc S.length) (S++[.lst xs])):∀ p,H p=none->Q (.ref p) (upd H p (.lst vs)):=λp hp=>
 h (as++[p]) _ (.ref p) (Go.push hp) (ok.push hp r) (L9 ok)
theorem Co{K:UL}{as:List YT}{H:Hp}{S:Sto}{Q:VK}{xs:List SV}{vs:List V}(ok:Ok K as H S)(r:RlAll K as H vs xs)(h:Post K as H Q (.tup xs) S):∀ p,H p=none->Q (.ref p) (upd H p (.tup vs)):=λp hp=>
 h as _ (.ref p) (Go.new hp) (ok.new hp) (rl_tup.mpr ⟨p,vs,rfl,g7,RlAll.mono (Ur _) (Ak hp) xs vs r⟩)
theorem Ni{K:UL}{wa:WA}(ma:MonoA wa):∀ σ H Q,lift K (wn Ng wa) σ H Q->SM (liftA K wa) σ H Q:=by
 rintro σ H Q ⟨as,ρ,S,ok,en,h⟩;refine⟨as,ρ,S,ok,en,ma _ _ _ _ (λxs S1 hs as1 H1 vs g1 ok1 rv=>?_) h⟩;exact⟨by rw[rv.length];exact Bk hs.1,Co ok1 rv (hs.2.mono g1)⟩
theorem Nj{K:UL}{wa:WA}(ma:MonoA wa):∀ σ H Q,lift K (wn Nh wa) σ H Q->SN (liftA K wa) σ H Q:=by
 rintro σ H Q ⟨as,ρ,S,ok,en,h⟩;refine⟨as,ρ,S,ok,en,ma _ _ _ _ (λxs S1 hs as1 H1 vs g1 ok1 rv=>?_) h⟩;exact⟨by rw[rv.length];exact Bk hs.1,u7 ok1 rv (hs.2.mono g1)⟩
end Rf
namespace L2
open PySem PySem.Spec PyProof.Rows
section
variable{prog:YZ}{w:Yc}{A:Yf}{E:YQ->YS->Prop}{s:YS}
set_option maxHeartbeats 8000000 in
theorem Qo{l:YT}{items:Array YQ}{ns:List Int}{Q:YQ->YS->Prop}(hh:A.handled=none)(hl:s.heap.IsTuple l items)(hi:IntsAre items.toList ns)(hb:items.size+1<ZD)
 (h:∀(h':Heap) (tk:Nat),SetX prog w h' s.heap.objs.size (ZU (λi=>ns.getD i 0) items.size)->(∀ b o,b<s.heap.objs.size->s.heap.get? b=some o->h'.get? b=some o)->Q (.ref s.heap.objs.size) {s with heap:=h',toks:=tk}):
 YY (YX prog w) A (call (.type "set") [.ref l]) Q E s:=by
 obtain⟨c,tl,hmro⟩:=F.called_set.mro;have made:=F.called_set.made;have sub:=F.called_set.sub;have u1:=F.called_set.notType;have u2:=F.called_set.canCreate;have u3:=F.typeCall_set_1 (.ref l);refine A0k (A00 ?_);show YY _ _ (callAny (.type "set") _) _ _ _;refine YV ⟨Code.quiet_builtin _ (by decide +kernel),Z2 F.entry_type_call ?_⟩;rw[Around.under_plain (A02 "set" [.ref l] []) rfl]
 repeat (any_goals (first | assumption | wp_step))
 refine Z3 (Ss (.ref l) (E:=E) (Q₁:=λobj s₁=>obj = .ref s.heap.objs.size/\s₁={s with heap:=s.heap.push (Ai w)}) ⟨rfl,rfl⟩) λr s₁ hr=>?_;cases r with
 | error e=>exact hr
 | ok fl=>
   cases fl with
   | ret obj=>
     obtain⟨rfl,rfl⟩:=hr;have gS:(s.heap.push (Ai w)).get? s.heap.objs.size=some (Ai w):=UY _ rfl;have hT:Shared.TypeIs {s with heap:=s.heap.push (Ai w)} (.ref s.heap.objs.size) "set":=⟨_,gS,rfl⟩
     have u4:=F.called_set.init.lookup;have u5:=F.called_set.init.bind (.ref s.heap.objs.size)
     repeat (any_goals (first | assumption | wp_step))
     refine Z3 (A0f (R:=wants (λr s₂=>r = .none/\∃ h' tk,s₂={s with heap:=h',toks:=tk}/\SetX prog w h' s.heap.objs.size (ZU (λi=>ns.getD i 0) items.size)/\
      (∀ b o,b<s.heap.objs.size->s.heap.get? b=some o->h'.get? b=some o)) E) F.called_set.init.plain F.entry_set_init (A0B hT ?_)) λr₂ s₂ hr₂=>?_
     ·obtain⟨⟨cl,di,da,sl⟩,ol,cl',nl,da'⟩:=hl;simp only at cl' da';subst cl' da';have hol:(s.heap.push (Ai w)).get? l=some {cls := .type "tuple",dict:=di,data := .seq items nl,slots:=sl}:=UP _ ol;have v1:=F.sub_tuple_set;have v2:=F.sub_tuple_frozenset;have v3:(Value.type "tuple" == Value.type "dict")=false:=by decide
      have hl1:(s.heap.push (Ai w)).IsTuple l items:=⟨_,hol,rfl,nl,rfl⟩
      unfold Builtin.«set.__init__» noKeywords Builtin.Frozenset.updateFrom;generalize hPI:pyIter=PI
      wp_walk
      subst hPI;refine ZA hl1 (YR (A0g ?_));have lS:l<s.heap.objs.size:=UX ol;have z1:(s.heap.push (Ai w)).objs.size=s.heap.objs.size+1:=VO _ _;have lI:l≠(s.heap.push (Ai w)).objs.size:=by rw[z1];exact Ug (W4 lS)
      have hSf:s.heap.objs.size∉[(s.heap.push (Ai w)).objs.size,l]:=by
       rw[z1];intro z;rcases Ub.mp z with z | z
       ·exact absurd z (Ug (X5 _))
       ·exact absurd (UT.mp z) (Xf lS)
      have hval:∀(i:Nat) (v:YQ),items[i]?=some v->∃ t,v = .int ((λi=>ns.getD i 0) i) t:=λi v hv=>IntsAre.int_at hi i v (by rw[V0];exact hv)
      refine Sr ((Walks.tuple (by simp[hh]) _ l lI items).toS) s.heap.objs.size hSf (λi=>ns.getD i 0) hval hb items.size 0 _ (VA _)
       ⟨⟨_,UY _ rfl,rfl,rfl⟩,hl1.push _⟩ ((Ku s.heap).keep λo e=>UP _ e) λs' hm X'=>?_
      obtain⟨h',g',d',tk',os'⟩:=s';obtain rfl:g'=s.gens:=hm.gens;obtain rfl:d'=s.drawn:=hm.drawn;obtain rfl:os'=s.os:=hm.os;refine YV (YV ⟨rfl,h',tk',rfl,X',λb o hb e=>hm.heap b o (λz=>?_) (UP _ (UP _ e))⟩);rcases Ub.mp z with z | z
      ·exact absurd z (Ug hb)
      ·have z':=UT.mp z;rw[z1]at z';exact absurd z' (Ug (W4 hb))
     ·cases r₂ with
      | error e=>exact hr₂
      | ok fl₂=>
        cases fl₂ with
        | ret r=>
          obtain⟨rfl,h',tk,rfl,X',hk'⟩:=hr₂
          repeat (any_goals (first | assumption | wp_step))
          exact h _ _ X' hk'
        | _=>exact hr₂.elim
   | _=>exact hr.elim
theorem SetX.kind{h:Heap}{a:YT}{L:List Int}(x:SetX prog w h a L):h.SetOf (intKind prog w) a (λk=>decide (k∈L)) L.length:=by
 obtain⟨o,es,ep,t,ho,hx,hd,hel,hb,hf,hT,hp⟩:=x;refine⟨o,es,ep,t,ho,hx,hd,hel,λk=>?_,hb,hf,by rw[<-hp.length_eq];simp⟩;rw[dQ,<-hp.mem_iff,VH];constructor
 ·rintro⟨e,he,rfl⟩;obtain⟨⟨k,hk,_⟩,_⟩:=hel e he;exact⟨e,he,by rw[CQ hk];exact hk⟩
 ·rintro⟨e,he,hk⟩;exact⟨e,he,CQ hk⟩
end
section
variable{X:Cx}
theorem LA:OpR X (Yk .In) (λx y H Q=>∃(k:Int) (p:YT) (S:Int->Bool) (n:Nat),x = .int k/\y = .ref p/\H p=some (.set S n)/\Q (.bl (S k)) H):=by
 intro pins s σ H x y v u Q I rx ry h;obtain⟨k,p,S,n,rfl,rfl,hp,q⟩:=h;obtain⟨t,rfl⟩:=rx;cases ry;have hS:s.heap.SetOf (intKind X.prog X.w) p S n:=I.hok p _ hp;exact wpAny_inSet_of (k:=k) (A0T _ _ _ _) rfl hS ⟨.bl _,H,I.tok _,rfl,q⟩
end
theorem Vals.rev:∀{xs:List V} {us:List YQ},Vals xs us->Vals xs.reverse us.reverse
 | _,_,.nil => .nil
 | _,_,.cons r rr=>by
   rw[Vs,Vs];exact(Vals.rev rr).append (.cons r .nil)
section
variable{X:Cx}{e st:Expr}{te:TE}{tp:TO}{pos p2:Pos}
noncomputable def U8(K:UL)(te:TE)(tp:TO):TE:=λσ H Q=>te σ H λx H1=>tp σ H1 λu H2=>u=some (-1)/\∃ a xs,x = .ref a/\SqL K H2 a xs/\∀ p,H2 p=none->Q (.ref p) (upd H2 p (.lst xs.reverse))
theorem Qp(he:PE X e te)(hp:PO X (some st) tp):PE X (.Subscript e (.Slice none none (some st) p2) pos) (U8 X.K te tp):=by
 intro pins s σ H Q I h;refine A0L (thn (he pins s σ H _ I h) λv s1 ⟨x,H1,I1,r1,q1⟩=>?_);refine wpAny_Slice ?_;rw[evalPart_none];refine YV (YV ?_);refine thn (hp pins s1 σ H1 _ I1 q1) λvu s3 ⟨u,H3,I3,pu,q3⟩=>?_;obtain⟨rfl,a,xs,rfl,hx,q⟩:=q3;cases r1;have I4:Inv X pins σ H3 {s3 with heap:=s3.heap.push {cls := .type "slice",data := .fields #[.none,.none,vu]}}:=I3.kept (t':=s3.toks) λb ob q=>UP _ q;show YY (YX X.prog X.w) X.A (A0i e (.Slice none none (some st) p2) (.ref a) (.ref s3.heap.objs.size)) (EP X pins σ Q) X.xe {s3 with heap:=s3.heap.push {cls := .type "slice",data := .fields #[.none,.none,vu]}};obtain⟨its,r,ht,hz⟩:=I4.list hx;have hlen:=r.length;refine tail_any (ops:=[.ref a,.ref s3.heap.objs.size]) ht.isList.typeIs slot_list_getitem.lookup ?_ (by with_unfolding_all rfl);refine wpAny_getItem_list_slice ht.isList (Heap.IsSliceOf.new ..) .none .none pu (by decide) ?_ (by rw[UV]<;>omega);rw[PySem.W.krv_pick];refine⟨.ref _,_,I4.laid (t':=s3.toks) (o := .lst xs.reverse) (λb ob q=>UP _ q) (US _) ?_,rfl,q _ (I4.hok.fresh (US _))⟩;exact⟨by rw[Vv];exact hz,_,0,r.rev,UY _ rfl⟩
end
open PySem PySem.Spec PyProof.Rows PySem.SeqAt
section
variable{X:Cx}
noncomputable def PU(K:UL):R2:=λx y H Q=>∃ a t,x = .ref a/\y = .str t/\((∃ xs,SqL K H a xs)\/∃ xs,SqT K H a xs)/\Q (.bl false) H
theorem Nk(hu:X.A.units<cLine):OpR X (Yk .Eq) (PU X.K):=by
 intro pins s σ H x y v u Q I rx ry h;obtain⟨a,t,rfl,rfl,h1,q⟩:=h;cases rx;obtain⟨tk,rfl⟩:=ry
 have e:YY (YX X.prog X.w) X.A (richCompare .Eq (.ref a) (.str t tk)) (EP X pins σ Q) X.xe s:=by
  rcases h1 with⟨xs,h1⟩ | ⟨xs,h1⟩
  ·obtain⟨its,r1,p1,_⟩:=I.list h1;exact RcAt.list_str t tk p1.isList hu _ _ _ _ ⟨.bl false,H,I,rfl,q⟩
  ·obtain⟨its,r1,p1,_⟩:=I.tuple h1;exact RcAt.tuple_str (items:=its.toArray) t tk p1 hu _ _ _ _ ⟨.bl false,H,I,rfl,q⟩
 exact e
end
end L2
namespace Rf
open PySem L2
noncomputable def y8:SV->Bool
 | .non=>true | .bl _=>true | .int _=>true | .str _=>true | _=>false
noncomputable def toV:SV->V
 | .non => .non | .bl b => .bl b | .int i => .int i | .str x => .str x | _ => .non
noncomputable def eqF:SV->SV->Bool
 | .non,.non=>true
 | .bl a,.bl b=>a == b
 | .bl a,.int b=>(if a then 1 else 0) == b
 | .int a,.bl b=>a == (if b then 1 else 0)
 | .int a,.int b=>a == b
 | .str a,.str b=>a == b
 | _,_=>false
noncomputable def EF(xs ys:List SV):Bool:=xs.length == ys.length&&(xs.zip ys).all λp=>eqF p.1 p.2
noncomputable def inS(x:SV)(xs:List SV):Bool:=xs.any λy=>eqF y x
section
variable{K:UL}{as:List YT}{H:Hp}
theorem Hj{x:SV}{v:V}(f:y8 x=true)(r:Rl K as H v x):v=toV x:=by
 cases x with
 | non=>exact rl_non.mp r
 | bl _=>exact rl_bl.mp r
 | int _=>exact rl_int.mp r
 | str _=>exact rl_str.mp r
 | _=>cases f
theorem Al:∀{xs:List SV} {vs:List V},xs.all y8=true->RlAll K as H vs xs->vs=xs.map toV
 | [],_,_,r=>rla_nil.mp r
 | x::xs,_,f,r=>by
   rw[Vb,UN]at f;obtain⟨v,vs,rfl,r1,r2⟩:=rla_cons.mp r;rw[Hj f.1 r1,Al f.2 r2];rfl
theorem Ey{x:SV}(f:y8 x=true):y7 (toV x)=true:=by cases x<;>first | rfl | cases f
theorem C4{xs:List SV}(f:xs.all y8=true):(xs.map toV).all y7=true:=by
 rw[Uq]at f ⊢;intro v hv;obtain⟨x,hx,rfl⟩:=VH.mp hv;exact Ey (f x hx)
theorem EG{x y:SV}(fx:y8 x=true)(fy:y8 y=true):eqV (toV x) (toV y)=eqF x y:=by
 cases x<;>first | cases fx;done | (cases y<;>first | rfl | cases fy)
theorem Qq{x:SV}{xs:List SV}(fx:y8 x=true)(f:xs.all y8=true):inV (toV x) (xs.map toV)=inS x xs:=by
 unfold inV inS;rw[Xn];rw[Uq]at f;rw[VR,VL,VL];constructor
 ·rintro⟨y,hy,e⟩;exact⟨y,hy,by rw[<-EG (f y hy) fx];exact e⟩
 ·rintro⟨y,hy,e⟩;exact⟨y,hy,by show eqV (toV y) (toV x)=true;rw[EG (f y hy) fx];exact e⟩
theorem Nl:∀{xs ys:List SV},xs.all y8=true->ys.all y8=true->AY (xs.map toV) (ys.map toV)=EF xs ys:=by
 intro xs ys fx fy;unfold AY EF;rw[UQ,UQ,List.zip_map,YI]
 congr 1
 rw[VR,Uq,Uq];rw[Uq]at fx fy;constructor
 ·rintro h ⟨a,b⟩ hm;have:=h (a,b) hm;rw[<-EG (fx a (Vu hm).1) (fy b (Vu hm).2)];exact this
 ·rintro h ⟨a,b⟩ hm;have:=h (a,b) hm;show eqV (toV a) (toV b)=true;rw[EG (fx a (Vu hm).1) (fy b (Vu hm).2)];exact this
noncomputable def seqS:SV->Sto->Option (List SV)
 | .tup xs,_=>some xs
 | .ro xs,_=>some xs
 | .loc k,S=>match S[k]? with | some (.lst xs)=>some xs | _=>none
 | _,_=>none
theorem C5{x:SV}{v:V}{S:Sto}{xs:List SV}(ok:Ok K as H S)(r:Rl K as H v x)(h:seqS x S=some xs):∃ a vs,v = .ref a/\(SqL K H a vs\/SqT K H a vs)/\RlAll K as H vs xs:=by
 cases x with
 | tup ys=>
   cases h;obtain⟨p,vs,rfl,hp,rr⟩:=rl_tup.mp r;exact⟨p,vs,rfl,.inr (SqT.of hp),rr⟩
 | ro ys=>
   cases h;obtain⟨p,vs,rfl,hp,rr⟩:=rl_ro.mp r;exact⟨p,vs,rfl,.inl hp.sq,rr⟩
 | loc k=>
   obtain⟨a,ea,rfl⟩:=rl_loc.mp r;unfold seqS at h;cases hs:S[k]? with
   | none=>simp only[hs]at h;cases h
   | some o=>
     cases o with
     | lst ys=>
       simp only[hs]at h;cases h;obtain⟨vs,h1,rr⟩:=ok.obj k _ a hs ea;exact⟨a,vs,rfl,.inl (SqL.of h1),rr⟩
     | iset _=>simp only[hs]at h;cases h
     | dtl _=>simp only[hs]at h;cases h
     | dtf _ _ _=>simp only[hs]at h;cases h
     | dtp _=>simp only[hs]at h;cases h
     | dct _=>simp only[hs]at h;cases h
     | dcf _ _ _=>simp only[hs]at h;cases h
     | tbl _ _=>simp only[hs]at h;cases h
 | _=>cases h
theorem v7{k:Nat}{v:V}{S:Sto}{xs:List SV}(ok:Ok K as H S)(r:Rl K as H v (.loc k))(h:S[k]?=some (.lst xs)):∃ a vs,v = .ref a/\as[k]?=some a/\H a=some (.lst vs)/\RlAll K as H vs xs:=by
 obtain⟨a,ea,rfl⟩:=rl_loc.mp r;obtain⟨vs,h1,rr⟩:=ok.obj k _ a h ea;exact⟨a,vs,rfl,ea,h1,rr⟩
end
noncomputable def LB:S2
 | .int i,.int j,S,Q=>Q (.int (i+j)) S
 | .loc k,.loc l,S,Q=>∃ xs ys,S[k]?=some (.lst xs)/\S[l]?=some (.lst ys)/\xs.length+ys.length<=big/\Q (.loc S.length) (S++[.lst (xs++ys)])
 | _,_,_,_=>False
noncomputable def GK(C:Int->Int->Prop)(g:Int->Int->SV):S2
 | .int i,.int j,S,Q=>C i j/\Q (g i j) S
 | _,_,_,_=>False
noncomputable def Bm(g:Int->Int->SV):S2
 | .int i,.int j,S,Q=>Q (g i j) S
 | _,_,_,_=>False
noncomputable def LC:S2
 | .int i,.int j,S,Q=>CMul i j/\Q (.int (i * j)) S
 | .loc k,.int j,S,Q=>∃ xs,S[k]?=some (.lst xs)/\(-1000000<j/\j<1000000)/\xs.length * j.toNat<=big/\Q (.loc S.length) (S++[.lst (Ue j.toNat xs).flatten])
 | _,_,_,_=>False
theorem Mono2.add:Mono2 LB:=λx y S P P' i h=>by
 unfold LB at h ⊢
 split at h<;>first
  | exact i _ _ h
  | exact⟨h.1,i _ _ h.2⟩
  | (obtain⟨xs,ys,a,b,c,d⟩:=h;exact⟨xs,ys,a,b,c,i _ _ d⟩)
  | exact h.elim
theorem Mono2.int{C:Int->Int->Prop}{g:Int->Int->SV}:Mono2 (GK C g):=λx y S P P' i h=>by
 unfold GK at h ⊢;split at h
 ·exact⟨h.1,i _ _ h.2⟩
 ·exact h.elim
theorem Mono2.int0{g:Int->Int->SV}:Mono2 (Bm g):=λx y S P P' i h=>by
 unfold Bm at h ⊢;split at h
 ·exact i _ _ h
 ·exact h.elim
theorem Mono2.mul:Mono2 LC:=λx y S P P' i h=>by
 unfold LC at h ⊢;split at h
 ·exact⟨h.1,i _ _ h.2⟩
 ·obtain⟨xs,a,b,c,d⟩:=h;exact⟨xs,a,b,c,i _ _ d⟩
 ·exact h.elim
section
variable{K:UL}
theorem Post.here{as:List YT}{H:Hp}{Q:VK}{x:SV}{S:Sto}{v:V}(h:Post K as H Q x S)(ok:Ok K as H S)(r:Rl K as H v x):Q v H:=h as H v (Go.refl _ _) ok r
theorem EH{C:Int->Int->Prop}{g:Int->Int->SV}{g':Int->Int->V}(hg:∀ as H i j,Rl K as H (g' i j) (g i j)):BO K (GK C g) (rI C g'):=λas H S x y v u Q ok rx ry h=>by
 unfold GK at h;split at h
 ·rw[rl_int]at rx ry;exact⟨_,_,rx,ry,h.1,h.2.here ok (hg _ _ _ _)⟩
 ·exact h.elim
theorem B8{g:Int->Int->SV}{g':Int->Int->V}(hg:∀ as H i j,Rl K as H (g' i j) (g i j)):BO K (Bm g) (rI0 g'):=λas H S x y v u Q ok rx ry h=>by
 unfold Bm at h;split at h
 ·rw[rl_int]at rx ry;exact⟨_,_,rx,ry,h.here ok (hg _ _ _ _)⟩
 ·exact h.elim
noncomputable def TF(K:UL):R2:=λx y H Q=>(rI0 λi j => .int (i+j)) x y H Q\/SX x y H Q
theorem Nm{X:Cx}:OpR X (ZH .Add) (TF X.K):=op_add.or QN
theorem Nn:BO K LB (TF K):=λas H S x y v u Q ok rx ry h=>by
 unfold LB at h;split at h
 ·rw[rl_int]at rx ry;exact .inl ⟨_,_,rx,ry,h.here ok (rl_int.mpr rfl)⟩
 ·obtain⟨xs,ys,h1,h2,h3,h4⟩:=h;obtain⟨a,vs,rfl,_,ha,ra⟩:=v7 ok rx h1;obtain⟨b,us,rfl,_,hb,rb⟩:=v7 ok ry h2;exact(.inr (⟨a,b,vs,us,rfl,rfl,ha,hb,by rw[ra.length,rb.length];exact Bk h3,u7 ok (ra.append rb) h4⟩))
 ·exact h.elim
theorem RlAll.rep{as:List YT}{H:Hp}{vs:List V}{xs:List SV}(h:RlAll K as H vs xs):∀ n,RlAll K as H (Ue n vs).flatten (Ue n xs).flatten
 | 0=>by simpa using RlAll.nil
 | n+1=>by
   rw[VW,VW,Vt,Vt];exact h.append (RlAll.rep h n)
theorem No:BO K LC (λx y H Q=>(rI CMul λi j => .int (i * j)) x y H Q\/SY x y H Q):=λas H S x y v u Q ok rx ry h=>by
 unfold LC at h;split at h
 ·rw[rl_int]at rx ry;exact .inl ⟨_,_,rx,ry,h.1,h.2.here ok (rl_int.mpr rfl)⟩
 ·rename_i k j;obtain⟨xs,h1,h2,h3,h4⟩:=h;obtain⟨a,vs,rfl,_,ha,ra⟩:=v7 ok rx h1;rw[rl_int]at ry;subst ry;exact .inr (⟨a,j,vs,rfl,rfl,ha,by omega,by omega,by rw[ra.length];exact Bk h3,u7 ok (ra.rep _) h4⟩)
 ·exact h.elim
end
noncomputable def scS:SV->SV->Option Bool
 | .int i,.int j=>some (decide (i=j))
 | .bl i,.bl j=>some (decide (i=j))
 | .str i,.str j=>some (decide (i=j))
 | .non,.non=>some true
 | .non,.int _=>some false | .int _,.non=>some false | .non,.bl _=>some false | .bl _,.non=>some false | .non,.str _=>some false | .str _,.non=>some false
 | .int _,.str _=>some false | .str _,.int _=>some false | .bl _,.str _=>some false | .str _,.bl _=>some false
 | _,_=>none
noncomputable def GL:SV->SV->Sto->(Bool->Prop)->Prop
 | .loc k,.loc l,S,Q=>∃ xs ys,S[k]?=some (.lst xs)/\S[l]?=some (.lst ys)/\((xs.all y8=true/\ys.all y8=true)\/xs=[]\/ys=[])/\Q (EF xs ys)
 | _,_,_,_=>False
noncomputable def JA:SV->SV->Sto->(Bool->Prop)->Prop
 | .loc k,.loc l,S,Q=>∃ xs ys,S[k]?=some (.lst xs)/\S[l]?=some (.lst ys)/\((xs.all y8=true/\ys.all y8=true)\/xs=[]\/ys=[])/\Q (EF xs ys)
 | .loc k,.str _,S,Q=>(∃ xs,S[k]?=some (.lst xs))/\Q false
 | .tup _,.str _,_,Q=>Q false
 | _,_,_,_=>False
theorem Qr{x y:SV}{S:Sto}{Q:Bool->Prop}(h:JA x y S Q):GL x y S Q\/(∃ t,y = .str t/\((∃ k xs,x = .loc k/\S[k]?=some (.lst xs))\/∃ xs,x = .tup xs)/\Q false):=by
 unfold JA at h;split at h
 ·exact .inl h
 ·obtain⟨⟨xs,e⟩,q⟩:=h;exact .inr ⟨_,rfl,.inl ⟨_,xs,rfl,e⟩,q⟩
 ·exact .inr ⟨_,rfl,.inr ⟨_,rfl⟩,h⟩
 ·exact h.elim
theorem JB{x y:SV}{S:Sto}{P P':Bool->Prop}(i:∀ b,P b->P' b)(h:JA x y S P):JA x y S P':=by
 unfold JA at h ⊢;split at h
 ·obtain⟨xs,ys,a,b,c,d⟩:=h;exact⟨xs,ys,a,b,c,i _ d⟩
 ·exact⟨h.1,i _ h.2⟩
 ·exact i _ h
 ·exact h.elim
noncomputable def sEq:S2:=λx y S Q=>match scS x y with | some b=>Q (.bl b) S | none=>JA x y S λb=>Q (.bl b) S
noncomputable def sNe:S2:=λx y S Q=>match scS x y with | some b=>Q (.bl (!b)) S | none=>GL x y S λb=>Q (.bl (!b)) S
noncomputable def CI:SV->Sto->Option (List Int)
 | .loc k,S=>match S[k]? with | some (.iset ms)=>some ms | _=>none
 | _,_=>none
noncomputable def sIn(neg:Bool):S2:=λx y S Q=>match CI y S with
 | some ms=>∃ i,x = .int i/\neg=false/\Q (.bl (decide (i∈ms))) S
 | none=>y8 x=true/\∃ ys,seqS y S=some ys/\ys.all y8=true/\Q (.bl (if neg then !inS x ys else inS x ys)) S
noncomputable def LD:SV->Bool
 | .non=>true
 | _=>false
noncomputable def LF(neg:Bool):S2:=λx y S Q=>(y = .non/\Q (.bl (if neg then !LD x else LD x)) S)\/∃ c d,neg=true/\x = .bl c/\y = .bl d/\Q (.bl (c != d)) S
theorem JC{x y:SV}{S:Sto}{P P':Bool->Prop}(i:∀ b,P b->P' b)(h:GL x y S P):GL x y S P':=by
 unfold GL at h ⊢;split at h
 ·obtain⟨xs,ys,a,b,c,d⟩:=h;exact⟨xs,ys,a,b,c,i _ d⟩
 ·exact h.elim
theorem Mono2.eq:Mono2 sEq:=λx y S P P' i h=>by
 unfold sEq at h ⊢;split at h
 ·exact i _ _ h
 ·exact JB (λ_=>i _ _) h
theorem Mono2.ne:Mono2 sNe:=λx y S P P' i h=>by
 unfold sNe at h ⊢;split at h
 ·exact i _ _ h
 ·exact JC (λ_=>i _ _) h
theorem Mono2.in'{n:Bool}:Mono2 (sIn n):=λx y S P P' i h=>by
 unfold sIn at h ⊢;split at h
 ·obtain⟨j,e,z,h⟩:=h;exact⟨j,e,z,i _ _ h⟩
 ·obtain⟨f,ys,a,b,h⟩:=h;exact⟨f,ys,a,b,i _ _ h⟩
theorem Mono2.isN{n:Bool}:Mono2 (LF n):=λx y S P P' i h=>h.imp (λh=>⟨h.1,i _ _ h.2⟩) λ⟨c,d,z,a,b,h⟩=>⟨c,d,z,a,b,i _ _ h⟩
section
variable{K:UL}
theorem LG{as:List YT}{H:Hp}{x y:SV}{v u:V}{b:Bool}(e:scS x y=some b)(rx:Rl K as H v x)(ry:Rl K as H u y):QF v u=true/\decide (v=u)=b:=by
 cases x<;>first | (unfold scS at e;cases e;done) | (cases y<;>first | (unfold scS at e;cases e;done) | (simp only[rl_non,rl_bl,rl_int,rl_str]at rx ry;subst rx ry;unfold scS at e;injection e with e;subst e;exact⟨rfl,by simp⟩))
theorem Hk{as:List YT}{H:Hp}{S:Sto}{x y:SV}{v u:V}{Q:Bool->Prop}(ok:Ok K as H S)(rx:Rl K as H v x)(ry:Rl K as H u y)(h:GL x y S Q):∃ a b xs ys,v = .ref a/\u = .ref b/\SqL K H a xs/\SqL K H b ys/\((xs.all y7=true/\ys.all y7=true)\/xs=[]\/ys=[])/\Q (AY xs ys):=by
 unfold GL at h;split at h
 ·obtain⟨xs,ys,h1,h2,h3,h4⟩:=h;obtain⟨a,vs,rfl,_,ha,ra⟩:=v7 ok rx h1;obtain⟨b,us,rfl,_,hb,rb⟩:=v7 ok ry h2;refine⟨a,b,vs,us,rfl,rfl,SqL.of ha,SqL.of hb,?_,?_⟩
  ·rcases h3 with⟨f1,f2⟩ | h3 | h3
   ·rw[Al f1 ra,Al f2 rb];exact .inl ⟨C4 f1,C4 f2⟩
   ·subst h3;exact .inr (.inl (rla_nil.mp ra))
   ·subst h3;exact .inr (.inr (rla_nil.mp rb))
  ·have e:AY vs us=EF xs ys:=by
    rcases h3 with⟨f1,f2⟩ | h3 | h3
    ·rw[Al f1 ra,Al f2 rb,Nl f1 f2]
    ·subst h3;have:=rla_nil.mp ra;subst this;have l:=rb.length;unfold AY EF;simp[l]
    ·subst h3;have:=rla_nil.mp rb;subst this;have l:=ra.length;unfold AY EF;simp[l]
   rw[e];exact h4
 ·exact h.elim
theorem Qs:BO K sEq (λx y H Q=>rEq x y H Q\/(NO K false x y H Q\/PU K x y H Q)):=λas H S x y v u Q ok rx ry h=>by
 unfold sEq at h;split at h
 ·rename_i b e;obtain⟨h1,h2⟩:=LG e rx ry;exact .inl ⟨h1,by rw[h2];exact h.here ok (rl_bl.mpr rfl)⟩
 ·rcases Qr h with h | ⟨t,rfl,h,q⟩
  ·obtain⟨a,b,xs,ys,e1,e2,h1,h2,h3,h4⟩:=Hk ok rx ry h;exact .inr (.inl ⟨a,b,xs,ys,e1,e2,h1,h2,h3,h4.here ok (rl_bl.mpr rfl)⟩)
  ·rw[rl_str]at ry;subst ry;rcases h with⟨k,xs,rfl,hk⟩ | ⟨xs,rfl⟩
   ·obtain⟨a,vs,rfl,_,ha,_⟩:=v7 ok rx hk;exact .inr (.inr ⟨a,t,rfl,rfl,.inl ⟨vs,SqL.of ha⟩,Post.here q ok (rl_bl.mpr rfl)⟩)
   ·obtain⟨p,vs,rfl,hp,_⟩:=rl_tup.mp rx;exact .inr (.inr ⟨p,t,rfl,rfl,.inr ⟨vs,SqT.of hp⟩,Post.here q ok (rl_bl.mpr rfl)⟩)
theorem Qt:BO K sNe (λx y H Q=>rNe x y H Q\/NO K true x y H Q):=λas H S x y v u Q ok rx ry h=>by
 unfold sNe at h;split at h
 ·rename_i b e;obtain⟨h1,h2⟩:=LG e rx ry;exact .inl ⟨h1,by rw[h2];exact h.here ok (rl_bl.mpr rfl)⟩
 ·obtain⟨a,b,xs,ys,e1,e2,h1,h2,h3,h4⟩:=Hk ok rx ry h;exact .inr ⟨a,b,xs,ys,e1,e2,h1,h2,h3,h4.here ok (rl_bl.mpr rfl)⟩
theorem Np{as:List YT}{H:Hp}{S:Sto}{y:SV}{u:V}{ms:List Int}(ok:Ok K as H S)(r:Rl K as H u y)(h:CI y S=some ms):∃ a k F,y = .loc k/\u = .ref a/\as[k]?=some a/\S[k]?=some (.iset ms)/\H a=some (.set F ms.length)/\∀ k,F k=decide (k∈ms):=by
 cases y with
 | loc k=>
   obtain⟨a,ea,rfl⟩:=rl_loc.mp r;unfold CI at h;cases hs:S[k]? with
   | none=>simp only[hs]at h;cases h
   | some o=>
     cases o with
     | lst ys=>simp only[hs]at h;cases h
     | iset ns=>
       simp only[hs]at h;cases h;obtain⟨F,h1,h2⟩:=ok.obj k _ a hs ea;exact⟨a,k,F,rfl,rfl,ea,hs,h1,h2⟩
     | dtl _=>simp only[hs]at h;cases h
     | dtf _ _ _=>simp only[hs]at h;cases h
     | dtp _=>simp only[hs]at h;cases h
     | dct _=>simp only[hs]at h;cases h
     | dcf _ _ _=>simp only[hs]at h;cases h
     | tbl _ _=>simp only[hs]at h;cases h
 | _=>cases h
noncomputable def Qu(K:UL)(neg:Bool):R2:=λx y H Q=>rIn K neg x y H Q\/(neg=false/\∃(k:Int) (p:YT) (S:Int->Bool) (n:Nat),x = .int k/\y = .ref p/\H p=some (.set S n)/\Q (.bl (S k)) H)
theorem Qv{X:Cx}:OpR X (Yk .In) (Qu X.K false):=λpins s σ H x y v u Q I rx ry h=>h.elim (Il pins s σ H x y v u Q I rx ry) λh=>LA pins s σ H x y v u Q I rx ry h.2
theorem JD{X:Cx}:OpR X (Yk .NotIn) (Qu X.K true):=λpins s σ H x y v u Q I rx ry h=>h.elim (E6 pins s σ H x y v u Q I rx ry) λh=>by cases h.1
theorem LJ{n:Bool}:BO K (sIn n) (Qu K n):=λas H S x y v u Q ok rx ry h=>by
 unfold sIn at h;split at h
 ·rename_i ms hi;obtain⟨i,rfl,rfl,h⟩:=h;obtain⟨a,k,F,rfl,rfl,ea,es,hF,hk⟩:=Np ok ry hi;rw[rl_int]at rx;exact .inr ⟨rfl,i,a,F,_,rx,rfl,hF,by rw[hk];exact h.here ok (rl_bl.mpr rfl)⟩
 ·obtain⟨f,ys,hs,fs,h⟩:=h;obtain⟨a,vs,rfl,hq,rr⟩:=C5 ok ry hs;have ev:=Hj f rx;have es:=Al fs rr;subst ev es;exact .inl ⟨a,_,rfl,hq,Ey f,C4 fs,by rw[Qq f fs];exact h.here ok (rl_bl.mpr rfl)⟩
theorem Ez{as:List YT}{H:Hp}{x:SV}{v:V}(r:Rl K as H v x):decide (v=V.non)=LD x:=by
 cases x with
 | non=>rw[rl_non.mp r];rfl
 | bl _=>rw[rl_bl.mp r];rfl
 | int _=>rw[rl_int.mp r];rfl
 | str _=>rw[rl_str.mp r];rfl
 | tup _=>obtain⟨p,vs,rfl,_⟩:=rl_tup.mp r;rfl
 | loc _=>obtain⟨p,_,rfl⟩:=rl_loc.mp r;rfl
 | ro _=>obtain⟨p,vs,rfl,_⟩:=rl_ro.mp r;rfl
 | ty _=>rw[rl_ty.mp r];rfl
theorem Nq:BO K (LF false) (λx y H Q=>y = .non/\Q (.bl (decide (x = .non))) H):=λas H S x y v u Q ok rx ry h=>by
 rcases h with⟨e,h⟩ | ⟨c,d,z,_⟩
 ·subst e;exact⟨rl_non.mp ry,by rw[Ez rx];exact h.here ok (rl_bl.mpr rfl)⟩
 ·cases z
theorem LK:BO K (LF true) (λx y H Q=>(y = .non/\Q (.bl (!decide (x = .non))) H)\/∃ c d,x = .bl c/\y = .bl d/\Q (.bl (c != d)) H):=λas H S x y v u Q ok rx ry h=>by
 rcases h with⟨e,h⟩ | ⟨c,d,_,rfl,rfl,h⟩
 ·subst e;exact .inl ⟨rl_non.mp ry,by rw[Ez rx];exact h.here ok (rl_bl.mpr rfl)⟩
 ·exact .inr ⟨c,d,rl_bl.mp rx,rl_bl.mp ry,h.here ok (rl_bl.mpr rfl)⟩
end
noncomputable def sIx:S2
 | x,.int i,S,Q=>∃ xs y,seqS x S=some xs/\atI xs i=some y/\Q y S
 | _,_,_,_=>False
theorem Mono2.ix:Mono2 sIx:=λx y S P P' i h=>by
 unfold sIx at h ⊢;split at h
 ·obtain⟨xs,z,a,b,c⟩:=h;exact⟨xs,z,a,b,i _ _ c⟩
 ·exact h.elim
section
variable{K:UL}
theorem RlAll.atI{as:List YT}{H:Hp}{xs:List SV}{vs:List V}{i:Int}{y:SV}(h:RlAll K as H vs xs)(e:L2.atI xs i=some y):∃ v,L2.atI vs i=some v/\Rl K as H v y:=by
 unfold L2.atI at e ⊢;rw[h.length];cases hj:ixN xs.length i with
 | none=>rw[hj]at e;cases e
 | some j=>
   rw[hj]at e;exact h.get e
theorem Qw:BO K sIx (λx y H Q=>ST K x y H Q\/SU K x y H Q):=λas H S x y v u Q ok rx ry h=>by
 unfold sIx at h;split at h
 ·obtain⟨xs,z,h1,h2,h3⟩:=h;obtain⟨a,vs,rfl,hq,rr⟩:=C5 ok rx h1;obtain⟨w,hw,rw'⟩:=rr.atI h2;rw[rl_int]at ry;rcases hq with hq | hq
  ·exact .inl ⟨a,vs,_,w,rfl,ry,hq,hw,h3.here ok rw'⟩
  ·exact .inr ⟨a,vs,_,w,rfl,ry,hq,hw,h3.here ok rw'⟩
 ·exact h.elim
end
inductive BI where
 | len | abs | min | max | int | list | tuple | all | any | sorted | isi | str | repr
 deriving DecidableEq
noncomputable def BI.name:BI->Str
 | .len=>"len" | .abs=>"abs" | .min=>"min" | .max=>"max" | .int=>"int" | .list=>"list" | .tuple=>"tuple" | .all=>"all" | .any=>"any" | .sorted=>"sorted" | .isi=>"isinstance" | .str=>"str" | .repr=>"repr"
noncomputable def blS:List SV->Option (List Bool)
 | []=>some []
 | .bl b::xs=>(blS xs).map (b::·)
 | _::_=>none
noncomputable def F0:List SV->Option (List Int)
 | []=>some []
 | .int i::xs=>(F0 xs).map (i::·)
 | _::_=>none
noncomputable def tyS:SV->Sto->Option TyN
 | .non,_=>some .none
 | .bl _,_=>some .bool
 | .int _,_=>some .int
 | .str _,_=>some .str
 | .tup _,_=>some .tuple
 | .loc k,S=>match S[k]? with | some (.lst _)=>some .list | _=>none
 | _,_=>none
noncomputable def GM:TyN->TyN->Bool
 | .bool,.int=>true
 | a,b=>decide (a=b)
noncomputable def JE:List SV->Option (List TyN)
 | []=>some []
 | .ty t::xs=>(JE xs).map (t::·)
 | _::_=>none
noncomputable def p7:Nat->Sto->SV->Option PyData
 | _,_,.non=>some .none
 | _,_,.bl b=>some (.bool b)
 | _,_,.int i=>some (.int i)
 | _,_,.str x=>some (.str x)
 | n+1,S,.tup xs=>(xs.mapM (p7 n S)).map PyData.tuple
 | n+1,S,.loc k=>match S[k]? with | some (.lst xs)=>(xs.mapM (p7 n S)).map PyData.list | _=>none
 | _,_,_=>none
noncomputable def a0(f:Sto->QE->Prop):Sn:=λxs S Q=>match xs with | []=>f S Q | _=>False
noncomputable def a1(f:S1):Sn:=λxs S Q=>match xs with | [x]=>f x S Q | _=>False
noncomputable def a2(f:S2):Sn:=λxs S Q=>match xs with | [x,y]=>f x y S Q | _=>False
noncomputable def oI(f:Int->Sto->QE->Prop):S1:=λx S Q=>match x with | .int i=>f i S Q | _=>False
theorem Cp{f:S1}{xs:List SV}{S:Sto}{Q:QE}(h:a1 f xs S Q):∃ x,xs=[x]/\f x S Q:=match xs,h with | [x],h=>⟨x,rfl,h⟩
theorem LL{f:S2}{xs:List SV}{S:Sto}{Q:QE}(h:a2 f xs S Q):∃ x y,xs=[x,y]/\f x y S Q:=match xs,h with | [x,y],h=>⟨x,y,rfl,h⟩
theorem C6{f:Int->Sto->QE->Prop}{x:SV}{S:Sto}{Q:QE}(h:oI f x S Q):∃ i,x = .int i/\f i S Q:=match x,h with | .int i,h=>⟨i,rfl,h⟩
theorem A5{f:S1}(m:Dl f):MonoN (a1 f):=λxs S P P' i h=>by
 replace h:=Cp h;obtain⟨x,rfl,h⟩:=h;exact m x S P P' i h
theorem CT{f:S2}(m:Mono2 f):MonoN (a2 f):=λxs S P P' i h=>by
 replace h:=LL h;obtain⟨x,y,rfl,h⟩:=h;exact m x y S P P' i h
theorem Nr{f:Int->Sto->QE->Prop}(m:∀ k S P P',(∀ x S',P x S'->P' x S')->f k S P->f k S P'):Dl (oI f):=λx S P P' i h=>by
 replace h:=C6 h;obtain⟨k,rfl,h⟩:=h;exact m k S P P' i h
noncomputable def TH:S1
 | .int i,S,Q=>Q (.int i) S
 | .bl b,S,Q=>Q (.int (if b then 1 else 0)) S
 | _,_,_=>False
theorem PV{x:SV}{S:Sto}{Q:QE}(h:TH x S Q):(∃ i,x = .int i/\Q (.int i) S)\/∃ b,x = .bl b/\Q (.int (if b then 1 else 0)) S:=match x,h with
 | .int i,h => .inl ⟨i,rfl,h⟩
 | .bl b,h => .inr ⟨b,rfl,h⟩
noncomputable def TJ:S2:=λx y S Q=>match y with
 | .ty t=>∃ a,t ≠ .none/\tyS x S=some a/\Q (.bl (GM a t)) S
 | .tup ts=>∃ a bs,TyN.none∉bs/\tyS x S=some a/\JE ts=some bs/\Q (.bl (bs.any (GM a))) S
 | _=>False
theorem PX{x y:SV}{S:Sto}{Q:QE}(h:TJ x y S Q):(∃ t a,y = .ty t/\t ≠ .none/\tyS x S=some a/\Q (.bl (GM a t)) S)\/∃ ts a bs,y = .tup ts/\TyN.none∉bs/\tyS x S=some a/\JE ts=some bs/\Q (.bl (bs.any (GM a))) S:=match y,h with
 | .ty t,⟨a,h⟩ => .inl ⟨t,a,rfl,h⟩
 | .tup ts,⟨a,bs,h⟩ => .inr ⟨ts,a,bs,rfl,h⟩
noncomputable def U9:S1:=λx S Q=>∃ xs,seqS x S=some xs/\Q (.int xs.length) S
noncomputable def UA:S1:=oI λi S Q=>Q (.int (if i<0 then -i else i)) S
noncomputable def UB:S2:=λx y S Q=>oI (λi S Q=>oI (λj S Q=>Q (.int (if j<i then j else i)) S) y S Q) x S Q
noncomputable def UC:S2:=λx y S Q=>oI (λi S Q=>oI (λj S Q=>Q (.int (if j>i then j else i)) S) y S Q) x S Q
noncomputable def TK:S1:=λx S Q=>∃ xs,seqS x S=some xs/\Q (.loc S.length) (S++[.lst xs])
noncomputable def Qx:S1:=λx S Q=>∃ xs,seqS x S=some xs/\Q (.tup xs) S
noncomputable def UD:S1:=λx S Q=>∃ xs bs,x ≠ .tup xs/\seqS x S=some xs/\blS xs=some bs/\Q (.bl (bs.all id)) S
noncomputable def UE:S1:=λx S Q=>∃ xs bs,x ≠ .tup xs/\seqS x S=some xs/\blS xs=some bs/\Q (.bl (bs.any id)) S
noncomputable def Nt:S1:=λx S Q=>∃ xs ns,x ≠ .tup xs/\seqS x S=some xs/\F0 xs=some ns/\ns.length<128/\Q (.loc S.length) (S++[.lst ((srt ns).map SV.int)])
noncomputable def UF:S1:=λx S Q=>∃ d,p7 20 S x=some d/\Fit d/\Q (.str (Es d)) S
noncomputable def sBi:BI->Sn
 | .len=>a1 U9
 | .abs=>a1 UA
 | .min=>a2 UB
 | .max=>a2 UC
 | .int=>a1 TH
 | .list=>a1 TK
 | .tuple=>a1 Qx
 | .all=>a1 UD
 | .any=>a1 UE
 | .sorted=>a1 Nt
 | .isi=>a2 TJ
 | .str=>a1 UF
 | .repr=>λ_ _ _=>False
theorem MonoN.bi:∀{b:BI},MonoN (sBi b)
 | .len=>A5 λ_ _ _ _ i ⟨a,c,d⟩=>⟨a,c,i _ _ d⟩
 | .abs=>A5 (Nr λ_ _ _ _ i h=>i _ _ h)
 | .min=>CT λx y S P P' i h=>by
   replace h:=C6 h;obtain⟨k,rfl,h1⟩:=h;obtain⟨l,rfl,h2⟩:=C6 h1;exact i _ _ h2
 | .max=>CT λx y S P P' i h=>by
   replace h:=C6 h;obtain⟨k,rfl,h1⟩:=h;obtain⟨l,rfl,h2⟩:=C6 h1;exact i _ _ h2
 | .int=>A5 λx S P P' i h=>by
   replace h:=PV h;rcases h with⟨k,rfl,h⟩ | ⟨b,rfl,h⟩
   ·exact i _ _ h
   ·exact i _ _ h
 | .list=>A5 λ_ _ _ _ i ⟨a,c,d⟩=>⟨a,c,i _ _ d⟩
 | .tuple=>A5 λ_ _ _ _ i ⟨a,c,d⟩=>⟨a,c,i _ _ d⟩
 | .all=>A5 λ_ _ _ _ i ⟨a,b,c,d,e,f⟩=>⟨a,b,c,d,e,i _ _ f⟩
 | .any=>A5 λ_ _ _ _ i ⟨a,b,c,d,e,f⟩=>⟨a,b,c,d,e,i _ _ f⟩
 | .sorted=>A5 λ_ _ _ _ i ⟨a,b,c,d,e,f,g⟩=>⟨a,b,c,d,e,f,i _ _ g⟩
 | .isi=>CT λx y S P P' i h=>by
   replace h:=PX h;rcases h with⟨t,a,rfl,h1,h2,h⟩ | ⟨ts,a,bs,rfl,h1,h2,h3,h⟩
   ·exact⟨a,h1,h2,i _ _ h⟩
   ·exact⟨a,bs,h1,h2,h3,i _ _ h⟩
 | .str=>A5 λ_ _ _ _ i ⟨a,b,c,d⟩=>⟨a,b,c,i _ _ d⟩
 | .repr=>λ_ _ _ _ _ h=>h
section
variable{K:UL}{as:List YT}{H:Hp}{S:Sto}
theorem GN:∀{xs:List SV} {bs:List Bool} {vs:List V},blS xs=some bs->RlAll K as H vs xs->vs=bs.map V.bl
 | [],_,_,e,r=>by cases e;exact rla_nil.mp r
 | .bl b::xs,_,_,e,r=>by
   obtain⟨v,vs,rfl,r1,r2⟩:=rla_cons.mp r;unfold blS at e;cases h:blS xs with
   | none=>rw[h]at e;cases e
   | some cs=>
     rw[h]at e;cases e;rw[rl_bl.mp r1,GN h r2];rfl
 | .non::_,_,_,e,_=>by cases e
 | .int _::_,_,_,e,_=>by cases e
 | .str _::_,_,_,e,_=>by cases e
 | .tup _::_,_,_,e,_=>by cases e
 | .loc _::_,_,_,e,_=>by cases e
 | .ro _::_,_,_,e,_=>by cases e
 | .ty _::_,_,_,e,_=>by cases e
theorem EI:∀{xs:List SV} {bs:List Int} {vs:List V},F0 xs=some bs->RlAll K as H vs xs->vs=bs.map V.int
 | [],_,_,e,r=>by cases e;exact rla_nil.mp r
 | .int b::xs,_,_,e,r=>by
   obtain⟨v,vs,rfl,r1,r2⟩:=rla_cons.mp r;unfold F0 at e;cases h:F0 xs with
   | none=>rw[h]at e;cases e
   | some cs=>
     rw[h]at e;cases e;rw[rl_int.mp r1,EI h r2];rfl
 | .non::_,_,_,e,_=>by cases e
 | .bl _::_,_,_,e,_=>by cases e
 | .str _::_,_,_,e,_=>by cases e
 | .tup _::_,_,_,e,_=>by cases e
 | .loc _::_,_,_,e,_=>by cases e
 | .ro _::_,_,_,e,_=>by cases e
 | .ty _::_,_,_,e,_=>by cases e
theorem AH{x:SV}{v:V}{xs:List SV}(ok:Ok K as H S)(r:Rl K as H v x)(n:x ≠ .tup xs)(h:seqS x S=some xs):∃ a vs,v = .ref a/\SqL K H a vs/\RlAll K as H vs xs:=by
 cases x with
 | tup ys=>cases h;exact absurd rfl n
 | ro ys=>
   cases h;obtain⟨p,vs,rfl,hp,rr⟩:=rl_ro.mp r;exact⟨p,vs,rfl,hp.sq,rr⟩
 | loc k=>
   obtain⟨a,ea,rfl⟩:=rl_loc.mp r;unfold seqS at h;cases hs:S[k]? with
   | none=>simp only[hs]at h;cases h
   | some o=>
     cases o with
     | lst ys=>
       simp only[hs]at h;cases h;obtain⟨vs,h1,rr⟩:=ok.obj k _ a hs ea;exact⟨a,vs,rfl,SqL.of h1,rr⟩
     | iset _=>simp only[hs]at h;cases h
     | dtl _=>simp only[hs]at h;cases h
     | dtf _ _ _=>simp only[hs]at h;cases h
     | dtp _=>simp only[hs]at h;cases h
     | dct _=>simp only[hs]at h;cases h
     | dcf _ _ _=>simp only[hs]at h;cases h
     | tbl _ _=>simp only[hs]at h;cases h
 | _=>cases h
theorem CO{vs:List V}{x:SV}(r:RlAll K as H vs [x]):∃ v,vs=[v]/\Rl K as H v x:=by
 obtain⟨v,t,rfl,r1,r2⟩:=rla_cons.mp r;rw[rla_nil.mp r2];exact⟨v,rfl,r1⟩
theorem Nu{vs:List V}{x y:SV}(r:RlAll K as H vs [x,y]):∃ v u,vs=[v,u]/\Rl K as H v x/\Rl K as H u y:=by
 obtain⟨v,t,rfl,r1,r2⟩:=rla_cons.mp r;obtain⟨u,rfl,r3⟩:=CO r2;exact⟨v,u,rfl,r1,r3⟩
end
theorem LM{K:UL}{as:List YT}{H:Hp}{S:Sto}{Q:VK}{x:SV}{v:V}{ys:List SV}(ok:Ok K as H S)(r1:Rl K as H v x)(h1:seqS x S=some ys)(h2:Post K as H Q (.tup ys) S):∃ p us,v = .ref p/\((SqL K H p us/\∀ l,H l=none->Q (.ref l) (upd H l (.tup us)))\/(SqT K H p us/\Q (.ref p) H)):=by
 cases x with
 | tup zs=>
   cases h1;obtain⟨p,us,rfl,hp,rr⟩:=rl_tup.mp r1;exact⟨p,us,rfl,.inr ⟨SqT.of hp,h2.here ok r1⟩⟩
 | loc k=>
   obtain⟨a,us,rfl,hq,rr⟩:=AH ok r1 (by intro z;cases z) h1;exact⟨a,us,rfl,.inl ⟨hq,Co ok rr h2⟩⟩
 | ro k=>
   obtain⟨a,us,rfl,hq,rr⟩:=AH ok r1 (by intro z;cases z) h1;exact⟨a,us,rfl,.inl ⟨hq,Co ok rr h2⟩⟩
 | _=>cases h1
section
variable{K:UL}{as:List YT}{H:Hp}{S:Sto}
theorem PY{x:SV}{v:V}{a:TyN}(ok:Ok K as H S)(r:Rl K as H v x)(h:tyS x S=some a):TyOf K H v (.type a.nm):=by
 cases x with
 | non=>cases h;rw[rl_non.mp r];exact .non
 | bl b=>cases h;rw[rl_bl.mp r];exact .bl b
 | int b=>cases h;rw[rl_int.mp r];exact .int b
 | str b=>cases h;rw[rl_str.mp r];exact .str b
 | tup xs=>cases h;obtain⟨p,vs,rfl,hp,_⟩:=rl_tup.mp r;exact .tup hp
 | loc k=>
   obtain⟨b,eb,rfl⟩:=rl_loc.mp r;unfold tyS at h;cases hs:S[k]? with
   | none=>simp only[hs]at h;cases h
   | some o=>
     cases o with
     | lst ys=>
       simp only[hs]at h;cases h;obtain⟨vs,h1,_⟩:=ok.obj k _ b hs eb;exact .lst h1
     | iset _=>simp only[hs]at h;cases h
     | dtl _=>simp only[hs]at h;cases h
     | dtf _ _ _=>simp only[hs]at h;cases h
     | dtp _=>simp only[hs]at h;cases h
     | dct _=>simp only[hs]at h;cases h
     | dcf _ _ _=>simp only[hs]at h;cases h
     | tbl _ _=>simp only[hs]at h;cases h
 | _=>cases h
noncomputable def ktn(t c:String):Option Bool:=if (Value.type t == Value.type c)=true then some true else if PySem.W.kitMeta c=true then (fastBuiltinMro t).map (·.contains (.type c)) else none
theorem Hl{K:UL}(a:TyN)(t:TyN)(ht:t ≠ .none):PySem.W.kitOne K (.type a.nm) (.type t.nm)=some (GM a t):=by
 have e:PySem.W.kitOne K (.type a.nm) (.type t.nm)=ktn a.nm t.nm:=rfl;rw[e];cases a<;>cases t<;>first | exact absurd rfl ht | decide +kernel
theorem Hm{K:UL}(a:TyN):∀(bs:List TyN),TyN.none∉bs->PySem.W.kitAny K (.type a.nm) ((bs.map TyN.nm).map Value.type)=some (bs.any (GM a))
 | [],_=>rfl
 | b::bs,h=>by
   rw[Uv,Uv,PySem.W.kitAny,Hl a b (λz=>h (by rw[z];simp)),Vc];cases GM a b with
   | true=>rfl
   | false=>exact Hm a bs (λz=>h (Uc _ z))
theorem LN:∀{xs:List SV} {bs:List TyN} {vs:List V},JE xs=some bs->RlAll K as H vs xs->vs=(bs.map TyN.nm).map V.ty
 | [],_,_,e,r=>by cases e;exact rla_nil.mp r
 | .ty b::xs,_,_,e,r=>by
   obtain⟨v,vs,rfl,r1,r2⟩:=rla_cons.mp r;unfold JE at e;cases h:JE xs with
   | none=>rw[h]at e;cases e
   | some cs=>
     rw[h]at e;cases e;rw[rl_ty.mp r1,LN h r2];rfl
 | .non::_,_,_,e,_=>by cases e
 | .bl _::_,_,_,e,_=>by cases e
 | .str _::_,_,_,e,_=>by cases e
 | .tup _::_,_,_,e,_=>by cases e
 | .loc _::_,_,_,e,_=>by cases e
 | .ro _::_,_,_,e,_=>by cases e
 | .int _::_,_,_,e,_=>by cases e
theorem EJ{n:Nat}(ih:∀{x:SV} {d:PyData} {v:V},p7 n S x=some d->Rl K as H v x->Dat H v d):∀{xs:List SV} {ds:List PyData} {vs:List V},xs.mapM (p7 n S)=some ds->RlAll K as H vs xs->DatAll H vs ds
 | [],_,_,e,r=>by
   rw[List.mapM_nil]at e;cases e;rw[rla_nil.mp r];unfold DatAll;trivial
 | x::xs,_,_,e,r=>by
   obtain⟨v,vs,rfl,r1,r2⟩:=rla_cons.mp r;rw[XS]at e;cases h1:p7 n S x with
   | none=>rw[h1]at e;cases e
   | some d=>
     rw[h1]at e;cases h2:xs.mapM (p7 n S) with
     | none=>rw[h2]at e;cases e
     | some ds=>
       rw[h2]at e;cases e;unfold DatAll;exact⟨ih h1 r1,EJ ih h2 r2⟩
theorem Qy(ok:Ok K as H S):∀(n:Nat) {x:SV} {d:PyData} {v:V},p7 n S x=some d->Rl K as H v x->Dat H v d:=by
 intro n
 induction n with
 | zero=>
   intro x d v e r;cases x with
   | non=>cases e;rw[rl_non.mp r];unfold Dat;rfl
   | bl b=>cases e;rw[rl_bl.mp r];unfold Dat;rfl
   | int b=>cases e;rw[rl_int.mp r];unfold Dat;rfl
   | str b=>cases e;rw[rl_str.mp r];unfold Dat;rfl
   | _=>unfold p7 at e;cases e
 | succ n ih=>
   intro x d v e r;cases x with
   | non=>cases e;rw[rl_non.mp r];unfold Dat;rfl
   | bl b=>cases e;rw[rl_bl.mp r];unfold Dat;rfl
   | int b=>cases e;rw[rl_int.mp r];unfold Dat;rfl
   | str b=>cases e;rw[rl_str.mp r];unfold Dat;rfl
   | tup xs=>
     unfold p7 at e;cases h:xs.mapM (p7 n S) with
     | none=>rw[h]at e;cases e
     | some ds=>
       rw[h]at e;cases e;obtain⟨p,vs,rfl,hp,rr⟩:=rl_tup.mp r;unfold Dat;exact⟨p,vs,rfl,hp,EJ ih h rr⟩
   | loc k=>
     unfold p7 at e;cases hs:S[k]? with
     | none=>simp only[hs]at e;cases e
     | some o=>
       cases o with
       | lst ys=>
         simp only[hs]at e;cases h:ys.mapM (p7 n S) with
         | none=>rw[h]at e;cases e
         | some ds=>
           rw[h]at e;cases e;obtain⟨a,vs,rfl,_,ha,rr⟩:=v7 ok r hs;unfold Dat;exact⟨a,vs,rfl,ha,EJ ih h rr⟩
       | iset _=>simp only[hs]at e;cases e
       | dtl _=>simp only[hs]at e;cases e
       | dtf _ _ _=>simp only[hs]at e;cases e
       | dtp _=>simp only[hs]at e;cases e
       | dct _=>simp only[hs]at e;cases e
       | dcf _ _ _=>simp only[hs]at e;cases e
       | tbl _ _=>simp only[hs]at e;cases e
   | _=>unfold p7 at e;cases e
end
noncomputable def rBi(K:UL):BI->List V->Hp->VK->Prop
 | .len=>λxs H Q=>∃ p ys,xs=[.ref p]/\(SqL K H p ys\/SqT K H p ys)/\Q (.int ys.length) H
 | .abs=>λxs H Q=>∃ i,xs=[.int i]/\Q (.int (if i<0 then -i else i)) H
 | .min=>λxs H Q=>∃ i j,xs=[.int i,.int j]/\Q (.int (if j<i then j else i)) H
 | .max=>λxs H Q=>∃ i j,xs=[.int i,.int j]/\Q (.int (if j>i then j else i)) H
 | .int=>λxs H Q=>(∃ i,xs=[.int i]/\Q (.int i) H)\/∃ k,xs=[.bl k]/\Q (.int (if k then 1 else 0)) H
 | .list=>λxs H Q=>∃ p ys,xs=[.ref p]/\(SqL K H p ys\/SqT K H p ys)/\∀ l,H l=none->Q (.ref l) (upd H l (.lst ys))
 | .tuple=>λxs H Q=>∃ p ys,xs=[.ref p]/\((SqL K H p ys/\∀ l,H l=none->Q (.ref l) (upd H l (.tup ys)))\/(SqT K H p ys/\Q (.ref p) H))
 | .all=>λxs H Q=>∃(a:YT) (bs:List Bool),xs=[.ref a]/\SqL K H a (bs.map V.bl)/\Q (.bl (bs.all id)) H
 | .any=>λxs H Q=>∃(a:YT) (bs:List Bool),xs=[.ref a]/\SqL K H a (bs.map V.bl)/\Q (.bl (bs.any id)) H
 | .sorted=>λxs H Q=>∃ p ns,xs=[.ref p]/\SqL K H p (ns.map V.int)/\ns.length<128/\∀ l,H l=none->Q (.ref l) (upd H l (.lst ((srt ns).map V.int)))
 | .isi=>λxs H Q=>(∃ x T t b,xs=[x,.ty T]/\TyOf K H x t/\PySem.W.kitOne K t (.type T)=some b/\Q (.bl b) H)\/(∃(x:V) (p:YT) (Ts:List String) (t:YQ) (b:Bool),xs=[x,.ref p]/\H p=some (.tup (Ts.map V.ty))/\TyOf K H x t/\PySem.W.kitAny K t (Ts.map Value.type)=some b/\Q (.bl b) H)
 | .str=>λxs H Q=>∃ x d,xs=[x]/\Dat H x d/\Fit d/\Q (.str (Es d)) H
 | .repr=>λ_ _ _=>False
theorem Qz{K:UL}:∀{b:BI},TC K (sBi b) (rBi K b)
 | .len=>λas H S xs vs Q ok r h=>by
   replace h:=Cp h;obtain⟨x,rfl,ys,h1,h2⟩:=h;obtain⟨v,rfl,r1⟩:=CO r;obtain⟨a,us,rfl,hq,rr⟩:=C5 ok r1 h1;exact⟨a,us,rfl,hq,by rw[rr.length];exact h2.here ok (rl_int.mpr rfl)⟩
 | .abs=>λas H S xs vs Q ok r h=>by
   replace h:=Cp h;obtain⟨x,rfl,h⟩:=h;replace h:=C6 h;obtain⟨i,rfl,h⟩:=h;obtain⟨v,rfl,r1⟩:=CO r;exact⟨_,by rw[rl_int.mp r1],Post.here h ok (rl_int.mpr rfl)⟩
 | .min=>λas H S xs vs Q ok r h=>by
   replace h:=LL h;obtain⟨x,y,rfl,h⟩:=h;replace h:=C6 h;obtain⟨i,rfl,h⟩:=h;replace h:=C6 h;obtain⟨j,rfl,h⟩:=h;obtain⟨v,u,rfl,r1,r2⟩:=Nu r;exact⟨_,_,by rw[rl_int.mp r1,rl_int.mp r2],Post.here h ok (rl_int.mpr rfl)⟩
 | .max=>λas H S xs vs Q ok r h=>by
   replace h:=LL h;obtain⟨x,y,rfl,h⟩:=h;replace h:=C6 h;obtain⟨i,rfl,h⟩:=h;replace h:=C6 h;obtain⟨j,rfl,h⟩:=h;obtain⟨v,u,rfl,r1,r2⟩:=Nu r;exact⟨_,_,by rw[rl_int.mp r1,rl_int.mp r2],Post.here h ok (rl_int.mpr rfl)⟩
 | .int=>λas H S xs vs Q ok r h=>by
   replace h:=Cp h;obtain⟨x,rfl,h⟩:=h;obtain⟨v,rfl,r1⟩:=CO r;replace h:=PV h;rcases h with⟨k,rfl,h⟩ | ⟨b,rfl,h⟩
   ·exact .inl ⟨_,by rw[rl_int.mp r1],Post.here h ok (rl_int.mpr rfl)⟩
   ·exact .inr ⟨_,by rw[rl_bl.mp r1],Post.here h ok (rl_int.mpr rfl)⟩
 | .list=>λas H S xs vs Q ok r h=>by
   replace h:=Cp h;obtain⟨x,rfl,ys,h1,h2⟩:=h;obtain⟨v,rfl,r1⟩:=CO r;obtain⟨a,us,rfl,hq,rr⟩:=C5 ok r1 h1;exact⟨a,us,rfl,hq,u7 ok rr h2⟩
 | .tuple=>λas H S xs vs Q ok r h=>by
   replace h:=Cp h;obtain⟨x,rfl,ys,h1,h2⟩:=h;obtain⟨v,rfl,r1⟩:=CO r;obtain⟨p,us,rfl,z⟩:=LM ok r1 h1 h2;exact⟨p,us,rfl,z⟩
 | .all=>λas H S xs vs Q ok r h=>by
   replace h:=Cp h;obtain⟨x,rfl,ys,bs,h0,h1,h2,h3⟩:=h;obtain⟨v,rfl,r1⟩:=CO r;obtain⟨a,us,rfl,hq,rr⟩:=AH ok r1 h0 h1;rw[GN h2 rr]at hq;exact⟨a,bs,rfl,hq,h3.here ok (rl_bl.mpr rfl)⟩
 | .any=>λas H S xs vs Q ok r h=>by
   replace h:=Cp h;obtain⟨x,rfl,ys,bs,h0,h1,h2,h3⟩:=h;obtain⟨v,rfl,r1⟩:=CO r;obtain⟨a,us,rfl,hq,rr⟩:=AH ok r1 h0 h1;rw[GN h2 rr]at hq;exact⟨a,bs,rfl,hq,h3.here ok (rl_bl.mpr rfl)⟩
 | .sorted=>λas H S xs vs Q ok r h=>by
   replace h:=Cp h;obtain⟨x,rfl,ys,ns,h0,h1,h2,h3,h4⟩:=h;obtain⟨v,rfl,r1⟩:=CO r;obtain⟨a,us,rfl,hq,rr⟩:=AH ok r1 h0 h1;rw[EI h2 rr]at hq;exact⟨a,ns,rfl,hq,h3,u7 ok RlAll.ints h4⟩
 | .isi=>λas H S xs vs Q ok r h=>by
   replace h:=LL h;obtain⟨x,y,rfl,h⟩:=h;obtain⟨v,u,rfl,r1,r2⟩:=Nu r;replace h:=PX h;rcases h with⟨t,a,rfl,h0,h1,h2⟩ | ⟨ts,a,bs,rfl,h0,h1,h2,h3⟩
   ·rw[rl_ty.mp r2];exact .inl ⟨v,_,_,_,rfl,PY ok r1 h1,Hl _ _ h0,h2.here ok (rl_bl.mpr rfl)⟩
   ·obtain⟨p,vs,rfl,hp,rr⟩:=rl_tup.mp r2;rw[LN h2 rr]at hp;exact .inr ⟨v,p,_,_,_,rfl,hp,PY ok r1 h1,Hm _ _ h0,h3.here ok (rl_bl.mpr rfl)⟩
 | .str=>λas H S xs vs Q ok r h=>by
   replace h:=Cp h;obtain⟨x,rfl,d,h1,h2,h3⟩:=h;obtain⟨v,rfl,r1⟩:=CO r;exact⟨v,d,rfl,Qy ok 20 h1 r1,h2,h3.here ok (rl_str.mpr rfl)⟩
 | .repr=>λ_ _ _ _ _ _ _ _ h=>False.elim h
inductive MT where
 | append | pop | insert
 deriving DecidableEq
noncomputable def MT.name:MT->Str
 | .append=>"append" | .pop=>"pop" | .insert=>"insert"
noncomputable def oL(f:Nat->Sto->QE->Prop):S1:=λx S Q=>match x with | .loc k=>f k S Q | _=>False
theorem JF{f:Nat->Sto->QE->Prop}{x:SV}{S:Sto}{Q:QE}(h:oL f x S Q):∃ k,x = .loc k/\f k S Q:=match x,h with | .loc k,h=>⟨k,rfl,h⟩
noncomputable def PZ:Nat->Sto->QE->Prop:=λk S Q=>∃ xs y,S[k]?=some (.lst xs)/\xs[xs.length - 1]?=some y/\Q y (S.set k (.lst xs.dropLast))
noncomputable def Pa(k:Nat):Int->Sto->QE->Prop:=λi S Q=>∃ xs y,S[k]?=some (.lst xs)/\(0<=i/\i<xs.length)/\xs.length<=big/\xs[i.toNat]?=some y/\Q y (S.set k (.lst (xs.eraseIdx i.toNat)))
noncomputable def Pb(y:SV):Nat->Sto->QE->Prop:=λk S Q=>oI (Pa k) y S Q
noncomputable def TL(x:SV):Sn:=λxs S Q=>match xs with
 | []=>oL PZ x S Q
 | [y]=>oL (Pb y) x S Q
 | _=>False
noncomputable def Nv(x:SV):S1:=λy S Q=>oL (λk S Q=>∃ xs,S[k]?=some (.lst xs)/\xs.length<big/\Q .non (S.set k (.lst (xs++[y])))) x S Q
noncomputable def Nw(x:SV):S2:=λz y S Q=>oL (λk S Q=>oI (λi S Q=>∃ xs,S[k]?=some (.lst xs)/\(0<=i/\i<=xs.length)/\xs.length<big/\Q .non (S.set k (.lst (xs.take i.toNat++y::xs.drop i.toNat)))) z S Q) x S Q
noncomputable def sMt:MT->SV->Sn
 | .append,x=>a1 (Nv x)
 | .pop,x=>TL x
 | .insert,x=>a2 (Nw x)
theorem Pc{x:SV}{xs:List SV}{S:Sto}{Q:QE}(h:TL x xs S Q):∃ k,x = .loc k/\((xs=[]/\∃ xs y,S[k]?=some (.lst xs)/\xs[xs.length - 1]?=some y/\Q y (S.set k (.lst xs.dropLast)))\/
 ∃ i,xs=[.int i]/\∃ xs y,S[k]?=some (.lst xs)/\(0<=i/\i<xs.length)/\xs.length<=big/\xs[i.toNat]?=some y/\Q y (S.set k (.lst (xs.eraseIdx i.toNat)))):=match xs,h with
 | [],h=>by
   have h:oL PZ x S Q:=h;obtain⟨k,e,h⟩:=JF h;exact⟨k,e,.inl ⟨rfl,h⟩⟩
 | [y],h=>by
   have h:oL (Pb y) x S Q:=h;obtain⟨k,e,h⟩:=JF h;have h:oI (Pa k) y S Q:=h;obtain⟨i,e2,h⟩:=C6 h;exact⟨k,e,.inr ⟨i,by rw[e2],h⟩⟩
theorem EK:∀{m:MT} {x:SV},MonoN (sMt m x)
 | .append,x=>A5 λy S P P' i h=>by
   replace h:=JF h;obtain⟨k,rfl,a,c,d,e⟩:=h;exact⟨a,c,d,i _ _ e⟩
 | .pop,x=>λxs S P P' i h=>by
   replace h:=Pc h;obtain⟨k,rfl,h⟩:=h;rcases h with⟨rfl,a,c,d,e,f⟩ | ⟨j,rfl,a,c,d,e,f,g,h⟩
   ·exact⟨a,c,d,e,i _ _ f⟩
   ·exact⟨a,c,d,e,f,g,i _ _ h⟩
 | .insert,x=>CT λz y S P P' i h=>by
   replace h:=JF h;obtain⟨k,rfl,h⟩:=h;replace h:=C6 h;obtain⟨j,rfl,a,c,d,e,f⟩:=h;exact⟨a,c,d,e,i _ _ f⟩
noncomputable def rMt:MT->V->List V->Hp->VK->Prop
 | .append=>HW
 | .pop=>λx vs H Q=>SW x vs H Q\/KN x vs H Q
 | .insert=>HX
section
variable{K:UL}{as:List YT}{H:Hp}{S:Sto}
theorem RlAll.erase:∀{xs:List SV} {vs:List V} (n:Nat),RlAll K as H vs xs->RlAll K as H (vs.eraseIdx n) (xs.eraseIdx n)
 | [],_,n,h=>by rw[rla_nil.mp h];exact .nil
 | x::xs,_,0,h=>by
   obtain⟨v,r,rfl,a,t⟩:=rla_cons.mp h;exact t
 | x::xs,_,n+1,h=>by
   obtain⟨v,r,rfl,a,t⟩:=rla_cons.mp h;exact .cons a (t.erase n)
theorem RlAll.dropLast{xs:List SV}{vs:List V}(h:RlAll K as H vs xs):RlAll K as H vs.dropLast xs.dropLast:=by
 rw[XJ,XJ,h.length];exact h.take _
theorem Aw{Q:VK}{k:Nat}{a:YT}{xs ys:List SV}{us:List V}{x:SV}{v:V}(ok:Ok K as H S)(e:S[k]?=some (.lst xs))(ea:as[k]?=some a)(r:RlAll K as H us ys)(h:Post K as H Q x (S.set k (.lst ys)))(rx:Rl K as H v x):Q v (upd H a (.lst us)):=by
 obtain⟨ok',ku⟩:=ok.write e ea r;exact h as _ v (Go.write (UO ea)) ok' (Rl.mono (Ur _) ku x v rx)
theorem LO:∀{m:MT} {Q:VK} {x:SV} {v:V} {xs:List SV} {vs:List V} (ok:Ok K as H S) (rx:Rl K as H v x) (r:RlAll K as H vs xs) (h:sMt m x xs S (Post K as H Q)),rMt m v vs H Q
 | .append,Q,x,v,xs,vs,ok,rx,r,h=>by
   replace h:=Cp h;obtain⟨y,rfl,h⟩:=h;replace h:=JF h;obtain⟨k,rfl,ys,h1,h2,h3⟩:=h;obtain⟨a,us,rfl,ea,ha,ra⟩:=v7 ok rx h1;obtain⟨u,rfl,ru⟩:=CO r;exact⟨a,us,u,rfl,rfl,ha,by rw[ra.length];exact Cn h2,Aw ok h1 ea (ra.append (.cons ru .nil)) h3 (rl_non.mpr rfl)⟩
 | .pop,Q,x,v,xs,vs,ok,rx,r,h=>by
   replace h:=Pc h;obtain⟨k,rfl,h⟩:=h;rcases h with⟨rfl,ys,y,h1,h2,h3⟩ | ⟨i,rfl,ys,y,h1,h2,h3,h4,h5⟩
   ·obtain⟨a,us,rfl,ea,ha,ra⟩:=v7 ok rx h1;obtain⟨z,hz,rz⟩:=ra.get h2;rw[rla_nil.mp r];exact .inl ⟨a,us,z,rfl,rfl,ha,by rw[ra.length];exact hz,Aw ok h1 ea ra.dropLast h3 rz⟩
   ·obtain⟨a,us,rfl,ea,ha,ra⟩:=v7 ok rx h1;obtain⟨u,rfl,ru⟩:=CO r;obtain⟨z,hz,rz⟩:=ra.get h4;rw[rl_int.mp ru];have hb:big=100000:=rfl;refine .inr ⟨a,us,i,i.toNat,z,rfl,rfl,ha,by omega,by omega,?_,hz,Aw ok h1 ea (ra.erase _) h5 rz⟩;rw[ra.length];exact PySem.seqIndex_of h2.1 h2.2
 | .insert,Q,x,v,xs,vs,ok,rx,r,h=>by
   replace h:=LL h;obtain⟨z,y,rfl,h⟩:=h;replace h:=JF h;obtain⟨k,rfl,h⟩:=h;replace h:=C6 h;obtain⟨i,rfl,ys,h1,h2,h3,h4⟩:=h;obtain⟨a,us,rfl,ea,ha,ra⟩:=v7 ok rx h1;obtain⟨u,w,rfl,ru,rw'⟩:=Nu r;rw[rl_int.mp ru];exact⟨a,us,i,w,rfl,rfl,ha,h2.1,by rw[ra.length];exact h2.2,by rw[ra.length];exact Cn h3,Aw ok h1 ea (ra.ins rw' _) h4 (rl_non.mpr rfl)⟩
end
mutual
inductive Tg where
 | nm (i:Nat) | tup (ts:Tgs)
inductive Tgs where
 | nil | cons (t:Tg) (ts:Tgs)
end
mutual
inductive Ex where
 | var (i:Nat) | c (x:SV) | op (o:Zm) (a b:Ex) | neg (a:Ex) | cmp (o:CmpOp) (a b:Ex) | chn (o p:CmpOp) (a b c:Ex)
 | and (a b:Ex) | or (a b:Ex) | not (a:Ex) | ife (t a b:Ex) | tup (es:Exs) | lst (es:Exs) | ix (a b:Ex)
 | call (f:Nat) (es:Exs) | bi (b:BI) (es:Exs) | mt (m:MT) (a:Ex) (es:Exs) | comp (own cn:List Str) (js:List Nat) (g:Tg) (it:Itb) (t:Eo) (e:Ex) | tyc (t:TyN) | lrng1 (a:Ex) | rev (a:Ex) | dvals (a:Ex) | srtset (a:Ex) | dnew | dget (a b:Ex) | srtk (x:Str) (lp:Pos) (j:Nat) (y:Str) (cn:List Str) (js:List Nat) (a e:Ex) | dget0 (d e:Ex) | dget2 (d e v:Ex) | lstd (a:Ex) | no
inductive Exs where
 | nil | cons (e:Ex) (es:Exs)
inductive Eo where
 | no | yes (e:Ex)
inductive Itb where
 | seq (e:Ex) | rng1 (a:Ex) | enum (e:Ex)
end
inductive Stm where
 | asg (t:Tg) (e:Ex) | put (o i e:Ex) | dput (o i e:Ex) | expr (e:Ex) | iff (t:Ex) (a b:List Stm) | loop (g:Tg) (it:Itb) (b:List Stm) | whl (t:Ex) (b:List Stm)
 | ret (e:Ex) | no
noncomputable def sOp:Zm->S2
 | .Add=>LB
 | .Sub=>Bm λi j => .int (i - j)
 | .Mult=>LC
 | .FloorDiv=>GK SF λi j => .int (i / j)
 | .Mod=>GK (λ_ j=>0<j) λi j => .int (i % j)
 | .Pow=>GK SG λi j => .int (i ^ j.toNat)
 | _=>λ_ _ _ _=>False
noncomputable def Ax:CmpOp->S2
 | .Eq=>sEq
 | .NotEq=>sNe
 | .Lt=>Bm λi j => .bl (decide (i<j))
 | .LtE=>Bm λi j => .bl (decide (i<=j))
 | .Gt=>Bm λi j => .bl (decide (j<i))
 | .GtE=>Bm λi j => .bl (decide (j<=i))
 | .In=>sIn false
 | .NotIn=>sIn true
 | .Is=>LF false
 | .IsNot=>LF true
noncomputable def LP:S1
 | .int i,S,Q=>Q (.int (-i)) S
 | _,_,_=>False
noncomputable def LQ:SV->Sto->Option Bool
 | .bl b,_=>some b
 | .tup xs,_=>some (!xs.isEmpty)
 | .loc k,S=>match S[k]? with | some (.lst xs)=>some (!xs.isEmpty) | _=>none
 | _,_=>none
noncomputable def R0(w:WE):WT:=λρ S Q=>w ρ S λx S'=>∃ b,LQ x S'=some b/\Q b S'
noncomputable def LR(a b:WE):WE:=λρ S Q=>a ρ S λx S1=>∃ c,x = .bl c/\if c=true then b ρ S1 Q else Q (.bl false) S1
noncomputable def wOr(a b:WE):WE:=λρ S Q=>a ρ S λx S1=>∃ c,x = .bl c/\if c=true then Q (.bl true) S1 else b ρ S1 Q
noncomputable def Nx(a:WE):WE:=λρ S Q=>a ρ S λx S1=>∃ c,x = .bl c/\Q (.bl (!c)) S1
noncomputable def Cq(a b:WT):WT:=λρ S Q=>a ρ S λc S1=>if c=true then b ρ S1 Q else Q false S1
noncomputable def GO(a b:WT):WT:=λρ S Q=>a ρ S λc S1=>if c=true then Q true S1 else b ρ S1 Q
noncomputable def Hn(a:WT):WT:=λρ S Q=>a ρ S λc S1=>Q (!c) S1
noncomputable def Ny(t:WT)(a b:WE):WE:=λρ S Q=>t ρ S λc S1=>if c=true then a ρ S1 Q else b ρ S1 Q
noncomputable def LU(s s':S2)(a b c:WE):WE:=λρ S Q=>a ρ S λx S1=>b ρ S1 λy S2=>s x y S2 λz S3=>∃ k,z = .bl k/\if k=true then c ρ S3 λu S4=>s' y u S4 Q else Q (.bl false) S3
noncomputable abbrev WO:=EnvS->Sto->(Option Int->Sto->Prop)->Prop
noncomputable def R3:WO:=λ_ S Q=>Q none S
noncomputable def LV(w:WE):WO:=λρ S Q=>w ρ S λx S1=>∃ i,x = .int i/\Q (some i) S1
noncomputable abbrev WI:=EnvS->Sto->((Sto->Prop)->List SV->Sto->Prop)->Prop
noncomputable def Cr:SV->Sto->Sto->Prop
 | .loc k,S,S'=>S'[k]?=S[k]?
 | _,_,_=>True
noncomputable def Pd(w:WE):WI:=λρ S R=>w ρ S λx S1=>∃ xs,seqS x S1=some xs/\R (Cr x S1) xs S1
noncomputable def Ay(lo hi:Int):List SV:=(Uj (hi - lo).toNat).map λ(i:Nat) => .int (lo+i)
noncomputable def LW(w:WE):WI:=λρ S R=>w ρ S λx S1=>∃ j,x = .int j/\(-(2 ^ 62)<=j/\j<2 ^ 62)/\R (λ_=>True) (Ay 0 j) S1
noncomputable def B9(xs:List SV):List SV:=(Uj xs.length).zipWith (λ(i:Nat) x => .tup [.int i,x]) xs
noncomputable def LX(w:WE):WI:=λρ S R=>w ρ S λx S1=>∃ xs,seqS x S1=some xs/\R (Cr x S1) (B9 xs) S1
noncomputable def GP(a:WE):WE:=λρ S Q=>a ρ S λx S1=>∃ j,x = .int j/\(-(2 ^ 62)<=j/\j<=100000)/\Q (.loc S1.length) (S1++[.lst (Ay 0 j)])
noncomputable def Nz:S1
 | .loc k,S,Q=>∃ xs,S[k]?=some (.lst xs)/\Q (.loc S.length) (S++[.lst xs.reverse])
 | _,_,_=>False
noncomputable def JG(kvs:List (List Int×SV))(k:List Int):Option SV:=(kvs.find? λp=>decide (p.1=k)).map (·.2)
noncomputable def Pe(kvs:List (List Int×SV))(k:List Int)(x:SV):List (List Int×SV):=if (kvs.any λp=>decide (p.1=k))=true then kvs.map (λp=>if p.1=k then (p.1,x) else p) else kvs++[(k,x)]
noncomputable def LY(x:Str)(lp:Pos)(j:Nat)(js:List Nat)(a e:WE):WE:=λρ S Q=>a ρ S λv S1=>∃(xs:List SV) (kz:List Int),seqS v S1=some xs/\xs.length<128/\S1[j]?=some (.tbl x lp)/\kz.length=xs.length/\
 (∀(i:Nat) y z,xs[i]?=some y->kz[i]?=some z->e (some y::js.map λj=>(ρ[j]?).join) S1 λr S'=>r = .int z/\S'=S1)/\
 ∀ ys:List (Int×SV),ys.Perm (kz.zip xs)->(ys.map (·.1)).Pairwise (·<=·)->Q (.loc S1.length) (S1++[.lst (ys.map (·.2))])
noncomputable def EL(a:WE):WE:=λρ S Q=>a ρ S λx S1=>∃ xs ns,seqS x S1=some xs/\F0 xs=some ns/\ns.length<128/\Q (.loc S1.length) (S1++[.lst ((srt (CN ns)).map SV.int)])
noncomputable def Cs(kvs:List (Int×SV))(i:Int):Option SV:=(kvs.find? λp=>decide (p.1=i)).map (·.2)
noncomputable def Ct(kvs:List (Int×SV))(i:Int)(x:SV):List (Int×SV):=if (kvs.any λp=>decide (p.1=i))=true then kvs.map (λp=>if p.1=i then (p.1,x) else p) else kvs++[(i,x)]
noncomputable def Aa:SV->Sto->Option (List (Int×SV))
 | .loc k,S=>match S[k]? with | some (.dct kvs)=>some kvs | some (.dcf _ _ kvs)=>some kvs | _=>none
 | _,_=>none
noncomputable def GQ(d e:WE):WE:=λρ S Q=>d ρ S λx S1=>∃ k kv0,x = .loc k/\Aa x S1=some kv0/\e ρ S1 λy S2=>∃(i:Int) (kvs:List (Int×SV)),y = .int i/\Aa (.loc k) S2=some kvs/\Q ((Cs kvs i).getD .non) S2
noncomputable def GR(d e v:WE):WE:=λρ S Q=>d ρ S λx S1=>∃ k kv0,x = .loc k/\Aa x S1=some kv0/\e ρ S1 λy S2=>v ρ S2 λz S3=>∃(i:Int) (kvs:List (Int×SV)),y = .int i/\Aa (.loc k) S3=some kvs/\Q ((Cs kvs i).getD z) S3
noncomputable def LZ(a:WE):WE:=λρ S Q=>a ρ S λx S1=>∃ kvs,Aa x S1=some kvs/\Q (.loc S1.length) (S1++[.lst (kvs.map λp=>SV.int p.1)])
noncomputable def Ho:S2:=λx y S Q=>∃ kvs i v,Aa x S=some kvs/\y = .int i/\Cs kvs i=some v/\Q v S
noncomputable def GT(a:WE):WE:=λρ S Q=>a ρ S λx S1=>∃ kvs,Aa x S1=some kvs/\Q (.loc S1.length) (S1++[.lst (kvs.map (·.2))])
noncomputable def Li:WE:=λ_ S Q=>Q (.loc S.length) (S++[.dct []])
noncomputable def Hq:SV->SV->SV->Sto->(Sto->Prop)->Prop:=λx y v S Q=>∃ k i kvs,x = .loc k/\y = .int i/\(S[k]?=some (.dct kvs)\/∃ o ks,S[k]?=some (.dcf o ks kvs))/\kvs.length<big/\Q (S.set k (.dct (Ct kvs i v)))
noncomputable def wMt(m:MT)(a:WE)(b:WA):WE:=λρ S Q=>a ρ S λx S1=>(∃ k xs,x = .loc k/\S1[k]?=some (.lst xs))/\b ρ S1 λxs S2=>sMt m x xs S2 Q
mutual
noncomputable def wTg:Tg->SV->EnvS->(EnvS->Prop)->Prop
 | .nm i,x,ρ,Q=>Q (ρ.set i (some x))
 | .tup ts,.tup xs,ρ,Q=>AR ts xs ρ Q
 | .tup _,_,_,_=>False
noncomputable def AR:Tgs->List SV->EnvS->(EnvS->Prop)->Prop
 | .nil,[],ρ,Q=>Q ρ
 | .cons t ts,x::xs,ρ,Q=>wTg t x ρ λρ'=>AR ts xs ρ' Q
 | _,_,_,_=>False
end
noncomputable def F1(k:Nat)(js:List Nat)(ρ:EnvS):EnvS:=Ue k none++js.map λj=>(ρ[j]?).join
noncomputable abbrev WM(β:Type):=EnvS->β->Sto->(β->Sto->Prop)->Prop
noncomputable def wTG{β:Type}(keep:Sto->Prop)(g:Tg)(t:WT)(em:WM β)(ρ:EnvS)(Q:β->Sto->Prop):List SV->β->Sto->Prop
 | [],a,S=>keep S/\Q a S
 | x::xs,a,S=>keep S/\wTg g x ρ λρ2=>t ρ2 S λb S1=>if b=true then em ρ2 a S1 λa' S2=>wTG keep g t em ρ Q xs a' S2 else wTG keep g t em ρ Q xs a S1
noncomputable abbrev emL(e:WE):WM (List SV):=λρ ys S N=>e ρ S λy S2=>ys.length<big/\N (ys++[y]) S2
noncomputable abbrev wCG{β:Type}(k:Nat)(js:List Nat)(g:Tg)(i:WI)(t:WT)(em:WM β)(b0:β)(fin:QE->β->Sto->Prop):WE:=λρ S Q=>i ρ S λkeep xs S1=>wTG keep g t em (F1 k js ρ) (fin Q) xs b0 S1
noncomputable abbrev R5{β:Type}(o:β->SO):QE->β->Sto->Prop:=λQ b S=>Q (.loc S.length) (S++[o b])
noncomputable abbrev GU(keep:Sto->Prop)(g:Tg)(t:WT)(e:WE)(ρ:EnvS)(Q:List SV->Sto->Prop):=wTG keep g t (emL e) ρ Q
noncomputable abbrev wKL(k:Nat)(js:List Nat)(g:Tg)(i:WI)(t:WT)(em:WM (List SV)):WE:=λρ S Q=>i ρ S λkeep xs S1=>wTG keep g t em (F1 k js ρ) (λys S2=>Q (.loc S2.length) (S2++[.lst ys])) xs [] S1
noncomputable def tt1(w:WE):WE×WT:=(w,R0 w)
noncomputable def wBl(w:WE):WT:=λρ S Q=>w ρ S λx S'=>∃ b,x = .bl b/\Q b S'
noncomputable def tt2(w:WE):WE×WT:=(w,wBl w)
noncomputable def TM:WT:=λ_ S Q=>Q true S
mutual
noncomputable def wEx(Δ:Nat->Sn):Ex->WE×WT
 | .var i=>tt1 (Qn i)
 | .c x=>tt1 (wC x)
 | .op o a b=>tt1 (w2 (sOp o) (wEx Δ a).1 (wEx Δ b).1)
 | .neg a=>tt1 (w1 LP (wEx Δ a).1)
 | .cmp o a b=>tt2 (w2 (Ax o) (wEx Δ a).1 (wEx Δ b).1)
 | .chn o p a b c=>tt2 (LU (Ax o) (Ax p) (wEx Δ a).1 (wEx Δ b).1 (wEx Δ c).1)
 | .and a b=>(LR (wEx Δ a).1 (wEx Δ b).1,Cq (wEx Δ a).2 (wEx Δ b).2)
 | .or a b=>(wOr (wEx Δ a).1 (wEx Δ b).1,GO (wEx Δ a).2 (wEx Δ b).2)
 | .not a=>(Nx (wEx Δ a).1,Hn (wEx Δ a).2)
 | .ife t a b=>(Ny (wEx Δ t).2 (wEx Δ a).1 (wEx Δ b).1,λ_ _ _=>False)
 | .tup es=>tt1 (wn Ng (F2 Δ es))
 | .lst es=>tt1 (wn Nh (F2 Δ es))
 | .ix a b=>tt1 (w2 sIx (wEx Δ a).1 (wEx Δ b).1)
 | .call f es=>tt1 (wn (Δ f) (F2 Δ es))
 | .bi b es=>tt1 (wn (sBi b) (F2 Δ es))
 | .mt m a es=>tt1 (wMt m (wEx Δ a).1 (F2 Δ es))
 | .comp own _ js g it t e=>tt1 (wKL own.length js g (O9 Δ it) (wEo Δ t).2 (emL (wEx Δ e).1))
 | .tyc t=>tt1 (wC (.ty t))
 | .lrng1 a=>tt1 (GP (wEx Δ a).1)
 | .rev a=>tt1 (w1 Nz (wEx Δ a).1)
 | .dget0 d e=>tt1 (GQ (wEx Δ d).1 (wEx Δ e).1)
 | .dget2 d e v=>tt1 (GR (wEx Δ d).1 (wEx Δ e).1 (wEx Δ v).1)
 | .lstd a=>tt1 (LZ (wEx Δ a).1)
 | .srtk x lp j _ _ js a e=>tt1 (LY x lp j js (wEx Δ a).1 (wEx Δ e).1)
 | .dvals a=>tt1 (GT (wEx Δ a).1)
 | .srtset a=>tt1 (EL (wEx Δ a).1)
 | .dnew=>tt1 Li
 | .dget a b=>tt1 (w2 Ho (wEx Δ a).1 (wEx Δ b).1)
 | .no=>(λ_ _ _=>False,λ_ _ _=>False)
noncomputable def F2(Δ:Nat->Sn):Exs->WA
 | .nil=>Dm
 | .cons e es=>Cm (wEx Δ e).1 (F2 Δ es)
noncomputable def wEo(Δ:Nat->Sn):Eo->WO×WT
 | .no=>(R3,TM)
 | .yes e=>(LV (wEx Δ e).1,(wEx Δ e).2)
noncomputable def O9(Δ:Nat->Sn):Itb->WI
 | .seq e=>Pd (wEx Δ e).1
 | .rng1 a=>LW (wEx Δ a).1
 | .enum e=>LX (wEx Δ e).1
end
structure EndsS where
 nx:EnvS->Sto->Prop
 rt:SV->Sto->Prop
 bk:EnvS->Sto->Prop:=λ_ _=>False
 ct:EnvS->Sto->Prop:=λ_ _=>False
noncomputable abbrev WS:=EndsS->EnvS->Sto->Prop
noncomputable def JH:SV->SV->SV->Sto->(Sto->Prop)->Prop
 | .loc k,.int i,v,S,Q=>∃ xs j,S[k]?=some (.lst xs)/\ixN xs.length i=some j/\Q (S.set k (.lst (xs.set j v)))
 | _,_,_,_,_=>False
noncomputable def v8(keep:Sto->Prop)(g:Tg)(b:WS)(D:EndsS):List SV->EnvS->Sto->Prop
 | [],ρ,S=>keep S/\D.nx ρ S
 | x::xs,ρ,S=>keep S/\wTg g x ρ λρ2=>b {D with nx:=v8 keep g b D xs,ct:=v8 keep g b D xs,bk:=D.nx} ρ2 S
noncomputable def R6(t:WT)(b:WS):WS:=λD ρ S=>∃ W:Nat->EnvS->Sto->Prop,(∃ m,W m ρ S)/\∀ m ρ S,W m ρ S->t ρ S λc S1=>if c=true then
 b {D with nx:=λρ' S'=>∃ m',m'<m/\W m' ρ' S',ct:=λρ' S'=>∃ m',m'<m/\W m' ρ' S',bk:=D.nx} ρ S1 else D.nx ρ S1
mutual
noncomputable def wSt(Δ:Nat->Sn):Stm->WS
 | .asg t e=>λD ρ S=>(wEx Δ e).1 ρ S λx S1=>wTg t x ρ λρ'=>D.nx ρ' S1
 | .put o i e=>λD ρ S=>(wEx Δ e).1 ρ S λv S1=>(wEx Δ o).1 ρ S1 λx S2=>(wEx Δ i).1 ρ S2 λy S3=>JH x y v S3 λS4=>D.nx ρ S4
 | .dput o i e=>λD ρ S=>(wEx Δ e).1 ρ S λv S1=>(wEx Δ o).1 ρ S1 λx S2=>(wEx Δ i).1 ρ S2 λy S3=>Hq x y v S3 λS4=>D.nx ρ S4
 | .expr e=>λD ρ S=>(wEx Δ e).1 ρ S λ_ S1=>D.nx ρ S1
 | .iff t a b=>λD ρ S=>(wEx Δ t).2 ρ S λc S1=>if c=true then wSs Δ a D ρ S1 else wSs Δ b D ρ S1
 | .loop g it b=>λD ρ S=>O9 Δ it ρ S λkeep xs S1=>v8 keep g (wSs Δ b) D xs ρ S1
 | .whl t b=>R6 (wEx Δ t).2 (wSs Δ b)
 | .ret e=>λD ρ S=>(wEx Δ e).1 ρ S D.rt
 | .no=>λ_ _ _=>False
noncomputable def wSs(Δ:Nat->Sn):List Stm->WS
 | []=>λD ρ S=>D.nx ρ S
 | s::ss=>λD ρ S=>wSt Δ s {D with nx:=wSs Δ ss D} ρ S
end
theorem t5{α:Type}{P:Prop}{x:α}(h:(none:Option α)=some x):P:=nomatch h
noncomputable def Lj(scope sc:Yi):Yi:={scope with names:=scope.names.map λ(n,k)=>if (k == .free&&sc.kind == .function&&sc.names.lookup n == some .cell) then (n,.cell) else (n,k)}
noncomputable def f8:Expr->Bool
 | .Starred ..=>false
 | _=>true
theorem i8{e:Expr}{es:List Expr}{env:Env}(h:f8 e=true):Yg (e::es) env=(false,eval e env)::Yg es env:=by
 cases e<;>first | rfl | cases h
theorem Bn{env:Env}{pos:Pos}:∀{es:List Expr},es.all f8=true->(backTo pos (Yg es env)).any (·.1)=false
 | [],_=>rfl
 | e::es,h=>by
   rw[Vb,UN]at h;rw[i8 h.1];exact Bn (es:=es) h.2
theorem Dn{env:Env}{pos:Pos}:∀{es:List Expr},es.all f8=true->(backTo pos (Yg es env)).all (λx=>!x.1)=true
 | [],_=>rfl
 | e::es,h=>by
   rw[Vb,UN]at h;rw[i8 h.1];exact Dn (es:=es) h.2
noncomputable def glo(sc:Yi)(x:Str):Bool:=sc.names.lookup x == some .globalImplicit&&!(x == ("__name__":Str))&&!(x == ("__debug__":Str))
noncomputable def vis(sc:Yi)(x:Str):Bool:=sc.names.lookup x == some .local||sc.names.lookup x == some .cell||sc.names.lookup x == some .free
noncomputable def loc(sc:Yi)(x:Str):Bool:=sc.names.lookup x == some .local||sc.names.lookup x == some .cell
noncomputable def R7:SV->Const->Bool
 | .non,.none=>true
 | .bl a,.bool b=>a == b
 | .int i,.int j=>decide (i=j)
 | .str x,.str y=>decide (x=y)
 | _,_=>false
noncomputable def AB:Expr->Bool
 | .Slice ..=>false
 | _=>true
noncomputable def Az:Expr->Bool
 | .Set ..=>false
 | _=>true
noncomputable def GV:Expr->Bool
 | .UnaryOp .Not _ _=>false
 | .BoolOp ..=>false
 | .IfExp ..=>false
 | .Compare ..=>false
 | _=>true
noncomputable def A6:Expr->Bool
 | .Call (.Name _ _) [] [] _=>false
 | _=>true
noncomputable def Bo:Expr->Option Str
 | .Name x _=>some x
 | _=>none
noncomputable def GW:Expr->Option Const
 | .Constant k _ _=>some k
 | _=>none
noncomputable def TN:Expr->Option (Expr×Zm×Expr)
 | .BinOp a o b _=>some (a,o,b)
 | _=>none
noncomputable def vUn:Expr->Option (UnaryOp×Expr)
 | .UnaryOp o a _=>some (o,a)
 | _=>none
noncomputable def R8:Expr->Option (Expr×List CmpOp×List Expr)
 | .Compare a os bs _=>some (a,os,bs)
 | _=>none
noncomputable def Lk:Expr->Option (BoolOp×List Expr×Pos)
 | .BoolOp o vs p=>some (o,vs,p)
 | _=>none
noncomputable def TQ:Expr->Option (Expr×Expr×Expr)
 | .IfExp t a b _=>some (t,a,b)
 | _=>none
noncomputable def GX:Expr->Option (List Expr)
 | .Tuple es _ _=>some es
 | _=>none
noncomputable def TR:Expr->Option (List Expr)
 | .List es _=>some es
 | _=>none
noncomputable def JI:Expr->Option (Expr×Expr)
 | .Subscript a b _=>some (a,b)
 | _=>none
noncomputable def TU:Expr->Option (Option Expr×Option Expr×Option Expr)
 | .Slice l h s _=>some (l,h,s)
 | _=>none
noncomputable def Cu:Expr->Option (Expr×List Expr×List Keyword)
 | .Call f as ks _=>some (f,as,ks)
 | _=>none
noncomputable def GY:Expr->Nat
 | .Call _ _ _ p=>p.line
 | _=>0
noncomputable def Ll:Expr->Option (Expr×Str×Nat)
 | .Attribute o n p=>some (o,n,p.endLine)
 | _=>none
noncomputable def Pf:Expr->Option (Expr×List Zl×Yi)
 | .ListComp e gs s _=>some (e,gs,s)
 | _=>none
noncomputable def R9:Expr->Option (Str×Expr×Yi×Pos)
 | .Lambda ⟨[],[a],none,[],[],none,[]⟩ b s p=>some (a.arg,b,s,p)
 | _=>none
theorem OA{r:Expr}{x:Str×Expr×Yi×Pos}(h:R9 r=some x):∃ an ap,r = .Lambda ⟨[],[⟨x.1,an,ap⟩],none,[],[],none,[]⟩ x.2.1 x.2.2.1 x.2.2.2:=by
 unfold R9 at h;split at h
 ·rename_i a b s p;cases a;cases h;exact⟨_,_,rfl⟩
 ·exact t5 h
noncomputable def Pg:Expr->Option (List (Option Expr)×List Expr)
 | .Dict ks vs _=>some (ks,vs)
 | _=>none
theorem Lm{r:Expr}{x:List (Option Expr)×List Expr}(h:Pg r=some x):∃ p,r = .Dict x.1 x.2 p:=by cases r<;>first | (cases h;exact⟨_,rfl⟩) | exact t5 h
theorem BA{r:Expr}{x:Str}(h:Bo r=some x):∃ p,r = .Name x p:=by cases r<;>first | (cases h;exact⟨_,rfl⟩) | exact t5 h
theorem Do{r:Expr}{x:Const}(h:GW r=some x):∃ j p,r = .Constant x j p:=by cases r<;>first | (cases h;exact⟨_,_,rfl⟩) | exact t5 h
theorem OB{r:Expr}{x:Expr×Zm×Expr}(h:TN r=some x):∃ p,r = .BinOp x.1 x.2.1 x.2.2 p:=by cases r<;>first | (cases h;exact⟨_,rfl⟩) | exact t5 h
theorem GZ{r:Expr}{x:UnaryOp×Expr}(h:vUn r=some x):∃ p,r = .UnaryOp x.1 x.2 p:=by cases r<;>first | (cases h;exact⟨_,rfl⟩) | exact t5 h
theorem Hr{r:Expr}{x:Expr×List CmpOp×List Expr}(h:R8 r=some x):∃ p,r = .Compare x.1 x.2.1 x.2.2 p:=by cases r<;>first | (cases h;exact⟨_,rfl⟩) | exact t5 h
theorem F3{r:Expr}{x:BoolOp×List Expr×Pos}(h:Lk r=some x):r = .BoolOp x.1 x.2.1 x.2.2:=by cases r<;>first | (cases h;exact rfl) | exact t5 h
theorem OC{r:Expr}{x:Expr×Expr×Expr}(h:TQ r=some x):∃ p,r = .IfExp x.1 x.2.1 x.2.2 p:=by cases r<;>first | (cases h;exact⟨_,rfl⟩) | exact t5 h
theorem CU{r:Expr}{x:List Expr}(h:GX r=some x):∃ j p,r = .Tuple x j p:=by cases r<;>first | (cases h;exact⟨_,_,rfl⟩) | exact t5 h
theorem OD{r:Expr}{x:List Expr}(h:TR r=some x):∃ p,r = .List x p:=by cases r<;>first | (cases h;exact⟨_,rfl⟩) | exact t5 h
theorem Bp{r:Expr}{x:Expr×Expr}(h:JI r=some x):∃ p,r = .Subscript x.1 x.2 p:=by cases r<;>first | (cases h;exact⟨_,rfl⟩) | exact t5 h
theorem OE{r:Expr}{x:Option Expr×Option Expr×Option Expr}(h:TU r=some x):∃ p,r = .Slice x.1 x.2.1 x.2.2 p:=by cases r<;>first | (cases h;exact⟨_,rfl⟩) | exact t5 h
theorem Cv{r:Expr}{x:Expr×List Expr×List Keyword}(h:Cu r=some x):∃ p,r = .Call x.1 x.2.1 x.2.2 p/\GY r=p.line:=by cases r<;>first | (cases h;exact⟨_,rfl,rfl⟩) | exact t5 h
theorem Ln{r:Expr}{x:Expr×Str×Nat}(h:Ll r=some x):∃ p,r = .Attribute x.1 x.2.1 p/\x.2.2=p.endLine:=by cases r<;>first | (cases h;exact⟨_,rfl,rfl⟩) | exact t5 h
theorem Lo{r:Expr}{x:Expr×List Zl×Yi}(h:Pf r=some x):∃ p,r = .ListComp x.1 x.2.1 x.2.2 p:=by cases r<;>first | (cases h;exact⟨_,rfl⟩) | exact t5 h
theorem a8{α:Type}{o:Option α}{p:α->Bool}(h:o.any p=true):∃ x,o=some x/\p x=true:=by
 cases o with
 | none=>cases h
 | some x=>exact⟨x,rfl,h⟩
theorem AU{α:Type}{l:List α}{x:α}(h:l.head?=some x):l=x::l.tail:=by
 cases l with
 | nil=>cases h
 | cons y r=>cases h;rfl
noncomputable def l1{α:Type}:List α->Option α
 | [x]=>some x
 | _=>none
noncomputable def l2{α:Type}:List α->Option (α×α)
 | [x,y]=>some (x,y)
 | _=>none
theorem y9{α:Type}{l:List α}{x:α}(h:l1 l=some x):l=[x]:=by
 match l,h with
 | [y],h=>cases h;rfl
theorem Lp{α:Type}{l:List α}{x:α×α}(h:l2 l=some x):l=[x.1,x.2]:=by
 match l,h with
 | [y,z],h=>cases h;rfl
noncomputable def l3{α:Type}:List α->Option (α×α×α)
 | [x,y,z]=>some (x,y,z)
 | _=>none
noncomputable def RA(r:Expr):Option (Str×List Expr×Keyword):=(Cu r).bind λc=>match c.2.2 with
 | [kw]=>(Bo c.1).map λx=>(x,c.2.1,kw)
 | _=>none
theorem OF{r:Expr}{x:Str×List Expr×Keyword}(h:RA r=some x):∃ p q,r = .Call (.Name x.1 p) x.2.1 [x.2.2] q:=by
 unfold RA at h;cases hc:Cu r with
 | none=>rw[hc]at h;cases h
 | some c=>
   rw[hc]at h;obtain⟨q,e,_⟩:=Cv hc;obtain⟨f,as,ks⟩:=c
   match ks,h with
   | [kw],h=>
     replace h:(Bo f).map (λx=>(x,as,kw))=some x:=h;cases hn:Bo f with
     | none=>rw[hn]at h;cases h
     | some nm=>
       rw[hn]at h;cases h;obtain⟨p,e2⟩:=BA hn;exact⟨p,q,by rw[e,e2]⟩
   | [],h=>cases h
   | _::_::_,h=>cases h
noncomputable def vFn(r:Expr):Option (Str×List Expr):=(Cu r).bind λc=>if c.2.2.isEmpty then (Bo c.1).map λx=>(x,c.2.1) else none
theorem Ab{r:Expr}{x:Str×List Expr}(h:vFn r=some x):∃ p q,r = .Call (.Name x.1 p) x.2 [] q:=by
 unfold vFn at h;cases hc:Cu r with
 | none=>rw[hc]at h;cases h
 | some c=>
   rw[hc]at h;obtain⟨q,e,_⟩:=Cv hc;simp only[X7]at h;by_cases hk:c.2.2.isEmpty=true
   ·rw[iP hk]at h;cases hn:Bo c.1 with
    | none=>rw[hn]at h;cases h
    | some y=>
      rw[hn]at h;cases h;obtain⟨p,ep⟩:=BA hn;rw[e,ep,VB.mp hk];exact⟨p,q,rfl⟩
   ·rw[iG hk]at h;cases h
noncomputable def vMt(r:Expr):Option (Expr×Str×List Expr):=(Cu r).bind λc=>if c.2.2.isEmpty then (Ll c.1).bind λa=>if a.2.2 == GY r then some (a.1,a.2.1,c.2.1) else none else none
theorem EM{r:Expr}{x:Expr×Str×List Expr}(h:vMt r=some x):∃ ap cp,r = .Call (.Attribute x.1 x.2.1 ap) x.2.2 [] cp/\(ap.endLine == cp.line)=true:=by
 unfold vMt at h;cases hc:Cu r with
 | none=>rw[hc]at h;cases h
 | some c=>
   rw[hc]at h;obtain⟨q,e,el⟩:=Cv hc;simp only[X7]at h;by_cases hk:c.2.2.isEmpty=true
   ·rw[iP hk]at h;cases hn:Ll c.1 with
    | none=>rw[hn]at h;cases h
    | some y=>
      rw[hn]at h;simp only[X7]at h;obtain⟨p,ep,el2⟩:=Ln hn;by_cases hl:(y.2.2 == GY r)=true
      ·rw[iP hl]at h;cases h;refine⟨p,q,?_,?_⟩
       ·rw[e,ep,VB.mp hk]
       ·rw[<-el2,<-el];exact hl
      ·rw[iG hl]at h;cases h
   ·rw[iG hk]at h;cases h
mutual
noncomputable def BR(k:Nat)(N:List Str)(sc:Yi):Tg->Expr->Bool
 | .nm i,r=>(Bo r).any λx=>decide (i<k)&&decide (N[i]?=some x)&&loc sc x
 | .tup ts,r=>(GX r).any λes=>AL k N sc ts es
noncomputable def AL(k:Nat)(N:List Str)(sc:Yi):Tgs->List Expr->Bool
 | .nil,r=>r.isEmpty
 | .cons t ts,r=>(r.head?).any λe=>BR k N sc t e&&f8 e&&AL k N sc ts r.tail
end
noncomputable def nmB(N:List Str)(sc:Yi)(i:Nat)(x:Str):Bool:=decide (N[i]?=some x)&&vis sc x&&!(x == ("__debug__":Str))&&!(x == ("__classdict__":Str))
mutual
noncomputable def j5(T:List Str)(N:List Str)(sc:Yi):Ex->Expr->Bool
 | .var i,r=>(Bo r).any λx=>nmB N sc i x
 | .c x,r=>(GW r).any λk=>R7 x k
 | .op o a b,r=>(TN r).any λv=>decide (o=v.2.1)&&j5 T N sc a v.1&&j5 T N sc b v.2.2
 | .neg a,r=>(vUn r).any λv=>decide (v.1 = .USub)&&j5 T N sc a v.2
 | .cmp o a b,r=>(R8 r).any λv=>(l1 v.2.2).any λrb=>decide (v.2.1=[o])&&j5 T N sc a v.1&&j5 T N sc b rb&&Az rb
 | .chn o p a b c,r=>(R8 r).any λv=>(l2 v.2.2).any λrs=>decide (v.2.1=[o,p])&&j5 T N sc a v.1&&j5 T N sc b rs.1&&j5 T N sc c rs.2&&Az rs.2
 | .and a b,r=>(Lk r).any λv=>decide (v.1 = .And)&&(v.2.1.head?).any λx=>j5 T N sc a x&&(match l1 v.2.1.tail with | some y=>j5 T N sc b y | none=>decide (2<=v.2.1.tail.length)&&j5 T N sc b (.BoolOp .And v.2.1.tail v.2.2))
 | .or a b,r=>(Lk r).any λv=>decide (v.1 = .Or)&&(v.2.1.head?).any λx=>j5 T N sc a x&&(match l1 v.2.1.tail with | some y=>j5 T N sc b y | none=>decide (2<=v.2.1.tail.length)&&j5 T N sc b (.BoolOp .Or v.2.1.tail v.2.2))
 | .not a,r=>(vUn r).any λv=>decide (v.1 = .Not)&&j5 T N sc a v.2
 | .ife t a b,r=>(TQ r).any λv=>j5 T N sc t v.1&&j5 T N sc a v.2.1&&j5 T N sc b v.2.2
 | .tup es,r=>(GX r).any λrs=>Am T N sc es rs
 | .lst es,r=>(TR r).any λrs=>Am T N sc es rs
 | .ix a b,r=>(JI r).any λv=>j5 T N sc a v.1&&j5 T N sc b v.2&&AB v.2
 | .call f es,r=>(vFn r).any λv=>decide (f+1<T.length/\T[f]?=some v.1)&&glo sc v.1&&Am T N sc es v.2&&!v.2.isEmpty
 | .bi b es,r=>(vFn r).any λv=>decide (b.name=v.1)&&glo sc v.1&&Am T N sc es v.2&&!v.2.isEmpty
 | .mt m a es,r=>(vMt r).any λv=>decide (v.2.1=m.name)&&A6 v.1&&decide (v.2.2.length<29)&&j5 T N sc a v.1&&Am T N sc es v.2.2
 | .comp own cn js g it t e,r=>(Pf r).any λv=>(l1 v.2.1).any λc=>decide (c.is_async=0)&&v6 sc v.2.2 own cn N js&&BR own.length (own++cn) (Lj v.2.2 sc) g c.target&&RC T N sc it c.target c.iter&&Az c.iter&&Hs T (own++cn) (Lj v.2.2 sc) t c.ifs&&j5 T (own++cn) (Lj v.2.2 sc) e v.1
 | .tyc t,r=>(Bo r).any λx=>decide (x=Str.ofString t.nm)&&glo sc x&&decide (t ≠ .none)
 | .lrng1 a,r=>(vFn r).any λv=>(l1 v.2).any λz=>(vFn z).any λu=>(l1 u.2).any λra=>decide (v.1=("list":Str))&&decide (u.1=("range":Str))&&glo sc v.1&&glo sc u.1&&j5 T N sc a ra&&f8 ra
 | .rev a,r=>(JI r).any λv=>(TU v.2).any λs=>s.1.isNone&&s.2.1.isNone&&s.2.2.any λst=>(vUn st).any λu=>decide (u.1 = .USub)&&(GW u.2).any λc=>decide (c = .int 1)&&j5 T N sc a v.1
 | .srtk x lp j y cn js a e,r=>(RA r).any λv=>(l1 v.2.1).any λra=>(R9 v.2.2.value).any λl=>decide (v.1=("sorted":Str))&&glo sc v.1&&j5 T N sc a ra&&f8 ra&&decide (v.2.2.arg=some ("key":Str))&&decide (T.getLast?=some x)&&decide (l.1=y)&&decide (l.2.2.2=lp)&&BQ sc l.2.2.1 [y] cn N js&&j5 [] (y::cn) l.2.2.1 e l.2.1
 | .dvals a,r=>(vFn r).any λv=>(l1 v.2).any λz=>(vMt z).any λu=>decide (v.1=("list":Str))&&glo sc v.1&&decide (u.2.1=("values":Str))&&u.2.2.isEmpty&&A6 u.1&&j5 T N sc a u.1
 | .dget0 d e,r=>(vMt r).any λu=>(l1 u.2.2).any λra=>decide (u.2.1=("get":Str))&&A6 u.1&&j5 T N sc d u.1&&j5 T N sc e ra&&f8 ra
 | .dget2 d e v,r=>(vMt r).any λu=>(l2 u.2.2).any λra=>decide (u.2.1=("get":Str))&&A6 u.1&&j5 T N sc d u.1&&j5 T N sc e ra.1&&f8 ra.1&&j5 T N sc v ra.2&&f8 ra.2
 | .lstd a,r=>(vFn r).any λv=>(l1 v.2).any λra=>decide (v.1=("list":Str))&&glo sc v.1&&j5 T N sc a ra&&f8 ra
 | .srtset a,r=>(vFn r).any λv=>(l1 v.2).any λz=>(vFn z).any λu=>(l1 u.2).any λra=>decide (v.1=("sorted":Str))&&decide (u.1=("set":Str))&&glo sc v.1&&glo sc u.1&&j5 T N sc a ra&&f8 ra
 | .dnew,r=>(Pg r).any λv=>v.1.isEmpty&&v.2.isEmpty
 | .dget a b,r=>(JI r).any λv=>j5 T N sc a v.1&&j5 T N sc b v.2&&AB v.2
 | .no,_=>true
noncomputable def Am(T:List Str)(N:List Str)(sc:Yi):Exs->List Expr->Bool
 | .nil,r=>r.isEmpty
 | .cons e es,r=>(r.head?).any λx=>j5 T N sc e x&&f8 x&&Am T N sc es r.tail
noncomputable def RB(T:List Str)(N:List Str)(sc:Yi):Eo->Option Expr->Bool
 | .no,r=>r.isNone
 | .yes e,r=>r.any λx=>j5 T N sc e x
noncomputable def Hs(T:List Str)(N:List Str)(sc:Yi):Eo->List Expr->Bool
 | .no,r=>r.isEmpty
 | .yes e,r=>(l1 r).any λx=>j5 T N sc e x
noncomputable def RC(T:List Str)(N:List Str)(sc:Yi):Itb->Expr->Expr->Bool
 | .seq e,_,r=>j5 T N sc e r
 | .rng1 a,_,r=>(vFn r).any λv=>(l1 v.2).any λra=>decide (v.1=("range":Str))&&glo sc v.1&&j5 T N sc a ra&&f8 ra
 | .enum e,tg,r=>(GX tg).isSome&&(vFn r).any λv=>(l1 v.2).any λa=>decide (v.1=("enumerate":Str))&&glo sc v.1&&j5 T N sc e a&&f8 a
end
noncomputable def spS(K:UL)(w:Sn):Sp:=λvs H Q _=>∃ as S xs,Ok K as H S/\RlAll K as H vs xs/\w xs S (Post K as H Q)
structure Cal(P:YZ)(w:Yc)(K:UL)(mg:Str->Option YQ)(base:Heap)(k:Nat)(x:Str)(ps:List Str)(sp:Sp):Prop where
 ex:∃ f fd,FnOk P w K mg base CX0 k f fd ps sp/\mg x=some (.ref f)/\PySem.W.keepIn K (.ref f)=true/\Binds K fd ps []
noncomputable def Me(X:Cx)(x:Str):Prop:=X.env.qual=x++".<locals>."/\(∀ c P,TabK X.K x c P->X.env.code = .ref c)/\X.A.depth+2<ZE/\X.A.units+110<cLine
structure Cok(T:List Str)(Δ:Nat->Sn)(X:Cx)(k:Nat)(N:List Str)(sc:Yi):Prop where
 hN:X.N=N
 hs:X.env.scope=sc
 nd:N.Nodup
 calm:X.calm=true
 fn:∀ i x,i<k->N[i]?=some x->sc.names.lookup x=some .cell->X.fn x=true
 un:X.A.units+102<cLine
 bl:∀ b:BI,X.mg b.name=none
 rng:X.mg "range"=none
 enm:X.mg "enumerate"=none
 rvs:X.mg "reversed"=none
 zip:X.mg "zip"=none
 sm0:X.mg "sum"=none
 st0:X.mg "set"=none
 dc0:X.mg "dict"=none
 ty:∀ t:TyN,t ≠ .none->X.mg (Str.ofString t.nm)=none
 gd:X.A.guards=some []
 me:∀ x,T.getLast?=some x->Me X x
 call:∀ f x,f+1<T.length->T[f]?=some x->∃ k ps,Cal X.prog X.w X.K X.mg X.base k x ps (spS X.K (Δ f))/\Room k X.A
 mono:∀ f,MonoN (Δ f)
noncomputable def isCmp:Expr->Bool
 | .ListComp ..=>true
 | .DictComp ..=>true
 | _=>false
noncomputable def AsgC(X:Cx)(r:Expr)(w:WE):Prop:=∀(i:Nat) (x:Str) (px spos:Pos),X.N.Nodup->X.N[i]?=some x->X.env.scope.names.lookup x=some .local->Z8 r (some (.Name x px)) spos.line X.env=pure true->PS X (.Assign [.Name x px] r spos) (Fs (lift X.K w) (Ef i))
structure Good(X:Cx)(r:Expr)(w:WE×WT):Prop where
 pe:PE X r (lift X.K w.1)
 pt:PT X r (liftT X.K w.2)
 m:Mono w.1
 mt:MonoT w.2
 pw:∀ op vs p,r = .BoolOp op vs p->PW X r (liftT X.K w.2)
 cg:isCmp r=true->AsgC X r w.1:=by intro h;cases h
section
variable{X:Cx}{r:Expr}{w:WE}
theorem MonoT.tru(m:Mono w):MonoT (R0 w):=λρ S P P' i h=>m _ _ _ _ (λx S' ⟨b,e,q⟩=>⟨b,e,i _ _ q⟩) h
theorem MonoT.bl(m:Mono w):MonoT (wBl w):=λρ S P P' i h=>m _ _ _ _ (λx S' ⟨b,e,q⟩=>⟨b,e,i _ _ q⟩) h
theorem RD{K:UL}{as:List YT}{H:Hp}{S:Sto}{x:SV}{v:V}{b:Bool}(ok:Ok K as H S)(r:Rl K as H v x)(e:LQ x S=some b):NI K v H b:=by
 cases x with
 | bl c=>cases e;rw[rl_bl.mp r];exact rfl
 | tup xs=>
   cases e;obtain⟨p,vs,rfl,hp,rp⟩:=rl_tup.mp r;refine .inr (.inl ⟨vs,SqT.of hp,?_⟩);have:=rp.length;cases vs<;>cases xs<;>first | rfl | (simp at this)
 | loc k=>
   unfold LQ at e;cases hs:S[k]? with
   | none=>simp only[hs]at e;cases e
   | some o=>
     cases o with
     | lst xs=>
       simp only[hs]at e;cases e;obtain⟨a,vs,rfl,_,ha,rr⟩:=v7 ok r hs;refine .inl ⟨vs,SqL.of ha,?_⟩;have:=rr.length;cases vs<;>cases xs<;>first | rfl | (simp at this)
     | iset _=>simp only[hs]at e;cases e
     | dtl _=>simp only[hs]at e;cases e
     | dtf _ _ _=>simp only[hs]at e;cases e
     | dtp _=>simp only[hs]at e;cases e
     | dct _=>simp only[hs]at e;cases e
     | dcf _ _ _=>simp only[hs]at e;cases e
     | tbl _ _=>simp only[hs]at e;cases e
 | _=>cases e
theorem DU{env:Env}(h:GV r=true):∀ whole,isTrue r env whole=(do let v <- whole;standAt r.pos;holding [v] (truthy v)):=by
 intro whole;cases r<;>first | rfl | (cases h;done) | (rename_i o _ _;cases o<;>first | rfl | cases h)
theorem OG{K:UL}(m:Mono w):∀ σ H Q,liftT K (R0 w) σ H Q->lift K w σ H λx H'=>∃ k,NI K x H' k/\Q k H':=by
 rintro σ H Q ⟨as,ρ,S,ok,en,h⟩;exact⟨as,ρ,S,ok,en,m _ _ _ _ (λx S' ⟨b,e,q⟩ as' H' v g ok' r=>⟨b,RD ok' r e,q as' H' g ok'⟩) h⟩
theorem Lq{K:UL}(m:Mono w):∀ σ H Q,liftT K (wBl w) σ H Q->lift K w σ H λx H'=>∃ k,x = .bl k/\Q k H':=by
 rintro σ H Q ⟨as,ρ,S,ok,en,h⟩;exact⟨as,ρ,S,ok,en,m _ _ _ _ (λx S' ⟨b,e,q⟩ as' H' v g ok' r=>⟨b,by subst e;exact rl_bl.mp r,q as' H' g ok'⟩) h⟩
theorem Good.one(hp:PE X r (lift X.K w))(m:Mono w)(h:GV r=true)(hc:isCmp r=true->AsgC X r w:=by intro h;cases h):Good X r (tt1 w) where
 cg:=hc
 pe:=hp
 pt:=ED _ (KB hp (DU h)) (OG m)
 m:=m
 mt := .tru m
 pw:=λop vs p e=>by rw[e]at h;cases h
theorem Lr{X:Cx}{r:Expr}:PE X r (lift X.K λ_ _ _=>False):=λ_ _ _ _ _ _ h=>let ⟨_,_,_,_,_,z⟩:=h;z.elim
theorem F4{X:Cx}{r:Expr}:PT X r (liftT X.K λ_ _ _=>False):=λ_ _ _ _ _ _ h=>let ⟨_,_,_,_,_,z⟩:=h;z.elim
theorem Ls{X:Cx}{r:Expr}:PW X r (liftT X.K λ_ _ _=>False):=λ_ _ _ _ _ _ _ h=>let ⟨_,_,_,_,_,z⟩:=h;z.elim
theorem Good.never:Good X r (λ_ _ _=>False,λ_ _ _=>False):=⟨Lr,F4,λ_ _ _ _ _ h=>h,λ_ _ _ _ _ h=>h,λ_ _ _ _=>Ls,λ_ _ _ _ _ _ _ _ _ _ _ _ _ _ _ h=>let ⟨_,_,_,_,_,z⟩:=h;z.elim⟩
end
theorem Ht{o:Zm}:Mono2 (sOp o):=by
 unfold sOp;split<;>first | exact .add | exact .int0 | exact .mul | exact .int | exact λ_ _ _ _ _ _ h=>h
theorem AC{o:CmpOp}:Mono2 (Ax o):=by
 unfold Ax;split<;>first | exact .eq | exact .ne | exact .int0 | exact .in' | exact .isN
section
variable{X:Cx}
theorem Lu{o:Zm}{ra rb:Expr}{p:Pos}{wa wb:WE}(ha:PE X ra (lift X.K wa))(hb:PE X rb (lift X.K wb))(ma:Mono wa)(mb:Mono wb):PE X (.BinOp ra o rb p) (lift X.K (w2 (sOp o) wa wb)):=by
 have go:∀{s:S2} {rr:R2},Mono2 s->OpR X (ZH o) rr->BO X.K s rr->PE X (.BinOp ra o rb p) (lift X.K (w2 s wa wb)):=λms ho sim=>g8 _ (SD ho ha hb) (Bj sim ms ma mb);have no:PE X (.BinOp ra o rb p) (lift X.K (w2 (λ_ _ _ _=>False) wa wb)):=go (λ_ _ _ _ _ _ h=>h) (rr:=λ_ _ _ _=>False) (λ_ _ _ _ _ _ _ _ _ _ _ _ h=>h.elim) (λ_ _ _ _ _ _ _ _ _ _ _ h=>h);cases o with
 | Add=>exact go .add Nm Nn
 | Sub=>exact go .int0 QB (B8 λ_ _ _ _=>rl_int.mpr rfl)
 | Mult=>exact go .mul (op_mul.or QO) No
 | FloorDiv=>exact go .int NF (EH λ_ _ _ _=>rl_int.mpr rfl)
 | Mod=>exact go .int QC (EH λ_ _ _ _=>rl_int.mpr rfl)
 | Pow=>exact go .int QD (EH λ_ _ _ _=>rl_int.mpr rfl)
 | _=>exact no
theorem Cw(o:CmpOp)(hu:X.A.units<cLine):∃ rr:R2,OpR X (Yk o) rr/\BO X.K (Ax o) rr:=by
 cases o with
 | Eq=>exact⟨_,op_eq.or ((QR hu).or (Nk hu)),Qs⟩
 | NotEq=>exact⟨_,op_ne.or (QS hu),Qt⟩
 | Lt=>exact⟨_,SH,B8 λ_ _ _ _=>rl_bl.mpr rfl⟩
 | LtE=>exact⟨_,SJ,B8 λ_ _ _ _=>rl_bl.mpr rfl⟩
 | Gt=>exact⟨_,SK,B8 λ_ _ _ _=>rl_bl.mpr rfl⟩
 | GtE=>exact⟨_,SL,B8 λ_ _ _ _=>rl_bl.mpr rfl⟩
 | Is=>exact⟨_,QG,Nq⟩
 | IsNot=>exact⟨_,op_notN.or J1,LK⟩
 | In=>exact⟨_,Qv,LJ⟩
 | NotIn=>exact⟨_,JD,LJ⟩
theorem Cy{o:CmpOp}{r:Expr}(h:Az r=true):A0h o r=false:=by
 cases r<;>first | rfl | cases h
theorem JJ{o:CmpOp}{ra rb:Expr}{p:Pos}{wa wb:WE}(hu:X.A.units<cLine)(ha:PE X ra (lift X.K wa))(hb:PE X rb (lift X.K wb))(ma:Mono wa)(mb:Mono wb)(hn:Az rb=true):Good X (.Compare ra [o] [rb] p) (tt2 (w2 (Ax o) wa wb)):=by
 obtain⟨rr,ho,sim⟩:=Cw (X:=X) o hu;have m:Mono (w2 (Ax o) wa wb) := .two AC ma mb
 exact{pe:=g8 _ (NG ho ha hb (Cy hn)) (Bj sim AC ma mb)
       pt:=ED _ (NH ho ha hb (Cy hn)) λσ H Q h=>Bj sim AC ma mb σ H _ (Lq m σ H Q h)
       m:=m
       mt := .bl m
       pw:=λ_ _ _ e=>by cases e}
theorem F5{o p:CmpOp}{a b c:WE}(ma:Mono a)(mb:Mono b)(mc:Mono c):Mono (LU (Ax o) (Ax p) a b c):=λρ S P P' i h=>ma _ _ _ _ (λx S1 h=>mb _ _ _ _ (λy S2 h=>AC _ _ _ _ _ (λz S3 ⟨k,e,q⟩=>⟨k,e,by
 cases k with
 | true=>rw[iP rfl]at q ⊢;exact mc _ _ _ _ (λu S4 h=>AC _ _ _ _ _ i h) q
 | false=>rw[iG Ua]at q ⊢;exact i _ _ q⟩) h) h) h
theorem Hu{K:UL}{o p:CmpOp}{r r':R2}{a b c:WE}(s1:BO K (Ax o) r)(s2:BO K (Ax p) r')(ma:Mono a)(mb:Mono b)(mc:Mono c):∀ σ H Q,lift K (LU (Ax o) (Ax p) a b c) σ H Q->Fv r r' (lift K a) (lift K b) (lift K c) σ H Q:=by
 rintro σ H Q ⟨as,ρ,S,ok,en,h⟩;refine⟨as,ρ,S,ok,en,ma _ _ _ _ (λx S1 h as1 H1 v g1 ok1 rv=>?_) h⟩;refine⟨as1,ρ,S1,ok1,en.mono g1.pre (g1.ku ok),mb _ _ _ _ (λy S2 h as2 H2 u g2 ok2 ru=>?_) h⟩;refine s1 as2 H2 S2 x y v u _ ok2 (Rl.mono g2.pre (g2.ku ok1) x v rv) ru (AC _ _ _ _ _ (λz S3 ⟨k,e,q⟩ as3 H3 t g3 ok3 rt=>?_) h);subst e;refine⟨k,rl_bl.mp rt,?_⟩;cases k with
 | true=>
   rw[iP rfl]at q ⊢;refine⟨as3,ρ,S3,ok3,(en.mono g1.pre (g1.ku ok)).mono (g2.trans g3).pre ((g2.trans g3).ku ok1),mc _ _ _ _ (λn S4 h as4 H4 m g4 ok4 rm=>?_) q⟩;exact s2 as4 H4 S4 y n u m Q ok4 (Rl.mono (g3.trans g4).pre ((g3.trans g4).ku ok2) y u ru) rm (AC _ _ _ _ _ (λf S5 hf=>hf.mono (((g1.trans g2).trans g3).trans g4)) h)
 | false=>
   rw[iG Ua]at q ⊢;exact q as3 H3 _ ((g1.trans g2).trans g3) ok3 (rl_bl.mpr rfl)
theorem JK{o q:CmpOp}{ra rb rc:Expr}{p:Pos}{wa wb wc:WE}(hu:X.A.units<cLine)(ha:PE X ra (lift X.K wa))(hb:PE X rb (lift X.K wb))(hc:PE X rc (lift X.K wc))(ma:Mono wa)(mb:Mono wb)(mc:Mono wc)(hn:Az rc=true):Good X (.Compare ra [o,q] [rb,rc] p) (tt2 (LU (Ax o) (Ax q) wa wb wc)):=by
 obtain⟨r1,ho,sim⟩:=Cw (X:=X) o hu;obtain⟨r2,hq,sim2⟩:=Cw (X:=X) q hu;have m:Mono (LU (Ax o) (Ax q) wa wb wc):=F5 ma mb mc;have hm:A0Z [o,q] [rb,rc]=false:=Cy hn
 exact{pe:=g8 _ (K9 ho hq ha hb hc hm) (Hu sim sim2 ma mb mc)
       pt:=ED _ (KA ho hq ha hb hc hm) λσ H Q h=>Hu sim sim2 ma mb mc σ H _ (Lq m σ H Q h)
       m:=m
       mt := .bl m
       pw:=λ_ _ _ e=>by cases e}
end
section
variable{K:UL}
theorem m8{c:Bool}{A B A' B':Prop}(ha:A->A')(hb:B->B')(h:if c=true then A else B):if c=true then A' else B':=by
 cases c with
 | true=>rw[iP rfl]at h ⊢;exact ha h
 | false=>rw[iG Ua]at h ⊢;exact hb h
theorem Mono.and{a b:WE}(ma:Mono a)(mb:Mono b):Mono (LR a b):=λρ S P P' i h=>ma _ _ _ _ (λx S1 ⟨c,e,q⟩=>⟨c,e,m8 (mb _ _ _ _ i) (i _ _) q⟩) h
theorem Mono.or{a b:WE}(ma:Mono a)(mb:Mono b):Mono (wOr a b):=λρ S P P' i h=>ma _ _ _ _ (λx S1 ⟨c,e,q⟩=>⟨c,e,m8 (i _ _) (mb _ _ _ _ i) q⟩) h
theorem Mono.not{a:WE}(ma:Mono a):Mono (Nx a):=λρ S P P' i h=>ma _ _ _ _ (λx S1 ⟨c,e,q⟩=>⟨c,e,i _ _ q⟩) h
theorem MonoT.and{a b:WT}(ma:MonoT a)(mb:MonoT b):MonoT (Cq a b):=λρ S P P' i h=>ma _ _ _ _ (λx S1 q=>m8 (mb _ _ _ _ i) (i _ _) q) h
theorem MonoT.or{a b:WT}(ma:MonoT a)(mb:MonoT b):MonoT (GO a b):=λρ S P P' i h=>ma _ _ _ _ (λx S1 q=>m8 (i _ _) (mb _ _ _ _ i) q) h
theorem MonoT.not{a:WT}(ma:MonoT a):MonoT (Hn a):=λρ S P P' i h=>ma _ _ _ _ (λx S1 q=>i _ _ q) h
theorem Mono.ifE{t:WT}{a b:WE}(mt:MonoT t)(ma:Mono a)(mb:Mono b):Mono (Ny t a b):=λρ S P P' i h=>mt _ _ _ _ (λx S1 q=>m8 (ma _ _ _ _ i) (mb _ _ _ _ i) q) h
theorem Post.at{as as1:List YT}{H H1:Hp}{Q:VK}{x:SV}{S:Sto}{v:V}(h:Post K as H Q x S)(g:Go as H as1 H1)(ok:Ok K as1 H1 S)(r:Rl K as1 H1 v x):Q v H1:=h as1 H1 v g ok r
theorem Hv{a b:WE}(ma:Mono a)(mb:Mono b):∀ σ H Q,lift K (LR a b) σ H Q->P6 (lift K a) (lift K b) σ H Q:=by
 rintro σ H Q ⟨as,ρ,S,ok,en,h⟩;refine⟨as,ρ,S,ok,en,ma _ _ _ _ (λx S1 ⟨c,e,q⟩ as1 H1 v g1 ok1 rv=>?_) h⟩;subst e;refine⟨c,rl_bl.mp rv,m8 (λq=>?_) (λq=>q.at g1 ok1 (rl_bl.mpr rfl)) q⟩;exact⟨as1,ρ,S1,ok1,en.mono g1.pre (g1.ku ok),mb _ _ _ _ (λy S2 h=>h.mono g1) q⟩
theorem Lw{a b:WE}(ma:Mono a)(mb:Mono b):∀ σ H Q,lift K (wOr a b) σ H Q->Rt (lift K a) (lift K b) σ H Q:=by
 rintro σ H Q ⟨as,ρ,S,ok,en,h⟩;refine⟨as,ρ,S,ok,en,ma _ _ _ _ (λx S1 ⟨c,e,q⟩ as1 H1 v g1 ok1 rv=>?_) h⟩;subst e;refine⟨c,rl_bl.mp rv,m8 (λq=>q.at g1 ok1 (rl_bl.mpr rfl)) (λq=>?_) q⟩;exact⟨as1,ρ,S1,ok1,en.mono g1.pre (g1.ku ok),mb _ _ _ _ (λy S2 h=>h.mono g1) q⟩
theorem OH{a:WE}(ma:Mono a):∀ σ H Q,lift K (Nx a) σ H Q->P7 (lift K a) σ H Q:=by
 rintro σ H Q ⟨as,ρ,S,ok,en,h⟩;refine⟨as,ρ,S,ok,en,ma _ _ _ _ (λx S1 ⟨c,e,q⟩ as1 H1 v g1 ok1 rv=>?_) h⟩;subst e;exact⟨c,rl_bl.mp rv,q.at g1 ok1 (rl_bl.mpr rfl)⟩
theorem PostT.mono{as as1:List YT}{H H1:Hp}{Q:Bool->Hp->Prop}{x:Bool}{S:Sto}(h:PostT K as H Q x S)(g:Go as H as1 H1):PostT K as1 H1 Q x S:=λas' H' g'=>h as' H' (g.trans g')
theorem F6{a b:WT}(ma:MonoT a)(mb:MonoT b):∀ σ H Q,liftT K (Cq a b) σ H Q->Rq (liftT K a) (liftT K b) σ H Q:=by
 rintro σ H Q ⟨as,ρ,S,ok,en,h⟩;refine⟨as,ρ,S,ok,en,ma _ _ _ _ (λc S1 q as1 H1 g1 ok1=>?_) h⟩;refine m8 (λq=>?_) (λq=>q as1 H1 g1 ok1) q;exact⟨as1,ρ,S1,ok1,en.mono g1.pre (g1.ku ok),mb _ _ _ _ (λy S2 h=>h.mono g1) q⟩
theorem Hw{a b:WT}(ma:MonoT a)(mb:MonoT b):∀ σ H Q,liftT K (GO a b) σ H Q->tOr (liftT K a) (liftT K b) σ H Q:=by
 rintro σ H Q ⟨as,ρ,S,ok,en,h⟩;refine⟨as,ρ,S,ok,en,ma _ _ _ _ (λc S1 q as1 H1 g1 ok1=>?_) h⟩;refine m8 (λq=>q as1 H1 g1 ok1) (λq=>?_) q;exact⟨as1,ρ,S1,ok1,en.mono g1.pre (g1.ku ok),mb _ _ _ _ (λy S2 h=>h.mono g1) q⟩
theorem Lx{a:WT}(ma:MonoT a):∀ σ H Q,liftT K (Hn a) σ H Q->Rr (liftT K a) σ H Q:=by
 rintro σ H Q ⟨as,ρ,S,ok,en,h⟩;exact⟨as,ρ,S,ok,en,ma _ _ _ _ (λc S1 q as1 H1 g1 ok1=>q as1 H1 g1 ok1) h⟩
theorem OI{t:WT}{a b:WE}(mt:MonoT t)(ma:Mono a)(mb:Mono b):∀ σ H Q,lift K (Ny t a b) σ H Q->tIf (liftT K t) (lift K a) (lift K b) σ H Q:=by
 rintro σ H Q ⟨as,ρ,S,ok,en,h⟩;refine⟨as,ρ,S,ok,en,mt _ _ _ _ (λc S1 q as1 H1 g1 ok1=>?_) h⟩;refine m8 (λq=>?_) (λq=>?_) q
 ·exact⟨as1,ρ,S1,ok1,en.mono g1.pre (g1.ku ok),ma _ _ _ _ (λy S2 h=>h.mono g1) q⟩
 ·exact⟨as1,ρ,S1,ok1,en.mono g1.pre (g1.ku ok),mb _ _ _ _ (λy S2 h=>h.mono g1) q⟩
end
section
variable{X:Cx}
theorem EN{e:Expr}{t:TT}(t':TT)(h:PW X e t)(imp:∀ σ H Q,t' σ H Q->t σ H Q):PW X e t':=λwh pins s σ H Q I hw=>h wh pins s σ H Q I (imp σ H Q hw)
theorem Ga{x y:Expr}{p:Pos}{a b:WE×WT}(ha:Good X x a)(hb:Good X y b):Good X (.BoolOp .And [x,y] p) (LR a.1 b.1,Cq a.2 b.2):=
 have pw:PW X (.BoolOp .And [x,y] p) (liftT X.K (Cq a.2 b.2)):=EN _ (Ju ha.pt (N9 hb.pt)) (F6 ha.mt hb.mt)
 {pe:=g8 _ (Jw ha.pe (Jv hb.pe)) (Hv ha.m hb.m),pt:=pw.pt,m := .and ha.m hb.m,mt := .and ha.mt hb.mt,pw:=λ_ _ _ _=>pw}
theorem Gb{x y z:Expr}{zs:List Expr}{p:Pos}{a b:WE×WT}(ha:Good X x a)(hb:Good X (.BoolOp .And (y::z::zs) p) b):Good X (.BoolOp .And (x::y::z::zs) p) (LR a.1 b.1,Cq a.2 b.2):=
 have pw:PW X (.BoolOp .And (x::y::z::zs) p) (liftT X.K (Cq a.2 b.2)):=EN _ (Ju ha.pt (hb.pw _ _ _ rfl)) (F6 ha.mt hb.mt)
 {pe:=g8 _ (Jw ha.pe hb.pe) (Hv ha.m hb.m),pt:=pw.pt,m := .and ha.m hb.m,mt := .and ha.mt hb.mt,pw:=λ_ _ _ _=>pw}
theorem JL{x y:Expr}{p:Pos}{a b:WE×WT}(ha:Good X x a)(hb:Good X y b):Good X (.BoolOp .Or [x,y] p) (wOr a.1 b.1,GO a.2 b.2):=
 have pw:PW X (.BoolOp .Or [x,y] p) (liftT X.K (GO a.2 b.2)):=EN _ (P5 ha.pt (Q1 hb.pt)) (Hw ha.mt hb.mt)
 {pe:=g8 _ (P8 ha.pe (Jv hb.pe)) (Lw ha.m hb.m),pt:=pw.pt,m := .or ha.m hb.m,mt := .or ha.mt hb.mt,pw:=λ_ _ _ _=>pw}
theorem JM{x y z:Expr}{zs:List Expr}{p:Pos}{a b:WE×WT}(ha:Good X x a)(hb:Good X (.BoolOp .Or (y::z::zs) p) b):Good X (.BoolOp .Or (x::y::z::zs) p) (wOr a.1 b.1,GO a.2 b.2):=
 have pw:PW X (.BoolOp .Or (x::y::z::zs) p) (liftT X.K (GO a.2 b.2)):=EN _ (P5 ha.pt (hb.pw _ _ _ rfl)) (Hw ha.mt hb.mt)
 {pe:=g8 _ (P8 ha.pe hb.pe) (Lw ha.m hb.m),pt:=pw.pt,m := .or ha.m hb.m,mt := .or ha.mt hb.mt,pw:=λ_ _ _ _=>pw}
theorem JN{x:Expr}{p:Pos}{a:WE×WT}(ha:Good X x a):Good X (.UnaryOp .Not x p) (Nx a.1,Hn a.2) where
 pe:=g8 _ (Q3 ha.pe) (OH ha.m)
 pt:=ED _ (Q2 ha.pt) (Lx ha.mt)
 m := .not ha.m
 mt := .not ha.mt
 pw:=λ_ _ _ e=>by cases e
theorem JO{t x y:Expr}{p:Pos}{c a b:WE×WT}(hc:Good X t c)(ha:Good X x a)(hb:Good X y b):Good X (.IfExp t x y p) (Ny c.2 a.1 b.1,λ_ _ _=>False) where
 pe:=g8 _ (Jx hc.pt ha.pe hb.pe) (OI hc.mt ha.m hb.m)
 pt:=F4
 m := .ifE hc.mt ha.m hb.m
 mt:=λ_ _ _ _ _ h=>h
 pw:=λ_ _ _ e=>by cases e
theorem RE{i:Nat}{x:Str}{p:Pos}{N:List Str}{sc:Yi}{T:List Str}{Δ:Nat->Sn}{k:Nat}(C:Cok T Δ X k N sc)(hi:N[i]?=some x)(hv:vis sc x=true)(h1:(x == ("__debug__":Str))=false)(h2:(x == ("__classdict__":Str))=false):PE X (.Name x p) (N6 i):=by
 have hv':Vis X.env.scope x:=by
  rw[C.hs];unfold vis at hv;simp only[V8,beq_iff_eq]at hv;rcases hv with(hv | hv) | hv
  ·exact .inl hv
  ·exact .inr (.inl hv)
  ·exact .inr (.inr hv)
 exact Py (i:=i) (by rw[C.hN];exact hi) hv' h1 h2
theorem OJ{x:SV}{k:Const}{j:Nat}{p:Pos}(h:R7 x k=true):Good X (.Constant k j p) (tt1 (wC x)):=by
 refine .one ?_ .c rfl;unfold R7 at h;split at h
 ·exact g8 _ Pz (Ev λ_ _=>rl_non.mpr rfl)
 ·rw[beq_iff_eq]at h;subst h;exact g8 _ Rp (Ev λ_ _=>rl_bl.mpr rfl)
 ·have h:=of_decide_eq_true h;subst h;exact g8 _ Jt (Ev λ_ _=>rl_int.mpr rfl)
 ·have h:=of_decide_eq_true h;subst h;exact g8 _ Q0 (Ev λ_ _=>rl_str.mpr rfl)
 ·cases h
theorem Cz:Dl LP:=λx S P P' i h=>by
 unfold LP at h ⊢;split at h
 ·exact i _ _ h
 ·exact h.elim
theorem JP{x:Expr}{p:Pos}{a:WE×WT}(ha:Good X x a):Good X (.UnaryOp .USub x p) (tt1 (w1 LP a.1)):=by
 refine .one (g8 _ (P9 K7 ha.pe) (Qm (λas H S x v Q ok r h=>?_) Cz ha.m)) (.one Cz ha.m) rfl;unfold LP at h;split at h
 ·exact⟨_,rl_int.mp r,h.here ok (rl_int.mpr rfl)⟩
 ·exact h.elim
theorem D0{b:Expr}(h:AB b=true):HV b:=λo i=>by cases b<;>first | rfl | cases h
theorem Ly{x y:Expr}{p:Pos}{a b:WE×WT}(ha:Good X x a)(hb:Good X y b)(h:AB y=true):Good X (.Subscript x y p) (tt1 (w2 sIx a.1 b.1)):=
 .one (g8 _ (SS (ix_list.or QL) ha.pe hb.pe (D0 h)) (Bj Qw .ix ha.m hb.m)) (.two .ix ha.m hb.m) rfl
noncomputable def TV(K:UL)(as:List YT)(H:Hp)(Q:Option Int->Hp->Prop):Option Int->Sto->Prop:=λb S'=>∀ as' H',Go as H as' H'->Ok K as' H' S'->Q b H'
noncomputable def Lz(K:UL)(w:WO):St->Hp->(Option Int->Hp->Prop)->Prop:=λσ H Q=>∃ as ρ S,Ok K as H S/\EnvOk K as H σ ρ/\w ρ S (TV K as H Q)
noncomputable def MonoO(w:WO):Prop:=∀ ρ S (P P':Option Int->Sto->Prop),(∀ x S',P x S'->P' x S')->w ρ S P->w ρ S P'
theorem MonoO.no:MonoO R3:=λ_ _ _ _ i h=>i _ _ h
theorem MonoO.yes{w:WE}(m:Mono w):MonoO (LV w):=λ_ _ _ _ i h=>m _ _ _ _ (λx S1 ⟨k,e,q⟩=>⟨k,e,i _ _ q⟩) h
theorem TW:PO X none (Lz X.K R3):=λpins s σ H Q I ⟨as,ρ,S,ok,en,h⟩=>NL pins s σ H Q I (h as H (Go.refl _ _) ok)
theorem RF{x:Expr}{a:WE×WT}(ha:Good X x a):PO X (some x) (Lz X.K (LV a.1)):=λpins s σ H Q I ⟨as,ρ,S,ok,en,h⟩=>
 HR ha.pe pins s σ H Q I ⟨as,ρ,S,ok,en,ha.m _ _ _ _ (λy S1 ⟨k,e,q⟩ as1 H1 v g1 ok1 rv=>⟨k,by subst e;exact rl_int.mp rv,q as1 H1 g1 ok1⟩) h⟩
end
end Rf
namespace L2
open PySem PySem.Spec PyProof.Rows
noncomputable abbrev ZipL(h:Heap)(z TI TO:YT)(T:Nat)(b:Bool):Prop:=h.get? z=some {cls := .type "zip",dict:=none,data := .fields #[rawInt T,.bool b,.bool false,.ref TI,.ref TO],slots:=#[]}
structure StZ(z TI TO i1 i2 l1 l2 d:YT)(xs ys:Array YQ)(i:Nat)(h:Heap):Prop where
 zip:(i=0/\IsZip h z TI TO .none/\∃ a b,IsPair h TO a b)\/∃(T:Nat) (b:Bool) (o:Obj),ZipL h z TI TO T b/\h.get? T=some o/\T≠z/\T≠i1/\T≠i2/\T≠d
 ti:IsPair h TI (.ref i1) (.ref i2)
 w1:h.IsListIter i1 l1 i/\h.IsList l1 xs
 w2:h.IsListIter i2 l2 i/\h.IsList l2 ys
section
variable{prog:YZ}{w:Yc}{A:Yf}{E:YQ->YS->Prop}{s:YS}{z TI TO i1 i2 l1 l2 d:YT}{xs ys:Array YQ}{i:Nat}
theorem StZ.keep{h h':Heap}(st:StZ z TI TO i1 i2 l1 l2 d xs ys i h)(hd:d≠z/\d≠TO/\d≠i1/\d≠i2/\d≠TI/\d≠l1/\d≠l2)(k:∀ c o,c≠d->h.get? c=some o->h'.get? c=some o):StZ z TI TO i1 i2 l1 l2 d xs ys i h':=by
 obtain⟨a1,a2,a3,a4,a5,a6,a7⟩:=hd;refine⟨?_,k _ _ a5.symm st.ti,⟨st.w1.1.at λo e=>k _ o a3.symm e,st.w1.2.at λo e=>k _ o a6.symm e⟩,⟨st.w2.1.at λo e=>k _ o a4.symm e,st.w2.2.at λo e=>k _ o a7.symm e⟩⟩;rcases st.zip with⟨e,hz,a,b,hO⟩ | ⟨T,b,o,hz,ho,t1,t2,t3,t4⟩
 ·exact .inl ⟨e,k _ _ a1.symm hz,a,b,k _ _ a2.symm hO⟩
 ·exact .inr ⟨T,b,o,k _ _ a1.symm hz,k _ _ t4 ho,t1,t2,t3,t4⟩
end
section
variable{X:Cx}
noncomputable def JQ(K:UL)(te:TE):TE:=λσ H Q=>te σ H λx H1=>∃(p:YT) (ns:List Int),x = .ref p/\(SqL K H1 p (ns.map V.int)\/SqT K H1 p (ns.map V.int))/\ns.length<128/\∀ l,H1 l=none->Q (.ref l) (upd H1 l (.lst ((srt (CN ns)).map V.int)))
theorem F7{e:Expr}{te:TE}{p1 p2 pos1 pos2:Pos}(hc:X.calm=true)(hl:Gl X "sorted")(hml:X.mg "sorted"=none)(hs:Gl X "set")(hms:X.mg "set"=none)(he:PE X e te)
 (h1:Yg [e] X.env=(false,eval e X.env)::Yg [] X.env:=by rfl)
 (h2:Yg [.Call (.Name "set" p2) [e] [] pos2] X.env=(false,eval (.Call (.Name "set" p2) [e] [] pos2) X.env)::Yg [] X.env:=by rfl)
 (h3:(backTo pos1 (Yg [] X.env)).any (·.1)=false:=by rfl) (h4:(backTo pos2 (Yg [] X.env)).any (·.1)=false:=by rfl):
 PE X (.Call (.Name "sorted" p1) [.Call (.Name "set" p2) [e] [] pos2] [] pos1) (JQ X.K te):=by
 intro pins s σ H Q I h;refine Ys (At I hl hml J7 ?_ (by decide) (by decide));refine PyProof.Rows.callWith_builtin1 ?_ h2 h3;rw[h2];show YY _ _ (spliced ((false,eval (.Call (.Name "set" p2) [e] [] pos2) X.env)::backTo pos1 (Yg [] X.env))) _ _ s;refine Calls.spliced_cons ?_;refine Ys (At I hs hms b_set ?_ (by decide) (by decide));refine PyProof.Rows.callWith_type1 ?_ h1 h4;rw[h1];show YY _ _ (spliced ((false,eval e X.env)::backTo pos2 (Yg [] X.env))) _ _ s;refine Calls.spliced_cons (thn (he pins s σ H _ I h) λu s1 ⟨x,H1,I1,rx,p,ns,ex,hq,hb,q1⟩=>Calls.spliced_nil ?_);subst ex;cases rx;cases hq
 case' inl hq=>
  obtain⟨its,r',pl,hz⟩:=I1.list hq;have hlen:=r'.length;rw[UQ]at hlen;refine Su (items:=its.toArray) (ns:=ns) (I1.ok.hd hc) pl.isList (by simpa using AF r') (by simp only[UV];show its.length+1<4096;omega) λh' tk hX hk=>?_
 case' inr hq=>
  obtain⟨its,r',pl,hz⟩:=I1.tuple hq;have hlen:=r'.length;rw[UQ]at hlen;refine Qo (items:=its.toArray) (ns:=ns) (I1.ok.hd hc) pl (by simpa using AF r') (by simp only[UV];show its.length+1<4096;omega) λh' tk hX hk=>?_
 all_goals
  refine Calls.spliced_nil ?_;have k1:∀ b o,s1.heap.get? b=some o->h'.get? b=some o:=λb o e=>hk b o (UX e) e;have I2:Inv X pins σ H1 {s1 with heap:=h',toks:=tk}:=I1.kept k1
  have hX:SetX X.prog X.w h' s1.heap.objs.size (CN ns):=by
   have e:its.toArray.size=ns.length:=by rw[UV,hlen]
   rw[e]at hX;exact hX
  refine Na (s:={s1 with heap:=h',toks:=tk}) (I1.ok.hd hc) hX (Vh (Zh _ _) hb) λh3 tk3 d l out e k3 hz3 hl3 ho3=>?_;refine⟨.ref l,_,(I2.dr d).laid (h':=h3) (a:=l) (o := .lst ((srt (CN ns)).map V.int)) (t':=tk3) k3 hz3 (show ObjOk X.prog X.w _ _ _ (.lst ((srt (CN ns)).map V.int)) from ⟨?_,out.toList,e,C0 ho3,by simpa using hl3⟩),rfl,q1 l ((I2.dr d).hok.fresh hz3)⟩;rw[UQ,(Be _).length_eq];exact Vf (Ip (Ux (Zh _ _) (by omega)))
end
theorem KT.at{H:Hp}:∀{kvs:List (List Key×V)} {xs:List (List Key×YT×YQ)},KT H kvs xs->∀{i:Nat} {p:List Key×V},kvs[i]?=some p->∃ q,xs[i]?=some q/\H q.2.1=some (.tup (p.1.map kV))
 | _,_,.nil,_,_,h=>by simp at h
 | _,_,.cons a t,0,p,h=>by simp at h;subst h;exact⟨_,rfl,a.2.1⟩
 | _,_,.cons a t,i+1,p,h=>by
   obtain⟨q,e,z⟩:=KT.at t (i:=i) (p:=p) (by simpa using h);exact⟨q,by simpa using e,z⟩
end L2
namespace PySem
noncomputable def DEn(h:Heap)(d:YT)(es:Array A14)(ep:Nat):Prop:=∃ o,h.get? d=some o/\o.ExactDict/\o.data = .dict es ep
theorem DEn.keep{h h':Heap}{d:YT}{es:Array A14}{ep:Nat}(x:DEn h d es ep)(k:∀ o,h.get? d=some o->h'.get? d=some o):DEn h' d es ep:=let ⟨o,e,r⟩:=x;⟨o,k o e,r⟩
theorem DEn.lt{h:Heap}{d:YT}{es:Array A14}{ep:Nat}(x:DEn h d es ep):d<h.objs.size:=let ⟨_,e,_⟩:=x;UX e
end PySem
namespace Rf
open PySem L2
structure GoodA(X:Cx)(rs:List Expr)(w:WA):Prop where
 pa:PA X rs (liftA X.K w)
 m:MonoA w
section
variable{X:Cx}
theorem JR:GoodA X [] Dm:=⟨Nd,.nil⟩
theorem Gc{x:Expr}{xs:List Expr}{a:WE×WT}{b:WA}(ha:Good X x a)(hb:GoodA X xs b)(hs:f8 x=true):GoodA X (x::xs) (Cm a.1 b):=⟨L8 ha.m hb.m ha.pe hb.pa (i8 hs),.cons ha.m hb.m⟩
theorem JS{rs:List Expr}{j:Nat}{p:Pos}{w:WA}(h:GoodA X rs w):Good X (.Tuple rs j p) (tt1 (wn Ng w)) := .one (g8 _ (QI h.pa) (Ni h.m)) (.n .tup h.m) rfl
theorem JT{rs:List Expr}{p:Pos}{w:WA}(h:GoodA X rs w):Good X (.List rs p) (tt1 (wn Nh w)) := .one (g8 _ (QJ h.pa) (Nj h.m)) (.n .lst h.m) rfl
theorem M4{K:UL}{s:Sn}{w:WA}(ms:MonoN s)(m:MonoA w):∀ σ H Q,lift K (wn s w) σ H Q->PF (spS K s) [] E0 (liftA K w) σ H Q:=by
 rintro σ H Q ⟨as,ρ,S,ok,en,h⟩;refine⟨as,ρ,S,ok,en,m _ _ _ _ (λxs S1 hs as1 H1 vs g1 ok1 rv=>?_) h⟩;show spS K s (vs++[]) H1 Q E0;rw[VF];exact⟨as1,S1,xs,ok1,rv,ms _ _ _ _ (λz S3 hz=>hz.mono g1) hs⟩
theorem Gd{T:List Str}{Δ:Nat->Sn}{k f:Nat}{N:List Str}{sc:Yi}{x:Str}{y:Expr}{ys:List Expr}{p q:Pos}{w:WA}(C:Cok T Δ X k N sc)(hf:f+1<T.length/\T[f]?=some x)(hg:glo sc x=true)(h:GoodA X (y::ys) w)(hy:f8 y=true)(hs:ys.all f8=true):Good X (.Call (.Name x p) (y::ys) [] q) (tt1 (wn (Δ f) w)):=by
 obtain⟨d,ps,hC,hr⟩:=C.call f x hf.1 hf.2;obtain⟨fa,fd,F,hm,hk,hb⟩:=hC.ex;unfold glo at hg;simp only[UN,beq_iff_eq,Uu]at hg;have gl:Gl X x:=by show X.env.scope.names.lookup x=_;rw[C.hs];exact hg.1.1
 exact .one (g8 _ (NJ F hr gl hm hk hb .nil SZ h.pa hg.2 (i8 hy) (Bn hs)) (M4 (C.mono f) h.m)) (.n (C.mono f) h.m) rfl
theorem TX:Yd "abs"=some (.builtin "abs"):=by decide +kernel
theorem TY:Yd "min"=some (.builtin "min"):=by decide +kernel
theorem TZ:Yd "max"=some (.builtin "max"):=by decide +kernel
theorem Ta:Yd "len"=some (.builtin "len"):=by decide +kernel
theorem Tb:Yd "all"=some (.builtin "all"):=by decide +kernel
theorem Ph:Yd "int"=some (.type "int"):=by decide +kernel
theorem D1:Yd "list"=some (.type "list"):=by decide +kernel
theorem Tc:Yd "isinstance"=some (.builtin "isinstance"):=by decide +kernel
theorem Pi:Yd "str"=some (.type "str"):=by decide +kernel
theorem RG:Yd "bool"=some (.type "bool"):=by decide +kernel
theorem OK:Yd "range"=some (.type "range"):=by decide +kernel
theorem b_set:Yd "set"=some (.type "set"):=by decide +kernel
theorem Hx:Yd "tuple"=some (.type "tuple"):=by decide +kernel
theorem RH:Yd "repr"=some (.builtin "repr"):=by decide +kernel
theorem M5{T:List Str}{Δ:Nat->Sn}{k:Nat}{N:List Str}{sc:Yi}{b:BI}{y:Expr}{ys:List Expr}{p q:Pos}{w:WA}(C:Cok T Δ X k N sc)(hg:glo sc b.name=true)(h:GoodA X (y::ys) w)(hy:f8 y=true)(hs:ys.all f8=true):Good X (.Call (.Name b.name p) (y::ys) [] q) (tt1 (wn (sBi b) w)):=by
 unfold glo at hg;simp only[UN,beq_iff_eq,Uu]at hg;have gl:Gl X b.name:=by show X.env.scope.names.lookup b.name=_;rw[C.hs];exact hg.1.1
 have hm:=C.bl b;have e1:=i8 (es:=ys) (env:=X.env) hy;have e2:=Bn (env:=X.env) (pos:=q) hs;refine .one (g8 (t:=tCB (rBi X.K b) (liftA X.K w)) _ ?_ (TD Qz .bi h.m)) (.n .bi h.m) rfl;cases b with
 | len=>exact w6 E7 gl hm Ta h.pa (by decide) hg.2 e1 e2
 | abs=>exact w6 KC gl hm TX h.pa (by decide) hg.2 e1 e2
 | min=>exact w6 (Id C.calm) gl hm TY h.pa (by decide) hg.2 e1 e2
 | max=>exact w6 (Ic C.calm) gl hm TZ h.pa (by decide) hg.2 e1 e2
 | int=>exact A0 Ie gl hm Ph h.pa (by decide) hg.2 e1 e2
 | list=>exact A0 E8 gl hm D1 h.pa (by decide) hg.2 e1 e2
 | tuple=>exact A0 DS gl hm Hx h.pa (by decide) hg.2 e1 e2
 | all=>exact w6 (Iu C.calm) gl hm Tb h.pa (by decide) hg.2 e1 e2
 | any=>exact w6 (J9 C.calm) gl hm T9 h.pa (by decide) hg.2 e1 e2
 | sorted=>exact w6 EB gl hm KW h.pa (by decide) hg.2 e1 e2
 | isi=>exact w6 (call_isi1.or Ir) gl hm Tc h.pa (by decide) hg.2 e1 e2
 | repr=>exact w6 (λ_ _ _ _ _ _ _ _ _ h=>False.elim h) gl hm RH h.pa (by decide) hg.2 e1 e2
 | str=>exact A0 (J0 C.gd (Vh (Wm (by decide) _) C.un)) gl hm Pi h.pa (by decide) hg.2 e1 e2
theorem Mono.mt{m:MT}{a:WE}{b:WA}(ma:Mono a)(mb:MonoA b):Mono (wMt m a b):=λρ S P P' i h=>ma _ _ _ _ (λx S1 ⟨e,h⟩=>⟨e,mb _ _ _ _ (λxs S2 h=>EK _ _ _ _ i h) h⟩) h
theorem t6{ro:Expr}{nm:Str}{env:Env}{wh:Sem YQ}(h:A6 ro=true):ZC ro nm env wh=wh:=by
 unfold ZC;split
 ·cases h
 ·rfl
theorem M6{K:UL}{as:List YT}{H:Hp}{S:Sto}{k:Nat}{v:V}{xs:List SV}(ok:Ok K as H S)(r:Rl K as H v (.loc k))(hs:S[k]?=some (.lst xs)):tyV K "list" v H:=by
 obtain⟨a,vs,rfl,_,h1,_⟩:=v7 ok r hs;exact .inl ⟨rfl,_,SqL.of h1⟩
theorem RI{K:UL}{m:MT}{a:WE}{b:WA}(ma:Mono a)(mb:MonoA b):∀ σ H Q,lift K (wMt m a b) σ H Q->tBM K "list" (rMt m) (lift K a) (liftA K b) σ H Q:=by
 rintro σ H Q ⟨as,ρ,S,ok,en,h⟩;refine⟨as,ρ,S,ok,en,ma _ _ _ _ (λx S1 ⟨⟨j,zs,e,hz⟩,h⟩ as1 H1 v g1 ok1 rv=>?_) h⟩;subst e;refine⟨M6 ok1 rv hz,as1,ρ,S1,ok1,en.mono g1.pre (g1.ku ok),mb _ _ _ _ (λxs S2 h as2 H2 vs g2 ok2 rs=>?_) h⟩;exact LO ok2 (Rl.mono g2.pre (g2.ku ok1) _ v rv) rs (EK _ _ _ _ (λz S3 hz=>hz.mono (g1.trans g2)) h)
theorem OL{K:UL}{m:MT}{a:WE}(ma:Mono a):∀ σ H Q,lift K (wMt m a Dm) σ H Q->QM K "list" (rMt m) (lift K a) σ H Q:=by
 rintro σ H Q ⟨as,ρ,S,ok,en,h⟩;refine⟨as,ρ,S,ok,en,ma _ _ _ _ (λx S1 ⟨⟨j,zs,e,hz⟩,h⟩ as1 H1 v g1 ok1 rv=>?_) h⟩;subst e;exact⟨M6 ok1 rv hz,LO ok1 rv .nil (EK _ _ _ _ (λz S3 hz=>hz.mono g1) h)⟩
theorem MtR.orM{id:String}{r r':V->List V->Hp->VK->Prop}(h:MtM X id r)(h':MtM X id r'):MtR X id (λx xs H Q=>r x xs H Q\/r' x xs H Q):=λpins s σ H x xs v us Q I rx rs q=>q.elim (h pins s σ H x xs v us Q I rx rs) (h' pins s σ H x xs v us Q I rx rs)
theorem M7{m:MT}{ro y:Expr}{ys:List Expr}{ap cp:Pos}{a:WE×WT}{b:WA}(ha:Good X ro a)(hb:GoodA X (y::ys) b)(hn:A6 ro=true)(hl:(ap.endLine == cp.line)=true)(hk:(y::ys).length<29)(hy:f8 y=true)(hs:ys.all f8=true):Good X (.Call (.Attribute ro m.name ap) (y::ys) [] cp) (tt1 (wMt m a.1 b)):=by
 have e1:=i8 (es:=ys) (env:=X.env) hy;have e2:=Bn (env:=X.env) (pos:=cp) hs
 have e3:((backTo cp (Yg (y::ys) X.env)).all (λx=>!x.1)&&(A0N cp (A06 [] X.env)).all (λx=>x.1.isSome)
  && decide ((y::ys).length+([]:List Keyword).length+(if ([]:List Keyword).isEmpty then 0 else 1)<30))=true:=by
  rw[Dn (by rw[Vb,hy,hs];rfl)];simp only[Y9,UN,dQ];exact⟨rfl,by show(y::ys).length+0+0<30;omega⟩
 refine .one (g8 (t:=tBM X.K "list" (rMt m) (lift X.K a.1) (liftA X.K b)) _ ?_ (RI ha.m hb.m)) (.mt ha.m hb.m) rfl;cases m with
 | append=>exact KK PySem.F.plainAttrs_list PySem.F.slot_list_append PySem.F.type_list_append By ha.pe hb.pa (t6 hn) e3 hl e1 e2
 | pop=>exact KK PySem.F.plainAttrs_list PySem.F.slot_list_pop PySem.F.type_list_pop (MtR.orM KM Ei) ha.pe hb.pa (t6 hn) e3 hl e1 e2
 | insert=>exact KK PySem.F.plainAttrs_list PySem.F.slot_list_insert PySem.F.type_list_insert De ha.pe hb.pa (t6 hn) e3 hl e1 e2
theorem JU{m:MT}{ro:Expr}{ap cp:Pos}{a:WE×WT}(ha:Good X ro a)(hn:A6 ro=true)(hl:(ap.endLine == cp.line)=true):Good X (.Call (.Attribute ro m.name ap) [] [] cp) (tt1 (wMt m a.1 Dm)):=by
 refine .one (g8 (t:=QM X.K "list" (rMt m) (lift X.K a.1)) _ ?_ (OL ha.m)) (.mt ha.m .nil) rfl;cases m with
 | append=>exact Fz PySem.F.plainAttrs_list PySem.F.slot_list_append PySem.F.type_list_append By ha.pe (t6 hn) hl
 | pop=>exact Fz PySem.F.plainAttrs_list PySem.F.slot_list_pop PySem.F.type_list_pop (MtR.orM KM Ei) ha.pe (t6 hn) hl
 | insert=>exact Fz PySem.F.plainAttrs_list PySem.F.slot_list_insert PySem.F.type_list_insert De ha.pe (t6 hn) hl
theorem JV{T:List Str}{Δ:Nat->Sn}{k:Nat}{N:List Str}{sc:Yi}{t:TyN}{p:Pos}(C:Cok T Δ X k N sc)(hg:glo sc (Str.ofString t.nm)=true)(ht:t ≠ .none):Good X (.Name (Str.ofString t.nm) p) (tt1 (wC (.ty t))):=by
 unfold glo at hg;simp only[UN,beq_iff_eq,Uu]at hg;have gl:Gl X (Str.ofString t.nm):=by show X.env.scope.names.lookup _=_;rw[C.hs];exact hg.1.1
 have b:Yd (Str.ofString t.nm)=some (.type t.nm):=by cases t<;>first | exact Ph | exact RG | exact Pi | exact D1 | exact Hx | exact absurd rfl ht
 exact .one (g8 _ (N8 (v := .ty t.nm) gl (C.ty t ht) b rfl (by cases t<;>first | decide | exact absurd rfl ht) hg.2) (Ev λ_ _=>rl_ty.mpr rfl)) .c rfl
theorem RJ{K:UL}{as:List YT}{H:Hp}{lo hi:Int}:RlAll K as H (Iw lo (hi - lo).toNat) (Ay lo hi):=by
 unfold Iw Ay
 induction Uj (hi - lo).toNat with
 | nil=>exact .nil
 | cons i r ih=>exact .cons (rl_int.mpr rfl) ih
theorem D2{a:WE}(m:Mono a):Mono (GP a):=λρ S P P' i h=>m _ _ _ _ (λx S1 ⟨j,e,z,q⟩=>⟨j,e,z,i _ _ q⟩) h
theorem F8{T:List Str}{Δ:Nat->Sn}{k:Nat}{N:List Str}{sc:Yi}{r:Expr}{p p2 q q2:Pos}{a:WE×WT}(C:Cok T Δ X k N sc)(hg:glo sc "list"=true)(hg2:glo sc "range"=true)(ha:Good X r a)(hs:f8 r=true):Good X (.Call (.Name "list" p) [.Call (.Name "range" p2) [r] [] q2] [] q) (tt1 (GP a.1)):=by
 unfold glo at hg hg2;simp only[UN,beq_iff_eq,Uu]at hg hg2;have gl:Gl X "list":=by show X.env.scope.names.lookup ("list":Str)=_;rw[C.hs];exact hg.1.1
 have gr:Gl X "range":=by show X.env.scope.names.lookup ("range":Str)=_;rw[C.hs];exact hg2.1.1
 have e1:=A0 (p:=p2) (pos:=q2) Iv gr C.rng OK (Av ha.pe BU (i8 hs)) (by decide) hg2.2 (i8 hs) rfl;refine .one (g8 _ (A0 (p:=p) (pos:=q) (E9 C.calm) gl (C.bl .list) D1 (Av e1 BU rfl) (by decide) hg.2 rfl rfl) ?_) (D2 ha.m) rfl;rintro σ H Q ⟨as,ρ,S,ok,en,h⟩;refine⟨as,ρ,S,ok,en,ha.m _ _ _ _ (λx S1 ⟨j,e,z,q⟩ as1 H1 v g1 ok1 rv=>?_) h⟩;subst e;refine⟨j,by rw[rl_int.mp rv],λp hp=>⟨p,0,j,rfl,g7,by decide,by decide,z.1,by omega,by omega,?_⟩⟩;exact u7 (ok1.new hp) RJ (q.mono (g1.trans (Go.new hp)))
theorem F9:Dl Nz:=λx S P P' i h=>by
 unfold Nz at h ⊢;split at h
 ·obtain⟨xs,e,h⟩:=h;exact⟨xs,e,i _ _ h⟩
 ·exact h.elim
theorem JW{r:Expr}{j:Nat}{p p2 p3 p4:Pos}{a:WE×WT}(ha:Good X r a):Good X (.Subscript r (.Slice none none (some (.UnaryOp .USub (.Constant (.int 1) j p4) p3)) p2) p) (tt1 (w1 Nz a.1)):=by
 refine .one (g8 _ (Qp ha.pe (HR (P9 K7 Jt))) ?_) (.one F9 ha.m) rfl;rintro σ H Q ⟨as,ρ,S,ok,en,h⟩;refine⟨as,ρ,S,ok,en,ha.m _ _ _ _ (λx S1 h as1 H1 v g1 ok1 rv=>?_) h⟩;refine⟨1,rfl,-1,rfl,rfl,?_⟩;cases x with
 | loc k=>
   obtain⟨xs,h1,h2⟩:=h;obtain⟨b,vs,rfl,_,hb,rr⟩:=v7 ok1 rv h1;exact⟨b,vs,rfl,SqL.of hb,u7 ok1 rr.rev (h2.mono g1)⟩
 | _=>exact False.elim h
theorem CJ{a:WE}(m:Mono a):Mono (EL a):=λρ S P P' i h=>m _ _ _ _ (λx S1 ⟨xs,ns,b,c,d,q⟩=>⟨xs,ns,b,c,d,i _ _ q⟩) h
theorem RlD.length{K:UL}{as:List YT}{H:Hp}:∀{kvs:List (Int×SV)} {ks:List (Key×V)},RlD K as H ks kvs->ks.length=kvs.length
 | [],_,h=>by rw[show _=[] from h];rfl
 | p::r,_,⟨v,t,e,_,h⟩=>by rw[e,VG,VG,RlD.length h]
theorem Dp{x:Str}{lp:Pos}{j:Nat}{js:List Nat}{a e:WE}(m:Mono a):Mono (LY x lp j js a e):=λρ S P P' i h=>m _ _ _ _ (λv S1 ⟨xs,kz,a,b,c,l,t,q⟩=>⟨xs,kz,a,b,c,l,t,λys p o=>i _ _ (q ys p o)⟩) h
theorem RlAll.perm{K:UL}{as:List YT}{H:Hp}{ws ws':List V}(p:ws'.Perm ws):∀{xs:List SV},RlAll K as H ws xs->∃ xs',RlAll K as H ws' xs'/\xs'.Perm xs:=by
 induction p with
 | nil=>exact λ{xs} r=>⟨xs,r,.refl _⟩
 | cons v _ ih=>
   intro xs r;cases xs with
   | nil=>exact absurd (show _::_=[] from r) (X8 _ _)
   | cons x xs=>
     obtain⟨_,_,e,r1,r2⟩:=r;cases e;obtain⟨xs',r',p'⟩:=ih r2;exact⟨x::xs',⟨_,_,rfl,r1,r'⟩,.cons _ p'⟩
 | swap u v l=>
   intro xs r;cases xs with
   | nil=>exact absurd (show _::_=[] from r) (X8 _ _)
   | cons x xs=>
     obtain⟨_,_,e,r1,r2⟩:=r;cases e;cases xs with
     | nil=>exact absurd (show _::_=[] from r2) (X8 _ _)
     | cons y xs=>
       obtain⟨_,_,e,r3,r4⟩:=r2;cases e;exact⟨y::x::xs,⟨_,_,rfl,r3,_,_,rfl,r1,r4⟩,.swap ..⟩
 | trans _ _ ih1 ih2=>
   intro xs r;obtain⟨x2,r2,p2⟩:=ih2 r;obtain⟨x1,r1,p1⟩:=ih1 r2;exact⟨x1,r1,p1.trans p2⟩
theorem EO{T:List Str}{Δ:Nat->Sn}{k:Nat}{N:List Str}{sc:Yi}{r:Expr}{p p2 q q2:Pos}{a:WE×WT}(C:Cok T Δ X k N sc)(hg:glo sc "sorted"=true)(hg2:glo sc "set"=true)(ha:Good X r a)(hs:f8 r=true):Good X (.Call (.Name "sorted" p) [.Call (.Name "set" p2) [r] [] q2] [] q) (tt1 (EL a.1)):=by
 unfold glo at hg hg2;simp only[UN,beq_iff_eq,Uu]at hg hg2;have gl:Gl X "sorted":=by show X.env.scope.names.lookup ("sorted":Str)=_;rw[C.hs];exact hg.1.1
 have gr:Gl X "set":=by show X.env.scope.names.lookup ("set":Str)=_;rw[C.hs];exact hg2.1.1
 refine .one (g8 _ (F7 C.calm gl (C.bl .sorted) gr C.st0 ha.pe (i8 hs) rfl rfl rfl) ?_) (CJ ha.m) rfl;rintro σ H Q ⟨as,ρ,S,ok,en,h⟩;refine⟨as,ρ,S,ok,en,ha.m _ _ _ _ (λx S1 ⟨xs,ns,h1,h2,h3,q⟩ as1 H1 v g1 ok1 rv=>?_) h⟩;obtain⟨a,us,rfl,hq,rr⟩:=C5 ok1 rv h1;rw[EI h2 rr]at hq;exact⟨a,ns,rfl,hq,h3,u7 ok1 RlAll.ints (q.mono g1)⟩
end
section
variable{K:UL}{as:List YT}{H:Hp}{S:Sto}
theorem RlD.get:∀{kvs:List (Int×SV)} {ks:List (Key×V)} {i:Nat} {p:Int×SV},RlD K as H ks kvs->kvs[i]?=some p->∃ v,ks[i]?=some (.inl p.1,v)
 | q::r,_,0,p,⟨v,t,e,_,_⟩,hp=>by cases hp;subst e;exact⟨v,rfl⟩
 | q::r,_,i+1,p,⟨v,t,e,_,h⟩,hp=>by
   subst e;obtain⟨u,hu⟩:=RlD.get (i:=i) h (show r[i]?=some p from hp);exact⟨u,hu⟩
theorem RlD.val:∀{kvs:List (Int×SV)} {ks:List (Key×V)},RlD K as H ks kvs->∀ i,(∃ x v,Cs kvs i=some x/\AZ ks (.inl i)=some v/\Rl K as H v x)\/(Cs kvs i=none/\AZ ks (.inl i)=none)
 | [],_,h,i=>by rw[show _=[] from h];exact .inr ⟨rfl,rfl⟩
 | p::r,_,⟨v,t,e,h1,h2⟩,i=>by
   subst e;by_cases hp:p.1=i
   ·refine .inl ⟨p.2,v,?_,?_,h1⟩
    ·unfold Cs;rw[XE (by simp[hp])];rfl
    ·unfold AZ;rw[XE (by simp[hp])];rfl
   ·have e1:Cs (p::r) i=Cs r i:=by unfold Cs;rw[XF (by simp[hp])]
    have e2:AZ ((Sum.inl p.1,v)::t) (Sum.inl i)=AZ t (Sum.inl i):=by unfold AZ;rw[XF (by simp[hp])]
    rw[e1,e2];exact RlD.val h2 i
theorem RlD.any:∀{kvs:List (Int×SV)} {ks:List (Key×V)},RlD K as H ks kvs->∀ i,(ks.any λkv=>decide (kv.1=Sum.inl i))=kvs.any λp=>decide (p.1=i)
 | [],_,h,i=>by rw[show _=[] from h];rfl
 | p::r,_,⟨v,t,e,h1,h2⟩,i=>by
   subst e;rw[Vc,Vc,RlD.any h2 i]
   congr 1
   simp
theorem RlD.set{v:V}{x:SV}(rv:Rl K as H v x):∀{kvs:List (Int×SV)} {ks:List (Key×V)},RlD K as H ks kvs->∀ i,RlD K as H (ks.map λkv=>if kv.1=Sum.inl i then (kv.1,v) else kv) (kvs.map λp=>if p.1=i then (p.1,x) else p)
 | [],_,h,i=>by rw[show _=[] from h];rfl
 | p::r,_,⟨u,t,e,h1,h2⟩,i=>by
   subst e;rw[Uv,Uv];by_cases hp:p.1=i
   ·rw[iP hp,iP (by rw[hp])];exact⟨v,_,rfl,rv,RlD.set rv h2 i⟩
   ·rw[iG hp,iG (λz=>hp (Sum.inl.inj z))];exact⟨u,_,rfl,h1,RlD.set rv h2 i⟩
theorem RlD.snoc{v:V}{x:SV}(rv:Rl K as H v x)(i:Int):∀{kvs:List (Int×SV)} {ks:List (Key×V)},RlD K as H ks kvs->RlD K as H (ks++[(Sum.inl i,v)]) (kvs++[(i,x)])
 | [],_,h=>by rw[show _=[] from h];exact⟨v,[],rfl,rv,rfl⟩
 | p::r,_,⟨u,t,e,h1,h2⟩=>by subst e;exact⟨u,_,rfl,h1,RlD.snoc rv i h2⟩
theorem RlD.put{kvs:List (Int×SV)}{ks:List (Key×V)}{v:V}{x:SV}(h:RlD K as H ks kvs)(rv:Rl K as H v x)(i:Int):RlD K as H (Af ks (Sum.inl i) v) (Ct kvs i x):=by
 unfold Af Ct;rw[h.any i];by_cases z:(kvs.any λp=>decide (p.1=i))=true
 ·rw[iP z,iP z];exact h.set rv i
 ·rw[iG z,iG z];exact h.snoc rv i
theorem BX{x:SV}{v:V}{kvs:List (Int×SV)}(ok:Ok K as H S)(r:Rl K as H v x)(h:Aa x S=some kvs):∃ a k ks,x = .loc k/\v = .ref a/\as[k]?=some a/\Rd H a (.dK ks)/\RlD K as H ks kvs:=by
 cases x with
 | loc k=>
   obtain⟨a,ea,rfl⟩:=rl_loc.mp r;unfold Aa at h;cases hs:S[k]? with
   | none=>simp only[hs]at h;cases h
   | some o=>
     have ro:=ok.obj k o a hs ea;cases o with
     | lst _=>simp only[hs]at h;cases h
     | iset _=>simp only[hs]at h;cases h
     | dtl _=>simp only[hs]at h;cases h
     | dtf _ _ _=>simp only[hs]at h;cases h
     | dtp _=>simp only[hs]at h;cases h
     | dct kv=>simp only[hs]at h;cases h;obtain⟨ks,h1,h2⟩:=ro;exact⟨a,k,ks,rfl,rfl,ea,.inl h1,h2⟩
     | dcf o ks kv=>simp only[hs]at h;cases h;exact⟨a,k,ks,rfl,rfl,ea,.inr ⟨o,ro.1⟩,ro.2⟩
     | tbl _ _=>simp only[hs]at h;cases h
 | _=>cases h
theorem C7:Mono2 Ho:=λx y S P P' i ⟨kvs,j,v,a,b,c,q⟩=>⟨kvs,j,v,a,b,c,i _ _ q⟩
theorem M8:BO K Ho (λx y H Q=>∃ a v,x = .ref a/\DGet H a y (some v)/\Q v H):=λas H S x y v u Q ok rx ry h=>by
 obtain⟨kvs,i,w,h1,rfl,h2,q⟩:=h;obtain⟨a,k,ks,rfl,rfl,ea,rd,rr⟩:=BX ok rx h1;rw[rl_int]at ry;subst ry;rcases rr.val i with⟨x',v',e1,e2,r'⟩ | ⟨e1,_⟩
 ·rw[h2]at e1;cases e1;exact⟨a,v',rfl,.inl ⟨ks,.inl i,rd,rfl,e2.symm⟩,q.here ok r'⟩
 ·rw[h2]at e1;cases e1
end
section
variable{X:Cx}
theorem C8:Mono Li:=λρ S P P' i h=>i _ _ h
theorem Ge{p:Pos}:Good X (.Dict [] [] p) (tt1 Li):=
 .one (g8 _ KZ (λσ H Q ⟨as,ρ,S,ok,en,h⟩=>λl hl=>h _ _ _ (Go.push hl) (ok.pushO hl ⟨[],g7,rfl⟩) (rl_loc.mpr ⟨l,by rw[<-ok.len];exact V1,rfl⟩))) C8 rfl
theorem RlD.zip{K:UL}{as:List YT}{H:Hp}:∀(ns:List Int) {ws:List V} {ys:List SV},RlAll K as H ws ys->RlD K as H ((ns.zip ws).map λt=>((.inl t.1:Key),t.2)) (ns.zip ys)
 | [],_,_,_=>rfl
 | n::ns,_,[],h=>by rw[rla_nil.mp h];rfl
 | n::ns,_,y::ys,h=>by
   obtain⟨v,r,rfl,h1,h2⟩:=rla_cons.mp h;exact⟨v,_,rfl,h1,RlD.zip ns h2⟩
theorem Gf{x y:Expr}{p:Pos}{a b:WE×WT}(hu:X.A.units+1<cLine)(ha:Good X x a)(hb:Good X y b)(h:AB y=true):Good X (.Subscript x y p) (tt1 (w2 Ho a.1 b.1)):=
 .one (g8 _ (NQ hu ha.pe hb.pe (D0 h)) (Bj M8 C7 ha.m hb.m)) (.two C7 ha.m hb.m) rfl
end
theorem D3{a:WE}(m:Mono a):Mono (GT a):=λρ S P P' i h=>m _ _ _ _ (λx S1 ⟨kvs,b,q⟩=>⟨kvs,b,i _ _ q⟩) h
theorem RlD.vals{K:UL}{as:List YT}{H:Hp}:∀{kvs:List (Int×SV)} {ks:List (Key×V)},RlD K as H ks kvs->RlAll K as H (ks.map (·.2)) (kvs.map (·.2))
 | [],_,h=>by rw[show _=[] from h];rfl
 | p::r,_,⟨v,t,e,a,h⟩=>by rw[e];exact⟨v,_,rfl,a,RlD.vals h⟩
theorem RlD.at{K:UL}{as:List YT}{H:Hp}:∀{kvs:List (Int×SV)} {ks:List (Key×V)} {i:Nat} {p:Int×SV},RlD K as H ks kvs->kvs[i]?=some p->∃ v,ks[i]?=some (.inl p.1,v)/\Rl K as H v p.2
 | [],_,i,p,_,hp=>by simp at hp
 | p::r,_,0,_,⟨v,t,e,a,h⟩,hp=>by cases hp;exact⟨v,by rw[e];rfl,a⟩
 | p::r,_,i+1,_,⟨v,t,e,a,h⟩,hp=>by
   obtain⟨u,hu,ru⟩:=RlD.at (i:=i) h hp;exact⟨u,by rw[e];exact hu,ru⟩
theorem FA{X:Cx}{T:List Str}{Δ:Nat->Sn}{k:Nat}{N:List Str}{sc:Yi}{r:Expr}{p q ap cp:Pos}{a:WE×WT}(C:Cok T Δ X k N sc)(hg:glo sc "list"=true)(ha:Good X r a)(hn:A6 r=true)(hl:(ap.endLine == cp.line)=true):Good X (.Call (.Name "list" p) [.Call (.Attribute r "values" ap) [] [] cp] [] q) (tt1 (GT a.1)):=by
 unfold glo at hg;simp only[UN,beq_iff_eq,Uu]at hg;have gl:Gl X "list":=by show X.env.scope.names.lookup ("list":Str)=_;rw[C.hs];exact hg.1.1
 refine .one (g8 _ (Kg C.calm gl (C.bl .list) D1 ha.pe (t6 hn) hl rfl) ?_) (D3 ha.m) rfl;rintro σ H Q ⟨as,ρ,S,ok,en,h⟩;refine⟨as,ρ,S,ok,en,ha.m _ _ _ _ (λx S1 ⟨kvs,h1,q⟩ as1 H1 v g1 ok1 rv=>?_) h⟩;obtain⟨a,k,ks,rfl,rfl,ea,rd,rr⟩:=BX ok1 rv h1;exact⟨a,ks,rfl,rd,u7 ok1 (RlD.vals rr) (q.mono g1)⟩
section
variable{K:UL}{as:List YT}{H:Hp}{S:Sto}
theorem RlT.length:∀{kvs:List (List Int×SV)} {us:List (List Key×V)},RlT K as H us kvs->us.length=kvs.length
 | [],_,h=>by rw[show _=_ from h];rfl
 | p::r,_,⟨v,t,e,_,h2⟩=>by rw[e,VG,VG,h2.length]
theorem RlT.get:∀{kvs:List (List Int×SV)} {us:List (List Key×V)} {i:Nat} {p:List Int×SV},RlT K as H us kvs->kvs[i]?=some p->∃ v,us[i]?=some (p.1.map Sum.inl,v)
 | [],_,_,_,_,h=>by simp at h
 | p::r,_,0,_,⟨v,t,e,_,h2⟩,h=>by
   simp at h;subst h;rw[e];exact⟨v,rfl⟩
 | p::r,_,i+1,_,⟨v,t,e,_,h2⟩,h=>by
   rw[e];obtain⟨v,hv⟩:=h2.get (i:=i) (by simpa using h);exact⟨v,by simpa using hv⟩
theorem CV:∀{a b:List Int},a.map (Sum.inl:Int->Key)=b.map Sum.inl->a=b
 | [],[],_=>rfl
 | [],_::_,h=>by simp at h
 | _::_,[],h=>by simp at h
 | a::x,b::y,h=>by
   rw[Uv,Uv]at h;injection h with h1 h2;injection h1 with h1;rw[h1,CV h2]
theorem RlT.val(k:List Int):∀{kvs:List (List Int×SV)} {us:List (List Key×V)},RlT K as H us kvs->(∃ x v,JG kvs k=some x/\AZ us (k.map Sum.inl)=some v/\Rl K as H v x)\/(JG kvs k=none/\AZ us (k.map Sum.inl)=none)
 | [],_,h=>by rw[show _=_ from h];exact .inr ⟨rfl,rfl⟩
 | p::r,_,⟨v,t,e,h1,h2⟩=>by
   rw[e];by_cases z:p.1=k
   ·refine .inl ⟨p.2,v,?_,Bf (by rw[z]),h1⟩;unfold JG;rw[VS,decide_eq_true z];rfl
   ·rw[Bg (λy=>z (CV y)),show JG (p::r) k=JG r k by unfold JG;rw[VS,decide_eq_false z]];exact RlT.val k h2
theorem RlT.snoc{k:List Int}{v:V}{x:SV}(rv:Rl K as H v x):∀{kvs:List (List Int×SV)} {us:List (List Key×V)},RlT K as H us kvs->RlT K as H (us++[(k.map Sum.inl,v)]) (kvs++[(k,x)])
 | [],_,h=>by rw[show _=_ from h];exact⟨v,[],rfl,rv,rfl⟩
 | p::r,_,⟨w,t,e,h1,h2⟩=>by rw[e];exact⟨w,_,rfl,h1,h2.snoc rv⟩
end
section
variable{K:UL}{as:List YT}{H:Hp}
theorem RlT.any:∀{kvs:List (List Int×SV)} {us:List (List Key×V)},RlT K as H us kvs->∀ k,(us.any λkv=>decide (kv.1=k.map Sum.inl))=kvs.any λp=>decide (p.1=k)
 | [],_,h,k=>by rw[show _=_ from h];rfl
 | p::r,_,⟨v,t,e,_,h2⟩,k=>by
   rw[e,Vc,Vc,RlT.any h2 k];by_cases z:p.1=k
   ·rw[decide_eq_true z,decide_eq_true (show _=_ by rw[z])]
   ·rw[decide_eq_false z,decide_eq_false (λy=>z (CV y))]
theorem RlT.set{v:V}{x:SV}(rv:Rl K as H v x):∀{kvs:List (List Int×SV)} {us:List (List Key×V)},RlT K as H us kvs->∀ k:List Int,RlT K as H (us.map λkv=>if kv.1=k.map Sum.inl then (kv.1,v) else kv) (kvs.map λp=>if p.1=k then (p.1,x) else p)
 | [],_,h,k=>by rw[show _=_ from h];rfl
 | p::r,_,⟨w,t,e,h1,h2⟩,k=>by
   rw[e,Uv,Uv];by_cases z:p.1=k
   ·rw[iP z,iP (by rw[z])];exact⟨v,_,rfl,rv,RlT.set rv h2 k⟩
   ·rw[iG z,iG (λy=>z (CV y))];exact⟨w,_,rfl,h1,RlT.set rv h2 k⟩
theorem RlT.put{kvs:List (List Int×SV)}{us:List (List Key×V)}{v:V}{x:SV}(h:RlT K as H us kvs)(rv:Rl K as H v x)(k:List Int):RlT K as H (Af us (k.map Sum.inl) v) (Pe kvs k x):=by
 unfold Af Pe;rw[h.any k];split
 ·exact h.set rv k
 ·exact h.snoc rv
theorem RlT.vals:∀{kvs:List (List Int×SV)} {us:List (List Key×V)},RlT K as H us kvs->RlAll K as H (us.map (·.2)) (kvs.map (·.2))
 | [],_,h=>by rw[show _=[] from h];rfl
 | p::r,_,⟨v,t,e,a,h⟩=>by rw[e];exact⟨v,_,rfl,a,RlT.vals h⟩
end
section
variable{X:Cx}{T:List Str}{Δ:Nat->Sn}{k:Nat}{N cn:List Str}{sc scL:Yi}{x y:Str}{js:List Nat}
theorem Cok.lam(C:Cok T Δ X k N sc)(hT:T.getLast?=some x)(hl:BQ sc scL [y] cn N js=true)(q:Str)(s:YS)(H:Hp)(f c':YT):Cok [] Δ (Eu X X.A.in1.in1 q scL (y::cn) s H f c') 1 (y::cn) scL where
 hN:=rfl
 hs:=rfl
 nd:=by
  unfold BQ v6 at hl;simp only[UN,dQ]at hl;exact hl.1.1.1.2
 calm:=rfl
 fn:=λ_ _ _ _ h=>beq_iff_eq.mpr h
 un:=by
  have:=(C.me x hT).2.2.2;show X.A.units+1+1+3+102<cLine;omega
 bl:=C.bl
 rng:=C.rng
 enm:=C.enm
 rvs:=C.rvs
 zip:=C.zip
 sm0:=C.sm0
 st0:=C.st0
 dc0:=C.dc0
 ty:=C.ty
 gd:=C.gd
 me:=λ_ h=>nomatch h
 call:=λ_ _ h=>absurd h (W3 _)
 mono:=C.mono
variable{K:UL}{as:List YT}{H:Hp}{S:Sto}
theorem Dq:∀{kz:List Int} {us:List V} {xs:List SV},RlAll K as H us xs->Paired (λ(p:Int×SV) (q:Int×V)=>p.1=q.1/\Rl K as H q.2 p.2) (kz.zip xs) (kz.zip us)
 | [],_,_,_ => .nil
 | _::_,_,[],h=>by rw[rla_nil.mp h];exact .nil
 | _::_,_,_::_,h=>let ⟨_,_,e,a,b⟩:=rla_cons.mp h;e ▸ .cons ⟨rfl,a⟩ (Dq b)
theorem C9:∀{zs:List (Int×SV)} {ys:List (Int×V)},Paired (λ(p:Int×SV) (q:Int×V)=>p.1=q.1/\Rl K as H q.2 p.2) zs ys->RlAll K as H (ys.map (·.2)) (zs.map (·.2))/\zs.map (·.1)=ys.map (·.1)
 | _,_,.nil=>⟨.nil,rfl⟩
 | _,_,.cons r t=>⟨.cons r.2 (C9 t).1,by rw[Uv,Uv,r.1,(C9 t).2]⟩
theorem OM{σ:St}{ρ:EnvS}{v:V}{u:SV}(en:EnvOk K as H σ ρ)(r:Rl K as H v u):EnvOk K as H (Ci [v] js σ) (some u::js.map λj=>(ρ[j]?).join):=by
 refine⟨by simp[Ci],λi z e=>?_⟩;cases i with
 | zero=>cases e;exact⟨v,rfl,r⟩
 | succ i=>
   rw[X9,UZ]at e;obtain⟨j,e1,e2⟩:=Vl.mp e
   have e3:ρ[j]?=some (some z):=by
    cases h:ρ[j]? with
    | none=>rw[h]at e2;cases e2
    | some w=>rw[h]at e2;exact congrArg some e2
   obtain⟨w,e4,rw'⟩:=en.2 j z e3;refine⟨w,?_,rw'⟩;show(some v::js.map λj=>(σ[j]?).join)[i+1]?=_;rw[X9,UZ,e1,W2,e4];rfl
theorem M9{q:Str}{an:Option Expr}{ap:Pos}{body:Expr}{sc:Yi}{cl:List (Str×YT)}{pm c ct u:YQ}:Zn (PySem.W.kla_fn "<lambda>" q ⟨[],[⟨y,an,ap⟩],none,[],[],none,[]⟩ body sc cl pm c ct) ⟨[u],[]⟩=pure [(y,u)]:=by
 have l:Wt y [(y,u)]=some u:=by rw[VU,beq_self_eq_true]
 unfold Zn;simp[PySem.W.kla_fn,A11,l];rfl
theorem Gg{r body:Expr}{lp p q kp:Pos}{an:Option Expr}{ap:Pos}{a e:WE×WT}{j:Nat}(C:Cok T Δ X k N sc)(hg:glo sc "sorted"=true)(ha:Good X r a)(hs:f8 r=true)(hT:T.getLast?=some x)(hl:BQ sc scL [y] cn N js=true)
 (he:∀ s H f c',Good (Eu X X.A.in1.in1 (Ql x) scL (y::cn) s H f c') body e):
 Good X (.Call (.Name "sorted" p) [r] [⟨some "key",.Lambda ⟨[],[⟨y,an,ap⟩],none,[],[],none,[]⟩ body scL lp,kp⟩] q) (tt1 (LY x lp j js a.1 e.1)):=by
 unfold glo at hg;simp only[UN,beq_iff_eq,Uu]at hg;have gl:Gl X "sorted":=by show X.env.scope.names.lookup ("sorted":Str)=_;rw[C.hs];exact hg.1.1
 obtain⟨m1,m2,m3,m4⟩:=C.me x hT;have me:=(he X.s₀ X.H₀ 0 0).m;refine .one (g8 _ (L5 (x:=y) (q:=Ql x) (tb:=lift X.K e.1) gl (C.bl .sorted) (Av ha.pe BU (i8 hs)) (by rw[C.hs,C.hN];exact hl) (by rw[m1]) rfl (λ_ _ _ _ _=>M9) C.calm (by omega) (λs H f c'=>(he s H f c').pe) (by rw[i8 hs];rfl) (by rw[i8 hs];rfl)) ?_) (Dp ha.m) rfl;rintro σ H Q ⟨as,ρ,S,ok,en,h⟩;refine⟨as,ρ,S,ok,en,ha.m _ _ _ _ (λv S1 ⟨xs,kz,h1,lt,ht,lz,turn,fin⟩ as1 H1 u g1 ok1 rv=>?_) h⟩;have en1:=en.mono g1.pre (g1.ku ok);obtain⟨pa,us,ev,hp,rr⟩:=C5 ok1 rv h1;obtain⟨P,eP,c,ps,hP,tk,tok⟩:=ok1.at ht;have ul:=rr.length;refine⟨pa,us,kz,c,P,ps,by rw[ev],by omega,by omega,m2 c P tk,tk.2,hP,tok,λf c' H2 L=>?_⟩;have k12:KeepU H1 H2:=λb o e i=>L.keep b o (λz=>by rw[z,hP]at e;cases e;cases i) e;have g2:Go as1 H1 as1 H2:=⟨Ur _,λb o e n=>⟨L.keep b o (λz=>n (z▸UO eP)) e,n⟩⟩
 have ok2:Ok X.K as1 H2 S1:=⟨ok1.len,ok1.nd,λi o b eo eb=>by
  by_cases z:b=P
  ·have:i=j:=(Wv ((gM eb).1) ok1.nd).mp (by rw[eb,eP,z]);subst this;rw[ht]at eo;cases eo;obtain⟨ps',h1,h2⟩:=L.tab;exact⟨c,ps',z▸h1,z▸tk,h2⟩
  ·exact(ok1.obj i o b eo eb).mono (Ur _) k12 λu hu=>L.keep b u z hu⟩
 have rd2:∀{o:HO},(∀ ps,o ≠ .tbl ps)->Rd H1 pa o->Rd H2 pa o:=λ{o} no h=>h.elim (λz => .inl (L.keep _ _ (λe=>by rw[e,hP]at z;cases z;exact no _ rfl) z)) λ⟨o',z⟩ => .inr ⟨o',L.keep _ _ (λe=>by rw[e,hP]at z;cases z) z⟩;have sq2:SqL X.K H2 pa us\/SqT X.K H2 pa us:=hp.imp (Or.imp_left (rd2 λ_=>nofun)) (Or.imp_left (rd2 λ_=>nofun));refine⟨λH=>Go as1 H1 as1 H/\Ok X.K as1 H S1/\KeepU H2 H,⟨g2,ok2,KeepU.refl _⟩,sq2,λH j=>⟨j.2.2 _ _ L.lam rfl,j.2.2 _ _ L.cod rfl⟩,λi v z H hv hz ⟨jg,jo,jk⟩=>?_,λH l ys ⟨jg,jo,jk⟩ hl pm pw=>?_⟩
 ·have il:i<xs.length:=by rw[<-ul];exact(gM hv).1
  obtain⟨v',e1,r1⟩:=rr.get (UM il);rw[hv]at e1;cases e1;have ku:=jg.ku ok1;refine⟨as1,_,S1,jo,OM (en1.mono (Ur _) ku) (Rl.mono (Ur _) ku _ _ r1),me _ _ _ _ (λr S' ⟨er,eS⟩ as' H' w g ok' rw'=>?_) (turn i _ z (UM il) hz)⟩;subst er;subst eS;have:as'=as1:=(g.pre.eq_of_length (by rw[ok'.len,jo.len])).symm;subst this;exact⟨rl_int.mp rw',jg.trans g,ok',jk.trans (g.ku jo)⟩
 ·obtain⟨zs,rp,pz⟩:=C2 pm (Dq (kz:=kz) (RlAll.mono (Ur _) (jg.ku ok1) _ _ rr));have up:=C9 rp;exact fin zs pz (up.2▸pw) (as1++[l]) _ (.ref l) (g1.trans (jg.trans (Go.push hl))) (jo.push hl up.1) (L9 jo)
end
end Rf
namespace Srf
open PySem PyProof.Rows
noncomputable def KF(f:YQ->Int)(xs:Array Keyed)(i:Nat):Int:=match xs[i]? with
 | some p=>f p.1
 | none=>0
theorem BB{f:YQ->Int}{xs ys:Array Keyed}{i j:Nat}(h:xs[i]?=ys[j]?):KF f xs i=KF f ys j:=by unfold KF;rw[h]
theorem Dr{f:YQ->Int}{xs:Array Keyed}{s d:Nat}(hs:s<xs.size)(hd:d<=s)(k:Nat):KF f (bubble xs s d) k=if k=s - d then KF f xs s else if s - d<k/\k<=s then KF f xs (k - 1) else KF f xs k:=by
 have e:=Zy hs d hd k;split
 ·rename_i z;rw[iP z]at e;exact BB e
 ·rename_i z;rw[iG z]at e;split
  ·rename_i y;rw[iP y]at e;exact BB e
  ·rename_i y;rw[iG y]at e;exact BB e
theorem CA{f:YQ->Int}{xs:Array Keyed}{i j:Nat}(hj:j<=xs.size)(k:Nat):KF f (mirror xs i j ((j - i) / 2)) k=if i<=k/\k<j then KF f xs (i+j - 1 - k) else KF f xs k:=by
 have e:=ZV (i:=i) hj k;split
 ·rename_i y;rw[iP y]at e;exact BB e
 ·rename_i y;rw[iG y]at e;exact BB e
theorem v0{f:YQ->Int}{xs:Array Keyed}{i j:Nat}(hj:j<=xs.size)(h:∀ k,i<=k->k<j->KF f xs k=KF f xs (j - 1))(k:Nat):KF f (mirror xs i j ((j - i) / 2)) k=KF f xs k:=by
 rw[CA hj];split
 ·rw[h _ (by omega) (by omega),h k (by omega) (by omega)]
 ·rfl
structure LtF(prog:YZ)(w:Yc)(A:Yf)(s:YS)(f:YQ->Int)(a₀:Array Keyed):Prop where
 lt:∀ p∈a₀.toList,∀ q∈a₀.toList,f p.1≠f q.1->∀(E':YQ->YS->Prop) (Q:Bool->YS->Prop),Q (decide (f p.1<f q.1)) s->YY (YX prog w) A (oneLt' true p.1 q.1) Q E' s
 nd:(a₀.toList.map λp=>f p.1).Nodup
variable{f:YQ->Int}
noncomputable def Sg(f:YQ->Int)(xs:Array Keyed)(lo k:Nat):Prop:=∀ i j,i<=j->j<k->KF f xs (lo+i)<=KF f xs (lo+j)
noncomputable def Dg(f:YQ->Int)(xs:Array Keyed)(lo k:Nat):Prop:=∀ i j,i<=j->j<k->KF f xs (lo+j)<=KF f xs (lo+i)
structure Sb(a₀ a1:Array Keyed)(lo:Nat)(pd:Array (Nat×Nat×Nat))(st:SortSt):Prop where
 perm:(arrOf st).Perm a₀
 kind:kindOf st=Z4
 failed:Yl st=none
 pend:Ye st=pd
 pre:∀ i,i<lo->(arrOf st)[i]?=a1[i]?
section
variable{a₀ a1:Array Keyed}{lo:Nat}{pd:Array (Nat×Nat×Nat)}{st:SortSt}
theorem Sb.size(h:Sb a₀ a1 lo pd st):(arrOf st).size=a₀.size:=h.perm.size_eq
theorem Sb.put(h:Sb a₀ a1 lo pd st){xs:Array Keyed}(hp:xs.Perm (arrOf st))(hq:∀ i,i<lo->xs[i]?=(arrOf st)[i]?):Sb a₀ a1 lo pd (setArr st xs):=
 ⟨hp.trans h.perm,h.kind,h.failed,h.pend,λi hi=>(hq i hi).trans (h.pre i hi)⟩
theorem mir_pre{xs:Array Keyed}{i j k:Nat}(hj:j<=xs.size)(h:k<i):(mirror xs i j ((j - i) / 2))[k]?=xs[k]?:=by
 rw[ZV hj,iG (by omega)]
theorem bub_pre{xs:Array Keyed}{s d k:Nat}(hs:s<xs.size)(hd:d<=s)(h:k<s - d):(bubble xs s d)[k]?=xs[k]?:=by
 rw[Zy hs d hd,iG (by omega),iG (by omega)]
end
section
variable{prog:YZ}{w:Yc}{A:Yf}{E:YQ->YS->Prop}{s:YS}{a₀ a1:Array Keyed}{lo:Nat}{pd:Array (Nat×Nat×Nat)}
theorem lt_at{st:SortSt}{i j:Nat}{Q:Option Bool->SortSt->Prop}(hB:Sb a₀ a1 lo pd st)(h0:LtF prog w A s f a₀)(hi:i<a₀.size)(hj:j<a₀.size)(ne:i≠j)
 (h:Q (some (decide (KF f (arrOf st) i<KF f (arrOf st) j))) st):wpS (YX prog w) A E s (ltAt' i j) Q st:=by
 have hi':i<(arrOf st).size:=by rw[hB.size];exact hi
 have hj':j<(arrOf st).size:=by rw[hB.size];exact hj
 have pl:=Wq.mp hB.perm;have mi:(arrOf st)[i]∈a₀.toList:=pl.mem_iff.mp (by simp);have mj:(arrOf st)[j]∈a₀.toList:=pl.mem_iff.mp (by simp);have ki:KF f (arrOf st) i=f (arrOf st)[i].1:=by unfold KF;rw[getElem?_pos _ i hi']
 have kj:KF f (arrOf st) j=f (arrOf st)[j].1:=by unfold KF;rw[getElem?_pos _ j hj']
 have nd:((arrOf st).toList.map λp=>f p.1).Nodup:=(pl.map _).nodup_iff.mpr h0.nd
 have nk:f (arrOf st)[i].1≠f (arrOf st)[j].1:=λz=>by
  exact ne ((Xo (h₀:=by simpa using hi') (h₁:=by simpa using hj') nd).mp (by simpa using z))
 rw[ki,kj]at h;rw[ltAt'_eq];refine YU (wpS_get ?_);show wpS _ _ _ _ (do let x <- elem' (arrOf st) i;let y <- elem' (arrOf st) j;lt' x y) Q st;rw[elem'_eq,elem'_eq,getElem?_pos _ i hi',getElem?_pos _ j hj'];refine YU (YW (YU (YW ?_)));rw[lt'_eq];refine YU (wpS_get ?_);rw[hB.kind,A0P];exact YU (ZO (ZQ (h0.lt _ mi _ mj nk _ _ ⟨rfl,YW h⟩)))
theorem ins_at{st:SortSt}{n ok:Nat}{Q:Bool->SortSt->Prop}(h0:LtF prog w A s f a₀)(hn:lo+n<=a₀.size)(hok:ok<=n)(hB:Sb a₀ a1 lo pd st)(hs:Sg f (arrOf st) lo ok)
 (h:∀ st',Sb a₀ a1 lo pd st'->Sg f (arrOf st') lo n->Q true st'):wpS (YX prog w) A E s (binarySort' lo n ok) Q st:=by
 rw[A0O]
 refine YU (Yq (Yj (I:=λk c st'=>c=(none,())/\Sb a₀ a1 lo pd st'/\Sg f (arrOf st') lo (min k n))
  (Q:=λc st'=>c=(none,())/\Sb a₀ a1 lo pd st'/\Sg f (arrOf st') lo n) ?one ?out ?ini) ?beh)
 case beh=>rintro c st' ⟨rfl,b,g⟩;exact YW (h st' b g)
 case ini=>
  refine⟨rfl,hB,λi j hij hj=>?_⟩;rcases WU ok with z | z
  ·rw[show i=j by omega];exact VM _
  ·exact hs i j hij (by omega)
 case out=>
  rintro c st' ⟨e,b,g⟩;rw[show min (max (max ok 1) n) n=n by omega]at g;exact⟨e,b,g⟩
 case one=>
  rintro k c st' a b ⟨rfl,hb,g⟩;rw[show min k n=k by omega]at g;have hk:lo+k<a₀.size:=by omega
  refine YU (Yq (Yj (I:=λx c z=>z=st'/\∃ l r,c=(none,l,r)/\l<=r/\r<=k/\r - l<=k - x/\(∀ i,i<l->KF f (arrOf st') (lo+i)<=KF f (arrOf st') (lo+k))/\∀ i,r<=i->i<k->KF f (arrOf st') (lo+k)<KF f (arrOf st') (lo+i))
   (Q:=λc z=>z=st'/\∃ l r,c=(none,l,r)/\l<=k/\(∀ i,i<l->KF f (arrOf st') (lo+i)<=KF f (arrOf st') (lo+k))/\∀ i,l<=i->i<k->KF f (arrOf st') (lo+k)<KF f (arrOf st') (lo+i)) ?i1 ?i2 ?i3) ?i4)
  case i3=>exact⟨rfl,0,k,rfl,by omega,by omega,by omega,λi hi=>by omega,λi h1 h2=>by omega⟩
  case i2=>
   rintro c z ⟨rfl,l,r,rfl,h1,h2,h3,h4,h5⟩;rw[show r=l by omega]at h5;exact⟨rfl,l,r,rfl,by omega,h4,h5⟩
  case i1=>
   rintro x c z _ hx ⟨rfl,l,r,rfl,h1,h2,h3,h4,h5⟩;dsimp only;by_cases ge:l≥r
   ·rw[iP ge];rw[show r=l by omega]at h5;exact YW ⟨rfl,l,r,rfl,by omega,h4,h5⟩
   ·rw[iG ge];refine YU (lt_at hb h0 hk (by omega) (by omega) ?_);by_cases y:KF f (arrOf z) (lo+k)<KF f (arrOf z) (lo+(l+r) / 2)
    ·simp only[y,decide_true,if_true];exact YW ⟨rfl,l,(l+r) / 2,rfl,by omega,by omega,by omega,h4,λi p q=>XZ y (g _ _ p q)⟩
    ·simp only[y,decide_false,V2,if_false];exact YW ⟨rfl,(l+r) / 2+1,r,rfl,by omega,by omega,by omega,λi p=>V5 (g i ((l+r) / 2) (by omega) (by omega)) (Wo.mp y),h5⟩
  case i4=>
   rintro c z ⟨rfl,l,r,rfl,h1,h4,h5⟩;show wpS _ _ _ _ (do moveDown' (lo+k) (lo+l);pure (ForInStep.yield (none,()))) _ _;rw[moveDown'_eq];have hz:lo+k<(arrOf z).size:=by rw[hb.size];exact hk
   refine YU (Yp (YW ⟨rfl,hb.put (bubble_perm _ _ _) (λi hi=>bub_pre hz (by omega) (by omega)),?_⟩));rw[show min (k+1) n=k+1 by omega];intro i j hij hj;show KF f (bubble (arrOf z) (lo+k) (lo+k - (lo+l))) (lo+i)<=KF f (bubble (arrOf z) (lo+k) (lo+k - (lo+l))) (lo+j);rw[Dr hz (by omega),Dr hz (by omega),show lo+k - (lo+k - (lo+l))=lo+l by omega];by_cases i1:i<l
   ·rw[iG (by omega),iG (by omega)];by_cases j1:j<l
    ·rw[iG (by omega),iG (by omega)];exact g _ _ hij (by omega)
    ·by_cases j2:j=l
     ·rw[iP (by omega)];exact h4 _ i1
     ·rw[iG (by omega),iP (by omega),show lo+j - 1=lo+(j - 1) by omega];exact g _ _ (by omega) (by omega)
   ·by_cases i2:i=l
    ·rw[iP (by omega)];by_cases j2:j=l
     ·rw[iP (by omega)];exact VM _
     ·rw[iG (by omega),iP (by omega),show lo+j - 1=lo+(j - 1) by omega];exact V6 (h5 _ (by omega) (by omega))
    ·rw[iG (by omega),iP (by omega),iG (by omega),iP (by omega),show lo+i - 1=lo+(i - 1) by omega,show lo+j - 1=lo+(j - 1) by omega];exact g _ _ (by omega) (by omega)
end
noncomputable def upL(lo a m:Nat):StateT SortSt Sem AscSt:=
 forIn [a:m] ((none,a):AscSt) λ_ c=>do
  match <- ltAt' (lo+c.2) (lo+c.2 - 1) with
  | some b=>if b=true then pure (.done (none,c.2)) else pure (.yield (none,c.2+1))
  | _=>pure (.done (some none,c.2))
noncomputable def endL(lo n m:Nat):StateT SortSt Sem (Option Nat):=do
 Yh lo (lo+n)
 let c <- upL lo n m
 match c.1 with
 | some r=>pure r
 | none=>pure (some c.2)
noncomputable def dnL(lo n m:Nat):StateT SortSt Sem DescSt:=
 forIn [n:m] ((none,n,0):DescSt) λ_ c=>do
  match <- ltAt' (lo+c.2.1) (lo+c.2.1 - 1) with
  | some b=>
    if b=true then
     if c.2.2>0 then do
      Yh (lo+c.2.1 - (c.2.2+1)) (lo+c.2.1)
      pure (.yield (none,c.2.1+1,0))
     else pure (.yield (none,c.2.1+1,0))
    else do
     match <- ltAt' (lo+c.2.1 - 1) (lo+c.2.1) with
     | some d=>if d=true then pure (.done (none,c.2.1,c.2.2)) else pure (.yield (none,c.2.1+1,c.2.2+1))
     | _=>pure (.done (some none,c.2.1,c.2.2))
  | _=>pure (.done (some none,c.2.1,c.2.2))
noncomputable def dpL(lo n m:Nat):StateT SortSt Sem (Option Nat):=do
 liftM (rule "list.sort.descending-run")
 let c <- dnL lo (n+1) m
 match c.1 with
 | some r=>pure r
 | none=>
   if c.2.2>0 then do
    Yh (lo+c.2.1 - (c.2.2+1)) (lo+c.2.1)
    endL lo c.2.1 m
   else endL lo c.2.1 m
theorem run_eq(lo m:Nat):A0z lo m=(do
 let c <- upL lo 1 m
 match c.1 with
 | some r=>pure r
 | none=>
   if (c.2 == m)=true then pure (some c.2)
   else if c.2>1 then do
    match <- ltAt' lo (lo+c.2 - 1) with
    | some b=>if b=true then pure (some c.2) else do
       Yh lo (lo+c.2)
       dpL lo c.2 m
    | _=>pure none
   else dpL lo c.2 m):=by
 rw[countRun'_eq];have e3:∀ n (f:PUnit->StateT SortSt Sem (Option Nat)),(∀ u,f u=(upL lo n m >>= λc=>match c.1 with | some r=>pure r | none=>pure (some c.2)))->(Yh lo (lo+n) >>= f)=endL lo n m:=λn f h=>congrArg (λk=>Yh lo (lo+n) >>= k) (funext h);have up:∀ n (f g:AscSt->StateT SortSt Sem (Option Nat)),(∀ r n,f (r,n)=g (r,n))->(upL lo n m >>= f)=(upL lo n m >>= g):=λn f g h=>congrArg (λk=>upL lo n m >>= k) (funext λc=>h c.1 c.2);have dn:∀ n (f g:DescSt->StateT SortSt Sem (Option Nat)),(∀ r n q,f (r,n,q)=g (r,n,q))->(dnL lo n m >>= f)=(dnL lo n m >>= g):=λn f g h=>congrArg (λk=>dnL lo n m >>= k) (funext λc=>h c.1 c.2.1 c.2.2)
 have dp:∀ n (f:PUnit->StateT SortSt Sem (Option Nat)),(∀ u,f u=(dnL lo (n+1) m >>= λc=>match c.1 with
  | some r=>pure r
  | none=>if c.2.2>0 then do
     Yh (lo+c.2.1 - (c.2.2+1)) (lo+c.2.1)
     endL lo c.2.1 m
    else endL lo c.2.1 m))->(liftM (rule "list.sort.descending-run") >>= f)=dpL lo n m:=λn f h=>congrArg (λk=>liftM (rule "list.sort.descending-run") >>= k) (funext h)
 refine up 1 _ _ λr n=>?_;cases r with
 | some r=>rfl
 | none=>
   dsimp only;split
   ·rfl
   ·split
    ·refine congrArg (λk=>ltAt' lo (lo+n - 1) >>= k) (funext λx=>?_);cases x with
     | none=>rfl
     | some b=>
       dsimp only;split
       ·rfl
       ·refine congrArg (λk=>Yh lo (lo+n) >>= k) (funext λu=>?_);refine dp n _ λu=>dn (n+1) _ _ λr n q=>?_;cases r with
        | some r=>rfl
        | none=>
          dsimp only;split
          ·refine congrArg (λk=>Yh (lo+n - (q+1)) (lo+n) >>= k) (funext λu=>?_);exact e3 n _ λu=>up n _ _ λr n=>by cases r<;>rfl
          ·exact e3 n _ λu=>up n _ _ λr n=>by cases r<;>rfl
    ·refine dp n _ λu=>dn (n+1) _ _ λr n q=>?_;cases r with
     | some r=>rfl
     | none=>
       dsimp only;split
       ·refine congrArg (λk=>Yh (lo+n - (q+1)) (lo+n) >>= k) (funext λu=>?_);exact e3 n _ λu=>up n _ _ λr n=>by cases r<;>rfl
       ·exact e3 n _ λu=>up n _ _ λr n=>by cases r<;>rfl
section
variable{prog:YZ}{w:Yc}{A:Yf}{E:YQ->YS->Prop}{s:YS}{a₀ a1:Array Keyed}{lo:Nat}{pd:Array (Nat×Nat×Nat)}
theorem rev_at{st:SortSt}{i j:Nat}{Q:Unit->SortSt->Prop}(h:Q () (setArr st (mirror (arrOf st) i j ((j - i) / 2)))):wpS (YX prog w) A E s (Yh i j) Q st:=by
 rw[A0A];exact Yp h
theorem Sb.mir{st:SortSt}(hB:Sb a₀ a1 lo pd st){i j:Nat}(hi:lo<=i)(hj:j<=a₀.size):Sb a₀ a1 lo pd (setArr st (mirror (arrOf st) i j ((j - i) / 2))):=
 hB.put (mirror_perm _ _ _ _) λk hk=>mir_pre (by rw[hB.size];exact hj) (by omega)
theorem Sg.more{xs:Array Keyed}{x:Nat}(h:Sg f xs lo x)(h1:1<=x)(hx:KF f xs (lo+x - 1)<=KF f xs (lo+x)):Sg f xs lo (x+1):=λi j hij hj=>by
 by_cases z:j<x
 ·exact h i j hij z
 ·rw[show j=x by omega];by_cases y:i=x
  ·rw[y];exact VM _
  ·refine V5 (h i (x - 1) (by omega) (by omega)) ?_;rw[show lo+(x - 1)=lo+x - 1 by omega];exact hx
theorem Dg.more{xs ys:Array Keyed}{x:Nat}(h:Dg f xs lo x)(e:∀ k,KF f ys k=KF f xs k)(h1:1<=x)(hx:KF f xs (lo+x)<=KF f xs (lo+x - 1)):Dg f ys lo (x+1):=λi j hij hj=>by
 rw[e,e];by_cases z:j<x
 ·exact h i j hij z
 ·rw[show j=x by omega];by_cases y:i=x
  ·rw[y];exact VM _
  ·have:=h i (x - 1) (by omega) (by omega);rw[show lo+(x - 1)=lo+x - 1 by omega]at this;exact V5 hx this
theorem up_at{st:SortSt}{a m:Nat}{Q:AscSt->SortSt->Prop}(h0:LtF prog w A s f a₀)(hm:lo+m<=a₀.size)(ha:1<=a)(ham:a<=m)(hB:Sb a₀ a1 lo pd st)(hs:Sg f (arrOf st) lo a)
 (h:∀ n,a<=n->n<=m->Sg f (arrOf st) lo n->(n=m\/KF f (arrOf st) (lo+n)<KF f (arrOf st) (lo+n - 1))->Q (none,n) st):wpS (YX prog w) A E s (upL lo a m) Q st:=by
 unfold upL;refine Yj (I:=λx c z=>z=st/\c=(none,x)/\Sg f (arrOf st) lo x) (λx c z hx hxm=>?_) (λc z=>?_) ⟨rfl,rfl,hs⟩
 ·rintro⟨rfl,rfl,g⟩;refine YU (lt_at hB h0 (by omega) (by omega) (by omega) ?_);by_cases y:KF f (arrOf z) (lo+x)<KF f (arrOf z) (lo+x - 1)
  ·simp only[y,decide_true,if_true];exact YW (h x hx (by omega) g (.inr y))
  ·simp only[y,decide_false,V2,if_false];exact YW ⟨rfl,rfl,g.more (by omega) (Wo.mp y)⟩
 ·rintro⟨rfl,rfl,g⟩;rw[show max a m=m by omega]at g ⊢;exact h m ham (US _) g (.inl rfl)
theorem end_at{st:SortSt}{n m:Nat}{Q:Option Nat->SortSt->Prop}(h0:LtF prog w A s f a₀)(hm:lo+m<=a₀.size)(h1:1<=n)(hnm:n<=m)(hB:Sb a₀ a1 lo pd st)(hs:Dg f (arrOf st) lo n)
 (h:∀ k st',Sb a₀ a1 lo pd st'->1<=k->k<=m->Sg f (arrOf st') lo k->Q (some k) st'):wpS (YX prog w) A E s (endL lo n m) Q st:=by
 unfold endL;have hz:lo+n<=(arrOf st).size:=by rw[hB.size];omega
 have hB':=hB.mir (i:=lo) (j:=lo+n) (US _) (by omega);refine YU (rev_at (YU (up_at h0 hm h1 hnm hB' (λi j hij hj=>?_) λk k1 k2 g _=>YW (h k _ hB' (by omega) k2 g))));show KF f (mirror (arrOf st) lo (lo+n) _) (lo+i)<=KF f (mirror (arrOf st) lo (lo+n) _) (lo+j);rw[CA hz,CA hz,iP (by omega),iP (by omega)];have:=hs (n - 1 - j) (n - 1 - i) (by omega) (by omega);rw[show lo+(n - 1 - j)=lo+(lo+n) - 1 - (lo+j) by omega,show lo+(n - 1 - i)=lo+(lo+n) - 1 - (lo+i) by omega]at this;exact this
theorem dn_at{st:SortSt}{n m:Nat}{Q:DescSt->SortSt->Prop}(h0:LtF prog w A s f a₀)(hm:lo+m<=a₀.size)(h1:1<=n)(hnm:n<=m)(hB:Sb a₀ a1 lo pd st)(hs:Dg f (arrOf st) lo n)
 (h:∀ x q st',Sb a₀ a1 lo pd st'->n<=x->x<=m->Dg f (arrOf st') lo x->q+1<=x->(∀ i,lo+x - (q+1)<=i->i<lo+x->KF f (arrOf st') i=KF f (arrOf st') (lo+x - 1))->Q (none,x,q) st'):wpS (YX prog w) A E s (dnL lo n m) Q st:=by
 unfold dnL;refine Yj (I:=λx c z=>∃ q,c=(none,x,q)/\Sb a₀ a1 lo pd z/\Dg f (arrOf z) lo x/\q+1<=x/\∀ i,lo+x - (q+1)<=i->i<lo+x->KF f (arrOf z) i=KF f (arrOf z) (lo+x - 1)) (λx c z hx hxm=>?_) (λc z=>?_) ⟨0,rfl,hB,hs,by omega,λi a b=>by congr 1;omega⟩
 ·rintro⟨q,rfl,hb,g,hq,he⟩;have hz:lo+x<=(arrOf z).size:=by rw[hb.size];omega
  dsimp only;refine YU (lt_at hb h0 (by omega) (by omega) (by omega) ?_);by_cases y:KF f (arrOf z) (lo+x)<KF f (arrOf z) (lo+x - 1)
  ·simp only[y,decide_true,if_true];by_cases p:q>0
   ·rw[iP p];exact YU (rev_at (YW ⟨0,rfl,hb.mir (by omega) (by omega),g.more (v0 hz he) (by omega) (V6 y),by omega,λi a b=>by congr 1;omega⟩))
   ·rw[iG p];exact YW ⟨0,rfl,hb,g.more (λ_=>rfl) (by omega) (V6 y),by omega,λi a b=>by congr 1;omega⟩
  ·simp only[y,decide_false,V2,if_false];refine YU (lt_at hb h0 (by omega) (by omega) (by omega) ?_);by_cases v:KF f (arrOf z) (lo+x - 1)<KF f (arrOf z) (lo+x)
   ·simp only[v,decide_true,if_true];exact YW (h x q z hb hx (by omega) g hq he)
   ·simp only[v,decide_false,V2,if_false];have e:KF f (arrOf z) (lo+x)=KF f (arrOf z) (lo+x - 1):=by omega
    refine YW ⟨q+1,rfl,hb,g.more (λ_=>rfl) (by omega) (by omega),by omega,λi a b=>?_⟩;rw[show lo+(x+1) - 1=lo+x by omega];by_cases u:i=lo+x
    ·rw[u]
    ·rw[e];exact he i (by omega) (by omega)
 ·rintro⟨q,rfl,hb,g,hq,he⟩;rw[show max n m=m by omega]at g hq he ⊢;exact h m q z hb hnm (US _) g hq he
theorem dp_at{st:SortSt}{n m:Nat}{Q:Option Nat->SortSt->Prop}(h0:LtF prog w A s f a₀)(hm:lo+m<=a₀.size)(hnm:n+1<=m)(hB:Sb a₀ a1 lo pd st)(hs:Dg f (arrOf st) lo (n+1))
 (h:∀ k st',Sb a₀ a1 lo pd st'->1<=k->k<=m->Sg f (arrOf st') lo k->Q (some k) st'):wpS (YX prog w) A E s (dpL lo n m) Q st:=by
 unfold dpL;refine YU (ZO (Yy ⟨rfl,?_⟩));refine YU (dn_at h0 hm (by omega) hnm hB hs λx q st' hb hx1 hx2 g hq he=>?_);have hz:lo+x<=(arrOf st').size:=by rw[hb.size];omega
 dsimp only;by_cases p:q>0
 ·rw[iP p];refine YU (rev_at (end_at h0 hm (by omega) hx2 (hb.mir (by omega) (by omega)) (λi j hij hj=>?_) h));show KF f (mirror (arrOf st') _ _ _) (lo+j)<=KF f (mirror (arrOf st') _ _ _) (lo+i);rw[v0 hz he,v0 hz he];exact g i j hij hj
 ·rw[iG p];exact end_at h0 hm (by omega) hx2 hb g h
theorem run_at{st:SortSt}{m:Nat}{Q:Option Nat->SortSt->Prop}(h0:LtF prog w A s f a₀)(hm:lo+m<=a₀.size)(h1:1<=m)(hB:Sb a₀ a1 lo pd st)
 (h:∀ k st',Sb a₀ a1 lo pd st'->1<=k->k<=m->Sg f (arrOf st') lo k->Q (some k) st'):wpS (YX prog w) A E s (A0z lo m) Q st:=by
 rw[run_eq];refine YU (up_at h0 hm (US 1) h1 hB (λi j hij hj=>by rw[show i=j by omega];exact VM _) λn n1 n2 g hor=>?_);dsimp only;by_cases e:n=m
 ·rw[iP (by simpa using e)];exact YW (h n st hB n1 n2 g)
 ·rw[iG (by simpa using e)];have hlt:=hor.resolve_left e;by_cases z:n>1
  ·rw[iP z];refine YU (lt_at hB h0 (by omega) (by omega) (by omega) ?_);by_cases y:KF f (arrOf st) lo<KF f (arrOf st) (lo+n - 1)
   ·simp only[y,decide_true,if_true];exact YW (h n st hB n1 n2 g)
   ·simp only[y,decide_false,V2,if_false];have hz:lo+n<=(arrOf st).size:=by rw[hB.size];omega
    have al:∀ k,lo<=k->k<lo+n->KF f (arrOf st) k=KF f (arrOf st) (lo+n - 1):=λk a b=>by
     have p:=g 0 (k - lo) (by omega) (by omega);have q:=g (k - lo) (n - 1) (by omega) (by omega);rw[show lo+(k - lo)=k by omega]at p q;rw[show lo+(n - 1)=lo+n - 1 by omega]at q;rw[Xi]at p;omega
    refine YU (rev_at (dp_at h0 hm (by omega) (hB.mir (US _) (by omega)) ?_ h));refine Dg.more (xs:=arrOf st) (λi j hij hj=>?_) (v0 hz al) (by omega) (V6 hlt);rw[al _ (by omega) (by omega),al (lo+i) (by omega) (by omega)];exact VM _
  ·rw[iG z];have:n=1:=by omega
   subst this;refine dp_at h0 hm (by omega) hB ?_ h;exact Dg.more (xs:=arrOf st) (λi j hij hj=>by rw[show i=j by omega];exact VM _) (λ_=>rfl) (US _) (V6 hlt)
end
end Srf
namespace Rf
open PySem L2
theorem D4{d e:WE}(m:Mono d)(m1:Mono e):Mono (GQ d e):=λρ S P P' i h=>m _ _ _ _ (λx S1 ⟨k,kv0,a,b,h⟩=>⟨k,kv0,a,b,m1 _ _ _ _ (λy S2 ⟨j,kvs,a,b,q⟩=>⟨j,kvs,a,b,i _ _ q⟩) h⟩) h
theorem D5{d e v:WE}(m:Mono d)(m1:Mono e)(m2:Mono v):Mono (GR d e v):=λρ S P P' i h=>m _ _ _ _ (λx S1 ⟨k,kv0,a,b,h⟩=>⟨k,kv0,a,b,m1 _ _ _ _ (λy S2 h=>m2 _ _ _ _ (λz S3 ⟨j,kvs,a,b,q⟩=>⟨j,kvs,a,b,i _ _ q⟩) h) h⟩) h
theorem Ds{a:WE}(m:Mono a):Mono (LZ a):=λρ S P P' i h=>m _ _ _ _ (λx S1 ⟨kvs,b,q⟩=>⟨kvs,b,i _ _ q⟩) h
theorem FB{X:Cx}{ro r:Expr}{ap cp:Pos}{d e:WE×WT}(hu:X.A.units+1<cLine)(hd:Good X ro d)(he:Good X r e)(hn:A6 ro=true)(hl:(ap.endLine == cp.line)=true)(hs:f8 r=true):Good X (.Call (.Attribute ro "get" ap) [r] [] cp) (tt1 (GQ d.1 e.1)):=by
 refine .one (g8 _ (Kb hu hd.pe he.pe ⟨t6 hn,by rw[i8 hs];rfl,hl,by rw[i8 hs];rfl⟩) ?_) (D4 hd.m he.m) rfl;rintro σ H Q ⟨as,ρ,S,ok,en,h⟩;refine⟨as,ρ,S,ok,en,hd.m _ _ _ _ (λx S1 ⟨k,kv0,e0,hk,h⟩ as1 H1 w g1 ok1 rw1=>?_) h⟩;subst e0;obtain⟨a,k',ks0,e0,rfl,ea,rd0,_⟩:=BX ok1 rw1 hk;cases e0;have en1:=en.mono g1.pre (g1.ku ok);refine⟨a,rfl,.inl ⟨_,rd0⟩,as1,ρ,S1,ok1,en1,he.m _ _ _ _ (λy S2 ⟨i,kvs,e1,hk2,q⟩ as2 H2 w2 g2 ok2 rw2=>?_) h⟩;subst e1;obtain⟨a2,k',ks,e0,e2,ea2,rd,rr⟩:=BX ok2 (rl_loc.mpr ⟨a,CS g2.pre ea,rfl⟩) hk2;cases e0;cases e2;rw[rl_int]at rw2;subst rw2;have G:=g1.trans g2;refine⟨AZ ks (.inl i),.inl ⟨ks,.inl i,rd,rfl,rfl⟩,?_⟩;rcases rr.val i with⟨x',v',e1,e2,r'⟩ | ⟨e1,e2⟩
 ·rw[e1]at q;rw[e2];exact q as2 H2 _ G ok2 r'
 ·rw[e1]at q;rw[e2];exact q as2 H2 _ G ok2 (rl_non.mpr rfl)
theorem FC{X:Cx}{ro r r2:Expr}{ap cp:Pos}{d e v:WE×WT}(hu:X.A.units+1<cLine)(hd:Good X ro d)(he:Good X r e)(hv:Good X r2 v)(hn:A6 ro=true)(hl:(ap.endLine == cp.line)=true)(hs:f8 r=true)(hs2:f8 r2=true):Good X (.Call (.Attribute ro "get" ap) [r,r2] [] cp) (tt1 (GR d.1 e.1 v.1)):=by
 refine .one (g8 _ (Kc hu hd.pe he.pe hv.pe ⟨t6 hn,by rw[i8 hs,i8 hs2];rfl,hl,by rw[i8 hs,i8 hs2];rfl⟩) ?_) (D5 hd.m he.m hv.m) rfl;rintro σ H Q ⟨as,ρ,S,ok,en,h⟩;refine⟨as,ρ,S,ok,en,hd.m _ _ _ _ (λx S1 ⟨k,kv0,e0,hk,h⟩ as1 H1 w g1 ok1 rw1=>?_) h⟩;subst e0;obtain⟨a,k',ks0,e0,rfl,ea,rd0,_⟩:=BX ok1 rw1 hk;cases e0;have en1:=en.mono g1.pre (g1.ku ok);refine⟨a,rfl,.inl ⟨_,rd0⟩,as1,ρ,S1,ok1,en1,he.m _ _ _ _ (λy S2 h as2 H2 w2 g2 ok2 rw2=>?_) h⟩;refine⟨as2,ρ,S2,ok2,en1.mono g2.pre (g2.ku ok1),hv.m _ _ _ _ (λz S3 ⟨i,kvs,e1,hk3,q⟩ as3 H3 w3 g3 ok3 rw3=>?_) h⟩;subst e1;obtain⟨a2,k',ks,e0,e2,ea2,rd,rr⟩:=BX ok3 (rl_loc.mpr ⟨a,CS g3.pre (CS g2.pre ea),rfl⟩) hk3;cases e0;cases e2;rw[rl_int]at rw2;subst rw2;have G:=g1.trans (g2.trans g3);refine⟨AZ ks (.inl i),.inl ⟨ks,.inl i,rd,rfl,rfl⟩,?_⟩;rcases rr.val i with⟨x',v',e1,e2,r'⟩ | ⟨e1,e2⟩
 ·rw[e1]at q;rw[e2];exact q as3 H3 _ G ok3 r'
 ·rw[e1]at q;rw[e2];exact q as3 H3 _ G ok3 rw3
theorem RlD.keys{K:UL}{as:List YT}{H:Hp}:∀{kvs:List (Int×SV)} {ks:List (Key×V)},RlD K as H ks kvs->RlAll K as H (ks.map λp=>kV p.1) (kvs.map λp=>SV.int p.1)
 | [],_,h=>by rw[show _=[] from h];rfl
 | p::r,_,⟨v,t,e,a,h⟩=>by rw[e];exact⟨_,_,rfl,rl_int.mpr rfl,RlD.keys h⟩
theorem Gh{X:Cx}{T:List Str}{Δ:Nat->Sn}{k:Nat}{N:List Str}{sc:Yi}{r:Expr}{p q:Pos}{a:WE×WT}(C:Cok T Δ X k N sc)(hg:glo sc "list"=true)(ha:Good X r a)(hs:f8 r=true):Good X (.Call (.Name "list" p) [r] [] q) (tt1 (LZ a.1)):=by
 unfold glo at hg;simp only[UN,beq_iff_eq,Uu]at hg;have gl:Gl X "list":=by show X.env.scope.names.lookup ("list":Str)=_;rw[C.hs];exact hg.1.1
 refine .one (g8 _ (A0 (GG C.calm) gl (C.bl .list) D1 (Av ha.pe BU (i8 hs)) (by decide) hg.2 (i8 hs) rfl) ?_) (Ds ha.m) rfl;rintro σ H Q ⟨as,ρ,S,ok,en,h⟩;refine⟨as,ρ,S,ok,en,ha.m _ _ _ _ (λx S1 ⟨kvs,h1,q⟩ as1 H1 v g1 ok1 rv=>?_) h⟩;obtain⟨a,k,ks,rfl,rfl,ea,rd,rr⟩:=BX ok1 rv h1;exact⟨a,ks,rfl,rd,u7 ok1 (RlD.keys rr) (q.mono g1)⟩
end Rf
namespace L2
open PySem PySem.Spec PyProof.Rows
noncomputable def IterK(k:Bool)(h:Heap)(it l:YT)(i:Nat):Prop:=match k with
 | true=>h.IsTupleIter it l i
 | false=>h.IsListIter it l i
theorem IterK.obj{k:Bool}{h:Heap}{it l:YT}{i:Nat}(x:IterK k h it l i):∃ o,h.get? it=some o/\∀ v,o.data ≠ .cell v:=by
 cases k<;>(obtain⟨o,e,_,d⟩:=x;exact⟨o,e,λv q=>by rw[d]at q;cases q⟩)
theorem IterK.at{k:Bool}{h h':Heap}{it l:YT}{i:Nat}(x:IterK k h it l i)(f:∀ o,h.get? it=some o->h'.get? it=some o):IterK k h' it l i:=by
 cases k
 ·exact Heap.IsListIter.at x f
 ·exact Heap.IsTupleIter.at x f
end L2
namespace Rf
open PySem L2
noncomputable def FD(K:UL)(g:Tg):TG:=λv σ H Q=>∃ as ρ S x,Ok K as H S/\EnvOk K as H σ ρ/\Rl K as H v x/\wTg g x ρ λρ'=>∀ σ',EnvOk K as H σ' ρ'->Q σ' H
noncomputable def RK(K:UL)(g:Tgs):TGs:=λvs σ H Q=>∃ as ρ S xs,Ok K as H S/\EnvOk K as H σ ρ/\RlAll K as H vs xs/\AR g xs ρ λρ'=>∀ σ',EnvOk K as H σ' ρ'->Q σ' H
mutual
theorem w9:∀(g:Tg) {x:SV} {ρ:EnvS} {P P':EnvS->Prop},(∀ r,P r->P' r)->wTg g x ρ P->wTg g x ρ P'
 | .nm i,x,ρ,P,P',h,q=>by unfold wTg at q ⊢;exact h _ q
 | .tup ts,x,ρ,P,P',h,q=>by
   cases x with
   | tup xs=>unfold wTg at q ⊢;exact FE ts h q
   | _=>unfold wTg at q;exact q.elim
theorem FE:∀(g:Tgs) {x:List SV} {ρ:EnvS} {P P':EnvS->Prop},(∀ r,P r->P' r)->AR g x ρ P->AR g x ρ P'
 | .nil,x,ρ,P,P',h,q=>by
   cases x with
   | nil=>unfold AR at q ⊢;exact h _ q
   | cons _ _=>unfold AR at q;exact q.elim
 | .cons t ts,x,ρ,P,P',h,q=>by
   cases x with
   | nil=>unfold AR at q;exact q.elim
   | cons y ys=>unfold AR at q ⊢;exact w9 t (λr q=>FE ts h q) q
end
theorem BC{env:Env}:∀{es:List Expr},es.all f8=true->(Yx es env).length=es.length/\(Yx es env).findIdx? (·.1)=none/\∀ e r,es=e::r->(Yx (e::r) env).map (·.2)=assign e env::(Yx r env).map (·.2)
 | [],_=>⟨rfl,rfl,λe r h=>by cases h⟩
 | e::es,h=>by
   rw[Vb,UN]at h;obtain⟨h1,h2,_⟩:=BC (env:=env) h.2;have:Yx (e::es) env=(false,assign e env)::Yx es env:=by cases e<;>first | rfl | (have:=h.1;cases this)
   rw[this];refine⟨by simp[h1],by rw[List.findIdx?_cons,h2];rfl,λe' r z=>?_⟩;injection z with z1 z2;subst z1 z2;rw[this];rfl
theorem CB{k:Nat}{N:List Str}{sc:Yi}:∀{g:Tgs} {es:List Expr},AL k N sc g es=true->es.all f8=true
 | .nil,es,h=>by unfold AL at h;rw[VB]at h;subst h;rfl
 | .cons t ts,es,h=>by
   rw[AL]at h;replace h:=a8 h;obtain⟨e,he,h⟩:=h;simp only[UN]at h;rw[AU he,Vb,h.1.2,CB h.2];rfl
section
variable{X:Cx}{T:List Str}{Δ:Nat->Sn}{k:Nat}{N:List Str}{sc:Yi}
mutual
theorem Bq(C:Cok T Δ X k N sc):∀(g:Tg) (r:Expr),BR k N sc g r=true->PG X r (FD X.K g)
 | .nm i,r,h=>by
   rw[BR]at h;replace h:=a8 h;obtain⟨x,hx,h⟩:=h;obtain⟨p,rfl⟩:=BA hx
   ·simp only[UN,dQ]at h;obtain⟨⟨h1,h2⟩,h3⟩:=h;unfold loc at h3;simp only[V8,beq_iff_eq]at h3;have hl:Loc X.env.scope x:=by rw[C.hs];exact h3
    have hf:X.fn x=true\/X.env.scope.names.lookup x=some .local:=by
     rw[C.hs];rcases h3 with h3 | h3
     ·exact .inr h3
     ·exact .inl (C.fn i x h1 h2 h3)
    have b:=NC (X:=X) (pos:=p) (i:=i) (by rw[C.hN];exact C.nd) (by rw[C.hN];exact h2) hl hf;intro pins s σ H v u Q I rr hq;obtain⟨as,ρ,S,y,ok,en,rv,q⟩:=hq;unfold wTg at q;exact b pins s σ H v u Q I rr (q _ (en.set rv))
 | .tup ts,r,h=>by
   rw[BR]at h;replace h:=a8 h;obtain⟨es,he,h⟩:=h;obtain⟨j,p,rfl⟩:=CU he
   ·have st:=BC (env:=X.env) (CB h);have b:=Q6 (X:=X) (k:=j) (pos:=p) C.calm (Dt C ts es h) st.1 st.2.1;intro pins s σ H v u Q I rr hq;refine b pins s σ H v u Q I rr ?_;obtain⟨as,ρ,S,y,ok,en,rv,q⟩:=hq;cases y with
    | tup xs=>
      obtain⟨a,vs,rfl,ha,ra⟩:=rl_tup.mp rv;unfold wTg at q;refine⟨a,vs,rfl,SqT.of ha,?_,as,ρ,S,xs,ok,en,ra,q⟩;rw[ra.length];exact Hy ts es xs h q
    | _=>unfold wTg at q;exact q.elim
theorem Dt(C:Cok T Δ X k N sc):∀(g:Tgs) (es:List Expr),AL k N sc g es=true->PGs X es (RK X.K g)
 | .nil,es,h=>by
   rw[AL]at h;rw[VB]at h;subst h;intro pins s σ H vs us Q I rr hq;refine ND pins s σ H vs us Q I rr ?_;obtain⟨as,ρ,S,xs,ok,en,rv,q⟩:=hq;cases xs with
   | nil=>unfold AR at q;exact⟨rla_nil.mp rv,q _ en⟩
   | cons _ _=>unfold AR at q;exact q.elim
 | .cons t ts,el,h=>by
   have st:=BC (env:=X.env) (CB h);rw[AL]at h;replace h:=a8 h;obtain⟨e,he,h⟩:=h;simp only[UN]at h;rw[AU he]at st ⊢;generalize el.tail=es at h st;intro pins s σ H vs us Q I rr hq;refine Jz (Bq C t e h.1.1) (Dt C ts es h.2) (st.2.2 _ _ rfl) pins s σ H vs us Q I rr ?_;obtain⟨as,ρ,S,xs,ok,en,rv,q⟩:=hq;cases xs with
   | nil=>unfold AR at q;exact q.elim
   | cons y ys=>
     unfold AR at q;obtain⟨v,r,rfl,r1,r2⟩:=rla_cons.mp rv;exact⟨v,r,rfl,as,ρ,S,y,ok,en,r1,w9 t (λρ' q σ' en'=>⟨as,ρ',S,ys,ok,en',r2,q⟩) q⟩
theorem Hy:∀(g:Tgs) (es:List Expr) (xs:List SV) {ρ:EnvS} {P:EnvS->Prop},AL k N sc g es=true->AR g xs ρ P->xs.length=es.length
 | .nil,es,xs,ρ,P,h,q=>by
   rw[AL]at h;rw[VB]at h;subst h;cases xs with
   | nil=>rfl
   | cons _ _=>unfold AR at q;exact q.elim
 | .cons t ts,el,xs,ρ,P,h,q=>by
   rw[AL]at h;replace h:=a8 h;obtain⟨e,he,h⟩:=h;simp only[UN]at h;rw[AU he];generalize el.tail=es at h;cases xs with
   | nil=>unfold AR at q;exact q.elim
   | cons y ys=>
     unfold AR at q;obtain⟨ρ',q'⟩:=Hz t q;simp[Hy ts es ys h.2 q']
theorem Hz:∀(g:Tg) {x:SV} {ρ:EnvS} {P:EnvS->Prop},wTg g x ρ P->∃ ρ',P ρ'
 | .nm i,x,ρ,P,q=>by unfold wTg at q;exact⟨_,q⟩
 | .tup ts,x,ρ,P,q=>by
   cases x with
   | tup xs=>unfold wTg at q;exact FF ts q
   | _=>unfold wTg at q;exact q.elim
theorem FF:∀(g:Tgs) {xs:List SV} {ρ:EnvS} {P:EnvS->Prop},AR g xs ρ P->∃ ρ',P ρ'
 | .nil,xs,ρ,P,q=>by
   cases xs with
   | nil=>unfold AR at q;exact⟨_,q⟩
   | cons _ _=>unfold AR at q;exact q.elim
 | .cons t ts,xs,ρ,P,q=>by
   cases xs with
   | nil=>unfold AR at q;exact q.elim
   | cons y ys=>
     unfold AR at q;obtain⟨ρ',q'⟩:=Hz t q;exact FF ts q'
end
end
structure Gu(as:List YT)(H:Hp)(as':List YT)(H':Hp):Prop where
 pre:as <+: as'
 kp:KeepU H H'
theorem Gu.ku{K:UL}{as as':List YT}{H H':Hp}{S:Sto}(g:Gu as H as' H')(_:Ok K as H S):KeepU H H':=g.kp
theorem Go.gu{K:UL}{as as':List YT}{H H':Hp}{S:Sto}(g:Go as H as' H')(ok:Ok K as H S):Gu as H as' H':=⟨g.pre,g.ku ok⟩
noncomputable def Walks(K:UL)(as0:List YT)(H0:Hp)(J:It)(keep:Sto->Prop)(xs:List SV):Prop:=∀ as H S,Gu as0 H0 as H->Ok K as H S->keep S->
 (∀(i:Nat) (x:SV),xs[i]?=some x->J.go i H/\∀ v H',J.yld i H v H'->Go as H as H'/\Ok K as H' S/\Rl K as H' v x)/\J.stop xs.length H
noncomputable def Td(K:UL)(as:List YT)(H:Hp)(R:It->Hp->Prop):(Sto->Prop)->List SV->Sto->Prop:=λkeep xs S1=>∀ as1 H1 J,Go as H as1 H1->Ok K as1 H1 S1->Walks K as1 H1 J keep xs->R J H1
noncomputable def liftI(K:UL)(w:WI):TI:=λσ H R=>∃ as ρ S,Ok K as H S/\EnvOk K as H σ ρ/\w ρ S (Td K as H R)
noncomputable def MonoI(w:WI):Prop:=∀ ρ S (P P':(Sto->Prop)->List SV->Sto->Prop),(∀ k x S',P k x S'->P' k x S')->w ρ S P->w ρ S P'
structure GoodI(X:Cx)(tg r:Expr)(w:WI):Prop where
 pi:PI X tg r (liftI X.K w)
 m:MonoI w
section
variable{X:Cx}{K:UL}
theorem FG{as0 as:List YT}{H0 H:Hp}{S1 S:Sto}{x:SV}{v:V}{xs:List SV}(ok1:Ok K as0 H0 S1)(r:Rl K as0 H0 v x)(h:seqS x S1=some xs)(g:Gu as0 H0 as H)(ok:Ok K as H S)(kp:Cr x S1 S):Rl K as H v x/\seqS x S=some xs:=by
 refine⟨Rl.mono g.pre (g.ku ok1) x v r,?_⟩;cases x with
 | loc k=>
   have kp:S[k]?=S1[k]?:=kp;unfold seqS at h ⊢;simp only[kp];exact h
 | _=>exact h
theorem JX{as0:List YT}{H0:Hp}{S1:Sto}{x:SV}{a:YT}{xs:List SV}(ok1:Ok K as0 H0 S1)(r:Rl K as0 H0 (.ref a) x)(n:x ≠ .tup xs)(h:seqS x S1=some xs):Walks K as0 H0 (Itl K a) (Cr x S1) xs:=λas H S g ok kp=>by
 obtain⟨r',h'⟩:=FG ok1 r h g ok kp;obtain⟨b,vs,e,hq,rr⟩:=AH ok r' n h';cases e;refine⟨λi y hy=>?_,vs,hq,by rw[rr.length];exact US _⟩;obtain⟨v,hv,rv⟩:=rr.get hy;refine⟨⟨vs,v,hq,hv⟩,λu H' yl=>?_⟩;obtain⟨e,yl⟩:=yl;subst e;have:=yl vs hq;rw[hv]at this;cases this;exact⟨Go.refl _ _,ok,rv⟩
theorem MA{as0:List YT}{H0:Hp}{S1:Sto}{a:YT}{xs:List SV}(ok1:Ok K as0 H0 S1)(r:Rl K as0 H0 (.ref a) (.tup xs)):Walks K as0 H0 (Itt K a) (Cr (.tup xs) S1) xs:=λas H S g ok kp=>by
 have r':=Rl.mono g.pre (g.ku ok1) _ _ r;obtain⟨b,vs,e,hb,rr⟩:=rl_tup.mp r';cases e;refine⟨λi y hy=>?_,vs,SqT.of hb,by rw[rr.length];exact US _⟩;obtain⟨v,hv,rv⟩:=rr.get hy;refine⟨⟨vs,v,SqT.of hb,hv⟩,λu H' yl=>?_⟩;obtain⟨e,yl⟩:=yl;subst e;have:=yl vs (SqT.of hb);rw[hv]at this;cases this;exact⟨Go.refl _ _,ok,rv⟩
theorem MB{as0:List YT}{H0:Hp}{lo hi:Int}:Walks K as0 H0 (Itr lo (hi - lo).toNat) (λ_=>True) (Ay lo hi):=λas H S g ok _=>by
 have hl:(Ay lo hi).length=(hi - lo).toNat:=by unfold Ay;simp
 refine⟨λi y hy=>?_,by show(hi - lo).toNat<=(Ay lo hi).length;rw[hl];exact US _⟩;have hi':i<(hi - lo).toNat:=by rw[<-hl];exact(gM hy).1
 refine⟨hi',λu H' yl=>?_⟩;obtain⟨e,rfl⟩:=yl;subst e
 have:y = .int (lo+i):=by
  unfold Ay at hy;rw[UZ,W7 hi']at hy;exact(oj hy).symm
 subst this;exact⟨Go.refl _ _,ok,rl_int.mpr rfl⟩
theorem FH{xs:List SV}{i:Nat}{y:SV}(h:(B9 xs)[i]?=some y):∃ x,xs[i]?=some x/\y = .tup [.int i,x]:=by
 unfold B9 at h;rw[XM]at h;cases h1:(Uj xs.length)[i]? with
 | none=>rw[h1]at h;cases h
 | some j=>
   cases h2:xs[i]? with
   | none=>rw[h1,h2]at h;cases h
   | some x=>
     rw[h1,h2]at h;have hi:=(gM h2).1;rw[W7 hi]at h1;cases h1;cases h;exact⟨x,rfl,rfl⟩
theorem FI{xs:List SV}:(B9 xs).length=xs.length:=by unfold B9;simp
theorem Gi{as0:List YT}{H0:Hp}{S1:Sto}{x:SV}{a:YT}{xs:List SV}(ok1:Ok K as0 H0 S1)(r:Rl K as0 H0 (.ref a) x)(n:x ≠ .tup xs)(h:seqS x S1=some xs):Walks K as0 H0 (QP K a) (Cr x S1) (B9 xs):=λas H S g ok kp=>by
 obtain⟨r',h'⟩:=FG ok1 r h g ok kp;obtain⟨b,vs,e,hq,rr⟩:=AH ok r' n h';cases e;refine⟨λi y hy=>?_,vs,hq,by rw[rr.length,FI]⟩;obtain⟨z,hz,rfl⟩:=FH hy;obtain⟨v,hv,rv⟩:=rr.get hz;refine⟨⟨vs,v,hq,hv⟩,λu H' yl=>?_⟩;obtain⟨p,w,hp,rfl,yl,rfl⟩:=yl;have:=yl vs hq;rw[hv]at this;cases this;exact⟨Go.new hp,ok.new hp,rl_tup.mpr ⟨p,_,rfl,g7,.cons (rl_int.mpr rfl) (.cons (Rl.mono (Ur _) (Ak hp) z v rv) .nil)⟩⟩
theorem Gj{as0:List YT}{H0:Hp}{S1:Sto}{a:YT}{xs:List SV}(ok1:Ok K as0 H0 S1)(r:Rl K as0 H0 (.ref a) (.tup xs)):Walks K as0 H0 (QQ K a) (Cr (.tup xs) S1) (B9 xs):=λas H S g ok kp=>by
 have r':=Rl.mono g.pre (g.ku ok1) _ _ r;obtain⟨b,vs,e,hb,rr⟩:=rl_tup.mp r';cases e;refine⟨λi y hy=>?_,vs,SqT.of hb,by rw[rr.length,FI]⟩;obtain⟨z,hz,rfl⟩:=FH hy;obtain⟨v,hv,rv⟩:=rr.get hz;refine⟨⟨vs,v,SqT.of hb,hv⟩,λu H' yl=>?_⟩;obtain⟨p,w,hp,rfl,yl,rfl⟩:=yl;have:=yl vs (SqT.of hb);rw[hv]at this;cases this;exact⟨Go.new hp,ok.new hp,rl_tup.mpr ⟨p,_,rfl,g7,.cons (rl_int.mpr rfl) (.cons (Rl.mono (Ur _) (Ak hp) z v rv) .nil)⟩⟩
theorem Gk{tg l:Expr}{w:TI}(w':TI)(h:PI X tg l w)(imp:∀ σ H R,w' σ H R->w σ H R):PI X tg l w':=λpins s σ H R I hw=>h pins s σ H R I (imp σ H R hw)
noncomputable def UG(K:UL)(tl:TE):TI:=λσ H R=>tl σ H λx H1=>∃ a,x = .ref a/\(((∃ xs,SqL K H1 a xs)/\R (Itl K a) H1)\/((∃ xs,SqT K H1 a xs)/\R (Itt K a) H1))
theorem RL{tg l:Expr}{tl:TE}(hl:PE X l tl):PI X tg l (UG X.K tl):=by
 intro pins s σ H R I h;refine thn (hl pins s σ H _ I h) λv s1 ⟨x,H1,I1,r1,q1⟩=>?_;obtain⟨a,e,q⟩:=q1;subst e;cases r1;have I2:∀{ob:Obj},Inv X pins σ H1 {s1 with heap:=s1.heap.push ob}:=I1.kept (t':=s1.toks) λb o e=>UP _ e
 have fp:∀ b∈[s1.heap.objs.size],FpOk X pins H1 b:=λb hb=>by
  rw[UT.mp hb];exact I1.fpOk (US _) (I1.hok.fresh (US _))
 rcases q with⟨⟨xs,hq⟩,q⟩ | ⟨⟨xs,hq⟩,q⟩
 ·obtain⟨its,rv,p,hz⟩:=I1.list hq;exact ZN p.isList ⟨s1.heap.objs.size,[s1.heap.objs.size],_,_,H1,rfl,I2,IZ a _,⟨_,UY _ rfl,rfl,rfl⟩,fp,q⟩
 ·obtain⟨its,rv,p,hz⟩:=I1.tuple hq;exact ZA (show s1.heap.IsTuple a its.toArray from p) ⟨s1.heap.objs.size,[s1.heap.objs.size],_,_,H1,rfl,I2,Ft a _,⟨_,UY _ rfl,rfl,rfl⟩,fp,q⟩
theorem JY{tg r:Expr}{a:WE×WT}(ha:Good X r a):GoodI X tg r (Pd a.1) where
 m:=λρ S P P' i h=>ha.m _ _ _ _ (λx S1 ⟨xs,e,q⟩=>⟨xs,e,i _ _ _ q⟩) h
 pi:=Gk _ (RL ha.pe) (by
  rintro σ H R ⟨as,ρ,S,ok,en,h⟩;refine⟨as,ρ,S,ok,en,ha.m _ _ _ _ (λx S1 ⟨xs,e,q⟩ as1 H1 v g1 ok1 rv=>?_) h⟩;by_cases ht:x = .tup xs
  ·subst ht;obtain⟨p,vs,rfl,hp,rr⟩:=rl_tup.mp rv;exact⟨p,rfl,.inr ⟨⟨vs,SqT.of hp⟩,q as1 H1 _ g1 ok1 (MA ok1 rv)⟩⟩
  ·obtain⟨p,vs,rfl,hq,rr⟩:=AH ok1 rv ht e;exact⟨p,rfl,.inl ⟨⟨vs,hq⟩,q as1 H1 _ g1 ok1 (JX ok1 rv ht e)⟩⟩)
theorem Gn{T:List Str}{Δ:Nat->Sn}{k:Nat}{N:List Str}{sc:Yi}{elts:List Expr}{kx:Nat}{tp p q:Pos}{r:Expr}{a:WE×WT}(C:Cok T Δ X k N sc)(hg:glo sc "enumerate"=true)(ha:Good X r a)(hs:f8 r=true):GoodI X (.Tuple elts kx tp) (.Call (.Name "enumerate" p) [r] [] q) (LX a.1) where
 m:=λρ S P P' i h=>ha.m _ _ _ _ (λx S1 ⟨xs,e,q⟩=>⟨xs,e,i _ _ _ q⟩) h
 pi:=by
  unfold glo at hg;simp only[UN,beq_iff_eq,Uu]at hg;have gl:Gl X "enumerate":=by show X.env.scope.names.lookup ("enumerate":Str)=_;rw[C.hs];exact hg.1.1
  refine Gk _ (NN gl C.enm (Av ha.pe BU (i8 hs)) (i8 hs)) ?_;rintro σ H R ⟨as,ρ,S,ok,en,h⟩;refine⟨as,ρ,S,ok,en,ha.m _ _ _ _ (λx S1 ⟨xs,e,q⟩ as1 H1 v g1 ok1 rv=>?_) h⟩;by_cases ht:x = .tup xs
  ·subst ht;obtain⟨p,vs,rfl,hp,rr⟩:=rl_tup.mp rv;exact⟨p,rfl,.inr ⟨⟨vs,SqT.of hp⟩,q as1 H1 _ g1 ok1 (Gj ok1 rv)⟩⟩
  ·obtain⟨p,vs,rfl,hq,rr⟩:=AH ok1 rv ht e;exact⟨p,rfl,.inl ⟨⟨vs,hq⟩,q as1 H1 _ g1 ok1 (Gi ok1 rv ht e)⟩⟩
theorem Gp{T:List Str}{Δ:Nat->Sn}{k:Nat}{N:List Str}{sc:Yi}{tg r:Expr}{p q:Pos}{a:WE×WT}(C:Cok T Δ X k N sc)(hg:glo sc "range"=true)(ha:Good X r a)(hs:f8 r=true):GoodI X tg (.Call (.Name "range" p) [r] [] q) (LW a.1) where
 m:=λρ S P P' i h=>ha.m _ _ _ _ (λx S1 ⟨j,e,z,q⟩=>⟨j,e,z,i _ _ _ q⟩) h
 pi:=by
  unfold glo at hg;simp only[UN,beq_iff_eq,Uu]at hg;have gl:Gl X "range":=by show X.env.scope.names.lookup ("range":Str)=_;rw[C.hs];exact hg.1.1
  refine Gk _ (Ia gl C.rng (Av ha.pe BU (i8 hs)) (i8 hs)) ?_;rintro σ H R ⟨as,ρ,S,ok,en,h⟩;refine⟨as,ρ,S,ok,en,ha.m _ _ _ _ (λx S1 ⟨j,e,z,q⟩ as1 H1 v g1 ok1 rv=>?_) h⟩;subst e;refine⟨j,by rw[rl_int.mp rv],z.1,z.2,?_⟩;have:=q as1 H1 (Itr 0 (j - 0).toNat) g1 ok1 MB
  rwa [Int.sub_zero]at this
end
end Rf
namespace L2
open PySem PySem.Spec PyProof.Rows
noncomputable def SetXO(prog:YZ)(w:Yc)(o:Obj)(L:List Int):Prop:=
 ∃ es ep t,o.ExactSet/\o.data = .set es ep t/\ElemsOf (intKind prog w) es.toList/\es.size<ZD/\t.fits es.size=true/\Tab w t/\(es.toList.map λe=>numOf e.2).Perm L
theorem SetXO.at{prog:YZ}{w:Yc}{o:Obj}{L:List Int}{h:Heap}{a:YT}(x:SetXO prog w o L)(e:h.get? a=some o):SetX prog w h a L:=let ⟨es,ep,t,r⟩:=x;⟨o,es,ep,t,e,r⟩
theorem SetX.obj{prog:YZ}{w:Yc}{L:List Int}{h:Heap}{a:YT}(x:SetX prog w h a L):∃ o,h.get? a=some o/\SetXO prog w o L:=let ⟨o,es,ep,t,e,r⟩:=x;⟨o,e,es,ep,t,r⟩
noncomputable def hoS(o:Obj)(L:List Int):HO := .frz o (.set (λk=>decide (k∈L)) L.length)
noncomputable def PEk{α:Type}(Y:Cx)(emit:YQ->Env->Sem Unit)(tem:YT->α->St->Hp->(α->Hp->Prop)->Prop):Prop:=∀ D pins s σ H a N,Inv Y pins σ H s->tem D a σ H N->YY (YX Y.prog Y.w) Y.A (emit (.ref D) Y.env) (λ_ s1=>∃ a1 H1,Inv Y pins σ H1 s1/\N a1 H1) (λ_ _=>False) s
noncomputable def PEm{α:Type}(Y:Cx)(emit:YQ->Env->Sem Unit)(tem:YT->α->St->Hp->(α->Hp->Prop)->Prop):Prop:=∀ D pins s σ H a N,Inv Y pins σ H s->tem D a σ H N->YY (YX Y.prog Y.w) Y.A (emit (.ref D) Y.env) (λ_ s1=>∃ σ1 a1 H1,Inv Y pins σ1 H1 s1/\N a1 H1) (λ_ _=>False) s
theorem PEk.m{α:Type}{Y:Cx}{emit:YQ->Env->Sem Unit}{tem:YT->α->St->Hp->(α->Hp->Prop)->Prop}(h:PEk Y emit tem):PEm Y emit tem:=λD pins s σ H a N I q=>thn (h D pins s σ H a N I q) λ_ _ ⟨a1,H1,r⟩=>⟨σ,a1,H1,r⟩
section
variable{Y:Cx}{elt kx vx:Expr}{te tv:TE}(hx:Y.xe=λ_ _=>False)
include hx
theorem RM(he:PE Y elt te):PEk Y (PH elt) (Sa te):=by
 intro D pins s σ H ys N I h;have e3:=he pins s σ H _ I h;rw[hx]at e3;refine YR (thn e3 λy s8 ⟨v,H8,I8,r8,hD8,hz8,q8⟩=>?_);have e4:=By (X:=Y) pins s8 σ H8 (.ref D) [v] (.ref D) [y] (λ_ H9=>H9=upd H8 D (.lst (ys++[v]))) I8 rfl (.cons r8 .nil) ⟨_,ys,v,rfl,rfl,hD8,hz8,rfl⟩;rw[hx]at e4;refine YR (thn e4 λ_ s9 ⟨z,H9,I9,r9,e9⟩=>?_);subst e9;exact YV ⟨_,_,I9,q8⟩
end
structure CKind(X:Cx)(E tg iter:Expr)(ifs:List Expr)(scope:Yi)(emit:YQ->Env->Sem Unit)(u0:HO) where
 mkS:Sem YQ
 o0:Obj
 pos0:Pos
 gs:List Zl
 F:CForm X.prog X.w X.A E tg iter ifs emit
 cl:clausesOf E=⟨tg,iter,ifs,0⟩::gs
 ev:eval E X.env=A0j E scope X.env pos0 mkS false (eval iter X.env) none
 ev2:∀ use,evalThenUse E X.env use=(do let _ <- A0j E scope X.env pos0 mkS false (eval iter X.env) (some use))
 hmk:∀{s2:YS} {Q:YQ->YS->Prop},Q (.ref s2.heap.objs.size) {s2 with heap:=s2.heap.push o0}->YY (YX X.prog X.w) X.A mkS Q X.xe s2
 nf:o0.isFreed=false
 new:∀{pins:List (YT×Obj)} {σ:St} {H2:Hp} {s2:YS},Inv X pins σ H2 s2->∀(H:Hp) (h:Heap),h.get? s2.heap.objs.size=some o0->ObjOk X.prog X.w H h s2.heap.objs.size u0
noncomputable def tCG{α:Type}(u0:HO)(a0:α)(tem:YT->α->St->Hp->(α->Hp->Prop)->Prop)(wi:TI)(g:TG)(tt:TT)(k:Nat)(js:List Nat)(fin:YT->Hp->Prop)(σ:St)(H:Hp):Prop:=wi σ H λJ H1=>∀ D,H1 D=none->
 ∃ W:Nat->Nat->α->Hp->Prop,(∃ m,W 0 m a0 (upd H1 D u0))/\KR J g tt (tem D) (BV k js σ) (λH=>fin D H) W
noncomputable def InB(X:Cx)(scope:Yi)(N:List Str)(P:Cx->Prop):Prop:=∀ s2 H2 cs C fp,P (r6 X scope N s2 H2 cs C fp)
section
variable{X:Cx}{α:Type}{E tg iter:Expr}{ifs:List Expr}{scope:Yi}{emit:YQ->Env->Sem Unit}{u0:HO}{a0:α}{tem:YT->α->St->Hp->(α->Hp->Prop)->Prop}{wi:TI}{g:TG}{tt:TT}{own cn:List Str}{js:List Nat}(Kd:CKind X E tg iter ifs scope emit u0)
 (hi:PI X tg iter wi) (hg:InB X scope (own++cn) λY=>PG Y tg g) (ht:InB X scope (own++cn) λY=>Ej Y ifs tt) (hem:InB X scope (own++cn) λY=>PEm Y emit tem) (hc:X.calm=true) (hok:v6 X.env.scope scope own cn X.N js=true) (hs:∀ x,Zi iter X.env x=pure x)
include Kd hi hg ht hem hc hok hs
theorem FJ{fin:YT->Hp->Prop}{use:Option (YQ->Sem Unit)}{Q':YQ->YS->Prop}{pins:List (YT×Obj)}{s:YS}{σ:St}{H:Hp}(I:Inv X pins σ H s)(h:tCG u0 a0 tem wi g tt own.length js fin σ H)
 (hend:∀ D C H' s',Inv X pins σ H' s'->FpOk X pins H' C->(∃ m,s'.heap.Ns C m)->fin D H'->compPost (YX X.prog X.w) X.A X.xe use Q' (.ref D) C (.ok .next) s'):
 YY (YX X.prog X.w) X.A (A0j E scope X.env Kd.pos0 Kd.mkS false (eval iter X.env) use) Q' X.xe s:=by
 have hok':=hok;unfold v6 at hok';simp only[UN,dQ,Uq,V8,Uu,decide_eq_false_iff_not]at hok';obtain⟨⟨⟨⟨⟨⟨k1,k2⟩,k3⟩,k4⟩,k5⟩,k6⟩,k7⟩:=hok'
 have hfree:∀ x∈scope.names,x.2 = .free->∃ c,X.env.cells.lookup x.1=some c:=λx hx hf=>I.ok.has x.1 (by
  rcases k2 x hx with(z | z) | z
  ·exact absurd hf z
  ·exact .inl z
  ·exact .inr z)
 refine wpAny_comprehension_free Kd.cl hs (Ad hfree) k1 (λx hx hl=>?_) (thn (hi pins s σ H _ I h) λv s1 h1=>thn h1 λitv s2 ⟨it,fp,tn,J,H2,e,I2,T,st2,f2,q⟩=>?_)
 ·rw[n0 k3 (show(x.1,x.2)∈scope.names from hx),hl]
 ·subst e;exact Ek (RR:=λacc C=>compPost (YX X.prog X.w) X.A X.xe use Q' acc C) Kd.F (Kd.hmk) Kd.nf (Kd.new I2) hok hc hg ht (λD s2 H2 cs C fp=>hem s2 H2 cs C fp D) I2 T st2 f2 (q _ I2.fresh) λC H' s' I' fC hn=>hend _ C H' s' I' fC hn
theorem MC:PE X E λσ H Q=>tCG u0 a0 tem wi g tt own.length js (λD H=>Q (.ref D) H) σ H:=by
 intro pins s σ H Q I h;rw[Kd.ev];refine FJ Kd hi hg ht hem hc hok hs I h λD C H' s' I' ⟨f0,f1,f2',f3,f4,f5⟩ ⟨m,hn⟩ q'=>⟨m,hn,λh' hs'=>⟨.ref D,H',?_,rfl,q'⟩⟩
 exact I'.turned (t':=s'.toks) (λb o hb e=>(hs'.2 b hb).trans e) f0 f1 f3 f4 f5
theorem FK{i:Nat}{x:Str}{px spos:Pos}(hN:X.N.Nodup)(hix:X.N[i]?=some x)(hx:X.env.scope.names.lookup x=some .local)(hsw:Z8 E (some (.Name x px)) spos.line X.env=pure true):PS X (.Assign [.Name x px] E spos) (Fs (λσ H Q=>tCG u0 a0 tem wi g tt own.length js (λD H=>Q (.ref D) H) σ H) (Ef i)):=by
 intro pins s σ H D I h;rw[exec_Assign_Name_used _ _ _ _ hsw,Kd.ev2];refine YR (Zk (YR (YR (Yo (FJ Kd (Q':=λ_ s'=>SP X pins D .next s') hi hg ht hem hc hok hs I h λD C H' s' I' ⟨f0,f1,f2',f3,f4,f5⟩ ⟨m,hn⟩ q'=>?_) (λ_ s' hq=>YV (YV hq)) λ_ _ e=>e))));show YY _ X.A (assign (.Name x px) X.env (.ref D)) _ _ _;refine A0m (DW I' hN hix (.inl hx) (v := .ref D) rfl (λs3 I3 ⟨a,hsb,ha⟩=>?_) (.inr hx))
 have hCa:C≠a:=by
  rcases ha with z | z
  ·rw[z];exact f1
  ·exact λe=>f4 x a z e.symm
 exact⟨m,hn.sameBut hsb hCa,λh' hs'=>⟨_,H',I3.turned (t':=s3.toks) (λb o hb e=>(hs'.2 b hb).trans e) f0 f1 f3 f4 f5,q'⟩⟩
end
section
variable{X:Cx}{tg iter elt kx vx:Expr}{ifs:List Expr}{gs:List Zl}{scope:Yi}{pos:Pos}{emit:YQ->Env->Sem Unit}
noncomputable def ckL(F:CForm X.prog X.w X.A (.ListComp elt (⟨tg,iter,ifs,0⟩::gs) scope pos) tg iter ifs emit):CKind X (.ListComp elt (⟨tg,iter,ifs,0⟩::gs) scope pos) tg iter ifs scope emit (.lst []) where
 mkS:=newList []
 o0:={cls := .type "list",dict:=none,data := .seq ([]:List YQ).toArray}
 pos0:=_
 gs:=gs
 F:=F
 cl:=rfl
 ev:=eval_ListComp ..
 ev2:=λ_=>rfl
 hmk:=λh=>Yw h
 nf:=rfl
 new:=λ_ _ _ hD=>⟨VX _,[],0,.nil,hD⟩
end
end L2
namespace Rf
open PySem L2
theorem JZ{α:Type}{o:Option (Option α)}{x:α}(h:o.join=some x):o=some (some x):=by
 cases o with
 | none=>cases h
 | some o=>cases o with
   | none=>cases h
   | some y=>cases h;rfl
theorem EnvOk.cap{K:UL}{as:List YT}{H:Hp}{σ:St}{ρ:EnvS}(h:EnvOk K as H σ ρ)(k:Nat)(js:List Nat):EnvOk K as H (BV k js σ) (F1 k js ρ):=by
 refine⟨by unfold BV F1;simp,λi x e=>?_⟩;unfold F1 at e;unfold BV;by_cases hi:i<k
 ·rw[Ud (by simpa using hi),Vi,iP hi]at e;cases e
 ·rw[Uw (by simpa using hi),WD,UZ]at e;rw[Uw (by simpa using hi),WD,UZ];cases hj:js[i - k]? with
  | none=>rw[hj]at e;cases e
  | some j=>
    rw[hj]at e;have e':(ρ[j]?).join=some x:=oj e;obtain⟨v,hv,rv⟩:=h.2 j x (JZ e');exact⟨v,by simp only[W2];rw[hv];rfl,rv⟩
theorem Ok.adoptO{K:UL}{as:List YT}{H:Hp}{S:Sto}{D:YT}{x:SO}(h:Ok K as H S)(n:D∉as)(r:RlO K (as++[D]) H D x):Ok K (as++[D]) H (S++[x]):=by
 have pre:as <+: as++[D]:=Vy _ _;refine⟨by rw[UR,UR,h.len];rfl,?_,λk o a e ea=>?_⟩
 ·rw[VN];refine⟨h.nd,by simp,λa ha b hb=>?_⟩;rw[UT.mp hb];intro z;subst z;exact n ha
 ·by_cases hk:k<S.length
  ·rw[Ud hk]at e;rw[Ud (by rw[h.len];exact hk)]at ea;exact(h.obj k o a e ea).mono pre (KeepU.refl _) λ_ z=>z
  ·have hk':k=S.length:=by
    have:=(gM e).1;rw[UR,VZ]at this;omega
   subst hk';rw[V1]at e;rw[<-h.len,V1]at ea;cases e;cases ea;exact r
theorem Ok.otherO{K:UL}{as:List YT}{H:Hp}{S:Sto}(h:Ok K as H S){b:YT}{u v:HO}(hb:H b=some u)(hi:imm u=false)(n:b∉as):Ok K as (upd H b v) S:=⟨h.len,h.nd,λk o a e ea=>(h.obj k o a e ea).mono (Ur as) (C3 hb hi) λws hw=>by
 rw[upd_ne (λz=>n (by rw[<-z];exact UO ea))];exact hw⟩
theorem Ja(ns:List Int)(i:Int):CN (ns++[i])=PyProof.Rows.step_dedup (CN ns) i:=by
 unfold CN;rw[UR,VZ,PyProof.Rows.firstMet_succ];have e1:(ns++[i]).getD ns.length 0=i:=by simp
 have e2:PyProof.Rows.firstMet (λj=>(ns++[i]).getD j 0) ns.length=PyProof.Rows.firstMet (λj=>ns.getD j 0) ns.length:=by
  unfold PyProof.Rows.firstMet
  congr 1
  refine VE λj hj=>?_;have hj:=V4.mp hj;simp[Ud hj]
 rw[e1,e2]
noncomputable def FL{β:Type}(em:WM β):Prop:=∀ ρ a S (N N':β->Sto->Prop),(∀ a S,N a S->N' a S)->em ρ a S N->em ρ a S N'
section
variable{β:Type}{keep:Sto->Prop}{g:Tg}{t:WT}{em:WM β}{e f:WE}
theorem D6(me:Mono e):FL (emL e):=λρ ys S N N' h=>me _ _ _ _ λy S2 q=>⟨q.1,h _ _ q.2⟩
theorem EQ{ρ:EnvS}(mt:MonoT t)(me:FL em){Q Q':β->Sto->Prop}(i:∀ a S,Q a S->Q' a S):∀(xs:List SV) (a:β) (S:Sto),wTG keep g t em ρ Q xs a S->wTG keep g t em ρ Q' xs a S
 | [],a,S,h=>⟨h.1,i _ _ h.2⟩
 | x::xs,a,S,h=>⟨h.1,w9 g (λρ2 q=>mt _ _ _ _ (λb S1 q=>m8 (λq=>me _ _ _ _ _ (λy S2 q=>EQ mt me i xs _ _ q) q) (λq=>EQ mt me i xs _ _ q) q) q) h.2⟩
theorem Mono.cG{k:Nat}{js:List Nat}{i:WI}{b0:β}{fin:QE->β->Sto->Prop}(mi:MonoI i)(mt:MonoT t)(me:FL em)(mf:∀ P P':QE,(∀ x S,P x S->P' x S)->∀ b S,fin P b S->fin P' b S):Mono (wCG k js g i t em b0 fin):=λρ S P P' im h=>mi _ _ _ _ (λkeep xs S1 h=>EQ mt me (mf _ _ im) xs _ S1 h) h
end
structure GoD(D:YT)(as:List YT)(H:Hp)(as':List YT)(H':Hp):Prop where
 pre:as <+: as'
 keep:∀ b o,H b=some o->b∉as->b≠D->H' b=some o/\b∉as'
 ku:KeepU H H'
 out:D∉as->D∉as'
section
variable{K:UL}{as as' as1 as2:List YT}{H H' H1 H2:Hp}{S:Sto}{D:YT}{u v:HO}
theorem GoD.refl:GoD D as H as H:=⟨Ur _,λ_ _ h n _=>⟨h,n⟩,KeepU.refl _,id⟩
theorem GoD.trans(a:GoD D as H as1 H1)(b:GoD D as1 H1 as2 H2):GoD D as H as2 H2:=⟨a.pre.trans b.pre,λx o h n z=>let ⟨h1,n1⟩:=a.keep x o h n z;b.keep x o h1 n1 z,a.ku.trans b.ku,λh=>b.out (a.out h)⟩
theorem Go.d(g:Go as H as1 H1)(ok:Ok K as H S)(hD:H D=some u):GoD D as H as1 H1:=⟨g.pre,λb o h n _=>g.keep b o h n,g.ku ok,λn=>(g.keep D _ hD n).2⟩
theorem GoD.put(hD:H D=some u)(i:imm u=false):GoD D as H as (upd H D v):=⟨Ur _,λb o h n z=>⟨by rw[upd_ne z];exact h,n⟩,C3 hD i,id⟩
theorem GoD.go(g:GoD D as (upd H D u) as' H')(hD:H D=none):Go as H as' H':=⟨g.pre,λb o h n=>g.keep b o (by rw[upd_ne (f7 h hD)];exact h) n (f7 h hD)⟩
end
structure Knd(α β:Type)(K:UL) where
 at_:List YT->Hp->YT->α->β->Prop
 mono:∀{as as' H H' D a b},as <+: as'->KeepU H H'->H' D=H D->at_ as H D a b->at_ as' H' D a b
 some:∀{as H D a b},at_ as H D a b->∃ u,H D=some u/\imm u=false
section
variable{K:UL}{α β:Type}{k:Knd α β K}
theorem Knd.go{as as':List YT}{H H':Hp}{S:Sto}{D:YT}{a:α}{b:β}(h:k.at_ as H D a b)(ok:Ok K as H S)(n:D∉as)(g:Go as H as' H'):GoD D as H as' H'/\k.at_ as' H' D a b/\D∉as':=by
 obtain⟨u,e,i⟩:=k.some h;have z:=g.keep D u e n;exact⟨g.d ok e,k.mono g.pre (g.ku ok) (z.1.trans e.symm) h,z.2⟩
noncomputable def RN(k:Knd α β K)(em:WM β)(tem:YT->α->St->Hp->(α->Hp->Prop)->Prop):Prop:=
 ∀ D a b σ ρ as H S (N:α->Hp->Prop) (N':β->Sto->Prop),D∉as->Ok K as H S->EnvOk K as H σ ρ->k.at_ as H D a b->em ρ b S N'->
  (∀ as' S' a' b' H',GoD D as H as' H'->Ok K as' H' S'->k.at_ as' H' D a' b'->N' b' S'->N a' H')->tem D a σ H N
theorem RO{em:WM β}{tem:YT->α->St->Hp->(α->Hp->Prop)->Prop}{n:Nat}{js:List Nat}{g:Tg}{i:WI}{t:WT}{a0:α}{b0:β}{u0:HO}{fin:QE->β->Sto->Prop}{fin':VK->YT->Hp->Prop}(h:RN k em tem)(mi:MonoI i)(mt:MonoT t)(u:imm u0=false)(h0:∀ as H D,k.at_ as (upd H D u0) D a0 b0)
 (hfin:∀{as H as2 H2 S2 D a b Q},Go as H as2 H2->Go as H (as2++[D]) H2->Ok K as2 H2 S2->D∉as2->k.at_ as2 H2 D a b->fin (Post K as H Q) b S2->fin' Q D H2):
 ∀ σ H Q,lift K (wCG n js g i t em b0 fin) σ H Q->tCG u0 a0 tem (liftI K i) (FD K g) (liftT K t) n js (fin' Q) σ H:=by
 rintro σ H Q ⟨as,ρ,S,ok,en,q⟩;refine⟨as,ρ,S,ok,en,mi _ _ _ _ (λkeep xs S1 q as1 H1 J g1 ok1 W D hD=>?_) q⟩;have n1:=ok1.free hD
 refine⟨λi m a H'=>m=xs.length - i/\i<=xs.length/\∃ as2 S2 b,GoD D as1 (upd H1 D u0) as2 H'/\Ok K as2 H' S2/\k.at_ as2 H' D a b/\wTG keep g t em (F1 n js ρ) (fin (Post K as H Q)) (xs.drop i) b S2,
  ⟨_,rfl,VX _,as1,S1,b0,.refl,ok1.new hD,h0 _ _ _,q⟩,?_⟩
 rintro i m a H2 ⟨rfl,hi,as2,S2,b,gd2,ok2,at2,q⟩;have gg:=gd2.go hD;by_cases hlt:i<xs.length
 ·right;rw[W1 hlt]at q;obtain⟨go,yl⟩:=(W as2 H2 S2 (gg.gu ok1) ok2 q.1).1 i xs[i] (UM hlt);refine⟨go,λa H'=>∃ as2 S2 b,GoD D as1 (upd H1 D u0) as2 H'/\Ok K as2 H' S2/\k.at_ as2 H' D a b/\wTG keep g t em (F1 n js ρ) (fin (Post K as H Q)) (xs.drop (i+1)) b S2,λa' H' z=>⟨_,by omega,rfl,hlt,z⟩,λx H3 y3=>?_⟩;obtain⟨g3,ok3,rx⟩:=yl x H3 y3;obtain⟨gd3,at3,n3⟩:=k.go at2 ok2 (gd2.out n1) g3;have ge:=g1.trans (gg.trans g3);refine⟨as2,F1 n js ρ,S2,_,ok3,(en.mono ge.pre (ge.ku ok)).cap n js,rx,w9 g (λρ4 q σ4 en4=>⟨as2,ρ4,S2,ok3,en4,mt _ _ _ _ (λc S5 q as5 H5 g5 ok5=>?_) q⟩) q.2⟩;obtain⟨gd5,at5,n5⟩:=k.go at3 ok3 n3 g5;have gd:=(gd2.trans gd3).trans gd5;exact m8 (λq=>h D a b σ4 ρ4 as5 H5 S5 _ _ n5 ok5 (en4.mono g5.pre (g5.ku ok3)) at5 q λas6 S6 a6 b6 H6 g6 ok6 at6 q6=>⟨as6,S6,b6,gd.trans g6,ok6,at6,q6⟩) (λq=>⟨as5,S5,b,gd,ok5,at5,q⟩) q
 ·left;obtain rfl:i=xs.length:=by omega
  rw[WK]at q;refine⟨(W as2 H2 S2 (gg.gu ok1) ok2 q.1).2,hfin (g1.trans gg) ⟨(g1.trans gg).pre.trans (Vy _ _),λb o hb nb=>?_⟩ ok2 (gd2.out n1) at2 q.2⟩;obtain⟨h1,m1⟩:=g1.keep b o hb nb;obtain⟨h2,m2⟩:=gg.keep b o h1 m1;refine⟨h2,?_⟩;rw[Ul,UT];rintro(z | z)
  ·exact m2 z
  ·exact f7 h1 hD z
end
section
variable{K:UL}{e f:WE}
noncomputable def kL:Knd (List V) (List SV) K:=⟨λas H D vs xs=>H D=some (.lst vs)/\RlAll K as H vs xs,λp ku e h=>⟨e.trans h.1,RlAll.mono p ku _ _ h.2⟩,λh=>⟨_,h.1,rfl⟩⟩
theorem ON(me:Mono e):RN (kL (K:=K)) (emL e) (Sa (lift K e)):=λD a b σ ρ as H S N N' n ok en h q hN=>
 ⟨as,ρ,S,ok,en,me _ _ _ _ (λy S2 q as2 H2 v g2 ok2 rv=>by
   obtain⟨gd,h2,n2⟩:=kL.go h ok n g2;have pu:=GoD.put (as:=as2) (v := .lst (a++[v])) h2.1 rfl;exact⟨h2.1,by rw[h2.2.length];exact Cn q.1,hN _ _ _ _ _ (gd.trans pu) (ok2.otherO h2.1 rfl n2) ⟨g7,RlAll.mono (Ur _) pu.ku _ _ (h2.2.append (.cons rv .nil))⟩ q.2⟩) q⟩
theorem OO{α β:Type}{k:Knd α β K}{o:β->SO}(ad:∀{as H D a b},k.at_ as H D a b->RlO K as H D (o b)){as H as2 H2 S2 D a b Q}(_:Go as H as2 H2)(g:Go as H (as2++[D]) H2)(ok:Ok K as2 H2 S2)(n:D∉as2)(h:k.at_ as2 H2 D a b)(q:R5 o (Post K as H Q) b S2):Q (.ref D) H2:=
 q (as2++[D]) H2 (.ref D) g (ok.adoptO n (ad (k.mono (Vy _ _) (KeepU.refl _) rfl h))) (rl_loc.mpr ⟨D,by rw[<-ok.len,V1],rfl⟩)
end
theorem FM{scope sc:Yi}{x:Str}(h:scope.names.lookup x=some .local):(Lj scope sc).names.lookup x=some .local:=by
 have go:∀ l:List (Str×Yu),l.lookup x=some .local->(l.map λ(n,k)=>if (k == .free&&sc.kind == .function&&sc.names.lookup n == some .cell) then (n,.cell) else (n,k)).lookup x=some .local:=by
  intro l
  induction l with
  | nil=>intro h;cases h
  | cons a r ih=>
    obtain⟨n,k⟩:=a;intro h;rw[VU]at h;rw[Uv];cases hb:x == n with
    | true=>
      rw[hb]at h;have:k = .local:=oj h;subst this;show Wt x ((n,NameKind.local)::_)=_;rw[VU,hb]
    | false=>
      rw[hb]at h
      have e:∀ k',Wt x ((n,k')::(r.map λ(n,k)=>if (k == .free&&sc.kind == .function&&sc.names.lookup n == some .cell) then (n,.cell) else (n,k)))=some .local:=λk'=>by
       rw[VU,hb];exact ih h
      show Wt x ((if (k == .free&&sc.kind == .function&&sc.names.lookup n == some .cell)=true then (n,NameKind.cell) else (n,k))::_)=_;split<;>exact e _
 exact go _ h
theorem Cok.comp{T:List Str}{Δ:Nat->Sn}{X:Cx}{k:Nat}{N:List Str}{sc scope:Yi}{own cn:List Str}{js:List Nat}(C:Cok T Δ X k N sc)(hok:v6 sc scope own cn N js=true)(s2:YS)(H2:Hp)(cs:List (Str×YT))(A:YT)(fp:List YT):Cok T Δ (r6 X scope (own++cn) s2 H2 cs A fp) own.length (own++cn) (Lj scope sc) where
 hN:=rfl
 hs:=by rw[<-C.hs];rfl
 nd:=by
  unfold v6 at hok;simp only[UN,dQ]at hok;exact hok.1.2
 calm:=C.calm
 fn:=λi x hi hx hc=>by
  unfold v6 at hok;simp only[UN,dQ,Uq,V8]at hok
  have hm:x∈own:=by
   rw[Ud hi]at hx;exact UO hx
  show(scope.names.lookup x == some .cell)=true;rcases hok.1.1.1.2 x hm with h | h
  ·rw[FM h]at hc;cases hc
  ·rw[h];rfl
 un:=C.un
 bl:=C.bl
 rng:=C.rng
 enm:=C.enm
 rvs:=C.rvs
 zip:=C.zip
 sm0:=C.sm0
 st0:=C.st0
 dc0:=C.dc0
 ty:=C.ty
 gd:=C.gd
 me:=C.me
 call:=C.call
 mono:=C.mono
theorem Ac{r:Expr}(h:Az r=true){env:Env}:∀ x,Zi r env x=pure x:=λx=>by cases r<;>first | rfl | cases h
theorem BJ{T N:List Str}{sc:Yi}:∀{es:Exs} {rs:List Expr},Am T N sc es rs=true->rs.all f8=true
 | .nil,rs,h=>by unfold Am at h;rw[VB]at h;subst h;rfl
 | .cons e es,rs,h=>by
   unfold Am at h;replace h:=a8 h;obtain⟨x,hx,h⟩:=h;simp only[UN]at h;rw[AU hx,Vb,h.1.2,BJ h.2];rfl
theorem RP{X:Cx}{i:Nat}{x:Str}{p:Pos}{N:List Str}{sc:Yi}{T:List Str}{Δ:Nat->Sn}{k:Nat}(C:Cok T Δ X k N sc)(h:nmB N sc i x=true):PE X (.Name x p) (N6 i):=by
 unfold nmB at h;simp only[UN,dQ,Uu]at h;exact RE C h.1.1.1 h.1.1.2 h.1.2 h.2
theorem I0{α:Type}{l:List α}(h:(!l.isEmpty)=true):∃ y ys,l=y::ys:=by
 cases l with
 | nil=>cases h
 | cons y ys=>exact⟨y,ys,rfl⟩
theorem RQ{X:Cx}{c:Expr}{a:WE×WT}(h:Good X c a):Ej X [c] (liftT X.K a.2):=KP h.pt
theorem MD{X:Cx}:Ej X [] (liftT X.K TM):=λpins s σ H Q I hw=>KO pins s σ H Q I (let ⟨as,ρ,S,ok,en,h⟩:=hw;h as H (Go.refl _ _) ok)
theorem RS{X:Cx}{E tg ri:Expr}{ifs:List Expr}{scope:Yi}{emit:YQ->Env->Sem Unit}{u0:HO}{α β:Type}{k:Knd α β X.K}{em:WM β}{tem:YT->α->St->Hp->(α->Hp->Prop)->Prop}{a0:α}{b0:β}{o:β->SO}{T N own cn:List Str}{Δ:Nat->Sn}{kk:Nat}{sc:Yi}{js:List Nat}{g:Tg}{i:WI}{t:WT}(Kd:CKind X E tg ri ifs scope emit u0)(C:Cok T Δ X kk N sc)(hok:v6 sc scope own cn N js=true)(hi:GoodI X tg ri i)(hn:Az ri=true)
 (hg:InB X scope (own++cn) λY=>PG Y tg (FD X.K g)) (ht:InB X scope (own++cn) λY=>Ej Y ifs (liftT X.K t)) (mt:MonoT t) (hem:InB X scope (own++cn) λY=>PEm Y emit tem) (h:RN k em tem) (mm:FL em) (u:imm u0=false) (h0:∀ as H D,k.at_ as (upd H D u0) D a0 b0) (ad:∀{as H D a b},k.at_ as H D a b->RlO X.K as H D (o b)) (hp:GV E=true):Good X E (tt1 (wCG own.length js g i t em b0 (R5 o))):=
 have hok':v6 X.env.scope scope own cn X.N js=true:=by rw[C.hs,C.hN];exact hok
 have via:=RO (n:=own.length) (js:=js) (g:=g) h hi.m mt u h0 (fin':=λQ D H=>Q (.ref D) H) (OO (k:=k) (o:=o) ad)
 .one (g8 _ (MC Kd hi.pi hg ht hem C.calm hok' (Ac hn)) λσ H Q h=>via σ H Q h) (.cG hi.m mt mm λP P' im b S q=>im _ _ q) hp
  λ_ i x px spos hN hx hl hsw=>λpins s σ H D I q=>FK Kd hi.pi hg ht hem C.calm hok' (Ac hn) hN hx hl hsw pins s σ H D I (via σ H _ q)
mutual
theorem c7{T:List Str}{Δ:Nat->Sn}:∀(e:Ex) (r:Expr) {X:Cx} {k:Nat} {N:List Str} {sc:Yi},Cok T Δ X k N sc->j5 T N sc e r=true->Good X r (wEx Δ e)
 | .var i,r,X,k,N,sc,C,h=>by
   replace h:=a8 h;obtain⟨x,hx,h⟩:=h;obtain⟨p,rfl⟩:=BA hx;exact .one (g8 _ (RP C h) Nf) .var rfl
 | .c x,r,X,k,N,sc,C,h=>by
   replace h:=a8 h;obtain⟨x,hx,h⟩:=h;obtain⟨j,p,rfl⟩:=Do hx;exact OJ h
 | .op o a b,r,X,k,N,sc,C,h=>by
   replace h:=a8 h;obtain⟨v,hv,h⟩:=h;obtain⟨p,rfl⟩:=OB hv;simp only[UN,dQ]at h;have ga:=c7 a _ C h.1.2;have gb:=c7 b _ C h.2;rw[<-h.1.1];exact .one (Lu ga.pe gb.pe ga.m gb.m) (.two Ht ga.m gb.m) rfl
 | .neg a,r,X,k,N,sc,C,h=>by
   replace h:=a8 h;obtain⟨v,hv,h⟩:=h;obtain⟨p,rfl⟩:=GZ hv;simp only[UN,dQ]at h;rw[h.1];exact JP (c7 a _ C h.2)
 | .cmp o a b,r,X,k,N,sc,C,h=>by
   replace h:=a8 h;obtain⟨v,hv,h⟩:=h;replace h:=a8 h;obtain⟨rb,hb,h⟩:=h;obtain⟨p,rfl⟩:=Hr hv;simp only[UN,dQ]at h;obtain⟨⟨⟨h0,h1⟩,h2⟩,h3⟩:=h;rw[h0,y9 hb];have ga:=c7 a _ C h1;have gb:=c7 b _ C h2;have:=C.un;exact JJ (by omega) ga.pe gb.pe ga.m gb.m h3
 | .chn o p a b c,r,X,k,N,sc,C,h=>by
   replace h:=a8 h;obtain⟨v,hv,h⟩:=h;replace h:=a8 h;obtain⟨rs,hb,h⟩:=h;obtain⟨p,rfl⟩:=Hr hv;simp only[UN,dQ]at h;obtain⟨⟨⟨⟨h0,h1⟩,h2⟩,h3⟩,h4⟩:=h;rw[h0,Lp hb];have ga:=c7 a _ C h1;have gb:=c7 b _ C h2;have gc:=c7 c _ C h3;have:=C.un;exact JK (by omega) ga.pe gb.pe gc.pe ga.m gb.m gc.m h4
 | .and a b,r,X,k,N,sc,C,h=>by
   replace h:=a8 h;obtain⟨v,hv,h⟩:=h;have e:=F3 hv;subst e;rw[UN,dQ]at h;obtain⟨h0,h⟩:=h;replace h:=a8 h;obtain⟨x,hx,h⟩:=h;rw[UN]at h;have ga:=c7 a _ C h.1;rw[h0,AU hx];have h2:=h.2;generalize v.2.1.tail=tl at h2;cases hl:l1 tl with
   | some y=>
     rw[hl]at h2;rw[y9 hl];exact Ga ga (c7 b _ C h2)
   | none=>
     rw[hl]at h2;rw[UN,dQ]at h2;have gb:=c7 b _ C h2.2
     match tl,h2,gb with
     | y::z::zs,h2,gb=>exact Gb ga gb
     | [],h2,_=>exact absurd h2.1 (by simp)
     | [_],h2,_=>exact absurd h2.1 (by simp)
 | .or a b,r,X,k,N,sc,C,h=>by
   replace h:=a8 h;obtain⟨v,hv,h⟩:=h;have e:=F3 hv;subst e;rw[UN,dQ]at h;obtain⟨h0,h⟩:=h;replace h:=a8 h;obtain⟨x,hx,h⟩:=h;rw[UN]at h;have ga:=c7 a _ C h.1;rw[h0,AU hx];have h2:=h.2;generalize v.2.1.tail=tl at h2;cases hl:l1 tl with
   | some y=>
     rw[hl]at h2;rw[y9 hl];exact JL ga (c7 b _ C h2)
   | none=>
     rw[hl]at h2;rw[UN,dQ]at h2;have gb:=c7 b _ C h2.2
     match tl,h2,gb with
     | y::z::zs,h2,gb=>exact JM ga gb
     | [],h2,_=>exact absurd h2.1 (by simp)
     | [_],h2,_=>exact absurd h2.1 (by simp)
 | .not a,r,X,k,N,sc,C,h=>by
   replace h:=a8 h;obtain⟨v,hv,h⟩:=h;obtain⟨p,rfl⟩:=GZ hv;simp only[UN,dQ]at h;rw[h.1];exact JN (c7 a _ C h.2)
 | .ife t a b,r,X,k,N,sc,C,h=>by
   replace h:=a8 h;obtain⟨v,hv,h⟩:=h;obtain⟨p,rfl⟩:=OC hv;simp only[UN]at h;exact JO (c7 t _ C h.1.1) (c7 a _ C h.1.2) (c7 b _ C h.2)
 | .tup es,r,X,k,N,sc,C,h=>by
   replace h:=a8 h;obtain⟨v,hv,h⟩:=h;obtain⟨j,p,rfl⟩:=CU hv;exact JS (AI es _ C h)
 | .lst es,r,X,k,N,sc,C,h=>by
   replace h:=a8 h;obtain⟨v,hv,h⟩:=h;obtain⟨p,rfl⟩:=OD hv;exact JT (AI es _ C h)
 | .ix a b,r,X,k,N,sc,C,h=>by
   replace h:=a8 h;obtain⟨v,hv,h⟩:=h;obtain⟨p,rfl⟩:=Bp hv;simp only[UN]at h;exact Ly (c7 a _ C h.1.1) (c7 b _ C h.1.2) h.2
 | .call f es,r,X,k,N,sc,C,h=>by
   replace h:=a8 h;obtain⟨v,hv,h⟩:=h;obtain⟨p,q,rfl⟩:=Ab hv;simp only[UN,dQ]at h;obtain⟨⟨⟨h1,h2⟩,h3⟩,h4⟩:=h;obtain⟨y,ys,e⟩:=I0 h4;have st:=BJ h3;have g:=AI es _ C h3;rw[e]at st g ⊢;rw[Vb,UN]at st;exact Gd C h1 h2 g st.1 st.2
 | .bi b es,r,X,k,N,sc,C,h=>by
   replace h:=a8 h;obtain⟨v,hv,h⟩:=h;obtain⟨p,q,rfl⟩:=Ab hv;simp only[UN,dQ]at h;obtain⟨⟨⟨h1,h2⟩,h3⟩,h4⟩:=h;obtain⟨y,ys,e⟩:=I0 h4;have st:=BJ h3;have g:=AI es _ C h3;rw[e]at st g ⊢;rw[Vb,UN]at st;rw[<-h1]at h2 ⊢;exact M5 C h2 g st.1 st.2
 | .mt m a es,r,X,k,N,sc,C,h=>by
   replace h:=a8 h;obtain⟨v,hv,h⟩:=h;obtain⟨ap,cp,rfl,hl⟩:=EM hv;simp only[UN,dQ]at h;obtain⟨⟨⟨⟨h0,h1⟩,h3⟩,h4⟩,h5⟩:=h;have st:=BJ h5;have ga:=c7 a _ C h4;have gs:=AI es _ C h5;rw[h0];generalize v.2.2=args at h3 h5 st gs ⊢;cases args with
   | nil=>
     cases es with
     | nil=>exact JU ga h1 hl
     | cons _ _=>rw[Am]at h5;cases h5
   | cons y ys=>
     rw[Vb,UN]at st;exact M7 ga gs h1 hl h3 st.1 st.2
 | .comp own cn js g it t e,r,X,k,N,sc,C,h=>by
   replace h:=a8 h;obtain⟨v,hv,h⟩:=h;replace h:=a8 h;obtain⟨c,hc,h⟩:=h;obtain⟨p,rfl⟩:=Lo hv;simp only[UN,dQ]at h;obtain⟨⟨⟨⟨⟨⟨h0,h1⟩,h2⟩,h3⟩,h4⟩,h5⟩,h6⟩:=h;have hI:=Du it _ _ C h3;have hT:=λs2 H2 cs A fp=>ME t _ (C.comp h1 s2 H2 cs A fp) h5;have hE:=λs2 H2 cs A fp=>c7 e _ (C.comp h1 s2 H2 cs A fp) h6;rw[y9 hc];obtain⟨tg,ri,ifs,az⟩:=c;have h0:az=0:=h0;subst h0;exact RS (o:=SO.lst) (ckL GB) C h1 hI h4 (λs2 H2 cs A fp=>Bq (C.comp h1 s2 H2 cs A fp) g _ h2) (λs2 H2 cs A fp=>(hT s2 H2 cs A fp).1) (hT X.s₀ X.H₀ [] 0 []).2 (λs2 H2 cs A fp=>(RM rfl (hE s2 H2 cs A fp).pe).m) (ON (hE X.s₀ X.H₀ [] 0 []).m) (D6 (hE X.s₀ X.H₀ [] 0 []).m) rfl (λ_ _ _=>⟨g7,.nil⟩) (λh=>⟨_,h⟩) rfl
 | .tyc t,r,X,k,N,sc,C,h=>by
   replace h:=a8 h;obtain⟨x,hx,h⟩:=h;obtain⟨p,rfl⟩:=BA hx;simp only[UN,dQ]at h;obtain⟨⟨rfl,h1⟩,h2⟩:=h;exact JV C h1 h2
 | .lrng1 a,r,X,k,N,sc,C,h=>by
   replace h:=a8 h;obtain⟨v,hv,h⟩:=h;replace h:=a8 h;obtain⟨z,hz,h⟩:=h;replace h:=a8 h;obtain⟨u,hu,h⟩:=h;replace h:=a8 h;obtain⟨ra,hra,h⟩:=h;obtain⟨p,q,rfl⟩:=Ab hv;obtain⟨p2,q2,rfl⟩:=Ab hu;simp only[UN,dQ]at h;obtain⟨⟨⟨⟨⟨e1,e2⟩,h1⟩,h2⟩,h3⟩,h4⟩:=h;rw[y9 hz,y9 hra,e1,e2];rw[e1]at h1;rw[e2]at h2;exact F8 C h1 h2 (c7 a _ C h3) h4
 | .rev a,r,X,k,N,sc,C,h=>by
   replace h:=a8 h;obtain⟨v,hv,h⟩:=h;replace h:=a8 h;obtain⟨w,hw,h⟩:=h;obtain⟨p,rfl⟩:=Bp hv;obtain⟨p2,ew⟩:=OE hw;rw[UN,UN]at h;obtain⟨⟨n1,n2⟩,h⟩:=h;replace h:=a8 h;obtain⟨st,hst,h⟩:=h;replace h:=a8 h;obtain⟨u,hu,h⟩:=h;obtain⟨p3,rfl⟩:=GZ hu;rw[UN,dQ]at h;obtain⟨e1,h⟩:=h;replace h:=a8 h;obtain⟨c,hc,h⟩:=h;obtain⟨j,p4,ec⟩:=Do hc;rw[UN,dQ]at h;rw[ew,WN.mp n1,WN.mp n2,hst,e1,ec,h.1];exact JW (c7 a _ C h.2)
 | .srtk x lp j y cn js a e,r,X,k,N,sc,C,h=>by
   replace h:=a8 h;obtain⟨⟨f,as,kw⟩,hv,h⟩:=h;replace h:=a8 h;obtain⟨ra,hra,h⟩:=h;replace h:=a8 h;obtain⟨l,hl,h⟩:=h;obtain⟨p,q,rfl⟩:=OF hv;obtain⟨ka,kv,kp⟩:=kw;obtain⟨an,ap,ekv⟩:=OA hl;simp only[UN,dQ]at h;obtain⟨⟨⟨⟨⟨⟨⟨⟨⟨e1,h1⟩,h2⟩,h3⟩,e2⟩,h4⟩,e3⟩,e4⟩,h5⟩,h6⟩:=h;have ekv':kv=_:=ekv;subst e1;subst e2;subst ekv';subst e3;subst e4;rw[y9 hra];exact Gg C h1 (c7 a _ C h2) h3 h4 h5 λs H f c'=>c7 e _ (C.lam h4 h5 _ s H f c') h6
 | .dvals a,r,X,k,N,sc,C,h=>by
   replace h:=a8 h;obtain⟨v,hv,h⟩:=h;replace h:=a8 h;obtain⟨z,hz,h⟩:=h;replace h:=a8 h;obtain⟨u,hu,h⟩:=h;obtain⟨p,q,rfl⟩:=Ab hv;obtain⟨ap,cp,rfl,hl⟩:=EM hu;simp only[UN,dQ,VB]at h;obtain⟨⟨⟨⟨⟨e1,h1⟩,e2⟩,e3⟩,h4⟩,h5⟩:=h;rw[e1]at h1;rw[y9 hz,e1,e2,e3];exact FA C h1 (c7 a _ C h5) h4 hl
 | .dget0 d e,r,X,k,N,sc,C,h=>by
   replace h:=a8 h;obtain⟨u,hu,h⟩:=h;replace h:=a8 h;obtain⟨ra,hra,h⟩:=h;obtain⟨ap,cp,rfl,hl⟩:=EM hu;simp only[UN,dQ]at h;obtain⟨⟨⟨⟨e1,h1⟩,h2⟩,h3⟩,h4⟩:=h;rw[y9 hra,e1];exact FB (Vh (Wm (by decide) _) C.un) (c7 d _ C h2) (c7 e _ C h3) h1 hl h4
 | .dget2 d e v,r,X,k,N,sc,C,h=>by
   replace h:=a8 h;obtain⟨u,hu,h⟩:=h;replace h:=a8 h;obtain⟨ra,hra,h⟩:=h;obtain⟨ap,cp,rfl,hl⟩:=EM hu;simp only[UN,dQ]at h;obtain⟨⟨⟨⟨⟨⟨e1,h1⟩,h2⟩,h3⟩,h4⟩,h5⟩,h6⟩:=h;rw[Lp hra,e1];exact FC (Vh (Wm (by decide) _) C.un) (c7 d _ C h2) (c7 e _ C h3) (c7 v _ C h5) h1 hl h4 h6
 | .lstd a,r,X,k,N,sc,C,h=>by
   replace h:=a8 h;obtain⟨v,hv,h⟩:=h;replace h:=a8 h;obtain⟨ra,hra,h⟩:=h;obtain⟨p,q,rfl⟩:=Ab hv;simp only[UN,dQ]at h;obtain⟨⟨⟨e1,h1⟩,h3⟩,h4⟩:=h;rw[e1]at h1;rw[y9 hra,e1];exact Gh C h1 (c7 a _ C h3) h4
 | .srtset a,r,X,k,N,sc,C,h=>by
   replace h:=a8 h;obtain⟨v,hv,h⟩:=h;replace h:=a8 h;obtain⟨z,hz,h⟩:=h;replace h:=a8 h;obtain⟨u,hu,h⟩:=h;replace h:=a8 h;obtain⟨ra,hra,h⟩:=h;obtain⟨p,q,rfl⟩:=Ab hv;obtain⟨p2,q2,rfl⟩:=Ab hu;simp only[UN,dQ]at h;obtain⟨⟨⟨⟨⟨e1,e2⟩,h1⟩,h2⟩,h3⟩,h4⟩:=h;rw[e1]at h1;rw[e2]at h2;rw[y9 hz,y9 hra,e1,e2];exact EO C h1 h2 (c7 a _ C h3) h4
 | .dnew,r,X,k,N,sc,C,h=>by
   replace h:=a8 h;obtain⟨v,hv,h⟩:=h;obtain⟨p,rfl⟩:=Lm hv;simp only[UN,VB]at h;rw[h.1,h.2];exact Ge
 | .dget a b,r,X,k,N,sc,C,h=>by
   replace h:=a8 h;obtain⟨v,hv,h⟩:=h;obtain⟨p,rfl⟩:=Bp hv;simp only[UN]at h;have:=C.un;exact Gf (by omega) (c7 a _ C h.1.1) (c7 b _ C h.1.2) h.2
 | .no,r,X,k,N,sc,C,h => .never
theorem AI{T:List Str}{Δ:Nat->Sn}:∀(es:Exs) (rs:List Expr) {X:Cx} {k:Nat} {N:List Str} {sc:Yi},Cok T Δ X k N sc->Am T N sc es rs=true->GoodA X rs (F2 Δ es)
 | .nil,rs,X,k,N,sc,C,h=>by
   rw[Am,VB]at h;subst h;exact JR
 | .cons e es,rs,X,k,N,sc,C,h=>by
   rw[Am]at h;replace h:=a8 h;obtain⟨x,hx,h⟩:=h;simp only[UN]at h;rw[AU hx];exact Gc (c7 e _ C h.1.1) (AI es _ C h.2) h.1.2
theorem Te{T:List Str}{Δ:Nat->Sn}:∀(o:Eo) (r:Option Expr) {X:Cx} {k:Nat} {N:List Str} {sc:Yi},Cok T Δ X k N sc->RB T N sc o r=true->PO X r (Lz X.K (wEo Δ o).1)/\MonoO (wEo Δ o).1
 | .no,r,X,k,N,sc,C,h=>by
   rw[RB]at h;rw[WN.mp h];exact⟨TW,.no⟩
 | .yes e,r,X,k,N,sc,C,h=>by
   rw[RB]at h;replace h:=a8 h;obtain⟨x,hx,h⟩:=h;subst hx;exact⟨RF (c7 e _ C h),.yes (c7 e _ C h).m⟩
theorem ME{T:List Str}{Δ:Nat->Sn}:∀(o:Eo) (rs:List Expr) {X:Cx} {k:Nat} {N:List Str} {sc:Yi},Cok T Δ X k N sc->Hs T N sc o rs=true->Ej X rs (liftT X.K (wEo Δ o).2)/\MonoT (wEo Δ o).2
 | .no,rs,X,k,N,sc,C,h=>by
   rw[Hs,VB]at h;subst h;exact⟨MD,λ_ _ _ _ i q=>i _ _ q⟩
 | .yes e,rs,X,k,N,sc,C,h=>by
   rw[Hs]at h;replace h:=a8 h;obtain⟨x,hx,h⟩:=h;rw[y9 hx];exact⟨RQ (c7 e _ C h),(c7 e _ C h).mt⟩
theorem Du{T:List Str}{Δ:Nat->Sn}:∀(it:Itb) (tg r:Expr) {X:Cx} {k:Nat} {N:List Str} {sc:Yi},Cok T Δ X k N sc->RC T N sc it tg r=true->GoodI X tg r (O9 Δ it)
 | .seq e,tg,r,X,k,N,sc,C,h=>by
   exact JY (c7 e _ C h)
 | .rng1 a,tg,r,X,k,N,sc,C,h=>by
   replace h:=a8 h;obtain⟨v,hv,h⟩:=h;replace h:=a8 h;obtain⟨ra,hra,h⟩:=h;obtain⟨p,q,rfl⟩:=Ab hv;simp only[UN,dQ]at h;obtain⟨⟨⟨e1,h1⟩,h2⟩,h3⟩:=h;rw[e1]at h1;rw[y9 hra,e1];exact Gp C h1 (c7 a _ C h2) h3
 | .enum e,tg,r,X,k,N,sc,C,h=>by
   replace h:((GX tg).isSome&&(vFn r).any λv=>(l1 v.2).any λa=>decide (v.1=("enumerate":Str))&&glo sc v.1&&j5 T N sc e a&&f8 a)=true:=h;rw[UN]at h;obtain⟨ht,h⟩:=h;obtain⟨es,he⟩:=WQ.mp ht;obtain⟨j,tp,rfl⟩:=CU he;replace h:=a8 h;obtain⟨v,hv,h⟩:=h;replace h:=a8 h;obtain⟨ra,hra,h⟩:=h;obtain⟨p,q,rfl⟩:=Ab hv;simp only[UN,dQ]at h;obtain⟨⟨⟨e1,h1⟩,h2⟩,h3⟩:=h;rw[e1]at h1;rw[y9 hra,e1];exact Gn C h1 (c7 e _ C h2) h3
end
noncomputable def D7:Expr->Option Yi
 | .ListComp _ _ s _=>some s
 | .SetComp _ _ s _=>some s
 | .DictComp _ _ _ s _=>some s
 | _=>none
noncomputable def D8(sc:Yi)(e:Expr)(x:Str)(px:Pos):Bool:=match D7 e with
 | none=>false
 | some s=>sc.names.lookup x == some .local&&px.line == e.pos.line&&!(s.names.any λ(n,k)=>n == x&&(k == .local||k == .cell))
theorem IA{env:Env}{e:Expr}{x:Str}{px:Pos}{l:Nat}(hk:env.scope.kind = .function):Z8 e (some (.Name x px)) l env=pure (D8 env.scope e x px):=by
 have hb:env.blockKind = .function:=by unfold Env.blockKind;rw[hk];rfl
 unfold Z8 D8 D7
 cases e<;>first
  | rfl
  | (show(pure _:Sem Bool)=_;rw[hb];rfl)
noncomputable def MF:Expr->Bool
 | .Tuple ..=>false
 | _=>true
noncomputable def ER:Expr->Option (Str×Pos)
 | .Name x p=>some (x,p)
 | _=>none
theorem Dv{r:Expr}{x:Str×Pos}(h:ER r=some x):r = .Name x.1 x.2:=by cases r<;>first | (cases h;rfl) | exact t5 h
noncomputable def OP:Stmt->Option (List Expr×Expr)
 | .Assign ts e _=>some (ts,e)
 | _=>none
noncomputable def Tf:Stmt->Option Expr
 | .Expr e _=>some e
 | _=>none
noncomputable def Th:Stmt->Option (Expr×List Stmt×List Stmt)
 | .If t a b _=>some (t,a,b)
 | _=>none
noncomputable def Ti:Stmt->Option (Expr×Expr×List Stmt×List Stmt)
 | .For g i b o _=>some (g,i,b,o)
 | _=>none
noncomputable def Tj:Stmt->Option (Expr×List Stmt×List Stmt)
 | .While t b o _=>some (t,b,o)
 | _=>none
noncomputable def Tk:Stmt->Option (Option Expr)
 | .Return e _=>some e
 | _=>none
theorem ES{r:Stmt}{x:List Expr×Expr}(h:OP r=some x):∃ p,r = .Assign x.1 x.2 p:=by cases r<;>first | (cases h;exact⟨_,rfl⟩) | exact t5 h
theorem OQ{r:Stmt}{x:Expr}(h:Tf r=some x):∃ p,r = .Expr x p:=by cases r<;>first | (cases h;exact⟨_,rfl⟩) | exact t5 h
theorem OR{r:Stmt}{x:Expr×List Stmt×List Stmt}(h:Th r=some x):∃ p,r = .If x.1 x.2.1 x.2.2 p:=by cases r<;>first | (cases h;exact⟨_,rfl⟩) | exact t5 h
theorem OS{r:Stmt}{x:Expr×Expr×List Stmt×List Stmt}(h:Ti r=some x):∃ p,r = .For x.1 x.2.1 x.2.2.1 x.2.2.2 p:=by cases r<;>first | (cases h;exact⟨_,rfl⟩) | exact t5 h
theorem OT{r:Stmt}{x:Expr×List Stmt×List Stmt}(h:Tj r=some x):∃ p,r = .While x.1 x.2.1 x.2.2 p:=by cases r<;>first | (cases h;exact⟨_,rfl⟩) | exact t5 h
theorem OU{r:Stmt}{x:Option Expr}(h:Tk r=some x):∃ p,r = .Return x p:=by cases r<;>first | (cases h;exact⟨_,rfl⟩) | exact t5 h
noncomputable def Pj(sc:Yi)(rt:Expr):Bool:=(GX rt).any λts=>(l2 ts).any λnn=>(ER nn.1).any λx=>!(sc.names.lookup x.1 == some .local)
noncomputable def RT(sc:Yi)(rt re:Expr):Bool:=match ER rt with
 | some x=>!D8 sc re x.1 x.2||isCmp re
 | none=>(GX rt).isSome&&(MF re||Pj sc rt)
mutual
noncomputable def Tl(T:List Str)(N:List Str)(sc:Yi):Stm->Stmt->Bool
 | .asg t e,r=>(OP r).any λv=>(l1 v.1).any λrt=>BR N.length N sc t rt&&j5 T N sc e v.2&&f8 rt&&RT sc rt v.2
 | .put o i e,r=>(OP r).any λv=>(l1 v.1).any λrt=>(JI rt).any λoi=>j5 T N sc o oi.1&&j5 T N sc i oi.2&&j5 T N sc e v.2&&AB oi.2
 | .dput o i e,r=>(OP r).any λv=>(l1 v.1).any λrt=>(JI rt).any λoi=>j5 T N sc o oi.1&&j5 T N sc i oi.2&&j5 T N sc e v.2&&AB oi.2
 | .expr e,r=>(Tf r).any λre=>j5 T N sc e re&&(D7 re).isNone
 | .iff t a b,r=>(Th r).any λv=>j5 T N sc t v.1&&Br T N sc a v.2.1&&Br T N sc b v.2.2
 | .loop g it b,r=>(Ti r).any λv=>BR N.length N sc g v.1&&RC T N sc it v.1 v.2.1&&Az v.2.1&&Br T N sc b v.2.2.1&&v.2.2.2.isEmpty
 | .whl t b,r=>(Tj r).any λv=>j5 T N sc t v.1&&Br T N sc b v.2.1&&v.2.2.isEmpty
 | .ret e,r=>(Tk r).any λo=>o.any λre=>j5 T N sc e re
 | .no,_=>true
noncomputable def Br(T:List Str)(N:List Str)(sc:Yi):List Stm->List Stmt->Bool
 | [],r=>r.isEmpty
 | s::ss,r=>(r.head?).any λx=>Tl T N sc s x&&Br T N sc ss r.tail
end
noncomputable def FN(K:UL)(as:List YT)(H:Hp)(D:Ends):EndsS where
 nx:=λρ' S'=>∀ as' H' σ',Go as H as' H'->Ok K as' H' S'->EnvOk K as' H' σ' ρ'->D.nx σ' H'
 rt:=Post K as H D.rt
 bk:=λρ' S'=>∀ as' H' σ',Go as H as' H'->Ok K as' H' S'->EnvOk K as' H' σ' ρ'->D.bk σ' H'
 ct:=λρ' S'=>∀ as' H' σ',Go as H as' H'->Ok K as' H' S'->EnvOk K as' H' σ' ρ'->D.ct σ' H'
noncomputable def liftS(K:UL)(w:WS):TS:=λD σ H=>∃ as ρ S,Ok K as H S/\EnvOk K as H σ ρ/\w (FN K as H D) ρ S
structure Le(D D':EndsS):Prop where
 nx:∀ ρ S,D.nx ρ S->D'.nx ρ S
 rt:∀ x S,D.rt x S->D'.rt x S
 bk:∀ ρ S,D.bk ρ S->D'.bk ρ S
 ct:∀ ρ S,D.ct ρ S->D'.ct ρ S
noncomputable def MonoS(w:WS):Prop:=∀ D D' ρ S,Le D D'->w D ρ S->w D' ρ S
theorem MonoS.go{w:WS}(m:MonoS w){D D':EndsS}{ρ:EnvS}{S:Sto}(h:w D ρ S)(l:Le D D'):w D' ρ S:=m D D' ρ S l h
theorem Le.go{K:UL}{as as':List YT}{H H':Hp}{D:Ends}(g:Go as H as' H'):Le (FN K as H D) (FN K as' H' D) where
 nx:=λρ S h as2 H2 σ2 g2=>h as2 H2 σ2 (g.trans g2)
 rt:=λx S h=>Post.mono h g
 bk:=λρ S h as2 H2 σ2 g2=>h as2 H2 σ2 (g.trans g2)
 ct:=λρ S h as2 H2 σ2 g2=>h as2 H2 σ2 (g.trans g2)
structure GoodS(X:Cx)(r:Stmt)(w:WS):Prop where
 ps:PS X r (liftS X.K w)
 m:MonoS w
structure GoodSs(X:Cx)(r:List Stmt)(w:WS):Prop where
 ps:PSs X r (liftS X.K w)
 m:MonoS w
theorem A7{X:Cx}{st:Stmt}{t:TS}(t':TS)(h:PS X st t)(imp:∀ D σ H,t' D σ H->t D σ H):PS X st t':=λpins s σ H D I hw=>h pins s σ H D I (imp D σ H hw)
theorem FO{X:Cx}{st:List Stmt}{t:TS}(t':TS)(h:PSs X st t)(imp:∀ D σ H,t' D σ H->t D σ H):PSs X st t':=λpins s σ H D I hw=>h pins s σ H D I (imp D σ H hw)
section
variable{X:Cx}
theorem Gq:GoodSs X [] (λD ρ S=>D.nx ρ S):=⟨FO _ NA λD σ H ⟨as,ρ,S,ok,en,h⟩=>h as H σ (Go.refl _ _) ok en,λD D' ρ S l h=>l.nx _ _ h⟩
theorem FP{s:Stmt}{ss:List Stmt}{w u:WS}(h1:GoodS X s w)(h2:GoodSs X ss u):GoodSs X (s::ss) (λD ρ S=>w {D with nx:=u D} ρ S) where
 ps:=FO _ (Jy h1.ps h2.ps) (by
  rintro D σ H ⟨as,ρ,S,ok,en,h⟩;refine⟨as,ρ,S,ok,en,h1.m.go h ⟨λρ' S' q as' H' σ' g ok' en'=>?_,λ_ _ h=>h,λ_ _ h=>h,λ_ _ h=>h⟩⟩;exact⟨as',ρ',S',ok',en',h2.m _ _ _ _ (Le.go g) q⟩)
 m:=λD D' ρ S l h=>h1.m.go (D:={D with nx:=u D}) h ⟨λρ' S' q=>h2.m _ _ _ _ l q,l.rt,l.bk,l.ct⟩
theorem OV{K:UL}{g:Tg}{w:WE}(m:Mono w):∀ D σ H,liftS K (λD ρ S=>w ρ S λx S1=>wTg g x ρ λρ'=>D.nx ρ' S1) D σ H->Fs (lift K w) (FD K g) D σ H:=by
 rintro D σ H ⟨as,ρ,S,ok,en,h⟩;refine⟨as,ρ,S,ok,en,m _ _ _ _ (λx S1 q as1 H1 v g1 ok1 rv=>?_) h⟩;exact⟨as1,ρ,S1,x,ok1,en.mono g1.pre (g1.ku ok),rv,w9 g (λρ' q σ' en'=>q as1 H1 σ' g1 ok1 en') q⟩
theorem FQ{K:UL}{i:Nat}{w:WE}(m:Mono w):∀ D σ H,liftS K (λD ρ S=>w ρ S λx S1=>wTg (.nm i) x ρ λρ'=>D.nx ρ' S1) D σ H->Fs (lift K w) (Ef i) D σ H:=by
 rintro D σ H ⟨as,ρ,S,ok,en,h⟩;refine⟨as,ρ,S,ok,en,m _ _ _ _ (λx S1 q as1 H1 v g1 ok1 rv=>?_) h⟩;unfold wTg at q;exact q as1 H1 _ g1 ok1 ((en.mono g1.pre (g1.ku ok)).set rv)
theorem FR{g:Tg}{w:WE}(m:Mono w):MonoS (λD ρ S=>w ρ S λx S1=>wTg g x ρ λρ'=>D.nx ρ' S1):=λD D' ρ S l h=>m _ _ _ _ (λx S1 q=>w9 g (λρ' q=>l.nx _ _ q) q) h
theorem RU{K:UL}{t:WT}{a b:WS}(mt:MonoT t)(ma:MonoS a)(mb:MonoS b):∀ D σ H,liftS K (λD ρ S=>t ρ S λc S1=>if c=true then a D ρ S1 else b D ρ S1) D σ H->Rx (liftT K t) (liftS K a) (liftS K b) D σ H:=by
 rintro D σ H ⟨as,ρ,S,ok,en,h⟩;refine⟨as,ρ,S,ok,en,mt _ _ _ _ (λc S1 q as1 H1 g1 ok1=>?_) h⟩;refine m8 (λq=>?_) (λq=>?_) q
 ·exact⟨as1,ρ,S1,ok1,en.mono g1.pre (g1.ku ok),ma _ _ _ _ (Le.go g1) q⟩
 ·exact⟨as1,ρ,S1,ok1,en.mono g1.pre (g1.ku ok),mb _ _ _ _ (Le.go g1) q⟩
theorem BK{keep:Sto->Prop}{g:Tg}{b:WS}(mb:MonoS b):∀(xs:List SV) {D D':EndsS},Le D D'->∀ ρ S,v8 keep g b D xs ρ S->v8 keep g b D' xs ρ S
 | [],D,D',l,ρ,S,h=>by unfold v8 at h ⊢;exact⟨h.1,l.nx _ _ h.2⟩
 | x::xs,D,D',l,ρ,S,h=>by
   unfold v8 at h ⊢;exact⟨h.1,w9 g (λρ2 q=>mb.go (D:={D with nx:=v8 keep g b D xs,ct:=v8 keep g b D xs,bk:=D.nx}) q ⟨BK mb xs l,l.rt,l.nx,BK mb xs l⟩) h.2⟩
theorem OW{K:UL}{g:Tg}{i:WI}{b:WS}(mi:MonoI i)(mb:MonoS b):∀ D σ H,liftS K (λD ρ S=>i ρ S λkeep xs S1=>v8 keep g b D xs ρ S1) D σ H->SC (liftI K i) (FD K g) (liftS K b) D σ H:=by
 rintro D σ H ⟨as,ρ,S,ok,en,h⟩;refine⟨as,ρ,S,ok,en,mi _ _ _ _ (λkeep xs S1 h as1 H1 J g1 ok1 W=>?_) h⟩
 refine⟨λi m σ2 H2=>m=xs.length - i/\i<=xs.length/\∃ as2 ρ2 S2,Go as1 H1 as2 H2/\Ok K as2 H2 S2/\EnvOk K as2 H2 σ2 ρ2/\v8 keep g b (FN K as H D) (xs.drop i) ρ2 S2,
  ⟨xs.length,by simp,VX _,as1,ρ,S1,Go.refl _ _,ok1,en.mono g1.pre (g1.ku ok),h⟩,?_⟩
 rintro i m σ2 H2 ⟨rfl,hi,as2,ρ2,S2,g2,ok2,en2,h⟩;by_cases hlt:i<xs.length
 ·right;rw[W1 hlt]at h;unfold v8 at h;obtain⟨kp,h⟩:=h;obtain⟨w1,_⟩:=W as2 H2 S2 (g2.gu ok1) ok2 kp;obtain⟨go,yl⟩:=w1 i xs[i] (UM hlt);refine⟨go,λσ' H'=>∃ as2 ρ2 S2,Go as1 H1 as2 H'/\Ok K as2 H' S2/\EnvOk K as2 H' σ' ρ2/\v8 keep g b (FN K as H D) (xs.drop (i+1)) ρ2 S2,λσ' H' z=>⟨xs.length - (i+1),by omega,rfl,hlt,z⟩,λx H3 y3=>?_⟩;obtain⟨g3,ok3,rx⟩:=yl x H3 y3;refine⟨as2,ρ2,S2,_,ok3,en2.mono g3.pre (g3.ku ok2),rx,w9 g (λρ3 q σ3 en3=>?_) h⟩;have g03:=(g1.trans g2).trans g3;refine⟨as2,ρ3,S2,ok3,en3,mb.go q ⟨λρ' S' q as' H' σ' g' ok' en'=>?_,λx S h=>Post.mono h g03,λρ' S' q as' H' σ' g' ok' en'=>q as' H' σ' (g03.trans g') ok' en',λρ' S' q as' H' σ' g' ok' en'=>?_⟩⟩
  ·exact⟨as',ρ',S',(g2.trans g3).trans g',ok',en',q⟩
  ·exact⟨as',ρ',S',(g2.trans g3).trans g',ok',en',q⟩
 ·left;have hi':i=xs.length:=by omega
  subst hi';rw[WK]at h;unfold v8 at h;obtain⟨kp,h⟩:=h;obtain⟨_,w2⟩:=W as2 H2 S2 (g2.gu ok1) ok2 kp;exact⟨w2,h as2 H2 σ2 (g1.trans g2) ok2 en2⟩
theorem FS{t:WT}{b:WS}(mt:MonoT t)(mb:MonoS b):MonoS (R6 t b):=λD D' ρ S l ⟨W,w0,h⟩=>⟨W,w0,λm ρ S w=>mt _ _ _ _ (λc S1 q=>m8 (λq=>mb.go (D:={D with nx:=λρ' S'=>∃ m',m'<m/\W m' ρ' S',ct:=λρ' S'=>∃ m',m'<m/\W m' ρ' S',bk:=D.nx}) q ⟨λ_ _ h=>h,l.rt,l.nx,λ_ _ h=>h⟩) (λq=>l.nx _ _ q) q) (h m ρ S w)⟩
theorem OX{K:UL}{t:WT}{b:WS}(mt:MonoT t)(mb:MonoS b):∀ D σ H,liftS K (R6 t b) D σ H->K3 (liftT K t) (liftS K b) D σ H:=by
 rintro D σ H ⟨as,ρ,S,ok,en,W,⟨m0,w0⟩,h⟩;refine⟨λm σ1 H1=>∃ as1 ρ1 S1,Go as H as1 H1/\Ok K as1 H1 S1/\EnvOk K as1 H1 σ1 ρ1/\W m ρ1 S1,⟨m0,as,ρ,S,Go.refl _ _,ok,en,w0⟩,?_⟩;rintro m σ1 H1 ⟨as1,ρ1,S1,g1,ok1,en1,w1⟩;refine⟨as1,ρ1,S1,ok1,en1,mt _ _ _ _ (λc S2 q as2 H2 g2 ok2=>?_) (h m ρ1 S1 w1)⟩;refine m8 (λq=>?_) (λq=>q as2 H2 σ1 (g1.trans g2) ok2 (en1.mono g2.pre (g2.ku ok1))) q;refine⟨λσ' H'=>∃ m',m'<m/\∃ as1 ρ1 S1,Go as H as1 H'/\Ok K as1 H' S1/\EnvOk K as1 H' σ' ρ1/\W m' ρ1 S1,λσ' H' z=>z,?_⟩;refine⟨as2,ρ1,S2,ok2,en1.mono g2.pre (g2.ku ok1),mb.go q ⟨λρ' S' ⟨m',hm,w'⟩ as' H' σ' g' ok' en'=>?_,λx S h=>Post.mono h (g1.trans g2),λρ' S' q as' H' σ' g' ok' en'=>q as' H' σ' ((g1.trans g2).trans g') ok' en',λρ' S' ⟨m',hm,w'⟩ as' H' σ' g' ok' en'=>?_⟩⟩
 ·exact⟨m',hm,as',ρ',S',(g1.trans g2).trans g',ok',en',w'⟩
 ·exact⟨m',hm,as',ρ',S',(g1.trans g2).trans g',ok',en',w'⟩
theorem D9{x y v:SV}{S:Sto}{P P':Sto->Prop}(i:∀ S,P S->P' S)(h:JH x y v S P):JH x y v S P':=by
 unfold JH at h ⊢;split at h
 ·obtain⟨xs,j,a,b,c⟩:=h;exact⟨xs,j,a,b,i _ c⟩
 ·exact h.elim
theorem OY{K:UL}{as:List YT}{H:Hp}{S:Sto}{x y z:SV}{o i v:V}{Q:Hp->Prop}(ok:Ok K as H S)(ro:Rl K as H o x)(ri:Rl K as H i y)(rv:Rl K as H v z)(h:JH x y z S λS'=>∀ H',Go as H as H'->Ok K as H' S'->Q H'):KD o i v H Q:=by
 cases x with
 | loc k=>
   cases y with
   | int n=>
     obtain⟨xs,j,h1,h2,h3⟩:=h;obtain⟨a,vs,rfl,ea,ha,ra⟩:=v7 ok ro h1;rw[rl_int]at ri;subst ri;refine⟨a,vs,n,j,rfl,rfl,ha,by rw[ra.length];exact h2,h3 _ (Go.write (UO ea)) (ok.write h1 ea (ra.set rv j)).1⟩
   | _=>exact False.elim h
 | _=>exact False.elim h
theorem OZ{K:UL}{o i e:WE}(mo:Mono o)(mi:Mono i)(me:Mono e):∀ D σ H,liftS K (λD ρ S=>e ρ S λv S1=>o ρ S1 λx S2=>i ρ S2 λy S3=>JH x y v S3 λS4=>D.nx ρ S4) D σ H->Fs (lift K e) (SA (lift K o) (lift K i) KD) D σ H:=by
 rintro D σ H ⟨as,ρ,S,ok,en,h⟩;refine⟨as,ρ,S,ok,en,me _ _ _ _ (λz S1 q as1 H1 v g1 ok1 rv=>?_) h⟩;have en1:=en.mono g1.pre (g1.ku ok);refine⟨as1,ρ,S1,ok1,en1,mo _ _ _ _ (λx S2 q as2 H2 u g2 ok2 ru=>?_) q⟩;have en2:=en1.mono g2.pre (g2.ku ok1);refine⟨as2,ρ,S2,ok2,en2,mi _ _ _ _ (λy S3 q as3 H3 t g3 ok3 rt=>?_) q⟩;have en3:=en2.mono g3.pre (g3.ku ok2);refine OY ok3 (Rl.mono g3.pre (g3.ku ok2) x u ru) rt (Rl.mono (g2.trans g3).pre ((g2.trans g3).ku ok1) z v rv) (D9 (λS4 q H4 g4 ok4=>?_) q);exact q as3 H4 σ (((g1.trans g2).trans g3).trans g4) ok4 (en3.mono g4.pre (g4.ku ok3))
theorem Dw{x y v:SV}{S:Sto}{Q Q':Sto->Prop}(i:∀ S',Q S'->Q' S')(h:Hq x y v S Q):Hq x y v S Q':=let ⟨k,j,kvs,a,b,c,d,q⟩:=h;⟨k,j,kvs,a,b,c,d,i _ q⟩
theorem MG{K:UL}{o i e:WE}(mo:Mono o)(mi:Mono i)(me:Mono e):∀ D σ H,liftS K (λD ρ S=>e ρ S λv S1=>o ρ S1 λx S2=>i ρ S2 λy S3=>Hq x y v S3 λS4=>D.nx ρ S4) D σ H->Ke (lift K o) (lift K i) (lift K e) D σ H:=by
 rintro D σ H ⟨as,ρ,S,ok,en,h⟩;refine⟨as,ρ,S,ok,en,me _ _ _ _ (λz S1 q as1 H1 v g1 ok1 rv=>?_) h⟩;have en1:=en.mono g1.pre (g1.ku ok);refine⟨as1,ρ,S1,ok1,en1,mo _ _ _ _ (λx S2 q as2 H2 u g2 ok2 ru=>?_) q⟩;have en2:=en1.mono g2.pre (g2.ku ok1);refine⟨as2,ρ,S2,ok2,en2,mi _ _ _ _ (λy S3 q as3 H3 t g3 ok3 rt=>?_) q⟩;have en3:=en2.mono g3.pre (g3.ku ok2);have ru':=Rl.mono g3.pre (g3.ku ok2) x u ru;have rv':=Rl.mono (g2.trans g3).pre ((g2.trans g3).ku ok1) z v rv;obtain⟨k,j,kvs,rfl,rfl,hk,hb,q⟩:=q;obtain⟨a,ea,rfl⟩:=rl_loc.mp ru';rw[rl_int]at rt;subst rt;rcases hk with hk | ⟨o',ks,hk⟩
 ·obtain⟨ks,h1,h2⟩:=ok3.obj k _ a hk ea;obtain⟨ok4,ku⟩:=ok3.writeO (x := .dct (Ct kvs j z)) (u := .dK (Af ks (Sum.inl j) v)) hk ea (λku=>⟨_,g7,RlD.mono (Ur _) ku _ _ (h2.put rv' j)⟩);refine⟨a,H3,_,rfl,.inl rfl,.inl ⟨ks,.inl j,h1,rfl,by rw[h2.length];exact Cn hb,rfl⟩,?_⟩;exact q as3 _ σ (((g1.trans g2).trans g3).trans (Go.write (UO ea))) ok4 (en3.mono (Ur _) ku)
 ·obtain⟨h1,h2⟩:=(show RlO K as3 H3 a (.dcf o' ks kvs) from ok3.obj k _ a hk ea)
  obtain⟨ok4,ku⟩:=ok3.writeO (x := .dct (Ct kvs j z)) (u := .dK (Af ks (Sum.inl j) v)) hk ea (λku=>⟨_,g7,RlD.mono (Ur _) ku _ _ (h2.put rv' j)⟩)
  have e:upd (upd H3 a (.dK ks)) a (.dK (Af ks (Sum.inl j) v))=upd H3 a (.dK (Af ks (Sum.inl j) v)):=by
   funext b
   by_cases hb:b=a
   ·rw[hb,g7,g7]
   ·rw[upd_ne hb,upd_ne hb,upd_ne hb]
  refine⟨a,upd H3 a (.dK ks),upd H3 a (.dK (Af ks (Sum.inl j) v)),rfl,.inr ⟨a,o',ks,h1,rfl⟩,.inl ⟨ks,.inl j,g7,rfl,by rw[h2.length];exact Cn hb,e.symm⟩,?_⟩;exact q as3 _ σ (((g1.trans g2).trans g3).trans (Go.write (UO ea))) ok4 (en3.mono (Ur _) ku)
end
theorem RV{env:Env}{es:List Expr}{k:Nat}{p:Pos}{e:Expr}{l:Nat}:ZP [.Tuple es k p] e l env=pure false:=by
 unfold ZP Z8;cases e<;>rfl
theorem RW{env:Env}{o i:Expr}{p:Pos}{e:Expr}{l:Nat}:ZP [.Subscript o i p] e l env=pure false:=by
 unfold ZP Z8;cases e<;>rfl
theorem RX{env:Env}{es:List Expr}{k:Nat}{p:Pos}{e:Expr}(h:MF e=true):Z7 [.Tuple es k p] e env=pure none:=by
 unfold Z7;cases e<;>first | rfl | cases h
theorem Oa{env:Env}{x:Str}{px p:Pos}{t2:Expr}{k:Nat}{e:Expr}(h:(env.scope.names.lookup x == some NameKind.local)=false):Z7 [.Tuple [.Name x px,t2] k p] e env=pure none:=by
 have kx:(env.kindOf x == some NameKind.local)=false:=h;cases e with
 | Tuple vs k2 p2=>
   unfold Z7
   have key:∀ f:Expr->Option Str,f (.Name x px)=none->((List.filterMap f [.Name x px,t2]).length != [Expr.Name x px,t2].length)=true:=λf hf=>by
    rw[Wx hf];have:=List.length_filterMap_le f [t2];simp only[VG,Wj]at this ⊢;rw[bne_iff_ne];omega
   dsimp only;split
   ·rfl
   ·split
    ·rfl
    ·rw[key _ (by show(if (env.kindOf x == some NameKind.local&&_)=true then some x else none)=none;rw[kx];rfl),YG];rfl
 | _=>rfl
theorem RY{env:Env}{o i:Expr}{p:Pos}{e:Expr}:Z7 [.Subscript o i p] e env=pure none:=by
 unfold Z7;cases e<;>rfl
theorem FT{t:WT}{a b:WS}(mt:MonoT t)(ma:MonoS a)(mb:MonoS b):MonoS (λD ρ S=>t ρ S λc S1=>if c=true then a D ρ S1 else b D ρ S1):=λD D' ρ S l h=>mt _ _ _ _ (λc S1 q=>m8 (λq=>ma.go q l) (λq=>mb.go q l) q) h
section
variable{T:List Str}{Δ:Nat->Sn}{X:Cx}{N:List Str}{sc:Yi}
theorem Pk{env:Env}{e:Expr}(h:f8 e=true):(Yx [e] env).map (·.2)=[assign e env]:=by cases e<;>first | rfl | cases h
theorem Gr{env:Env}{o i:Expr}{p:Pos}(h:AB i=true):∀ v,assign (.Subscript o i p) env v=(do
 let ov <- holding [v] (eval o env)
 let iv <- holding [v,ov] (eval i env)
 standAt p
 holding [v,ov,iv] (setItem ov iv v)
 release [v,ov,iv] []):=λv=>by cases i<;>first | rfl | cases h
theorem Jb{sc:Yi}{re:Expr}{x:Str}{px:Pos}(h:D8 sc re x px=true):sc.names.lookup x=some .local:=by
 unfold D8 at h;cases hi:D7 re with
 | none=>rw[hi]at h;cases h
 | some s=>rw[hi]at h;simp only[UN,beq_iff_eq]at h;exact h.1.1
theorem Jc(C:Cok T Δ X N.length N sc)(hk:sc.kind = .function){t:Tg}{e:Ex}{rt re:Expr}{pos:Pos}(h1:BR N.length N sc t rt=true)(h2:j5 T N sc e re=true)(h3:f8 rt=true)(h4:RT sc rt re=true):PS X (.Assign [rt] re pos) (liftS X.K λD ρ S=>(wEx Δ e).1 ρ S λx S1=>wTg t x ρ λρ'=>D.nx ρ' S1):=by
 have ge:=c7 e re C h2;unfold RT at h4;cases hv:ER rt with
 | none=>
   rw[hv]at h4;rw[UN]at h4;obtain⟨es,hes⟩:=WQ.mp h4.1;obtain⟨j,p,rfl⟩:=CU hes
   have hw:Z7 [.Tuple es j p] re X.env=pure none:=by
    rcases(V8 _ _).mp h4.2 with z | z
    ·exact RX z
    ·unfold Pj at z;replace z:=a8 z;obtain⟨ts,hts,z⟩:=z;replace z:=a8 z;obtain⟨nn,hnn,z⟩:=z;replace z:=a8 z;obtain⟨y,hy,z⟩:=z;rw[hts]at hes;cases hes;rw[Lp hnn,Dv hy];exact Oa (by rw[C.hs];simpa using z)
   exact A7 _ (K0 ge.pe (Bq C t _ h1) RV hw (Pk rfl)) (OV ge.m)
 | some xp=>
   rw[hv]at h4;have e0:=Dv hv;obtain⟨x,px⟩:=xp;subst e0;cases t with
   | tup ts=>rw[BR]at h1;cases h1
   | nm i=>
     rw[BR]at h1;have h1:(decide (i<N.length)&&decide (N[i]?=some x)&&loc sc x)=true:=h1;simp only[UN,dQ]at h1;obtain⟨⟨hi,hx⟩,hl⟩:=h1;unfold loc at hl;simp only[V8,beq_iff_eq]at hl;have hND:X.N.Nodup:=by rw[C.hN];exact C.nd
     have hNi:X.N[i]?=some x:=by rw[C.hN];exact hx
     have hloc:Loc X.env.scope x:=by rw[C.hs];exact hl
     have hf:X.fn x=true\/X.env.scope.names.lookup x=some .local:=by
      rw[C.hs];rcases hl with hl | hl
      ·exact .inr hl
      ·exact .inl (C.fn i x hi hx hl)
     have hke:X.env.scope.kind = .function:=by rw[C.hs];exact hk
     cases hsw:D8 sc re x px with
     | false=>exact A7 _ (Q8 hND hNi hloc ge.pe (by rw[IA hke,C.hs,hsw]) hf) (FQ ge.m)
     | true=>
       have h4:(!D8 sc re x px||isCmp re)=true:=h4;rw[hsw,Bool.not_true,XU]at h4;exact A7 _ (ge.cg h4 i x px pos hND hNi (by rw[C.hs];exact Jb hsw) (by rw[IA hke,C.hs,hsw])) (FQ ge.m)
mutual
theorem MH(C:Cok T Δ X N.length N sc)(hp:A0x (YX X.prog X.w) X.A X.env X.xe)(nx:∀ e s,¬ X.xe e s)(hk:sc.kind = .function):∀(s:Stm) (r:Stmt),Tl T N sc s r=true->GoodS X r (wSt Δ s)
 | .asg t e,r,h=>by
   replace h:=a8 h;obtain⟨v,hv,h⟩:=h;replace h:=a8 h;obtain⟨rt,hrt,h⟩:=h;obtain⟨pos,rfl⟩:=ES hv;simp only[UN]at h;obtain⟨⟨⟨h1,h2⟩,h3⟩,h4⟩:=h;rw[y9 hrt];exact⟨Jc C hk h1 h2 h3 h4,FR (c7 e _ C h2).m⟩
 | .put o i e,r,h=>by
   replace h:=a8 h;obtain⟨v,hv,h⟩:=h;replace h:=a8 h;obtain⟨rt,hrt,h⟩:=h;replace h:=a8 h;obtain⟨oi,hoi,h⟩:=h;obtain⟨pos,rfl⟩:=ES hv;obtain⟨p2,e2⟩:=Bp hoi;simp only[UN]at h;rw[y9 hrt,e2];have go:=c7 o _ C h.1.1.1;have gi:=c7 i _ C h.1.1.2;have ge:=c7 e _ C h.1.2;refine⟨A7 _ (K0 ge.pe (Q7 go.pe gi.pe KG (Gr h.2)) RW RY (Pk rfl)) (OZ go.m gi.m ge.m),?_⟩;exact λD D' ρ S l h=>ge.m _ _ _ _ (λv S1 q=>go.m _ _ _ _ (λx S2 q=>gi.m _ _ _ _ (λy S3 q=>D9 (λS4 q=>l.nx _ _ q) q) q) q) h
 | .dput o i e,r,h=>by
   replace h:=a8 h;obtain⟨v,hv,h⟩:=h;replace h:=a8 h;obtain⟨rt,hrt,h⟩:=h;replace h:=a8 h;obtain⟨oi,hoi,h⟩:=h;obtain⟨pos,rfl⟩:=ES hv;obtain⟨p2,e2⟩:=Bp hoi;simp only[UN]at h;rw[y9 hrt,e2];have go:=c7 o _ C h.1.1.1;have gi:=c7 i _ C h.1.1.2;have ge:=c7 e _ C h.1.2;have:=C.un;refine⟨A7 _ (Kf (by omega) go.pe gi.pe ge.pe (by unfold Z8;cases v.2<;>rfl)) (MG go.m gi.m ge.m),?_⟩;exact λD D' ρ S l h=>ge.m _ _ _ _ (λv S1 q=>go.m _ _ _ _ (λx S2 q=>gi.m _ _ _ _ (λy S3 q=>Dw (λS4 q=>l.nx _ _ q) q) q) q) h
 | .expr e,r,h=>by
   replace h:=a8 h;obtain⟨re,hre,h⟩:=h;obtain⟨pos,rfl⟩:=OQ hre;simp only[UN]at h;have ge:=c7 e _ C h.1
   have hs:Z8 re none pos.line X.env=pure false:=by
    have:=h.2;unfold Z8;cases re<;>first | rfl | (unfold D7 at this;cases this)
   refine⟨A7 _ (NB ge.pe hs) ?_,λD D' ρ S l h=>ge.m _ _ _ _ (λx S1 q=>l.nx _ _ q) h⟩;rintro D σ H ⟨as,ρ,S,ok,en,h⟩;exact⟨as,ρ,S,ok,en,ge.m _ _ _ _ (λx S1 q as1 H1 v g1 ok1 rv=>q as1 H1 σ g1 ok1 (en.mono g1.pre (g1.ku ok))) h⟩
 | .iff t a b,r,h=>by
   replace h:=a8 h;obtain⟨v,hv,h⟩:=h;obtain⟨pos,rfl⟩:=OR hv;simp only[UN]at h;have gt:=c7 t _ C h.1.1;have ga:=An C hp nx hk a _ h.1.2;have gb:=An C hp nx hk b _ h.2;exact⟨A7 _ (Ry gt.pt ga.ps gb.ps) (RU gt.mt ga.m gb.m),FT gt.mt ga.m gb.m⟩
 | .loop g it b,r,h=>by
   replace h:=a8 h;obtain⟨v,hv,h⟩:=h;obtain⟨pos,rfl⟩:=OS hv;simp only[UN,VB]at h;obtain⟨⟨⟨⟨h1,h2⟩,h3⟩,h4⟩,h5⟩:=h;rw[h5];have gi:=Du it _ _ C h2;have gb:=An C hp nx hk b _ h4;refine⟨A7 _ (Q9 hp C.calm gi.pi (Bq C g _ h1) gb.ps (Ac h3)) (OW gi.m gb.m),?_⟩;exact λD D' ρ S l h=>gi.m _ _ _ _ (λkeep xs S1 q=>BK gb.m xs l _ _ q) h
 | .whl t b,r,h=>by
   replace h:=a8 h;obtain⟨v,hv,h⟩:=h;obtain⟨pos,rfl⟩:=OT hv;simp only[UN,VB]at h;rw[h.2];have gt:=c7 t _ C h.1.1;have gb:=An C hp nx hk b _ h.1.2;exact⟨A7 _ (K4 hp gt.pt gb.ps) (OX gt.mt gb.m),FS gt.mt gb.m⟩
 | .ret e,r,h=>by
   replace h:=a8 h;obtain⟨o,ho,h⟩:=h;replace h:=a8 h;obtain⟨re,hre,h⟩:=h;obtain⟨pos,rfl⟩:=OU ho;rw[hre];have ge:=c7 e _ C h;exact⟨A7 _ (Q4 ge.pe) λD σ H ⟨as,ρ,S,ok,en,h⟩=>⟨as,ρ,S,ok,en,h⟩,λD D' ρ S l h=>ge.m _ _ _ _ l.rt h⟩
 | .no,r,h=>⟨λ_ _ _ _ _ _ h=>let ⟨_,_,_,_,_,z⟩:=h;z.elim,λ_ _ _ _ _ h=>h⟩
theorem An(C:Cok T Δ X N.length N sc)(hp:A0x (YX X.prog X.w) X.A X.env X.xe)(nx:∀ e s,¬ X.xe e s)(hk:sc.kind = .function):∀(s:List Stm) (r:List Stmt),Br T N sc s r=true->GoodSs X r (wSs Δ s)
 | [],r,h=>by
   rw[Br,VB]at h;subst h;exact Gq
 | s::ss,r,h=>by
   rw[Br]at h;replace h:=a8 h;obtain⟨x,hx,h⟩:=h;rw[UN]at h;rw[AU hx];have:=FP (MH C hp nx hk s x h.1) (An C hp nx hk ss _ h.2);rw[wSs];exact this
end
end
mutual
theorem c6{Δ:Nat->Sn}(hΔ:∀ f,MonoN (Δ f)):∀(e:Ex),Mono (wEx Δ e).1/\MonoT (wEx Δ e).2
 | .var i=>⟨.var,.tru .var⟩
 | .c x=>⟨.c,.tru .c⟩
 | .op o a b=>have m:Mono _ := .two (s:=sOp o) Ht (c6 hΔ a).1 (c6 hΔ b).1;⟨m,.tru m⟩
 | .neg a=>have m:Mono _ := .one Cz (c6 hΔ a).1;⟨m,.tru m⟩
 | .cmp o a b=>have m:Mono _ := .two (s:=Ax o) AC (c6 hΔ a).1 (c6 hΔ b).1;⟨m,.bl m⟩
 | .chn o p a b c=>have m:=F5 (o:=o) (p:=p) (c6 hΔ a).1 (c6 hΔ b).1 (c6 hΔ c).1;⟨m,.bl m⟩
 | .and a b=>⟨.and (c6 hΔ a).1 (c6 hΔ b).1,.and (c6 hΔ a).2 (c6 hΔ b).2⟩
 | .or a b=>⟨.or (c6 hΔ a).1 (c6 hΔ b).1,.or (c6 hΔ a).2 (c6 hΔ b).2⟩
 | .not a=>⟨.not (c6 hΔ a).1,.not (c6 hΔ a).2⟩
 | .ife t a b=>⟨.ifE (c6 hΔ t).2 (c6 hΔ a).1 (c6 hΔ b).1,λ_ _ _ _ _ h=>h⟩
 | .tup es=>have m:Mono _ := .n .tup (Ao hΔ es);⟨m,.tru m⟩
 | .lst es=>have m:Mono _ := .n .lst (Ao hΔ es);⟨m,.tru m⟩
 | .ix a b=>have m:Mono _ := .two .ix (c6 hΔ a).1 (c6 hΔ b).1;⟨m,.tru m⟩
 | .call f es=>have m:Mono _ := .n (hΔ f) (Ao hΔ es);⟨m,.tru m⟩
 | .bi b es=>have m:Mono _ := .n (s:=sBi b) .bi (Ao hΔ es);⟨m,.tru m⟩
 | .mt m' a es=>have m:Mono _:=Mono.mt (m:=m') (c6 hΔ a).1 (Ao hΔ es);⟨m,.tru m⟩
 | .comp own cn js g it t e=>have m:Mono _:=Mono.cG (k:=own.length) (js:=js) (g:=g) (FU hΔ it) (t7 hΔ t).2 (D6 (c6 hΔ e).1) (b0:=[]) (fin:=R5 SO.lst) (λ_ _ i _ _=>i _ _);⟨m,.tru m⟩
 | .tyc t=>⟨.c,.tru .c⟩
 | .lrng1 a=>have m:=D2 (c6 hΔ a).1;⟨m,.tru m⟩
 | .rev a=>have m:Mono _ := .one F9 (c6 hΔ a).1;⟨m,.tru m⟩
 | .srtk x lp j y cn js a e=>have m:=Dp (c6 hΔ a).1;⟨m,.tru m⟩
 | .dvals a=>have m:=D3 (c6 hΔ a).1;⟨m,.tru m⟩
 | .dget0 d e=>have m:=D4 (c6 hΔ d).1 (c6 hΔ e).1;⟨m,.tru m⟩
 | .dget2 d e v=>have m:=D5 (c6 hΔ d).1 (c6 hΔ e).1 (c6 hΔ v).1;⟨m,.tru m⟩
 | .lstd a=>have m:=Ds (c6 hΔ a).1;⟨m,.tru m⟩
 | .srtset a=>have m:=CJ (c6 hΔ a).1;⟨m,.tru m⟩
 | .dnew=>⟨C8,.tru C8⟩
 | .dget a b=>have m:Mono _ := .two C7 (c6 hΔ a).1 (c6 hΔ b).1;⟨m,.tru m⟩
 | .no=>⟨λ_ _ _ _ _ h=>h,λ_ _ _ _ _ h=>h⟩
theorem Ao{Δ:Nat->Sn}(hΔ:∀ f,MonoN (Δ f)):∀(es:Exs),MonoA (F2 Δ es)
 | .nil => .nil
 | .cons e es => .cons (c6 hΔ e).1 (Ao hΔ es)
theorem t7{Δ:Nat->Sn}(hΔ:∀ f,MonoN (Δ f)):∀(o:Eo),MonoO (wEo Δ o).1/\MonoT (wEo Δ o).2
 | .no=>⟨.no,λ_ _ _ _ i q=>i _ _ q⟩
 | .yes e=>⟨.yes (c6 hΔ e).1,(c6 hΔ e).2⟩
theorem FU{Δ:Nat->Sn}(hΔ:∀ f,MonoN (Δ f)):∀(it:Itb),MonoI (O9 Δ it)
 | .seq e=>λρ S P P' i h=>(c6 hΔ e).1 _ _ _ _ (λx S1 ⟨xs,e,q⟩=>⟨xs,e,i _ _ _ q⟩) h
 | .rng1 a=>λρ S P P' i h=>(c6 hΔ a).1 _ _ _ _ (λx S1 ⟨j,e,z,q⟩=>⟨j,e,z,i _ _ _ q⟩) h
 | .enum e=>λρ S P P' i h=>(c6 hΔ e).1 _ _ _ _ (λx S1 ⟨xs,e,q⟩=>⟨xs,e,i _ _ _ q⟩) h
end
mutual
theorem Ob{Δ:Nat->Sn}(hΔ:∀ f,MonoN (Δ f)):∀(s:Stm),MonoS (wSt Δ s)
 | .asg t e=>by exact FR (c6 hΔ e).1
 | .put o i e=>by exact λD D' ρ S l h=>(c6 hΔ e).1 _ _ _ _ (λv S1 q=>(c6 hΔ o).1 _ _ _ _ (λx S2 q=>(c6 hΔ i).1 _ _ _ _ (λy S3 q=>D9 (λS4 q=>l.nx _ _ q) q) q) q) h
 | .dput o i e=>by exact λD D' ρ S l h=>(c6 hΔ e).1 _ _ _ _ (λv S1 q=>(c6 hΔ o).1 _ _ _ _ (λx S2 q=>(c6 hΔ i).1 _ _ _ _ (λy S3 q=>Dw (λS4 q=>l.nx _ _ q) q) q) q) h
 | .expr e=>by exact λD D' ρ S l h=>(c6 hΔ e).1 _ _ _ _ (λx S1 q=>l.nx _ _ q) h
 | .iff t a b=>by exact FT (c6 hΔ t).2 (l6 hΔ a) (l6 hΔ b)
 | .loop g it b=>by exact λD D' ρ S l h=>FU hΔ it _ _ _ _ (λkeep xs S1 q=>BK (l6 hΔ b) xs l _ _ q) h
 | .whl t b=>by exact FS (c6 hΔ t).2 (l6 hΔ b)
 | .ret e=>by exact λD D' ρ S l h=>(c6 hΔ e).1 _ _ _ _ l.rt h
 | .no=>by exact λD D' ρ S l h=>h
theorem l6{Δ:Nat->Sn}(hΔ:∀ f,MonoN (Δ f)):∀(s:List Stm),MonoS (wSs Δ s)
 | []=>by exact λD D' ρ S l h=>l.nx _ _ h
 | s::ss=>by exact λD D' ρ S l h=>(Ob hΔ s).go (D:={D with nx:=wSs Δ ss D}) h ⟨λρ' S' q=>(l6 hΔ ss) _ _ _ _ l q,l.rt,l.bk,l.ct⟩
end
theorem MI{P:List YQ->Prop}{n:Nat}(h:∀ a us,us.length=n->P (a::us)):∀ us:List YQ,us.length=n+1->P us
 | a::us,e=>h a us (YL.inj e)
theorem Gv{P:List YQ->Prop}(h:∀ a,P [a]):∀ us:List YQ,us.length=1->P us:=MI λa us e=>Vk.mp e▸h a
theorem DA{P:List YQ->Prop}(h:∀ a b,P [a,b]):∀ us:List YQ,us.length=2->P us:=MI λa=>Gv (P:=λus=>P (a::us)) (h a)
theorem Jd{P:List YQ->Prop}(h:∀ a b c,P [a,b,c]):∀ us:List YQ,us.length=3->P us:=MI λa=>DA (P:=λus=>P (a::us)) (h a)
theorem MJ{P:List YQ->Prop}(h:∀ a b c d,P [a,b,c,d]):∀ us:List YQ,us.length=4->P us:=MI λa=>Jd (P:=λus=>P (a::us)) (h a)
theorem UH{P:List YQ->Prop}(h:∀ a b c d e,P [a,b,c,d,e]):∀ us:List YQ,us.length=5->P us:=MI λa=>MJ (P:=λus=>P (a::us)) (h a)
structure Df where
 name:Str
 st:Stmt
 ps:List Str
 N:List Str
 body:List Stm
noncomputable def q0(Q:QE):EndsS:=⟨λ_ S'=>Q .non S',Q,λ_ _=>False,λ_ _=>False⟩
noncomputable def MK(n:Nat)(xs:List SV):EnvS:=xs.map some++Ue (n - xs.length) none
noncomputable def j6(Δ:Nat->Sn)(D:Df):Sn:=λxs S Q=>xs.length=D.ps.length/\wSs Δ D.body (q0 Q) (MK D.N.length xs) S
noncomputable def W(prog:List Df):Nat->Nat->Sn
 | 0,_=>λ_ _ _=>False
 | d+1,f=>match prog[f]? with
   | some D=>j6 (W prog d) D
   | none=>λ_ _ _=>False
theorem ML{Δ:Nat->Sn}(hΔ:∀ f,MonoN (Δ f))(D:Df):MonoN (j6 Δ D):=λxs S P P' i h=>⟨h.1,(l6 hΔ D.body).go h.2 ⟨λ_ _ q=>i _ _ q,i,λ_ _ q=>q,λ_ _ q=>q⟩⟩
theorem DB{prog:List Df}:∀(d f:Nat),MonoN (W prog d f)
 | 0,f=>λ_ _ _ _ _ h=>h
 | d+1,f=>by
   unfold W;split
   ·exact ML (DB d) _
   ·exact λ_ _ _ _ _ h=>h
noncomputable def fnB(N ps:List Str)(sc:Yi):Bool:=decide (sc.kind = .function)&&!sc.isCoroutine&&!sc.isGenerator&&decide N.Nodup&&decide (N.take ps.length=ps)&&ps.all (loc sc)&&sc.names.all (λy=>!decide (y.2 = .free))
theorem RZ{N ps:List Str}{sc:Yi}(h:fnB N ps sc=true):FnScope N ps sc:=by
 unfold fnB at h;simp only[UN,dQ,Uu,Uq,decide_eq_false_iff_not]at h;obtain⟨⟨⟨⟨⟨⟨h1,h2⟩,h3⟩,h4⟩,h5⟩,h6⟩,h7⟩:=h;refine⟨h1,h2,h3,h4,h5,λx hx=>?_,h7⟩;have:=h6 x hx;unfold loc at this;simpa using this
noncomputable def Oc(T:List Str)(D:Df):Bool:=fnB D.N D.ps (defScope D.st)&&Br (T++[D.name]) D.N (defScope D.st) D.body (defBody D.st)
structure Bl(mg:Str->Option YQ):Prop where
 bl:∀ b:BI,mg b.name=none
 rng:mg "range"=none
 enm:mg "enumerate"=none
 rvs:mg "reversed"=none
 zip:mg "zip"=none
 sm0:mg "sum"=none
 st0:mg "set"=none
 dc0:mg "dict"=none
 ty:∀ t:TyN,t ≠ .none->mg (Str.ofString t.nm)=none
section
variable{P:YZ}{w:Yc}{K:UL}{mg:Str->Option YQ}{base:Heap}
theorem Je{as:List YT}{H:Hp}{N:List Str}{vs:List V}{xs:List SV}(r:RlAll K as H vs xs):EnvOk K as H (L2.start N vs) (MK N.length xs):=by
 unfold L2.start MK;rw[<-r.length];refine⟨by simp[r.length],λi x e=>?_⟩;by_cases hi:i<vs.length
 ·rw[Ud (by rw[UQ,<-r.length];exact hi),UZ]at e;rw[Ud (by simpa using hi),UZ];cases hx:xs[i]? with
  | none=>rw[hx]at e;cases e
  | some y=>
    rw[hx]at e;have:y=x:=by simpa using e
    subst this;obtain⟨v,hv,rv⟩:=r.get hx;exact⟨v,by rw[hv];rfl,rv⟩
 ·rw[Uw (by rw[UQ,<-r.length];omega),Vi]at e;split at e<;>cases e
theorem MM{T:List Str}{Δ:Nat->Sn}{D:Df}{f:YT}{fd:ZF}{k:Nat}(F:Fun K D.name D.name D.st f fd)(hme:∀ c P,TabK K D.name c P->fd.code = .ref c)(hc:Oc T D=true)(B:Bl mg)(hcall:∀ f x,T[f]?=some x->∃ ps,Cal P w K mg base k x ps (spS K (Δ f)))(hΔ:∀ f,MonoN (Δ f)):FnOk P w K mg base CX0 (k+1) f fd D.ps (spS K (j6 Δ D)):=by
 unfold Oc at hc;rw[UN]at hc;have S:=RZ hc.1;obtain⟨oc,od,kV,doc,pm,an,cdv,ct,osl,rfl,lk,hcd⟩:=F.ex;refine SQ lk hcd S (λvs H Q E h=>?_) (λA outer s H vs Q E hr h=>?_)
 ·obtain⟨as,S,xs,ok,r,hl,_⟩:=h;rw[r.length];exact hl
 ·have C:Cok (T++[D.name]) Δ (Ii CX0 P w K mg base D.N D.name (defScope D.st) f cdv A outer s H E).nox D.N.length D.N (defScope D.st):={
   hN:=rfl,hs:=rfl,nd:=S.nd,calm:=rfl,fn:=λ_ _ _ _ _=>rfl
   un:=by have:=hr.un;show(A.deeper _).units+102<cLine;omega
   bl:=B.bl,rng:=B.rng,enm:=B.enm,rvs:=B.rvs,zip:=B.zip,sm0:=B.sm0,st0:=B.st0,dc0:=B.dc0,ty:=B.ty,gd:=hr.gd
   me:=λx hx=>by
    have e:D.name=x:=by simpa using hx
    subst e;exact⟨rfl,hme,by have:=hr.dp;show(A.deeper _).depth+2<ZE;omega,by have:=hr.un;show(A.deeper _).units+110<cLine;omega⟩
   call:=λg x hl hx=>let ⟨ps,c⟩:=hcall g x (by rwa [Ud (by rw[UR]at hl;exact Nat.lt_of_succ_lt_succ hl)]at hx);⟨k,ps,c,hr⟩
   mono:=hΔ}
  refine⟨_,((An C PassesOwn.never (λ_ _ h=>h) S.kind D.body _ hc.2).ps).nox,?_⟩;obtain⟨as,S,xs,ok,r,hl,h⟩:=h;refine⟨as,_,S,ok,Je r,(l6 hΔ D.body).go h ⟨λρ' S' q as' H' σ' g ok' en'=>q as' H' _ g ok' (rl_non.mpr rfl),λx S' q=>q,λ_ _ q=>q.elim,λ_ _ q=>q.elim⟩⟩
theorem IB{x:Str}{f:YT}{od:Option YT}{sl:Array (Option YQ)}{oc:YQ}{fd:ZF}(a:PySem.W.nsIn K Ya x=some (some (.ref f)))(l:K.lookup f=some ⟨oc,od,.func fd,sl⟩):∀ c P,TabK K x c P->fd.code = .ref c:=by
 rintro c P ⟨h,_⟩;unfold PySem.W.tabIn at h;simp only[a,l]at h;split at h
 ·rename_i c2 e;split at h
  ·split at h
   ·cases h;exact e
   ·cases h
  ·cases h
 ·cases h
structure PIn(K:UL)(mg:Str->Option YQ)(D:Df):Prop where
 ex:∃ f fd,Fun K D.name D.name D.st f fd/\(∀ c P,TabK K D.name c P->fd.code = .ref c)/\mg D.name=some (.ref f)/\PySem.W.keepIn K (.ref f)=true/\Binds K fd D.ps []
theorem IC{prog:List Df}(hc:prog.all (Oc (prog.map (·.name)))=true)(B:Bl mg)(hin:∀ D∈prog,PIn K mg D):∀(d f:Nat) (D:Df),prog[f]?=some D->Cal P w K mg base d D.name D.ps (spS K (W prog d f))
 | 0,f,D,hf=>by
   obtain⟨fa,fd,F,hme,hm,hk,hb⟩:=(hin D (UO hf)).ex;refine⟨fa,fd,⟨λvs H Q E h=>?_,λA outer s H args us vs Q E hr he hbn hv h=>?_⟩,hm,hk,hb⟩
   ·obtain⟨_,_,_,_,_,z⟩:=h;exact z.elim
   ·obtain⟨_,_,_,_,_,z⟩:=h;exact z.elim
 | d+1,f,D,hf=>by
   obtain⟨fa,fd,F,hme,hm,hk,hb⟩:=(hin D (UO hf)).ex;have h1:=Uq.mp hc D (UO hf)
   have:=MM (Δ:=W prog d) (P:=P) (w:=w) (base:=base) (k:=d) F hme h1 B (λg x hx=>by
    rw[UZ]at hx;cases hg:prog[g]? with
    | none=>rw[hg]at hx;cases hx
    | some D'=>
      rw[hg]at hx;have:D'.name=x:=by simpa using hx
      subst this;exact⟨D'.ps,IC hc B hin d g D' hg⟩) (DB d)
   have e:W prog (d+1) f=j6 (W prog d) D:=by rw[W,hf]
   rw[e];exact⟨fa,fd,this,hm,hk,hb⟩
theorem Od{prog:List Df}{d f:Nat}{H:Hp}{a:YT}{ns:List Int}{ts:List YT}{tl:List (Str×Pos)}(main:W prog d f [.ro (ns.map SV.int)] (tl.map λp => .tbl p.1 p.2) λx _=>x = .bl true)(nd:ts.Nodup)(hl:ts.length=tl.length)(hk:∀(i:Nat) P p,ts[i]?=some P->tl[i]?=some p->∃ c,TabK K p.1 c P)(hO:Hi ts H)(hS:SqL K H a (ns.map V.int)):spS K (W prog d f) [.ref a] H (λv _=>v = .bl true) λ_ _ _=>False:=by
 have hz:FzL K H a (ns.map V.int):=by
  rcases hS with(h | ⟨o,h⟩) | h
  ·rcases hO.2 a with z | ⟨o,xs,z⟩ | z
   ·rw[h]at z;cases z
   ·rw[h]at z;cases z
   ·have z:=hO.1 a z;rw[h]at z;cases z
  ·exact .inl ⟨o,h⟩
  ·exact .inr h
 refine⟨ts,_,_,⟨by rw[UQ,hl],nd,λi o P e eP=>?_⟩,.cons (rl_ro.mpr ⟨a,_,rfl,hz,RlAll.ints⟩) .nil,DB d f _ _ _ _ (λx S' e as' H' v g ok r=>?_) main⟩
 ·rw[UZ]at e;obtain⟨p,e1,e2⟩:=Vl.mp e;obtain⟨c,hc⟩:=hk i P p eP e1;rw[<-e2];exact⟨c,#[],hO.1 P (UO eP),hc,trivial,.inl rfl⟩
 ·subst e;exact rl_bl.mp r
end
section
variable{T:List Nat}{a b:Nat->Nat}{r:Nat->Int}
noncomputable def Gx(T:List Nat)(a b:Nat->Nat)(r:Nat->Int):Prop:=∀ t∈T,∀ u∈T,t≠u->a t=a u\/b t=b u->r t≠r u
structure StbP(T:List Nat)(a b:Nat->Nat)(r:Nat->Int)(M:Nat->Prop):Prop where
 sub:∀ t,M t->t∈T
 ap:∀ t u,M t->M u->a t=a u\/b t=b u->t=u
 dom:∀ t∈T,¬ M t->∃ u,M u/\((a u=a t/\r t<r u)\/(b u=b t/\r u<r t))
structure RunP(T:List Nat)(a b:Nat->Nat)(r:Nat->Int)(asks:Nat->List Nat)(held:Nat->Option Nat)(wt:List Nat):Prop where
 asub:∀ p,∀ t∈asks p,t∈T/\a t=p
 asrt:∀ p,(asks p).Pairwise (λt u=>r t<r u)
 pop:∀ t∈T,t∉asks (a t)->∀ u∈asks (a t),r u<r t
 hb:∀ q t,held q=some t->b t=q/\t∈T/\t∉asks (a t)
 h1:∀ q q' t u,held q=some t->held q'=some u->a t=a u->q=q'
 rej:∀ t∈T,t∉asks (a t)->∃ u,held (b t)=some u/\(u=t\/(r u<r t/\∀ M,StbP T a b r M->¬ M t))
 wn:wt.Nodup
 wh:∀ p∈wt,∀ q t,held q=some t->a t≠p
 out:∀ p,p∉wt->asks p=[]\/∃ q t,held q=some t/\a t=p
noncomputable def AD{α:Type}(f:Nat->α)(p:Nat)(x:α):Nat->α:=λq=>if q=p then x else f q
theorem i7{α:Type}{f:Nat->α}{p:Nat}{x:α}:AD f p x p=x:=iP rfl
theorem j7{α:Type}{f:Nat->α}{p q:Nat}{x:α}(h:q≠p):AD f p x q=f q:=iG h
variable{asks:Nat->List Nat}{held:Nat->Option Nat}{wt:List Nat}{p t:Nat}{l:List Nat}
theorem RunP.skip(R:RunP T a b r asks held (wt++[p]))(h:asks p=[]):RunP T a b r asks held wt:=
 {R with
  wn:=(VN.mp R.wn).1
  wh:=λx hx=>R.wh x (Um _ hx)
  out:=λx hx=>by
   by_cases e:x=p
   ·rw[e];exact .inl h
   ·exact R.out x λz=>(Ul.mp z).elim hx λz=>e (UT.mp z)}
theorem RunP.no(R:RunP T a b r asks held wt){v:Nat}{M:Nat->Prop}(S:StbP T a b r M)(hv:M v)(hp:v∉asks (a v)):held (b v)=some v:=by
 obtain⟨w,h1,h2⟩:=R.rej v (S.sub v hv) hp;rcases h2 with rfl | h2
 ·exact h1
 ·exact absurd hv (h2.2 M S)
section
variable(U:Gx T a b r)(R:RunP T a b r asks held (wt++[p]))(h:asks p=l++[t])
include U R h
theorem RunP.t_in:t∈T/\a t=p:=R.asub p t (by rw[h];simp)
theorem RunP.t_top:∀ u∈asks p,u=t\/r u<r t:=λu hu=>by
 rw[h]at hu;have:=R.asrt p;rw[h]at this;rcases Ul.mp hu with hu | hu
 ·exact .inr ((W6.mp this).2.2 u hu t (by simp))
 ·exact .inl (UT.mp hu)
theorem RunP.t_out:t∉l:=λz=>by
 have:=R.asrt p;rw[h]at this;exact absurd ((W6.mp this).2.2 t z t (by simp)) (by omega)
theorem RunP.gone{u:Nat}(hu:u∈T):u∉AD asks p l (a u)↔u∉asks (a u)\/u=t:=by
 obtain⟨tT,ta⟩:=R.t_in U h;by_cases e:a u=p
 ·rw[e,i7,h];constructor
  ·intro z;by_cases ut:u=t
   ·exact .inr ut
   ·exact .inl λy=>(Ul.mp y).elim z λy=>ut (UT.mp y)
  ·rintro(z | z)
   ·exact λy=>z (Um _ y)
   ·rw[z];exact R.t_out U h
 ·rw[j7 e];exact⟨.inl,λz=>z.elim id λz=>absurd (z▸ta) e⟩
theorem RunP.asub':∀ x,∀ u∈AD asks p l x,u∈T/\a u=x:=λx u hu=>by
 by_cases e:x=p
 ·rw[e,i7]at hu;rw[e];exact R.asub p u (by rw[h];exact Um _ hu)
 ·rw[j7 e]at hu;exact R.asub x u hu
theorem RunP.asrt':∀ x,(AD asks p l x).Pairwise (λt u=>r t<r u):=λx=>by
 by_cases e:x=p
 ·rw[e,i7];have:=R.asrt p;rw[h]at this;exact(W6.mp this).1
 ·rw[j7 e];exact R.asrt x
theorem RunP.pop':∀ u∈T,u∉AD asks p l (a u)->∀ v∈AD asks p l (a u),r v<r u:=λu hu hg v hv=>by
 obtain⟨tT,ta⟩:=R.t_in U h
 have hv0:v∈asks (a u):=by
  by_cases e:a u=p
  ·rw[e,i7]at hv;rw[e,h];exact Um _ hv
  ·rw[j7 e]at hv;exact hv
 rcases(R.gone U h hu).mp hg with z | z
 ·exact R.pop u hu z v hv0
 ·subst z;rw[ta]at hv hv0;rcases R.t_top U h v hv0 with e | e
  ·rw[i7]at hv;exact absurd (e▸hv) (R.t_out U h)
  ·exact e
theorem RunP.take(hq:∀ u,held (b t)=some u->r t<r u):RunP T a b r (AD asks p l) (AD held (b t) (some t)) (wt++match held (b t) with | some u=>[a u] | none=>[]):=by
 obtain⟨tT,ta⟩:=R.t_in U h;have tin:t∈asks p:=by rw[h];simp
 have pw:p∈wt++[p]:=by simp
 have nd:=VN.mp R.wn;have pn:p∉wt:=λz=>nd.2.2 p z p (by simp) rfl;have np:∀ q u,held q=some u->a u≠p:=R.wh p pw
 have lost:∀ u,held (b t)=some u->∀ M,StbP T a b r M->¬ M u:=λu hu M S hM=>by
  obtain⟨ub,uT,ug⟩:=R.hb _ u hu;have lt:=hq u hu
  have nt:¬ M t:=λz=>by
   have:=S.ap t u z hM (.inr ub.symm);rw[this]at lt;omega
  obtain⟨v,hv,z⟩:=S.dom t tT nt;rcases z with⟨z1,z2⟩ | ⟨z1,z2⟩
  ·have vg:v∉asks (a v):=λy=>by
    rw[z1,ta]at y;rcases R.t_top U h v y with e | e
    ·rw[e]at z2;omega
    ·omega
   exact np _ v (R.no S hv vg) (z1.trans ta)
  ·have:=S.ap u v hM hv (.inr (ub.trans z1.symm));rw[<-this]at z2;omega
 refine⟨R.asub' U h,R.asrt' U h,R.pop' U h,λq u hu=>?_,λq q' u v hu hv e=>?_,λu hu hg=>?_,?_,λx hx q u hu=>?_,λx hx=>?_⟩
 ·by_cases e:q=b t
  ·rw[e,i7]at hu;cases hu;exact⟨e.symm,tT,(R.gone U h tT).mpr (.inr rfl)⟩
  ·rw[j7 e]at hu;obtain⟨h1,h2,h3⟩:=R.hb q u hu;exact⟨h1,h2,(R.gone U h h2).mpr (.inl h3)⟩
 ·by_cases e1:q=b t
  ·by_cases e2:q'=b t
   ·rw[e1,e2]
   ·rw[e1,i7]at hu;cases hu;rw[j7 e2]at hv;exact absurd (e.symm.trans ta) (np _ _ hv)
  ·rw[j7 e1]at hu;by_cases e2:q'=b t
   ·rw[e2,i7]at hv;cases hv;exact absurd (e.trans ta) (np _ _ hu)
   ·rw[j7 e2]at hv;exact R.h1 q q' u v hu hv e
 ·rcases(R.gone U h hu).mp hg with z | z
  ·obtain⟨v,h1,h2⟩:=R.rej u hu z;by_cases e:b u=b t
   ·rw[e]at h1 ⊢;refine⟨t,i7,.inr ?_⟩;have lt:=hq v h1;rcases h2 with rfl | h2
    ·exact⟨lt,lost _ h1⟩
    ·exact⟨by omega,h2.2⟩
   ·rw[j7 e];exact⟨v,h1,h2⟩
  ·subst z;exact⟨u,i7,.inl rfl⟩
 ·cases e:held (b t) with
  | none=>simp;exact nd.1
  | some u=>
    refine VN.mpr ⟨nd.1,by simp,λx hx y hy=>?_⟩;rw[UT.mp hy];intro z;exact R.wh x (Um _ hx) _ u e z.symm
 ·by_cases e:q=b t
  ·rw[e,i7]at hu;cases hu;rw[ta];rcases Ul.mp hx with hx | hx
   ·exact λz=>pn (z▸hx)
   ·cases e2:held (b t) with
    | none=>rw[e2]at hx;cases hx
    | some v=>rw[e2]at hx;rw[UT.mp hx];exact λz=>np _ _ e2 z.symm
  ·rw[j7 e]at hu;rcases Ul.mp hx with hx | hx
   ·exact R.wh x (Um _ hx) q u hu
   ·cases e2:held (b t) with
    | none=>rw[e2]at hx;cases hx
    | some v=>rw[e2]at hx;rw[UT.mp hx];exact λz=>e (R.h1 _ _ _ _ hu e2 z)
 ·by_cases e:x=p
  ·rw[e];exact .inr ⟨b t,t,i7,ta⟩
  ·have hx':x∉wt++[p]:=λz=>(Ul.mp z).elim (λz=>hx (Um _ z)) λz=>e (UT.mp z);rcases R.out x hx' with z | ⟨q,u,hu,ea⟩
   ·exact .inl (by rw[j7 e];exact z)
   ·by_cases eq:q=b t
    ·exfalso;rw[eq]at hu;refine hx (Uo _ ?_);rw[hu];exact UT.mpr ea.symm
    ·exact .inr ⟨q,u,by rw[j7 eq];exact hu,ea⟩
theorem RunP.away{u:Nat}(hu:held (b t)=some u)(hr:¬ r t<r u):RunP T a b r (AD asks p l) held (wt++[p]):=by
 obtain⟨tT,ta⟩:=R.t_in U h;have tin:t∈asks p:=by rw[h];simp
 obtain⟨ub,uT,ug⟩:=R.hb _ u hu;have ut:u≠t:=λz=>ug (by rw[z,ta];exact tin)
 have lt:r u<r t:=by
  have:=U u uT t tT ut (.inr ub);omega
 have lost:∀ M,StbP T a b r M->¬ M t:=λM S hM=>by
  have nu:¬ M u:=λz=>ut (S.ap u t z hM (.inr ub));obtain⟨v,hv,z⟩:=S.dom u uT nu;rcases z with⟨z1,z2⟩ | ⟨z1,z2⟩
  ·have vg:v∉asks (a v):=λy=>by
    rw[z1]at y;have:=R.pop u uT ug v y;omega
   have e:=R.h1 _ _ _ _ (R.no S hv vg) hu z1;have h2:=R.no S hv vg;rw[e,hu]at h2;cases h2;omega
  ·have:=S.ap t v hM hv (.inr (by rw[z1,ub]));rw[<-this]at z2;omega
 refine⟨R.asub' U h,R.asrt' U h,R.pop' U h,λq v hv=>?_,R.h1,λv hv hg=>?_,R.wn,R.wh,λx hx=>?_⟩
 ·obtain⟨h1,h2,h3⟩:=R.hb q v hv;exact⟨h1,h2,(R.gone U h h2).mpr (.inl h3)⟩
 ·rcases(R.gone U h hv).mp hg with z | z
  ·exact R.rej v hv z
  ·subst z;exact⟨u,hu,.inr ⟨lt,lost⟩⟩
 ·have e:x≠p:=λz=>hx (by rw[z];simp);rcases R.out x hx with z | z
  ·exact .inl (by rw[j7 e];exact z)
  ·exact .inr z
end
structure BestP(T:List Nat)(a b:Nat->Nat)(r:Nat->Int)(M:Nat->Prop):Prop where
 st:StbP T a b r M
 best:∀ M',StbP T a b r M'->∀ t,M' t->∃ u,M u/\a u=a t/\r t<=r u
theorem RunP.done(R:RunP T a b r asks held []):BestP T a b r λt=>∃ q,held q=some t:=by
 refine⟨⟨λt ⟨q,h⟩=>(R.hb q t h).2.1,λt u ⟨q,h⟩ ⟨q',h'⟩ e=>?_,λt tT nt=>?_⟩,λM S t hM=>?_⟩
 ·have e2:q=q':=e.elim (R.h1 q q' t u h h') λz=>by rw[<-(R.hb q t h).1,<-(R.hb q' u h').1,z]
  rw[e2,h']at h;exact(oj h).symm
 ·by_cases g:t∈asks (a t)
  ·rcases R.out (a t) (by simp) with z | ⟨q,u,hu,ea⟩
   ·rw[z]at g;cases g
   ·obtain⟨_,uT,ug⟩:=R.hb q u hu;exact⟨u,⟨q,hu⟩,.inl ⟨ea,R.pop u uT ug t (by rw[ea];exact g)⟩⟩
  ·obtain⟨u,h1,h2⟩:=R.rej t tT g;rcases h2 with rfl | h2
   ·exact absurd ⟨_,h1⟩ nt
   ·exact⟨u,⟨_,h1⟩,.inr ⟨(R.hb _ u h1).1,h2.1⟩⟩
 ·by_cases g:t∈asks (a t)
  ·rcases R.out (a t) (by simp) with z | ⟨q,u,hu,ea⟩
   ·rw[z]at g;cases g
   ·obtain⟨_,uT,ug⟩:=R.hb q u hu;have:=R.pop u uT ug t (by rw[ea];exact g);exact⟨u,⟨q,hu⟩,ea,by omega⟩
  ·exact⟨t,⟨_,R.no S hM g⟩,rfl,VM _⟩
theorem BestP.uniq{M M':Nat->Prop}(U:Gx T a b r)(A:BestP T a b r M)(B:BestP T a b r M'):∀ t,M t↔M' t:=by
 have go:∀{M M':Nat->Prop},BestP T a b r M->BestP T a b r M'->∀ t,M' t->M t:=λ{M M'} A B t ht=>by
  obtain⟨u,hu,ea,h1⟩:=A.best M' B.st t ht;obtain⟨v,hv,ea2,h2⟩:=B.best M A.st u hu;have e:=B.st.ap v t hv ht (.inl (ea2.trans ea));subst e;by_cases ut:u=v
  ·rw[<-ut];exact hu
  ·exact absurd (by omega) (U u (A.st.sub u hu) v (B.st.sub v hv) ut (.inl ea))
 exact λt=>⟨go B A t,go A B t⟩
end
theorem c5{k:Nat}{S:Sto}{xs:List SV}(h:S[k]?=some (.lst xs)):seqS (.loc k) S=some xs:=by simp only[seqS,h]
theorem DC{k:Nat}{S:Sto}{xs:List SV}(h:S[k]?=some (.lst xs)):CI (.loc k) S=none:=by simp only[CI,h]
theorem Bs{k:Nat}{S:Sto}{xs:List SV}(h:S[k]?=some (.lst xs)):LQ (.loc k) S=some (!xs.isEmpty):=by simp only[LQ,h]
theorem Ra{k:Nat}{S:Sto}{xs:List SV}(h:S[k]?=some (.lst xs)):tyS (.loc k) S=some .list:=by simp only[tyS,h]
theorem ifT{b:Bool}{A B:Prop}(h:b=true)(a:A):if b=true then A else B:=by rw[iP h];exact a
theorem ifF{b:Bool}{A B:Prop}(h:b=false)(a:B):if b=true then A else B:=by rw[iG (by rw[h];decide)];exact a
theorem ifD{c A B:Prop}[Decidable c](h1:c->A)(h2:¬ c->B):if decide c=true then A else B:=by
 by_cases h:c
 ·rw[iP (decide_eq_true h)];exact h1 h
 ·rw[iG (by simpa using h)];exact h2 h
theorem ifB{b:Bool}{A B:Prop}(h1:b=true->A)(h2:b=false->B):if b=true then A else B:=by
 cases b with
 | true=>rw[iP rfl];exact h1 rfl
 | false=>rw[iG (by decide)];exact h2 rfl
theorem m9{S:Sto}{k:Nat}{o u:SO}(h:S[k]?=some o):(S.set k u)[k]?=some u:=Ut ((gM h).1)
theorem j4{S:Sto}{k j:Nat}{u:SO}(h:k≠j):(S.set k u)[j]?=S[j]?:=V7 h
theorem c9{S:Sto}{o:SO}:(S++[o])[S.length]?=some o:=V1
theorem e7{S:Sto}{o u:SO}{k:Nat}(h:S[k]?=some u):(S++[o])[k]?=some u:=by
 rw[Ud ((gM h).1)];exact h
theorem y0{S:Sto}{o:SO}{k:Nat}(h:S[k]?=some o):k<S.length:=(gM h).1
structure TapeS(S:Sto)(t:Nat):Prop where
 ex:∃ a b:Int,S[t]?=some (.lst [.int a,.int b])/\0<=a/\0<=b/\b<2147483647
structure On(t:Nat)(S S':Sto):Prop where
 len:S.length<=S'.length
 keep:∀ k o,k≠t->S[k]?=some o->S'[k]?=some o
theorem On.refl(t:Nat)(S:Sto):On t S S:=⟨US _,λ_ _ _ h=>h⟩
theorem On.trans{t:Nat}{S S' S'':Sto}(a:On t S S')(b:On t S' S''):On t S S'':=⟨Ux a.len b.len,λk o n h=>b.keep k o n (a.keep k o n h)⟩
theorem On.push{t:Nat}{S S':Sto}{o:SO}(a:On t S S'):On t S (S'++[o]):=⟨by rw[UR];have:=a.len;omega,λk u n h=>e7 (a.keep k u n h)⟩
theorem On.tape{t:Nat}{S S':Sto}{o:SO}(a:On t S S'):On t S (S'.set t o):=⟨by rw[Uy];exact a.len,λk u n h=>by rw[j4 (Ne.symm n)];exact a.keep k u n h⟩
theorem On.new{t k:Nat}{S S':Sto}{o:SO}(a:On t S S')(h:S.length<=k):On t S (S'.set k o):=⟨by rw[Uy];exact a.len,λj u n hj=>by
 rw[j4 (λz=>by have:=y0 hj;omega)];exact a.keep j u n hj⟩
theorem TapeS.push{S:Sto}{t:Nat}{o:SO}(h:TapeS S t):TapeS (S++[o]) t:=let ⟨a,b,e,z⟩:=h.ex;⟨a,b,e7 e,z⟩
theorem TapeS.other{S:Sto}{t k:Nat}{o:SO}(h:TapeS S t)(n:k≠t):TapeS (S.set k o) t:=let ⟨a,b,e,z⟩:=h.ex;⟨a,b,by rw[j4 n];exact e,z⟩
theorem TapeS.lt{S:Sto}{t:Nat}(h:TapeS S t):t<S.length:=let ⟨_,_,e,_⟩:=h.ex;y0 e
theorem AM{keep:Sto->Prop}{g:Tg}{b:WS}{D:EndsS}(mb:MonoS b)(I:Nat->EnvS->Sto->Prop){xs:List SV}{ρ:EnvS}{S:Sto}(h0:I 0 ρ S)(hk:∀ i ρ S,I i ρ S->keep S)
 (hs:∀ i x ρ S,xs[i]?=some x->I i ρ S->wTg g x ρ λρ2=>b {D with nx:=I (i+1),ct:=I (i+1),bk:=D.nx} ρ2 S) (hd:∀ ρ S,I xs.length ρ S->D.nx ρ S):v8 keep g b D xs ρ S:=by
 have go:∀(ys:List SV) (i:Nat) (ρ:EnvS) (S:Sto),xs.drop i=ys->i<=xs.length->I i ρ S->v8 keep g b D ys ρ S:=by
  intro ys
  induction ys with
  | nil=>
    intro i ρ S e hi h
    have:i=xs.length:=by
     have:=congrArg WW e;rw[Vx,Wj]at this;omega
    subst this;unfold v8;exact⟨hk _ _ _ h,hd _ _ h⟩
  | cons y ys ih=>
    intro i ρ S e hi h
    have hy:xs[i]?=some y:=by
     rw[<-Xx,e];rfl
    have hlt:=(gM hy).1;have e2:xs.drop (i+1)=ys:=by rw[<-Y6,e];rfl
    unfold v8;refine⟨hk _ _ _ h,w9 g (λρ2 q=>?_) (hs i y ρ S hy h)⟩;exact mb.go (D:={D with nx:=I (i+1),ct:=I (i+1),bk:=D.nx}) q ⟨λρ' S' z=>ih (i+1) ρ' S' e2 hlt z,λ_ _ z=>z,λ_ _ z=>z,λρ' S' z=>ih (i+1) ρ' S' e2 hlt z⟩
 exact go xs 0 ρ S rfl (VX _) h0
theorem B0{keep:Sto->Prop}{g:Tg}{b:WS}{D:EndsS}(mb:MonoS b)(I:Nat->EnvS->Sto->Prop){xs:List SV}{ρ:EnvS}{S:Sto}(h0:I 0 ρ S)(hk:∀ i ρ S,I i ρ S->keep S)
 (hs:∀ i x ρ S (E:EndsS),(∀ ρ S,I (i+1) ρ S->E.nx ρ S)->(∀ y S,D.rt y S->E.rt y S)->xs[i]?=some x->I i ρ S->wTg g x ρ λρ2=>b E ρ2 S) (hd:∀ ρ S,I xs.length ρ S->D.nx ρ S):v8 keep g b D xs ρ S:=
 AM mb I h0 hk (λi x ρ S hx hI=>hs i x ρ S {D with nx:=I (i+1),ct:=I (i+1),bk:=D.nx} (λ_ _ h=>h) (λ_ _ h=>h) hx hI) hd
theorem Oe{b:WS}{nx ct bk:EnvS->Sto->Prop}{rt:SV->Sto->Prop}{ρ:EnvS}{S:Sto}(h:∀ E:EndsS,(∀ ρ S,nx ρ S->E.nx ρ S)->(∀ x S,rt x S->E.rt x S)->b E ρ S):b ⟨nx,rt,bk,ct⟩ ρ S:=h _ (λ_ _ z=>z) (λ_ _ z=>z)
theorem Gy{β:Type}{keep:Sto->Prop}{g:Tg}{t:WT}{em:WM β}{ρ:EnvS}{Q:β->Sto->Prop}(mt:MonoT t)(me:FL em)(I:Nat->β->Sto->Prop){xs:List SV}{a:β}{S:Sto}(h0:I 0 a S)(hk:∀ i ys S,I i ys S->keep S)
 (hs:∀ i x ys S,xs[i]?=some x->I i ys S->wTg g x ρ λρ2=>t ρ2 S λb S1=>if b=true then em ρ2 ys S1 (I (i+1)) else I (i+1) ys S1) (hd:∀ ys S,I xs.length ys S->Q ys S):wTG keep g t em ρ Q xs a S:=by
 have go:∀(zs:List SV) (i:Nat) (ys:β) (S:Sto),xs.drop i=zs->i<=xs.length->I i ys S->wTG keep g t em ρ Q zs ys S:=by
  intro zs
  induction zs with
  | nil=>
    intro i ys S e' hi h;obtain rfl:i=xs.length:=Xy hi (List.drop_eq_nil_iff.mp e');exact⟨hk _ _ _ h,hd _ _ h⟩
  | cons y zs ih=>
    intro i ys S e' hi h;have hy:xs[i]?=some y:=by rw[<-Xx,e'];rfl
    have hlt:=(gM hy).1;have e2:xs.drop (i+1)=zs:=by rw[<-Y6,e'];rfl
    exact⟨hk _ _ _ h,w9 g (λρ2 q=>mt _ _ _ _ (λb S1 q=>m8 (λq=>me _ _ _ _ _ (λv S2 q=>ih (i+1) _ S2 e2 hlt q) q) (λq=>ih (i+1) _ S1 e2 hlt q) q) q) (hs i y ys S hy h)⟩
 exact go xs 0 a S rfl (VX _) h0
theorem m5{keep:Sto->Prop}{g:Tg}{t:WT}{e:WE}{ρ:EnvS}{Q:List SV->Sto->Prop}(mt:MonoT t)(me:Mono e)(I:Nat->List SV->Sto->Prop){xs:List SV}{S:Sto}(h0:I 0 [] S)(hk:∀ i ys S,I i ys S->keep S)
 (hs:∀ i x ys S,xs[i]?=some x->I i ys S->wTg g x ρ λρ2=>t ρ2 S λb S1=>if b=true then e ρ2 S1 λy S2=>ys.length<big/\I (i+1) (ys++[y]) S2 else I (i+1) ys S1) (hd:∀ ys S,I xs.length ys S->Q ys S):GU keep g t e ρ Q xs [] S:=Gy mt (D6 me) I h0 hk hs hd
theorem A8{lo hi:Int}{i:Nat}{x:SV}(h:(Ay lo hi)[i]?=some x):x = .int (lo+i)/\lo+i<hi:=by
 unfold Ay at h
 have hi':i<(hi - lo).toNat:=by
  have:=(gM h).1;simpa using this
 rw[UZ,W7 hi']at h;exact⟨(oj h).symm,by omega⟩
theorem v5{lo hi:Int}:(Ay lo hi).length=(hi - lo).toNat:=by unfold Ay;simp
noncomputable def pairS(e:Nat×Nat):SV := .tup [.int e.1,.int e.2]
noncomputable def Pl:List Stm:=[(.asg (.nm 2) (.c (.int 0))),(.iff (.cmp .Lt (.var 1) (.bi .len (.cons (.var 0) .nil))) [(.asg (.nm 2) (.ix (.var 0) (.var 1)))] []),(.asg (.nm 3) (.op .Mult (.bi .abs (.cons (.var 2) .nil)) (.bi .int (.cons (.cmp .GtE (.bi .abs (.cons (.var 2) .nil)) (.op .Pow (.c (.int 10)) (.c (.int 18)))) .nil)))),(.ret (.lst (.cons (.var 3) (.cons (.op .Mod (.op .Mult (.op .Mod (.op .Add (.op .Add (.var 2) (.op .Mult (.c (.int 7919)) (.var 1))) (.c (.int 1))) (.c (.int 2147483647))) (.c (.int 48271))) (.c (.int 2147483647))) .nil))))]
noncomputable def Pm:List Stm:=[(.iff (.cmp .Gt (.ix (.var 0) (.c (.int 0))) (.c (.int 0))) [(.asg (.nm 2) (.op .Mod (.ix (.var 0) (.c (.int 0))) (.var 1))),(.put (.var 0) (.c (.int 0)) (.op .FloorDiv (.ix (.var 0) (.c (.int 0))) (.var 1))),(.ret (.var 2))] []),(.put (.var 0) (.c (.int 1)) (.op .Mod (.op .Add (.op .Mult (.ix (.var 0) (.c (.int 1))) (.c (.int 48271))) (.c (.int 12345))) (.c (.int 2147483647)))),(.asg (.nm 3) (.op .Mod (.op .Mult (.ix (.var 0) (.c (.int 1))) (.op .Add (.op .Mod (.ix (.var 0) (.c (.int 1))) (.c (.int 1009))) (.c (.int 3)))) (.c (.int 2147483629)))),(.ret (.op .Mod (.op .Mod (.op .Mult (.var 3) (.op .Add (.op .Mod (.var 3) (.c (.int 997))) (.c (.int 5)))) (.c (.int 998244353))) (.var 1)))]
noncomputable def B1(s:Sn):Prop:=∀{t:Nat} {m:Int} {S:Sto} {Q:QE},TapeS S t->0<m->m<1073741824->(∀(r:Int) (S':Sto),0<=r->r<m->TapeS S' t->On t S S'->S'.length=S.length->Q (.int r) S')->s [.loc t,.int m] S Q
noncomputable def MN(s:Sn):Prop:=∀{ns:List Int} {k:Nat} {S:Sto} {Q:QE},ns.length<=63->k<=1000->(∀ a b:Int,0<=a->0<=b->b<2147483647->Q (.loc S.length) (S++[.lst [.int a,.int b]]))->s [.ro (ns.map SV.int),.int k] S Q
theorem b01(b:Bool):-(2 ^ 64)<(if b=true then (1:Int) else 0)/\(if b=true then (1:Int) else 0)<2 ^ 64:=by cases b<;>decide
theorem b00(b:Bool):0<=(if b=true then (1:Int) else 0):=by cases b<;>decide
theorem Of{Δ:Nat->Sn}{D:Df}(hb:D.body=Pm)(hN:D.N.length=4)(hp:D.ps.length=2):B1 (j6 Δ D):=by
 intro t m S Q T h0 h1 q;obtain⟨a,b,hS,ha,hb0,hb1⟩:=T.ex;unfold j6;rw[hb,hN];refine⟨hp.symm,?_⟩;have go:∀ r a' b':Int,0<=r->r<m->0<=a'->0<=b'->b'<2147483647->Q (.int r) (S.set t (.lst [.int a',.int b'])):=λr a' b' r0 r1 a0 b0 b1=>q r _ r0 r1 ⟨a',b',m9 hS,a0,b0,b1⟩ (On.refl t S).tape (by rw[Uy]);refine⟨_,rfl,_,_,c5 hS,rfl,_,rfl,ifD (λh=>?_) (λh=>?_)⟩
 ·refine⟨_,rfl,_,_,c5 hS,rfl,_,rfl,h0,?_⟩;refine⟨_,rfl,_,_,c5 hS,rfl,_,rfl,⟨h0,h1⟩,_,rfl,_,_,hS,rfl,_,rfl,?_⟩;exact go _ _ _ (WR _ (by omega)) (WC _ h0) (Int.ediv_nonneg ha (by omega)) hb0 hb1
 ·refine⟨_,rfl,_,_,c5 hS,rfl,.inr (by decide),show(0:Int)<2147483647 by decide,_,rfl,_,_,hS,rfl,?_⟩;have e0:0<=(b * 48271+12345) % 2147483647:=WR _ (by decide);have e1:(b * 48271+12345) % 2147483647<2147483647:=WC _ (by decide);have hS1:(S.set t (.lst [.int a,.int ((b * 48271+12345) % 2147483647)]))[t]?=some (.lst [.int a,.int ((b * 48271+12345) % 2147483647)]):=m9 hS;refine⟨_,rfl,_,_,c5 hS1,rfl,_,rfl,_,_,c5 hS1,rfl,show(0:Int)<1009 by decide,.inl ⟨by omega,by omega⟩,show(0:Int)<2147483629 by decide,?_⟩;have f0:0<=((b * 48271+12345) % 2147483647 * ((b * 48271+12345) % 2147483647 % 1009+3)) % 2147483629:=WR _ (by decide);have f1:((b * 48271+12345) % 2147483647 * ((b * 48271+12345) % 2147483647 % 1009+3)) % 2147483629<2147483629:=WC _ (by decide);refine⟨_,rfl,_,rfl,show(0:Int)<997 by decide,.inl ⟨by omega,by omega⟩,show(0:Int)<998244353 by decide,_,rfl,h0,?_⟩;exact go _ _ _ (WR _ (by omega)) (WC _ h0) ha e0 e1
theorem Og{Δ:Nat->Sn}{D:Df}(hb:D.body=Pl)(hN:D.N.length=4)(hp:D.ps.length=2):MN (j6 Δ D):=by
 intro ns k S Q hl hk q;unfold j6;rw[hb,hN];refine⟨hp.symm,?_⟩
 have fin:∀ c:Int,wSs Δ [(.asg (.nm 3) (.op .Mult (.bi .abs (.cons (.var 2) .nil)) (.bi .int (.cons (.cmp .GtE (.bi .abs (.cons (.var 2) .nil)) (.op .Pow (.c (.int 10)) (.c (.int 18)))) .nil)))),(.ret (.lst (.cons (.var 3) (.cons (.op .Mod (.op .Mult (.op .Mod (.op .Add (.op .Add (.var 2) (.op .Mult (.c (.int 7919)) (.var 1))) (.c (.int 1))) (.c (.int 2147483647))) (.c (.int 48271))) (.c (.int 2147483647))) .nil))))] (q0 Q) [some (.ro (ns.map SV.int)),some (.int k),some (.int c),none] S:=λc=>by
  refine⟨_,rfl,_,rfl,⟨by decide,by decide,by decide⟩,.inr (b01 _),?_⟩;refine⟨_,rfl,_,rfl,_,rfl,.inl ⟨by decide,by decide⟩,show(0:Int)<2147483647 by decide,.inr ⟨by decide,by decide⟩,show(0:Int)<2147483647 by decide,by show 2<=big;decide,?_⟩;refine q _ _ (Y7 (by split<;>omega) (b00 _)) (WR _ (by decide)) (WC _ (by decide))
 refine⟨_,rfl,_,rfl,_,rfl,_,rfl,ifD (λh=>?_) (λh=>fin 0)⟩
 have hk':k<ns.length:=by
  have:((ns.map SV.int).length:Int)=ns.length:=by rw[UQ]
  omega
 refine⟨_,rfl,_,rfl,_,_,rfl,f9 (v := .int ns[k]) (by rw[UZ,UM hk'];rfl),?_⟩;exact fin _
noncomputable def g0(n:Nat)(es:EE):SV := .tup [.int n,.tup (es.map pairS)]
noncomputable def Gz:List Stm:=[(.ret (.and (.bi .isi (.cons (.var 0) (.cons (.tyc .int) .nil))) (.not (.bi .isi (.cons (.var 0) (.cons (.tyc .bool) .nil))))))]
noncomputable def Dx(k:Nat):List Stm:=[(.ret (.and (.call k (.cons (.var 1) .nil)) (.chn .LtE .Lt (.c (.int 0)) (.var 1) (.ix (.var 0) (.c (.int 0))))))]
noncomputable def ID(k:Nat):List Stm:=[(.ret (.and (.call k (.cons (.var 1) .nil)) (.chn .LtE .Lt (.c (.int 0)) (.var 1) (.bi .len (.cons (.ix (.var 0) (.c (.int 1))) .nil)))))]
noncomputable def ET(k:Nat):List Stm:=[(.iff (.not (.call k (.cons (.var 0) (.cons (.var 1) .nil)))) [.no] [])]
noncomputable def IE(k:Nat):List Stm:=[(.expr (.call k (.cons (.var 0) (.cons (.var 1) .nil)))),(.ret (.comp ["tie","ends"] ["place"] [1] (.tup (.cons (.nm 0) (.cons (.nm 1) .nil))) (.enum (.ix (.var 0) (.c (.int 1)))) (.yes (.cmp .In (.var 2) (.var 1))) (.var 0)))]
noncomputable def IF(k:Nat):List Stm:=[(.expr (.call k (.cons (.var 0) (.cons (.var 1) .nil)))),(.asg (.tup (.cons (.nm 3) (.cons (.nm 4) .nil))) (.ix (.ix (.var 0) (.c (.int 1))) (.var 1))),(.iff (.cmp .Eq (.var 2) (.var 3)) [(.ret (.var 4))] []),(.iff (.cmp .Eq (.var 2) (.var 4)) [(.ret (.var 3))] []),.no]
noncomputable def BL(s:Sn):Prop:=∀{i:Int} {S:Sto} {Q:QE},Q (.bl true) S->s [.int i] S Q
noncomputable def BY(s:Sn):Prop:=∀{n p:Nat} {es:EE} {S:Sto} {Q:QE},p<n->Q (.bl true) S->s [g0 n es,.int p] S Q
noncomputable def DD(s:Sn):Prop:=∀{n j:Nat} {es:EE} {S:Sto} {Q:QE},j<es.length->Q (.bl true) S->s [g0 n es,.int j] S Q
noncomputable def B2(s:Sn):Prop:=∀{n p:Nat} {es:EE} {S:Sto} {Q:QE},p<n->Q .non S->s [g0 n es,.int p] S Q
noncomputable def BZ(s:Sn):Prop:=∀{n j:Nat} {es:EE} {S:Sto} {Q:QE},j<es.length->Q .non S->s [g0 n es,.int j] S Q
noncomputable def y4(es:EE)(p:Nat)(i:Nat):List Nat:=(Uj i).filter λj=>match es[j]? with | some e=>decide (e.1=p)||decide (e.2=p) | none=>false
noncomputable def natS(xs:List Nat):List SV:=xs.map λ(i:Nat)=>SV.int i
noncomputable def DE(s:Sn):Prop:=∀{n p:Nat} {es:EE} {S:Sto} {Q:QE},es.length<=5000->p<n->Q (.loc S.length) (S++[.lst (natS (y4 es p es.length))])->s [g0 n es,.int p] S Q
noncomputable def farE(e:Nat×Nat)(p:Nat):Nat:=if p=e.1 then e.2 else e.1
noncomputable def AN(s:Sn):Prop:=∀{n p j:Nat} {es:EE} {e:Nat×Nat} {S:Sto} {Q:QE},es[j]?=some e->(p=e.1\/p=e.2)->Q (.int (farE e p)) S->s [g0 n es,.int j,.int p] S Q
section
variable{Δ:Nat->Sn}
theorem FV{D:Df}(hb:D.body=Gz)(hN:D.N.length=1)(hp:D.ps.length=1):BL (j6 Δ D):=by
 intro i S Q q;unfold j6;rw[hb,hN];exact⟨hp.symm,_,rfl,_,nofun,rfl,_,rfl,ifT rfl ⟨_,rfl,_,nofun,rfl,_,rfl,q⟩⟩
theorem FW{k:Nat}(h0:BL (Δ k)){D:Df}(hb:D.body=Dx k)(hN:D.N.length=2)(hp:D.ps.length=2):BY (j6 Δ D):=by
 intro n p es S Q h q;unfold j6;rw[hb,hN];refine⟨hp.symm,_,rfl,h0 ⟨_,rfl,ifT rfl ⟨_,rfl,_,rfl,ifT (decide_eq_true (Xc p)) ⟨_,rfl,_,_,rfl,rfl,?_⟩⟩⟩⟩;show Q (.bl (decide ((p:Int)<n))) S;rw[decide_eq_true (by omega)];exact q
theorem Jf{k:Nat}(h0:BL (Δ k)){D:Df}(hb:D.body=ID k)(hN:D.N.length=2)(hp:D.ps.length=2):DD (j6 Δ D):=by
 intro n p es S Q h q;unfold j6;rw[hb,hN];refine⟨hp.symm,_,rfl,h0 ⟨_,rfl,ifT rfl ⟨_,rfl,_,rfl,ifT (decide_eq_true (Xc p)) ⟨_,rfl,_,_,rfl,rfl,_,rfl,?_⟩⟩⟩⟩;show Q (.bl (decide ((p:Int)<(es.map pairS).length))) S;rw[decide_eq_true (by rw[UQ];omega)];exact q
theorem DV{k:Nat}(h0:BY (Δ k)){D:Df}(hb:D.body=ET k)(hN:D.N.length=2)(hp:D.ps.length=2):B2 (j6 Δ D):=by
 intro n p es S Q h q;unfold j6;rw[hb,hN];exact⟨hp.symm,_,rfl,_,rfl,h0 h ⟨_,rfl,ifF rfl q⟩⟩
theorem FX{k:Nat}(h0:DD (Δ k)){D:Df}(hb:D.body=ET k)(hN:D.N.length=2)(hp:D.ps.length=2):BZ (j6 Δ D):=by
 intro n p es S Q h q;unfold j6;rw[hb,hN];exact⟨hp.symm,_,rfl,_,rfl,h0 h ⟨_,rfl,ifF rfl q⟩⟩
theorem MO{xs:List SV}{i:Nat}{x:SV}(h:(B9 xs)[i]?=some x):∃ y,xs[i]?=some y/\x = .tup [.int i,y]:=by
 unfold B9 at h;rw[XM]at h;cases hy:xs[i]? with
 | none=>rw[hy]at h;revert h;cases(Uj xs.length)[i]?<;>exact nofun
 | some y=>
   have hi:=(gM hy).1;rw[hy,W7 hi]at h;exact⟨y,rfl,(oj h).symm⟩
theorem IG{xs:List SV}:(B9 xs).length=xs.length:=by unfold B9;simp
theorem Bt{es:EE}{i:Nat}{x:SV}(h:(es.map pairS)[i]?=some x):∃ e,es[i]?=some e/\x=pairS e:=by
 rw[UZ]at h;cases he:es[i]? with
 | none=>rw[he]at h;cases h
 | some e=>rw[he]at h;exact⟨e,rfl,(oj h).symm⟩
theorem CW(p:Nat)(e:Nat×Nat):inS (.int p) [.int e.1,.int e.2]=(decide (e.1=p)||decide (e.2=p)):=by
 have k:∀ a:Nat,((a:Int) == (p:Int))=decide (a=p):=λa=>by
  rw[VR];simp[VC]
 unfold inS;simp only[Vc,List.any_nil,Y8,eqF,k]
theorem CK(es:EE)(p i:Nat){e:Nat×Nat}(h:es[i]?=some e):y4 es p (i+1)=y4 es p i++if (decide (e.1=p)||decide (e.2=p))=true then [i] else []:=by
 unfold y4;rw[XG,WV]
 congr 1
 rw[We,h];rfl
theorem HA(es:EE)(p i:Nat):(y4 es p i).length<=i:=by
 have:=Vo (λj=>match es[j]? with | some e=>decide (e.1=p)||decide (e.2=p) | none=>false) (Uj i);rw[VY]at this;exact this
theorem mem_tiesAt{es:EE}{p j:Nat}:j∈y4 es p es.length↔∃ e,es[j]?=some e/\(e.1=p\/e.2=p):=by
 unfold y4;rw[Ve,V4];constructor
 ·rintro⟨h,h2⟩;rw[UM h]at h2;exact⟨_,UM h,by simpa using h2⟩
 ·rintro⟨e,h,h2⟩;refine⟨(gM h).1,?_⟩;rw[h];simpa using h2
theorem Jg{k:Nat}(hΔ:∀ f,MonoN (Δ f))(h0:B2 (Δ k)){D:Df}(hb:D.body=IE k)(hN:D.N.length=2)(hp:D.ps.length=2):DE (j6 Δ D):=by
 intro n p es S Q hl h q;unfold j6;rw[hb,hN];refine⟨hp.symm,_,rfl,_,rfl,h0 h ⟨_,rfl,_,_,rfl,rfl,_,rfl,?_⟩⟩;refine m5 (t7 hΔ _).2 (c6 hΔ _).1 (λi ys S'=>S'=S/\ys=natS (y4 es p i)) ⟨rfl,rfl⟩ (λ_ _ _ _=>trivial) ?_ ?_
 ·rintro i x ys S' hx ⟨rfl,rfl⟩;obtain⟨y,hy,rfl⟩:=MO hx;obtain⟨e,he,rfl⟩:=Bt hy;have hi:=(gM he).1;have ht:=HA es p i;refine⟨_,rfl,_,rfl,rfl,_,rfl,rfl,_,rfl,?_⟩;show if inS (.int p) [.int e.1,.int e.2]=true then _ else _
  rw[CW];refine ifB (λh=>?_) (λh=>?_)
  ·refine⟨_,rfl,by show(natS _).length<100000;unfold natS;rw[UQ];omega,rfl,?_⟩;rw[CK es p i he,iP h];unfold natS;rw[VI];rfl
  ·refine⟨rfl,?_⟩;rw[CK es p i he,iG (by rw[h];decide),VF]
 ·rintro ys S' ⟨rfl,rfl⟩;rw[IG,UQ];exact q
theorem Jh{k:Nat}(h0:BZ (Δ k)){D:Df}(hb:D.body=IF k)(hN:D.N.length=5)(hp:D.ps.length=3):AN (j6 Δ D):=by
 intro n p j es e S Q he h q;unfold j6;rw[hb,hN];refine⟨hp.symm,_,rfl,_,rfl,h0 (gM he).1 ⟨_,rfl,_,_,rfl,rfl,_,rfl,_,pairS e,rfl,f9 (by rw[UZ,he];rfl),?_⟩⟩;refine⟨_,rfl,_,rfl,_,rfl,?_⟩;refine ifD (λh1=>⟨_,rfl,?_⟩) (λh1=>⟨_,rfl,_,rfl,_,rfl,ifD (λh2=>⟨_,rfl,?_⟩) (λh2=>?_)⟩)
 ·have h1:p=e.1:=VC.mp h1;unfold farE at q;rw[iP h1]at q;exact q
 ·have h1:¬ p=e.1:=λz=>h1 (congrArg _ z);unfold farE at q;rw[iG h1]at q;exact q
 ·rcases h with h | h
  ·exact absurd (congrArg YM h) h1
  ·exact absurd (congrArg YM h) h2
end
theorem f6{xs:List Nat}:(natS xs).length=xs.length:=by unfold natS;rw[UQ]
theorem Ap{xs:List Nat}{i x:Nat}(h:xs[i]?=some x):(natS xs)[i]?=some (.int x):=by unfold natS;rw[UZ,h];rfl
theorem i5{xs ys:List Nat}:natS (xs++ys)=natS xs++natS ys:=by unfold natS;rw[VI]
theorem MP{xs:List Nat}{i:Nat}:(natS xs).eraseIdx i=natS (xs.eraseIdx i):=by
 induction xs generalizing i with
 | nil=>rfl
 | cons x xs ih=>
   cases i with
   | zero=>rfl
   | succ i=>exact congrArg (SV.int x::·) (ih (i:=i))
noncomputable def FY(kf:Nat):List Stm:=[(.asg (.nm 3) (.lst .nil)),(.whl (.cmp .IsNot (.ix (.var 2) (.var 1)) (.c .non)) [(.expr (.mt .append (.var 3) (.cons (.ix (.var 2) (.var 1)) .nil))),(.asg (.nm 1) (.call kf (.cons (.var 0) (.cons (.ix (.var 2) (.var 1)) (.cons (.var 1) .nil)))))]),(.ret (.var 3))]
noncomputable def DF:Option Nat->SV
 | some j => .int j
 | none => .non
noncomputable def optsS(xs:List (Option Nat)):List SV:=xs.map DF
theorem g9{xs:List (Option Nat)}{i:Nat}{x:Option Nat}(h:xs[i]?=some x):(optsS xs)[i]?=some (DF x):=by unfold optsS;rw[UZ,h];rfl
structure Tr(n:Nat)(es:EE)(bk:List (Option Nat))(dep:Nat->Nat):Prop where
 len:bk.length=n
 up:∀ p j:Nat,bk[p]?=some (some j)->∃ e,es[j]?=some e/\(p=e.1\/p=e.2)/\farE e p<n/\dep p=dep (farE e p)+1
 few:∀ p,dep p<=1000
noncomputable def upW(es:EE)(bk:List (Option Nat)):Nat->Nat->List Nat
 | 0,_=>[]
 | f+1,p=>match bk[p]? with
   | some (some j)=>j::upW es bk f (match es[j]? with | some e=>farE e p | none=>0)
   | _=>[]
theorem BM(es:EE)(bk:List (Option Nat)):∀ f p,(upW es bk f p).length<=f
 | 0,_=>US _
 | f+1,p=>by
   unfold upW;split
   ·rw[VG];have:=BM es bk f;exact Xp (this _)
   ·exact VX _
theorem DG{es:EE}{bk:List (Option Nat)}{f p j:Nat}{e:Nat×Nat}(h:bk[p]?=some (some j))(he:es[j]?=some e):upW es bk (f+1) p=j::upW es bk f (farE e p):=by
 rw[upW,h];simp only[he]
theorem MQ{es:EE}{bk:List (Option Nat)}{f p:Nat}(h:bk[p]?=some none):upW es bk f p=[]:=by
 cases f with
 | zero=>rfl
 | succ f=>rw[upW,h]
noncomputable def CC(s:Sn):Prop:=∀{n p b:Nat} {es:EE} {bk:List (Option Nat)} {dep:Nat->Nat} {S:Sto} {Q:QE},Tr n es bk dep->p<n->S[b]?=some (.lst (optsS bk))->Q (.loc S.length) (S++[.lst (natS (upW es bk (dep p) p))])->s [g0 n es,.int p,.loc b] S Q
theorem HB{Δ:Nat->Sn}{kf:Nat}(hf:AN (Δ kf)){D:Df}(hb:D.body=FY kf)(hN:D.N.length=4)(hp:D.ps.length=3):CC (j6 Δ D):=by
 intro n p b es bk dep S Q T hpn hS q;unfold j6;rw[hb,hN];refine⟨hp.symm,by show 0<=big;decide,?_⟩;refine⟨λm ρ S'=>∃(p':Nat) (ds:List Nat),ρ=[some (g0 n es),some (.int p'),some (.loc b),some (.loc S.length)]/\S'=S++[.lst (natS ds)]/\ds++upW es bk (dep p') p'=upW es bk (dep p) p/\dep p'=m/\p'<n,⟨_,p,[],rfl,rfl,rfl,rfl,hpn⟩,?_⟩;rintro m ρ _ ⟨p',ds,rfl,rfl,hd,rfl,hp'⟩;have hS2:(S++[SO.lst (natS ds)])[b]?=some (.lst (optsS bk)):=e7 hS;have hlt:p'<bk.length:=by rw[T.len];exact hp'
 have hbl:=y0 hS;cases hx:bk[p'] with
 | none=>
   have h:bk[p']?=some none:=by rw[UM hlt,hx]
   rw[MQ h,VF]at hd;refine⟨_,rfl,_,rfl,_,_,c5 hS2,f9 (g9 h),.inl ⟨rfl,_,rfl,ifF rfl ⟨_,rfl,?_⟩⟩⟩;rw[hd];exact q
 | some j=>
   have h:bk[p']?=some (some j):=by rw[UM hlt,hx]
   obtain⟨e,he,hend,hfn,hdep⟩:=T.up p' j h
   have hdl:ds.length<=1000:=by
    have h1:=congrArg WW hd;rw[UR]at h1;have h2:=BM es bk (dep p) p;have h3:=T.few p;omega
   have e1:(S++[SO.lst (natS ds)]).set S.length (.lst (natS ds++[.int j]))=S++[.lst (natS (ds++[j]))]:=by
    rw[XI _ _ (US _),XC,i5];rfl
   refine⟨_,rfl,_,rfl,_,_,c5 hS2,f9 (g9 h),.inl ⟨rfl,_,rfl,ifT rfl ?_⟩⟩;refine⟨_,rfl,⟨_,_,rfl,c9⟩,_,rfl,_,rfl,_,_,c5 hS2,f9 (g9 h),_,c9,by rw[f6];show _<100000;omega,?_⟩;show wSs Δ _ _ _ ((S++[SO.lst (natS ds)]).set S.length (.lst (natS ds++[.int j])));rw[e1];have hS3:(S++[SO.lst (natS (ds++[j]))])[b]?=some (.lst (optsS bk)):=e7 hS;refine⟨_,rfl,_,rfl,_,rfl,_,_,c5 hS3,f9 (g9 h),_,rfl,hf he hend ?_⟩;refine⟨dep (farE e p'),by omega,farE e p',ds++[j],rfl,rfl,?_,rfl,hfn⟩;rw[Ui,<-hd,hdep,DG h he];rfl
structure Gw(S S':Sto):Prop where
 len:S.length<=S'.length
 keep:∀(k:Nat) (o:SO),S[k]?=some o->S'[k]?=some o
theorem Gw.refl(S:Sto):Gw S S:=⟨US _,λ_ _ h=>h⟩
theorem Gw.push{S S':Sto}{o:SO}(h:Gw S S'):Gw S (S'++[o]):=⟨by rw[UR];have:=h.len;omega,λk u z=>e7 (h.keep k u z)⟩
theorem Gw.put{S S':Sto}{o:SO}{k:Nat}(h:Gw S S')(hk:S.length<=k):Gw S (S'.set k o):=⟨by rw[Uy];exact h.len,λj u z=>by
 rw[j4 (λe=>by have:=y0 z;omega)];exact h.keep j u z⟩
theorem Gw.trans{S S' S'':Sto}(a:Gw S S')(b:Gw S' S''):Gw S S'':=⟨Ux a.len b.len,λk o h=>b.keep k o (a.keep k o h)⟩
noncomputable def w1':Stm:=(.asg (.tup (.cons (.nm 3) (.cons (.nm 4) .nil))) (.ix (.ix (.var 0) (.c (.int 1))) (.var 1)))
noncomputable def w2'(kw:Nat):Stm:=(.asg (.nm 5) (.call kw (.cons (.var 0) (.cons (.var 3) (.cons (.var 2) .nil)))))
noncomputable def w3'(kw:Nat):Stm:=(.asg (.nm 6) (.call kw (.cons (.var 0) (.cons (.var 4) (.cons (.var 2) .nil)))))
noncomputable def w4':Stm:=(.whl (.and (.var 5) (.and (.var 6) (.cmp .Eq (.ix (.var 5) (.neg (.c (.int 1)))) (.ix (.var 6) (.neg (.c (.int 1))))))) [(.expr (.mt .pop (.var 5) .nil)),(.expr (.mt .pop (.var 6) .nil))])
noncomputable def w5':Stm:=(.ret (.op .Add (.op .Add (.var 5) (.rev (.var 6))) (.lst (.cons (.var 1) .nil))))
noncomputable def Pn(kw:Nat):List Stm:=[w1',w2' kw,w3' kw,w4',w5']
structure Cut(as bs us ds:List Nat):Prop where
 ex:∃ cm,as=us++cm/\bs=ds++cm
 ne:∀(x y:Nat) (us' ds':List Nat),us=us'++[x]->ds=ds'++[y]->x≠y
noncomputable def EU(s:Sn):Prop:=∀{n j b:Nat} {es:EE} {e:Nat×Nat} {bk:List (Option Nat)} {dep:Nat->Nat} {S:Sto} {Q:QE},Tr n es bk dep->es[j]?=some e->e.1<n->e.2<n->S[b]?=some (.lst (optsS bk))->
 (∀(us ds:List Nat) (l:Nat) (S':Sto),Cut (upW es bk (dep e.1) e.1) (upW es bk (dep e.2) e.2) us ds->Gw S S'->S.length<=l->S'[l]?=some (.lst (natS (us++ds.reverse++[j])))->Q (.loc l) S')->s [g0 n es,.int j,.loc b] S Q
theorem MR{xs:List Nat}:(natS xs).reverse=natS xs.reverse:=by unfold natS;rw[Xr]
theorem BD{xs:List Nat}{x:Nat}:(natS (xs++[x])).dropLast=natS xs:=by rw[i5];exact List.dropLast_concat
theorem Aq{xs:List Nat}{x:Nat}:(natS (xs++[x]))[(natS (xs++[x])).length - 1]?=some (.int x):=by
 rw[i5,UR];exact V1
theorem v9(xs:List Nat):xs=[]\/∃ ys y,xs=ys++[y]:=by
 rcases List.eq_nil_or_concat xs with h | ⟨ys,y,h⟩
 ·exact .inl h
 ·exact .inr ⟨ys,y,by rw[h,List.concat_eq_append]⟩
theorem Oh{Δ:Nat->Sn}{kw:Nat}(hw:CC (Δ kw)){D:Df}(hb:D.body=Pn kw)(hN:D.N.length=7)(hp:D.ps.length=3):EU (j6 Δ D):=by
 intro n j b es e bk dep S Q T he h1 h2 hS q;unfold j6;rw[hb,hN];refine⟨hp.symm,_,rfl,_,_,rfl,rfl,_,rfl,_,pairS e,rfl,f9 (by rw[UZ,he];rfl),?_⟩;refine⟨_,rfl,_,rfl,_,rfl,hw T h1 hS ?_⟩;refine⟨_,rfl,_,rfl,_,rfl,hw T h2 (e7 hS) ?_⟩;have la:=BM es bk (dep e.1) e.1;have lb:=BM es bk (dep e.2) e.2;have fa:=T.few e.1;have fb:=T.few e.2;generalize upW es bk (dep e.1) e.1=as at *;generalize upW es bk (dep e.2) e.2=bs at *;have hl2:S.length<(S++[SO.lst (natS as)]).length:=by simp
 generalize hk:(S++[SO.lst (natS as)]).length=k2 at *
 refine⟨λm ρ S'=>∃ us ds cm,ρ=[some (g0 n es),some (.int j),some (.loc b),some (.int e.1),some (.int e.2),some (.loc S.length),some (.loc k2)]/\Gw S S'/\S'[S.length]?=some (.lst (natS us))/\S'[k2]?=some (.lst (natS ds))/\as=us++cm/\bs=ds++cm/\us.length=m,
  ⟨_,as,bs,[],rfl,(Gw.refl S).push.push,e7 c9,by rw[<-hk];exact c9,by simp,by simp,rfl⟩,?_⟩
 rintro m ρ S' ⟨us,ds,cm,rfl,G,hu,hd,ea,eb,rfl⟩;have hul:us.length<=1000:=by have:=congrArg WW ea;rw[UR]at this;omega
 have hdl:ds.length<=1000:=by have:=congrArg WW eb;rw[UR]at this;omega
 have fin:(∀(x y:Nat) (us' ds':List Nat),us=us'++[x]->ds=ds'++[y]->x≠y)->wSs Δ [w5'] (q0 Q) [some (g0 n es),some (.int j),some (.loc b),some (.int e.1),some (.int e.2),some (.loc S.length),some (.loc k2)] S':=by
  intro hne;refine⟨_,rfl,_,rfl,_,hd,_,_,e7 hu,c9,by rw[Vv,f6,f6];show _<=100000;omega,_,rfl,by show 1<=big;decide,_,_,e7 c9,c9,by rw[UR,Vv,f6,f6];show _+1<=100000;omega,?_⟩;refine q us ds _ _ ⟨⟨cm,ea,eb⟩,hne⟩ G.push.push.push.push ?_ ?_
  ·have:=G.len;simp;omega
  ·rw[c9,i5,i5,MR];rfl
 refine⟨_,rfl,_,Bs hu,?_⟩;rcases v9 us with rfl | ⟨us',x,rfl⟩
 ·exact ifF rfl (ifF rfl (fin λx y us' ds' h=>by simp at h))
 refine ifT (by rw[i5];simp[natS]) ⟨_,rfl,_,Bs hd,?_⟩;rcases v9 ds with rfl | ⟨ds',y,rfl⟩
 ·exact ifF rfl (ifF rfl (fin λx y us' ds' _ h=>by simp at h))
 refine ifT (by rw[i5];simp[natS]) ?_;have ax:atI (natS (us'++[x])) (-1)=some (.int x):=by rw[i5];exact Eh _ _
 have ay:atI (natS (ds'++[y])) (-1)=some (.int y):=by rw[i5];exact Eh _ _
 refine⟨_,rfl,_,_,c5 hu,ax,_,rfl,_,_,c5 hd,ay,_,rfl,?_⟩;refine ifD (λhxy=>?_) (λhxy=>fin λx' y' us2 ds2 hu2 hd2 z=>hxy ?_)
 ·have hxy:x=y:=VC.mp hxy;subst hxy;refine⟨_,rfl,⟨_,_,rfl,hu⟩,_,_,hu,Aq,?_⟩;rw[BD];have hd3:(S'.set S.length (.lst (natS us')))[k2]?=some (.lst (natS (ds'++[x]))):=by rw[j4 (by omega)];exact hd
  refine⟨_,rfl,⟨_,_,rfl,hd3⟩,_,_,hd3,Aq,?_⟩;rw[BD];refine⟨us'.length,by simp,us',ds',x::cm,rfl,(G.put (US _)).put (by omega),by rw[j4 (by omega)];exact m9 hu,m9 hd3,by rw[ea];simp,by rw[eb];simp,rfl⟩
 ·have e1:=Xs hu2 rfl;have e2:=Xs hd2 rfl;have e1:x=x':=by simpa using e1.2
  have e2:y=y':=by simpa using e2.2
  rw[e1,e2,z]
noncomputable def IsSet(sd:List (Option Nat))(p:Nat):Prop:=∃ v,sd[p]?=some (some v)
noncomputable def upd(f:Nat->Nat)(p x:Nat):Nat->Nat:=λq=>if q=p then x else f q
theorem u8{f:Nat->Nat}{p x:Nat}:upd f p x p=x:=iP rfl
theorem upd_ne{f:Nat->Nat}{p x q:Nat}(h:q≠p):upd f p x q=f q:=iG h
theorem u9{e:Nat×Nat}{p:Nat}(hp:p=e.1\/p=e.2):farE e p=e.1\/farE e p=e.2:=by
 unfold farE;by_cases h:p=e.1
 ·rw[iP h];exact .inr rfl
 ·rw[iG h];exact .inl rfl
theorem DH{e:Nat×Nat}{p:Nat}(he:e.1≠e.2)(hp:p=e.1\/p=e.2):farE e (farE e p)=p:=by
 unfold farE;by_cases h:p=e.1
 ·rw[iP h,iG (Ne.symm he),h]
 ·rw[iG h,iP rfl];rcases hp with hp | hp
  ·exact absurd hp h
  ·exact hp.symm
structure Gs(n:Nat)(es:EE)(sd bk:List (Option Nat))(dep rt:Nat->Nat)(op:Nat->Nat->Prop):Prop where
 ls:sd.length=n
 lb:bk.length=n
 val:∀ p v:Nat,sd[p]?=some (some v)->v=dep p % 2
 up:∀ p j:Nat,bk[p]?=some (some j)->∃ e,es[j]?=some e/\(p=e.1\/p=e.2)/\IsSet sd p/\IsSet sd (farE e p)/\dep p=dep (farE e p)+1/\rt (farE e p)=rt p
 root:∀ p:Nat,IsSet sd p->bk[p]?=some none->rt p=p/\dep p=0
 low:∀ p:Nat,IsSet sd p->dep p<sd.countP Vd
 un:∀ p:Nat,¬ IsSet sd p->dep p=0
 cl:∀(p j:Nat) (e:Nat×Nat),IsSet sd p->es[j]?=some e->(p=e.1\/p=e.2)->op p j\/(IsSet sd (farE e p)/\rt (farE e p)=rt p)
 lo:∀ p:Nat,IsSet sd p->rt p<=p
theorem w5{sd:List (Option Nat)}{f q x:Nat}(h:IsSet (sd.set f (some x)) q):q=f\/IsSet sd q:=by
 by_cases hq:q=f
 ·exact .inl hq
 ·obtain⟨v,hv⟩:=h;rw[V7 (Ne.symm hq)]at hv;exact .inr ⟨v,hv⟩
theorem j3{sd:List (Option Nat)}{f q x:Nat}(hf:f<sd.length)(h:IsSet sd q):IsSet (sd.set f (some x)) q:=by
 by_cases hq:q=f
 ·subst hq;exact⟨x,Ut hf⟩
 ·obtain⟨v,hv⟩:=h;exact⟨v,by rw[V7 (Ne.symm hq)];exact hv⟩
theorem AJ{sd:List (Option Nat)}{f x:Nat}(h:sd[f]?=some none):(sd.set f (some x)).countP Vd=sd.countP Vd+1:=by
 obtain⟨hf,hx⟩:=gM h;rw[List.countP_set hf,hx];simp
theorem Gs.give{n:Nat}{es:EE}{sd bk:List (Option Nat)}{dep rt:Nat->Nat}{op op':Nat->Nat->Prop}(G:Gs n es sd bk dep rt op){p j:Nat}{e:Nat×Nat}(hp:IsSet sd p)(he:es[j]?=some e)(hpe:p=e.1\/p=e.2)(hne:e.1≠e.2)(hf:sd[farE e p]?=some none)
 (ho:∀ q i,op q i->op' q i\/(q=p/\i=j)) (hn:∀ i,op' (farE e p) i) (hlo:rt p<=farE e p):Gs n es (sd.set (farE e p) (some (1 - dep p % 2))) (bk.set (farE e p) (some j)) (upd dep (farE e p) (dep p+1)) (upd rt (farE e p) (rt p)) op':=by
 have hfl:farE e p<sd.length:=(gM hf).1;have hns:∀ q,IsSet sd q->q≠farE e p:=λq ⟨v,hv⟩ z=>by rw[z,hf]at hv;cases hv
 have hself:IsSet (sd.set (farE e p) (some (1 - dep p % 2))) (farE e p):=⟨_,Ut hfl⟩
 have hpf:=hns p hp;refine⟨by rw[Uy];exact G.ls,by rw[Uy];exact G.lb,λq v hv=>?_,λq i hi=>?_,λq hq hi=>?_,λq hq=>?_,λq hq=>?_,λq i e' hq hi hqe=>?_,λq hq=>?_⟩
 ·by_cases hqf:q=farE e p
  ·subst hqf;rw[Ut hfl]at hv;rw[u8];have:=oj (oj hv);omega
  ·rw[V7 (Ne.symm hqf)]at hv;rw[upd_ne hqf];exact G.val q v hv
 ·by_cases hqf:q=farE e p
  ·subst hqf;rw[Ut (by rw[G.lb,<-G.ls];exact hfl)]at hi;have:=oj (oj hi);subst this;refine⟨e,he,u9 hpe,hself,?_⟩;rw[DH hne hpe,u8,u8,upd_ne hpf,upd_ne hpf];exact⟨j3 hfl hp,rfl,rfl⟩
  ·rw[V7 (Ne.symm hqf)]at hi;obtain⟨e',h1,h2,h3,h4,h5,h6⟩:=G.up q i hi;refine⟨e',h1,h2,j3 hfl h3,j3 hfl h4,?_⟩;rw[upd_ne hqf,upd_ne hqf,upd_ne (hns _ h4),upd_ne (hns _ h4)];exact⟨h5,h6⟩
 ·by_cases hqf:q=farE e p
  ·subst hqf;rw[Ut (by rw[G.lb,<-G.ls];exact hfl)]at hi;cases hi
  ·rw[V7 (Ne.symm hqf)]at hi;rw[upd_ne hqf,upd_ne hqf];rcases w5 hq with h | h
   ·exact absurd h hqf
   ·exact G.root q h hi
 ·rw[AJ hf];by_cases hqf:q=farE e p
  ·subst hqf;rw[u8];have:=G.low p hp;omega
  ·rw[upd_ne hqf];rcases w5 hq with h | h
   ·exact absurd h hqf
   ·have:=G.low q h;omega
 ·have hqf:q≠farE e p:=λz=>hq (z▸hself);rw[upd_ne hqf];exact G.un q λz=>hq (j3 hfl z)
 ·by_cases hqf:q=farE e p
  ·exact .inl (hqf▸hn i)
  ·rcases w5 hq with h | h
   ·exact absurd h hqf
   ·rcases G.cl q i e' h hi hqe with z | ⟨z1,z2⟩
    ·rcases ho q i z with z | ⟨rfl,rfl⟩
     ·exact .inl z
     ·rw[he]at hi;have:=oj hi;subst this;refine .inr ⟨hself,?_⟩;rw[u8,upd_ne hqf]
    ·refine .inr ⟨j3 hfl z1,?_⟩;rw[upd_ne (hns _ z1),upd_ne hqf];exact z2
 ·by_cases hqf:q=farE e p
  ·rw[hqf,u8];exact hlo
  ·rw[upd_ne hqf];rcases w5 hq with h | h
   ·exact absurd h hqf
   ·exact G.lo q h
theorem Gs.tr{n:Nat}{es:EE}{sd bk:List (Option Nat)}{dep rt:Nat->Nat}{op:Nat->Nat->Prop}(G:Gs n es sd bk dep rt op)(hn:n<=1000):Tr n es bk dep:=by
 refine⟨G.lb,λp j h=>?_,λp=>?_⟩
 ·obtain⟨e,h1,h2,h3,⟨v,h4⟩,h5,h6⟩:=G.up p j h;refine⟨e,h1,h2,?_,h5⟩;rw[<-G.ls];exact(gM h4).1
 ·by_cases h:IsSet sd p
  ·have h1:=G.low p h;have h2:=WG (p:=Vd) (l:=sd);rw[G.ls]at h2;omega
  ·rw[G.un p h];omega
theorem Gs.begin{n:Nat}{es:EE}{sd bk:List (Option Nat)}{dep rt:Nat->Nat}{op op':Nat->Nat->Prop}(G:Gs n es sd bk dep rt op){s:Nat}(hs:sd[s]?=some none)(ho:∀ q i,op q i->op' q i)(hn:∀ i,op' s i):Gs n es (sd.set s (some 0)) bk dep (upd rt s s) op':=by
 have hsl:s<sd.length:=(gM hs).1;have hns:∀ q,IsSet sd q->q≠s:=λq ⟨v,hv⟩ z=>by rw[z,hs]at hv;cases hv
 have hself:IsSet (sd.set s (some 0)) s:=⟨_,Ut hsl⟩
 have hd:dep s=0:=G.un s λz=>hns s z rfl;refine⟨by rw[Uy];exact G.ls,G.lb,λq v hv=>?_,λq i hi=>?_,λq hq hi=>?_,λq hq=>?_,λq hq=>?_,λq i e' hq hi hqe=>?_,λq hq=>?_⟩
 ·by_cases hqf:q=s
  ·subst hqf;rw[Ut hsl]at hv;have:=oj (oj hv);rw[hd];omega
  ·rw[V7 (Ne.symm hqf)]at hv;exact G.val q v hv
 ·obtain⟨e',h1,h2,h3,h4,h5,h6⟩:=G.up q i hi;refine⟨e',h1,h2,j3 hsl h3,j3 hsl h4,h5,?_⟩;rw[upd_ne (hns _ h3),upd_ne (hns _ h4)];exact h6
 ·by_cases hqf:q=s
  ·subst hqf;rw[u8];exact⟨rfl,hd⟩
  ·rw[upd_ne hqf];rcases w5 hq with h | h
   ·exact absurd h hqf
   ·exact G.root q h hi
 ·rw[AJ hs];rcases w5 hq with h | h
  ·rw[h,hd];omega
  ·have:=G.low q h;omega
 ·exact G.un q λz=>hq (j3 hsl z)
 ·by_cases hqf:q=s
  ·exact .inl (hqf▸hn i)
  ·rcases w5 hq with h | h
   ·exact absurd h hqf
   ·rcases G.cl q i e' h hi hqe with z | ⟨z1,z2⟩
    ·exact .inl (ho q i z)
    ·refine .inr ⟨j3 hsl z1,?_⟩;rw[upd_ne (hns _ z1),upd_ne hqf];exact z2
 ·by_cases hqf:q=s
  ·rw[hqf,u8];exact US _
  ·rw[upd_ne hqf];rcases w5 hq with h | h
   ·exact absurd h hqf
   ·exact G.lo q h
theorem Gs.close{n:Nat}{es:EE}{sd bk:List (Option Nat)}{dep rt:Nat->Nat}{op op':Nat->Nat->Prop}(G:Gs n es sd bk dep rt op){p j:Nat}{e:Nat×Nat}(he:es[j]?=some e)(hpe:p=e.1\/p=e.2)(hne:e.1≠e.2)(hf:IsSet sd (farE e p))
 (ho:∀ q i,op q i->op' q i\/(q=p/\i=j)) (hs:op (farE e p) j->rt (farE e p)=rt p):Gs n es sd bk dep rt op':=by
 have hr:rt (farE e p)=rt p:=by
  rcases G.cl (farE e p) j e hf he (u9 hpe) with z | ⟨z1,z2⟩
  ·exact hs z
  ·rw[DH hne hpe]at z2;exact z2.symm
 refine⟨G.ls,G.lb,G.val,G.up,G.root,G.low,G.un,λq i e' hq hi hqe=>?_,G.lo⟩;rcases G.cl q i e' hq hi hqe with z | z
 ·rcases ho q i z with z | ⟨rfl,rfl⟩
  ·exact .inl z
  ·rw[he]at hi;have:=oj hi;subst this;exact .inr ⟨hf,hr⟩
 ·exact .inr z
theorem Gs.more{n:Nat}{es:EE}{sd bk:List (Option Nat)}{dep rt:Nat->Nat}{op op':Nat->Nat->Prop}(G:Gs n es sd bk dep rt op)(ho:∀ q i e,es[i]?=some e->(q=e.1\/q=e.2)->op q i->op' q i):Gs n es sd bk dep rt op':=
 ⟨G.ls,G.lb,G.val,G.up,G.root,G.low,G.un,λq i e' hq hi hqe=>(G.cl q i e' hq hi hqe).imp (ho q i e' hi hqe) id,G.lo⟩
noncomputable def z1:Stm:=(.put (.var 2) (.var 1) (.c (.int 0)))
noncomputable def z2:Stm:=(.asg (.nm 4) (.lst (.cons (.var 1) .nil)))
noncomputable def zin(kf:Nat):List Stm:=[(.asg (.nm 7) (.call kf (.cons (.var 0) (.cons (.var 6) (.cons (.var 5) .nil))))),(.iff (.cmp .Is (.ix (.var 2) (.var 7)) (.c .non)) [(.put (.var 2) (.var 7) (.op .Sub (.c (.int 1)) (.ix (.var 2) (.var 5)))),(.put (.var 3) (.var 7) (.var 6)),(.expr (.mt .append (.var 4) (.cons (.var 7) .nil)))] [])]
noncomputable def z3(kt kf:Nat):Stm:=(.whl (.var 4) [(.asg (.nm 5) (.mt .pop (.var 4) .nil)),(.loop (.nm 6) (.seq (.call kt (.cons (.var 0) (.cons (.var 5) .nil)))) (zin kf))])
noncomputable def Po(kt kf:Nat):List Stm:=[z1,z2,z3 kt kf]
structure Gm(a b w:Nat)(S0 S:Sto)(sd bk:List (Option Nat))(wt:List Nat):Prop where
 ha:S[a]?=some (.lst (optsS sd))
 hb:S[b]?=some (.lst (optsS bk))
 hw:S[w]?=some (.lst (natS wt))
 len:S0.length<=S.length
 keep:∀(k:Nat) (o:SO),k≠a->k≠b->S0[k]?=some o->S[k]?=some o
 ab:a≠b
 a0:a<S0.length
 b0:b<S0.length
 w0:S0.length<=w
section
variable{a b w:Nat}{S0 S:Sto}{sd bk sd' bk':List (Option Nat)}{wt wt':List Nat}
theorem Gm.push{o:SO}(G:Gm a b w S0 S sd bk wt):Gm a b w S0 (S++[o]) sd bk wt:=⟨e7 G.ha,e7 G.hb,e7 G.hw,by rw[UR];have:=G.len;omega,λk u h1 h2 h=>e7 (G.keep k u h1 h2 h),G.ab,G.a0,G.b0,G.w0⟩
theorem Gm.seta(G:Gm a b w S0 S sd bk wt):Gm a b w S0 (S.set a (.lst (optsS sd'))) sd' bk wt:=
 ⟨m9 G.ha,by rw[j4 G.ab];exact G.hb,by rw[j4 (by have:=G.a0;have:=G.w0;omega)];exact G.hw,by rw[Uy];exact G.len,λk u h1 h2 h=>by rw[j4 (Ne.symm h1)];exact G.keep k u h1 h2 h,G.ab,G.a0,G.b0,G.w0⟩
theorem Gm.setb(G:Gm a b w S0 S sd bk wt):Gm a b w S0 (S.set b (.lst (optsS bk'))) sd bk' wt:=
 ⟨by rw[j4 (Ne.symm G.ab)];exact G.ha,m9 G.hb,by rw[j4 (by have:=G.b0;have:=G.w0;omega)];exact G.hw,by rw[Uy];exact G.len,λk u h1 h2 h=>by rw[j4 (Ne.symm h2)];exact G.keep k u h1 h2 h,G.ab,G.a0,G.b0,G.w0⟩
theorem Gm.setw(G:Gm a b w S0 S sd bk wt):Gm a b w S0 (S.set w (.lst (natS wt'))) sd bk wt':=
 ⟨by rw[j4 (by have:=G.a0;have:=G.w0;omega)];exact G.ha,by rw[j4 (by have:=G.b0;have:=G.w0;omega)];exact G.hb,m9 G.hw,by rw[Uy];exact G.len,λk u h1 h2 h=>by rw[j4 (by have:=y0 h;have:=G.w0;omega)];exact G.keep k u h1 h2 h,G.ab,G.a0,G.b0,G.w0⟩
end
theorem DI{n j:Nat}(h:j<n):ixN n (j:Int)=some j:=by
 unfold ixN;rw[iP (by omega),iP (by omega)];simp
theorem Ar{xs:List (Option Nat)}:(optsS xs).length=xs.length:=by unfold optsS;rw[UQ]
theorem As{xs:List (Option Nat)}{j v:Nat}:(optsS xs).set j (.int v)=optsS (xs.set j (some v)):=by unfold optsS;rw[List.map_set];rfl
section
variable{Δ:Nat->Sn}{kt kf:Nat}
noncomputable def GI(n:Nat)(es:EE)(s a b w p c:Nat)(S0:Sto)(sd0:List (Option Nat))(l:Nat)(o:SO)(ts:List Nat)(S:Sto):Prop:=
 S[l]?=some o/\∃ sd bk dep rt wt,Gs n es sd bk dep rt (λq i=>q∈wt\/(q=p/\i∈ts))/\Gm a b w S0 S sd bk wt/\(∀ q∈wt,IsSet sd q/\rt q=s)/\IsSet sd p/\rt p=s/\2 * (n - sd.countP Vd)+wt.length<=c/\wt.length<=sd.countP Vd/\∀ q,IsSet sd0 q->IsSet sd q
theorem Ji(hf:AN (Δ kf)){n s a b w p c j l:Nat}{o:SO}(la:l≠a)(lb:l≠b)(lw:l≠w){es:EE}{e:Nat×Nat}{S0 S:Sto}{sd0:List (Option Nat)}{ts:List Nat}{D:EndsS}{o7:Option SV}(hen:∀ e∈es,e.1<e.2/\e.2<n)(hn:n<=1000)(he:es[j]?=some e)(hpe:p=e.1\/p=e.2)(hbl:∀ q,q<s->IsSet sd0 q)
 (I:GI n es s a b w p c S0 sd0 l o (j::ts) S) (q:∀(o7:Option SV) (S':Sto),GI n es s a b w p c S0 sd0 l o ts S'->D.nx [some (g0 n es),some (.int s),some (.loc a),some (.loc b),some (.loc w),some (.int p),some (.int j),o7] S'):
 wSs Δ (zin kf) D [some (g0 n es),some (.int s),some (.loc a),some (.loc b),some (.loc w),some (.int p),some (.int j),o7] S:=by
 obtain⟨hlo,sd,bk,dep,rt,wt,G,M,hwt,hp,hr,hc,hw,h0⟩:=I;have hne:e.1≠e.2:=by have:=hen e (UO he);omega
 have hfl:farE e p<n:=by
  have:=hen e (UO he);rcases u9 hpe with h | h<;>omega
 have hcn:=WG (p:=Vd) (l:=sd);rw[G.ls]at hcn
 have ho:∀(wt':List Nat),(∀ x∈wt,x∈wt')->∀ q i,(q∈wt\/(q=p/\i∈j::ts))->(q∈wt'\/(q=p/\i∈ts))\/(q=p/\i=j):=by
  rintro wt' hs q i (h | ⟨h,h2⟩)
  ·exact .inl (.inl (hs _ h))
  ·rcases Ub.mp h2 with h2 | h2
   ·exact .inr ⟨h,h2⟩
   ·exact .inl (.inr ⟨h,h2⟩)
 refine⟨_,rfl,_,rfl,_,rfl,hf he hpe ?_⟩;cases hx:sd[farE e p]'(by rw[G.ls];exact hfl) with
 | some v=>
   have h:sd[farE e p]?=some (some v):=by rw[UM (by rw[G.ls];exact hfl),hx]
   refine⟨_,rfl,_,rfl,_,_,c5 M.ha,f9 (g9 h),.inl ⟨rfl,_,rfl,ifF rfl ?_⟩⟩;refine q _ _ ⟨hlo,sd,bk,dep,rt,wt,G.close he hpe hne ⟨v,h⟩ (ho wt λ_ h=>h) ?_,M,hwt,hp,hr,hc,hw,h0⟩;rintro(z | ⟨z,_⟩)
   ·rw[(hwt _ z).2,hr]
   ·rw[z]
 | none=>
   have h:sd[farE e p]?=some none:=by rw[UM (by rw[G.ls];exact hfl),hx]
   obtain⟨v,hv⟩:=hp;have hvv:=G.val p v hv;refine⟨_,rfl,_,rfl,_,_,c5 M.ha,f9 (g9 h),.inl ⟨rfl,_,rfl,ifT rfl ?_⟩⟩;refine⟨_,rfl,_,rfl,_,_,c5 M.ha,f9 (g9 hv),_,rfl,_,rfl,_,_,M.ha,DI (by rw[Ar,G.ls];exact hfl),?_⟩;have e1:(1:Int) - (v:Int)=((1 - dep p % 2:Nat):Int):=by omega
   have e2:(optsS sd).set (farE e p) ((λ(i j:Int)=>SV.int (i - j)) 1 v)=optsS (sd.set (farE e p) (some (1 - dep p % 2))):=by
    show(optsS sd).set _ (.int ((1:Int) - (v:Int)))=_;rw[e1,As]
   rw[e2];have M1:=M.seta (sd':=sd.set (farE e p) (some (1 - dep p % 2)));refine⟨_,rfl,_,rfl,_,rfl,_,_,M1.hb,DI (by rw[Ar,G.lb];exact hfl),?_⟩;rw[As];have M2:=M1.setb (bk':=bk.set (farE e p) (some j));refine⟨_,rfl,⟨_,_,rfl,M2.hw⟩,_,rfl,_,M2.hw,by rw[f6];show _<100000;omega,?_⟩;have M3:=M2.setw (wt':=wt++[farE e p]);rw[i5]at M3;have hsl:farE e p<sd.length:=by rw[G.ls];exact hfl
   have hns:∀ q,IsSet sd q->q≠farE e p:=λq ⟨v,hv⟩ z=>by rw[z,h]at hv;cases hv
   have hlt:sd.countP Vd<n:=by
    have h1:=WG (p:=Vd) (l:=sd.set (farE e p) (some 0));rw[AJ h,Uy,G.ls]at h1;exact h1
   refine q _ _ ⟨by rw[j4 (Ne.symm lw),j4 (Ne.symm lb),j4 (Ne.symm la)];exact hlo,_,_,_,_,wt++[farE e p],G.give ⟨v,hv⟩ he hpe hne h (ho _ λ_ h=>Um _ h) (λ_ => .inl (by simp)) (by rw[hr];exact X4 λz=>hns _ (h0 _ (hbl _ z)) rfl),M3,λy hy=>?_,j3 hsl ⟨v,hv⟩,?_,?_,?_,λy hy=>j3 hsl (h0 y hy)⟩
   ·rcases Ul.mp hy with hy | hy
    ·rw[upd_ne (hns _ (hwt y hy).1)];exact⟨j3 hsl (hwt y hy).1,(hwt y hy).2⟩
    ·rw[UT.mp hy,u8];exact⟨⟨_,Ut hsl⟩,hr⟩
   ·rw[upd_ne (hns _ ⟨v,hv⟩)];exact hr
   ·rw[AJ h,UR];simp;omega
   ·rw[AJ h,UR];simp;omega
noncomputable def HC(s:Sn):Prop:=∀{n st a b:Nat} {es:EE} {sd bk:List (Option Nat)} {dep rt:Nat->Nat} {S:Sto} {Q:QE},(∀ e∈es,e.1<e.2/\e.2<n)->es.length<=5000->n<=1000->Gs n es sd bk dep rt (λ_ _=>False)->sd[st]?=some none->(∀ q,q<st->IsSet sd q)->a≠b->S[a]?=some (.lst (optsS sd))->S[b]?=some (.lst (optsS bk))->
 (∀(sd' bk':List (Option Nat)) (dep' rt':Nat->Nat) (S':Sto),Gs n es sd' bk' dep' rt' (λ_ _=>False)->(∀ q,IsSet sd q->IsSet sd' q)->IsSet sd' st->S'[a]?=some (.lst (optsS sd'))->S'[b]?=some (.lst (optsS bk'))->S.length<=S'.length->(∀(k:Nat) (o:SO),k≠a->k≠b->S[k]?=some o->S'[k]?=some o)->Q .non S')->s [g0 n es,.int st,.loc a,.loc b] S Q
theorem Oi(hΔ:∀ f,MonoN (Δ f))(ht:DE (Δ kt))(hf:AN (Δ kf)){D:Df}(hb':D.body=Po kt kf)(hN:D.N.length=8)(hps:D.ps.length=4):HC (j6 Δ D):=by
 intro n st a b es sd bk dep rt S Q hen hel hn G0 hst hbl ab hSa hSb q;have hsl:st<sd.length:=(gM hst).1;unfold j6;rw[hb',hN];refine⟨hps.symm,_,rfl,_,rfl,_,_,hSa,DI (by rw[Ar];exact hsl),?_⟩;have e0:(optsS sd).set st (.int 0)=optsS (sd.set st (some 0)):=As (v:=0);rw[e0];refine⟨_,rfl,by show 1<=big;decide,?_⟩;generalize hw0:(S.set a (.lst (optsS (sd.set st (some 0))))).length=w;have hw1:S.length=w:=by rw[<-hw0,Uy]
 have M0:Gm a b w S (S.set a (.lst (optsS (sd.set st (some 0))))++[.lst (natS [st])]) (sd.set st (some 0)) bk [st]:=
  ⟨e7 (m9 hSa),e7 (by rw[j4 ab];exact hSb),by rw[<-hw0];exact c9,by simp,λk o h1 h2 h=>e7 (by rw[j4 (Ne.symm h1)];exact h),ab,y0 hSa,y0 hSb,by omega⟩
 refine⟨λm ρ S'=>∃ sd' bk' dep' rt' wt o5 o6 o7,ρ=[some (g0 n es),some (.int st),some (.loc a),some (.loc b),some (.loc w),o5,o6,o7]/\Gs n es sd' bk' dep' rt' (λq _=>q∈wt)/\Gm a b w S S' sd' bk' wt/\(∀ q∈wt,IsSet sd' q/\rt' q=st)/\2 * (n - sd'.countP Vd)+wt.length<=m/\wt.length<=sd'.countP Vd/\∀ q,IsSet (sd.set st (some 0)) q->IsSet sd' q,
  ⟨_,_,_,_,_,[st],none,none,none,rfl,G0.begin hst (λ_ _ h=>h.elim) (λ_=>by simp),M0,λq hq=>?_,US _,by rw[AJ hst];simp,λ_ h=>h⟩,?_⟩
 ·rw[UT.mp hq,u8];exact⟨⟨_,Ut hsl⟩,rfl⟩
 rintro m ρ S1 ⟨sd1,bk1,dep1,rt1,wt,o5,o6,o7,rfl,G,M,hwt,hm,hwc,hk⟩;refine⟨_,rfl,_,Bs M.hw,?_⟩;rcases v9 wt with rfl | ⟨wt',p,rfl⟩
 ·refine ifF rfl ?_;exact q sd1 bk1 dep1 rt1 S1 (G.more λ_ _ _ _ _ h=>by simp at h) (λy hy=>hk y (j3 hsl hy)) (hk st ⟨_,Ut hsl⟩) M.ha M.hb M.len M.keep
 refine ifT (by rw[i5];simp[natS]) ?_;refine⟨_,rfl,⟨_,_,rfl,M.hw⟩,_,_,M.hw,Aq,?_⟩;rw[BD];have M1:=M.setw (wt':=wt');obtain⟨⟨v,hv⟩,hpr⟩:=hwt p (by simp);have hpn:p<n:=by rw[<-G.ls];exact(gM hv).1
 rw[UR]at hm hwc;simp only[VG,Wj]at hm hwc;refine⟨_,rfl,_,rfl,ht hel hpn ⟨_,c5 c9,?_⟩⟩;have M2:=M1.push (o:=SO.lst (natS (y4 es p es.length)));have hnew:=c9 (S:=S1.set w (.lst (natS wt'))) (o:=SO.lst (natS (y4 es p es.length)));have l1:=y0 M1.ha;have l2:=y0 M1.hb;have l3:=y0 M1.hw;generalize (S1.set w (.lst (natS wt'))).length=l at *;generalize (S1.set w (.lst (natS wt')))++[SO.lst (natS (y4 es p es.length))]=S3 at *
 refine AM (l6 hΔ _) (λi ρ S2=>∃ o6 o7,ρ=[some (g0 n es),some (.int st),some (.loc a),some (.loc b),some (.loc w),some (.int p),o6,o7]/\GI n es st a b w p (m - 1) S (sd.set st (some 0)) l (.lst (natS (y4 es p es.length))) ((y4 es p es.length).drop i) S2)
  ⟨o6,o7,rfl,hnew,sd1,bk1,dep1,rt1,wt',G.more (λy i e he hye h=>?_),M2,λy hy=>hwt y (by simp[hy]),⟨v,hv⟩,hpr,by omega,by omega,hk⟩ ?_ ?_ ?_
 ·rcases Ul.mp h with h | h
  ·exact .inl h
  ·have:=UT.mp h;exact .inr ⟨this,mem_tiesAt.mpr ⟨e,he,by rw[<-this];exact hye.imp Eq.symm Eq.symm⟩⟩
 ·rintro i ρ S2 ⟨_,_,_,h,_⟩;show S2[l]?=_;rw[h,hnew]
 ·rintro i x ρ S2 hx ⟨o6,o7,rfl,I⟩;have hi:i<(y4 es p es.length).length:=by have:=(gM hx).1;rwa [f6]at this
  have hx2:=Ap (UM hi);rw[hx2]at hx;have hx:=oj hx;subst hx;obtain⟨e,he,hpe⟩:=mem_tiesAt.mp (W8 hi);rw[W1 hi]at I;exact Ji hf (by omega) (by omega) (by omega) hen hn he (hpe.imp Eq.symm Eq.symm) (λq hq=>j3 hsl (hbl q hq)) I λo7 S' I'=>⟨_,_,rfl,I'⟩
 ·rintro ρ S2 ⟨o6,o7,rfl,_,sd2,bk2,dep2,rt2,wt2,G2,N2,h1,h2,h3,h4,h5,h6⟩;rw[f6,WK]at G2;exact⟨m - 1,by omega,sd2,bk2,dep2,rt2,wt2,_,_,_,rfl,G2.more (λ_ _ _ _ _ h=>h.elim id λh=>by simp at h),N2,h1,h4,h5,h6⟩
end
noncomputable def t1':Stm:=(.asg (.nm 1) (.op .Mult (.lst (.cons (.c .non) .nil)) (.ix (.var 0) (.c (.int 0)))))
noncomputable def t2':Stm:=(.asg (.nm 2) (.op .Mult (.lst (.cons (.c .non) .nil)) (.ix (.var 0) (.c (.int 0)))))
noncomputable def t3'(kg:Nat):Stm:=(.loop (.nm 3) (.rng1 (.ix (.var 0) (.c (.int 0)))) [(.iff (.cmp .Is (.ix (.var 1) (.var 3)) (.c .non)) [(.expr (.call kg (.cons (.var 0) (.cons (.var 3) (.cons (.var 1) (.cons (.var 2) .nil))))))] [])])
noncomputable def t4'(kr:Nat):Stm:=(.loop (.tup (.cons (.nm 4) (.cons (.tup (.cons (.nm 5) (.cons (.nm 6) .nil))) .nil))) (.enum (.ix (.var 0) (.c (.int 1)))) [(.iff (.cmp .Eq (.ix (.var 1) (.var 5)) (.ix (.var 1) (.var 6))) [(.ret (.tup (.cons (.c (.str "ring")) (.cons (.call kr (.cons (.var 0) (.cons (.var 4) (.cons (.var 2) .nil)))) .nil))))] [])])
noncomputable def t5':Stm:=(.ret (.tup (.cons (.c (.str "sides")) (.cons (.var 1) .nil))))
structure Full(n:Nat)(es:EE)(sd bk:List (Option Nat))(dep rt:Nat->Nat):Prop where
 gs:Gs n es sd bk dep rt (λ_ _=>False)
 all:∀ p,p<n->sd[p]?=some (some (dep p % 2))
theorem MS{Δ:Nat->Sn}{kr:Nat}(hΔ:∀ f,MonoN (Δ f))(hr:EU (Δ kr)){n a b:Nat}{es:EE}{sd bk:List (Option Nat)}{dep rt:Nat->Nat}{S:Sto}{Q:QE}{o3 o4 o5 o6:Option SV}(hen:∀ e∈es,e.1<e.2/\e.2<n)(hn:n<=1000)(F:Full n es sd bk dep rt)(hSa:S[a]?=some (.lst (optsS sd)))(hSb:S[b]?=some (.lst (optsS bk)))
 (q1:(∀ e∈es,dep e.1 % 2≠dep e.2 % 2)->Q (.tup [.str "sides",.loc a]) S)
 (q2:∀(j:Nat) (e:Nat×Nat) (us ds:List Nat) (l:Nat) (S':Sto),es[j]?=some e->dep e.1 % 2=dep e.2 % 2->Cut (upW es bk (dep e.1) e.1) (upW es bk (dep e.2) e.2) us ds->Gw S S'->S.length<=l->S'[l]?=some (.lst (natS (us++ds.reverse++[j])))->Q (.tup [.str "ring",.loc l]) S'):
 wSs Δ [t4' kr,t5'] (q0 Q) [some (g0 n es),some (.loc a),some (.loc b),o3,o4,o5,o6] S:=by
 refine⟨_,rfl,_,_,rfl,rfl,_,rfl,?_⟩;refine AM (l6 hΔ _) (λi ρ S2=>∃ o4 o5 o6,ρ=[some (g0 n es),some (.loc a),some (.loc b),o3,o4,o5,o6]/\S2=S/\∀(j:Nat) (e:Nat×Nat),j<i->es[j]?=some e->dep e.1 % 2≠dep e.2 % 2) ⟨o4,o5,o6,rfl,rfl,λ_ _ h=>by omega⟩ (λ_ _ _ _=>trivial) ?_ ?_
 ·rintro i x ρ _ hx ⟨p4,p5,p6,rfl,rfl,hd⟩;obtain⟨y,hy,rfl⟩:=MO hx;obtain⟨e,he,rfl⟩:=Bt hy;have hee:=hen e (UO he);refine⟨_,rfl,_,rfl,_,_,c5 hSa,f9 (g9 (F.all e.1 (by omega))),_,rfl,_,rfl,_,_,c5 hSa,f9 (g9 (F.all e.2 hee.2)),_,rfl,?_⟩;refine ifD (λh=>?_) (λh=>⟨_,_,_,rfl,rfl,λj e' hj he'=>?_⟩)
  ·refine⟨_,rfl,_,rfl,_,rfl,hr (F.gs.tr hn) he (by omega) hee.2 hSb λus ds l S' hc hg hl hS=>⟨by show 2<=big;decide,?_⟩⟩;exact q2 i e us ds l S' he (VC.mp h) hc hg hl hS
  ·by_cases hji:j=i
   ·subst hji;rw[he]at he';have:=oj he';subst this;exact λz=>h (congrArg YM z)
   ·exact hd j e' (by omega) he'
 ·rintro ρ _ ⟨p4,p5,p6,rfl,rfl,hd⟩;rw[IG,UQ]at hd;refine⟨_,rfl,by show 2<=big;decide,q1 λe he=>?_⟩;obtain⟨j,hj,he⟩:=Wn he;exact hd j e hj (by rw[UM hj,he])
noncomputable def Tm(kg kr:Nat):List Stm:=[t1',t2',t3' kg,t4' kr,t5']
noncomputable def MU(s:Sn):Prop:=∀{n:Nat} {es:EE} {S:Sto} {Q:QE},(∀ e∈es,e.1<e.2/\e.2<n)->es.length<=5000->n<=1000->
 (∀(sd bk:List (Option Nat)) (dep rt:Nat->Nat) (a:Nat) (S':Sto),Full n es sd bk dep rt->(∀ e∈es,dep e.1 % 2≠dep e.2 % 2)->Gw S S'->S.length<=a->S'[a]?=some (.lst (optsS sd))->Q (.tup [.str "sides",.loc a]) S')->
 (∀(sd bk:List (Option Nat)) (dep rt:Nat->Nat) (j:Nat) (e:Nat×Nat) (us ds:List Nat) (l:Nat) (S':Sto),Full n es sd bk dep rt->es[j]?=some e->dep e.1 % 2=dep e.2 % 2->Cut (upW es bk (dep e.1) e.1) (upW es bk (dep e.2) e.2) us ds->Gw S S'->S.length<=l->S'[l]?=some (.lst (natS (us++ds.reverse++[j])))->Q (.tup [.str "ring",.loc l]) S')->s [g0 n es] S Q
theorem EV(n:Nat):(Ue ((n:Int)).toNat [SV.non]).flatten=optsS (Ue n none):=by
 rw[WY]
 induction n with
 | zero=>rfl
 | succ n ih=>rw[VW,Vt,ih];rfl
theorem MV(n:Nat)(es:EE):Gs n es (Ue n none) (Ue n none) (λ_=>0) (λp=>p) (λ_ _=>False):=by
 have h:∀ p,¬ IsSet (Ue n none) p:=λp ⟨v,hv⟩=>by
  have:=UO hv;rw[Xd]at this;cases this.2
 refine⟨by simp,by simp,λp v hv=>absurd ⟨v,hv⟩ (h p),λp j hj=>absurd ⟨j,hj⟩ (h p),λp hp=>absurd hp (h p),λp hp=>absurd hp (h p),λ_ _=>rfl,λp _ _ hp=>absurd hp (h p),λp hp=>absurd hp (h p)⟩
theorem Rb{Δ:Nat->Sn}{kg kr:Nat}(hΔ:∀ f,MonoN (Δ f))(hg:HC (Δ kg))(hr:EU (Δ kr)){D:Df}(hb:D.body=Tm kg kr)(hN:D.N.length=7)(hp:D.ps.length=1):MU (j6 Δ D):=by
 intro n es S Q hen hel hn q1 q2;unfold j6;rw[hb,hN];refine⟨hp.symm,by show 1<=big;decide,_,rfl,_,_,rfl,rfl,_,c9,⟨by omega,by omega⟩,by simp;show _<=100000;omega,?_⟩;rw[EV];refine⟨by show 1<=big;decide,_,rfl,_,_,rfl,rfl,_,c9,⟨by omega,by omega⟩,by simp;show _<=100000;omega,?_⟩;rw[EV];generalize ha:(S++[SO.lst [SV.non]]).length=a;have ha1:S.length<a:=by rw[<-ha];simp
 have hSa:(S++[SO.lst [SV.non]]++[SO.lst (optsS (Ue n none))])[a]?=some (.lst (optsS (Ue n none))):=by rw[<-ha];exact c9
 have G0:Gw S (S++[SO.lst [SV.non]]++[SO.lst (optsS (Ue n none))]):=(Gw.refl S).push.push;generalize S++[SO.lst [SV.non]]++[SO.lst (optsS (Ue n none))]=S1 at *;generalize hb2:(S1++[SO.lst [SV.non]]).length=b;have hb1:S1.length<b:=by rw[<-hb2];simp
 have hSb:(S1++[SO.lst [SV.non]]++[SO.lst (optsS (Ue n none))])[b]?=some (.lst (optsS (Ue n none))):=by rw[<-hb2];exact c9
 have hS2:=e7 (o:=SO.lst (optsS (Ue n none))) (e7 (o:=SO.lst [SV.non]) hSa);have G2:=(G0.push (o:=SO.lst [SV.non])).push (o:=SO.lst (optsS (Ue n none)));have hab:=y0 hSa;generalize S1++[SO.lst [SV.non]]++[SO.lst (optsS (Ue n none))]=S2 at *;refine⟨_,rfl,_,_,rfl,rfl,_,rfl,⟨by omega,by omega⟩,?_⟩
 refine AM (l6 hΔ _) (λi ρ S'=>∃ sd bk dep rt o3,ρ=[some (g0 n es),some (.loc a),some (.loc b),o3,none,none,none]/\Gs n es sd bk dep rt (λ_ _=>False)/\(∀ p,p<i->IsSet sd p)/\S'[a]?=some (.lst (optsS sd))/\S'[b]?=some (.lst (optsS bk))/\Gw S S')
  ⟨_,_,_,_,none,rfl,MV n es,λ_ h=>by omega,hS2,hSb,G2⟩ (λ_ _ _ _=>trivial) ?_ ?_
 ·rintro i x ρ S' hx ⟨sd,bk,dep,rt,o3,rfl,G,hs,ha',hb',Gw'⟩;obtain⟨rfl,hi⟩:=A8 hx;rw[Vw]at hi ⊢;have hil:i<sd.length:=by rw[G.ls];omega
  cases hx:sd[i] with
  | some v=>
    have h:sd[i]?=some (some v):=by rw[UM hil,hx]
    refine⟨_,rfl,_,rfl,_,_,c5 ha',f9 (g9 h),.inl ⟨rfl,_,rfl,ifF rfl ?_⟩⟩;refine⟨sd,bk,dep,rt,_,rfl,G,λp hp=>?_,ha',hb',Gw'⟩;by_cases hpi:p=i
    ·rw[hpi];exact⟨v,h⟩
    ·exact hs p (by omega)
  | none=>
    have h:sd[i]?=some none:=by rw[UM hil,hx]
    refine⟨_,rfl,_,rfl,_,_,c5 ha',f9 (g9 h),.inl ⟨rfl,_,rfl,ifT rfl ?_⟩⟩;refine⟨_,rfl,_,rfl,_,rfl,_,rfl,hg hen hel hn G h hs (by omega) ha' hb' λsd' bk' dep' rt' S'' G' k1 k2 h1 h2 h3 h4=>?_⟩;refine⟨sd',bk',dep',rt',_,rfl,G',λp hp=>?_,h1,h2,⟨Ux Gw'.len h3,λk o hk=>h4 k o (by have:=y0 hk;omega) (by have:=y0 hk;omega) (Gw'.keep k o hk)⟩⟩;by_cases hpi:p=i
    ·rw[hpi];exact k2
    ·exact k1 p (hs p (by omega))
 ·rintro ρ S' ⟨sd,bk,dep,rt,o3,rfl,G,hs,ha',hb',Gw'⟩;rw[v5]at hs
  have F:Full n es sd bk dep rt:=⟨G,λp hp=>by
   obtain⟨v,hv⟩:=hs p (by omega);rw[hv,G.val p v hv]⟩
  exact MS hΔ hr hen hn F ha' hb' (λh=>q1 sd bk dep rt a S' F h Gw' (by omega) ha') λj e us ds l S'' he h hc hg' hl hS=>q2 sd bk dep rt j e us ds l S'' F he h hc (Gw'.trans hg') (Ux Gw'.len hl) hS
noncomputable def Pth(es:EE):List Nat->Nat->Nat->List Nat->Prop
 | [],p,q,vs=>p=q/\vs=[]
 | t::ts,p,q,vs=>∃ e vs',es[t]?=some e/\(p=e.1\/p=e.2)/\vs=p::vs'/\Pth es ts (farE e p) q vs'
theorem Pth.app{es:EE}:∀{a b:List Nat} {p q r:Nat} {vs ws:List Nat},Pth es a p q vs->Pth es b q r ws->Pth es (a++b) p r (vs++ws)
 | [],b,p,q,r,vs,ws,h,k=>by obtain⟨rfl,rfl⟩:=h;exact k
 | t::a,b,p,q,r,vs,ws,h,k=>by
   obtain⟨e,vs',h1,h2,rfl,h3⟩:=h;exact⟨e,vs'++ws,h1,h2,rfl,h3.app k⟩
theorem Pth.rev{es:EE}(hu:∀ e∈es,e.1≠e.2):∀{a:List Nat} {p q:Nat} {vs:List Nat},Pth es a p q vs->∃ ws,Pth es a.reverse q p ws/\ws++[p]=(vs++[q]).reverse
 | [],p,q,vs,h=>by obtain⟨rfl,rfl⟩:=h;exact⟨[],⟨rfl,rfl⟩,rfl⟩
 | t::a,p,q,vs,h=>by
   obtain⟨e,vs',h1,h2,rfl,h3⟩:=h;obtain⟨ws,k1,k2⟩:=h3.rev hu;refine⟨ws++[farE e p],?_,?_⟩
   ·rw[Vs];exact k1.app ⟨e,[],h1,u9 h2,rfl,DH (hu e (UO h1)) h2,rfl⟩
   ·rw[k2];simp
theorem DJ{n:Nat}{es:EE}{bk:List (Option Nat)}{dep:Nat->Nat}(T:Tr n es bk dep){p t:Nat}{us:List Nat}(h:upW es bk (dep p) p=t::us):∃ e,bk[p]?=some (some t)/\es[t]?=some e/\(p=e.1\/p=e.2)/\farE e p<n/\dep p=dep (farE e p)+1/\us=upW es bk (dep (farE e p)) (farE e p):=by
 cases hd:dep p with
 | zero=>rw[hd]at h;cases h
 | succ f=>
   rw[hd]at h;cases hb:bk[p]? with
   | none=>rw[upW,hb]at h;cases h
   | some x=>
     cases x with
     | none=>rw[upW,hb]at h;cases h
     | some j=>
       obtain⟨e,h1,h2,h3,h4⟩:=T.up p j hb;rw[DG hb h1]at h;have e1:=List.cons.inj h;obtain⟨rfl,e2⟩:=e1;refine⟨e,rfl,h1,h2,h3,by omega,?_⟩;rw[<-e2]
       congr 1
       omega
structure UpC(n:Nat)(es:EE)(bk:List (Option Nat))(dep rt:Nat->Nat)(us cm:List Nat)(p m:Nat)(vs:List Nat):Prop where
 pth:Pth es us p m vs
 rest:upW es bk (dep m) m=cm
 far:dep p=dep m+us.length
 rt':rt m=rt p
 lt:m<n
 nd:vs.Nodup
 inn:∀ x∈vs,dep m<dep x/\dep x<=dep p/\∃ us1 us2,us=us1++us2/\us2≠[]/\upW es bk (dep x) x=us2++cm
theorem HD{n:Nat}{es:EE}{sd bk:List (Option Nat)}{dep rt:Nat->Nat}(F:Full n es sd bk dep rt)(hn:n<=1000):∀(us cm:List Nat) (p:Nat),p<n->upW es bk (dep p) p=us++cm->∃ m vs,UpC n es bk dep rt us cm p m vs
 | [],cm,p,hp,h=>⟨p,[],⟨rfl,rfl⟩,h,rfl,rfl,hp,Ws,λ_ h=>nomatch h⟩
 | t::us,cm,p,hp,h=>by
   obtain⟨e,h1,h2,h3,h4,h5,h6⟩:=DJ (F.gs.tr hn) h;obtain⟨e',g1,g2,g3,g4,g5,g6⟩:=F.gs.up p t h1;rw[h2]at g1;have:=oj g1;subst this;obtain⟨m,vs,U⟩:=HD F hn us cm (farE e p) h4 h6.symm;refine⟨m,p::vs,⟨e,vs,h2,h3,rfl,U.pth⟩,U.rest,?_,U.rt'.trans g6,U.lt,?_,λx hx=>?_⟩
   ·rw[h5,U.far,VG];omega
   ·refine Vg.mpr ⟨λz=>?_,U.nd⟩;have:=(U.inn p z).2.1;omega
   ·rcases Ub.mp hx with rfl | hx
    ·exact⟨by rw[h5,U.far];omega,US _,[],t::us,rfl,nofun,h⟩
    ·obtain⟨a1,a2,us1,us2,a3,a4,a5⟩:=U.inn x hx;exact⟨a1,by omega,t::us1,us2,by rw[a3];rfl,a4,a5⟩
theorem Jj{n:Nat}{es:EE}{sd bk:List (Option Nat)}{dep rt:Nat->Nat}(F:Full n es sd bk dep rt)(hn:n<=1000){m m':Nat}{cm:List Nat}(hm:m<n)(hm':m'<n)(h:upW es bk (dep m) m=cm)(h':upW es bk (dep m') m'=cm)(hr:rt m=rt m'):m=m':=by
 have T:=F.gs.tr hn;cases cm with
 | cons t us=>
   obtain⟨e,a1,a2,a3,a4,a5,a6⟩:=DJ T h;obtain⟨e',b1,b2,b3,b4,b5,b6⟩:=DJ T h';rw[a2]at b2;have:=oj b2;subst this;by_cases he:m=m'
   ·exact he
   ·exfalso;rcases a3 with a3 | a3<;>rcases b3 with b3 | b3
    ·exact he (a3.trans b3.symm)
    ·have f1:farE e m=m':=by unfold farE;rw[iP a3,b3]
     have f2:farE e m'=m:=by unfold farE;rw[iG (by omega),a3]
     rw[f1]at a5;rw[f2]at b5;omega
    ·have f1:farE e m'=m:=by unfold farE;rw[iP b3,a3]
     have f2:farE e m=m':=by unfold farE;rw[iG (by omega),b3]
     rw[f2]at a5;rw[f1]at b5;omega
    ·exact he (a3.trans b3.symm)
 | nil=>
   have root:∀ p,p<n->upW es bk (dep p) p=[]->rt p=p:=λp hp hu=>by
    have hlt:p<bk.length:=by rw[F.gs.lb];exact hp
    cases hx:bk[p] with
    | none=>exact(F.gs.root p ⟨_,F.all p hp⟩ (by rw[UM hlt,hx])).1
    | some j=>
      have hb:bk[p]?=some (some j):=by rw[UM hlt,hx]
      obtain⟨e,h1,h2,h3,h4⟩:=T.up p j hb;rw[h4,DG hb h1]at hu;cases hu
   rw[<-root m hm h,<-root m' hm' h',hr]
theorem MW{n:Nat}{es:EE}{sd bk:List (Option Nat)}{dep rt:Nat->Nat}(F:Full n es sd bk dep rt)(hn:n<=1000)(hen:∀ e∈es,e.1<e.2/\e.2<n){j:Nat}{e:Nat×Nat}{us ds:List Nat}(he:es[j]?=some e)(hl:dep e.1 % 2=dep e.2 % 2)
 (C:Cut (upW es bk (dep e.1) e.1) (upW es bk (dep e.2) e.2) us ds):∃ vs,Pth es (us++ds.reverse++[j]) e.1 e.1 vs/\vs.Nodup/\3<=(us++ds.reverse++[j]).length/\(us++ds.reverse++[j]).length % 2=1:=by
 have hee:=hen e (UO he);have hun:∀ e∈es,e.1≠e.2:=λe he=>by have:=hen e he;omega
 obtain⟨cm,ca,cb⟩:=C.ex;obtain⟨m,vs,U⟩:=HD F hn us cm e.1 (by omega) ca;obtain⟨m',ws,V⟩:=HD F hn ds cm e.2 hee.2 cb
 have hrt:rt e.1=rt e.2:=by
  rcases F.gs.cl e.2 j e ⟨_,F.all e.2 hee.2⟩ he (.inr rfl) with h | ⟨_,h⟩
  ·exact h.elim
  ·unfold farE at h;rw[iG (by omega)]at h;exact h
 have hmm:m=m':=Jj F hn U.lt V.lt U.rest V.rest (by rw[U.rt',V.rt',hrt]);subst hmm;obtain⟨rs,R1,R2⟩:=V.pth.rev hun;have hback:Pth es [j] e.2 e.1 [e.2]:=⟨e,[],he,.inr rfl,rfl,by unfold farE;rw[iG (by omega)],rfl⟩
 refine⟨_,(U.pth.app R1).app hback,?_,?_,?_⟩
 ·rw[Ui,R2,Wl];show(vs++(m::ws.reverse)).Nodup;rw[VN];refine⟨U.nd,Vg.mpr ⟨λz=>?_,(Xm ws).nodup_iff.mpr V.nd⟩,λx hx y hy hxy=>?_⟩
  ·have:=(V.inn m (X6.mp z)).1;omega
  ·subst hxy;obtain⟨a1,a2,us1,us2,a3,a4,a5⟩:=U.inn x hx;rcases Ub.mp hy with hy | hy
   ·rw[hy]at a1;omega
   ·obtain⟨b1,b2,ds1,ds2,b3,b4,b5⟩:=V.inn x (X6.mp hy);rw[a5]at b5;have:=List.append_cancel_right b5;subst this;rcases v9 us2 with h | ⟨u3,z,h⟩
    ·exact a4 h
    ·exact C.ne z z (us1++u3) (ds1++u3) (by rw[a3,h,Ui]) (by rw[b3,h,Ui]) rfl
 ·have h1:=U.far;have h2:=V.far;rw[UR,UR,Vv,VZ]
  have:us.length≠0\/ds.length≠0:=by
   apply Classical.byContradiction;intro z;have z1:us=[]:=Vk.mp (by omega);have z2:ds=[]:=Vk.mp (by omega);have p1:=U.pth;have p2:=V.pth;rw[z1]at p1;rw[z2]at p2;have:=p1.1.trans p2.1.symm;omega
  omega
 ·have h1:=U.far;have h2:=V.far;rw[UR,UR,Vv,VZ];omega
structure Ms(n:Nat)(es:EE)(i:Nat)(ms:List Nat):Prop where
 len:ms.length=n
 le:∀ p v:Nat,ms[p]?=some v->v<=p
 one:∀(j:Nat) (e:Nat×Nat),j<i->es[j]?=some e->ms[e.1]?=ms[e.2]?
section
variable{Δ:Nat->Sn}
structure Odd(es:EE)(ts:List Nat):Prop where
 lt:∀ t∈ts,t<es.length
 few:ts.length<=500
 three:3<=ts.length
 odd:ts.length % 2=1
 ex:∃ p vs,Pth es ts p p vs/\vs.Nodup
end
end Rf
namespace Hue
noncomputable def CD(ms:List Nat)(e:Nat×Nat):Nat:=min (ms.getD e.1 0) (ms.getD e.2 0)
noncomputable def BS(ms:List Nat)(e:Nat×Nat):Nat:=max (ms.getD e.1 0) (ms.getD e.2 0)
noncomputable def n8(ms:List Nat)(e:Nat×Nat):List Nat:=ms.map λx=>if x=BS ms e then CD ms e else x
noncomputable def marks(n:Nat)(es:EE):List Nat:=es.foldl n8 (Uj n)
structure Mk(n:Nat)(ms:List Nat):Prop where
 len:ms.length=n
 le:∀ i (h:i<ms.length),ms[i]<=i
 fix:∀ i (h:i<ms.length),ms[ms[i]]?=some ms[i]
theorem mk_range(n:Nat):Mk n (Uj n):=⟨by simp,λi h=>by simp,λi h=>by
 have hi:i<n:=by simpa using h
 simp[W7,hi]⟩
theorem MX{n:Nat}{ms:List Nat}(M:Mk n ms){e:Nat×Nat}(h1:e.1<n)(h2:e.2<n):Mk n (n8 ms e):=by
 have l1:e.1<ms.length:=by rw[M.len];exact h1
 have l2:e.2<ms.length:=by rw[M.len];exact h2
 have g1:ms.getD e.1 0=ms[e.1]:=by simp[Vp,l1]
 have g2:ms.getD e.2 0=ms[e.2]:=by simp[Vp,l2]
 have fl:ms[CD ms e]?=some (CD ms e):=by
  unfold CD;rw[g1,g2];rcases YJ ms[e.1] ms[e.2] with z | z
  ·rw[Xz z];exact M.fix _ l1
  ·rw[Xt z];exact M.fix _ l2
 have hlh:CD ms e<=BS ms e:=by unfold CD BS;omega
 have at':∀ i (h:i<(n8 ms e).length),(n8 ms e)[i]=if ms[i]'(by simpa[n8] using h)=BS ms e then CD ms e else ms[i]'(by simpa[n8] using h):=λi h=>by simp[n8]
 refine⟨by rw[n8,UQ,M.len],λi h=>?_,λi h=>?_⟩
 ·rw[at' i h];have hi:i<ms.length:=by simpa[n8] using h
  have:=M.le i hi;split
  ·rename_i q;omega
  ·exact this
 ·have hi:i<ms.length:=by simpa[n8] using h
  have key:∀ v,ms[v]?=some v->(v≠BS ms e\/v=CD ms e)->(n8 ms e)[v]?=some v:=by
   intro v hv q;unfold n8;rw[UZ,hv];show some (if v=BS ms e then CD ms e else v)=some v;rcases q with q | q
   ·rw[iG q]
   ·split
    ·rw[<-q]
    ·rfl
  rw[at' i h];split
  ·exact key _ fl (.inr rfl)
  ·rename_i q;exact key _ (M.fix i hi) (.inl q)
theorem mk_marks{n:Nat}:∀{es:EE} {ms:List Nat},Mk n ms->(∀ e∈es,e.1<n/\e.2<n)->Mk n (es.foldl n8 ms)
 | [],_,M,_=>M
 | e::es,ms,M,h=>mk_marks (es:=es) (ms:=n8 ms e) (MX M (h e (Uh ..)).1 (h e (Uh ..)).2) λf hf=>h f (Uc _ hf)
noncomputable def Cl(es:EE)(C:Nat->Prop):Prop:=∀ e∈es,C e.1↔C e.2
theorem BE{ms:List Nat}{e:Nat×Nat}{p:Nat}(h:p<ms.length):(n8 ms e).getD p 0=if ms.getD p 0=BS ms e then CD ms e else ms.getD p 0:=by
 unfold n8;simp[Vp,h]
theorem BN{ms:List Nat}{e:Nat×Nat}:(n8 ms e).length=ms.length:=by simp[n8]
theorem FZ(ms:List Nat)(e:Nat×Nat):(CD ms e=ms.getD e.1 0/\BS ms e=ms.getD e.2 0)\/(CD ms e=ms.getD e.2 0/\BS ms e=ms.getD e.1 0):=by
 unfold CD BS;rcases YJ (ms.getD e.1 0) (ms.getD e.2 0) with z | z
 ·exact .inl ⟨Xz z,Nat.max_eq_right z⟩
 ·exact .inr ⟨Xt z,Nat.max_eq_left z⟩
theorem Fa{n:Nat}{C:Nat->Prop}:∀{es:EE} {ms:List Nat},ms.length=n->(∀ e∈es,e.1<n/\e.2<n)->Cl es C->(∀ p,p<n->(C p↔C (ms.getD p 0)))->∀ p,p<n->(C p↔C ((es.foldl n8 ms).getD p 0))
 | [],_,_,_,_,h=>h
 | e::es,ms,hl,hn,hc,h=>by
   refine Fa (es:=es) (ms:=n8 ms e) (by rw[BN,hl]) (λf hf=>hn f (Uc _ hf)) (λf hf=>hc f (Uc _ hf)) λp hp=>?_;have he:=hn e (Uh ..);have c1:=h e.1 he.1;have c2:=h e.2 he.2;have c0:=hc e (Uh ..);have hp0:=h p hp;rw[BE (by omega)];split
   ·rename_i z;rw[z]at hp0;rcases FZ ms e with⟨a,b⟩ | ⟨a,b⟩
    ·rw[a];rw[b]at hp0;exact hp0.trans (c2.symm.trans (c0.symm.trans c1))
    ·rw[a];rw[b]at hp0;exact hp0.trans (c1.symm.trans (c0.trans c2))
   ·exact hp0
theorem cl_marks{n:Nat}{es:EE}{C:Nat->Prop}(hn:∀ e∈es,e.1<n/\e.2<n)(hc:Cl es C){p:Nat}(hp:p<n):C p↔C ((marks n es).getD p 0):=by
 refine Fa (ms:=Uj n) (by simp) hn hc (λq hq=>?_) p hp;simp[Vp,hq]
theorem Fb{n:Nat}{a b:Nat}:∀{es:EE} {ms:List Nat},ms.length=n->a<n->b<n->ms.getD a 0=ms.getD b 0->(es.foldl n8 ms).getD a 0=(es.foldl n8 ms).getD b 0
 | [],_,_,_,_,h=>h
 | e::es,ms,hl,ha,hb,h=>by
   refine Fb (es:=es) (ms:=n8 ms e) (by rw[BN,hl]) ha hb ?_;rw[BE (by omega),BE (by omega),h]
theorem Dy{n:Nat}:∀{es:EE} {ms:List Nat},ms.length=n->(∀ e∈es,e.1<n/\e.2<n)->∀ e∈es,(es.foldl n8 ms).getD e.1 0=(es.foldl n8 ms).getD e.2 0
 | f::es,ms,hl,hn,e,he=>by
   rcases Ub.mp he with rfl | he
   ·have hb:=hn e (Uh ..);refine Fb (es:=es) (ms:=n8 ms e) (by rw[BN,hl]) hb.1 hb.2 ?_;rw[BE (by omega),BE (by omega)];rcases FZ ms e with⟨a,b⟩ | ⟨a,b⟩
    ·rw[a,b];simp
    ·rw[a,b];simp
   ·exact Dy (es:=es) (ms:=n8 ms f) (by rw[BN,hl]) (λg hg=>hn g (Uc _ hg)) e he
theorem marks_ends{n:Nat}{es:EE}(hn:∀ e∈es,e.1<n/\e.2<n):∀ e∈es,(marks n es).getD e.1 0=(marks n es).getD e.2 0:=Dy (by simp) hn
noncomputable abbrev Sds:=List (Option Nat)
noncomputable def sAt(s:Sds)(p:Nat):Option Nat:=s.getD p none
noncomputable def st1(s:Sds)(a b:Nat):Sds:=match sAt s a,sAt s b with | some v,none=>s.set b (some (1 - v)) | _,_=>s
noncomputable def st2(s:Sds)(e:Nat×Nat):Sds:=st1 (st1 s e.1 e.2) e.2 e.1
noncomputable def rnd(es:EE)(s:Sds):Sds:=es.foldl st2 s
noncomputable def rnds(es:EE):Nat->Sds->Sds
 | 0,s=>s
 | k+1,s=>rnd es (rnds es k s)
noncomputable def beg(n:Nat)(es:EE)(s:Sds)(p:Nat):Sds:=if sAt s p=none then rnds es n (s.set p (some 0)) else s
noncomputable def sidesTo(n:Nat)(es:EE):Nat->Sds
 | 0=>Ue n none
 | k+1=>beg n es (sidesTo n es k) k
theorem sAt_set{s:Sds}{p q:Nat}{v:Option Nat}(h:p<s.length):sAt (s.set p v) q=if p=q then v else sAt s q:=by
 unfold sAt;simp only[UW,List.getElem?_set];split
 ·rename_i z;subst z;simp[h]
 ·rfl
structure Grow(s s':Sds):Prop where
 len:s'.length=s.length
 keep:∀ p v,sAt s p=some v->sAt s' p=some v
theorem Grow.refl(s:Sds):Grow s s:=⟨rfl,λ_ _ h=>h⟩
theorem Grow.trans{a b c:Sds}(x:Grow a b)(y:Grow b c):Grow a c:=⟨y.len.trans x.len,λp v h=>y.keep p v (x.keep p v h)⟩
theorem grow1(s:Sds)(a b:Nat):Grow s (st1 s a b):=by
 unfold st1;split
 ·rename_i v h1 h2;refine⟨by simp,λp u h=>?_⟩;by_cases hb:b<s.length
  ·rw[sAt_set hb];split
   ·rename_i z;rw[z]at h2;rw[h]at h2;cases h2
   ·exact h
  ·rw[Wz (by omega)];exact h
 ·exact Grow.refl _
theorem Pp(s:Sds)(e:Nat×Nat):Grow s (st2 s e):=(grow1 _ _ _).trans (grow1 _ _ _)
theorem growR:∀(es:EE) (s:Sds),Grow s (rnd es s)
 | [],s=>Grow.refl s
 | e::es,s=>(Pp s e).trans (growR es (st2 s e))
theorem growN(es:EE):∀(k:Nat) (s:Sds),Grow s (rnds es k s)
 | 0,s=>Grow.refl s
 | k+1,s=>(growN es k s).trans (growR es _)
theorem all1{s:Sds}{a b:Nat}{F:Nat->Nat->Prop}(h:∀ p v,sAt s p=some v->F p v)(hf:∀ v,F a v->F b (1 - v)):∀ p v,sAt (st1 s a b) p=some v->F p v:=by
 unfold st1;split
 ·rename_i u h1 h2;intro p v hp;by_cases hb:b<s.length
  ·rw[sAt_set hb]at hp;split at hp
   ·rename_i z;cases hp;rw[<-z];exact hf u (h a u h1)
   ·exact h p v hp
  ·rw[Wz (by omega)]at hp;exact h p v hp
 ·exact h
theorem UI{s:Sds}{e:Nat×Nat}{F:Nat->Nat->Prop}(h:∀ p v,sAt s p=some v->F p v)(h1:∀ v,F e.1 v->F e.2 (1 - v))(h2:∀ v,F e.2 v->F e.1 (1 - v)):∀ p v,sAt (st2 s e) p=some v->F p v:=all1 (all1 h h1) h2
theorem allR{F:Nat->Nat->Prop}:∀{es:EE} {s:Sds},(∀ p v,sAt s p=some v->F p v)->(∀ e∈es,(∀ v,F e.1 v->F e.2 (1 - v))/\∀ v,F e.2 v->F e.1 (1 - v))->∀ p v,sAt (rnd es s) p=some v->F p v
 | [],_,h,_=>h
 | e::es,s,h,he=>allR (es:=es) (s:=st2 s e) (UI h (he e (Uh ..)).1 (he e (Uh ..)).2) λf hf=>he f (Uc _ hf)
theorem Oj{F:Nat->Nat->Prop}{es:EE}(he:∀ e∈es,(∀ v,F e.1 v->F e.2 (1 - v))/\∀ v,F e.2 v->F e.1 (1 - v)):∀(k:Nat) {s:Sds},(∀ p v,sAt s p=some v->F p v)->∀ p v,sAt (rnds es k s) p=some v->F p v
 | 0,_,h=>h
 | k+1,_,h=>allR (Oj he k h) he
noncomputable def Set'(s:Sds)(p:Nat):Prop:=∃ v,sAt s p=some v
theorem MY{s:Sds}{e:Nat×Nat}(h1:e.1<s.length)(h2:e.2<s.length)(h:Set' s e.1\/Set' s e.2):Set' (st2 s e) e.1/\Set' (st2 s e) e.2:=by
 have one:∀(s:Sds) (a b:Nat),b<s.length->Set' s a->Set' (st1 s a b) b:=by
  intro s a b hb ⟨v,hv⟩;unfold st1;cases hs:sAt s b with
  | none=>simp only[hv];exact⟨1 - v,by rw[sAt_set hb,iP rfl]⟩
  | some u=>simp only[hv];exact⟨u,hs⟩
 have kp:∀{s s':Sds} {p:Nat},Grow s s'->Set' s p->Set' s' p:=λg ⟨v,hv⟩=>⟨v,g.keep _ _ hv⟩
 have g1:=grow1 s e.1 e.2;have g2:=grow1 (st1 s e.1 e.2) e.2 e.1;rcases h with h | h
 ·exact⟨kp (g1.trans g2) h,kp g2 (one s e.1 e.2 h2 h)⟩
 ·exact⟨one _ e.2 e.1 (by rw[g1.len];exact h1) (kp g1 h),kp (g1.trans g2) h⟩
theorem Set'.keep{s s':Sds}{p:Nat}(g:Grow s s')(h:Set' s p):Set' s' p:=let ⟨v,hv⟩:=h;⟨v,g.keep _ _ hv⟩
theorem DK:∀{es:EE} {s:Sds},(∀ e∈es,e.1<s.length/\e.2<s.length)->∀ e∈es,(Set' s e.1\/Set' s e.2)->Set' (rnd es s) e.1/\Set' (rnd es s) e.2
 | f::es,s,hn,e,he,h=>by
   have g:=Pp s f;rcases Ub.mp he with rfl | he
   ·obtain⟨a,b⟩:=MY (hn e (Uh ..)).1 (hn e (Uh ..)).2 h;exact⟨a.keep (growR es _),b.keep (growR es _)⟩
   ·exact DK (es:=es) (s:=st2 s f) (λx hx=>by rw[g.len];exact hn x (Uc _ hx)) e he (h.imp (·.keep g) (·.keep g))
noncomputable def bare(s:Sds):Nat:=(s.filter XW).length
theorem Ol(s:Sds):bare s<=s.length:=Vo _ _
theorem Dz:∀{s s':Sds},s'.length=s.length->(∀(p v:Nat),s[p]?=some (some v)->s'[p]?=some (some v))->bare s'<=bare s
 | [],[],_,_=>US _
 | x::s,y::s',hl,h=>by
   have ih:=Dz (s:=s) (s':=s') (by simpa using hl) (λp v hp=>by simpa using h (p+1) v (by simpa using hp));unfold bare at ih ⊢;cases x with
   | none=>
     cases y with
     | none=>simpa using ih
     | some v=>simp;omega
   | some u=>
     have:=h 0 u rfl;simp at this;subst this;simpa using ih
theorem CF:∀{s s':Sds} {q:Nat},s'.length=s.length->(∀(p v:Nat),s[p]?=some (some v)->s'[p]?=some (some v))->s[q]?=some none->(∃ v,s'[q]?=some (some v))->bare s'<bare s
 | x::s,y::s',q,hl,h,hq,hv=>by
   have ht:∀(p v:Nat),s[p]?=some (some v)->s'[p]?=some (some v):=λp v hp=>by simpa using h (p+1) v (by simpa using hp)
   cases q with
   | zero=>
     obtain⟨v,hv⟩:=hv;have e1:x=none:=by simpa using hq
     have e2:y=some v:=by simpa using hv
     subst e1 e2;have:=Dz (s:=s) (s':=s') (by simpa using hl) ht;unfold bare at this ⊢;simp;omega
   | succ q=>
     have ih:=CF (s:=s) (s':=s') (q:=q) (by simpa using hl) ht (by simpa using hq) (by simpa using hv);unfold bare at ih ⊢;cases x with
     | none=>
       cases y with
       | none=>simpa using ih
       | some v=>simp;omega
     | some u=>
       have:=h 0 u rfl;simp at this;subst this;simpa using ih
theorem at_some{s:Sds}{p:Nat}{v:Nat}:sAt s p=some v↔s[p]?=some (some v):=by
 unfold sAt;rw[UW];cases h:s[p]? with
 | none=>simp
 | some x=>simp
theorem IH{s s':Sds}(g:Grow s s'):∀(p v:Nat),s[p]?=some (some v)->s'[p]?=some (some v):=λp v h=>at_some.mp (g.keep p v (at_some.mpr h))
noncomputable def Closed(es:EE)(s:Sds):Prop:=Cl es (Set' s)
theorem EW{s:Sds}{p:Nat}(hp:p<s.length)(h:¬ Set' s p):s[p]?=some none:=by
 rw[UM hp];cases e:s[p] with
 | none=>rfl
 | some v=>exact absurd ⟨v,at_some.mpr (by rw[UM hp,e])⟩ h
theorem MZ{s:Sds}{p:Nat}(h:Set' s p):∃ v,s[p]?=some (some v):=let ⟨v,hv⟩:=h;⟨v,at_some.mp hv⟩
theorem Ma{es:EE}{s:Sds}(hn:∀ e∈es,e.1<s.length/\e.2<s.length)(h:¬ Closed es s):bare (rnd es s)<bare s:=by
 have g:=growR es s
 have:∃ e∈es,(Set' s e.1/\¬ Set' s e.2)\/(Set' s e.2/\¬ Set' s e.1):=by
  refine Classical.byContradiction λno=>h λe he=>?_;constructor
  ·intro a;exact Classical.byContradiction λb=>no ⟨e,he,.inl ⟨a,b⟩⟩
  ·intro a;exact Classical.byContradiction λb=>no ⟨e,he,.inr ⟨a,b⟩⟩
 obtain⟨e,he,q⟩:=this;have hb:=hn e he;rcases q with⟨a,b⟩ | ⟨a,b⟩
 ·exact CF g.len (IH g) (EW hb.2 b) (MZ (DK hn e he (.inl a)).2)
 ·exact CF g.len (IH g) (EW hb.1 b) (MZ (DK hn e he (.inr a)).1)
theorem Jk{s:Sds}{e:Nat×Nat}(h:Set' s e.1↔Set' s e.2):st2 s e=s:=by
 have one:∀(s:Sds) (a b:Nat),(Set' s a->Set' s b)->st1 s a b=s:=by
  intro s a b h;unfold st1;split
  ·rename_i v h1 h2;obtain⟨u,hu⟩:=h ⟨v,h1⟩;rw[hu]at h2;cases h2
  ·rfl
 unfold st2;rw[one s e.1 e.2 h.mp,one s e.2 e.1 h.mpr]
theorem DL:∀{es:EE} {s:Sds},Closed es s->rnd es s=s
 | [],_,_=>rfl
 | e::es,s,h=>by
   show rnd es (st2 s e)=s;rw[Jk (h e (Uh ..))];exact DL λf hf=>h f (Uc _ hf)
theorem CL{es:EE}{s:Sds}(hn:∀ e∈es,e.1<s.length/\e.2<s.length):∀ k,Closed es (rnds es k s)\/bare (rnds es k s)+k<=bare s
 | 0 => .inr (US _)
 | k+1=>by
   by_cases hc:Closed es (rnds es k s)
   ·exact .inl (by show Closed es (rnd es (rnds es k s));rw[DL hc];exact hc)
   ·rcases CL hn k with h | h
    ·exact absurd h hc
    ·have g:=growN es k s;have:=Ma (s:=rnds es k s) (λe he=>by rw[g.len];exact hn e he) hc;exact .inr (by show bare (rnd es (rnds es k s))+(k+1)<=bare s;omega)
theorem Mb{es:EE}{s:Sds}{n:Nat}(hl:s.length=n)(hn:∀ e∈es,e.1<n/\e.2<n):Closed es (rnds es n s):=by
 have hn':∀ e∈es,e.1<s.length/\e.2<s.length:=λe he=>by rw[hl];exact hn e he
 rcases CL hn' n with h | h
 ·exact h
 ·have:=Ol s;have h0:bare (rnds es n s)=0:=by omega
  have g:=growN es n s
  have full:∀ p,p<n->Set' (rnds es n s) p:=λp hp=>Classical.byContradiction λz=>by
   have e:=EW (by rw[g.len,hl];exact hp) z;have hm:=UO e;have:none∈(rnds es n s).filter XW:=Ve.mpr ⟨hm,rfl⟩;have:(rnds es n s).filter XW=[]:=Vk.mp h0
   simp_all
  exact λe he=>⟨λ_=>full _ (hn e he).2,λ_=>full _ (hn e he).1⟩
structure Way(n:Nat)(es:EE)(k:Nat)(s:Sds):Prop where
 len:s.length=n
 cl:Closed es s
 done:∀ p,p<k->Set' s p
 mark:∀ p v,sAt s p=some v->(marks n es).getD p 0<k
 two:∀ p v,sAt s p=some v->v<2
theorem way{n:Nat}{es:EE}(hn:∀ e∈es,e.1<n/\e.2<n):∀ k,k<=n->Way n es k (sidesTo n es k)
 | 0,_=>by
   have e:∀ p,sAt (Ue n none) p=none:=λp=>by
    unfold sAt;rw[UW,Vi];split<;>rfl
   have ns:∀ p,¬ Set' (Ue n none) p:=λp ⟨v,h⟩=>by rw[e]at h;cases h
   exact⟨by simp[sidesTo],λe _=>⟨λh=>absurd h (ns _),λh=>absurd h (ns _)⟩,λp h=>absurd h (W3 p),λp v h=>absurd ⟨v,h⟩ (ns p),λp v h=>absurd ⟨v,h⟩ (ns p)⟩
 | k+1,hk=>by
   have W:=way hn k (by omega);have M:Mk n (marks n es):=mk_marks (mk_range n) hn;show Way n es (k+1) (beg n es (sidesTo n es k) k);unfold beg;split
   ·rename_i z;generalize sidesTo n es k=s at W z;have hks:k<s.length:=by rw[W.len];omega
    have ns:¬ Set' s k:=λ⟨v,h⟩=>by rw[z]at h;cases h
    have hl:(s.set k (some 0)).length=n:=by simp[W.len]
    have g:=growN es n (s.set k (some 0))
    have ds:∀ p,p<k+1->Set' (s.set k (some 0)) p:=λp hp=>by
     by_cases e:k=p
     ·exact⟨0,by rw[sAt_set hks,iP e]⟩
     ·obtain⟨v,hv⟩:=W.done p (by omega);exact⟨v,by rw[sAt_set hks,iG e];exact hv⟩
    have hme:=marks_ends hn;refine⟨by rw[g.len,hl],Mb hl hn,λp hp=>(ds p hp).keep g,?_,?_⟩
    ·refine Oj (F:=λp _=>(marks n es).getD p 0<k+1) (λe he=>⟨λv h=>by rw[<-hme e he];exact h,λv h=>by rw[hme e he];exact h⟩) n λp v hp=>?_;rw[sAt_set hks]at hp;split at hp
     ·rename_i e;have hkm:k<(marks n es).length:=by rw[M.len];omega
      have:=M.le k hkm;rw[<-e];simp[Vp,hkm];omega
     ·have:=W.mark p v hp;omega
    ·refine Oj (F:=λ_ v=>v<2) (λe he=>⟨λv h=>by omega,λv h=>by omega⟩) n λp v hp=>?_;rw[sAt_set hks]at hp;split at hp
     ·cases hp;omega
     ·exact W.two p v hp
   ·rename_i z;refine⟨W.len,W.cl,λp hp=>?_,λp v h=>by have:=W.mark p v h;omega,W.two⟩;by_cases e:p=k
    ·subst e;cases h:sAt (sidesTo n es p) p with
     | none=>exact absurd h z
     | some v=>exact⟨v,h⟩
    ·exact W.done p (by omega)
theorem Jl{n:Nat}{es:EE}(hn:∀ e∈es,e.1<n/\e.2<n){k:Nat}(hk:k<n)(z:sAt (sidesTo n es k) k=none):(marks n es).getD k 0=k:=by
 have W:=way hn k (by omega);have M:Mk n (marks n es):=mk_marks (mk_range n) hn;have hkm:k<(marks n es).length:=by rw[M.len];omega
 have le:=M.le k hkm;have e:(marks n es).getD k 0=(marks n es)[k]:=by simp[Vp,hkm]
 rcases W5 (marks n es)[k] k with h | h
 ·have c:=(cl_marks hn W.cl hk).mpr (by rw[e];exact W.done _ h);obtain⟨v,hv⟩:=c;rw[z]at hv;cases hv
 ·rw[e];omega
theorem sides_uniq{n:Nat}{es:EE}(hn:∀ e∈es,e.1<n/\e.2<n){c:Nat->Nat}(h2:∀ p,p<n->c p<2)(hp:∀ e∈es,c e.1≠c e.2)(h0:∀ f,f<n->(marks n es).getD f 0=f->c f=0):
 ∀ k,k<=n->∀ p v,sAt (sidesTo n es k) p=some v->v=c p
 | 0,_,p,v,h=>by
   unfold sidesTo sAt at h;rw[UW,Vi]at h;split at h<;>cases h
 | k+1,hk,p,v,h=>by
   have ih:=sides_uniq hn h2 hp h0 k (by omega);have h':sAt (beg n es (sidesTo n es k) k) p=some v:=h;unfold beg at h';split at h'
   ·rename_i z;have W:=way hn k (by omega);have hks:k<(sidesTo n es k).length:=by rw[W.len];omega
    refine Oj (F:=λp v=>v=c p) (λe he=>?_) n (s:=(sidesTo n es k).set k (some 0)) (λq u hq=>?_) p v h'
    ·have a:=h2 e.1 (hn e he).1;have b:=h2 e.2 (hn e he).2;have d:=hp e he;exact⟨λv h=>by omega,λv h=>by omega⟩
    ·rw[sAt_set hks]at hq;split at hq
     ·rename_i e;cases hq;rw[<-e];exact(h0 k (by omega) (Jl hn (by omega) z)).symm
     ·exact ih q u hq
   ·exact ih p v h'
end Hue
namespace Rf
open PySem L2
section
variable{Δ:Nat->Sn}
noncomputable def Rc(i j:Nat):Stm:=(.iff (.and (.cmp .IsNot (.ix (.var 1) (.var i)) (.c .non)) (.cmp .Is (.ix (.var 1) (.var j)) (.c .non))) [(.put (.var 1) (.var j) (.op .Sub (.c (.int 1)) (.ix (.var 1) (.var i))))] [])
noncomputable def Tn:Stm:=(.loop (.tup (.cons (.nm 4) (.cons (.nm 5) .nil))) (.seq (.ix (.var 0) (.c (.int 1)))) [Rc 4 5,Rc 5 4])
noncomputable def Pq:Stm:=(.loop (.nm 3) (.rng1 (.ix (.var 0) (.c (.int 0)))) [Tn])
noncomputable def Re:Stm:=(.loop (.nm 2) (.rng1 (.ix (.var 0) (.c (.int 0)))) [(.iff (.cmp .Is (.ix (.var 1) (.var 2)) (.c .non)) [(.put (.var 1) (.var 2) (.c (.int 0))),Pq] [])])
noncomputable def To:Stm:=(.iff (.bi .any (.cons (.comp ["_law_one","_law_other"] ["_law_sides_here"] [1] (.tup (.cons (.nm 0) (.cons (.nm 1) .nil))) (.seq (.ix (.var 0) (.c (.int 1)))) .no (.cmp .Eq (.ix (.var 2) (.var 0)) (.ix (.var 2) (.var 1)))) .nil)) [(.ret (.c .non))] [])
noncomputable def E1:List Stm:=[(.asg (.nm 1) (.op .Mult (.lst (.cons (.c .non) .nil)) (.ix (.var 0) (.c (.int 0))))),Re,To,(.ret (.var 1))]
theorem EX{s:Hue.Sds}{p:Nat}(h:p<s.length):s[p]?=some (Hue.sAt s p):=by
 unfold Hue.sAt;rw[UW,UM h];rfl
structure One(S0 S:Sto)(l:Nat)(s:Hue.Sds):Prop where
 g:Gw S0 S
 l0:S0.length<=l
 at':S[l]?=some (.lst (optsS s))
theorem One.put{S0 S:Sto}{l:Nat}{s s':Hue.Sds}(h:One S0 S l s):One S0 (S.set l (.lst (optsS s'))) l s':=⟨h.g.put h.l0,h.l0,m9 h.at'⟩
theorem II{i j a b l:Nat}{ρ:EnvS}{s:Hue.Sds}{S0 S:Sto}{D:EndsS}(h1:ρ[1]?=some (some (.loc l)))(hi:ρ[i]?=some (some (.int a)))(hj:ρ[j]?=some (some (.int b)))(H:One S0 S l s)(ha:a<s.length)(hb:b<s.length)(two:∀ p v,Hue.sAt s p=some v->v<2)
 (q:∀ S',One S0 S' l (Hue.st1 s a b)->D.nx ρ S'):wSt Δ (Rc i j) D ρ S:=by
 have ga:=EX ha;have gb:=EX hb;have two:=two a;unfold Hue.st1 at q;cases hx:Hue.sAt s a with
 | none=>
   rw[hx]at ga q;exact⟨_,h1,_,hi,_,_,c5 H.at',f9 (g9 ga),.inl ⟨rfl,_,rfl,ifF rfl (q _ H)⟩⟩
 | some v=>
   rw[hx]at ga q two;have hv:=two v rfl;refine⟨_,h1,_,hi,_,_,c5 H.at',f9 (g9 ga),.inl ⟨rfl,_,rfl,ifT rfl ?_⟩⟩;cases hy:Hue.sAt s b with
   | some u=>
     rw[hy]at gb q;exact⟨_,h1,_,hj,_,_,c5 H.at',f9 (g9 gb),.inl ⟨rfl,_,rfl,ifF rfl (q _ H)⟩⟩
   | none=>
     rw[hy]at gb q;refine⟨_,h1,_,hj,_,_,c5 H.at',f9 (g9 gb),.inl ⟨rfl,_,rfl,ifT rfl ?_⟩⟩;refine⟨_,h1,_,hi,_,_,c5 H.at',f9 (g9 ga),_,h1,_,hj,_,_,H.at',DI (by rw[Ar];exact hb),?_⟩
     have e2:(optsS s).set b ((λ(i j:Int)=>SV.int (i - j)) 1 v)=optsS (s.set b (some (1 - v))):=by
      show(optsS s).set _ (.int ((1:Int) - (v:Int)))=_;rw[show(1:Int) - (v:Int)=((1 - v:Nat):Int) by omega,As]
     rw[e2];exact q _ H.put
noncomputable def Two(s:Hue.Sds):Prop:=∀ p v,Hue.sAt s p=some v->v<2
theorem Two.st1{s:Hue.Sds}{a b:Nat}(h:Two s):Two (Hue.st1 s a b):=Hue.all1 (F:=λ_ v=>v<2) h λv _=>by omega
theorem Two.rnd{es:EE}{s:Hue.Sds}(h:Two s):Two (Hue.rnd es s):=Hue.allR (F:=λ_ v=>v<2) h λe _=>⟨λv _=>by omega,λv _=>by omega⟩
theorem Two.rnds{es:EE}:∀(k:Nat) {s:Hue.Sds},Two s->Two (Hue.rnds es k s)
 | 0,_,h=>h
 | k+1,_,h=>(Two.rnds k h).rnd
theorem Mc{es:EE}{i:Nat}{e:Nat×Nat}{s:Hue.Sds}(he:es[i]?=some e):Hue.st2 (Hue.rnd (es.take i) s) e=Hue.rnd (es.take (i+1)) s:=by
 rw[VP,he];unfold Hue.rnd;rw[List.foldl_append];rfl
theorem Om(hΔ:∀ f,MonoN (Δ f)){n l:Nat}{es:EE}{s:Hue.Sds}{S0 S:Sto}{D:EndsS}{o2 o3 o4 o5:Option SV}(hen:∀ e∈es,e.1<e.2/\e.2<n)(H:One S0 S l s)(hl:s.length=n)(two:Two s)
 (q:∀(o4 o5:Option SV) (S':Sto),One S0 S' l (Hue.rnd es s)->D.nx [some (g0 n es),some (.loc l),o2,o3,o4,o5] S'):wSt Δ Tn D [some (g0 n es),some (.loc l),o2,o3,o4,o5] S:=by
 refine⟨_,rfl,_,_,rfl,rfl,_,rfl,?_⟩;refine AM (l6 hΔ _) (λi ρ S'=>∃ o4 o5,ρ=[some (g0 n es),some (.loc l),o2,o3,o4,o5]/\One S0 S' l (Hue.rnd (es.take i) s)) ⟨o4,o5,rfl,H⟩ (λ_ _ _ _=>trivial) ?_ ?_
 ·rintro i x ρ S' hx ⟨p4,p5,rfl,H'⟩;obtain⟨e,he,rfl⟩:=Bt hx;have hee:=hen e (UO he);have l1:(Hue.rnd (es.take i) s).length=n:=by rw[(Hue.growR _ s).len,hl]
  have t1:Two (Hue.rnd (es.take i) s):=two.rnd;have l2:(Hue.st1 (Hue.rnd (es.take i) s) e.1 e.2).length=n:=by rw[(Hue.grow1 _ _ _).len,l1]
  refine II (a:=e.1) (b:=e.2) rfl rfl rfl H' (by omega) (by omega) t1 λS2 H2=>?_;refine II (a:=e.2) (b:=e.1) rfl rfl rfl H2 (by omega) (by omega) t1.st1 λS3 H3=>?_;refine⟨_,_,rfl,?_⟩;rw[<-Mc he];exact H3
 ·rintro ρ S' ⟨p4,p5,rfl,H'⟩;rw[UQ,WL]at H';exact q _ _ _ H'
theorem Md(hΔ:∀ f,MonoN (Δ f)){n l:Nat}{es:EE}{s:Hue.Sds}{S0 S:Sto}{D:EndsS}{o2 o3 o4 o5:Option SV}(hen:∀ e∈es,e.1<e.2/\e.2<n)(hn:n<=1000)(H:One S0 S l s)(hl:s.length=n)(two:Two s)
 (q:∀(o3 o4 o5:Option SV) (S':Sto),One S0 S' l (Hue.rnds es n s)->D.nx [some (g0 n es),some (.loc l),o2,o3,o4,o5] S'):wSt Δ Pq D [some (g0 n es),some (.loc l),o2,o3,o4,o5] S:=by
 refine⟨_,rfl,_,_,rfl,rfl,_,rfl,⟨by omega,by omega⟩,?_⟩;refine AM (l6 hΔ _) (λi ρ S'=>∃ o3 o4 o5,ρ=[some (g0 n es),some (.loc l),o2,o3,o4,o5]/\One S0 S' l (Hue.rnds es i s)) ⟨o3,o4,o5,rfl,H⟩ (λ_ _ _ _=>trivial) ?_ ?_
 ·rintro i x ρ S' hx ⟨p3,p4,p5,rfl,H'⟩;refine Om hΔ hen H' (by rw[(Hue.growN es i s).len,hl]) (two.rnds i) λo4 o5 S2 H2=>⟨_,_,_,rfl,H2⟩
 ·rintro ρ S' ⟨p3,p4,p5,rfl,H'⟩;rw[v5,show((n:Int) - 0).toNat=n by omega]at H';exact q _ _ _ _ H'
theorem Rg(bs:List Bool):blS (bs.map SV.bl)=some bs:=by
 induction bs with
 | nil=>rfl
 | cons b bs ih=>simp[blS,ih]
noncomputable def Ba(s:Sn):Prop:=∀{n:Nat} {es:EE} {S:Sto} {Q:QE},(∀ e∈es,e.1<e.2/\e.2<n)->es.length<=1000->n<=1000->
 ((∀ e∈es,(Hue.sidesTo n es n)[e.1]?≠(Hue.sidesTo n es n)[e.2]?)->∀(l:Nat) (S':Sto),One S S' l (Hue.sidesTo n es n)->Q (.loc l) S')->
 ((∃ e∈es,(Hue.sidesTo n es n)[e.1]?=(Hue.sidesTo n es n)[e.2]?)->∀ S',Gw S S'->Q .non S')->s [g0 n es] S Q
theorem Fc(hΔ:∀ f,MonoN (Δ f)){D:Df}(hb:D.body=E1)(hN:D.N.length=6)(hp:D.ps.length=1):Ba (j6 Δ D):=by
 intro n es S Q hen hel hn q1 q2;have hn':∀ e∈es,e.1<n/\e.2<n:=λe he=>by have:=hen e he;omega
 unfold j6;rw[hb,hN];refine⟨hp.symm,by show 1<=big;decide,_,rfl,_,_,rfl,rfl,_,c9,⟨by omega,by omega⟩,by simp;show _<=100000;omega,?_⟩;rw[EV];generalize ha:(S++[SO.lst [SV.non]]).length=l;have H0:One S (S++[SO.lst [SV.non]]++[SO.lst (optsS (Ue n none))]) l (Hue.sidesTo n es 0):=⟨(Gw.refl S).push.push,by rw[<-ha];simp,by rw[<-ha];exact c9⟩
 generalize S++[SO.lst [SV.non]]++[SO.lst (optsS (Ue n none))]=S1 at *;refine⟨_,rfl,_,_,rfl,rfl,_,rfl,⟨by omega,by omega⟩,?_⟩;refine AM (l6 hΔ _) (λi ρ S'=>∃ o2 o3 o4 o5,ρ=[some (g0 n es),some (.loc l),o2,o3,o4,o5]/\One S S' l (Hue.sidesTo n es i)) ⟨none,none,none,none,rfl,H0⟩ (λ_ _ _ _=>trivial) ?_ ?_
 ·rintro i x ρ S' hx ⟨p2,p3,p4,p5,rfl,H⟩;obtain⟨rfl,hi⟩:=A8 hx;rw[Vw]at hi ⊢;have hi:i<n:=by omega
  have W:=Hue.way hn' i (by omega);have g:=EX (s:=Hue.sidesTo n es i) (p:=i) (by rw[W.len];exact hi);have key:∀ S',One S S' l (Hue.beg n es (Hue.sidesTo n es i) i)->One S S' l (Hue.sidesTo n es (i+1)):=λ_ h=>h;unfold Hue.beg at key;cases hx:Hue.sAt (Hue.sidesTo n es i) i with
  | some v=>
    rw[hx]at g;rw[iG (by rw[hx];exact nofun)]at key;exact⟨_,rfl,_,rfl,_,_,c5 H.at',f9 (g9 g),.inl ⟨rfl,_,rfl,ifF rfl ⟨_,_,_,_,rfl,key _ H⟩⟩⟩
  | none=>
    rw[hx]at g;rw[iP hx]at key;refine⟨_,rfl,_,rfl,_,_,c5 H.at',f9 (g9 g),.inl ⟨rfl,_,rfl,ifT rfl ?_⟩⟩;refine⟨_,rfl,_,rfl,_,_,H.at',DI (by rw[Ar,W.len];exact hi),?_⟩;rw[show(optsS (Hue.sidesTo n es i)).set i (.int 0)=optsS ((Hue.sidesTo n es i).set i (some 0)) from As (v:=0)];refine Md hΔ hen hn H.put (by rw[Uy,W.len]) ?_ λo3 o4 o5 S2 H2=>⟨_,_,_,_,rfl,key _ H2⟩
    intro p v h;rw[Hue.sAt_set (by rw[W.len];exact hi)]at h;split at h
    ·have:=oj h;omega
    ·exact W.two p v h
 ·rintro ρ S' ⟨p2,p3,p4,p5,rfl,H⟩;rw[v5,show((n:Int) - 0).toNat=n by omega]at H;have W:=Hue.way hn' n (US n);refine⟨_,rfl,_,_,rfl,rfl,_,rfl,?_⟩;generalize Hue.sidesTo n es n=s at *;refine m5 (t7 hΔ _).2 (c6 hΔ _).1 (λi ys S2=>S2=S'/\∃ bs:List Bool,ys=bs.map SV.bl/\bs.length=i/\(bs.any id=true↔∃ j e,j<i/\es[j]?=some e/\s[e.1]?=s[e.2]?)) ⟨rfl,[],rfl,rfl,by simp⟩ (λ_ _ _ _=>trivial) ?_ ?_
  ·rintro i x ys S2 hx ⟨rfl,bs,rfl,hbl,hbs⟩;obtain⟨e,he,rfl⟩:=Bt hx;have hi:=(gM he).1;have hee:=hen e (UO he);obtain⟨u,hu⟩:=W.done e.1 (by omega);obtain⟨v,hv⟩:=W.done e.2 (by omega);have hu:=Hue.at_some.mp hu;have hv:=Hue.at_some.mp hv;refine⟨_,rfl,_,rfl,_,_,c5 H.at',f9 (g9 hu),_,rfl,_,rfl,_,_,c5 H.at',f9 (g9 hv),by rw[UQ];show _<100000;omega,rfl,bs++[decide ((u:Int)=v)],by rw[VI];rfl,by rw[UR,hbl];rfl,?_⟩;rw[List.any_append,V8,hbs]
   have e1:[decide ((u:Int)=v)].any id=true↔s[e.1]?=s[e.2]?:=by
    rw[hu,hv];simp[VC]
   rw[e1];constructor
   ·rintro(⟨j,e',h1,h2,h3⟩ | h)
    ·exact⟨j,e',by omega,h2,h3⟩
    ·exact⟨i,e,by omega,he,h⟩
   ·rintro⟨j,e',h1,h2,h3⟩;by_cases hji:j=i
    ·subst hji;rw[he]at h2;have:=oj h2;subst this;exact .inr h3
    ·exact .inl ⟨j,e',by omega,h2,h3⟩
  ·rintro ys S2 ⟨rfl,bs,rfl,hbl,hbs⟩;rw[UQ]at hbs;refine⟨_,bs,nofun,c5 c9,Rg bs,_,rfl,ifB (λh=>?_) (λh=>?_)⟩
   ·obtain⟨j,e,_,h2,h3⟩:=hbs.mp h;exact q2 ⟨e,UO h2,h3⟩ _ H.g.push
   ·refine⟨_,rfl,q1 (λe he z=>?_) _ _ ⟨H.g.push,H.l0,e7 H.at'⟩⟩;obtain⟨j,hj,he'⟩:=Wn he;rw[hbs.mpr ⟨j,e,hj,by rw[UM hj,he'],z⟩]at h;cases h
end
end Rf
namespace L2
open PySem PySem.Spec PyProof.Rows
structure Sz(k b:Nat)(d:PyData):Prop where
 dp:d.depth<=k
 bk:d.bulk<=b
 sh:d.showable=true
 lf:d.leavesShort 100=true
theorem Sz.mono{k b k' b':Nat}{d:PyData}(h:Sz k b d)(hk:k<=k')(hb:b<=b'):Sz k' b' d:=⟨Ux h.dp hk,Ux h.bk hb,h.sh,h.lf⟩
theorem Sz.fit{k b:Nat}{d:PyData}(h:Sz k b d)(hk:k<=40)(hb:b<=100000):Fit d:=⟨h.sh,by
 have:=PyData.shown_le_bulk 100 (by decide) d h.lf;have h2:=h.bk;rw[ZT];omega,Ux h.dp hk⟩
structure SzA(k b n:Nat)(ds:List PyData):Prop where
 dp:PyData.depthAll ds<=k
 bk:PyData.bulkAll ds<=n * (b+1)
 sh:PyData.showableAll ds=true
 lf:PyData.leavesShortAll 100 ds=true
theorem SzA.nil{k b:Nat}:SzA k b 0 []:=⟨by simp[PyData.depthAll],by simp[PyData.bulkAll],by simp[PyData.showableAll],by simp[PyData.leavesShortAll]⟩
theorem SzA.cons{k b n:Nat}{d:PyData}{ds:List PyData}(h:Sz k b d)(h':SzA k b n ds):SzA k b (n+1) (d::ds):=by
 refine⟨?_,?_,?_,?_⟩
 ·simp only[PyData.depthAll];have:=h.dp;have:=h'.dp;omega
 ·simp only[PyData.bulkAll];have:=h.bk;have:=h'.bk;rw[YE];omega
 ·simp only[PyData.showableAll,h.sh,h'.sh];rfl
 ·simp only[PyData.leavesShortAll,h.lf,h'.lf];rfl
theorem SzA.list{k b n:Nat}{ds:List PyData}(h:SzA k b n ds):Sz (k+1) (n * (b+1)) (.list ds):=⟨by simp only[PyData.depth];have:=h.dp;omega,by simp only[PyData.bulk];exact h.bk,by simp only[PyData.showable];exact h.sh,by simp only[PyData.leavesShort];exact h.lf⟩
theorem SzA.tuple{k b n:Nat}{ds:List PyData}(h:SzA k b n ds):Sz (k+1) (n * (b+1)) (.tuple ds):=⟨by simp only[PyData.depth];have:=h.dp;omega,by simp only[PyData.bulk];exact h.bk,by simp only[PyData.showable];exact h.sh,by simp only[PyData.leavesShort];exact h.lf⟩
noncomputable def DN(k b:Nat)(H:Hp)(x:V):Prop:=∃ d,Dat H x d/\Sz k b d
theorem DN.int{k b:Nat}{H:Hp}{i:Int}(h:i.natAbs.log2<90):DN k b H (.int i):=⟨.int i,by unfold Dat;rfl,by simp[PyData.depth],by simp[PyData.bulk],by simp only[PyData.showable,dQ];omega,by
 have:=int_text_length_le (a:=i) (k:=90) (by decide) h;simp only[PyData.leavesShort,PyData.shown];refine decide_eq_true ?_;show(Str.ofString (toString i)).length<=100;rw[PySem.ofString_length];omega⟩
end L2
namespace Rf
open PySem L2
theorem IJ{n:Nat}{es:EE}{sd bk:List (Option Nat)}{dep rt:Nat->Nat}(F:Full n es sd bk dep rt){α:Type}(g:Nat->α)(hg:∀ e∈es,g e.1=g e.2):∀(d p:Nat),dep p=d->p<n->rt p<n/\dep (rt p)=0/\g (rt p)=g p
 | d,p,hd,hp=>by
   have hpl:p<bk.length:=by rw[F.gs.lb];exact hp
   have hs:IsSet sd p:=⟨_,F.all p hp⟩
   cases hx:bk[p] with
   | none=>
     obtain⟨h1,h2⟩:=F.gs.root p hs (by rw[UM hpl,hx]);rw[h1];exact⟨hp,h2,rfl⟩
   | some j=>
     obtain⟨e,h1,h2,h3,⟨v,h4⟩,h5,h6⟩:=F.gs.up p j (by rw[UM hpl,hx]);have hl:=(gM h4).1;rw[F.gs.ls]at hl;obtain⟨k1,k2,k3⟩:=IJ F g hg (d - 1) (farE e p) (by omega) hl;rw[h6]at k1 k2 k3;refine⟨k1,k2,k3.trans ?_⟩;have he:=hg e (UO h1);unfold farE;rcases h2 with h | h
     ·rw[iP h,h,he]
     ·by_cases z:p=e.1
      ·rw[iP z,z,he]
      ·rw[iG z,h,he]
termination_by d=>d
decreasing_by omega
theorem HE{n:Nat}{es:EE}{sd bk:List (Option Nat)}{dep rt:Nat->Nat}(F:Full n es sd bk dep rt){ms:List Nat}(M:Ms n es es.length ms){f:Nat}(hf:ms[f]?=some f):dep f=0:=by
 have hfn:f<n:=by rw[<-M.len];exact(gM hf).1
 obtain⟨h1,h2,h3⟩:=IJ F (λp=>ms[p]?) (λe he=>by
  obtain⟨j,hj,he'⟩:=Wn he;exact M.one j e hj (by rw[UM hj,he'])) _ f rfl hfn
 have h4:=M.le _ _ (h3.trans hf);have h5:=F.gs.lo f ⟨_,F.all f hfn⟩;have:rt f=f:=by omega
 rw[this]at h2;exact h2
theorem Fd{n:Nat}{es:EE}(hn:∀ e∈es,e.1<n/\e.2<n):Ms n es es.length (Hue.marks n es):=by
 have M:Hue.Mk n (Hue.marks n es):=Hue.mk_marks (Hue.mk_range n) hn
 have g:∀ p,p<n->(Hue.marks n es)[p]?=some ((Hue.marks n es).getD p 0):=λp hp=>by
  rw[UW,UM (by rw[M.len];exact hp)];rfl
 refine⟨M.len,λp v h=>?_,λj e _ he=>?_⟩
 ·obtain⟨h1,h2⟩:=gM h;rw[<-h2];exact M.le p h1
 ·have he:=UO he;rw[g _ (hn e he).1,g _ (hn e he).2,Hue.marks_ends hn e he]
theorem IK{es:EE}{c:Nat->Nat}(hc:∀ e∈es,c e.1<2/\c e.2<2/\c e.1≠c e.2):∀{ts:List Nat} {p q:Nat} {vs:List Nat},Pth es ts p q vs->(c p+ts.length) % 2=c q % 2
 | [],p,q,vs,h=>by obtain⟨rfl,_⟩:=h;rfl
 | t::ts,p,q,vs,h=>by
   obtain⟨e,vs',h1,h2,_,h3⟩:=h;have ih:=IK hc h3;have he:=hc e (UO h1);rw[VG];unfold farE at ih;rcases h2 with h | h
   ·rw[iP h]at ih;rw[h];omega
   ·by_cases z:p=e.1
    ·rw[iP z]at ih;rw[z];omega
    ·rw[iG z]at ih;rw[h];omega
theorem Oo{n:Nat}{es:EE}{sd bk:List (Option Nat)}{dep rt:Nat->Nat}(F:Full n es sd bk dep rt)(hn:n<=249)(hen:∀ e∈es,e.1<e.2/\e.2<n){j:Nat}{e:Nat×Nat}{us ds:List Nat}(he:es[j]?=some e)(hl:dep e.1 % 2=dep e.2 % 2)
 (C:Cut (upW es bk (dep e.1) e.1) (upW es bk (dep e.2) e.2) us ds):Odd es (us++ds.reverse++[j]):=by
 obtain⟨vs,P,nd,h3,ho⟩:=MW F (by omega) hen he hl C
 have lt:∀{ts:List Nat} {p q:Nat} {vs:List Nat},Pth es ts p q vs->∀ t∈ts,t<es.length:=by
  intro ts
  induction ts with
  | nil=>intro _ _ _ _ t ht;exact nomatch ht
  | cons t ts ih=>
    rintro p q vs ⟨e,vs',h1,_,_,h2⟩ u hu;rcases Ub.mp hu with rfl | hu
    ·exact(gM h1).1
    ·exact ih h2 u hu
 refine⟨lt P,?_,h3,ho,_,vs,P,nd⟩;obtain⟨cm,ca,cb⟩:=C.ex;have l1:=BM es bk (dep e.1) e.1;have l2:=BM es bk (dep e.2) e.2;have d1:=(F.gs.tr (by omega)).few e.1;have d2:=(F.gs.tr (by omega)).few e.2;have hee:=hen e (UO he);have k1:=F.gs.low e.1 ⟨_,F.all e.1 (by omega)⟩;have k2:=F.gs.low e.2 ⟨_,F.all e.2 hee.2⟩;have k3:=WG (p:=Vd) (l:=sd);rw[F.gs.ls]at k3;rw[ca,UR]at l1;rw[cb,UR]at l2;rw[UR,UR,Vv,VZ];omega
noncomputable def c8(es:EE)(t:Nat):Nat×Nat:=es.getD t (0,0)
theorem p8{es:EE}{t:Nat}(h:t<es.length):es[t]?=some (c8 es t):=by
 unfold c8;rw[UW,UM h];rfl
section
variable{Δ:Nat->Sn}
theorem i9{D:EndsS}{ρ:EnvS}{S:Sto}(h:D.nx ρ S):wSs Δ [] D ρ S:=h
noncomputable def Fe(k:Nat):List Stm:=[(.asg (.tup (.cons (.nm 1) (.cons (.nm 2) .nil))) (.call k (.cons (.var 0) .nil))),(.iff (.cmp .Eq (.var 1) (.c (.str "ring"))) [.no] []),(.ret (.var 2))]
end
end Rf
namespace Hue
end Hue
namespace Rf
open PySem L2
theorem A9{xs:List Nat}{i:Nat}{x:SV}(h:(natS xs)[i]?=some x):∃ j,xs[i]?=some j/\x = .int j:=by
 unfold natS at h;rw[UZ]at h;cases hx:xs[i]? with
 | none=>rw[hx]at h;cases h
 | some j=>rw[hx]at h;exact⟨j,rfl,(oj h).symm⟩
theorem HF(p:Nat)(xs:List Nat):inS (.int p) (natS xs)=decide (p∈xs):=by
 rw[VR,dQ];unfold inS natS;rw[Xn,VL];constructor
 ·rintro⟨a,ha,h⟩;have h:((a:Int) == (p:Int))=true:=h;rw[beq_iff_eq]at h;have:=VC.mp h;rw[<-this];exact ha
 ·intro h;exact⟨p,h,by show((p:Int) == (p:Int))=true;simp⟩
end Rf
namespace Hue
end Hue
namespace Rf
open PySem L2
theorem Ff(P:Nat->Bool)(i:Nat):(Uj (i+1)).filter P=(Uj i).filter P++if P i=true then [i] else []:=by
 rw[XG,WV,We];cases P i<;>rfl
theorem CY(P:Nat->Bool)(i:Nat):((Uj i).filter P).length<=i:=by
 have:=Vo P (Uj i)
 rwa [VY]at this
structure Sdd(n:Nat)(es:EE)(sd:Nat->Nat):Prop where
 en:∀ e∈es,e.1<e.2/\e.2<n
 two:∀ p,sd p<2
 ne:∀ e∈es,sd e.1≠sd e.2
theorem EY:∀(xs:List Nat),F0 (natS xs)=some (xs.map λ(i:Nat)=>(i:Int))
 | []=>rfl
 | x::xs=>by
   show(F0 (natS xs)).map (((x:Nat):Int)::·)=_;rw[EY xs];rfl
noncomputable def iN(xs:List Nat):List Int:=xs.map λ(i:Nat)=>(i:Int)
section
variable{Δ:Nat->Sn}
theorem Op(xs:List Nat):(iN xs).map SV.int=natS xs:=by unfold iN natS;rw[V9];rfl
structure Web2(n:Nat)(es:EE):Prop where
 en:∀ e∈es,e.1<e.2/\e.2<n
 len:es.length<=1000
 few:n<=60
 two:∃ c:Nat->Nat,(∀ p,c p<2)/\∀ e∈es,c e.1≠c e.2
end
theorem Fg(xs:List Nat):EF (natS xs) (natS xs)=true:=by
 unfold EF natS;simp only[beq_self_eq_true,Y9];rw[Uq];intro p hp;rw[YA]at hp;obtain⟨i,_,rfl⟩:=VH.mp hp;simp[eqF]
theorem Oq{ns:List Int}(nd:ns.Nodup):CN ns=ns:=by
 have go:∀ k,k<=ns.length->CN (ns.take k)=ns.take k:=by
  intro k
  induction k with
  | zero=>intro _;rfl
  | succ k ih=>
    intro hk;have hkl:k<ns.length:=by omega
    rw[VP,UM hkl];show CN (ns.take k++[ns[k]])=ns.take k++[ns[k]];rw[Ja,ih (by omega)];unfold PyProof.Rows.step_dedup;rw[iG];rw[VL];rintro⟨x,hx,hb⟩;have hb:x=ns[k]:=by simpa using hb
    obtain⟨j,hj⟩:=VQ hx
    have hjl:j<k:=by
     have:=(gM hj).1;rw[VJ]at this;omega
    rw[Ww hjl]at hj;have:=(W0.mp nd) j k (by omega) hkl hjl;rw[(gM hj).2]at this;exact this hb
 have:=go ns.length (US _)
 rwa [WL]at this
structure Norm(n:Nat)(es:EE)(s:List (Option Nat)):Prop where
 len:s.length=n
 all:∀ p,p<n->∃ v,v<2/\s[p]?=some (some v)
 un:∀ e∈es,s[e.1]?≠s[e.2]?
 zero:∀ f,f<n->(Hue.marks n es)[f]?=some f->s[f]?=some (some 0)
theorem Jm{n:Nat}{es:EE}{s s':List (Option Nat)}(hn:∀ e∈es,e.1<n/\e.2<n)(a:Norm n es s)(b:Norm n es s'):s=s':=by
 refine Wu λp=>?_;by_cases hp:p<n
 ·have M:Hue.Mk n (Hue.marks n es):=Hue.mk_marks (Hue.mk_range n) hn;have hpl:p<(Hue.marks n es).length:=by rw[M.len];exact hp
  refine(Hue.cl_marks (C:=λp=>s[p]?=s'[p]?) hn (λe he=>?_) hp).mpr ?_
  ·obtain⟨h1,h2⟩:=hn e he;obtain⟨v1,w1,x1⟩:=a.all _ h1;obtain⟨v2,w2,x2⟩:=a.all _ h2;obtain⟨v3,w3,x3⟩:=b.all _ h1;obtain⟨v4,w4,x4⟩:=b.all _ h2;have u:=a.un e he;have u':=b.un e he;rw[x1,x2]at u;rw[x3,x4]at u';show s[e.1]?=s'[e.1]?↔s[e.2]?=s'[e.2]?;rw[x1,x2,x3,x4];simp only[YK.injEq,ne_eq]at u u' ⊢;omega
  ·have hm:(Hue.marks n es).getD p 0=(Hue.marks n es)[p]:=by rw[UW,UM hpl];rfl
   have hmn:(Hue.marks n es)[p]<n:=Vh (M.le p hpl) hp;show s[(Hue.marks n es).getD p 0]?=s'[(Hue.marks n es).getD p 0]?;rw[hm,a.zero _ hmn (M.fix p hpl),b.zero _ hmn (M.fix p hpl)]
 ·rw[Vn (by rw[a.len];omega),Vn (by rw[b.len];omega)]
theorem Jn{n:Nat}{es:EE}{sd bk:List (Option Nat)}{dep rt:Nat->Nat}(F:Full n es sd bk dep rt)(hen:∀ e∈es,e.1<e.2/\e.2<n)(h:∀ e∈es,dep e.1 % 2≠dep e.2 % 2):Norm n es sd:=by
 have hn:∀ e∈es,e.1<n/\e.2<n:=λe he=>by have:=hen e he;omega
 refine⟨F.gs.ls,λp hp=>⟨_,Y4 _ (by decide),F.all p hp⟩,λe he=>?_,λf hf hm=>?_⟩
 ·rw[F.all _ (hn e he).1,F.all _ (hn e he).2];exact λz=>h e he (oj (oj z))
 ·rw[F.all f hf,HE F (Fd hn) hm]
open Classical in
noncomputable def sdF(n:Nat)(es:EE):List (Option Nat):=if h:∃ s,Norm n es s then h.choose else []
theorem Rh{n:Nat}{es:EE}{s:List (Option Nat)}(hn:∀ e∈es,e.1<n/\e.2<n)(N:Norm n es s):sdF n es=s:=by
 have h:∃ s,Norm n es s:=⟨s,N⟩
 unfold sdF;rw[dif_pos h];exact Jm hn h.choose_spec N
theorem Mf{n:Nat}{es:EE}{c:Nat->Nat}(W:Sdd n es c):∀ ts,Odd es ts->False:=λts O=>by
 obtain⟨p,vs,P,_⟩:=O.ex;have:=IK (c:=c) (λe he=>⟨W.two _,W.two _,W.ne e he⟩) P;have h2:=O.odd;omega
section
variable{Δ:Nat->Sn}
noncomputable def DM(s:Sn):Prop:=∀{n:Nat} {es:EE} {S:Sto} {Q:QE},(∀ e∈es,e.1<e.2/\e.2<n)->es.length<=5000->n<=249->(∀ ts,Odd es ts->False)->
 (∀(l:Nat) (S':Sto),Norm n es (sdF n es)->One S S' l (sdF n es)->Q (.loc l) S')->s [g0 n es] S Q
theorem Jo{k:Nat}(h2:MU (Δ k)){D:Df}(hb:D.body=Fe k)(hN:D.N.length=3)(hp:D.ps.length=1):DM (j6 Δ D):=by
 intro n es S Q hen hel hn hno q;unfold j6;rw[hb,hN];refine⟨hp.symm,_,rfl,h2 hen hel (by omega) (λsd bk dep rt a S' F hd G ha hSa=>?_) (λsd bk dep rt j e us ds a S' F he hd C G ha hSa=>(hno _ (Oo F hn hen he hd C)).elim)⟩;refine⟨_,rfl,_,rfl,ifF (decide_eq_false (by decide)) ⟨_,rfl,?_⟩⟩;have N:=Jn F hen hd;have e1:=Rh (λe he=>by have:=hen e he;omega) N;exact q a S' (by rw[e1];exact N) ⟨G,ha,by rw[e1];exact hSa⟩
end
end Rf
namespace Hue
end Hue
namespace Rf
noncomputable def hu(cs:List Nat)(t:Nat):Nat:=cs.getD t 0
open PySem L2
theorem DO{f:SV->Option PyData}{k b:Nat}:∀{xs:List SV},(∀ y∈xs,∃ d,f y=some d/\Sz k b d)->∃ ds,xs.mapM f=some ds/\SzA k b xs.length ds
 | [],_=>⟨[],rfl,.nil⟩
 | x::xs,h=>by
   obtain⟨d,hd,hz⟩:=h x (Uh ..);obtain⟨ds,hs,hzs⟩:=DO (xs:=xs) λy hy=>h y (Uc _ hy);exact⟨d::ds,by rw[XS,hd,hs];rfl,.cons hz hzs⟩
theorem Os{i:Int}(h0:-1000000000000000000000<=i)(h1:i<=1000000000000000000000):i.natAbs.log2<90:=by
 by_cases z:i.natAbs=0
 ·rw[z];decide
 ·exact(Nat.log2_lt z).mpr (Vh (show i.natAbs<=1000000000000000000000 by omega) (by decide))
theorem UJ{k b:Nat}{i:Int}(h:-1000000000000000000000<=i/\i<=1000000000000000000000):Sz k b (.int i):=by
 obtain⟨d,hd,z⟩:=DN.int (k:=k) (b:=b) (H:=λ_=>none) (i:=i) (Os h.1 h.2);unfold Dat at hd;cases d with
 | int j=>cases hd;exact z
 | list _=>obtain⟨_,_,h,_⟩:=hd;cases h
 | tuple _=>obtain⟨_,_,h,_⟩:=hd;cases h
 | dict _=>exact hd.elim
 | _=>cases hd
section
variable{Δ:Nat->Sn}
theorem DP(hΔ:∀ f,MonoN (Δ f)){e:Ex}{keep:Sto->Prop}{g:Tg}{ρ:EnvS}{Q:List SV->Sto->Prop}(f:Nat->Bool){xs:List SV}{S:Sto}(hl:xs.length<=1000)(hk:∀ S',Gw S S'->keep S')
 (hs:∀(i:Nat) (x:SV) (S':Sto),xs[i]?=some x->Gw S S'->wTg g x ρ λρ2=>(wEx Δ e).1 ρ2 S' λy S2=>y = .bl (f i)/\Gw S S2)
 (q:∀ S',Gw S S'->Q ((Uj xs.length).map λi => .bl (f i)) S'):GU keep g (wEo Δ .no).2 (wEx Δ e).1 ρ Q xs [] S:=by
 refine m5 (t7 hΔ _).2 (c6 hΔ _).1 (λi ys S'=>Gw S S'/\ys=(Uj i).map λi => .bl (f i)) ⟨Gw.refl S,rfl⟩ (λ_ _ _ h=>hk _ h.1) ?_ ?_
 ·rintro i x ys S' hx ⟨G,rfl⟩;have hi:=(gM hx).1;refine w9 g (λρ2 h=>?_) (hs i x S' hx G);refine(c6 hΔ e).1 _ _ _ _ (λy S2 h=>⟨by rw[UQ,VY];show _<100000;omega,h.2,?_⟩) h;rw[h.1,XG,VI];rfl
 ·rintro ys S' ⟨G,rfl⟩;exact q S' G
end
theorem Jp(A:List Nat):natS A=(iN A).map SV.int:=(Op A).symm
section
variable{Δ:Nat->Sn}
noncomputable def Ps:List Stm:=[(.ret (.or (.cmp .In (.ix (.ix (.ix (.var 0) (.c (.int 1))) (.var 1)) (.c (.int 0))) (.ix (.ix (.var 0) (.c (.int 1))) (.var 2))) (.cmp .In (.ix (.ix (.ix (.var 0) (.c (.int 1))) (.var 1)) (.c (.int 1))) (.ix (.ix (.var 0) (.c (.int 1))) (.var 2)))))]
noncomputable def Shr(es:EE)(t u:Nat):Prop:=∃ p,(p=(c8 es t).1\/p=(c8 es t).2)/\(p=(c8 es u).1\/p=(c8 es u).2)
noncomputable def Fh(s:Sn):Prop:=∀{n t u:Nat} {es:EE} {S:Sto} {Q:QE},t<es.length->u<es.length->(∀ v:Bool,(v=true↔Shr es t u)->Q (.bl v) S)->s [g0 n es,.int t,.int u] S Q
theorem Mg{D:Df}(hb:D.body=Ps)(hN:D.N.length=3)(hp:D.ps.length=3):Fh (j6 Δ D):=by
 intro n t u es S Q ht hu q;unfold j6;rw[hb,hN];have h1:atI (es.map pairS) (t:Int)=some (pairS (c8 es t)):=f9 (by rw[UZ,p8 ht];rfl);have h2:atI (es.map pairS) (u:Int)=some (pairS (c8 es u)):=f9 (by rw[UZ,p8 hu];rfl);refine⟨hp.symm,_,rfl,_,_,rfl,rfl,_,rfl,_,_,rfl,h1,_,.int ((c8 es t).1:Nat),rfl,rfl,_,rfl,_,_,rfl,rfl,_,rfl,_,_,rfl,h2,rfl,_,rfl,rfl,_,rfl,?_⟩;show if inS (.int (c8 es t).1) [.int (c8 es u).1,.int (c8 es u).2]=true then _ else _
 rw[CW];refine ifB (λz=>q true ⟨λ_=>?_,λ_=>rfl⟩) (λz=>?_)
 ·refine⟨(c8 es t).1,.inl rfl,?_⟩;simp only[V8,dQ]at z;exact z.imp Eq.symm Eq.symm
 ·refine⟨_,rfl,_,_,rfl,rfl,_,rfl,_,_,rfl,h1,_,.int ((c8 es t).2:Nat),rfl,rfl,_,rfl,_,_,rfl,rfl,_,rfl,_,_,rfl,h2,rfl,_,rfl,rfl,?_⟩;show Q (.bl (inS (.int (c8 es t).2) [.int (c8 es u).1,.int (c8 es u).2])) S;rw[CW];refine q _ ⟨λz=>⟨(c8 es t).2,.inr rfl,?_⟩,?_⟩
  ·simp only[V8,dQ]at z;exact z.imp Eq.symm Eq.symm
  ·rintro⟨p,rfl | rfl,h⟩
   ·simp only[Wh,decide_eq_false_iff_not]at z;exact absurd (h.imp Eq.symm Eq.symm) (not_or.mpr z)
   ·simp only[V8,dQ];exact h.imp Eq.symm Eq.symm
theorem Gw.on{t:Nat}{S S':Sto}(G:Gw S S'):On t S S':=⟨G.len,λk o _ h=>G.keep k o h⟩
theorem Gw.tape{t:Nat}{S S':Sto}(G:Gw S S')(T:TapeS S t):TapeS S' t:=let ⟨a,b,h,c⟩:=T.ex;⟨a,b,G.keep _ _ h,c⟩
end
theorem Ri{cs:List Nat}{t:Nat}(h:t<cs.length):cs[t]?=some (hu cs t):=by
 rw[UM h];show _=some (cs.getD t 0);rw[UW,UM h];rfl
theorem Mj(ns:List Int):(ns.map SV.int).all y8=true:=by
 rw[YI,Uq];intro _ _;rfl
theorem E2{α β:Type}{f:α->β}{l:List α}(nd:l.Nodup)(inj:∀ a∈l,∀ b∈l,f a=f b->a=b):(l.map f).Nodup:=by
 rw[List.Nodup,WH];exact List.Pairwise.imp_of_mem (λ{a b} ha hb ne e=>ne (inj a ha b hb e)) nd
section
variable{n H:Nat}{es:EE}{rows hs:List (List Nat)}{done told:List Nat}
theorem Tt{cs:List Nat}{x c:Nat}(h:cs[x]?=some c):hu cs x=c:=by unfold hu;rw[UW,h];rfl
variable{i:Nat}{j:Option Nat}{row cs:List Nat}
end
theorem AO(A:List Nat):(natS A).all y8=true:=by rw[Jp];exact Mj _
section
variable{Δ:Nat->Sn}
theorem Fj(lo k:Nat):Ay lo (lo+k:Nat)=natS ((Uj k).map (lo+·)):=by
 unfold Ay natS;rw[show(((lo+k:Nat):Int) - (lo:Nat)).toNat=k by omega,V9];refine VE λi _=>?_;show SV.int ((lo:Int)+i)=SV.int ((lo+i:Nat):Int);rw[Int.natCast_add]
end
theorem Tu{r s:List Nat}(hr:r.Pairwise (·<·))(hs:s.Pairwise (·<·))(h:∀ u,u∈r↔u∈s):r=s:=
 List.Perm.eq_of_pairwise (le:=λa b:Nat=>a<=b) (λ_ _ _ _ a b=>Xy a b) (hr.imp Vf) (hs.imp Vf) ((List.perm_ext_iff_of_nodup (hr.imp Ug) (hs.imp Ug)).mpr h)
section
variable{Δ:Nat->Sn}
theorem Fk(A:List Nat):natS A=(A.map λ(a:Nat)=>(a:Int)).map SV.int:=by unfold natS;rw[V9];rfl
end
theorem Ml{α:Type}{P:α->Bool}{l:List α}{i:Nat}{x:α}(h:l[i]?=some x):(l.take (i+1)).filter P=(l.take i).filter P++if P x=true then [x] else []:=by
 rw[VP,h,WV]
 congr 1
 show YN P [x]=_;rw[We];rfl
theorem Ot(A:List Nat):∃ J:List Nat,(srt (A.map λ(a:Nat)=>(a:Int))).map SV.int=natS J/\J.Perm A/\J.Pairwise (·<=·):=by
 refine⟨(srt (A.map λ(a:Nat)=>(a:Int))).map YC,?_,?_,?_⟩
 ·unfold natS;rw[V9];refine VE λi hi=>?_;obtain⟨a,_,rfl⟩:=VH.mp ((Be _).mem_iff.mp hi);rfl
 ·have:=(Be (A.map λ(a:Nat)=>(a:Int))).map YC;rw[V9]at this;have e:(YC∘λ(a:Nat)=>(a:Int))=id:=rfl
  rwa [e,XT]at this
 ·exact WH.mpr ((KU _).imp λh=>Int.toNat_le_toNat h)
theorem Bu:∀ bs:List Bool,blS (bs.map SV.bl)=some bs:=λbs=>by
 induction bs with
 | nil=>rfl
 | cons b bs ih=>show(blS (bs.map SV.bl)).map (b::·)=_;rw[ih];rfl
theorem Rj(c:Option Nat)(a:Nat):scS (DF c) (.int (a:Nat))=some (decide (c=some a)):=by
 cases c with
 | none=>rfl
 | some j=>
   show some (decide ((j:Int)=(a:Int)))=_
   congr 1
   rw[decide_eq_decide,VC];exact⟨λh=>by rw[h],λh=>oj h⟩
noncomputable def kvG(D:List (Nat×SV)):List (Int×SV):=D.map λd=>((d.1:Int),d.2)
noncomputable def gget(D:List (Nat×SV))(p:Nat):Option SV:=(D.find? λd=>decide (d.1=p)).map (·.2)
noncomputable def Bv(D:List (Nat×SV))(p:Nat)(x:SV):List (Nat×SV):=if (D.any λd=>decide (d.1=p))=true then D.map (λd=>if d.1=p then (d.1,x) else d) else D++[(p,x)]
theorem CZ(D:List (Nat×SV))(p:Nat):Cs (kvG D) (p:Int)=gget D p:=by
 unfold Cs gget kvG;rw[List.find?_map,Option.map_map]
 have e:((λq:Int×SV=>decide (q.1=(p:Int)))∘λd:Nat×SV=>((d.1:Int),d.2))=λd:Nat×SV=>decide (d.1=p):=funext λd=>by
  show decide ((d.1:Int)=(p:Int))=_;rw[decide_eq_decide,VC]
 rw[e];rfl
theorem IL(D:List (Nat×SV))(p:Nat)(x:SV):Ct (kvG D) (p:Int) x=kvG (Bv D p x):=by
 have e:((kvG D).any λq=>decide (q.1=(p:Int)))=D.any λd=>decide (d.1=p):=by
  unfold kvG;rw[Xn]
  congr 1
  funext d
  show decide ((d.1:Int)=(p:Int))=_;rw[decide_eq_decide,VC]
 unfold Ct Bv;rw[e];split
 ·unfold kvG;rw[V9,V9];refine VE λd _=>?_;show(if (d.1:Int)=(p:Int) then ((d.1:Int),x) else ((d.1:Int),d.2))=((λd:Nat×SV=>((d.1:Int),d.2)) (if d.1=p then (d.1,x) else d))
  by_cases z:d.1=p
  ·rw[iP z,iP (by rw[z])]
  ·rw[iG z,iG (λy=>z (VC.mp y))]
 ·unfold kvG;rw[VI];rfl
theorem gget_none{D:List (Nat×SV)}{p:Nat}:gget D p=none↔p∉D.map (·.1):=by
 unfold gget;rw[Option.map_eq_none_iff,Xe,VH];exact⟨λh ⟨d,hd,e⟩=>h d hd (decide_eq_true e),λh d hd z=>h ⟨d,hd,of_decide_eq_true z⟩⟩
theorem Bw(D:List (Nat×SV))(p q:Nat)(x:SV):gget (Bv D p x) q=if q=p then some x else gget D q:=by
 unfold Bv;split
 ·rename_i h
  induction D with
  | nil=>cases h
  | cons d D ih=>
    unfold gget at ih ⊢;rw[Uv,VS,VS];by_cases z:d.1=p
    ·rw[iP z];by_cases y:q=p
     ·rw[iP y,decide_eq_true (show d.1=q by rw[z,y])];rfl
     ·rw[iG y,decide_eq_false (show ¬ d.1=q by rw[z];exact λe=>y e.symm)];by_cases w:(D.any λd=>decide (d.1=p))=true
      ·have:=ih w;rw[iG y]at this;exact this
      ·have:D.map (λd=>if d.1=p then (d.1,x) else d)=D:=by
        have e0:D.map (λd=>if d.1=p then (d.1,x) else d)=D.map id:=VE λe he=>iG λe1=>w (VL.mpr ⟨e,he,decide_eq_true e1⟩);rw[e0,XT]
       rw[this]
    ·rw[iG z];by_cases y:d.1=q
     ·rw[decide_eq_true y,iG (λe=>z (y.trans e))]
     ·rw[decide_eq_false y];refine ih ?_;rw[Vc,decide_eq_false z,XU]at h;exact h
 ·rename_i h;unfold gget;rw[List.find?_append];by_cases y:q=p
  ·rw[iP y];have:(D.find? λd=>decide (d.1=q))=none:=Xe.mpr λd hd z=>h (VL.mpr ⟨d,hd,by rw[<-y];exact z⟩);rw[this,y];simp
  ·rw[iG y];have:([(p,x)].find? λd=>decide (d.1=q))=none:=by simp;exact λe=>y e.symm
   rw[this,Option.or_none]
theorem E3(D:List (Nat×SV))(p:Nat)(x:SV):(Bv D p x).map (·.1)=if p∈D.map (·.1) then D.map (·.1) else D.map (·.1)++[p]:=by
 unfold Bv
 have e:(D.any λd=>decide (d.1=p))=true↔p∈D.map (·.1):=by
  rw[VL,VH];exact⟨λ⟨d,hd,z⟩=>⟨d,hd,of_decide_eq_true z⟩,λ⟨d,hd,z⟩=>⟨d,hd,decide_eq_true z⟩⟩
 by_cases h:p∈D.map (·.1)
 ·rw[iP h,iP (e.mpr h),V9];refine VE λd _=>?_;show(if d.1=p then (d.1,x) else d).1=d.1;split<;>rfl
 ·rw[iG h,iG (λz=>h (e.mp z)),VI];rfl
theorem DQ{D:List (Nat×SV)}{p:Nat}{x:SV}(h:(D.map (·.1)).Nodup):((Bv D p x).map (·.1)).Nodup:=by
 rw[E3];split
 ·exact h
 ·rename_i z;exact VN.mpr ⟨h,by simp,λa ha b hb e=>z (by rw[UT.mp hb]at e;rw[<-e];exact ha)⟩
noncomputable def sdA(s:List (Option Nat))(e:Nat×Nat):Nat:=if s[e.1]?=some (some 0) then e.1 else e.2
section
variable{Δ:Nat->Sn}
noncomputable def IM:List Stm:=[(.asg (.tup (.cons (.nm 4) (.cons (.nm 5) .nil))) (.ix (.ix (.var 0) (.c (.int 1))) (.var 2))),(.ret (.ife (.cmp .Eq (.ix (.var 1) (.var 4)) (.var 3)) (.var 4) (.var 5)))]
noncomputable def AQ(s:Sn):Prop:=∀{n l t:Nat} {es:EE} {sd:List (Option Nat)} {S:Sto} {Q:QE},S[l]?=some (.lst (optsS sd))->sd.length=n->(∀ e∈es,e.1<e.2/\e.2<n)->t<es.length->Q (.int (sdA sd (c8 es t):Nat)) S->s [g0 n es,.loc l,.int (t:Nat),.int 0] S Q
theorem Jq{D:Df}(hb:D.body=IM)(hN:D.N.length=6)(hp:D.ps.length=4):AQ (j6 Δ D):=by
 intro n l t es sd S Q hl sl hen ht q;unfold j6;rw[hb,hN];have he:=hen _ (UO (p8 ht));have hc:=UM (show(c8 es t).1<sd.length by omega);have ax:atI (optsS sd) ((c8 es t).1:Nat)=some (DF (sd[(c8 es t).1]'(by omega))):=f9 (g9 hc);refine⟨hp.symm,_,rfl,_,_,rfl,rfl,_,rfl,_,pairS (c8 es t),rfl,f9 (by rw[UZ,p8 ht];rfl),?_⟩;show wSs Δ [_] (q0 Q) [some (g0 n es),some (.loc l),some (.int (t:Nat)),some (.int 0),some (.int ((c8 es t).1:Nat)),some (.int ((c8 es t).2:Nat))] S;refine⟨_,rfl,_,rfl,_,_,c5 hl,ax,_,rfl,?_⟩;show(match scS (DF _) (.int ((0:Nat):Int)) with | some b=>_ | none=>_);rw[Rj];refine⟨_,rfl,?_⟩;unfold sdA at q;rw[hc]at q;refine ifD (λz=>⟨_,rfl,?_⟩) (λz=>⟨_,rfl,?_⟩)
 ·rw[iP (by rw[z])]at q;exact q
 ·rw[iG (λy=>z (oj y))]at q;exact q
end
noncomputable def rkA(rk:List Int)(t:Nat):Int:=rk.getD t 0
theorem Fl{rk:List Int}{t:Nat}(h:t<rk.length):atI (rk.map SV.int) (t:Nat)=some (.int (rkA rk t)):=by
 refine f9 ?_;rw[UZ,UM h];unfold rkA;rw[UW,UM h];rfl
noncomputable def askF(A:Nat->Nat)(ys:List Nat)(p:Nat):List Nat:=ys.filter λt=>decide (A t=p)
theorem Mn{A:Nat->Nat}{ys:List Nat}{i t:Nat}(h:ys[i]?=some t)(p:Nat):askF A (ys.take (i+1)) p=askF A (ys.take i) p++if A t=p then [t] else []:=by
 unfold askF;rw[VP,h,WV]
 congr 1
 show YN _ [t]=_;rw[We];by_cases z:A t=p
 ·rw[iP z,iP (decide_eq_true z)];rfl
 ·rw[iG z,iG (by simpa using z)];rfl
theorem Ou(A:Nat->Nat)(ys:List Nat)(p:Nat):(askF A ys p).length<=ys.length:=Vo _ _
theorem Mo(D:List (Nat×SV))(p:Nat)(x:SV):(Bv D p x).length<=D.length+1:=by
 unfold Bv;split
 ·rw[UQ];omega
 ·rw[UR];simp
structure AskAt(m:Nat)(S:Sto)(l:Nat)(A:Nat->Nat)(ys:List Nat)(D:List (Nat×SV)):Prop where
 top:S[l]?=some (.dct (kvG D))
 nd:(D.map (·.1)).Nodup
 val:∀ p v,gget D p=some v->∃ k,v = .loc k/\m<=k/\k≠l/\S[k]?=some (.lst (natS (askF A ys p)))
 non:∀ p,gget D p=none->askF A ys p=[]
 inj:∀ p q k,gget D p=some (.loc k)->gget D q=some (.loc k)->p=q
 key:∀ p∈D.map (·.1),∃ t∈ys,A t=p
section
variable{Δ:Nat->Sn}
noncomputable def as5(kp:Nat):Stm:=(.asg (.nm 6) (.call kp (.cons (.var 0) (.cons (.var 1) (.cons (.var 5) (.cons (.c (.int 0)) .nil))))))
noncomputable def as6:Stm:=(.dput (.var 4) (.var 6) (.op .Add (.dget2 (.var 4) (.var 6) (.lst .nil)) (.lst (.cons (.var 5) .nil))))
noncomputable def Pt(nm:Str)(lp:Pos)(kp:Nat):List Stm:=[(.asg (.nm 4) .dnew),(.loop (.nm 5) (.seq (.srtk nm lp 0 "other" ["ranks"] [3] (.var 2) (.ix (.var 1) (.var 0)))) [as5 kp,as6]),(.ret (.var 4))]
noncomputable def HG(nm:Str)(lp:Pos)(s:Sn):Prop:=∀{n ls:Nat} {x y:SV} {es:EE} {sd:List (Option Nat)} {T:List Nat} {rk:List Int} {S:Sto} {Q:QE},S[0]?=some (.tbl nm lp)->S[ls]?=some (.lst (optsS sd))->sd.length=n->(∀ e∈es,e.1<e.2/\e.2<n)->seqS x S=some (natS T)->seqS y S=some (rk.map SV.int)->rk.length=es.length->(∀ t∈T,t<es.length)->T.length<128->
 (∀(l:Nat) (ys:List Nat) (D:List (Nat×SV)) (S':Sto),Gw S S'->S.length<=l->AskAt S.length S' l (λt=>sdA sd (c8 es t)) ys D->D.length<=T.length->ys.Perm T->(ys.map (rkA rk)).Pairwise (·<=·)->Q (.loc l) S')->s [g0 n es,.loc ls,x,y] S Q
theorem Bb{x:SV}{S S':Sto}{xs:List SV}(h:seqS x S=some xs)(G:Gw S S'):seqS x S'=some xs:=by
 cases x with
 | loc k=>
   cases e:S[k]? with
   | none=>simp only[seqS,e]at h;cases h
   | some o=>
     cases o with
     | lst ys=>simp only[seqS,e]at h;cases h;exact c5 (G.keep _ _ e)
     | _=>simp only[seqS,e]at h;cases h
 | tup _=>exact h
 | ro _=>exact h
 | _=>cases h
theorem Ov{kp:Nat}(hk:AQ (Δ kp)){E:EndsS}{n ls ld i t m:Nat}{x y:SV}{es:EE}{sd:List (Option Nat)}{ys:List Nat}{D:List (Nat×SV)}{S:Sto}{o6:Option SV}(hl:S[ls]?=some (.lst (optsS sd)))(sl:sd.length=n)(hen:∀ e∈es,e.1<e.2/\e.2<n)(ht:ys[i]?=some t)(tl:t<es.length)(i1:i<=1000)(dl:D.length<=i)(ml:m<=S.length)(lm:ld<S.length)(R:AskAt m S ld (λt=>sdA sd (c8 es t)) (ys.take i) D)
 (q:∀(o6:Option SV) (D':List (Nat×SV)) (S1 S':Sto),Gw S S1->S'=S1.set ld (.dct (kvG D'))->D'.length<=i+1->AskAt m S' ld (λt=>sdA sd (c8 es t)) (ys.take (i+1)) D'->E.nx [some (g0 n es),some (.loc ls),some x,some y,some (.loc ld),some (.int (t:Nat)),o6] S'):
 wSs Δ [as5 kp,as6] E [some (g0 n es),some (.loc ls),some x,some y,some (.loc ld),some (.int (t:Nat)),o6] S:=by
 refine⟨_,rfl,_,rfl,_,rfl,hk hl sl hen tl ?_⟩;generalize hp:sdA sd (c8 es t)=p at *;show wSs Δ [as6] E [some (g0 n es),some (.loc ls),some x,some y,some (.loc ld),some (.int (t:Nat)),some (.int (p:Nat))] S
 have fs:∀ q,askF (λt=>sdA sd (c8 es t)) (ys.take (i+1)) q=askF (λt=>sdA sd (c8 es t)) (ys.take i) q++if p=q then [t] else []:=λq=>by
  have:=Mn (A:=λt=>sdA sd (c8 es t)) ht q;rw[this];show _++(if sdA sd (c8 es t)=q then [t] else [])=_;rw[hp]
 have al:(askF (λt=>sdA sd (c8 es t)) (ys.take i) p).length<=i:=by
  have:=Ou (λt=>sdA sd (c8 es t)) (ys.take i) p;rw[VJ]at this;omega
 have d1:Aa (.loc ld) S=some (kvG D):=by simp only[Aa,R.top]
 have d2:Aa (.loc ld) (S++[SO.lst []])=some (kvG D):=by simp only[Aa,e7 R.top]
 refine⟨_,rfl,ld,_,rfl,d1,_,rfl,by show 0<=100000;decide,_,_,rfl,d2,?_⟩;rw[CZ]
 obtain⟨k1,e1,h1⟩:∃ k1,(gget D p).getD (.loc S.length) = .loc k1/\(S++[SO.lst []])[k1]?=some (SO.lst (natS (askF (λt=>sdA sd (c8 es t)) (ys.take i) p))):=by
  cases e:gget D p with
  | none=>exact⟨_,rfl,by rw[c9,R.non p e];rfl⟩
  | some v=>
    obtain⟨k,rfl,_,_,h⟩:=R.val p v e;exact⟨k,rfl,e7 h⟩
 rw[e1];refine⟨_,rfl,by show 1<=100000;decide,_,_,e7 h1,c9,by rw[f6];show _+1<=100000;omega,_,rfl,_,rfl,ld,_,kvG D,rfl,rfl,.inl (e7 (e7 (e7 R.top))),by unfold kvG;rw[UQ];show _<100000;omega,i9 (Δ:=Δ) ?_⟩;rw[IL]
 have e2:natS (askF (λt=>sdA sd (c8 es t)) (ys.take i) p)++[SV.int (t:Nat)]=natS (askF (λt=>sdA sd (c8 es t)) (ys.take (i+1)) p):=by
  rw[fs p,iP rfl,i5];rfl
 rw[e2];have new:(((S++[SO.lst []])++[SO.lst [.int (t:Nat)]])++[SO.lst (natS (askF (λt=>sdA sd (c8 es t)) (ys.take (i+1)) p))])[((S++[SO.lst []])++[SO.lst [.int (t:Nat)]]).length]?=some (SO.lst (natS (askF (λt=>sdA sd (c8 es t)) (ys.take (i+1)) p))):=c9;have G:Gw S (((S++[SO.lst []])++[SO.lst [.int (t:Nat)]])++[SO.lst (natS (askF (λt=>sdA sd (c8 es t)) (ys.take (i+1)) p))]):=(Gw.refl S).push.push.push;have kl:S.length<((S++[SO.lst []])++[SO.lst [.int (t:Nat)]]).length:=by simp
 generalize ((S++[SO.lst []])++[SO.lst [.int (t:Nat)]]).length=k at *;generalize ((S++[SO.lst []])++[SO.lst [.int (t:Nat)]])++[SO.lst (natS (askF (λt=>sdA sd (c8 es t)) (ys.take (i+1)) p))]=S4 at *;refine q _ (Bv D p (.loc k)) S4 _ G rfl (Ux (Mo _ _ _) (by omega)) ⟨m9 (G.keep _ _ R.top),DQ R.nd,λq' v hv=>?_,λq' hv=>?_,λq1 q2 k' a1 a2=>?_,λq' hq=>?_⟩
 ·rw[Bw]at hv;by_cases z:q'=p
  ·rw[iP z]at hv;cases hv;rw[z];exact⟨k,rfl,by omega,by omega,by rw[j4 (by omega)];exact new⟩
  ·rw[iG z]at hv;obtain⟨k',rfl,b1,b2,b3⟩:=R.val q' v hv;refine⟨k',rfl,b1,b2,?_⟩;rw[j4 (Ne.symm b2),fs q',iG (λy=>z y.symm),VF];exact G.keep _ _ b3
 ·rw[Bw]at hv;by_cases z:q'=p
  ·rw[iP z]at hv;cases hv
  ·rw[iG z]at hv;rw[fs q',iG (λy=>z y.symm),VF];exact R.non q' hv
 ·rw[Bw]at a1 a2
  have old:∀{q'},gget D q'=some (.loc k')->k'<S.length:=λ{q'} h=>by
   obtain⟨k2,e,_,_,h⟩:=R.val q' _ h;cases e;exact(gM h).1
  by_cases z1:q1=p
  ·by_cases z2:q2=p
   ·rw[z1,z2]
   ·rw[iP z1]at a1;rw[iG z2]at a2;cases a1;have:=old a2;omega
  ·rw[iG z1]at a1;by_cases z2:q2=p
   ·rw[iP z2]at a2;cases a2;have:=old a1;omega
   ·rw[iG z2]at a2;exact R.inj q1 q2 k' a1 a2
 ·have tt:t∈ys.take (i+1):=by rw[VP,ht];simp
  rw[E3]at hq
  have old:∀ q'∈D.map (·.1),∃ u∈ys.take (i+1),sdA sd (c8 es u)=q':=λq' h=>by
   obtain⟨u,hu,e⟩:=R.key q' h;exact⟨u,by rw[VP];exact Um _ hu,e⟩
  split at hq
  ·exact old q' hq
  ·rcases Ul.mp hq with hq | hq
   ·exact old q' hq
   ·exact⟨t,tt,by rw[UT.mp hq];exact hp⟩
theorem Ow(hΔ:∀ f,MonoN (Δ f)){nm:Str}{lp:Pos}{kp:Nat}(hk:AQ (Δ kp)){D:Df}(hb:D.body=Pt nm lp kp)(hN:D.N.length=7)(hp:D.ps.length=4):HG nm lp (j6 Δ D):=by
 intro n ls x y es sd T rk S Q tb hl sl hen hx hy rl tl t1 q;unfold j6;rw[hb,hN];refine⟨hp.symm,?_⟩;show wSs Δ (_::_) (q0 Q) [some (g0 n es),some (.loc ls),some x,some y,some (.loc S.length),none,none] (S++[.dct []]);have G1:Gw S (S++[SO.dct []]):=(Gw.refl S).push;have hd:(S++[SO.dct []])[S.length]?=some (SO.dct []):=c9;have l1:(S++[SO.dct []]).length=S.length+1:=by simp
 generalize S++[SO.dct []]=S1 at *;refine⟨_,rfl,natS T,T.map (rkA rk),Bb hx G1,by rw[f6];exact t1,G1.keep _ _ tb,by rw[UQ,f6],λi u z hu hz=>?_,λys pm pw=>?_⟩
 ·obtain⟨t,ht,rfl⟩:=A9 hu;rw[UZ,ht]at hz;cases hz;have:=tl t (UO ht);exact⟨_,rfl,_,rfl,_,_,Bb hy G1,Fl (by omega),rfl,rfl⟩
 ·have zz:(T.map (rkA rk)).zip (natS T)=T.map λt=>(rkA rk t,SV.int (t:Nat)):=by unfold natS;rw[YA]
  rw[zz]at pm
  have pd:∀ l:List Nat,Paired (λ(t:Nat) (o:Int×SV)=>o=(rkA rk t,SV.int (t:Nat))) l (l.map λt=>(rkA rk t,SV.int (t:Nat))):=λl=>by
   induction l with
   | nil=>exact .nil
   | cons x l ih=>exact .cons rfl ih
  obtain⟨ys',rp,pq⟩:=C2 pm (pd T)
  have back:∀{l:List Nat} {o:List (Int×SV)},Paired (λ(t:Nat) (o:Int×SV)=>o=(rkA rk t,SV.int (t:Nat))) l o->o=l.map λt=>(rkA rk t,SV.int (t:Nat)):=λ{l o} r=>by
   induction r with
   | nil=>rfl
   | cons h _ ih=>rw[h,ih];rfl
  have ey:=back rp;subst ey;rw[V9]at pw;have pw:(ys'.map (rkA rk)).Pairwise (·<=·):=pw;have ev:(ys'.map λt=>(rkA rk t,SV.int (t:Nat))).map (·.2)=natS ys':=by rw[V9];rfl
  rw[ev];have yl:ys'.length=T.length:=pq.length_eq;refine⟨_,c5 c9,?_⟩;have G2:Gw S (S1++[SO.lst (natS ys')]):=G1.push;have hs:(S1++[SO.lst (natS ys')])[S1.length]?=some (SO.lst (natS ys')):=c9;have hd2:=e7 (o:=SO.lst (natS ys')) hd;have lsl:=(gM hl).1;generalize S1++[SO.lst (natS ys')]=S2 at *;refine B0 (l6 hΔ _) (λi ρ S'=>∃(o5 o6:Option SV) (D:List (Nat×SV)),ρ=[some (g0 n es),some (.loc ls),some x,some y,some (.loc S.length),o5,o6]/\Gw S S'/\S'[S1.length]?=some (.lst (natS ys'))/\D.length<=i/\AskAt S.length S' S.length (λt=>sdA sd (c8 es t)) (ys'.take i) D) ⟨_,_,[],rfl,G2,hs,US _,⟨hd2,Ws,(λp v h=>by cases h),(λp _=>rfl),(λp q k h=>by cases h),(λp h=>nomatch h)⟩⟩ (λ_ _ S' z=>?_) ?_ ?_
  ·obtain⟨_,_,_,_,_,h,_⟩:=z;show S'[S1.length]?=S2[S1.length]?;rw[h,hs]
  ·rintro i u ρ S' E hE _ hu ⟨o5,o6,D,rfl,G,h1,dl,R⟩;obtain⟨t,ht,rfl⟩:=A9 hu;have il:=(gM ht).1;have l2:=(gM h1).1;refine Ov (m:=S.length) hk (G.keep _ _ hl) sl hen ht (tl t (pq.mem_iff.mp (UO ht))) (by omega) dl G.len (by omega) R λo6 D' S3 S4 G3 e4 dl' R'=>hE _ _ ⟨_,_,D',rfl,?_,?_,dl',R'⟩
   ·rw[e4];exact(G.trans G3).put (US _)
   ·rw[e4,j4 (by omega)];exact G3.keep _ _ h1
  ·rintro ρ S' ⟨o5,o6,D,rfl,G,h1,dl,R⟩;rw[f6]at dl R;rw[WL]at R;exact⟨_,rfl,q _ ys' D S' G (US _) R (by omega) pq pw⟩
end
theorem Mp{f:Nat->List Nat}{p:Nat}{l:List Nat}{t:Nat}(h:f p=l++[t]):∀{P:List Nat},P.Nodup->p∈P->(P.map λq=>(AD f p l q).length).sum+1=(P.map λq=>(f q).length).sum:=by
 have out:∀{P:List Nat},p∉P->(P.map λq=>(AD f p l q).length)=P.map λq=>(f q).length:=λ{P} hp=>VE λq hq=>by rw[j7 (q:=q) (p:=p) (λe=>hp (by rw[<-e];exact hq))]
 intro P
 induction P with
 | nil=>exact λ_ h=>nomatch h
 | cons a P ih=>
   intro nd hp;have nd2:=Vg.mp nd;rw[Uv,Uv,YB,YB];by_cases e:a=p
   ·rw[e]at nd2;rw[out nd2.1,e,i7,h,UR];show _+_+1=l.length+1+_;omega
   ·rw[j7 e];have:=ih nd2.2 ((Ub.mp hp).resolve_left (Ne.symm e));omega
structure SetI(m n:Nat)(S:Sto)(ld lh lw:Nat)(D:List (Nat×SV))(asks:Nat->List Nat)(held:Nat->Option Nat)(wt:List Nat)(H:List (Nat×SV)):Prop where
 md:m<=ld
 dh:ld<lh
 hw:lh<lw
 hd:S[ld]?=some (.dct (kvG D))
 nd:(D.map (·.1)).Nodup
 val:∀ p v,gget D p=some v->∃ k,v = .loc k/\m<=k/\k<lh/\k≠ld/\S[k]?=some (.lst (natS (asks p)))
 inj:∀ p q k,gget D p=some (.loc k)->gget D q=some (.loc k)->p=q
 key:∀ p∈wt,p∈D.map (·.1)
 hh:S[lh]?=some (.dct (kvG H))
 hn:(H.map (·.1)).Nodup
 hv:∀ q,gget H q=(held q).map λt=>SV.int (t:Nat)
 ww:S[lw]?=some (.lst (natS wt))
theorem SetI.setw{m n:Nat}{S:Sto}{ld lh lw:Nat}{D H:List (Nat×SV)}{asks:Nat->List Nat}{held:Nat->Option Nat}{wt:List Nat}(I:SetI m n S ld lh lw D asks held wt H){wt':List Nat}(h:∀ p∈wt',p∈D.map (·.1)):SetI m n (S.set lw (.lst (natS wt'))) ld lh lw D asks held wt' H:=by
 have a:=I.dh;have b:=I.hw
 exact{I with
  hd:=by rw[j4 (by omega)];exact I.hd
  val:=λp v h=>by
   obtain⟨k,e1,e2,e3,e4,e5⟩:=I.val p v h;exact⟨k,e1,e2,e3,e4,by rw[j4 (by omega)];exact e5⟩
  key:=h
  hh:=by rw[j4 (by omega)];exact I.hh
  ww:=m9 I.ww}
theorem SetI.setk{m n:Nat}{S:Sto}{ld lh lw k p:Nat}{D H:List (Nat×SV)}{asks:Nat->List Nat}{held:Nat->Option Nat}{wt l:List Nat}(I:SetI m n S ld lh lw D asks held wt H)(hk:gget D p=some (.loc k)):SetI m n (S.set k (.lst (natS l))) ld lh lw D (AD asks p l) held wt H:=by
 obtain⟨k',e1,e2,e3,e4,e5⟩:=I.val p _ hk;cases e1;have b:=I.hw
 exact{I with
  hd:=by rw[j4 (by omega)];exact I.hd
  val:=λq v h=>by
   obtain⟨k2,f1,f2,f3,f4,f5⟩:=I.val q v h;subst f1;refine⟨k2,rfl,f2,f3,f4,?_⟩;by_cases e:q=p
   ·rw[e,hk]at h;cases h;rw[e,i7];exact m9 e5
   ·rw[j7 e,j4 (λz=>e (I.inj q p k2 h (by rw[<-z];exact hk)))];exact f5
  hh:=by rw[j4 (by omega)];exact I.hh
  ww:=by rw[j4 (by omega)];exact I.ww}
theorem SetI.seth{m n:Nat}{S:Sto}{ld lh lw b t:Nat}{D H:List (Nat×SV)}{asks:Nat->List Nat}{held:Nat->Option Nat}{wt:List Nat}(I:SetI m n S ld lh lw D asks held wt H):SetI m n (S.set lh (.dct (kvG (Bv H b (.int (t:Nat)))))) ld lh lw D asks (AD held b (some t)) wt (Bv H b (.int (t:Nat))):=by
 have a:=I.dh;have b':=I.hw
 exact{I with
  hd:=by rw[j4 (by omega)];exact I.hd
  val:=λq v h=>by
   obtain⟨k2,f1,f2,f3,f4,f5⟩:=I.val q v h;exact⟨k2,f1,f2,f3,f4,by rw[j4 (by omega)];exact f5⟩
  hh:=m9 I.hh
  hn:=DQ I.hn
  hv:=λq=>by
   rw[Bw];by_cases e:q=b
   ·rw[iP e,e,i7];rfl
   ·rw[iG e,j7 e];exact I.hv q
  ww:=by rw[j4 (by omega)];exact I.ww}
section
variable{Δ:Nat->Sn}
noncomputable def sw7:Stm:=(.asg (.nm 7) (.mt .pop (.var 6) .nil))
noncomputable def sw8:Stm:=(.asg (.nm 8) (.mt .pop (.dget (.var 4) (.var 7)) .nil))
noncomputable def sw9(kf:Nat):Stm:=(.asg (.nm 9) (.call kf (.cons (.var 0) (.cons (.var 8) (.cons (.var 7) .nil)))))
noncomputable def UK:Stm:=(.asg (.nm 10) (.dget0 (.var 5) (.var 9)))
noncomputable def swA:Stm:=(.iff (.or (.cmp .Is (.var 10) (.c .non)) (.cmp .Lt (.ix (.var 2) (.var 8)) (.ix (.var 2) (.var 10)))) [(.dput (.var 5) (.var 9) (.var 8)),(.asg (.nm 8) (.var 10))] [])
noncomputable def swB(kp:Nat):Stm:=(.iff (.cmp .IsNot (.var 8) (.c .non)) [(.expr (.mt .append (.var 6) (.cons (.call kp (.cons (.var 0) (.cons (.var 3) (.cons (.var 8) (.cons (.c (.int 0)) .nil))))) .nil)))] [])
noncomputable def swC(kf kp:Nat):Stm:=(.iff (.dget (.var 4) (.var 7)) [sw8,sw9 kf,UK,swA,swB kp] [])
noncomputable def sw(kf kp:Nat):Stm:=(.whl (.var 6) [sw7,swC kf kp])
noncomputable def sdB(sd:List (Option Nat))(e:Nat×Nat):Nat:=farE e (sdA sd e)
theorem AA(sd:List (Option Nat))(e:Nat×Nat):sdA sd e=e.1\/sdA sd e=e.2:=by
 unfold sdA;split
 ·exact .inl rfl
 ·exact .inr rfl
noncomputable def Mq(A:Nat->Nat):Option Nat->List Nat
 | some t=>[A t]
 | none=>[]
theorem Mr{kp:Nat}(hk:AQ (Δ kp)){E:EndsS}{n m ls ld lh lw:Nat}{y:SV}{es:EE}{sd:List (Option Nat)}{asks:Nat->List Nat}{held:Nat->Option Nat}{wt:List Nat}{D H:List (Nat×SV)}{S:Sto}{o1 o7 o9 o10:Option SV}{c:Option Nat}(sl:sd.length=n)(hen:∀ e∈es,e.1<e.2/\e.2<n)(hl:S[ls]?=some (.lst (optsS sd)))(I:SetI m n S ld lh lw D asks held wt H)(wl:wt.length<90000)(hc:∀ t,c=some t->t<es.length/\sdA sd (c8 es t)∈D.map (·.1))
 (q:∀ S',SetI m n S' ld lh lw D asks held (wt++Mq (λt=>sdA sd (c8 es t)) c) H->(S'=S\/∃ o,S'=S.set lw o)->E.nx [some (g0 n es),o1,some y,some (.loc ls),some (.loc ld),some (.loc lh),some (.loc lw),o7,some (DF c),o9,o10] S'):
 wSs Δ [swB kp] E [some (g0 n es),o1,some y,some (.loc ls),some (.loc ld),some (.loc lh),some (.loc lw),o7,some (DF c),o9,o10] S:=by
 cases c with
 | none=>
   refine⟨_,rfl,.inl ⟨rfl,_,rfl,ifF rfl (i9 (Δ:=Δ) (i9 (Δ:=Δ) (q S ?_ (.inl rfl))))⟩⟩;show SetI m n S ld lh lw D asks held (wt++[]) H;rw[VF];exact I
 | some t=>
   obtain⟨tl,tk⟩:=hc t rfl;refine⟨_,rfl,.inl ⟨rfl,_,rfl,ifT rfl ?_⟩⟩;refine⟨_,rfl,⟨_,_,rfl,I.ww⟩,_,rfl,_,rfl,_,rfl,hk hl sl hen tl ⟨_,I.ww,by rw[f6];show _<100000;omega,i9 (Δ:=Δ) (i9 (Δ:=Δ) (q _ ?_ (.inr ⟨_,rfl⟩)))⟩⟩;have e:natS wt++[SV.int (sdA sd (c8 es t):Nat)]=natS (wt++[sdA sd (c8 es t)]):=by rw[i5];rfl
   rw[e];exact I.setw λp hp=>(Ul.mp hp).elim (I.key p) λz=>by rw[UT.mp z];exact tk
end
noncomputable def muS(D:List (Nat×SV))(asks:Nat->List Nat)(wt:List Nat):Nat:=2 * ((D.map (·.1)).map λp=>(asks p).length).sum+wt.length
theorem Mt{D:List (Nat×SV)}{asks:Nat->List Nat}{p t:Nat}{l:List Nat}(nd:(D.map (·.1)).Nodup)(hp:p∈D.map (·.1))(h:asks p=l++[t])(wt wt':List Nat)(hw:wt'.length<=wt.length+1):muS D (AD asks p l) wt'<muS D asks wt:=by
 have:=Mp h nd hp;unfold muS;omega
section
variable{Δ:Nat->Sn}
theorem Ox(hΔ:∀ f,MonoN (Δ f)){kf kp:Nat}(hf:AN (Δ kf))(hk:AQ (Δ kp)){E:EndsS}{n ls ld lh lw p:Nat}{y:SV}{es:EE}{sd:List (Option Nat)}{T:List Nat}{rk:List Int}{asks:Nat->List Nat}{held:Nat->Option Nat}{wt:List Nat}{D H:List (Nat×SV)}{S0 S:Sto}{o1 o7 o8 o9 o10:Option SV}
 (sl:sd.length=n) (hen:∀ e∈es,e.1<e.2/\e.2<n) (n9:n<=900) (hl:S0[ls]?=some (.lst (optsS sd))) (hy:seqS y S0=some (rk.map SV.int)) (rl:rk.length=es.length) (tT:∀ t∈T,t<es.length) (U:Gx T (λt=>sdA sd (c8 es t)) (λt=>sdB sd (c8 es t)) (rkA rk))
 (G:Gw S0 S) (I:SetI S0.length n S ld lh lw D asks held (wt++[p]) H) (R:RunP T (λt=>sdA sd (c8 es t)) (λt=>sdB sd (c8 es t)) (rkA rk) asks held (wt++[p])) (dT:∀ t∈T,sdA sd (c8 es t)∈D.map (·.1)) (dl:D.length<=1000)
 (q:∀(o7 o8 o9 o10:Option SV) (asks':Nat->List Nat) (held':Nat->Option Nat) (wt':List Nat) (H':List (Nat×SV)) (S':Sto),Gw S0 S'->SetI S0.length n S' ld lh lw D asks' held' wt' H'->RunP T (λt=>sdA sd (c8 es t)) (λt=>sdB sd (c8 es t)) (rkA rk) asks' held' wt'->muS D asks' wt'<muS D asks (wt++[p])->E.nx [some (g0 n es),o1,some y,some (.loc ls),some (.loc ld),some (.loc lh),some (.loc lw),o7,o8,o9,o10] S'):
 wSs Δ [sw7,swC kf kp] E [some (g0 n es),o1,some y,some (.loc ls),some (.loc ld),some (.loc lh),some (.loc lw),o7,o8,o9,o10] S:=by
 have md:=I.md;have dh:=I.dh;have hw:=I.hw;have pk:p∈D.map (·.1):=I.key p (by simp)
 have wl:wt.length<=D.length:=by
  have:=List.Nodup.length_le_of_subset (VN.mp R.wn).1 (l₂:=D.map (·.1)) λx hx=>I.key x (Um _ hx)
  rwa [UQ]at this
 have hl':H.length<=n:=by
  have:=List.Nodup.length_le_of_subset I.hn (l₂:=Uj n) λb hb=>by
   have h0:gget H b≠none:=λz=>gget_none.mp z hb;rw[I.hv]at h0;cases e:held b with
   | none=>rw[e]at h0;exact absurd rfl h0
   | some t=>
     obtain⟨e1,e2,_⟩:=R.hb b t e;have h1:=hen _ (UO (p8 (tT t e2)));have h2:=u9 (AA sd (c8 es t));rw[<-e1];refine V4.mpr ?_;show farE _ _<n;rcases h2 with h2 | h2<;>rw[h2]<;>omega
  rwa [UQ,VY]at this
 refine⟨_,rfl,⟨_,_,rfl,I.ww⟩,_,_,I.ww,Aq,?_⟩;rw[BD];have I1:=I.setw (wt':=wt) λx hx=>I.key x (Um _ hx);have G1:=G.put (o:=SO.lst (natS wt)) (show S0.length<=lw by omega);show wSs Δ [swC kf kp] E [some (g0 n es),o1,some y,some (.loc ls),some (.loc ld),some (.loc lh),some (.loc lw),some (.int (p:Nat)),o8,o9,o10] (S.set lw (.lst (natS wt)));generalize S.set lw (.lst (natS wt))=S1 at *;obtain⟨v,hv⟩:∃ v,gget D p=some v:=Option.ne_none_iff_exists'.mp λz=>gget_none.mp z pk;obtain⟨k,rfl,k1,k2,k3,h5⟩:=I1.val p v hv;have dc1:Aa (.loc ld) S1=some (kvG D):=by simp only[Aa,I1.hd]
 refine⟨_,rfl,_,rfl,kvG D,(p:Int),.loc k,dc1,rfl,(CZ D p).trans hv,_,Bs h5,?_⟩;rcases v9 (asks p) with e | ⟨l,t,e⟩
 ·rw[e];refine ifF rfl (i9 (Δ:=Δ) (i9 (Δ:=Δ) (q _ _ _ _ asks held wt H S1 G1 I1 (R.skip e) ?_)));unfold muS;rw[UR];show _<_+(wt.length+1);omega
 refine ifT (by rw[e];simp[natS]) ?_;obtain⟨tin,ta⟩:=R.t_in U e;have tl:=tT t tin;rw[e]at h5;refine⟨_,rfl,_,rfl,kvG D,(p:Int),.loc k,dc1,rfl,(CZ D p).trans hv,⟨_,_,rfl,h5⟩,_,_,h5,Aq,?_⟩;rw[BD];have I2:=I1.setk (l:=l) hv;have G2:=G1.put (o:=SO.lst (natS l)) k1;show wSs Δ (sw9 kf::_) _ [some (g0 n es),o1,some y,some (.loc ls),some (.loc ld),some (.loc lh),some (.loc lw),some (.int (p:Nat)),some (.int (t:Nat)),o9,o10] (S1.set k (.lst (natS l)));generalize S1.set k (.lst (natS l))=S2 at *;have pe:p=(c8 es t).1\/p=(c8 es t).2:=by rw[<-ta];exact AA sd _
 refine⟨_,rfl,_,rfl,_,rfl,hf (p8 tl) pe ?_⟩;have eb:farE (c8 es t) p=sdB sd (c8 es t):=by unfold sdB;rw[show sdA sd (c8 es t)=p from ta]
 rw[eb];generalize hB:sdB sd (c8 es t)=b;have dc2:Aa (.loc lh) S2=some (kvG H):=by simp only[Aa,I2.hh]
 refine⟨_,rfl,lh,kvG H,rfl,dc2,_,rfl,(b:Int),kvG H,rfl,dc2,?_⟩;rw[CZ,I2.hv b];have ev:((held b).map λt=>SV.int (t:Nat)).getD .non=DF (held b):=by cases held b<;>rfl
 rw[ev];have hl2:=G2.keep _ _ hl;have hy2:=Bb hy G2;show wSs Δ [swA,swB kp] _ [some (g0 n es),o1,some y,some (.loc ls),some (.loc ld),some (.loc lh),some (.loc lw),some (.int (p:Nat)),some (.int (t:Nat)),some (.int (b:Nat)),some (DF (held b))] S2;have hbl:(kvG H).length<100000:=by unfold kvG;rw[UQ];omega
 have take:(∀ u,held b=some u->rkA rk t<rkA rk u)->wSs Δ [(.dput (.var 5) (.var 9) (.var 8)),(.asg (.nm 8) (.var 10))] {E with nx:=λρ S=>wSs Δ [swB kp] {E with nx:=wSs Δ [] E} ρ S} [some (g0 n es),o1,some y,some (.loc ls),some (.loc ld),some (.loc lh),some (.loc lw),some (.int (p:Nat)),some (.int (t:Nat)),some (.int (b:Nat)),some (DF (held b))] S2:=λhq=>by
  have R':=R.take U e (λu hu=>hq u (by rw[<-hB];exact hu));refine⟨_,rfl,_,rfl,_,rfl,lh,(b:Int),kvG H,rfl,rfl,.inl I2.hh,hbl,?_⟩;rw[IL];have I3:=I2.seth (b:=b) (t:=t);have G3:=G2.put (o:=SO.dct (kvG (Bv H b (.int (t:Nat))))) (show S0.length<=lh by omega);generalize S2.set lh (.dct (kvG (Bv H b (.int (t:Nat)))))=S3 at *;refine⟨_,rfl,i9 (Δ:=Δ) ?_⟩;refine Mr (c:=held b) hk sl hen (G3.keep _ _ hl) I3 (by omega) (λu hu=>?_) λS4 I4 e4=>i9 (Δ:=Δ) (q _ _ _ _ _ _ _ _ S4 ?_ I4 ?_ ?_)
  ·have uT:=(R.hb b u hu).2.1;exact⟨tT u uT,dT u uT⟩
  ·rcases e4 with rfl | ⟨o,rfl⟩
   ·exact G3
   ·exact G3.put (by omega)
  ·have R':RunP T (λt=>sdA sd (c8 es t)) (λt=>sdB sd (c8 es t)) (rkA rk) (AD asks p l) (AD held (sdB sd (c8 es t)) (some t)) (wt++match held (sdB sd (c8 es t)) with | some u=>[sdA sd (c8 es u)] | none=>[]):=R';rw[hB]at R';cases hh:held b with
   | none=>rw[hh]at R';exact R'
   | some u=>rw[hh]at R';exact R'
  ·refine Mt I.nd pk e _ _ ?_;rw[UR,UR];cases held b<;>simp[Mq]<;>omega
 cases hh:held b with
 | none=>
   rw[hh]at take;exact⟨_,rfl,.inl ⟨rfl,_,rfl,ifT rfl (ifT rfl (take λu hu=>nomatch hu))⟩⟩
 | some u=>
   rw[hh]at take;have uT:=(R.hb b u hh).2.1;refine⟨_,rfl,.inl ⟨rfl,_,rfl,ifF rfl ⟨_,rfl,_,rfl,_,_,hy2,Fl (by omega),_,rfl,_,rfl,_,_,hy2,Fl (by rw[rl];exact tT u uT),_,rfl,?_⟩⟩⟩;refine ifD (λz=>take λu' hu'=>by cases hu';exact z) (λz=>i9 (Δ:=Δ) ?_);refine Mr (c:=some t) hk sl hen hl2 I2 (by omega) (λu' hu'=>by cases hu';exact⟨tl,by rw[show sdA sd (c8 es t)=p from ta];exact pk⟩) λS4 I4 e4=>i9 (Δ:=Δ) (q _ _ _ _ _ _ _ _ S4 ?_ I4 ?_ ?_)
   ·rcases e4 with rfl | ⟨o,rfl⟩
    ·exact G2
    ·exact G2.put (by omega)
   ·have R':=R.away U e (u:=u) (by rw[<-hh,<-hB]) z;show RunP T _ _ _ _ _ (wt++[sdA sd (c8 es t)]);rw[show sdA sd (c8 es t)=p from ta];exact R'
   ·refine Mt I.nd pk e _ _ ?_;rw[UR,UR];simp[Mq]
end
theorem Fm:∀{H:List (Nat×SV)},(H.map (·.1)).Nodup->∀ d∈H,gget H d.1=some d.2
 | [],_,_,h=>nomatch h
 | e::H,nd,d,h=>by
   have nd2:=Vg.mp nd;unfold gget;rw[VS];by_cases z:e.1=d.1
   ·rw[decide_eq_true z];rcases Ub.mp h with rfl | h
    ·rfl
    ·exact absurd (List.mem_map_of_mem (f:=λd:Nat×SV=>d.1) h) (z▸nd2.1)
   ·rw[decide_eq_false z];rcases Ub.mp h with rfl | h
    ·exact absurd rfl z
    ·exact Fm nd2.2 d h
section
variable{T:List Nat}{A B:Nat->Nat}{r:Nat->Int}
theorem RunP.begin{ys:List Nat}{ks:List Nat}(U:Gx T A B r)(p:ys.Perm T)(nd:T.Nodup)(pw:(ys.map r).Pairwise (·<=·))(kn:ks.Nodup)(non:∀ q,q∉ks->askF A ys q=[]):RunP T A B r (askF A ys) (λ_=>none) ks:=by
 have mem:∀{q t},t∈askF A ys q↔t∈T/\A t=q:=λ{q t}=>by
  unfold askF;rw[Ve,dQ,p.mem_iff]
 refine⟨λq t h=>mem.mp h,λq=>?_,λt ht hn=>absurd (mem.mpr ⟨ht,rfl⟩) hn,(λ_ _ h=>nomatch h),(λ_ _ _ _ h=>nomatch h),λt ht hn=>absurd (mem.mpr ⟨ht,rfl⟩) hn,kn,(λ_ _ _ _ h=>nomatch h),λq hq => .inl (non q hq)⟩;have ynd:ys.Nodup:=p.nodup_iff.mpr nd;have h2:ys.Pairwise λt u=>r t<=r u/\t≠u:=List.Pairwise.imp₂ (λa b h1 h2=>⟨h1,h2⟩) (WH.mp pw) ynd;refine(h2.filter _).imp_of_mem λ{t u} ht hu h=>?_;have a1:=mem.mp (show t∈askF A ys q from ht);have a2:=mem.mp (show u∈askF A ys q from hu);have:=U t a1.1 u a2.1 h.2 (.inl (a1.2.trans a2.2.symm));have:=h.1;omega
end
section
variable{Δ:Nat->Sn}
noncomputable def Fn(ks ka kf kp:Nat):List Stm:=[(.asg (.nm 3) (.call ks (.cons (.var 0) .nil))),(.asg (.nm 4) (.call ka (.cons (.var 0) (.cons (.var 3) (.cons (.var 1) (.cons (.var 2) .nil)))))),(.asg (.nm 5) .dnew),(.asg (.nm 6) (.lstd (.var 4))),sw kf kp,(.ret (.bi .sorted (.cons (.dvals (.var 5)) .nil)))]
noncomputable def E4(nm:Str)(lp:Pos)(s:Sn):Prop:=∀{n:Nat} {x y:SV} {es:EE} {T:List Nat} {rk:List Int} {S:Sto} {Q:QE},S[0]?=some (.tbl nm lp)->(∀ e∈es,e.1<e.2/\e.2<n)->es.length<=1000->n<=60->(∀ ts,Odd es ts->False)->seqS x S=some (natS T)->seqS y S=some (rk.map SV.int)->rk.length=es.length->(∀ t∈T,t<es.length)->T.Nodup->T.length<128->
 (Norm n es (sdF n es)->Gx T (λt=>sdA (sdF n es) (c8 es t)) (λt=>sdB (sdF n es) (c8 es t)) (rkA rk))->
 (∀(l:Nat) (J:List Nat) (S':Sto),Norm n es (sdF n es)->Gw S S'->S.length<=l->S'[l]?=some (.lst (natS J))->J.Pairwise (·<·)->BestP T (λt=>sdA (sdF n es) (c8 es t)) (λt=>sdB (sdF n es) (c8 es t)) (rkA rk) (λt=>t∈J)->Q (.loc l) S')->s [g0 n es,x,y] S Q
theorem HH(hΔ:∀ f,MonoN (Δ f)){nm:Str}{lp:Pos}{ks ka kf kp:Nat}(hs:DM (Δ ks))(ha:HG nm lp (Δ ka))(hf:AN (Δ kf))(hk:AQ (Δ kp)){D:Df}(hb:D.body=Fn ks ka kf kp)(hN:D.N.length=11)(hp:D.ps.length=3):E4 nm lp (j6 Δ D):=by
 intro n x y es T rk S Q tb hen el n6 no hx hy rl tT nd t1 hU q;unfold j6;rw[hb,hN];refine⟨hp.symm,_,rfl,hs hen (by omega) (by omega) no λls S1 N O=>?_⟩;have U:=hU N;have sl:=N.len;generalize hsd:sdF n es=sd at *;have G1:=O.g;have hx1:=Bb hx G1;have hy1:=Bb hy G1;have hl1:=O.at';refine⟨_,rfl,_,rfl,_,rfl,_,rfl,ha (G1.keep _ _ tb) hl1 sl hen hx1 hy1 rl tT t1 λld ys Dk S2 G2 l0 R dl pq pw=>?_⟩;have ldl:=(gM R.top).1;show wSs Δ (_::_) (q0 Q) [some (g0 n es),some x,some y,some (.loc ls),some (.loc ld),some (.loc S2.length),none,none,none,none,none] (S2++[.dct []]);have dc:Aa (.loc ld) (S2++[SO.dct []])=some (kvG Dk):=by simp only[Aa,e7 R.top]
 refine⟨_,rfl,kvG Dk,dc,?_⟩;have ek:(kvG Dk).map (λp=>SV.int p.1)=natS (Dk.map (·.1)):=by unfold kvG natS;rw[V9,V9];rfl
 rw[ek];show wSs Δ (_::_) (q0 Q) [some (g0 n es),some x,some y,some (.loc ls),some (.loc ld),some (.loc S2.length),some (.loc (S2++[SO.dct []]).length),none,none,none,none] ((S2++[SO.dct []])++[.lst (natS (Dk.map (·.1)))])
 have I:SetI S1.length n ((S2++[SO.dct []])++[SO.lst (natS (Dk.map (·.1)))]) ld S2.length (S2++[SO.dct []]).length Dk (askF (λt=>sdA sd (c8 es t)) ys) (λ_=>none) (Dk.map (·.1)) []:=
  ⟨l0,ldl,by simp,e7 (e7 R.top),R.nd,λp v h=>by
    obtain⟨k,e1,e2,e3,e4⟩:=R.val p v h;exact⟨k,e1,e2,(gM e4).1,e3,e7 (e7 e4)⟩,R.inj,λp hp=>hp,e7 c9,Ws,λq=>rfl,c9⟩
 have G3:Gw S1 ((S2++[SO.dct []])++[SO.lst (natS (Dk.map (·.1)))]):=G2.push.push;generalize (S2++[SO.dct []])++[SO.lst (natS (Dk.map (·.1)))]=S3 at *;generalize (S2++[SO.dct []]).length=lw at *;generalize S2.length=lh at *
 have dT:∀ t∈T,sdA sd (c8 es t)∈Dk.map (·.1):=λt ht=>by
  refine Classical.byContradiction λz=>?_;have:=R.non _ (gget_none.mpr z);have m:t∈askF (λt=>sdA sd (c8 es t)) ys (sdA sd (c8 es t)):=Ve.mpr ⟨pq.mem_iff.mpr ht,decide_eq_true rfl⟩;rw[this]at m;cases m
 refine⟨λm ρ S'=>∃(o7 o8 o9 o10:Option SV) (asks:Nat->List Nat) (held:Nat->Option Nat) (wt:List Nat) (H:List (Nat×SV)),ρ=[some (g0 n es),some x,some y,some (.loc ls),some (.loc ld),some (.loc lh),some (.loc lw),o7,o8,o9,o10]/\Gw S1 S'/\SetI S1.length n S' ld lh lw Dk asks held wt H/\RunP T (λt=>sdA sd (c8 es t)) (λt=>sdB sd (c8 es t)) (rkA rk) asks held wt/\muS Dk asks wt=m,
  ⟨_,_,_,_,_,_,_,_,_,rfl,G3,I,RunP.begin U pq nd pw R.nd λq hq=>R.non q (gget_none.mpr hq),rfl⟩,?_⟩
 rintro m ρ S4 ⟨o7,o8,o9,o10,asks,held,wt,H,rfl,G4,I4,R4,rfl⟩;refine⟨_,rfl,_,Bs I4.ww,?_⟩;rcases v9 wt with rfl | ⟨wt',p,rfl⟩
 ·refine ifF rfl ?_;have dc4:Aa (.loc lh) S4=some (kvG H):=by simp only[Aa,I4.hh]
  have evs:(kvG H).map (·.2)=natS ((H.map (·.1)).map λb=>(held b).getD 0):=by
   unfold kvG natS;rw[V9,V9,V9];refine VE λd hd=>?_;have h1:=Fm I4.hn d hd;rw[I4.hv]at h1;obtain⟨t,e1,e2⟩:=Vl.mp h1;show d.2=SV.int (((held d.1).getD 0:Nat):Int);rw[e1,<-e2];rfl
  have kh:∀ b∈H.map (·.1),∃ t,held b=some t:=λb hb=>by
   have h0:gget H b≠none:=λz=>gget_none.mp z hb;rw[I4.hv]at h0;cases e:held b with
   | none=>rw[e]at h0;exact absurd rfl h0
   | some t=>exact⟨t,rfl⟩
  have hln:H.length<=n:=by
   have:=List.Nodup.length_le_of_subset I4.hn (l₂:=Uj n) λb hb=>by
    obtain⟨t,e⟩:=kh b hb;obtain⟨e1,e2,_⟩:=R4.hb b t e;have h1:=hen _ (UO (p8 (tT t e2)));have h2:=u9 (AA sd (c8 es t));rw[<-e1];refine V4.mpr ?_;show farE _ _<n;rcases h2 with h2 | h2<;>rw[h2]<;>omega
   rwa [UQ,VY]at this
  have vn:((H.map (·.1)).map λb=>(held b).getD 0).Nodup:=E2 I4.hn λb hb b' hb' e=>by
   obtain⟨t,e1⟩:=kh b hb;obtain⟨t',e2⟩:=kh b' hb';rw[e1,e2]at e;have e:t=t':=e;rw[<-(R4.hb b t e1).1,<-(R4.hb b' t' e2).1,e]
  obtain⟨J,eJ,pJ,sJ⟩:=Ot ((H.map (·.1)).map λb=>(held b).getD 0);refine⟨_,rfl,kvG H,dc4,_,_,nofun,c5 c9,by rw[evs];exact EY _,by rw[UQ,UQ,UQ];omega,?_⟩;rw[eJ];refine q _ J _ N ((G1.trans G4).push.push) ?_ c9 (List.Pairwise.imp₂ (λa b h1 h2=>Xb h1 h2) sJ (pJ.nodup_iff.mpr vn)) ?_
  ·rw[UR];have:=(G1.trans G4).len;omega
  ·have me:(λt=>t∈J)=λt=>∃ b,held b=some t:=funext λt=>propext (by
    rw[pJ.mem_iff,VH];constructor
    ·rintro⟨b,hb,rfl⟩;obtain⟨t,e⟩:=kh b hb;exact⟨b,by rw[e];rfl⟩
    ·rintro⟨b,e⟩;refine⟨b,?_,by rw[e];rfl⟩;refine Classical.byContradiction λz=>?_;have h1:=gget_none.mpr z;rw[I4.hv,e]at h1;cases h1)
   rw[me];exact R4.done
 ·refine ifT (by rw[i5];simp[natS]) (Oe λEw hw _=>?_);exact Ox hΔ hf hk sl hen (by omega) hl1 hy1 rl tT U G4 I4 R4 dT (by omega) λo7 o8 o9 o10 asks' held' wt' H' S' G' I' R' mu=>hw _ _ ⟨_,mu,_,_,_,_,asks',held',wt',H',rfl,G',I',R',rfl⟩
end
noncomputable def Oy(kd:Nat):Ex:=(.mt .pop (.var 1) (.cons (.call kd (.cons (.var 2) (.cons (.bi .len (.cons (.var 1) .nil)) .nil))) .nil))
theorem erase_perm:∀{L:List Nat} {i:Nat} {x:Nat},L[i]?=some x->(x::L.eraseIdx i).Perm L
 | [],_,_,h=>by simp at h
 | y::L,0,x,h=>by simp at h;subst h;exact .refl _
 | y::L,i+1,x,h=>by
   have h:L[i]?=some x:=by simpa using h
   rw[X0];exact(List.Perm.swap _ _ _).trans ((erase_perm h).cons y)
section
variable{Δ:Nat->Sn}
theorem Tv(hΔ:∀ f,MonoN (Δ f)){kd:Nat}(hd:B1 (Δ kd)){t ll N most:Nat}{S:Sto}{Q:List SV->Sto->Prop}(T:TapeS S t)(ne:ll≠t)(hl:S[ll]?=some (.lst (natS (Uj N))))(hm:most<=N)(n9:N<=1000)
 (q:∀(P:List Nat) (S':Sto),P.Nodup->(∀ x∈P,x<N)->P.length=most->TapeS S' t->S.length<=S'.length->(∀ k o,k≠t->k≠ll->S[k]?=some o->S'[k]?=some o)->Q (natS P) S'):
 GU (λ_=>True) (.nm 0) (wEo Δ .no).2 (wEx Δ (Oy kd)).1 [none,some (.loc ll),some (.loc t)] Q (Ay 0 (most:Nat)) [] S:=by
 refine m5 (t7 hΔ _).2 (c6 hΔ _).1 (λi ys S'=>∃ P L:List Nat,ys=natS P/\S'[ll]?=some (.lst (natS L))/\(P++L).Perm (Uj N)/\P.length=i/\TapeS S' t/\S.length<=S'.length/\∀ k o,k≠t->k≠ll->S[k]?=some o->S'[k]?=some o) ⟨[],Uj N,rfl,hl,.refl _,rfl,T,US _,λ_ _ _ _ h=>h⟩ (λ_ _ _ _=>trivial) ?_ ?_
 ·rintro i x ys S' hx ⟨P,L,rfl,h1,pm,pl,T1,l1,kp⟩;obtain⟨rfl,hi⟩:=A8 hx;rw[Vw]at hi ⊢;have len:=pm.length_eq;rw[UR,VY]at len;refine⟨_,rfl,⟨_,_,rfl,h1⟩,_,rfl,_,rfl,_,c5 h1,?_⟩;show Δ kd [.loc t,.int (((natS L).length:Nat):Int)] S' _;rw[f6];refine hd T1 (by omega) (by omega) λz S2 z0 z1 T2 O2 l2=>?_;have h2:=O2.keep _ _ ne h1;have zl:z.toNat<L.length:=by omega
  have hz:=UM zl;generalize L[z.toNat]'zl=u at hz;have er:(natS L).eraseIdx z.toNat=natS (L.eraseIdx z.toNat):=MP;refine⟨_,_,h2,⟨z0,by rw[f6];omega⟩,by rw[f6];show _<=100000;omega,Ap hz,by rw[f6];show _<100000;omega,P++[u],L.eraseIdx z.toNat,by rw[i5];rfl,by rw[er];exact m9 h2,?_,by rw[UR,pl];rfl,T2.other ne,by rw[Uy,l2];exact l1,λk o a b h=>by rw[j4 (Ne.symm b)];exact O2.keep _ _ a (kp k o a b h)⟩;refine .trans ?_ pm;rw[Ui];exact List.Perm.append_left P (erase_perm hz)
 ·rintro ys S' ⟨P,L,rfl,h1,pm,pl,T1,l1,kp⟩;rw[v5,show((most:Int) - 0).toNat=most by omega]at pl;have nd:(P++L).Nodup:=pm.nodup_iff.mpr Xu;exact q P S' (VN.mp nd).1 (λx hx=>V4.mp (pm.mem_iff.mp (Um _ hx))) pl T1 l1 kp
noncomputable def Mu(kd:Nat):List Stm:=[(.asg (.nm 2) (.ix (.lst (.cons (.bi .len (.cons (.ix (.var 1) (.c (.int 1))) .nil)) (.cons (.call kd (.cons (.var 0) (.cons (.op .Add (.bi .len (.cons (.ix (.var 1) (.c (.int 1))) .nil)) (.c (.int 1))) .nil))) (.cons (.bi .len (.cons (.ix (.var 1) (.c (.int 1))) .nil)) .nil)))) (.call kd (.cons (.var 0) (.cons (.c (.int 3)) .nil))))),(.asg (.nm 3) (.lrng1 (.bi .len (.cons (.ix (.var 1) (.c (.int 1))) .nil)))),(.ret (.comp ["_law_turn"] ["_law_left","_law_tape_here"] [3,0] (.nm 0) (.rng1 (.var 2)) .no (Oy kd)))]
noncomputable def IN(s:Sn):Prop:=∀{t n:Nat} {es:EE} {S:Sto} {Q:QE},TapeS S t->es.length<=900->(∀(l:Nat) (P:List Nat) (S':Sto),TapeS S' t->On t S S'->S.length<=l->S'[l]?=some (.lst (natS P))->P.Nodup->(∀ x∈P,x<es.length)->Q (.loc l) S')->s [.loc t,g0 n es] S Q
theorem Mv(hΔ:∀ f,MonoN (Δ f)){kd:Nat}(hd:B1 (Δ kd)){D:Df}(hb:D.body=Mu kd)(hN:D.N.length=4)(hp:D.ps.length=2):IN (j6 Δ D):=by
 intro t n es S Q T e9 q;unfold j6;rw[hb,hN];refine⟨hp.symm,_,rfl,_,_,rfl,rfl,_,rfl,_,rfl,_,rfl,_,_,rfl,rfl,_,rfl,hd T (by rw[UQ];omega) (by rw[UQ];omega) λr S1 r0 r1 T1 O1 l1=>?_⟩;refine⟨_,rfl,_,_,rfl,rfl,_,rfl,by show 3<=100000;decide,?_⟩;rw[UQ]at r1 ⊢;have T2:=T1.push (o:=SO.lst [SV.int (es.length:Nat),.int r,.int (es.length:Nat)]);have O2:=O1.push (o:=SO.lst [SV.int (es.length:Nat),.int r,.int (es.length:Nat)]);have h2:(S1++[SO.lst [SV.int (es.length:Nat),.int r,.int (es.length:Nat)]])[S1.length]?=some (SO.lst [SV.int (es.length:Nat),.int r,.int (es.length:Nat)]):=c9;have tl1:=T1.lt;generalize S1.length=k2 at *;generalize S1++[SO.lst [SV.int (es.length:Nat),.int r,.int (es.length:Nat)]]=S2 at *;refine⟨_,rfl,hd T2 (by decide) (by decide) λz S3 z0 z1 T3 O3 _=>?_⟩;have h3:=O3.keep _ _ (by omega) h2;have O3:=O2.trans O3
 have fin:∀ most:Nat,most<=es.length->wSs Δ [(.asg (.nm 3) (.lrng1 (.bi .len (.cons (.ix (.var 1) (.c (.int 1))) .nil)))),(.ret (.comp ["_law_turn"] ["_law_left","_law_tape_here"] [3,0] (.nm 0) (.rng1 (.var 2)) .no (Oy kd)))] (q0 Q) [some (.loc t),some (g0 n es),some (.int (most:Nat)),none] S3:=λmost hm=>by
  refine⟨_,rfl,_,_,rfl,rfl,_,rfl,_,rfl,⟨by rw[UQ];omega,by rw[UQ];omega⟩,?_⟩
  have er:Ay 0 (((es.map pairS).length:Nat):Int)=natS (Uj es.length):=by
   rw[UQ];have:=Fj 0 es.length;rw[VA]at this;refine this.trans ?_
   congr 1
   exact VE (g:=id) (λi _=>VA i) |>.trans (XT _)
  rw[er];have l3:=T3.lt;have O4:=O3.push (o:=SO.lst (natS (Uj es.length)));refine⟨_,rfl,_,rfl,⟨by omega,by omega⟩,?_⟩;refine Tv hΔ hd (t:=t) (ll:=S3.length) (T3.push) (by omega) c9 hm (by omega) λP S5 nd lt pl T5 l5 kp=>?_;have O5:On t S S5:=⟨Ux O4.len l5,λk o a h=>kp k o a (by have:=y0 h;have:=O3.len;omega) (O4.keep _ _ a h)⟩
  exact q _ P _ T5.push O5.push O5.len c9 nd lt
 have z3:z=0\/z=1\/z=2:=by omega
 rcases z3 with rfl | rfl | rfl
 ·exact⟨_,_,c5 h3,rfl,fin es.length (US _)⟩
 ·obtain⟨r,rfl⟩:=W9 r0;exact⟨_,_,c5 h3,rfl,fin r (by omega)⟩
 ·exact⟨_,_,c5 h3,rfl,fin es.length (US _)⟩
end
noncomputable def rk5(km:Nat):Stm:=(.asg (.nm 5) (.comp ["_law_k"] ["_law_web","_law_tie","_law_found"] [1,4,3] (.nm 0) (.rng1 (.var 4)) (.yes (.call km (.cons (.var 1) (.cons (.var 0) (.cons (.var 2) .nil))))) (.ix (.var 3) (.var 0))))
noncomputable def rk6:Stm:=(.asg (.nm 6) (.comp ["_law_number"] ["_law_taken"] [5] (.nm 0) (.rng1 (.op .Add (.bi .len (.cons (.var 5) .nil)) (.c (.int 2)))) (.yes (.cmp .NotIn (.var 0) (.var 1))) (.var 0)))
noncomputable def rk7(kd:Nat):Stm:=(.expr (.mt .append (.var 3) (.cons (.ix (.var 6) (.call kd (.cons (.var 0) (.cons (.bi .min (.cons (.c (.int 2)) (.cons (.bi .len (.cons (.var 6) .nil)) .nil))) .nil)))) .nil)))
noncomputable def ffR(tk:List Nat):List Nat:=(Uj (tk.length+2)).filter λh=>!decide (h∈tk)
theorem Oz(tk:List Nat):0<(ffR tk).length:=by
 rcases WU (ffR tk).length with z | z
 ·have z:=Vk.mp z;unfold ffR at z;rw[List.filter_eq_nil_iff]at z
  have:=List.Nodup.length_le_of_subset (l₁:=Uj (tk.length+2)) (l₂:=tk) Xu λh hh=>by
   have:=z h hh;simpa using this
  rw[VY]at this;omega
 ·exact z
structure RkI(t lf:Nat)(es:EE)(S0 S:Sto)(cs:List Nat):Prop where
 T:TapeS S t
 O:On t S0 S
 f0:S0.length<=lf
 hf:S[lf]?=some (.lst (natS cs))
 ap:∀ a b,a<b->b<cs.length->Shr es a b->hu cs a≠hu cs b
 lt:∀ c∈cs,c<1000
section
variable{Δ:Nat->Sn}
theorem P0(hΔ:∀ f,MonoN (Δ f)){kd km:Nat}(hd:B1 (Δ kd))(hm:Fh (Δ km)){E:EndsS}{t lf n i:Nat}{es:EE}{S0 S:Sto}{cs:List Nat}{o2 o5 o6 o7 o8 o9 o10:Option SV}(I:RkI t lf es S0 S cs)(hi:cs.length=i)(il:i<es.length)(e6:es.length<=90)(t0:t<S0.length)
 (q:∀(o5 o6:Option SV) (c:Nat) (S':Sto),RkI t lf es S0 S' (cs++[c])->E.nx [some (.loc t),some (g0 n es),o2,some (.loc lf),some (.int (i:Nat)),o5,o6,o7,o8,o9,o10] S'):
 wSs Δ [rk5 km,rk6,rk7 kd] E [some (.loc t),some (g0 n es),o2,some (.loc lf),some (.int (i:Nat)),o5,o6,o7,o8,o9,o10] S:=by
 refine⟨_,rfl,_,rfl,⟨by omega,by omega⟩,?_⟩;refine m5 (t7 hΔ _).2 (c6 hΔ _).1 (λj ys S'=>S'=S/\∃ tk:List Nat,ys=natS tk/\tk.length<=j/\∀ a,a<j->a<i->Shr es a i->hu cs a∈tk) ⟨rfl,[],rfl,US _,λa h=>by omega⟩ (λ_ _ _ _=>trivial) ?_ ?_
 ·rintro j x ys S' hx ⟨rfl,tk,rfl,tl,hk⟩;obtain⟨rfl,hj⟩:=A8 hx;rw[Vw]at hj ⊢;have hj:j<i:=by omega
  refine⟨_,rfl,_,rfl,_,rfl,hm (by omega) il λv hv=>⟨_,rfl,?_⟩⟩;refine ifB (λz=>?_) (λz=>⟨rfl,tk,rfl,by omega,λa ha ai s=>?_⟩)
  ·have hc:=Ri (cs:=cs) (t:=j) (by omega);refine⟨_,rfl,_,rfl,_,_,c5 I.hf,f9 (Ap hc),by rw[f6];show _<100000;omega,rfl,tk++[hu cs j],by rw[i5];rfl,by rw[UR];simp;omega,λa ha ai s=>?_⟩;by_cases e:a=j
   ·rw[e];simp
   ·exact Um _ (hk a (by omega) ai s)
  ·by_cases e:a=j
   ·rw[e]at s;rw[hv.mpr s]at z;cases z
   ·exact hk a (by omega) ai s
 ·rintro ys S' ⟨rfl,tk,rfl,tl,hk⟩;rw[v5,show((i:Int) - 0).toNat=i by omega]at tl hk;have T1:=I.T.push (o:=SO.lst (natS tk));have O1:=I.O.push (o:=SO.lst (natS tk));have hf1:=e7 (o:=SO.lst (natS tk)) I.hf;have h5:(S'++[SO.lst (natS tk)])[S'.length]?=some (SO.lst (natS tk)):=c9;show wSs Δ [rk6,rk7 kd] E [some (.loc t),some (g0 n es),o2,some (.loc lf),some (.int (i:Nat)),some (.loc S'.length),o6,o7,o8,o9,o10] (S'++[.lst (natS tk)]);generalize S'.length=k5 at *;generalize S'++[SO.lst (natS tk)]=S1 at *;refine⟨_,rfl,_,c5 h5,_,rfl,⟨by rw[f6];omega,by rw[f6];omega⟩,?_⟩;rw[f6];have el:((tk.length:Nat):Int)+2=((tk.length+2:Nat):Int):=by omega
  rw[el];refine m5 (t7 hΔ _).2 (c6 hΔ _).1 (λj ys S'=>S'=S1/\ys=natS ((Uj j).filter λh=>!decide (h∈tk))) ⟨rfl,rfl⟩ (λ_ _ _ _=>trivial) ?_ ?_
  ·rintro j y ys S' hy ⟨rfl,rfl⟩;obtain⟨rfl,hj⟩:=A8 hy;rw[Vw]at hj ⊢;have fl:=CY (λh=>!decide (h∈tk)) j;have fs:=Ff (λh=>!decide (h∈tk)) j;refine⟨_,rfl,_,rfl,?_⟩;show match CI (.loc k5) S' with | some ms=>_ | none=>_
   rw[DC h5];refine⟨rfl,_,c5 h5,AO _,_,rfl,?_⟩;show if (!inS (.int (j:Nat)) (natS tk))=true then _ else _
   rw[HF];refine ifB (λz=>?_) (λz=>⟨rfl,?_⟩)
   ·rw[iP z]at fs;exact⟨_,rfl,by rw[f6];show _<100000;omega,rfl,by rw[fs,i5];rfl⟩
   ·rw[iG (by rw[z];decide),VF]at fs;rw[fs]
  ·rintro ys S' ⟨rfl,rfl⟩;rw[v5,show(((tk.length+2:Nat):Int) - 0).toNat=tk.length+2 by omega];have fp:0<(ffR tk).length:=Oz tk;show wSs Δ [rk7 kd] E [some (.loc t),some (g0 n es),o2,some (.loc lf),some (.int (i:Nat)),some (.loc k5),some (.loc S'.length),o7,o8,o9,o10] (S'++[.lst (natS (ffR tk))]);have T3:=T1.push (o:=SO.lst (natS (ffR tk)));have O3:=O1.push (o:=SO.lst (natS (ffR tk)));have hf3:=e7 (o:=SO.lst (natS (ffR tk))) hf1;have h6:(S'++[SO.lst (natS (ffR tk))])[S'.length]?=some (SO.lst (natS (ffR tk))):=c9;have tlt:t<S'.length:=T1.lt;have f0:=I.f0;have fl:(ffR tk).length<=tk.length+2:=CY _ _;generalize S'.length=k6 at *;generalize S'++[SO.lst (natS (ffR tk))]=S3 at *
   have mn:∃ m:Nat,(if (((natS (ffR tk)).length:Nat):Int)<2 then (((natS (ffR tk)).length:Nat):Int) else 2)=(m:Int)/\0<m/\m<=(ffR tk).length:=by
    rw[f6];exact⟨min 2 (ffR tk).length,by split<;>omega,by omega,by omega⟩
   obtain⟨m,em,m0,m1⟩:=mn;refine⟨_,rfl,⟨_,_,rfl,hf3⟩,_,rfl,_,rfl,_,rfl,_,c5 h6,?_⟩;show Δ kd [.loc t,.int (if (((natS (ffR tk)).length:Nat):Int)<2 then (((natS (ffR tk)).length:Nat):Int) else 2)] S3 _;rw[em];refine hd T3 (by omega) (by omega) λz S4 z0 z1 T4 O4 _=>?_;have fz:=UM (show z.toNat<(ffR tk).length by omega);generalize (ffR tk)[z.toNat]'(by omega)=c at *;have h64:=O4.keep _ _ (by omega) h6;have hf4:=O4.keep _ _ (by omega) hf3
   have az:atI (natS (ffR tk)) z=some (.int (c:Nat)):=by
    rw[show z=((z.toNat:Nat):Int) by omega];exact f9 (Ap fz)
   have cm:=UO fz;unfold ffR at cm;rw[Ve,Uu,decide_eq_false_iff_not,V4]at cm;have clen:(cs++[c]).length=i+1:=by rw[UR,hi];rfl
   have tlt4:=T4.lt;refine⟨_,_,c5 h64,az,_,hf4,by rw[f6];show _<100000;omega,i9 (Δ:=Δ) (q _ _ c _ ⟨T4.other (by omega),(O3.trans O4).new f0,f0,?_,λa b ab bl s=>?_,λh hh=>?_⟩)⟩
   ·rw[m9 hf4,i5];rfl
   ·rw[clen]at bl
    have ha:hu (cs++[c]) a=hu cs a:=by
     unfold hu;rw[UW,UW,Ud (by omega)]
    by_cases e:b=i
    ·have hb':hu (cs++[c]) b=c:=by
      refine Tt ?_;rw[e,<-hi,Uw (US _),XC];rfl
     rw[ha,hb'];intro z;rw[e]at s;exact cm.2 (z▸hk a (by omega) (by omega) s)
    ·have hb':hu (cs++[c]) b=hu cs b:=by
      unfold hu;rw[UW,UW,Ud (by omega)]
     rw[ha,hb'];exact I.ap a b ab (by omega) s
   ·rcases Ul.mp hh with hh | hh
    ·exact I.lt h hh
    ·rw[UT.mp hh];omega
noncomputable def rkG(kd km:Nat):Stm:=(.iff (.cmp .Eq (.call kd (.cons (.var 0) (.cons (.c (.int 3)) .nil))) (.c (.int 0))) [(.asg (.nm 3) (.lst .nil)),(.loop (.nm 4) (.rng1 (.var 2)) [rk5 km,rk6,rk7 kd]),(.ret (.var 3))] [])
noncomputable def rk9(kd:Nat):Stm:=(.asg (.tup (.cons (.nm 9) (.cons (.nm 10) .nil))) (.tup (.cons (.ix (.lst (.cons (.c (.int 1)) (.cons (.c (.int 7)) (.cons (.op .Pow (.c (.int 10)) (.c (.int 9))) .nil)))) (.call kd (.cons (.var 0) (.cons (.c (.int 3)) .nil)))) (.cons (.ix (.lst (.cons (.c (.int 0)) (.cons (.neg (.c (.int 50))) (.cons (.c (.int 3)) .nil)))) (.call kd (.cons (.var 0) (.cons (.c (.int 3)) .nil)))) .nil))))
noncomputable def rkE:Stm:=(.ret (.comp ["_law_place"] ["_law_begin","_law_step"] [10,9] (.nm 0) (.seq (.var 8)) .no (.op .Add (.var 1) (.op .Mult (.var 2) (.var 0)))))
noncomputable def Mw(kd km:Nat):List Stm:=[(.asg (.nm 2) (.bi .len (.cons (.ix (.var 1) (.c (.int 1))) .nil))),rkG kd km,(.asg (.nm 7) (.lrng1 (.var 2))),(.asg (.nm 8) (.comp ["_law_tie"] ["_law_left","_law_tape_here"] [7,0] (.nm 0) (.rng1 (.var 2)) .no (Oy kd))),rk9 kd,rkE]
noncomputable def IO(s:Sn):Prop:=∀{t n:Nat} {es:EE} {S:Sto} {Q:QE},TapeS S t->es.length<=90->(∀(l:Nat) (rk:List Int) (S':Sto),TapeS S' t->On t S S'->S.length<=l->S'[l]?=some (.lst (rk.map SV.int))->rk.length=es.length->(∀ a b,a<b->b<es.length->Shr es a b->rkA rk a≠rkA rk b)->(∀ z∈rk,-1000<=z/\z<=1000000000000)->Q (.loc l) S')->s [.loc t,g0 n es] S Q
theorem Jr(hΔ:∀ f,MonoN (Δ f)){n t lp:Nat}{es:EE}{S:Sto}{Q:QE}{P:List Nat}{st bg:Int}{o0 o1 o2 o3 o4 o5 o6 o7:Option SV}(hP:S[lp]?=some (.lst (natS P)))(nd:P.Nodup)(lt:∀ x∈P,x<es.length)(pl:P.length=es.length)(e9:es.length<=90)(s1:1<=st/\st<=1000000000)(b1:-50<=bg/\bg<=3)
 (q:∀(l:Nat) (rk:List Int) (S':Sto),Gw S S'->S.length<=l->S'[l]?=some (.lst (rk.map SV.int))->rk.length=es.length->(∀ a b,a<b->b<es.length->Shr es a b->rkA rk a≠rkA rk b)->(∀ z∈rk,-1000<=z/\z<=1000000000000)->Q (.loc l) S'):wSs Δ [rkE] (q0 Q) [o0,o1,o2,o3,o4,o5,o6,o7,some (.loc lp),some (.int st),some (.int bg)] S:=by
 refine⟨_,rfl,_,c5 hP,?_⟩;refine m5 (t7 hΔ _).2 (c6 hΔ _).1 (λi ys S'=>S'=S/\ys=((P.take i).map λ(p:Nat)=>bg+st * (p:Int)).map SV.int) ⟨rfl,rfl⟩ (λ_ _ S' z=>by rw[z.1];exact rfl) ?_ ?_
 ·rintro i x ys S' hx ⟨rfl,rfl⟩;obtain⟨p,hp,rfl⟩:=A9 hx;refine⟨_,rfl,_,rfl,_,rfl,.inl ⟨by omega,by omega⟩,by rw[UQ,UQ,VJ];show _<100000;omega,rfl,?_⟩;rw[VP,hp,VI,VI];rfl
 ·rintro ys S' ⟨rfl,rfl⟩;rw[f6,WL]
  have at':∀ a,a<es.length->∃ p,P[a]?=some p/\rkA (P.map λ(p:Nat)=>bg+st * (p:Int)) a=bg+st * (p:Int):=λa ha=>by
   have h:=UM (show a<P.length by omega);refine⟨_,h,?_⟩;unfold rkA;rw[UW,UZ,h];rfl
  refine q _ (P.map λ(p:Nat)=>bg+st * (p:Int)) _ (Gw.refl _).push (US _) c9 (by rw[UQ];exact pl) (λa b ab hb _ e=>?_) (λz hz=>?_)
  ·obtain⟨p,hp,ep⟩:=at' a (by omega);obtain⟨p',hp',ep'⟩:=at' b hb;rw[ep,ep']at e;have h1:st * (p:Int)=st * (p':Int):=by omega
   have h2:(p:Int)=(p':Int):=Int.eq_of_mul_eq_mul_left (by omega) h1;have h3:p=p':=VC.mp h2;have ea:P[a]?=P[b]?:=by rw[hp,hp',h3]
   have:=(Wv (gM hp).1 nd).mp ea;omega
  ·obtain⟨p,hp,rfl⟩:=VH.mp hz;have p9:=lt p hp;have h1:0<=st * (p:Int):=Y7 (by omega) (by omega);have h2:st * (p:Int)<=1000000000 * 90:=Int.mul_le_mul (by omega) (by omega) (by omega) (by omega);omega
theorem Mx(hΔ:∀ f,MonoN (Δ f)){kd km:Nat}(hd:B1 (Δ kd))(hm:Fh (Δ km)){D:Df}(hb:D.body=Mw kd km)(hN:D.N.length=11)(hp:D.ps.length=2):IO (j6 Δ D):=by
 intro t n es S Q T e9 q;unfold j6;rw[hb,hN];have tl:=T.lt;refine⟨hp.symm,_,rfl,_,_,rfl,rfl,_,rfl,?_⟩;have el:(((es.map pairS).length:Nat):Int)=(es.length:Nat):=by rw[UQ]
 show wSs Δ (rkG kd km::_) (q0 Q) [some (.loc t),some (g0 n es),some (.int (((es.map pairS).length:Nat):Int)),none,none,none,none,none,none,none,none] S;rw[el];refine⟨_,rfl,hd T (by decide) (by decide) λz S1 z0 z1 T1 O1 _=>⟨_,rfl,?_⟩⟩;refine ifD (λ_=>?_) (λ_=>i9 ?_)
 ·refine⟨by show 0<=100000;decide,_,rfl,_,rfl,⟨by omega,by omega⟩,?_⟩;refine B0 (l6 hΔ _) (λi ρ S'=>∃(o4 o5 o6:Option SV) (cs:List Nat),ρ=[some (.loc t),some (g0 n es),some (.int (es.length:Nat)),some (.loc S1.length),o4,o5,o6,none,none,none,none]/\cs.length=i/\RkI t S1.length es S S' cs) ⟨_,_,_,[],rfl,rfl,T1.push,O1.push,O1.len,c9,(λa b _ h=>by simp at h),(λ_ h=>nomatch h)⟩ (λ_ _ _ _=>trivial) ?_ ?_
  ·rintro i x ρ S' E hE _ hx ⟨o4,o5,o6,cs,rfl,hi,I⟩;have il:=(gM hx).1;obtain⟨rfl,_⟩:=A8 hx;rw[Vw];rw[v5]at il;exact P0 hΔ hd hm I hi (by omega) e9 tl λo5 o6 c S' I'=>hE _ _ ⟨_,_,_,cs++[c],rfl,by rw[UR,hi];rfl,I'⟩
  ·rintro ρ S' ⟨o4,o5,o6,cs,rfl,hi,I⟩;rw[v5]at hi;have hi:cs.length=es.length:=by omega
   have ra:∀ a,rkA (cs.map λ(c:Nat)=>(c:Int)) a=((hu cs a:Nat):Int):=λa=>by
    unfold rkA hu;rw[UW,UW,UZ];cases cs[a]?<;>rfl
   refine⟨_,rfl,q _ (cs.map λ(c:Nat)=>(c:Int)) S' I.T I.O I.f0 (by rw[<-Fk];exact I.hf) (by rw[UQ];exact hi) (λa b ab bl s=>?_) (λz hz=>?_)⟩
   ·rw[ra,ra];exact λe=>I.ap a b ab (by omega) s (VC.mp e)
   ·obtain⟨c,hc,rfl⟩:=VH.mp hz;have:=I.lt c hc;omega
 ·have tl1:=T1.lt;refine⟨_,rfl,_,rfl,⟨by omega,by omega⟩,?_⟩
  have er:Ay 0 (es.length:Nat)=natS (Uj es.length):=by
   have:=Fj 0 es.length;rw[VA]at this;refine this.trans ?_
   congr 1
   exact VE (g:=id) (λi _=>VA i) |>.trans (XT _)
  rw[er];have O2:=O1.push (o:=SO.lst (natS (Uj es.length)));refine⟨_,rfl,_,rfl,⟨by omega,by omega⟩,?_⟩;refine Tv hΔ hd (t:=t) (ll:=S1.length) T1.push (by omega) c9 (US _) (by omega) λP S3 nd lt pl T3 l3 kp=>?_;have O3:On t S S3:=⟨Ux O2.len l3,λk o a h=>kp k o a (by have:=y0 h;have:=O1.len;omega) (O2.keep _ _ a h)⟩
  have T4:=T3.push (o:=SO.lst (natS P));have O4:=O3.push (o:=SO.lst (natS P));have h8:(S3++[SO.lst (natS P)])[S3.length]?=some (SO.lst (natS P)):=c9;have tl3:=T3.lt;show wSs Δ [rk9 kd,rkE] (q0 Q) [some (.loc t),some (g0 n es),some (.int (es.length:Nat)),none,none,none,none,some (.loc S1.length),some (.loc S3.length),none,none] (S3++[SO.lst (natS P)]);generalize S3.length=k8 at *;generalize S3++[SO.lst (natS P)]=S4 at *;refine⟨⟨by decide,by decide,by decide⟩,by show 3<=100000;decide,_,rfl,?_⟩;have T5:=T4.push (o:=SO.lst [SV.int 1,.int 7,.int (10 ^ (9:Int).toNat)]);have O5:=O4.push (o:=SO.lst [SV.int 1,.int 7,.int (10 ^ (9:Int).toNat)]);have h5:(S4++[SO.lst [SV.int 1,.int 7,.int (10 ^ (9:Int).toNat)]])[S4.length]?=some (SO.lst [SV.int 1,.int 7,.int (10 ^ (9:Int).toNat)]):=c9;have h8:=e7 (o:=SO.lst [SV.int 1,.int 7,.int (10 ^ (9:Int).toNat)]) h8;have tl4:=T4.lt;refine hd T5 (by decide) (by decide) λz S6 z0 z1 T6 O6 _=>?_;have h6:=O6.keep _ _ (by omega) h5;have h8:=O6.keep _ _ (by omega) h8;have O6:=O5.trans O6
  obtain⟨st,s1,es1⟩:∃ st:Int,(1<=st/\st<=1000000000)/\atI [SV.int 1,.int 7,.int (10 ^ (9:Int).toNat)] z=some (.int st):=by
   have z3:z=0\/z=1\/z=2:=by omega
   rcases z3 with rfl | rfl | rfl
   ·exact⟨1,by omega,rfl⟩
   ·exact⟨7,by omega,rfl⟩
   ·exact⟨1000000000,by omega,rfl⟩
  refine⟨_,_,c5 h6,es1,by show 3<=100000;decide,_,rfl,?_⟩;have T7:=T6.push (o:=SO.lst [SV.int 0,.int (-50),.int 3]);have O7:=O6.push (o:=SO.lst [SV.int 0,.int (-50),.int 3]);have h7:(S6++[SO.lst [SV.int 0,.int (-50),.int 3]])[S6.length]?=some (SO.lst [SV.int 0,.int (-50),.int 3]):=c9;have h8:=e7 (o:=SO.lst [SV.int 0,.int (-50),.int 3]) h8;have tl6:=T6.lt;refine hd T7 (by decide) (by decide) λz S8 z0 z1 T8 O8 _=>?_;have h9:=O8.keep _ _ (by omega) h7;have h8:=O8.keep _ _ (by omega) h8;have O8:=O7.trans O8
  obtain⟨bg,b1,eb1⟩:∃ bg:Int,(-50<=bg/\bg<=3)/\atI [SV.int 0,.int (-50),.int 3] z=some (.int bg):=by
   have z3:z=0\/z=1\/z=2:=by omega
   rcases z3 with rfl | rfl | rfl
   ·exact⟨0,by omega,rfl⟩
   ·exact⟨-50,by omega,rfl⟩
   ·exact⟨3,by omega,rfl⟩
  refine⟨_,_,c5 h9,eb1,by show 2<=100000;decide,?_⟩;exact Jr (t:=t) (n:=n) hΔ h8 nd lt pl e9 s1 b1 λl rk S' G l0 h a b c=>q l rk S' (G.tape T8) (O8.trans G.on) (Ux O8.len l0) h a b c
end
theorem DR{n:Nat}{es:EE}{sd:List (Option Nat)}(N:Norm n es sd){e:Nat×Nat}(he:e∈es)(hn:e.1<n/\e.2<n)(h12:e.1≠e.2):sd[sdA sd e]?=some (some 0)/\sd[sdB sd e]?=some (some 1):=by
 obtain⟨v1,a1,b1⟩:=N.all e.1 hn.1;obtain⟨v2,a2,b2⟩:=N.all e.2 hn.2;have un:=N.un e he;rw[b1,b2]at un;have un:v1≠v2:=λz=>un (by rw[z]);unfold sdB sdA farE;by_cases z:sd[e.1]?=some (some 0)
 ·rw[iP z,iP rfl,b2];refine⟨z,?_⟩;rw[b1]at z;have:v1=0:=oj (oj z);rw[show v2=1 by omega]
 ·rw[iG z,iG (Ne.symm h12),b1,b2];have:v1≠0:=λy=>z (by rw[b1,y]);rw[show v1=1 by omega,show v2=0 by omega];exact⟨rfl,rfl⟩
section
variable{Δ:Nat->Sn}
noncomputable def ga1:Stm:=(.iff (.cmp .In (.var 5) (.ix (.ix (.var 0) (.c (.int 1))) (.var 4))) [(.iff (.or (.and (.cmp .Eq (.ix (.var 1) (.var 5)) (.c (.int 0))) (.cmp .Gt (.ix (.var 2) (.var 4)) (.ix (.var 2) (.var 3)))) (.and (.cmp .Eq (.ix (.var 1) (.var 5)) (.c (.int 1))) (.cmp .Lt (.ix (.var 2) (.var 4)) (.ix (.var 2) (.var 3))))) [(.ret (.c (.bl true)))] [])] [])
noncomputable def My:List Stm:=[(.loop (.nm 5) (.seq (.ix (.ix (.var 0) (.c (.int 1))) (.var 3))) [ga1]),(.ret (.c (.bl false)))]
noncomputable def Ca(s:Sn):Prop:=∀{n ls lr t u:Nat} {es:EE} {sd:List (Option Nat)} {rk:List Int} {S:Sto} {Q:QE},Norm n es sd->(∀ e∈es,e.1<e.2/\e.2<n)->S[ls]?=some (.lst (optsS sd))->S[lr]?=some (.lst (rk.map SV.int))->rk.length=es.length->t<es.length->u<es.length->
 (∀ v:Bool,((sdA sd (c8 es u)=sdA sd (c8 es t)/\rkA rk t<rkA rk u)\/(sdB sd (c8 es u)=sdB sd (c8 es t)/\rkA rk u<rkA rk t)->v=true)->Q (.bl v) S)->s [g0 n es,.loc ls,.loc lr,.int (t:Nat),.int (u:Nat)] S Q
theorem Mz(hΔ:∀ f,MonoN (Δ f)){D:Df}(hb:D.body=My)(hN:D.N.length=6)(hp:D.ps.length=5):Ca (j6 Δ D):=by
 intro n ls lr t u es sd rk S Q N hen hl hr rl ht hu q;unfold j6;rw[hb,hN];have het:=hen _ (UO (p8 ht));have heu:=hen _ (UO (p8 hu));have zt:=DR N (UO (p8 ht)) ⟨by omega,het.2⟩ (by omega);have zu:=DR N (UO (p8 hu)) ⟨by omega,heu.2⟩ (by omega);have sl:=N.len;have a1:atI (es.map pairS) (t:Nat)=some (pairS (c8 es t)):=f9 (by rw[UZ,p8 ht];rfl);have a2:atI (es.map pairS) (u:Nat)=some (pairS (c8 es u)):=f9 (by rw[UZ,p8 hu];rfl);refine⟨hp.symm,_,rfl,_,_,rfl,rfl,_,rfl,_,pairS (c8 es t),rfl,a1,_,rfl,?_⟩;refine B0 (l6 hΔ _) (λi ρ S'=>S'=S/\(∃ o5,ρ=[some (g0 n es),some (.loc ls),some (.loc lr),some (.int (t:Nat)),some (.int (u:Nat)),o5])/\∀(j p:Nat),j<i->[(c8 es t).1,(c8 es t).2][j]?=some p->(p=(c8 es u).1\/p=(c8 es u).2)->¬ ((sd[p]?=some (some 0)/\rkA rk t<rkA rk u)\/(sd[p]?=some (some 1)/\rkA rk u<rkA rk t))) ⟨rfl,⟨_,rfl⟩,λj p h=>absurd h (W3 _)⟩ (λ_ _ _ _=>trivial) ?_ ?_
 ·rintro i x ρ S' E hE hR hx ⟨rfl,⟨o5,rfl⟩,no⟩
  obtain⟨p,hp',rfl⟩:∃ p:Nat,[(c8 es t).1,(c8 es t).2][i]?=some p/\x = .int (p:Nat):=by
   match i,hx with
   | 0,hx=>cases hx;exact⟨_,rfl,rfl⟩
   | 1,hx=>cases hx;exact⟨_,rfl,rfl⟩
   | (j+2),hx=>simp at hx
  have pn:p<n:=by
   match i,hp' with
   | 0,h=>cases h;omega
   | 1,h=>cases h;omega
   | (j+2),h=>simp at h
  obtain⟨v,v2,hv⟩:=N.all p pn;have ap:atI (optsS sd) (p:Nat)=some (DF (some v)):=f9 (g9 hv)
  have more:(¬ ((p=(c8 es u).1\/p=(c8 es u).2)/\((sd[p]?=some (some 0)/\rkA rk t<rkA rk u)\/(sd[p]?=some (some 1)/\rkA rk u<rkA rk t))))->E.nx [some (g0 n es),some (.loc ls),some (.loc lr),some (.int (t:Nat)),some (.int (u:Nat)),some (.int (p:Nat))] S':=λh=>hE _ _ ⟨rfl,⟨_,rfl⟩,λj p' hj hp2 hm=>by
   by_cases e:j=i
   ·rw[e,hp']at hp2;cases hp2;exact λz=>h ⟨hm,z⟩
   ·exact no j p' (by omega) hp2 hm⟩
  have ru:=Fl (rk:=rk) (t:=u) (by omega);have rt:=Fl (rk:=rk) (t:=t) (by omega);refine⟨_,rfl,_,rfl,_,_,rfl,rfl,_,rfl,_,pairS (c8 es u),rfl,a2,rfl,_,rfl,rfl,_,rfl,?_⟩;show if inS (.int (p:Nat)) [.int (c8 es u).1,.int (c8 es u).2]=true then _ else _
  rw[CW];refine ifB (λzin=>?_) (λzin=>i9 (Δ:=Δ) (i9 (Δ:=Δ) (more λz=>?_)))
  ·have yes:(wSs Δ [(.ret (.c (.bl true)))] {{E with nx:=wSs Δ [] E} with nx:=wSs Δ [] {E with nx:=wSs Δ [] E}} [some (g0 n es),some (.loc ls),some (.loc lr),some (.int (t:Nat)),some (.int (u:Nat)),some (.int (p:Nat))] S'):=hR _ _ (q true λ_=>rfl);have no':(¬ ((sd[p]?=some (some 0)/\rkA rk t<rkA rk u)\/(sd[p]?=some (some 1)/\rkA rk u<rkA rk t)))->wSs Δ [] {{E with nx:=wSs Δ [] E} with nx:=wSs Δ [] {E with nx:=wSs Δ [] E}} [some (g0 n es),some (.loc ls),some (.loc lr),some (.int (t:Nat)),some (.int (u:Nat)),some (.int (p:Nat))] S':=λh=>i9 (Δ:=Δ) (i9 (Δ:=Δ) (i9 (Δ:=Δ) (more λz=>h z.2)));refine⟨_,rfl,_,rfl,_,_,c5 hl,ap,_,rfl,?_⟩;rcases(show v=0\/v=1 by omega) with rfl | rfl
   ·refine ifT rfl ⟨_,rfl,_,rfl,_,_,c5 hr,ru,_,rfl,_,rfl,_,_,c5 hr,rt,_,rfl,?_⟩;refine ifD (λ_=>yes) (λh=>⟨_,rfl,_,rfl,_,_,c5 hl,ap,_,rfl,ifF rfl (no' ?_)⟩);rintro(⟨_,y⟩ | ⟨y,_⟩)
    ·exact h y
    ·rw[hv]at y;cases y
   ·refine ifF rfl ⟨_,rfl,_,rfl,_,_,c5 hl,ap,_,rfl,ifT rfl ⟨_,rfl,_,rfl,_,_,c5 hr,ru,_,rfl,_,rfl,_,_,c5 hr,rt,_,rfl,?_⟩⟩;refine ifD (λ_=>yes) (λh=>no' ?_);rintro(⟨y,_⟩ | ⟨_,y⟩)
    ·rw[hv]at y;cases y
    ·exact h y
  ·simp only[Wh,decide_eq_false_iff_not]at zin;rcases z.1 with e | e
   ·exact zin.1 e.symm
   ·exact zin.2 e.symm
 ·rintro ρ S' ⟨rfl,⟨o5,rfl⟩,no⟩;refine q false λz=>?_;exfalso;have en:=AA sd (c8 es t);have enu:=AA sd (c8 es u);have fr:=u9 (e:=c8 es t) en;have fru:=u9 (e:=c8 es u) enu
  have go:∀ p,(p=(c8 es t).1\/p=(c8 es t).2)->(p=(c8 es u).1\/p=(c8 es u).2)->¬ ((sd[p]?=some (some 0)/\rkA rk t<rkA rk u)\/(sd[p]?=some (some 1)/\rkA rk u<rkA rk t)):=λp h1 h2=>by
   rcases h1 with e | e
   ·exact no 0 p (by show 0<2;decide) (by rw[e];rfl) h2
   ·exact no 1 p (by show 1<2;decide) (by rw[e];rfl) h2
  rcases z with⟨e,h⟩ | ⟨e,h⟩
  ·exact go _ en (by rw[<-e];exact enu) (.inl ⟨zt.1,h⟩)
  ·exact go (sdB sd (c8 es t)) fr (by rw[<-e];exact fru) (.inr ⟨zt.2,h⟩)
end
theorem HI{n:Nat}{es:EE}{s:List (Option Nat)}(hn:∀ e∈es,e.1<n/\e.2<n)(N:Norm n es s):Hue.sidesTo n es n=s:=by
 have vals:∀ p,p<n->s[p]?=some (some ((s[p]?.join).getD 0)):=λp hp=>by
  obtain⟨v,_,h⟩:=N.all p hp;rw[h];rfl
 have W:=Hue.way hn n (US n)
 have U:=Hue.sides_uniq hn (c:=λp=>(s[p]?.join).getD 0) (λp hp=>by
  obtain⟨v,h2,h⟩:=N.all p hp;show(s[p]?.join).getD 0<2;rw[h];exact h2) (λe he z=>by
  have h1:=vals e.1 (hn e he).1;have h2:=vals e.2 (hn e he).2;have z:(s[e.1]?.join).getD 0=(s[e.2]?.join).getD 0:=z;exact N.un e he (by rw[h1,h2,z])) (λf hf hm=>by
  have M:=Fd hn
  have hm:(Hue.marks n es)[f]?=some f:=by
   rw[UW,UM (by rw[M.len];exact hf)]at hm;rw[UM (by rw[M.len];exact hf)];exact congrArg some hm
  have:=N.zero f hf hm;show(s[f]?.join).getD 0=0;rw[this];rfl) n (US n)
 refine Wu λp=>?_;by_cases hp:p<n
 ·obtain⟨v,hv⟩:=W.done p hp;rw[vals p hp,Hue.at_some.mp hv,U p v hv]
 ·rw[Vn (by rw[W.len];omega),Vn (by rw[N.len];omega)]
theorem HJ{f:Nat->Bool}{k:Nat}(h:∀ i,i<k->f i=true):(((Uj k).map f).all id)=true:=Uq.mpr λb hb=>by
 obtain⟨i,hi,rfl⟩:=VH.mp hb;exact h i (V4.mp hi)
section
variable{Δ:Nat->Sn}
noncomputable def rt1(kw:Nat):Stm:=(.iff (.or (.not (.bi .isi (.cons (.var 3) (.cons (.tyc .list) .nil)))) (.or (.not (.bi .all (.cons (.comp ["_law_tie"] [] [] (.nm 0) (.seq (.var 3)) .no (.call kw (.cons (.var 0) .nil))) .nil))) (.cmp .NotEq (.var 3) (.srtset (.var 3))))) [(.ret (.c (.bl false)))] [])
noncomputable def rt2:Stm:=(.iff (.not (.bi .all (.cons (.comp ["_law_tie"] ["_law_ties"] [1] (.nm 0) (.seq (.var 3)) .no (.cmp .In (.var 0) (.var 1))) .nil))) [(.ret (.c (.bl false)))] [])
noncomputable def rt3(km:Nat):Stm:=(.loop (.nm 4) (.seq (.var 3)) [(.iff (.bi .any (.cons (.comp ["_law_other"] ["_law_tie","_law_web"] [4,0] (.nm 0) (.seq (.var 3)) (.yes (.cmp .NotEq (.var 0) (.var 1))) (.call km (.cons (.var 2) (.cons (.var 1) (.cons (.var 0) .nil))))) .nil)) [(.ret (.c (.bl false)))] [])])
noncomputable def rt5(ks:Nat):Stm:=(.asg (.nm 5) (.call ks (.cons (.var 0) .nil)))
noncomputable def rt6:Stm:=(.asg (.nm 6) (.comp ["_law_tie"] ["_law_found"] [3] (.nm 0) (.seq (.var 1)) (.yes (.cmp .NotIn (.var 0) (.var 1))) (.var 0)))
noncomputable def rt7(kg:Nat):Stm:=(.ret (.bi .all (.cons (.comp ["_law_tie"] ["_law_found","_law_web","_law_sides_here","_law_ranks_here"] [3,0,5,2] (.nm 0) (.seq (.var 6)) .no (.bi .any (.cons (.comp ["_law_other"] ["_law_web","_law_sides_here","_law_ranks_here","_law_tie"] [2,3,4,0] (.nm 0) (.seq (.var 1)) .no (.call kg (.cons (.var 1) (.cons (.var 2) (.cons (.var 3) (.cons (.var 4) (.cons (.var 0) .nil))))))) .nil))) .nil)))
noncomputable def IP(kw km ks kg:Nat):List Stm:=[rt1 kw,rt2,rt3 km,rt5 ks,rt6,rt7 kg]
theorem Rk(hΔ:∀ f,MonoN (Δ f)){kg:Nat}(hg:Ca (Δ kg)){n ls lr lf ll:Nat}{es:EE}{sd:List (Option Nat)}{rk:List Int}{J L:List Nat}{S:Sto}{Q:QE}{o1 o4:Option SV}(N:Norm n es sd)(hen:∀ e∈es,e.1<e.2/\e.2<n)(hs:S[ls]?=some (.lst (optsS sd)))(hr:S[lr]?=some (.lst (rk.map SV.int)))(hf:S[lf]?=some (.lst (natS J)))(hl:S[ll]?=some (.lst (natS L)))(rl:rk.length=es.length)(jl:∀ u∈J,u<es.length)(lt:∀ t∈L,t<es.length)(j9:J.length<=900)(l9:L.length<=900)
 (dom:∀ t∈L,∃ u∈J,(sdA sd (c8 es u)=sdA sd (c8 es t)/\rkA rk t<rkA rk u)\/(sdB sd (c8 es u)=sdB sd (c8 es t)/\rkA rk u<rkA rk t))
 (q:∀ S',Gw S S'->Q (.bl true) S'):wSs Δ [rt7 kg] (q0 Q) [some (g0 n es),o1,some (.loc lr),some (.loc lf),o4,some (.loc ls),some (.loc ll)] S:=by
 refine⟨_,rfl,_,c5 hl,?_⟩;refine DP hΔ (λ_=>true) (by rw[f6];omega) (λS' G=>by show S'[ll]?=S[ll]?;rw[hl,G.keep _ _ hl]) (λi x S' hx G=>?_) λS' G=>?_
 ·obtain⟨t,ht,rfl⟩:=A9 hx;have htm:=UO ht;have hf':=G.keep _ _ hf;refine⟨_,rfl,_,c5 hf',?_⟩;refine m5 (t7 hΔ _).2 (c6 hΔ _).1 (λj ys S2=>S2=S'/\∃ bs:List Bool,ys=bs.map SV.bl/\bs.length=j/\∀(k u:Nat),k<j->J[k]?=some u->((sdA sd (c8 es u)=sdA sd (c8 es t)/\rkA rk t<rkA rk u)\/(sdB sd (c8 es u)=sdB sd (c8 es t)/\rkA rk u<rkA rk t))->true∈bs) ⟨rfl,[],rfl,rfl,λk u h=>absurd h (W3 _)⟩ (λ_ _ S2 z=>by rw[z.1];exact rfl) ?_ ?_
  ·rintro j y ys S2 hy ⟨rfl,bs,rfl,bl,hb⟩;obtain⟨u,hu,rfl⟩:=A9 hy;have jj:=(gM hu).1;refine⟨_,rfl,_,rfl,_,rfl,_,rfl,_,rfl,hg N hen (G.keep _ _ hs) (G.keep _ _ hr) rl (lt t htm) (jl u (UO hu)) λv hv=>⟨by rw[UQ];show _<100000;omega,rfl,bs++[v],by rw[VI];rfl,by rw[UR,bl];rfl,λk u' hk hu' hd=>?_⟩⟩;by_cases e:k=j
   ·rw[e,hu]at hu';cases hu';rw[hv hd];simp
   ·exact Um _ (hb k u' (by omega) hu' hd)
  ·rintro ys S2 ⟨rfl,bs,rfl,bl,hb⟩;rw[f6]at bl hb;refine⟨_,bs,nofun,c5 c9,Bu _,?_⟩;obtain⟨u,hu,hd⟩:=dom t htm;obtain⟨k,hk⟩:=VQ hu;have:=hb k u (gM hk).1 hk hd;have e:bs.any id=true:=VL.mpr ⟨true,this,rfl⟩;rw[e];exact⟨rfl,G.push⟩
 ·rw[f6];have e:((Uj L.length).map λ_=>SV.bl true)=((Uj L.length).map λ_=>true).map SV.bl:=by rw[V9];rfl
  rw[e];refine⟨_,_,nofun,c5 c9,Bu _,?_⟩;rw[HJ (f:=λ_=>true) λ_ _=>rfl];exact q _ G.push
theorem Rm{n t u:Nat}{es:EE}{sd:List (Option Nat)}(N:Norm n es sd)(hen:∀ e∈es,e.1<e.2/\e.2<n)(ht:t<es.length)(hu:u<es.length)(s:Shr es t u):sdA sd (c8 es t)=sdA sd (c8 es u)\/sdB sd (c8 es t)=sdB sd (c8 es u):=by
 obtain⟨p,h1,h2⟩:=s
 have ends:∀{t},t<es.length->(p=(c8 es t).1\/p=(c8 es t).2)->(p=sdA sd (c8 es t)/\sd[p]?=some (some 0))\/(p=sdB sd (c8 es t)/\sd[p]?=some (some 1)):=λ{t} ht h=>by
  have he:=hen _ (UO (p8 ht));have z:=DR N (UO (p8 ht)) ⟨by omega,he.2⟩ (by omega);have en:=AA sd (c8 es t);have eb:sdB sd (c8 es t)=farE (c8 es t) (sdA sd (c8 es t)):=rfl;by_cases e:p=sdA sd (c8 es t)
  ·exact .inl ⟨e,e▸z.1⟩
  ·have:p=sdB sd (c8 es t):=by
    rw[eb];unfold farE;rcases en with en | en
    ·rw[en]at e ⊢;rw[iP rfl];exact h.resolve_left e
    ·rw[en]at e ⊢;rw[iG (by omega)];exact h.resolve_right e
   exact .inr ⟨this,this▸z.2⟩
 rcases ends ht h1 with⟨a,b⟩ | ⟨a,b⟩<;>rcases ends hu h2 with⟨c,d⟩ | ⟨c,d⟩
 ·exact .inl (a.symm.trans c)
 ·rw[b]at d;cases d
 ·rw[b]at d;cases d
 ·exact .inr (a.symm.trans c)
noncomputable def Fo(s:Sn):Prop:=∀{n lt lr lf:Nat} {es:EE} {T J:List Nat} {rk:List Int} {S:Sto} {Q:QE},Norm n es (sdF n es)->(∀ e∈es,e.1<e.2/\e.2<n)->es.length<=900->n<=900->S[lt]?=some (.lst (natS T))->S[lr]?=some (.lst (rk.map SV.int))->S[lf]?=some (.lst (natS J))->rk.length=es.length->(∀ t∈T,t<es.length)->T.length<=900->J.Pairwise (·<·)->J.length<128->
 StbP T (λt=>sdA (sdF n es) (c8 es t)) (λt=>sdB (sdF n es) (c8 es t)) (rkA rk) (λt=>t∈J)->(∀ S',Gw S S'->Q (.bl true) S')->s [g0 n es,.loc lt,.loc lr,.loc lf] S Q
theorem HK(hΔ:∀ f,MonoN (Δ f)){kw km ks kg:Nat}(hw:BL (Δ kw))(hm:Fh (Δ km))(hs:Ba (Δ ks))(hg:Ca (Δ kg)){D:Df}(hb:D.body=IP kw km ks kg)(hN:D.N.length=7)(hp:D.ps.length=4):Fo (j6 Δ D):=by
 intro n lt lr lf es T J rk S Q N hen e9 n9 hT hr hf rl tT t9 up j1 st q;unfold j6;rw[hb,hN];have jl:∀ u∈J,u<es.length:=λu hu=>tT u (st.sub u hu);have jn:J.Nodup:=up.imp Ug;generalize hsd:sdF n es=sd at *;refine⟨hp.symm,_,rfl,.list,nofun,Ra hf,_,rfl,ifF rfl ⟨_,rfl,_,c5 hf,?_⟩⟩;refine DP hΔ (λ_=>true) (by rw[f6];omega) (λS' G=>by show S'[lf]?=S[lf]?;rw[hf,G.keep _ _ hf]) (λi x S' hx G=>?_) λS1 G1=>?_
 ·obtain⟨t,ht,rfl⟩:=A9 hx;exact⟨_,rfl,hw ⟨rfl,G⟩⟩
 rw[f6];have e1:((Uj J.length).map λ_=>SV.bl true)=((Uj J.length).map λ_=>true).map SV.bl:=by rw[V9];rfl
 rw[e1];have f1:=e7 (o:=SO.lst (((Uj J.length).map λ_=>true).map SV.bl)) (G1.keep _ _ hf);have G2:=G1.push (o:=SO.lst (((Uj J.length).map λ_=>true).map SV.bl));refine⟨_,_,nofun,c5 c9,Bu _,_,rfl,ifF (by rw[HJ (f:=λ_=>true) λ_ _=>rfl];rfl) ?_⟩;generalize S1++[SO.lst (((Uj J.length).map λ_=>true).map SV.bl)]=S2 at *
 have es1:(srt (CN (J.map λ(a:Nat)=>(a:Int)))).map SV.int=natS J:=by
  rw[Oq (E2 jn λa _ b _ e=>VC.mp e),<-GF (.refl _) (WH.mpr (up.imp λh=>Int.ofNat_le.mpr (Vf h))),Fk]
 refine⟨_,rfl,_,rfl,_,_,c5 f1,EY J,by rw[UQ];exact j1,?_⟩;rw[es1];refine⟨_,_,e7 f1,c9,.inl ⟨AO _,AO _⟩,_,rfl,?_⟩;rw[Fg];refine ifF rfl (i9 ?_);have f2:=e7 (o:=SO.lst (natS J)) f1;have G3:=G2.push (o:=SO.lst (natS J));generalize S2++[SO.lst (natS J)]=S3 at *;refine⟨_,rfl,_,c5 f2,?_⟩;refine DP hΔ (λ_=>true) (by rw[f6];omega) (λS' G=>by show S'[lf]?=S3[lf]?;rw[f2,G.keep _ _ f2]) (λi x S' hx G=>?_) λS4 G4=>?_
 ·obtain⟨t,ht,rfl⟩:=A9 hx;have hT':=G.keep _ _ (G3.keep _ _ hT);refine⟨_,rfl,_,rfl,?_⟩;show match CI (.loc lt) S' with | some ms=>_ | none=>_
  rw[DC hT'];refine⟨rfl,_,c5 hT',AO _,?_,G⟩;show SV.bl (inS (.int (t:Nat)) (natS T))=_;rw[HF,decide_eq_true (st.sub t (UO ht))]
 rw[f6,e1];refine⟨_,_,nofun,c5 c9,Bu _,_,rfl,ifF (by rw[HJ (f:=λ_=>true) λ_ _=>rfl];rfl) (i9 ?_)⟩;have f4:=e7 (o:=SO.lst (((Uj J.length).map λ_=>true).map SV.bl)) (G4.keep _ _ f2);have G5:=(G3.trans G4).push (o:=SO.lst (((Uj J.length).map λ_=>true).map SV.bl));generalize S4++[SO.lst (((Uj J.length).map λ_=>true).map SV.bl)]=S5 at *;refine⟨_,rfl,_,c5 f4,?_⟩;refine B0 (l6 hΔ _) (λi ρ S'=>Gw S5 S'/\∃ o4,ρ=[some (g0 n es),some (.loc lt),some (.loc lr),some (.loc lf),o4,none,none]) ⟨Gw.refl _,_,rfl⟩ (λ_ _ S' z=>by show S'[lf]?=S5[lf]?;rw[f4];exact z.1.keep _ _ f4) ?_ ?_
 ·rintro i x ρ S' E hE _ hx ⟨G,o4,rfl⟩;obtain⟨t,ht,rfl⟩:=A9 hx;have tm:=UO ht;have f':=G.keep _ _ f4;refine⟨_,rfl,_,c5 f',?_⟩;refine m5 (t7 hΔ _).2 (c6 hΔ _).1 (λj ys S2=>S2=S'/\∃ k,ys=(Ue k false).map SV.bl/\k<=j) ⟨rfl,0,rfl,US _⟩ (λ_ _ S2 z=>by rw[z.1];exact rfl) ?_ ?_
  ·rintro j y ys S2 hy ⟨rfl,k,rfl,kj⟩;obtain⟨u,hu,rfl⟩:=A9 hy;have um:=UO hu;have jj:=(gM hu).1;refine⟨_,rfl,_,rfl,_,rfl,?_⟩;refine ifB (λz=>?_) (λz=>⟨rfl,k,rfl,by omega⟩);have ne:u≠t:=λe=>by subst e;simp at z
   refine⟨_,rfl,_,rfl,_,rfl,hm (jl t tm) (jl u um) λv hv=>⟨by rw[UQ,WD];show _<100000;omega,rfl,k+1,?_,by omega⟩⟩
   have:v=false:=by
    cases v with
    | false=>rfl
    | true=>
      have ab:=Rm N hen (jl t tm) (jl u um) (hv.mp rfl);exact absurd (st.ap t u tm um ab) (Ne.symm ne)
   rw[this,List.replicate_succ',VI];rfl
  ·rintro ys S2 ⟨rfl,k,rfl,kj⟩;refine⟨_,_,nofun,c5 c9,Bu _,_,rfl,ifF ?_ (i9 (Δ:=Δ) (i9 (Δ:=Δ) (hE _ _ ⟨G.push,_,rfl⟩)))⟩;rw[Xg];intro b hb;rw[(Xd.mp hb).2];simp
 ·rintro ρ S6 ⟨G6,o4,rfl⟩;have hn:∀ e∈es,e.1<n/\e.2<n:=λe he=>by have:=hen e he;omega
  have es2:=HI hn N;refine⟨_,rfl,hs hen (by omega) (by omega) (λ_ ls S7 O=>?_) (λ⟨e,he,z⟩=>by rw[es2]at z;exact absurd z (N.un e he))⟩;rw[es2]at O;have G7:=(G5.trans G6).trans O.g;have hT7:=G7.keep _ _ hT;have hf7:=G7.keep _ _ hf;refine⟨_,rfl,_,c5 hT7,?_⟩;refine m5 (t7 hΔ _).2 (c6 hΔ _).1 (λi ys S'=>S'=S7/\ys=natS ((T.take i).filter λt=>!decide (t∈J))) ⟨rfl,rfl⟩ (λ_ _ S' z=>by rw[z.1];exact rfl) ?_ ?_
  ·rintro i x ys S' hx ⟨rfl,rfl⟩;obtain⟨t,ht,rfl⟩:=A9 hx;have il:=(gM ht).1;have fs:=Ml (P:=λt=>!decide (t∈J)) ht;have fl:=Vo (λt=>!decide (t∈J)) (T.take i);rw[VJ]at fl;refine⟨_,rfl,_,rfl,?_⟩;show match CI (.loc lf) S' with | some ms=>_ | none=>_
   rw[DC hf7];refine⟨rfl,_,c5 hf7,AO _,_,rfl,?_⟩;show if (!inS (.int (t:Nat)) (natS J))=true then _ else _
   rw[HF];refine ifB (λz=>?_) (λz=>⟨rfl,?_⟩)
   ·rw[iP z]at fs;exact⟨_,rfl,by rw[f6];show _<100000;omega,rfl,by rw[fs,i5];rfl⟩
   ·rw[iG (by rw[z];decide),VF]at fs;rw[fs]
  ·rintro ys S' ⟨rfl,rfl⟩;rw[f6,WL];have fl:=Vo (λt=>!decide (t∈J)) T;refine Rk hΔ hg N hen (e7 O.at') (e7 (G7.keep _ _ hr)) (e7 hf7) c9 rl jl (λt ht=>tT t (Ve.mp ht).1) (by omega) (by omega) (λt ht=>?_) λS8 G8=>q S8 (G7.push.trans G8);obtain⟨h1,h2⟩:=Ve.mp ht;rw[Uu,decide_eq_false_iff_not]at h2;exact st.dom t h1 h2
noncomputable def sd2(kd:Nat):Stm:=(.asg (.nm 2) (.ix (.lst (.cons (.op .Add (.c (.int 2)) (.call kd (.cons (.var 0) (.cons (.c (.int 7)) .nil)))) (.cons (.op .Add (.c (.int 14)) (.call kd (.cons (.var 0) (.cons (.c (.int 17)) .nil)))) .nil))) (.bi .int (.cons (.var 1) .nil))))
noncomputable def sd3(kd:Nat):Stm:=(.asg (.nm 3) (.comp ["_law_k"] ["_law_tape_here"] [0] (.nm 0) (.rng1 (.var 2)) .no (.ife (.cmp .Lt (.var 0) (.c (.int 2))) (.op .Mod (.var 0) (.c (.int 2))) (.call kd (.cons (.var 1) (.cons (.c (.int 2)) .nil))))))
noncomputable def sd6(kd:Nat):Stm:=(.asg (.nm 6) (.call kd (.cons (.var 0) (.cons (.var 2) .nil))))
noncomputable def sd7:Stm:=(.asg (.nm 7) (.comp ["_law_k"] ["_law_sides_here","_law_one"] [3,6] (.nm 0) (.rng1 (.var 2)) (.yes (.cmp .NotEq (.ix (.var 1) (.var 0)) (.ix (.var 1) (.var 2)))) (.var 0)))
noncomputable def sd8(kd:Nat):Stm:=(.asg (.nm 8) (.ix (.var 7) (.call kd (.cons (.var 0) (.cons (.bi .len (.cons (.var 7) .nil)) .nil)))))
noncomputable def sd9:Stm:=(.expr (.mt .append (.var 4) (.cons (.tup (.cons (.bi .min (.cons (.var 6) (.cons (.var 8) .nil))) (.cons (.bi .max (.cons (.var 6) (.cons (.var 8) .nil))) .nil))) .nil)))
noncomputable def sdI(kd:Nat):Stm:=(.iff (.cmp .Eq (.call kd (.cons (.var 0) (.cons (.c (.int 8)) .nil))) (.c (.int 0))) [(.expr (.mt .insert (.var 4) (.cons (.c (.int 0)) (.cons (.ix (.var 4) (.call kd (.cons (.var 0) (.cons (.bi .len (.cons (.var 4) .nil)) .nil)))) .nil))))] [])
noncomputable def sdL(kd:Nat):Stm:=(.loop (.nm 5) (.rng1 (.ix (.lst (.cons (.call kd (.cons (.var 0) (.cons (.c (.int 13)) .nil))) (.cons (.op .Sub (.c (.int 41)) (.call kd (.cons (.var 0) (.cons (.c (.int 9)) .nil)))) .nil))) (.bi .int (.cons (.var 1) .nil)))) [sd6 kd,sd7,sd8 kd,sd9,sdI kd])
noncomputable def N0(kd:Nat):List Stm:=[sd2 kd,sd3 kd,(.asg (.nm 4) (.lst .nil)),sdL kd,(.ret (.tup (.cons (.var 2) (.cons (.bi .tuple (.cons (.var 4) .nil)) .nil))))]
noncomputable def sCS(cs:List Nat)(p:Nat):Nat:=cs.getD p 0
structure SdJ(t l3 l4 n:Nat)(cs:List Nat)(S0 S:Sto)(es:EE):Prop where
 T:TapeS S t
 O:On t S0 S
 s3:S0.length<=l3
 s4:l3<l4
 h3:S[l3]?=some (.lst (natS cs))
 h4:S[l4]?=some (.lst (es.map pairS))
 en:∀ e∈es,e.1<e.2/\e.2<n/\sCS cs e.1≠sCS cs e.2
theorem P1(hΔ:∀ f,MonoN (Δ f)){kd:Nat}(hd:B1 (Δ kd)){E:EndsS}{t l3 l4 n:Nat}{cs:List Nat}{S0 S:Sto}{es:EE}{o1 o5 o6 o7 o8:Option SV}(I:SdJ t l3 l4 n cs S0 S es)(t0:t<S0.length)(n3:2<=n/\n<=30)(cl:cs.length=n)(c0:sCS cs 0=0)(c1:sCS cs 1=1)(e9:es.length<=900)
 (q:∀(o6 o7 o8:Option SV) (es':EE) (S':Sto),SdJ t l3 l4 n cs S0 S' es'->es'.length<=es.length+2->E.nx [some (.loc t),o1,some (.int (n:Nat)),some (.loc l3),some (.loc l4),o5,o6,o7,o8] S'):
 wSs Δ [sd6 kd,sd7,sd8 kd,sd9,sdI kd] E [some (.loc t),o1,some (.int (n:Nat)),some (.loc l3),some (.loc l4),o5,o6,o7,o8] S:=by
 have s3:=I.s3;have s4:=I.s4;refine⟨_,rfl,_,rfl,hd I.T (by omega) (by omega) λz S1 z0 z1 T1 O1 _=>?_⟩;obtain⟨p,rfl⟩:=W9 z0;have pn:p<n:=by omega
 have h3:=O1.keep _ _ (by omega) I.h3;have h4:=O1.keep _ _ (by omega) I.h4;have O1:=I.O.trans O1;show wSs Δ (sd7::_) E [some (.loc t),o1,some (.int (n:Nat)),some (.loc l3),some (.loc l4),o5,some (.int (p:Nat)),o7,o8] S1
 have get:∀ k,k<n->atI (natS cs) (k:Nat)=some (.int (sCS cs k:Nat)):=λk hk=>by
  refine f9 (Ap ?_);unfold sCS;rw[UW,UM (by omega)];rfl
 refine⟨_,rfl,_,rfl,⟨by omega,by omega⟩,?_⟩;refine m5 (t7 hΔ _).2 (c6 hΔ _).1 (λj ys S'=>S'=S1/\ys=natS ((Uj j).filter λk=>!decide (sCS cs k=sCS cs p))) ⟨rfl,rfl⟩ (λ_ _ _ _=>trivial) ?_ ?_
 ·rintro j y ys S' hy ⟨rfl,rfl⟩;obtain⟨rfl,hj⟩:=A8 hy;rw[Vw]at hj ⊢;have hj:j<n:=by omega
  have fl:=CY (λk=>!decide (sCS cs k=sCS cs p)) j;have fs:=Ff (λk=>!decide (sCS cs k=sCS cs p)) j;refine⟨_,rfl,_,rfl,_,_,c5 h3,get j hj,_,rfl,_,rfl,_,_,c5 h3,get p pn,_,rfl,?_⟩;have e:decide (((sCS cs j:Nat):Int)=((sCS cs p:Nat):Int))=decide (sCS cs j=sCS cs p):=by rw[decide_eq_decide];exact VC
  show if (!decide (((sCS cs j:Nat):Int)=((sCS cs p:Nat):Int)))=true then _ else _
  rw[e];refine ifB (λz=>?_) (λz=>⟨rfl,?_⟩)
  ·rw[iP z]at fs;exact⟨_,rfl,by rw[f6];show _<100000;omega,rfl,by rw[fs,i5];rfl⟩
  ·rw[iG (by rw[z];decide),VF]at fs;rw[fs]
 ·rintro ys S' ⟨rfl,rfl⟩;rw[v5,show(((n:Nat):Int) - 0).toNat=n by omega];generalize hF:(Uj n).filter (λk=>!decide (sCS cs k=sCS cs p))=F
  have fm:∀ k,k∈F↔k<n/\sCS cs k≠sCS cs p:=λk=>by
   rw[<-hF,Ve,V4,Uu,decide_eq_false_iff_not]
  have fl:F.length<=n:=by rw[<-hF];exact CY _ _
  have fp:0<F.length:=by
   rcases WU F.length with z | z
   ·have z:=Vk.mp z;exfalso;by_cases y:sCS cs p=0
    ·have:=(fm 1).mpr ⟨by omega,by rw[c1,y];decide⟩;rw[z]at this;cases this
    ·have:=(fm 0).mpr ⟨by omega,by rw[c0];exact λe=>y e.symm⟩;rw[z]at this;cases this
   ·exact z
  have T2:=T1.push (o:=SO.lst (natS F));have O2:=O1.push (o:=SO.lst (natS F));have h3:=e7 (o:=SO.lst (natS F)) h3;have h4:=e7 (o:=SO.lst (natS F)) h4;have h7:(S'++[SO.lst (natS F)])[S'.length]?=some (SO.lst (natS F)):=c9;have tl:=T1.lt;show wSs Δ (sd8 kd::_) E [some (.loc t),o1,some (.int (n:Nat)),some (.loc l3),some (.loc l4),o5,some (.int (p:Nat)),some (.loc S'.length),o8] (S'++[SO.lst (natS F)]);generalize S'.length=k7 at *;generalize S'++[SO.lst (natS F)]=S2 at *;refine⟨_,rfl,_,rfl,_,rfl,_,c5 h7,?_⟩;show Δ kd [.loc t,.int (((natS F).length:Nat):Int)] S2 _;rw[f6];refine hd T2 (by omega) (by omega) λz S3 z0 z1 T3 O3 _=>?_;have fz:=UM (show z.toNat<F.length by omega);generalize F[z.toNat]'(by omega)=r at fz
  have az:atI (natS F) z=some (.int (r:Nat)):=by
   rw[show z=((z.toNat:Nat):Int) by omega];exact f9 (Ap fz)
  obtain⟨rn,rc⟩:=(fm r).mp (UO fz);have rp:r≠p:=λe=>rc (by rw[e]);have h3:=O3.keep _ _ (by omega) h3;have h4:=O3.keep _ _ (by omega) h4;have h7:=O3.keep _ _ (by omega) h7;have O3:=O2.trans O3;refine⟨_,_,c5 h7,az,?_⟩;show wSs Δ [sd9,sdI kd] E [some (.loc t),o1,some (.int (n:Nat)),some (.loc l3),some (.loc l4),o5,some (.int (p:Nat)),some (.loc k7),some (.int (r:Nat))] S3
  obtain⟨a,b,ea,eb,ab,bn,abc⟩:∃ a b:Nat,(if ((r:Nat):Int)<((p:Nat):Int) then ((r:Nat):Int) else ((p:Nat):Int))=(a:Int)/\(if ((r:Nat):Int)>((p:Nat):Int) then ((r:Nat):Int) else ((p:Nat):Int))=(b:Int)/\a<b/\b<n/\sCS cs a≠sCS cs b:=by
   rcases W5 r p with h | h
   ·exact⟨r,p,iP (by omega),iG (by omega),h,pn,rc⟩
   ·exact⟨p,r,iG (by omega),iP (by omega),by omega,rn,Ne.symm rc⟩
  refine⟨_,rfl,⟨_,_,rfl,h4⟩,_,rfl,_,rfl,_,rfl,_,rfl,by show 2<=100000;decide,?_⟩;refine⟨_,h4,by rw[UQ];show _<100000;omega,?_⟩;have ep:SV.tup [.int (if ((r:Nat):Int)<((p:Nat):Int) then ((r:Nat):Int) else ((p:Nat):Int)),.int (if ((r:Nat):Int)>((p:Nat):Int) then ((r:Nat):Int) else ((p:Nat):Int))]=pairS (a,b):=by rw[ea,eb];rfl
  rw[ep];have tl3:=T3.lt
  have I4:SdJ t l3 l4 n cs S0 (S3.set l4 (.lst (es.map pairS++[pairS (a,b)]))) (es++[(a,b)]):=⟨T3.other (by omega),O3.new (by omega),s3,s4,by rw[j4 (by omega)];exact h3,by rw[m9 h4,VI];rfl,λe he=>by
   rcases Ul.mp he with he | he
   ·exact I.en e he
   ·rw[UT.mp he];exact⟨ab,bn,abc⟩⟩
  have el:(es++[(a,b)]).length=es.length+1:=by rw[UR];rfl
  generalize es++[(a,b)]=fs at *;generalize S3.set l4 (.lst (es.map pairS++[pairS (a,b)]))=S4 at *;refine⟨_,rfl,hd I4.T (by decide) (by decide) λw S5 w0 w1 T5 O5 _=>⟨_,rfl,?_⟩⟩;have h35:=O5.keep _ _ (by omega) I4.h3;have h45:=O5.keep _ _ (by omega) I4.h4;have O5':=I4.O.trans O5;refine ifD (λ_=>?_) (λ_=>i9 (Δ:=Δ) (i9 (Δ:=Δ) (q _ _ _ fs S5 ⟨T5,O5',s3,s4,h35,h45,I4.en⟩ (by omega))));refine⟨_,rfl,⟨_,_,rfl,h45⟩,_,rfl,_,rfl,_,rfl,_,c5 h45,?_⟩;show Δ kd [.loc t,.int (((fs.map pairS).length:Nat):Int)] S5 _;rw[UQ];refine hd T5 (by omega) (by omega) λw S6 w0 w1 T6 O6 _=>?_;have h36:=O6.keep _ _ (by omega) h35;have h46:=O6.keep _ _ (by omega) h45;have O6':=O5'.trans O6;have fw:=UM (show w.toNat<fs.length by omega);generalize fs[w.toNat]'(by omega)=e at fw
  have aw:atI (fs.map pairS) w=some (pairS e):=by
   rw[show w=((w.toNat:Nat):Int) by omega];exact f9 (by rw[UZ,fw];rfl)
  refine⟨_,_,c5 h46,aw,_,h46,⟨by omega,by omega⟩,by rw[UQ];show _<100000;omega,i9 (Δ:=Δ) (i9 (Δ:=Δ) (q _ _ _ (e::fs) _ ⟨T6.other (by have:=T6.lt;omega),O6'.new (by omega),s3,s4,by rw[j4 (by omega)];exact h36,by rw[m9 h46];rfl,λe' he'=>?_⟩ (by rw[VG];omega)))⟩;rcases Ub.mp he' with rfl | he'
  ·exact I4.en _ (UO fw)
  ·exact I4.en e' he'
noncomputable def IQ(s:Sn):Prop:=∀{t:Nat} {g:Bool} {S:Sto} {Q:QE},TapeS S t->(∀(n:Nat) (es:EE) (S':Sto),Web2 n es->n<=30->es.length<=84->TapeS S' t->On t S S'->Q (g0 n es) S')->s [.loc t,.bl g] S Q
theorem IR(hΔ:∀ f,MonoN (Δ f)){kd:Nat}(hd:B1 (Δ kd)){t l3 l4 n m:Nat}{cs:List Nat}{S0 S:Sto}{Q:QE}{o1 o5 o6 o7 o8:Option SV}(I:SdJ t l3 l4 n cs S0 S [])(t0:t<S0.length)(n3:2<=n/\n<=30)(cl:cs.length=n)(c0:sCS cs 0=0)(c1:sCS cs 1=1)(c2:∀ c∈cs,c<2)(m4:m<=42){z:Int}(hz:z=(m:Nat))
 (q:∀(n:Nat) (es:EE) (S':Sto),Web2 n es->n<=30->es.length<=84->TapeS S' t->On t S0 S'->Q (g0 n es) S'):
 v8 (λ_=>True) (.nm 5) (wSs Δ [sd6 kd,sd7,sd8 kd,sd9,sdI kd]) {q0 Q with nx:=λρ S=>wSs Δ [(.ret (.tup (.cons (.var 2) (.cons (.bi .tuple (.cons (.var 4) .nil)) .nil))))] (q0 Q) ρ S} (Ay 0 z) [some (.loc t),o1,some (.int (n:Nat)),some (.loc l3),some (.loc l4),o5,o6,o7,o8] S:=by
 subst hz;refine B0 (l6 hΔ _) (λi ρ S'=>∃(o5 o6 o7 o8:Option SV) (es:EE),ρ=[some (.loc t),o1,some (.int (n:Nat)),some (.loc l3),some (.loc l4),o5,o6,o7,o8]/\es.length<=2 * i/\SdJ t l3 l4 n cs S0 S' es) ⟨_,_,_,_,[],rfl,VX _,I⟩ (λ_ _ _ _=>trivial) ?_ ?_
 ·rintro i x ρ S' E hE _ hx ⟨o5,o6,o7,o8,es,rfl,el,I'⟩;have il:=(gM hx).1;rw[v5]at il;exact P1 hΔ hd I' t0 n3 cl c0 c1 (by omega) λo6 o7 o8 es' S'' I'' el'=>hE _ _ ⟨_,_,_,_,es',rfl,by omega,I''⟩
 ·rintro ρ S' ⟨o5,o6,o7,o8,es,rfl,el,I'⟩;rw[v5]at el;refine⟨_,rfl,_,rfl,_,c5 I'.h4,by show 2<=100000;decide,q n es S' ⟨λe he=>⟨(I'.en e he).1,(I'.en e he).2.1⟩,by omega,by omega,sCS cs,λp=>?_,λe he=>(I'.en e he).2.2⟩ n3.2 (by omega) I'.T I'.O⟩;unfold sCS;rw[UW];cases h:cs[p]? with
  | none=>show(0:Nat)<2;decide
  | some c=>exact c2 c (UO h)
theorem N1(hΔ:∀ f,MonoN (Δ f)){kd:Nat}(hd:B1 (Δ kd)){D:Df}(hb:D.body=N0 kd)(hN:D.N.length=9)(hp:D.ps.length=2):IQ (j6 Δ D):=by
 intro t g S Q T q;unfold j6;rw[hb,hN];have t0:=T.lt
 have key:∀(z:Int) (n:Nat) (S1:Sto),z=n->2<=n->n<=30->TapeS S1 t->On t S S1->wSs Δ [sd3 kd,(.asg (.nm 4) (.lst .nil)),sdL kd,(.ret (.tup (.cons (.var 2) (.cons (.bi .tuple (.cons (.var 4) .nil)) .nil))))] (q0 Q) [some (.loc t),some (.bl g),some (.int z),none,none,none,none,none,none] S1:=by
  rintro _ n S1 rfl n2 n3 T1 O1;refine⟨_,rfl,_,rfl,⟨by omega,by omega⟩,?_⟩;refine m5 (t7 hΔ _).2 (c6 hΔ _).1 (λj ys S'=>∃ cs:List Nat,ys=natS cs/\cs.length=j/\(∀ c∈cs,c<2)/\(∀ k,k<2->k<j->cs[k]?=some k)/\TapeS S' t/\On t S S') ⟨[],rfl,rfl,(λ_ h=>nomatch h),λk _ h=>absurd h (W3 _),T1,O1⟩ (λ_ _ _ _=>trivial) ?_ ?_
  ·rintro j y ys S' hy ⟨cs,rfl,cl,c2,ck,T2,O2⟩;obtain⟨rfl,hj⟩:=A8 hy;rw[Vw]at hj ⊢
   have fin:∀(c:Nat) (S'':Sto),c<2->(j<2->c=j)->TapeS S'' t->On t S S''->(natS cs).length<100000/\∃ cs':List Nat,natS cs++[SV.int (c:Nat)]=natS cs'/\cs'.length=j+1/\(∀ c∈cs',c<2)/\(∀ k,k<2->k<j+1->cs'[k]?=some k)/\TapeS S'' t/\On t S S'':=λc S'' hc hj2 T3 O3=>by
    refine⟨by rw[f6];omega,cs++[c],by rw[i5];rfl,by rw[UR,cl];rfl,λc' h=>?_,λk hk hkj=>?_,T3,O3⟩
    ·rcases Ul.mp h with h | h
     ·exact c2 c' h
     ·rw[UT.mp h];exact hc
    ·by_cases e:k=j
     ·rw[e,<-cl,Uw (US _),XC];show some c=some cs.length;rw[hj2 (by omega),cl]
     ·rw[Ud (by omega)];exact ck k hk (by omega)
   refine⟨_,rfl,_,rfl,?_⟩;refine ifD (λz=>⟨_,rfl,show(0:Int)<2 by decide,?_⟩) (λz=>⟨_,rfl,hd T2 (by decide) (by decide) λr S3 r0 r1 T3 O3 _=>?_⟩)
   ·have hj2:j<2:=by omega
    have e:((j:Nat):Int) % 2=((j:Nat):Int):=by omega
    have fj:=fin j S' hj2 (λ_=>rfl) T2 O2;rw[show(SV.int ((j:Nat):Int))=SV.int (((j:Nat):Int) % 2) by rw[e]]at fj;exact fj
   ·obtain⟨r,rfl⟩:=W9 r0;exact fin r S3 (by omega) (λh=>absurd h (by omega)) T3 (O2.trans O3)
  ·rintro ys S2 ⟨cs,rfl,cl,c2,ck,T2,O2⟩;rw[v5,show(((n:Nat):Int) - 0).toNat=n by omega]at cl ck;have c0:sCS cs 0=0:=by unfold sCS;rw[UW,ck 0 (by decide) (by omega)];rfl
   have c1:sCS cs 1=1:=by unfold sCS;rw[UW,ck 1 (by decide) (by omega)];rfl
   have T3:=T2.push (o:=SO.lst (natS cs));have O3:=O2.push (o:=SO.lst (natS cs));have h3:(S2++[SO.lst (natS cs)])[S2.length]?=some (SO.lst (natS cs)):=c9;have s3:=O2.len;have l3:(S2++[SO.lst (natS cs)]).length=S2.length+1:=by simp
   show wSs Δ (_::_) (q0 Q) [some (.loc t),some (.bl g),some (.int (n:Nat)),some (.loc S2.length),none,none,none,none,none] (S2++[SO.lst (natS cs)]);generalize S2.length=k3 at *;generalize S2++[SO.lst (natS cs)]=S3 at *;refine⟨by show 0<=100000;decide,?_⟩;have I:SdJ t k3 S3.length n cs S (S3++[SO.lst []]) []:=⟨T3.push,O3.push,s3,by omega,e7 h3,c9,(λ_ h=>nomatch h)⟩
   show wSs Δ (_::_) (q0 Q) [some (.loc t),some (.bl g),some (.int (n:Nat)),some (.loc k3),some (.loc S3.length),none,none,none,none] (S3++[SO.lst []]);generalize S3.length=k4 at *;generalize S3++[SO.lst []]=S4 at *;have k34:=I.s4;refine⟨_,rfl,hd I.T (by decide) (by decide) λa S5 a0 a1 T5 O5 _=>⟨_,rfl,hd T5 (by decide) (by decide) λb S6 b0 b1 T6 O6 _=>⟨by show 2<=100000;decide,_,rfl,?_⟩⟩⟩;have O56:=O5.trans O6;have I6:SdJ t k3 k4 n cs S (S6++[SO.lst [.int a,.int (41 - b)]]) []:=⟨T6.push,(I.O.trans O56).push,I.s3,k34,e7 (O56.keep _ _ (by omega) I.h3),e7 (O56.keep _ _ (by omega) I.h4),(λ_ h=>nomatch h)⟩
   have hx:(S6++[SO.lst [.int a,.int (41 - b)]])[S6.length]?=some (SO.lst [.int a,.int (41 - b)]):=c9;obtain⟨a,rfl⟩:=W9 a0;obtain⟨b',hb'⟩:∃ b':Nat,41 - b=(b':Int):=⟨(41 - b).toNat,by omega⟩
   cases g with
   | false=>exact⟨_,_,c5 hx,rfl,_,rfl,⟨by omega,by omega⟩,IR (m:=a) hΔ hd I6 t0 ⟨n2,n3⟩ cl c0 c1 c2 (by omega) rfl q⟩
   | true=>exact⟨_,_,c5 hx,rfl,_,rfl,⟨by omega,by omega⟩,IR (m:=b') hΔ hd I6 t0 ⟨n2,n3⟩ cl c0 c1 c2 (by omega) hb' q⟩
 refine⟨hp.symm,_,rfl,hd T (by decide) (by decide) λa S1 a0 a1 T1 O1 _=>⟨_,rfl,hd T1 (by decide) (by decide) λb S2 b0 b1 T2 O2 _=>⟨by show 2<=100000;decide,_,rfl,?_⟩⟩⟩;have hx:(S2++[SO.lst [.int (2+a),.int (14+b)]])[S2.length]?=some (SO.lst [.int (2+a),.int (14+b)]):=c9;cases g with
 | false=>exact⟨_,_,c5 hx,rfl,key (2+a) (2+a).toNat _ (by omega) (by omega) (by omega) T2.push (O1.trans O2).push⟩
 | true=>exact⟨_,_,c5 hx,rfl,key (14+b) (14+b).toNat _ (by omega) (by omega) (by omega) T2.push (O1.trans O2).push⟩
end
theorem EZ{f g:SV->Option PyData}(h:∀ x d,f x=some d->g x=some d):∀(xs:List SV) (ds:List PyData),xs.mapM f=some ds->xs.mapM g=some ds
 | [],ds,e=>e
 | x::xs,ds,e=>by
   rw[XS]at e ⊢;cases h1:f x with
   | none=>rw[h1]at e;cases e
   | some d=>
     rw[h1]at e;cases h2:xs.mapM f with
     | none=>rw[h2]at e;cases e
     | some ds'=>
       rw[h2]at e;rw[h x d h1,EZ h xs ds' h2];exact e
theorem HL{S S':Sto}(G:Gw S S'):∀(m:Nat) (x:SV) (d:PyData),p7 m S x=some d->p7 m S' x=some d
 | 0,x,d,h=>by cases x<;>exact h
 | m+1,x,d,h=>by
   cases x with
   | loc k=>
     have h:(match S[k]? with | some (SO.lst xs)=>(xs.mapM (p7 m S)).map PyData.list | _=>none)=some d:=h;show(match S'[k]? with | some (SO.lst xs)=>(xs.mapM (p7 m S')).map PyData.list | _=>none)=some d;cases e:S[k]? with
     | none=>rw[e]at h;cases h
     | some o=>
       rw[e]at h;rw[G.keep _ _ e];cases o with
       | lst xs=>
         have h:(xs.mapM (p7 m S)).map PyData.list=some d:=h;show(xs.mapM (p7 m S')).map PyData.list=some d;cases e2:xs.mapM (p7 m S) with
         | none=>rw[e2]at h;cases h
         | some ds=>rw[e2]at h;rw[EZ (λx d=>HL G m x d) xs ds e2];exact h
       | _=>cases h
   | tup xs=>
     have h:(xs.mapM (p7 m S)).map PyData.tuple=some d:=h;show(xs.mapM (p7 m S')).map PyData.tuple=some d;cases e2:xs.mapM (p7 m S) with
     | none=>rw[e2]at h;cases h
     | some ds=>rw[e2]at h;rw[EZ (λx d=>HL G m x d) xs ds e2];exact h
   | _=>exact h
theorem Ea{S:Sto}{k b l m:Nat}{xs:List SV}(hl:S[l]?=some (.lst xs))(h:∀ y∈xs,∃ d,p7 m S y=some d/\Sz k b d):∃ d,p7 (m+1) S (.loc l)=some d/\Sz (k+1) (xs.length * (b+1)) d:=by
 obtain⟨ds,hs,hz⟩:=DO h;refine⟨.list ds,?_,hz.list⟩;show(match S[l]? with | some (SO.lst xs)=>(xs.mapM (p7 m S)).map PyData.list | _=>none)=_;rw[hl];show(YO (p7 m S) _).map _=_;rw[hs];rfl
theorem IS{S:Sto}{k b m:Nat}{xs:List SV}(h:∀ y∈xs,∃ d,p7 m S y=some d/\Sz k b d):∃ d,p7 (m+1) S (.tup xs)=some d/\Sz (k+1) (xs.length * (b+1)) d:=by
 obtain⟨ds,hs,hz⟩:=DO h;refine⟨.tuple ds,?_,hz.tuple⟩;show(YO (p7 m S) _).map _=_;rw[hs];rfl
theorem IT{S:Sto}{m:Nat}{i:Int}(h:-1000<=i/\i<=1000000000000):∃ d,p7 m S (.int i)=some d/\Sz 0 0 d:=⟨.int i,by cases m<;>rfl,UJ ⟨by omega,by omega⟩⟩
structure Hd48(S:Sto)(h:Nat)(x y:SV)(T:List Nat)(rk:List Int):Prop where
 hh:S[h]?=some (.lst [x,y])
 sx:seqS x S=some (natS T)
 sy:seqS y S=some (rk.map SV.int)
 kx:(∃ k,x = .loc k)\/x = .tup (natS T)
 ky:(∃ k,y = .loc k)\/y = .tup (rk.map SV.int)
theorem IU{k:Nat}{S:Sto}{xs:List SV}(h:seqS (.loc k) S=some xs):S[k]?=some (.lst xs):=by
 cases e:S[k]? with
 | none=>simp only[seqS,e]at h;cases h
 | some o=>
   cases o with
   | lst ys=>simp only[seqS,e]at h;cases h;rfl
   | _=>simp only[seqS,e]at h;cases h
theorem Hd48.text{S:Sto}{h:Nat}{x y:SV}{T:List Nat}{rk:List Int}(X:Hd48 S h x y T rk)(tl:T.length<=90)(t9:∀ t∈T,t<=1000)(rl:rk.length<=90)(r9:∀ z∈rk,-1000<=z/\z<=1000000000000):∃ d,p7 20 S (.loc h)=some d/\Fit d:=by
 have ix:∀ v∈natS T,∃ d,p7 18 S v=some d/\Sz 0 0 d:=λv hv=>by
  obtain⟨t,ht,rfl⟩:=VH.mp hv;have:=t9 t ht;exact IT ⟨by omega,by omega⟩
 have iy:∀ v∈rk.map SV.int,∃ d,p7 18 S v=some d/\Sz 0 0 d:=λv hv=>by
  obtain⟨z,hz,rfl⟩:=VH.mp hv;exact IT (r9 z hz)
 have dx:∃ d,p7 19 S x=some d/\Sz 1 100 d:=by
  obtain⟨d,hd,z⟩:∃ d,p7 19 S x=some d/\Sz 1 ((natS T).length * (0+1)) d:=by
   rcases X.kx with⟨k,rfl⟩ | rfl
   ·exact Ea (IU X.sx) ix
   ·exact IS ix
  exact⟨d,hd,z.mono (US _) (by rw[f6];omega)⟩
 have dy:∃ d,p7 19 S y=some d/\Sz 1 100 d:=by
  obtain⟨d,hd,z⟩:∃ d,p7 19 S y=some d/\Sz 1 ((rk.map SV.int).length * (0+1)) d:=by
   rcases X.ky with⟨k,rfl⟩ | rfl
   ·exact Ea (IU X.sy) iy
   ·exact IS iy
  exact⟨d,hd,z.mono (US _) (by rw[UQ];omega)⟩
 obtain⟨d,hd,z⟩:=Ea (k:=1) (b:=100) (m:=19) X.hh λv hv=>by
  rcases Ub.mp hv with rfl | hv
  ·exact dx
  ·rw[UT.mp hv];exact dy
 exact⟨d,hd,z.fit (by decide) (by show 2 * 101<=100000;decide)⟩
end Rf
namespace Hue
open PySem L2 Rf
noncomputable def La:Stm:=(.asg (.nm 8) (.bi .str (.cons (.var 7) .nil)))
noncomputable def Lb:Stm:=(.asg (.nm 9) (.call 14 (.cons (.var 3) (.cons (.ix (.var 7) (.c (.int 0))) (.cons (.ix (.var 7) (.c (.int 1))) .nil)))))
noncomputable def Lc:Stm:=(.iff (.or (.not (.call 24 (.cons (.var 3) (.cons (.var 6) (.cons (.var 4) (.cons (.var 9) .nil)))))) (.cmp .NotEq (.bi .str (.cons (.var 7) .nil)) (.var 8))) [(.ret (.c (.bl false)))] [])
noncomputable def Ld:Stm:=(.asg (.nm 10) (.bi .list (.cons (.var 9) .nil)))
noncomputable def Le:Stm:=(.expr (.mt .append (.var 9) (.cons (.c (.int 0)) .nil)))
noncomputable def Lf:Stm:=(.iff (.cmp .NotEq (.call 14 (.cons (.var 3) (.cons (.ix (.var 7) (.c (.int 0))) (.cons (.ix (.var 7) (.c (.int 1))) .nil)))) (.var 10)) [(.ret (.c (.bl false)))] [])
noncomputable def Lg:Stm:=(.asg (.nm 6) (.call 22 (.cons (.var 2) (.cons (.var 3) .nil))))
noncomputable def Lh:Stm:=(.asg (.nm 7) (.ix (.lst (.cons (.lst (.cons (.bi .list (.cons (.var 6) .nil)) (.cons (.bi .list (.cons (.var 4) .nil)) .nil))) (.cons (.lst (.cons (.bi .tuple (.cons (.var 6) .nil)) (.cons (.bi .tuple (.cons (.var 4) .nil)) .nil))) .nil))) (.var 5)))
noncomputable def top(i:Nat):Stmt:=PySem.Challenge.pw_huedties_k48_settled_pairs.main.body.getD i (.Pass ⟨0,0,0,0⟩)
noncomputable def b0:List Stm:=Gz
noncomputable def d0:Df:=⟨"is_number",top 6,["thing"],["thing"],b0⟩
noncomputable def b1:List Stm:=Dx 0
noncomputable def d1:Df:=⟨"has_place",top 8,["web","place"],["web","place"],b1⟩
noncomputable def b2:List Stm:=ID 0
noncomputable def d2:Df:=⟨"has_tie",top 9,["web","tie"],["web","tie"],b2⟩
noncomputable def b3:List Stm:=ET 1
noncomputable def d3:Df:=⟨"check_place",top 10,["web","place"],["web","place"],b3⟩
noncomputable def b4:List Stm:=ET 2
noncomputable def d4:Df:=⟨"check_tie",top 11,["web","tie"],["web","tie"],b4⟩
noncomputable def b5:List Stm:=IE 3
noncomputable def d5:Df:=⟨"ties_at",top 12,["web","place"],["web","place"],b5⟩
noncomputable def b6:List Stm:=IF 4
noncomputable def d6:Df:=⟨"far_end",top 13,["web","tie","place"],["web","tie","place","one","other"],b6⟩
noncomputable def b7:List Stm:=Po 5 6
noncomputable def d7:Df:=⟨"give_sides",top 15,["web","start","sides","back"],["web","start","sides","back","waiting","place","tie","far"],b7⟩
noncomputable def b8:List Stm:=FY 6
noncomputable def d8:Df:=⟨"way_back",top 16,["web","place","back"],["web","place","back","way"],b8⟩
noncomputable def b9:List Stm:=Pn 8
noncomputable def d9:Df:=⟨"ring_through",top 17,["web","tie","back"],["web","tie","back","one","other","up","down"],b9⟩
noncomputable def b10:List Stm:=Tm 7 9
noncomputable def d10:Df:=⟨"two_sides",top 18,["web"],["web","sides","back","place","tie","one","other"],b10⟩
noncomputable def b11:List Stm:=Fe 10
noncomputable def d11:Df:=⟨"sides_of",top 19,["web"],["web","word","row"],b11⟩
noncomputable def b12:List Stm:=IM
noncomputable def d12:Df:=⟨"place_of_side",top 21,["web","sides","tie","side"],["web","sides","tie","side","one","other"],b12⟩
noncomputable def b13:List Stm:=Pt "asks_of" ⟨85,32,85,58⟩ 12
noncomputable def d13:Df:=⟨"asks_of",top 22,["web","sides","ties","ranks"],["web","sides","ties","ranks","asks","tie","place"],b13⟩
noncomputable def b14:List Stm:=Fn 11 13 6 12
noncomputable def d14:Df:=⟨"settled_pairs",top 23,["web","ties","ranks"],["web","ties","ranks","sides","asks","held","waiting","place","tie","far","best"],b14⟩
noncomputable def b15:List Stm:=Pl
noncomputable def d15:Df:=⟨"_law_tape",top 25,["_law_script","_law_k"],["_law_script","_law_k","_law_cell","_law_digits"],b15⟩
noncomputable def b16:List Stm:=Pm
noncomputable def d16:Df:=⟨"_law_draw",top 26,["_law_tape_here","_law_many"],["_law_tape_here","_law_many","_law_found","_law_once"],b16⟩
noncomputable def b17:List Stm:=N0 16
noncomputable def d17:Df:=⟨"_law_sided",top 27,["_law_tape_here","_law_great"],["_law_tape_here","_law_great","_law_many","_law_sides_here","_law_ties","_law_turn","_law_one","_law_others","_law_other"],b17⟩
noncomputable def b18:List Stm:=E1
noncomputable def d18:Df:=⟨"_law_sides",top 28,["_law_web"],["_law_web","_law_sides_here","_law_place","_law_turn","_law_one","_law_other"],b18⟩
noncomputable def b19:List Stm:=Ps
noncomputable def d19:Df:=⟨"_law_meet",top 29,["_law_web","_law_one","_law_other"],["_law_web","_law_one","_law_other"],b19⟩
noncomputable def b20:List Stm:=Gz
noncomputable def d20:Df:=⟨"_law_whole",top 30,["_law_thing"],["_law_thing"],b20⟩
noncomputable def b21:List Stm:=Mw 16 19
noncomputable def d21:Df:=⟨"_law_ranks",top 31,["_law_tape_here","_law_web"],["_law_tape_here","_law_web","_law_many","_law_found","_law_tie","_law_taken","_law_free","_law_left","_law_order","_law_step","_law_begin"],b21⟩
noncomputable def b22:List Stm:=Mu 16
noncomputable def d22:Df:=⟨"_law_some_ties",top 32,["_law_tape_here","_law_web"],["_law_tape_here","_law_web","_law_most","_law_left"],b22⟩
noncomputable def b23:List Stm:=My
noncomputable def d23:Df:=⟨"_law_goes_ahead",top 33,["_law_web","_law_sides_here","_law_ranks_here","_law_tie","_law_other"],["_law_web","_law_sides_here","_law_ranks_here","_law_tie","_law_other","_law_place"],b23⟩
noncomputable def b24:List Stm:=IP 20 19 18 23
noncomputable def d24:Df:=⟨"_law_right",top 34,["_law_web","_law_ties","_law_ranks_here","_law_found"],["_law_web","_law_ties","_law_ranks_here","_law_found","_law_tie","_law_sides_here","_law_left"],b24⟩
noncomputable def b25:List Stm:=[(.loop (.nm 1) (.rng1 (.op .Add (.c (.int 1)) (.bi .min (.cons (.c (.int 7)) (.cons (.bi .len (.cons (.var 0) .nil)) .nil))))) [(.asg (.nm 2) (.call 15 (.cons (.var 0) (.cons (.var 1) .nil)))),(.asg (.nm 3) (.call 17 (.cons (.var 2) (.cons (.and (.cmp .Eq (.var 1) (.c (.int 0))) (.cmp .Eq (.call 16 (.cons (.var 2) (.cons (.c (.int 8)) .nil))) (.c (.int 0)))) .nil)))),(.asg (.nm 4) (.call 21 (.cons (.var 2) (.cons (.var 3) .nil)))),(.loop (.nm 5) (.rng1 (.c (.int 2))) [Lg,Lh,La,Lb,Lc,Ld,Le,Lf])]),(.ret (.cmp .Eq (.call 14 (.cons (.tup (.cons (.c (.int 3)) (.cons (.tup .nil) .nil))) (.cons (.lst .nil) (.cons (.lst .nil) .nil)))) (.lst .nil)))]
noncomputable def d25:Df:=⟨"law",top 35,["_law_script"],["_law_script","_law_k","_law_tape_here","_law_web","_law_ranks_here","_law_turn","_law_ties","_law_handed","_law_kept","_law_found","_law_due"],b25⟩
noncomputable def prog:List Df:=[d0,d1,d2,d3,d4,d5,d6,d7,d8,d9,d10,d11,d12,d13,d14,d15,d16,d17,d18,d19,d20,d21,d22,d23,d24,d25]
theorem Fp:prog.all (Oc (prog.map (·.name)))=true:=by decide +kernel
theorem hW(d:Nat):∀ f,MonoN (W prog d f):=DB d
theorem s0(d:Nat):BL (W prog (d+1) 0):=FV (Δ:=W prog d) (D:=d0) rfl rfl rfl
theorem s1(d:Nat):BY (W prog (d+2) 1):=FW (Δ:=W prog (d+1)) (D:=d1) (s0 d) rfl rfl rfl
theorem s2(d:Nat):DD (W prog (d+2) 2):=Jf (Δ:=W prog (d+1)) (D:=d2) (s0 d) rfl rfl rfl
theorem s3(d:Nat):B2 (W prog (d+3) 3):=DV (Δ:=W prog (d+2)) (D:=d3) (s1 d) rfl rfl rfl
theorem s4(d:Nat):BZ (W prog (d+3) 4):=FX (Δ:=W prog (d+2)) (D:=d4) (s2 d) rfl rfl rfl
theorem s5(d:Nat):DE (W prog (d+4) 5):=Jg (Δ:=W prog (d+3)) (D:=d5) (hW _) (s3 d) rfl rfl rfl
theorem s6(d:Nat):AN (W prog (d+4) 6):=Jh (Δ:=W prog (d+3)) (D:=d6) (s4 d) rfl rfl rfl
theorem s7(d:Nat):HC (W prog (d+5) 7):=Oi (Δ:=W prog (d+4)) (D:=d7) (hW _) (s5 d) (s6 d) rfl rfl rfl
theorem s8(d:Nat):CC (W prog (d+5) 8):=HB (Δ:=W prog (d+4)) (D:=d8) (s6 d) rfl rfl rfl
theorem s9(d:Nat):EU (W prog (d+6) 9):=Oh (Δ:=W prog (d+5)) (D:=d9) (s8 d) rfl rfl rfl
theorem s10(d:Nat):MU (W prog (d+7) 10):=Rb (Δ:=W prog (d+6)) (D:=d10) (hW _) (s7 (d+1)) (s9 d) rfl rfl rfl
theorem s11(d:Nat):DM (W prog (d+8) 11):=Jo (Δ:=W prog (d+7)) (D:=d11) (s10 d) rfl rfl rfl
theorem s12(d:Nat):AQ (W prog (d+1) 12):=Jq (Δ:=W prog d) (D:=d12) rfl rfl rfl
theorem s13(d:Nat):HG "asks_of" ⟨85,32,85,58⟩ (W prog (d+2) 13):=Ow (Δ:=W prog (d+1)) (D:=d13) (hW _) (s12 d) rfl rfl rfl
theorem s14(d:Nat):E4 "asks_of" ⟨85,32,85,58⟩ (W prog (d+9) 14):=HH (Δ:=W prog (d+8)) (D:=d14) (hW _) (s11 d) (s13 (d+6)) (s6 (d+4)) (s12 (d+7)) rfl rfl rfl
theorem s15(d:Nat):MN (W prog (d+1) 15):=Og (Δ:=W prog d) (D:=d15) rfl rfl rfl
theorem s16(d:Nat):B1 (W prog (d+1) 16):=Of (Δ:=W prog d) (D:=d16) rfl rfl rfl
theorem s17(d:Nat):IQ (W prog (d+2) 17):=N1 (Δ:=W prog (d+1)) (D:=d17) (hW _) (s16 d) rfl rfl rfl
theorem s18(d:Nat):Ba (W prog (d+1) 18):=Fc (Δ:=W prog d) (D:=d18) (hW _) rfl rfl rfl
theorem s19(d:Nat):Fh (W prog (d+1) 19):=Mg (Δ:=W prog d) (D:=d19) rfl rfl rfl
theorem s20(d:Nat):BL (W prog (d+1) 20):=FV (Δ:=W prog d) (D:=d20) rfl rfl rfl
theorem s21(d:Nat):IO (W prog (d+2) 21):=Mx (Δ:=W prog (d+1)) (D:=d21) (hW _) (s16 d) (s19 d) rfl rfl rfl
theorem s22(d:Nat):IN (W prog (d+2) 22):=Mv (Δ:=W prog (d+1)) (D:=d22) (hW _) (s16 d) rfl rfl rfl
theorem s23(d:Nat):Ca (W prog (d+1) 23):=Mz (Δ:=W prog d) (D:=d23) (hW _) rfl rfl rfl
theorem s24(d:Nat):Fo (W prog (d+2) 24):=HK (Δ:=W prog (d+1)) (D:=d24) (hW _) (s20 d) (s19 d) (s18 d) (s23 d) rfl rfl rfl
theorem Rn{sd:List (Option Nat)}{es:EE}{t u:Nat}(e:sdA sd (c8 es t)=sdA sd (c8 es u)\/sdB sd (c8 es t)=sdB sd (c8 es u)):Shr es t u:=by
 rcases e with e | e
 ·exact⟨_,AA sd _,by rw[e];exact AA sd _⟩
 ·exact⟨_,u9 (AA sd _),by have e:farE (c8 es t) (sdA sd (c8 es t))=farE (c8 es u) (sdA sd (c8 es u)):=e;rw[e];exact u9 (AA sd _)⟩
theorem N3{es:EE}{t u:Nat}(s:Shr es t u):Shr es u t:=let ⟨p,a,b⟩:=s;⟨p,b,a⟩
theorem Ro{n:Nat}{es:EE}{T:List Nat}{rk:List Int}(lt:∀ t∈T,t<es.length)(rr:∀ a b,a<b->b<es.length->Shr es a b->rkA rk a≠rkA rk b):Gx T (λt=>sdA (sdF n es) (c8 es t)) (λt=>sdB (sdF n es) (c8 es t)) (rkA rk):=λt ht u hu ne e=>by
 have s:=Rn e;rcases W5 t u with h | h
 ·exact rr t u h (lt u hu) s
 ·exact λz=>rr u t (by omega) (lt t ht) (N3 s) z.symm
theorem P2{T J J':List Nat}{A B:Nat->Nat}{r:Nat->Int}(U:Gx T A B r)(a:BestP T A B r λt=>t∈J)(b:BestP T A B r λt=>t∈J')(h:J.Pairwise (·<·))(h':J'.Pairwise (·<·)):J=J':=Tu h h' (a.uniq U b)
theorem P3{E:EndsS}{n lt lr h t:Nat}{x y:SV}{es:EE}{T:List Nat}{rk:List Int}{S:Sto}{o0 o1 o5 o8 o9 o10:Option SV}(Wb:Web2 n es)(n3:n<=30)(e8:es.length<=84)(tb:S[0]?=some (.tbl "asks_of" ⟨85,32,85,58⟩))(hT:S[lt]?=some (.lst (natS T)))(hr:S[lr]?=some (.lst (rk.map SV.int)))(X:Hd48 S h x y T rk)(nd:T.Nodup)(tl:∀ t∈T,t<es.length)(rl:rk.length=es.length)(rr:∀ a b,a<b->b<es.length->Shr es a b->rkA rk a≠rkA rk b)(r9:∀ z∈rk,-1000<=z/\z<=1000000000000)
 (q:∀(o8 o9 o10:Option SV) (S1 S':Sto) (lf:Nat) (o:SO),Gw S S1->S.length<=lf->Gw (S1.set lf o) S'->E.nx [o0,o1,some (.loc t),some (g0 n es),some (.loc lr),o5,some (.loc lt),some (.loc h),o8,o9,o10] S'):
 wSs (W prog 10) [La,Lb,Lc,Ld,Le,Lf] E [o0,o1,some (.loc t),some (g0 n es),some (.loc lr),o5,some (.loc lt),some (.loc h),o8,o9,o10] S:=by
 have tn:T.length<=es.length:=by
  have:=List.Nodup.length_le_of_subset nd (l₂:=Uj es.length) λt ht=>V4.mpr (tl t ht)
  rwa [VY]at this
 obtain⟨c,c2,cne⟩:=Wb.two;have no:=Mf (n:=n) (es:=es) (c:=c) ⟨Wb.en,c2,cne⟩;have U:=Ro (n:=n) tl rr;obtain⟨d,hd,ft⟩:=X.text (by omega) (λt ht=>by have:=tl t ht;omega) (by omega) r9;refine⟨_,rfl,d,hd,ft,?_⟩;show wSs (W prog 10) [Lb,Lc,Ld,Le,Lf] E [o0,o1,some (.loc t),some (g0 n es),some (.loc lr),o5,some (.loc lt),some (.loc h),some (.str (Es d)),o9,o10] S;refine⟨_,rfl,_,rfl,_,_,c5 X.hh,rfl,_,rfl,_,_,c5 X.hh,rfl,s14 1 tb Wb.en (by omega) (by omega) no X.sx X.sy rl tl nd (by omega) (λ_=>U) λlf J S1 N G1 l0 hJ up bs=>?_⟩;show wSs (W prog 10) [Lc,Ld,Le,Lf] E [o0,o1,some (.loc t),some (g0 n es),some (.loc lr),o5,some (.loc lt),some (.loc h),some (.str (Es d)),some (.loc lf),o10] S1;have jn:J.length<=T.length:=List.Nodup.length_le_of_subset (up.imp Ug) λt ht=>bs.st.sub t ht;refine⟨_,rfl,_,rfl,_,rfl,_,rfl,s24 8 N Wb.en (by omega) (by omega) (G1.keep _ _ hT) (G1.keep _ _ hr) hJ rl tl (by omega) up (by omega) bs.st λS2 G2=>⟨_,rfl,ifF rfl ?_⟩⟩;have G12:=G1.trans G2;refine⟨_,rfl,d,HL G12 20 _ d hd,ft,_,rfl,_,rfl,ifF (by simp) (i9 ?_)⟩;have hJ2:=G2.keep _ _ hJ;refine⟨_,rfl,_,c5 hJ2,?_⟩;show wSs (W prog 10) [Le,Lf] E [o0,o1,some (.loc t),some (g0 n es),some (.loc lr),o5,some (.loc lt),some (.loc h),some (.str (Es d)),some (.loc lf),some (.loc S2.length)] (S2++[.lst (natS J)]);have ll:=(gM hJ2).1;have hJ3:=e7 (o:=SO.lst (natS J)) hJ2;have hd3:(S2++[SO.lst (natS J)])[S2.length]?=some (SO.lst (natS J)):=c9;have G3:=G12.push (o:=SO.lst (natS J));generalize S2.length=ld at *;generalize S2++[SO.lst (natS J)]=S3 at *;refine⟨_,rfl,⟨_,_,rfl,hJ3⟩,_,hJ3,by rw[f6];show _<100000;omega,?_⟩;have G4:Gw S (S3.set lf (.lst (natS J++[.int 0]))):=G3.put l0;have hd4:(S3.set lf (.lst (natS J++[.int 0])))[ld]?=some (SO.lst (natS J)):=by rw[j4 (by omega)];exact hd3
 have key:∀ S4,S4=S3.set lf (.lst (natS J++[.int 0]))->wSs (W prog 10) [Lf] E [o0,o1,some (.loc t),some (g0 n es),some (.loc lr),o5,some (.loc lt),some (.loc h),some (.str (Es d)),some (.loc lf),some (.loc ld)] S4:=λS4 e4=>by
  rw[<-e4]at G4 hd4;refine⟨_,rfl,_,rfl,_,_,c5 (G4.keep _ _ X.hh),rfl,_,rfl,_,_,c5 (G4.keep _ _ X.hh),rfl,s14 1 (G4.keep _ _ tb) Wb.en (by omega) (by omega) no (Bb X.sx G4) (Bb X.sy G4) rl tl nd (by omega) (λ_=>U) λlf2 J2 S5 N2 G5 l5 hJ5 up5 bs5=>⟨_,rfl,?_⟩⟩;have eJ:=P2 U bs5 bs up5 up;rw[eJ]at hJ5;refine⟨_,_,hJ5,G5.keep _ _ hd4,.inl ⟨AO _,AO _⟩,_,rfl,?_⟩;rw[Fg];exact ifF rfl (i9 (Δ:=W prog 10) (i9 (Δ:=W prog 10) (q _ _ _ S3 S5 lf _ G3 l0 (e4▸G5))))
 exact key _ rfl
theorem N4{E:EndsS}{n lr t i:Nat}{es:EE}{rk:List Int}{S:Sto}{o0 o1 o6 o7 o8 o9 o10:Option SV}(Wb:Web2 n es)(n3:n<=30)(e8:es.length<=84)(T:TapeS S t)(tr:t≠lr)(t0:0<t)(tb:S[0]?=some (.tbl "asks_of" ⟨85,32,85,58⟩))(hr:S[lr]?=some (.lst (rk.map SV.int)))(rl:rk.length=es.length)(rr:∀ a b,a<b->b<es.length->Shr es a b->rkA rk a≠rkA rk b)(r9:∀ z∈rk,-1000<=z/\z<=1000000000000)(i2:i<2)
 (q:∀(o6 o7 o8 o9 o10:Option SV) (S':Sto),TapeS S' t->S'[0]?=some (.tbl "asks_of" ⟨85,32,85,58⟩)->S'[lr]?=some (.lst (rk.map SV.int))->E.nx [o0,o1,some (.loc t),some (g0 n es),some (.loc lr),some (.int (i:Nat)),o6,o7,o8,o9,o10] S'):
 wSs (W prog 10) [Lg,Lh,La,Lb,Lc,Ld,Le,Lf] E [o0,o1,some (.loc t),some (g0 n es),some (.loc lr),some (.int (i:Nat)),o6,o7,o8,o9,o10] S:=by
 refine⟨_,rfl,_,rfl,s22 8 T (by omega) λlt P S0 T0 O0 l0 hP nd tl=>?_⟩;show wSs (W prog 10) [Lh,La,Lb,Lc,Ld,Le,Lf] E [o0,o1,some (.loc t),some (g0 n es),some (.loc lr),some (.int (i:Nat)),some (.loc lt),o7,o8,o9,o10] S0;have tb0:=O0.keep _ _ (by omega) tb;have hr0:=O0.keep _ _ (Ne.symm tr) hr;have i01:i=0\/i=1:=by omega
 have b2:2<=big:=by show 2<=100000;decide
 generalize eA:SO.lst (natS P)=A;generalize eB:SO.lst (rk.map SV.int)=B;have p1:(S0++[A])[S0.length]?=some A:=c9;have p2:((S0++[A])++[B])[(S0++[A]).length]?=some B:=c9;refine⟨_,rfl,_,c5 hP,?_⟩;rw[eA];refine⟨_,rfl,_,c5 (e7 hr0),?_⟩;rw[eB];generalize ea1:S0.length=a1 at *;generalize ea2:(S0++[A]).length=a2 at *;refine⟨b2,?_⟩;have G2:Gw S0 ((S0++[A])++[B]):=(Gw.refl S0).push.push;have p1:=e7 (o:=B) p1;generalize (S0++[A])++[B]=S2 at *;refine⟨_,rfl,_,c5 (e7 (G2.keep _ _ hP)),_,rfl,_,c5 (e7 (G2.keep _ _ hr0)),b2,b2,_,rfl,?_⟩;have q3:((S2++[SO.lst [.loc a1,.loc a2]])++[SO.lst [.tup (natS P),.tup (rk.map SV.int)]])[S2.length]?=some (SO.lst [.loc a1,.loc a2]):=e7 c9;have q4:((S2++[SO.lst [.loc a1,.loc a2]])++[SO.lst [.tup (natS P),.tup (rk.map SV.int)]])[(S2++[SO.lst [.loc a1,.loc a2]]).length]?=some (SO.lst [.tup (natS P),.tup (rk.map SV.int)]):=c9;have G4:Gw S2 ((S2++[SO.lst [.loc a1,.loc a2]])++[SO.lst [.tup (natS P),.tup (rk.map SV.int)]]):=(Gw.refl S2).push.push;generalize S2.length=a3 at *;generalize (S2++[SO.lst [.loc a1,.loc a2]]).length=a4 at *;generalize (S2++[SO.lst [.loc a1,.loc a2]])++[SO.lst [.tup (natS P),.tup (rk.map SV.int)]]=S4 at *;have h5:(S4++[SO.lst [SV.loc a3,.loc a4]])[S4.length]?=some (SO.lst [SV.loc a3,.loc a4]):=c9;have G5:Gw S0 (S4++[SO.lst [SV.loc a3,.loc a4]]):=(G2.trans G4).push;have G25:Gw S2 (S4++[SO.lst [SV.loc a3,.loc a4]]):=G4.push;have q3:=e7 (o:=SO.lst [SV.loc a3,.loc a4]) q3;have q4:=e7 (o:=SO.lst [SV.loc a3,.loc a4]) q4;generalize S4.length=a5 at *;generalize S4++[SO.lst [SV.loc a3,.loc a4]]=S5 at *
 have fin:∀(h:Nat) (x y:SV),Hd48 S5 h x y P rk->wSs (W prog 10) [La,Lb,Lc,Ld,Le,Lf] E [o0,o1,some (.loc t),some (g0 n es),some (.loc lr),some (.int (i:Nat)),some (.loc lt),some (.loc h),o8,o9,o10] S5:=λh x y X=>by
  refine P3 Wb n3 e8 (G5.keep _ _ tb0) (G5.keep _ _ hP) (G5.keep _ _ hr0) X nd tl rl rr r9 λo8 o9 o10 S6 S7 lf o G6 l5 G7=>?_;have kp:∀ k o',k<S5.length->S5[k]?=some o'->S7[k]?=some o':=λk o' hk h=>G7.keep _ _ (by rw[j4 (by omega)];exact G6.keep _ _ h);have T5:=G5.tape T0;obtain⟨a,b,ht,c⟩:=T5.ex;exact q _ _ _ _ _ S7 ⟨a,b,kp _ _ (y0 ht) ht,c⟩ (kp _ _ (y0 (G5.keep _ _ tb0)) (G5.keep _ _ tb0)) (kp _ _ (y0 (G5.keep _ _ hr0)) (G5.keep _ _ hr0))
 subst eA eB;rcases i01 with rfl | rfl
 ·exact⟨_,.loc a3,c5 h5,rfl,fin a3 (.loc a1) (.loc a2) ⟨q3,c5 (G25.keep _ _ p1),c5 (G25.keep _ _ p2),.inl ⟨_,rfl⟩,.inl ⟨_,rfl⟩⟩⟩
 ·exact⟨_,.loc a4,c5 h5,rfl,fin a4 (.tup (natS P)) (.tup (rk.map SV.int)) ⟨q4,rfl,rfl,.inr rfl,.inr rfl⟩⟩
theorem law_main(ns:List Int)(h:ns.length<=63):W prog 11 25 [.ro (ns.map SV.int)] [.tbl "asks_of" ⟨85,32,85,58⟩] λx _=>x = .bl true:=by
 show j6 (W prog 10) d25 _ _ _
 have hj:∃ m:Nat,1+(if ((ns.map SV.int).length:Int)<(7:Int) then ((ns.map SV.int).length:Int) else 7)=(m:Int)/\m<=8:=by
  rw[UQ];generalize ns.length=k;refine⟨1+min k 7,?_,by omega⟩;split<;>omega
 obtain⟨m,hm,hm4⟩:=hj;refine⟨rfl,_,rfl,_,rfl,m,congrArg SV.int hm,⟨by omega,by omega⟩,?_⟩;refine B0 (l6 (hW _) _) (λi ρ S'=>(∃ o1 o2 o3 o4 o5 o6 o7 o8 o9 o10,ρ=[some (.ro (ns.map SV.int)),o1,o2,o3,o4,o5,o6,o7,o8,o9,o10])/\S'[0]?=some (.tbl "asks_of" ⟨85,32,85,58⟩)) ⟨⟨_,_,_,_,_,_,_,_,_,_,rfl⟩,rfl⟩ (λ_ _ _ _=>trivial) ?_ ?_
 ·rintro i x ρ S E hE _ hx ⟨⟨o1,o2,o3,o4,o5,o6,o7,o8,o9,o10,rfl⟩,tb⟩;obtain⟨rfl,hi⟩:=A8 hx;rw[Vw]at hi ⊢;refine⟨_,rfl,_,rfl,s15 9 h (by omega) λa b ha hb hb2=>?_⟩;have T1:TapeS (S++[SO.lst [.int a,.int b]]) S.length:=⟨a,b,c9,ha,hb,hb2⟩
  have t0:=y0 tb;have tb:=e7 (o:=SO.lst [.int a,.int b]) tb;generalize S.length=t at *;generalize S++[SO.lst [.int a,.int b]]=S1 at *
  have web:∀(g:Bool) (S2:Sto),TapeS S2 t->On t S1 S2->W prog 10 17 [.loc t,.bl g] S2 λx S=>wSs (W prog 10) [(.asg (.nm 4) (.call 21 (.cons (.var 2) (.cons (.var 3) .nil)))),(.loop (.nm 5) (.rng1 (.c (.int 2))) [Lg,Lh,La,Lb,Lc,Ld,Le,Lf])] E [some (.ro (ns.map SV.int)),some (.int (i:Nat)),some (.loc t),some x,o4,o5,o6,o7,o8,o9,o10] S:=λg S2 T2 O2=>by
   refine s17 8 T2 λn es S3 Wb n3 e8 T3 O3=>?_;refine⟨_,rfl,_,rfl,s21 8 T3 (by omega) λlr rk S4 T4 O4 l4 hr rl rr r9=>?_⟩;have tb4:=O4.keep _ _ (by omega) (O3.keep _ _ (by omega) (O2.keep _ _ (by omega) tb));have tr:t≠lr:=by have:=T3.lt;omega
   refine⟨_,rfl,⟨by decide,by decide⟩,?_⟩;refine B0 (l6 (hW _) _) (λj ρ S'=>(∃ o5 o6 o7 o8 o9 o10,ρ=[some (.ro (ns.map SV.int)),some (.int (i:Nat)),some (.loc t),some (g0 n es),some (.loc lr),o5,o6,o7,o8,o9,o10])/\TapeS S' t/\S'[0]?=some (.tbl "asks_of" ⟨85,32,85,58⟩)/\S'[lr]?=some (.lst (rk.map SV.int))) ⟨⟨_,_,_,_,_,_,rfl⟩,T4,tb4,hr⟩ (λ_ _ _ _=>trivial) ?_ ?_
   ·rintro j y ρ S5 E' hE' _ hy ⟨⟨o5,o6,o7,o8,o9,o10,rfl⟩,T5,tb5,hr5⟩;obtain⟨rfl,hj⟩:=A8 hy;rw[Vw]at hj ⊢;exact N4 Wb n3 e8 T5 tr t0 tb5 hr5 rl rr r9 (by omega) λo6 o7 o8 o9 o10 S' T' tb' hr'=>hE' _ _ ⟨⟨_,_,_,_,_,_,rfl⟩,T',tb',hr'⟩
   ·rintro ρ S5 ⟨⟨o5,o6,o7,o8,o9,o10,rfl⟩,T5,tb5,hr5⟩;exact i9 (Δ:=W prog 10) (hE _ _ ⟨⟨_,_,_,_,_,_,_,_,_,_,rfl⟩,tb5⟩)
  refine⟨_,rfl,_,rfl,_,rfl,?_⟩;refine ifD (λ_=>⟨_,rfl,s16 9 T1 (by decide) (by decide) λr S2 r0 r1 T2 O2 _=>web _ S2 T2 O2⟩) (λ_=>web _ S1 T1 (On.refl t S1))
 ·rintro ρ S ⟨⟨o1,o2,o3,o4,o5,o6,o7,o8,o9,o10,rfl⟩,tb⟩;refine⟨by show 0<=100000;decide,by show 2<=100000;decide,by show 0<=100000;decide,by show 0<=100000;decide,?_⟩;refine s14 1 (n:=3) (es:=[]) (T:=[]) (rk:=[]) (e7 (e7 tb)) (λ_ h=>nomatch h) (VX _) (by decide) (Mf (n:=3) (es:=[]) (c:=λ_=>0) ⟨(λ_ h=>nomatch h),λ_=>by decide,(λ_ h=>nomatch h)⟩) (c5 (e7 c9)) (c5 c9) rfl (λ_ h=>nomatch h) Ws (by decide) (λ_ _ h=>nomatch h) λl J S1 _ G1 _ h1 _ bs=>?_
  have e:J=[]:=by
   cases J with
   | nil=>rfl
   | cons a J=>exact absurd (bs.st.sub a (by simp)) (by simp)
  rw[e]at h1;refine⟨by show 0<=100000;decide,?_⟩;exact⟨_,_,e7 h1,c9,.inr (.inl rfl),rfl⟩
end Hue
namespace PySem.W.Fast
theorem tw7435829929824889252:True:=⟨⟩
theorem tw12042956998297317919:True:=⟨⟩
theorem tw16877216128241527871:True:=⟨⟩
theorem tw5180388119754148745:True:=⟨⟩
theorem tw14562351156823607029:True:=⟨⟩
theorem tw3576673659752265572:True:=⟨⟩
theorem tw13079832253454509618:True:=⟨⟩
theorem tw15882227168328852542:True:=⟨⟩
theorem tw9876957489963944030:True:=⟨⟩
theorem tw18231973839728195045:True:=⟨⟩
theorem tw5266407789888144153:True:=⟨⟩
theorem tw16278630353900806046:True:=⟨⟩
theorem tw4711999242075715001:True:=⟨⟩
theorem tw4480965748545982205:True:=⟨⟩
theorem tw6365045082292770820:True:=⟨⟩
theorem tw17999866461001168622:True:=⟨⟩
theorem tw513634248060650405:True:=⟨⟩
theorem tw1634363157554723784:True:=⟨⟩
theorem tw14340640507761383800:True:=⟨⟩
theorem tw14850847658406340603:True:=⟨⟩
theorem tw16378315712339008841:True:=⟨⟩
theorem tw10643091555509993371:True:=⟨⟩
theorem tw12408804295174587390:True:=⟨⟩
theorem tw7499743403046911967:True:=⟨⟩
theorem tw6482585856189841476:True:=⟨⟩
theorem tw5129024141436045128:True:=⟨⟩
theorem tw16191179505241264984:True:=⟨⟩
theorem tw13812574035053963322:True:=⟨⟩
theorem tw17336502766419232399:True:=⟨⟩
theorem tw11826971469345179760:True:=⟨⟩
theorem tw326442199905246832:True:=⟨⟩
theorem tw11224200816061906531:True:=⟨⟩
theorem tw4518419700611313211:True:=⟨⟩
theorem tw6292511532860683301:True:=⟨⟩
theorem tw14425460233793546132:True:=⟨⟩
theorem tw8537153881745398955:True:=⟨⟩
theorem tw6179064661238659937:True:=⟨⟩
theorem tw5914664512697738111:True:=⟨⟩
theorem tw10605255276561544314:True:=⟨⟩
theorem tw6100354295892686901:True:=⟨⟩
theorem tw6950256333799413977:True:=⟨⟩
theorem tw11123710327730033964:True:=⟨⟩
theorem tw7180322163381736984:True:=⟨⟩
theorem tw8817507256381758285:True:=⟨⟩
theorem tw12603590015156258445:True:=⟨⟩
theorem tw8304944471525067531:True:=⟨⟩
theorem tw16045215518887362515:True:=⟨⟩
theorem tw8674598007589591471:True:=⟨⟩
theorem tw7842322139733708282:True:=⟨⟩
theorem tw9707534869201212963:True:=⟨⟩
theorem tw11201780284749826559:True:=⟨⟩
theorem tw15996638768440844935:True:=⟨⟩
theorem tw6047882146226554137:True:=⟨⟩
theorem tw5187754143599374818:True:=⟨⟩
theorem tw8642123983954652117:True:=⟨⟩
theorem tw2265240131035475328:True:=⟨⟩
theorem tw1067663899534756584:True:=⟨⟩
theorem tw13919924292876877454:True:=⟨⟩
theorem tw14760148177211876511:True:=⟨⟩
theorem tw16758837391886763609:True:=⟨⟩
theorem tw13681323162262252668:True:=⟨⟩
theorem tw3071421051848295061:True:=⟨⟩
theorem tw13704090892319815539:True:=⟨⟩
theorem tw9453671991770319804:True:=⟨⟩
theorem tw6199215621184985602:True:=⟨⟩
theorem tw14143498117045706810:True:=⟨⟩
theorem tw10163635185167696314:True:=⟨⟩
theorem tw11337347662473924121:True:=⟨⟩
theorem tw13401142212356680177:True:=⟨⟩
theorem tw10972195844558199827:True:=⟨⟩
theorem tw17399429805108494280:True:=⟨⟩
theorem tw16407303529013505911:True:=⟨⟩
theorem tw13380351910117330785:True:=⟨⟩
theorem tw4029633386193777592:True:=⟨⟩
theorem tw3390605771778274456:True:=⟨⟩
theorem tw17865664392681279801:True:=⟨⟩
theorem tw17737606436319763703:True:=⟨⟩
theorem tw18200023196177415738:True:=⟨⟩
theorem tw12915354183636128344:True:=⟨⟩
theorem tw6738131765171444352:True:=⟨⟩
theorem tw4882078997336048948:True:=⟨⟩
theorem tw18402282039737173537:True:=⟨⟩
theorem tw11797873992658802000:True:=⟨⟩
theorem tw9371627947131397199:True:=⟨⟩
theorem tw5075697563915976120:True:=⟨⟩
theorem tw16342038893622302369:True:=⟨⟩
theorem tw11414320575511401826:True:=⟨⟩
theorem tw5384674483210414405:True:=⟨⟩
theorem tw13257128968026702604:True:=⟨⟩
theorem tw11482031047434969554:True:=⟨⟩
theorem tw3680423248959850514:True:=⟨⟩
theorem tw3289401668621690064:True:=⟨⟩
theorem tw500957642668977516:True:=⟨⟩
theorem tw9539930260291772429:True:=⟨⟩
theorem tw8127586923468042365:True:=⟨⟩
theorem tw3484560102436850153:True:=⟨⟩
theorem tw4803374753076602752:True:=⟨⟩
theorem tw11967221096844707071:True:=⟨⟩
theorem tw11328067217618986104:True:=⟨⟩
theorem tw16108664425793185616:True:=⟨⟩
theorem tw6168439196875424049:True:=⟨⟩
theorem tw9857754307508396846:True:=⟨⟩
theorem tw8794261302153416147:True:=⟨⟩
theorem tw5543511436897089006:True:=⟨⟩
theorem tw18010739373994948795:True:=⟨⟩
theorem tw2329823247517908154:True:=⟨⟩
theorem tw15038333296766705511:True:=⟨⟩
theorem tw12326883139384736371:True:=⟨⟩
theorem tw15876917944935235304:True:=⟨⟩
theorem tw5775509782112465899:True:=⟨⟩
theorem tw17295515148750152012:True:=⟨⟩
theorem tw8533538741461700308:True:=⟨⟩
theorem tw7450279944123743080:True:=⟨⟩
theorem tw11736237439719146710:True:=⟨⟩
theorem tw4209863987002245098:True:=⟨⟩
theorem tw4061479969385684314:True:=⟨⟩
theorem tw3942156981443919247:True:=⟨⟩
theorem tw2715285681297972185:True:=⟨⟩
theorem tw18432185351139051508:True:=⟨⟩
theorem tw15278534188312333172:True:=⟨⟩
theorem tw13399768865092289893:True:=⟨⟩
theorem tw17802490375714968254:True:=⟨⟩
theorem tw9885807260124612489:True:=⟨⟩
theorem tw6415739940420441286:True:=⟨⟩
theorem tw4512372118944471035:True:=⟨⟩
theorem tw5152812890392981446:True:=⟨⟩
theorem tw1883170200991748827:True:=⟨⟩
theorem tw7848190595211766358:True:=⟨⟩
theorem tw8273549084166860651:True:=⟨⟩
theorem tw16586967336782189628:True:=⟨⟩
theorem tw10875451696668966707:True:=⟨⟩
theorem tw12537239604883852568:True:=⟨⟩
theorem tw2100897590456866270:True:=⟨⟩
theorem tw527568143922083505:True:=⟨⟩
end PySem.W.Fast
namespace Hue
open PySem L2 Rf
noncomputable def y6(K:UL)(nm:Str)(i:Nat):Prop:=∃(f:YT) (od an:Option YT) (sl:Array (Option YQ)) (oc kV dc pm cd ct:YQ),PySem.W.nsIn K Ya nm=some (some (.ref f))/\K.lookup f=some ⟨oc,od,.func (PySem.W.fnOf nm nm (defArgs (top i)) (defBody (top i)) (defScope (top i)) .none kV dc pm an cd ct),sl⟩/\PySem.W.codeIn K cd nm=true/\PySem.W.keepIn K (.ref f)=true
theorem lnkK_mk{K:UL}{nm:Str}{i:Nat}{f:YT}{od an:Option YT}{sl:Array (Option YQ)}{oc kV dc pm cd ct:YQ}(a:PySem.W.nsIn K Ya nm=some (some (.ref f)))(l:K.lookup f=some ⟨oc,od,.func (PySem.W.fnOf nm nm (defArgs (top i)) (defBody (top i)) (defScope (top i)) .none kV dc pm an cd ct),sl⟩)(c:PySem.W.codeIn K cd nm=true)(k:PySem.W.keepIn K (.ref f)=true):y6 K nm i:=⟨f,od,an,sl,oc,kV,dc,pm,cd,ct,a,l,c,k⟩
theorem j8{K:UL}{h:Heap}{mg:Str->Option YQ}(X:K.In h)(G:h.Ns Ya mg)(D:Df){i:Nat}(x:y6 K D.name i)(e:D.st=top i)(b:∀(kV doc pm:YQ) (an:Option YT) (cdv ct:YQ) (us:List YQ),us.length=D.ps.length->Zn (PySem.W.fnOf D.name D.name (defArgs (top i)) (defBody (top i)) (defScope (top i)) .none kV doc pm an cdv ct) ⟨us,[]⟩=pure (D.ps.zip us)):PIn K mg D:=by
 obtain⟨_,_,_,_,_,_,_,_,_,_,a,l,c,k⟩:=x;exact⟨_,_,e▸GA (st:=top i) l c k,IB a l,PySem.W.mg_of X G a,k,(GA (st:=top i) l c k).binds (ps:=D.ps) b⟩
theorem p0{P:Df->Prop}{D:Df}{l:List Df}(a:P D)(b:∀ x∈l,P x):∀ x∈D::l,P x:=List.forall_mem_cons.mpr ⟨a,b⟩
theorem all_mk{l:PySem.W.OpenLaw}{w:Yc}{K:UL}{h:Heap}{mg:Str->Option YQ}{fa:YT}(X:K.In h)(G:h.Ns Ya mg)(hfa:mg "law"=some (.ref fa))
 (x0:y6 K "is_number" 6)
 (x1:y6 K "has_place" 8)
 (x2:y6 K "has_tie" 9)
 (x3:y6 K "check_place" 10)
 (x4:y6 K "check_tie" 11)
 (x5:y6 K "ties_at" 12)
 (x6:y6 K "far_end" 13)
 (x7:y6 K "give_sides" 15)
 (x8:y6 K "way_back" 16)
 (x9:y6 K "ring_through" 17)
 (x10:y6 K "two_sides" 18)
 (x11:y6 K "sides_of" 19)
 (x12:y6 K "place_of_side" 21)
 (x13:y6 K "asks_of" 22)
 (x14:y6 K "settled_pairs" 23)
 (x15:y6 K "_law_tape" 25)
 (x16:y6 K "_law_draw" 26)
 (x17:y6 K "_law_sided" 27)
 (x18:y6 K "_law_sides" 28)
 (x19:y6 K "_law_meet" 29)
 (x20:y6 K "_law_whole" 30)
 (x21:y6 K "_law_ranks" 31)
 (x22:y6 K "_law_some_ties" 32)
 (x23:y6 K "_law_goes_ahead" 33)
 (x24:y6 K "_law_right" 34)
 (x25:y6 K "law" 35)
 (z0:PySem.W.nsIn K Ya "len"=some none)
 (z1:PySem.W.nsIn K Ya "abs"=some none)
 (z2:PySem.W.nsIn K Ya "min"=some none)
 (z3:PySem.W.nsIn K Ya "max"=some none)
 (z4:PySem.W.nsIn K Ya "int"=some none)
 (z5:PySem.W.nsIn K Ya "list"=some none)
 (z6:PySem.W.nsIn K Ya "tuple"=some none)
 (z7:PySem.W.nsIn K Ya "all"=some none)
 (z8:PySem.W.nsIn K Ya "any"=some none)
 (z9:PySem.W.nsIn K Ya "sorted"=some none)
 (z10:PySem.W.nsIn K Ya "isinstance"=some none)
 (z11:PySem.W.nsIn K Ya "str"=some none)
 (z12:PySem.W.nsIn K Ya "range"=some none)
 (z13:PySem.W.nsIn K Ya "enumerate"=some none)
 (z14:PySem.W.nsIn K Ya "zip"=some none)
 (z15:PySem.W.nsIn K Ya "set"=some none)
 (z16:PySem.W.nsIn K Ya "bool"=some none)
 (z17:PySem.W.nsIn K Ya "dict"=some none)
 (z18:PySem.W.nsIn K Ya "reversed"=some none)
 (z19:PySem.W.nsIn K Ya "repr"=some none)
 (z20:PySem.W.nsIn K Ya "sum"=some none)
 : ∃ fd:ZF,(∀(s:YS) (v:YQ),BindsTo s fd ⟨[v],[]⟩ [("_law_script",v)])/\∀ base:Heap,K.In base->base.Ns Ya mg->FnOk l.prog w K mg base CX0 11 fa fd ["_law_script"] (spS K (W prog 11 25)):=by
 have y:=x25;obtain⟨f25,od25,an25,sl25,oc25,kV25,dc25,pm25,cd25,ct25,a25,l25,c25,k25⟩:=x25;have e:=hfa.symm.trans (PySem.W.mg_of X G a25);cases e
 have B:Bl mg:=by
  refine⟨λb=>?_,Uk X G z12,Uk X G z13,Uk X G z18,Uk X G z14,Uk X G z20,Uk X G z15,Uk X G z17,λt ht=>?_⟩
  ·cases b with
   | len=>exact Uk X G z0
   | abs=>exact Uk X G z1
   | min=>exact Uk X G z2
   | max=>exact Uk X G z3
   | int=>exact Uk X G z4
   | list=>exact Uk X G z5
   | tuple=>exact Uk X G z6
   | all=>exact Uk X G z7
   | any=>exact Uk X G z8
   | sorted=>exact Uk X G z9
   | isi=>exact Uk X G z10
   | str=>exact Uk X G z11
   | repr=>exact Uk X G z19
  ·cases t with
   | int=>exact Uk X G z4
   | bool=>exact Uk X G z16
   | str=>exact Uk X G z11
   | list=>exact Uk X G z5
   | tuple=>exact Uk X G z6
   | none=>exact absurd rfl ht
 have hin:∀ D∈prog,PIn K mg D:=p0 (j8 X G d0 x0 rfl λ_ _ _ _ _ _=>Gv λ_=>rfl) (p0 (j8 X G d1 x1 rfl λ_ _ _ _ _ _=>DA λ_ _=>rfl) (p0 (j8 X G d2 x2 rfl λ_ _ _ _ _ _=>DA λ_ _=>rfl) (p0 (j8 X G d3 x3 rfl λ_ _ _ _ _ _=>DA λ_ _=>rfl) (p0 (j8 X G d4 x4 rfl λ_ _ _ _ _ _=>DA λ_ _=>rfl) (p0 (j8 X G d5 x5 rfl λ_ _ _ _ _ _=>DA λ_ _=>rfl) (p0 (j8 X G d6 x6 rfl λ_ _ _ _ _ _=>Jd λ_ _ _=>rfl) (p0 (j8 X G d7 x7 rfl λ_ _ _ _ _ _=>MJ λ_ _ _ _=>rfl) (p0 (j8 X G d8 x8 rfl λ_ _ _ _ _ _=>Jd λ_ _ _=>rfl) (p0 (j8 X G d9 x9 rfl λ_ _ _ _ _ _=>Jd λ_ _ _=>rfl) (p0 (j8 X G d10 x10 rfl λ_ _ _ _ _ _=>Gv λ_=>rfl) (p0 (j8 X G d11 x11 rfl λ_ _ _ _ _ _=>Gv λ_=>rfl) (p0 (j8 X G d12 x12 rfl λ_ _ _ _ _ _=>MJ λ_ _ _ _=>rfl) (p0 (j8 X G d13 x13 rfl λ_ _ _ _ _ _=>MJ λ_ _ _ _=>rfl) (p0 (j8 X G d14 x14 rfl λ_ _ _ _ _ _=>Jd λ_ _ _=>rfl) (p0 (j8 X G d15 x15 rfl λ_ _ _ _ _ _=>DA λ_ _=>rfl) (p0 (j8 X G d16 x16 rfl λ_ _ _ _ _ _=>DA λ_ _=>rfl) (p0 (j8 X G d17 x17 rfl λ_ _ _ _ _ _=>DA λ_ _=>rfl) (p0 (j8 X G d18 x18 rfl λ_ _ _ _ _ _=>Gv λ_=>rfl) (p0 (j8 X G d19 x19 rfl λ_ _ _ _ _ _=>Jd λ_ _ _=>rfl) (p0 (j8 X G d20 x20 rfl λ_ _ _ _ _ _=>Gv λ_=>rfl) (p0 (j8 X G d21 x21 rfl λ_ _ _ _ _ _=>DA λ_ _=>rfl) (p0 (j8 X G d22 x22 rfl λ_ _ _ _ _ _=>DA λ_ _=>rfl) (p0 (j8 X G d23 x23 rfl λ_ _ _ _ _ _=>UH λ_ _ _ _ _=>rfl) (p0 (j8 X G d24 x24 rfl λ_ _ _ _ _ _=>MJ λ_ _ _ _=>rfl) (p0 (j8 X G d25 y rfl λ_ _ _ _ _ _=>Gv λ_=>rfl) (λ_ h=>nomatch h))))))))))))))))))))))))));refine⟨PySem.W.fnOf "law" "law" (defArgs (top 35)) (defBody (top 35)) (defScope (top 35)) .none kV25 dc25 pm25 an25 cd25 ct25,λs v => .of_eq rfl,λbase _ _=>?_⟩
 exact MM (P:=l.prog) (w:=w) (base:=base) (k:=10) (Δ:=W prog 10) (D:=d25) (GA (st:=top 35) l25 c25 k25) (IB a25 l25) (Uq.mp Fp d25 (UO (show prog[25]?=some d25 from rfl))) B (λg x hx=>by
  rw[UZ]at hx;cases hg:prog[g]? with
  | none=>rw[hg]at hx;cases hx
  | some D'=>
    rw[hg]at hx;have:D'.name=x:=by simpa using hx
    subst this;exact⟨D'.ps,IC Fp B hin 10 g D' hg⟩) (DB 10)
theorem tabK_mk{K:UL}{nm:Str}{i:Nat}{f c:YT}{od an:Option YT}{sl:Array (Option YQ)}{oc kV dc pm ct:YQ}(_:PySem.W.nsIn K Ya nm=some (some (.ref f)))(_:K.lookup f=some ⟨oc,od,.func (PySem.W.fnOf nm nm (defArgs (top i)) (defBody (top i)) (defScope (top i)) .none kV dc pm an (.ref c) ct),sl⟩)(t:PySem.W.tabIn K nm=some (c,161))(h:PySem.W.codeHdIn K c 161=true):∃ c,TabK K nm c 161:=⟨c,t,h⟩
theorem walkL{l:PySem.W.OpenLaw}{q:YZ}{loose:List Str}{XP:(Str->Option YQ)->Heap->Prop}{YP:Yc->Heap->Prop}{d:DefRec}{K:Params->UL}(hn:l.most=some 63)(hdf:d.params.defaults=[])
 (hY:∀(w:Yc) (h:Heap),YP w h->(K w.params).In h/\∀ T∈[161],h.get? T=some (PySem.W.tabObj #[])) (hT:∀ w:Yc,(K w.params).lookup 161=none/\∃ c,TabK (K w.params) "asks_of" c 161)
 (F:∀(w:Yc) (mg:Str->Option YQ) (fa:YT) (h:Heap),(K w.params).In h->h.Ns Ya mg->mg d.name=some (.ref fa)->
   ∃ fd:ZF,(∀(s:YS) (u:YQ),BindsTo s fd ⟨[u],[]⟩ [("_law_script",u)])/\∀ base:Heap,(K w.params).In base->base.Ns Ya mg->FnOk l.prog w (K w.params) mg base CX0 11 fa fd ["_law_script"] (spS (K w.params) (W prog 11 25))):
 PySem.W.WalkO q loose XP YP l.row.toRowW d [] (λf vs=>PySem.call f vs):=
 L2.walk_ofT (n:=63) (k:=11) (x:="_law_script") (ts:=[161]) (sp:=λw=>spS (K w.params) (W prog 11 25)) hn (by decide) hdf ⟨rfl,by decide,by decide,rfl⟩ hY (λw T hz=>by
  cases UT.mp hz;obtain⟨a,c,b⟩:=hT w;exact⟨a,c,b.2⟩) F λw _ a ns hl hO hS=>Od (tl:=[("asks_of",⟨85,32,85,58⟩)]) (law_main ns hl) (by decide) rfl (λi P p e1 e2=>by
  match i,e1,e2 with
  | 0,e1,e2=>cases e1;cases e2;exact(hT w).2
  | (i+1),e1,e2=>simp at e1) hO hS
end Hue
open PySem PySem.W PyProof.Rows
set_option maxRecDepth 100000 in
set_option maxHeartbeats 0 in
theorem PySem.Challenge.cw_huedties_k48_settled_pairs_holds : PySem.Challenge.rw_huedties_k48_settled_pairs.Holds := by
 w_on;o_law;k_head;(case hw=>w_witness2)
 k_fill
 refine Hue.walkL (l:=PySem.Challenge.rw_huedties_k48_settled_pairs) rfl rfl (λw h Y=>⟨PySem.W.km_in_of Y,PySem.W.km_tabs_of Y⟩) ?T ?F
 case T=>
  intro w;exact⟨by kernel_rfl,Hue.tabK_mk (i:=22) (by k_is) (by k_is) (by kernel_rfl) (by kernel_rfl)⟩
 case F=>
  intro w mg fa h KX G hmg;refine' Hue.all_mk KX G hmg ?_ ?_ ?_ ?_ ?_ ?_ ?_ ?_ ?_ ?_ ?_ ?_ ?_ ?_ ?_ ?_ ?_ ?_ ?_ ?_ ?_ ?_ ?_ ?_ ?_ ?_ ?_ ?_ ?_ ?_ ?_ ?_ ?_ ?_ ?_ ?_ ?_ ?_ ?_ ?_ ?_ ?_ ?_ ?_ ?_ ?_ ?_
  all_goals first | exact Hue.lnkK_mk (by k_is) (by k_is) (by k_is) (by k_is) | k_is
