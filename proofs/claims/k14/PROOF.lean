import PyProof.Rows.All
import Wide.All
import OpenK.AllK
import PySem.Challenge.RW_huedties_k14_all_rows_of_two_hues
set_option Elab.async false
set_option linter.all false
set_option maxRecDepth 100000
open PySem.W renaming Frag->Sd,mg_none_of->TB
open List renaming length_map->Se,getElem?_eq_getElem->Si,length_append->Sl,getElem?_map->Sm,range->So,size_toArray->Sq,mem_of_getElem?->Ss,mem_singleton->Sv,getD_eq_getElem?_getD->Sy,map_append->Sz,mem_cons->T7,mem_cons_of_mem->T8,all_eq_true->T9,getElem?_append_left->TC,mem_append_right->TF,mem_range->TH,mem_cons_self->TJ,mem_append->TK,mem_filter->TL,replicate->TM,prefix_refl->TN,mem_map->TR,map_map->TX,map_cons->TY,mem_map_of_mem->TZ,getElem?_concat_length->Tb,getElem?_append_right->Td,length_cons->Te,replicate_succ->Tj,length_take->Tn,take_length->Tp,pairwise_map->Tu,append_nil->Tx,take_succ->Tz,getElem_mem->U0,isEmpty_iff->U1,length_filter_le->U2,lookup_cons->U3,length_range->U5,all_cons->U6,of_mem_zip->U8,mem_iff_getElem->U9,getD->UA,getElem?_of_mem->UB,any_cons->UC,getElem?_set_self->UD,length_set->UE,length_singleton->UF,any_eq_true->UH,mem_append_left->UJ,flatten_cons->UL,find?_cons->UO,map_congr_left->UP,not_mem_nil->UR,filter_cons->US,prefix_append->UT,filter_append->UU,nodup_cons->UV,getElem?_set_ne->UX,getElem?_range->UZ,getElem?_replicate->Ua,range_succ->Ud,length_replicate->Ue,nodup_append->Ug,pairwise_cons->Ul,getElem?_eq_none->Uq,getElem?_zipWith->Ur,length->Uu,eq_nil_of_length_eq_zero->Uw,filter_map->Ux,filterMap_cons->Uy,flatten_append->Uz,length_eraseIdx_of_lt->V2,perm_ext_iff_of_nodup->V5,pairwise_iff_getElem->V6,getElem?_zip_eq_some->V7,drop_eq_getElem_cons->V8,exists_mem_of_ne_nil->V9,lookup->VA,filter_congr->VD,filterMap_cons_none->VE,filterMap_cons_some->VF,length_drop->VH,ext_getElem->VI,cons_ne_nil->VL,getElem?_cons_succ->VM,length_eq_zero_iff->VN,take_of_length_le->VO,pairwise_lt_range->VQ,any_map->VR,find?_cons_of_pos->VS,find?_cons_of_neg->VT,forIn_cons->VU,count_cons->VW,forIn_nil->VZ,pairwise_append->Va,map_id->Vc,filter->Vd,mem_filterMap->Vg,reverse_cons->Vl,append_assoc->Vm,getElem_drop->Vr,ext_getElem?->Vt,getElem?_inj->Vv,mapM_toArray->Vw,map->Vx,all_map->Vy,getElem_inj->W3,map_fst_zip->W6,zipIdx_cons->W7,drop_length->W9,mem_flatten->WC,nodup_range->WD,zipIdx_nil->WH,length_nil->WJ,head?_drop->WK,foldl->WQ,tail_drop->WW,nodup_nil->WX,zip_map'->Wc,count->Wi
open Bool renaming and_eq_true->Sf,false_ne_true->Su,not_eq_true'->TQ,eq_iff_iff->Ta,or_eq_true->Ti,false_eq_true->Tw,and_false->VY,or_false->Vf,false_and->WN,false_or->WY,true_and->WZ,not_true->Wa,true_or->We
open PySem.Heap renaming get?_push_of_some->Sh,lt_size->Sj,get?_push_size->Sr,SameBut->Tc,size_push->Tf,get?_update_self->Tq,get?_update_other->Tv,size_update->Uj,get?_none_of_le->Ut,IsTuple->Vq,ExtBut->WG
open Nat renaming le_refl->Sw,ne_of_lt->Sx,lt_of_lt_of_le->TV,le_trans->Th,le_add_right->To,zero_le->U4,le_of_lt->U7,le_succ->UK,lt_succ_of_lt->UM,lt_irrefl->UQ,lt_of_le_of_lt->Uc,mul_le_mul->Uh,zero_add->Ui,le_succ_of_le->Um,ne_of_gt->V0,lt_succ_self->VG,lt_trans->VP,not_lt_zero->VV,le_antisymm->VX,lt_of_le_of_ne->Vi,eq_zero_or_pos->Vj,succ_mul->Vn,le_of_succ_le->Vo,lt_or_ge->Vp,lt_of_succ_le->Vs,le_of_eq->Vu,le_of_not_lt->W4,not_lt_of_gt->W5,min_eq_right->WB,min_eq_left->WL,mod_lt->WU,le_total->Wf
open Option renaming map_eq_some_iff->TU,map_some->UN,isSome_iff_exists->UY,bind_some->VJ,isSome_some->Vh
open Array renaming length_toList->Tr,getElem?_toList->UG,getElem_toList->Uv,Perm->V3,perm_iff_toList_perm->V4,toList_push->VC,size_zip->Vb,toList_append->Ve,toList_map->W8,getD->WR,size_map->WV,toList->Wd
open Int renaming natCast_inj->Tt,emod_lt_of_pos->UI,emod_nonneg->UW,le_refl->Ub,toNat_of_nonneg->Uk,zero_add->Uo,toNat->Us,le_of_lt->V1,toNat_natCast->VB,natCast_nonneg->Vk,le_trans->Vz,emod_eq_of_lt->W0,ofNat_le->Wg,not_lt->Wh
open PySem renaming wpAny_bind->Wj,Value->Wk,Shared->Wl,Addr->Wm,wpAny_pure->Wn,wpAny->Wo,model->Wp,mainGlobals->Wq,Program->Wr,sizeLine->Ws,World->Wt,bootBuiltins->Wu,starEach->Wv,Scope->Ww,Around->Wx,compareOp->X0,wpAny_truthy_bool->X4,wpAny_call_entry->X5,wpAny_holding->X6,wpAny_callSpecial?_slot->X8,SetTable->XA,wpAny_pyIter_tuple->XB,NameKind->XC,wpAny_field->XD,wpAny_seqItems->XE,cellsFrom->XF,wpAny_newObj_type->XG,wpAny_mono->XH,assignEach->XI,codeAny_builtin->XJ,wpAny_Call_Name_kw->XM,wpAny_setField->XN,wpAny_passesOwn->XO,codeAny_mono->XQ,wpAny_setState_of->XR,swappedStores->XS,wpAny_setField_rec->XT,scanBound->XU,recursionLimit->XX,FuncData->XY,wpAny_rule->XZ,swapsWith->Xa,binaryOp->Xb,plainId_quiet->Xd,wpAny_attempt->Xe,letOwnedTupleGo->Xf,call_meets->Xh,wpAny_pyIter_enum->Xi,wpAny_pyIter_list->Xj,wpAny_pyIter_zip->Xl,swapsWithSole->Xm,wpAny_newList->Xn,wpAny_setEntries_of->Xo,Arguments->Xp,builtinsNs->Xr,firstArgMember->Xs,wpAny_letOwnedTupleGo_enum->Xt,wpAny_newTuple->Xw,wpAny_letOwnedTupleGo_zip->Xy,foldedSetIterable->Xz,fits_of_scanBound->Y0,wpAny_standAt->Y2,attributeBase->Y3,Comprehension->Y4,Operator->Y5,bindArgs->Y6,compEnvC->Y7,wpAny_pyNext_enum_itemD->Y8,wpAny_askSetting->Y9,pickOrder->YA,wpAny_isInstance->YB,typeIs_int->YD,wpAny_pyNext_enum_endD->YE,wpAny_typeOf->YF,wpAny_execs_nil->YG,pushCells_keeps->YH,codeAny_of_tree->YI,wpAny_ite_split->YJ,wpAny_updateSeq->YK,weight_type_call_type->YM,builtinLookup_eq_fast->YN,GenState->YO,sizeLine_eq->YQ,newFunctionEnv->YR,wpAny_letGo->YS,relayAll->YT,codeAny_call_builtin->YU,wpAny_runValue->YV,wpAny_updateSeq_pair->YY,behindInMarks->Ya,wpAny_onRaise->Yb,comprehension->Yc,sysModules->Yd,wpAny_call->Ye,closureFor->Yf,wpAny_assign_Name->Yi,name_of_addr->Yj,seqIndex_neg->Yk,wpAny_storeSet_of->Yl,setField->Ym,wpAny_pyIter_slot->Yn,PassesOwn->Ys,pushCells->Yt,check_set_init_1->Yu,richCompare->Yv,seqIndex_of->Yw,wpAny_of_eq->Yx,unsupported->Yy,typeLookup_type->Z0,wpAny_Name->Z2,fitsIndex_both->Z3,intKind_is->Z4,isSubtype_type->Z5,entryFor_alias->Z6,wpAny_fieldsOf->Z7,isSubtype_stop->Z8,checkCount->Z9,lastMarks->ZE,seqItems?->ZF,drawOrder->ZG,DictEntry->ZH
open PyProof.Rows renaming wpS_bind->Wz,wpS_pure->X7,reverseSlice'->X9,listUpdate_at->XW,firstMet->Xc,get?_update_seq->Xg,wpS_forRange->Xk,pendingOf->Xq,step_dedup->Xu,firstMet_length_le->Xv,failedOf->Xx,seqEpoch_at->Y1,subscriptTail_builtinR->YC,entry_list_sort->YL,slot_list_sort->YW,SortKind->YX,getElem?_mirror_all->YZ,size_push'->Yg,wpS_modify->Yh,plain_sorted->Yo,entry_sorted->Yp,general'->Yq,listItems_at->Yr,kind_sorted->Yz,getElem?_bubble->Z1,args_list_sort->ZA,oneType'->ZC,wpS_mono->ZD
abbrev EE:=List (Nat×Nat)
theorem gM{α:Type}{l:List α}{i:Nat}{a:α}(h:l[i]?=some a):∃h:i<l.length,l[i]=a:=List.getElem?_eq_some_iff.mp h
theorem oj{α:Type}{a b:α}(h:some a=some b):a=b:=Option.some.inj h
theorem dQ{p:Prop}[Decidable p]:(decide p=true)=p:=decide_eq_true_eq
theorem iG{c:Prop}{h:Decidable c}(k:¬c){α:Sort u}{t e:α}:ite c t e=e:=if_neg k
theorem iP{c:Prop}{h:Decidable c}(k:c){α:Sort u}{t e:α}:ite c t e=t:=if_pos k
theorem bQ{α:Type u}[BEq α][LawfulBEq α]{a b:α}:a==b↔a=b:=beq_iff_eq
namespace L2
open PySem PySem.Spec PyProof.Rows
abbrev Key:=Sum Int Str
def Nn:Key->Wk->Bool
 | .inl k,v=>Value.isInt k v
 | .inr x,v=>Value.isStrOf x v
def S9(w:Wt):Key->Int
 | .inl k=>hashInt k
 | .inr x=>hashStr w x
theorem l5:∀{k:Key} {v:Wk},Nn k v=true->(∃ i t,k=Sum.inl i/\v=Value.int i t)\/(∃ x t,k=Sum.inr x/\v=Value.str x t)
 | .inl i,v,h=>by
   obtain⟨t,e⟩:=Value.isInt_shape (k:=i) (v:=v) h;exact .inl ⟨i,t,rfl,e⟩
 | .inr x,v,h=>by
   obtain⟨t,e⟩:=Value.isStrOf_shape (x:=x) (v:=v) h;exact .inr ⟨x,t,rfl,e⟩
theorem OV(a b:Int):decide ((Sum.inl a:Key)=Sum.inl b)=(a == b):=by
 by_cases e:a=b
 ·subst e;simp
 ·have h:¬ (Sum.inl a:Key)=Sum.inl b:=λq=>e (Sum.inl.inj q);rw[decide_eq_false h];exact(beq_eq_false_iff_ne.mpr e).symm
theorem OW(a b:Str):decide ((Sum.inr a:Key)=Sum.inr b)=decide (a=b):=by
 by_cases e:a=b
 ·subst e;simp
 ·have h:¬ (Sum.inr a:Key)=Sum.inr b:=λq=>e (Sum.inr.inj q);rw[decide_eq_false h,decide_eq_false e]
theorem OX(a:Int)(b:Str):decide ((Sum.inl a:Key)=Sum.inr b)=false:=decide_eq_false (λq=>nomatch q)
theorem OY(a:Str)(b:Int):decide ((Sum.inr a:Key)=Sum.inl b)=false:=decide_eq_false (λq=>nomatch q)
noncomputable def CP(prog:Wr)(w:Wt):PySem.KeyKind prog w Key where
 is:=Nn
 hash:=S9 w
 inj:=λv a b ha hb=>by
  rcases l5 ha with⟨i,t,rfl,rfl⟩ | ⟨x,t,rfl,rfl⟩
  ·rcases l5 hb with⟨j,u,rfl,e⟩ | ⟨y,u,rfl,e⟩
   ·injection e with e1 _;rw[e1]
   ·exact nomatch e
  ·rcases l5 hb with⟨j,u,rfl,e⟩ | ⟨y,u,rfl,e⟩
   ·exact nomatch e
   ·injection e with e1 _;rw[e1]
 byValue:=λk v h=>by
   rcases l5 h with⟨i,t,rfl,rfl⟩ | ⟨x,t,rfl,rfl⟩<;>rfl
 pyHash:=λhv h=>by
  rcases l5 hv with⟨i,t,rfl,rfl⟩ | ⟨x,t,rfl,rfl⟩
  ·exact wpAny_pyHash_int h
  ·exact wpAny_pyHash_str h
 eqBool:=λhu hv h=>by
  rcases l5 hu with⟨i,t,rfl,rfl⟩ | ⟨x,t,rfl,rfl⟩
  ·rcases l5 hv with⟨j,u,rfl,rfl⟩ | ⟨y,u,rfl,rfl⟩
   ·rw[OV]at h;exact wpAny_eqBool_int h
   ·rw[OX]at h;exact SeqAt.EqAt.int_str i t y u _ _ _ _ h
  ·rcases l5 hv with⟨j,u,rfl,rfl⟩ | ⟨y,u,rfl,rfl⟩
   ·rw[OY]at h;exact SeqAt.EqAt.str_int x t j u _ _ _ _ h
   ·rw[OW]at h;exact wpAny_eqBool_str h
 «strs»:=λk x t v h=>by
  rcases l5 h with⟨i,u,rfl,e⟩ | ⟨y,u,rfl,e⟩
  ·exact nomatch e
  ·injection e with e1 _;subst e1;cases v<;>rfl
inductive V where
 | non | bl (b:Bool) | int (i:Int) | str (x:Str) | byt (b:Array UInt8) | flt (b:UInt64) | ref (a:Wm) | ty (n:String)
 deriving DecidableEq
def RelV:V->Wk->Prop
 | .non,u=>u=Value.none
 | .bl b,u=>u=Value.bool b
 | .int i,u=>∃ t,u=Value.int i t
 | .str x,u=>∃ t,u=Value.str x t
 | .byt b,u=>∃ t,u=Value.bytes b t
 | .flt b,u=>∃ t,u=Value.float b t
 | .ref a,u=>u=Value.ref a
 | .ty n,u=>u=Value.type n
abbrev Vals:List V->List Wk->Prop:=Paired RelV
theorem Vals.length{xs:List V}{us:List Wk}(r:Vals xs us):xs.length=us.length:=Paired.length r
theorem Vals.get:∀{xs:List V} {us:List Wk} {i:Nat} {x:V},Vals xs us->xs[i]?=some x->∃ u,us[i]?=some u/\RelV x u
 | _,_,_,_,.nil,e=>by simp at e
 | _,_,0,_,.cons r _,e=>by simp at e;subst e;exact⟨_,rfl,r⟩
 | _,_,i+1,x,.cons _ t,e=>by
   obtain⟨u,h1,h2⟩:=Vals.get (i:=i) (x:=x) t (by simpa using e);exact⟨u,by simpa using h1,h2⟩
theorem Vals.set{x:V}{u:Wk}(r:RelV x u):∀{xs:List V} {us:List Wk} (i:Nat),Vals xs us->Vals (xs.set i x) (us.set i u)
 | _,_,_,.nil => .nil
 | _,_,0,.cons _ t => .cons r t
 | _,_,i+1,.cons q t => .cons q (Vals.set r i t)
theorem Vals.append:∀{xs ys:List V} {us ws:List Wk},Vals xs us->Vals ys ws->Vals (xs++ys) (us++ws)
 | _,_,_,_,.nil,s=>s
 | _,_,_,_,.cons r t,s => .cons r (Vals.append t s)
theorem Vals.take:∀{xs:List V} {us:List Wk} (n:Nat),Vals xs us->Vals (xs.take n) (us.take n)
 | _,_,0,_ => .nil
 | _,_,_+1,.nil => .nil
 | _,_,n+1,.cons r t => .cons r (Vals.take n t)
theorem Vals.drop:∀{xs:List V} {us:List Wk} (n:Nat),Vals xs us->Vals (xs.drop n) (us.drop n)
 | _,_,0,r=>r
 | _,_,_+1,.nil => .nil
 | _,_,n+1,.cons _ t=>Vals.drop n t
def RelO:Option V->Option Wk->Prop
 | some v,some u=>RelV v u
 | none,none=>True
 | _,_=>False
def KV{κ:Type}:List (κ×V)->List (κ×Wk)->Prop:=Paired λ(p:κ×V) (q:κ×Wk)=>p.1=q.1/\RelV p.2 q.2
def kV:Key->V
 | .inl i => .int i
 | .inr x => .str x
inductive HO where
 | lst (xs:List V)
 | tup (xs:List V)
 | dK (kvs:List (Key×V)) | dT (kvs:List (List Key×V))
 | set (S:Int->Bool) (n:Nat)
 | ins (C dx:Wm) (fs:List (Str×V))
 | own (x:Wm)
 | xd (fs:List (Str×V))
 | met (f x:Wm)
 | rng (lo hi:Int)
 | frz (o:Obj) (u:HO)
 | tbl (ps:Array Wk)
 | ext (φ:Heap->Prop)
abbrev Hp:=Wm->Option HO
def upd(H:Hp)(a:Wm)(o:HO):Hp:=λb=>if b=a then some o else H b
theorem i8{H:Hp}{a:Wm}{o:HO}:upd H a o a=some o:=by unfold upd;rw[iP rfl]
theorem f6{H:Hp}{a b:Wm}{o:HO}(h:b≠a):upd H a o b=H b:=by unfold upd;rw[iG h]
theorem QX{H:Hp}{a b:Wm}{o u:HO}(h:H a=some o)(h':H b=some u)(d:o≠u):a≠b:=by
 intro e;subst e;rw[h]at h';exact d (oj h')
theorem f7{H:Hp}{a b:Wm}{o:HO}(h:H a=some o)(h':H b=none):a≠b:=by
 intro e;subst e;rw[h]at h';cases h'
section
variable(P:Wr)(w:Wt)
noncomputable def ObjOk(H:Hp)(h:Heap)(a:Wm):HO->Prop
 | .lst xs=>xs.length<=Ws/\∃(its:List Wk) (n:Nat),Vals xs its/\h.get? a=some {cls := .type "list",data := .seq its.toArray n}
 | .tup xs=>xs.length<=Ws/\∃ its:List Wk,Vals xs its/\IsTup h a its.toArray
 | .dK kvs=>kvs.length<=Ws/\(a == Yd)=false/\∃ vs,KV kvs vs/\h.DictOf (CP P w) a vs
 | .dT kvs=>kvs.length<=Ws/\(a == Yd)=false/\∃ xs:List (List Key×Wm×Wk),
    Paired (λ(p:List Key×V) (q:List Key×Wm×Wk)=>p.1=q.1/\H q.2.1=some (.tup (p.1.map kV))/\RelV p.2 q.2.2) kvs xs/\
    ∃ o es ep,h.get? a=some o/\o.ExactDict/\o.data = .dict es ep/\es.toList=xs.map (entryOfKey (tupleKind (CP P w)))/\(xs.map (·.1)).Nodup
 | .set S n=>h.SetOf (intKind P w) a S n
 | .ins C dx fs=>H dx=some (.own a)/\fs.length<=1000/\dx≠a/\h.get? a=some (PySem.W.instObj C dx)/\
    ∃ mA,h.Ns1 dx mA/\(∀ f,RelO (fs.lookup f) (mA f))/\PySem.Within mA (fs.map (·.1))
 | .own _=>∃ o,h.get? a=some o
 | .xd fs=>∃ mA,h.Ns1 a mA/\∀ f,RelO (fs.lookup f) (mA f)
 | .rng lo hi=>∃ t u v,h.get? a=some {cls := .type "range",data := .fields #[.int lo t,.int hi u,.int 1 v]}
 | .frz o u=>h.get? a=some o/\ObjOk H h a u
 | .tbl ps=>h.get? a=some {cls := .none,data := .fields ps}
 | .met f x=>h.get? a=some (PySem.W.methodObj (.ref f) (.ref x))
 | .ext φ=>φ h/\(∃ o,h.get? a=some o)/\∀ h1 h2:Heap,φ h1->(∀ o,h1.get? a=some o->h2.get? a=some o)->φ h2
noncomputable def HOk(H:Hp)(h:Heap):Prop:=∀ a o,H a=some o->ObjOk P w H h a o
end
section
variable{P:Wr}{w:Wt}{H H':Hp}{h h':Heap}{a:Wm}{o:HO}
theorem ObjOk.lt(x:ObjOk P w H h a o):a<h.objs.size:=by
 cases o with
 | lst xs=>obtain⟨_,_,_,_,e⟩:=x;exact Sj e
 | tup xs=>obtain⟨_,_,_,p⟩:=x;exact p.lt
 | dK kvs=>obtain⟨_,_,_,_,o,_,_,e,_⟩:=x;exact Sj e
 | dT kvs=>obtain⟨_,_,_,_,o,_,_,e,_⟩:=x;exact Sj e
 | set S n=>obtain⟨o,_,_,_,e,_⟩:=x;exact Sj e
 | ins C dx fs=>obtain⟨_,_,_,e,_⟩:=x;exact Sj e
 | own y=>obtain⟨_,e⟩:=x;exact Sj e
 | xd fs=>obtain⟨_,⟨_,_,_,e,_⟩,_⟩:=x;exact Sj e
 | rng lo hi=>obtain⟨_,_,_,e⟩:=x;exact Sj e
 | frz ob u=>obtain⟨e,_⟩:=x;exact Sj e
 | tbl ps=>exact Sj (show h.get? a=some _ from x)
 | met f y=>exact Sj (show h.get? a=some _ from x)
 | ext φ=>obtain⟨_,⟨_,e⟩,_⟩:=x;exact Sj e
theorem Paired.mapP{α β:Type}{F G:α->β->Prop}:∀{l₁:List α} {l₂:List β},Paired F l₁ l₂->(∀ a b,F a b->G a b)->Paired G l₁ l₂
 | _,_,.nil,_ => .nil
 | _,_,.cons r t,f => .cons (f _ _ r) (Paired.mapP t f)
theorem ObjOk.stay(x:ObjOk P w H h a o)(k:∀ b u,(b=a\/H b=some (.own a))->h.get? b=some u->h'.get? b=some u)
 (ho:∀ b,H b=some (.own a)->H' b=some (.own a)) (ht:∀ b xs,H b=some (.tup xs)->H' b=some (.tup xs)):ObjOk P w H' h' a o:=by
 induction o with
 | lst xs=>obtain⟨z,its,n,r,e⟩:=x;exact⟨z,its,n,r,k _ _ (.inl rfl) e⟩
 | tup xs=>obtain⟨z,its,r,ob,e,c⟩:=x;exact⟨z,its,r,ob,k _ _ (.inl rfl) e,c⟩
 | dK kvs=>obtain⟨z,y,vs,r,ob,es,ep,e,c⟩:=x;exact⟨z,y,vs,r,ob,es,ep,k _ _ (.inl rfl) e,c⟩
 | dT kvs=>
   obtain⟨z,y,xs,r,ob,es,ep,e,c⟩:=x;exact⟨z,y,xs,Paired.mapP r λp q z=>⟨z.1,ht _ _ z.2.1,z.2.2⟩,ob,es,ep,k _ _ (.inl rfl) e,c⟩
 | set S n=>obtain⟨ob,es,ep,t,e,c⟩:=x;exact⟨ob,es,ep,t,k _ _ (.inl rfl) e,c⟩
 | ins C dx fs=>
   obtain⟨d,z,ne,e,mA,⟨od,es,ep,e2,c⟩,r⟩:=x;exact⟨ho _ d,z,ne,k _ _ (.inl rfl) e,mA,⟨od,es,ep,k _ _ (.inr d) e2,c⟩,r⟩
 | own y=>obtain⟨ob,e⟩:=x;exact⟨ob,k _ _ (.inl rfl) e⟩
 | xd fs=>obtain⟨mA,⟨od,es,ep,e,c⟩,r⟩:=x;exact⟨mA,⟨od,es,ep,k _ _ (.inl rfl) e,c⟩,r⟩
 | rng lo hi=>obtain⟨t,u,v,e⟩:=x;exact⟨t,u,v,k _ _ (.inl rfl) e⟩
 | frz ob u ih=>obtain⟨e,q⟩:=x;exact⟨k _ _ (.inl rfl) e,ih q⟩
 | tbl ps=>
   have e:h.get? a=some {cls := .none,data := .fields ps}:=x;show h'.get? a=some {cls := .none,data := .fields ps};exact k a _ (.inl rfl) e
 | met f y=>
   have e:h.get? a=some (PySem.W.methodObj (.ref f) (.ref y)):=x;show h'.get? a=some (PySem.W.methodObj (.ref f) (.ref y));exact k a _ (.inl rfl) e
 | ext φ=>obtain⟨p,⟨o,e⟩,st⟩:=x;exact⟨st _ _ p λo q=>k _ _ (.inl rfl) q,⟨o,k _ _ (.inl rfl) e⟩,st⟩
theorem HOk.lt(x:HOk P w H h)(e:H a=some o):a<h.objs.size:=(x a o e).lt
theorem HOk.fresh(x:HOk P w H h)(e:h.objs.size<=a):H a=none:=by
 cases q:H a with
 | none=>rfl
 | some u=>exact absurd (TV (x.lt q) e) (UQ _)
theorem HOk.kept(x:HOk P w H h)(k:∀ b u,h.get? b=some u->h'.get? b=some u):HOk P w H h':=λa o e=>
 (x a o e).stay (λb u _ q=>k b u q) (λ_ q=>q) λ_ _ q=>q
theorem HOk.laid(x:HOk P w H h)(k:∀ b u,h.get? b=some u->h'.get? b=some u)(hp:h.objs.size<=a)(new:ObjOk P w (upd H a o) h' a o):HOk P w (upd H a o) h':=λb u e=>by
 have hn:=x.fresh hp;by_cases hb:b=a
 ·subst hb;rw[i8]at e;cases e;exact new
 ·rw[f6 hb]at e;exact(x b u e).stay (λc v _ q=>k c v q) (λc q=>by rw[f6 (f7 q hn)];exact q) λc xs q=>by rw[f6 (f7 q hn)];exact q
end
def Rd(H:Hp)(a:Wm)(u:HO):Prop:=H a=some u\/∃ o,H a=some (.frz o u)
theorem Rd.ok{P:Wr}{w:Wt}{H:Hp}{h:Heap}{a:Wm}{u:HO}(r:Rd H a u)(x:HOk P w H h):ObjOk P w H h a u:=by
 rcases r with r | ⟨o,r⟩
 ·exact x a u r
 ·obtain⟨_,q⟩:=x a _ r;exact q
def Mut:Option HO->Prop
 | some (.lst _)=>True
 | some (.dK _)=>True
 | some (.dT _)=>True
 | some (.set _ _)=>True
 | some (.ins _ _ _)=>True
 | some (.ext _)=>True
 | _=>False
section
variable{P:Wr}{w:Wt}{H:Hp}{h h':Heap}{x e:Wm}{o':HO}
theorem HOk.write(ok:HOk P w H h)(mu:Mut (H x))(he:e=x\/H e=some (.own x))(k:∀ b u,b≠e->h.get? b=some u->h'.get? b=some u)(heo:∃ u,h'.get? e=some u)
 (new:ObjOk P w (upd H x o') h' x o'):HOk P w (upd H x o') h':=λb u q=>by
 have nown:∀ c y,H c=some (.own y)->c≠x:=λc y r z=>by subst z;rw[r]at mu;exact mu
 have ntup:∀ c xs,H c=some (.tup xs)->c≠x:=λc xs r z=>by subst z;rw[r]at mu;exact mu
 by_cases hb:b=x
 ·subst hb;rw[i8]at q;cases q;exact new
 ·rw[f6 hb]at q;by_cases hbe:b=e
  ·have q':H b=some (.own x):=by
    rcases he with z | z
    ·exact absurd (hbe.trans z) hb
    ·rw[hbe];exact z
   rw[q]at q';cases q';obtain⟨v,hv⟩:=heo;exact⟨v,by rw[hbe];exact hv⟩
  ·refine(ok b u q).stay (λc v hc r=>k c v ?_ r) (λc r=>by rw[f6 (nown c b r)];exact r) λc xs r=>by rw[f6 (ntup c xs r)];exact r
   rcases hc with rfl | hc
   ·exact hbe
   ·rintro rfl;rcases he with z | z
    ·exact nown c b hc z
    ·rw[hc]at z;cases z;exact hb rfl
end
structure Un(fs ex:List Wm)(H H':Hp)(h h':Heap):Prop where
 keep:∀ b o,h.get? b=some o->H b=none->b∉fs->b∉ex->h'.get? b=some o
 slot:∀ b o,h.get? b=some o->H b=none->b∈fs->b∉ex->∃ sl,h'.get? b=some {o with slots:=sl}
 free:∀ b o,h.get? b=some o->H b=none->b∉ex->H' b=none
 there:∀ b o,h.get? b=some o->b∉ex->∃ o',h'.get? b=some o'
 tups:∀ b xs,H b=some (.tup xs)->H' b=some (.tup xs)
 frzs:∀ b o u,H b=some (.frz o (.lst u))->H' b=some (.frz o (.lst u))
 tbls:∀ b ps,H b=some (.tbl ps)->∃ more,H' b=some (.tbl (ps++more))
section
variable{fs fs' ex ex':List Wm}{H H1 H2:Hp}{h h1 h2 h':Heap}{a x e:Wm}{o:HO}
theorem Un.any(u:Un fs ex H H1 h h1){b:Wm}{ob:Obj}(q:h.get? b=some ob)(n:H b=none)(hx:b∉ex):∃ sl,h1.get? b=some {ob with slots:=sl}:=by
 by_cases hb:b∈fs
 ·exact u.slot b ob q n hb hx
 ·exact⟨ob.slots,u.keep b ob q n hb hx⟩
theorem Un.kept(k:∀ b u,h.get? b=some u->h'.get? b=some u):Un fs ex H H h h':=
 ⟨λb ob q _ _ _=>k b ob q,λb ob q _ _ _=>⟨ob.slots,k b ob q⟩,λ_ _ _ n _=>n,λb ob q _=>⟨ob,k b ob q⟩,λ_ _ q=>q,λ_ _ _ q=>q,λ_ ps q=>⟨#[],by rw[q];simp⟩⟩
theorem Un.refl:Un fs ex H H h h:=Un.kept λ_ _ q=>q
theorem Un.laid(k:∀ b u,h.get? b=some u->h'.get? b=some u)(hp:h.objs.size<=a)(hn:H a=none):Un fs ex H (upd H a o) h h' where
 keep:=λb u q _ _ _=>k b u q
 slot:=λb u q _ _ _=>⟨u.slots,k b u q⟩
 free:=λb u q n _=>by rw[f6 (Sx (TV (Sj q) hp))];exact n
 there:=λb u q _=>⟨u,k b u q⟩
 tups:=λb xs q=>by rw[f6 (f7 q hn)];exact q
 frzs:=λb u xs q=>by rw[f6 (f7 q hn)];exact q
 tbls:=λb ps q=>⟨#[],by rw[f6 (f7 q hn),q];simp⟩
theorem Un.write(mu:Mut (H x))(he:e=x\/H e=some (.own x))(k:∀ b u,b≠e->h.get? b=some u->h'.get? b=some u)(heo:∃ u,h'.get? e=some u):Un fs ex H (upd H x o) h h':=by
 have hx:∀ b,H b=none->b≠x:=λb n z=>by subst z;rw[n]at mu;exact mu
 have hb:∀ b,H b=none->b≠e:=λb n z=>by
  subst z;rcases he with r | r
  ·exact hx b n r
  ·rw[n]at r;cases r
 have hm:∀ b u,H b=some u->¬ Mut (some u)->b≠x:=λb u q nm z=>by subst z;rw[q]at mu;exact nm mu
 refine⟨λb u q n _ _=>k b u (hb b n) q,λb u q n _ _=>⟨u.slots,k b u (hb b n) q⟩,λb u q n _=>by rw[f6 (hx b n)];exact n,λb u q _=>?_,
  λb xs q=>by rw[f6 (hm b _ q λz=>z)];exact q,λb u xs q=>by rw[f6 (hm b _ q λz=>z)];exact q,λb ps q=>⟨#[],by rw[f6 (hm b _ q λz=>z),q];simp⟩⟩
 by_cases hbe:b=e
 ·subst hbe;exact heo
 ·exact⟨u,k b u hbe q⟩
end
def trk(h:Heap)(H:Hp):List Wm:=(So h.objs.size).filter λa=>(H a).isSome
noncomputable def Dw(h:Heap)(H:Hp):Heap:=PySem.W.hideAll h (trk h H)
theorem IG(h:Heap)(H:Hp):(Dw h H).objs.size=h.objs.size:=PySem.W.hideAll_size _ _
theorem JX{h:Heap}{H:Hp}{b:Wm}{o:Obj}(e:h.get? b=some o)(n:H b=none):(Dw h H).get? b=some o:=
 PySem.W.hideAll_get _ e λhm=>by
  have q:(H b).isSome=true:=(TL.mp hm).2;rw[n]at q;simp at q
theorem MA{h:Heap}{H:Hp}{b:Wm}{o:Obj}(e:(Dw h H).get? b=some o):h.get? b=some o/\H b=none:=by
 have e':h.get? b=some o:=PySem.W.of_hideAll (trk h H) e;refine⟨e',?_⟩;cases q:H b with
 | none=>rfl
 | some x=>
   have hm:b∈trk h H:=TL.mpr ⟨TH.mpr (Sj e'),by simp[q]⟩;have z:(Dw h H).get? b=none:=PySem.W.hideAll_none (trk h H) hm;rw[z]at e;cases e
def BmAt(mg:Str->Option Wk)(h:Heap):Prop:=∃ bm ob,mg "__builtins__"=some (.ref bm)/\bm≠Xr/\h.get? bm=some ob/\ob.cls = .type "module"/\ob.dict=some Xr/\ob.data = .plain
structure Mod(K:Sd)(mg:Str->Option Wk)(base:Heap):Prop where
 kin:K.In base
 glob:base.Ns Wq mg
 blt:∃ mb,base.Ns Xr mb/\∀ x:Str,x≠"__name__"->mb x=Wu x
 nolimit:base.NoLimit
 bm:BmAt mg base
structure Cx where
 prog:Wr
 w:Wt
 K:Sd
 mg:Str->Option Wk
 base:Heap
 A:Wx
 N:List Str
 s₀:Wl
 H₀:Hp
 env:Env
 outer:List Env
 stack:List Env
 ex:List Wm
 fn:Str->Bool
 calm:Bool
 pn:List (Wm×Obj)
 xe:Wk->Wl->Prop
def frs(l:List Env):List Wm:=l.filterMap (·.frame)
abbrev Cx.fs(X:Cx):List Wm:=frs X.outer
def Vis(sc:Ww)(x:Str):Prop:=sc.names.lookup x=some .local\/sc.names.lookup x=some .cell\/sc.names.lookup x=some .free
def Loc(sc:Ww)(x:Str):Prop:=sc.names.lookup x=some .local\/sc.names.lookup x=some .cell
def Look(env:Env)(h:Heap)(m:Str->Option Wk)(x:Str)(u:Wk):Prop:=
 (env.kindOf x=some .local/\m x=some u)\/((env.kindOf x=some .cell\/env.kindOf x=some .free)/\∃ c,env.cells.lookup x=some c/\h.IsCell c (some u))
structure Cx.Ok(X:Cx):Prop where
 mod:Mod X.K X.mg X.base
 kind:X.env.scope.kind = .function
 glob:X.env.globals=Wq
 blt:X.env.builtins=Xr
 above:X.s₀.heap.objs.size<=X.env.locals
 inj:∀ x y c,X.env.cells.lookup x=some c->X.env.cells.lookup y=some c->x=y
 has:∀ x,(X.env.kindOf x=some .cell\/X.env.kindOf x=some .free)->∃ c,X.env.cells.lookup x=some c
 cab:∀ x c,X.fn x=true->X.env.cells.lookup x=some c->X.s₀.heap.objs.size<=c
 hd:X.calm=true->X.A.handled=none
 frames:X.A.frames=some X.stack
 stk:X.stack=X.outer\/(X.stack=X.env::X.outer/\X.env.frame=some X.env.locals)
 exf:∀ b∈X.ex,b≠X.env.locals/\∀ x c,X.env.cells.lookup x=some c->c≠b
 bs:∀ b o,X.base.get? b=some o->X.s₀.heap.get? b=some o/\X.H₀ b=none
 bsz:X.base.objs.size<=X.s₀.heap.objs.size
 noex:∀ b o,X.base.get? b=some o->b∉X.ex
 exfs:∀ b∈X.ex,b∉X.fs
 funs:X.s₀.heap.FunFrames X.base X.outer
 frf:∀ b∈X.fs,X.H₀ b=none
structure Inv(X:Cx)(pins:List (Wm×Obj))(σ:List (Option V))(H:Hp)(s:Wl):Prop where
 ok:X.Ok
 os:s.os=X.s₀.os
 bare:AllBare s.gens
 base:Un X.fs X.ex X.H₀ H X.s₀.heap s.heap
 loc:∃ m,s.heap.Ns X.env.locals m/\∀(i:Nat) (x:Str) (v:V),X.N[i]?=some x->σ[i]?=some (some v)->Vis X.env.scope x->∃ u,RelV v u/\Look X.env s.heap m x u
 cell:∀ x c,X.env.cells.lookup x=some c->∃ v,s.heap.IsCell c v
 free:H X.env.locals=none
 freeC:∀ x c,X.env.cells.lookup x=some c->H c=none
 pin:∀ p∈X.pn++pins,s.heap.get? p.1=some p.2/\H p.1=none/\p.1≠X.env.locals/\p.1∉X.fs/\∀ v,p.2.data ≠ .cell v
 hok:HOk X.prog X.w H s.heap
 len:σ.length=X.N.length
section
variable{X:Cx}{pins:List (Wm×Obj)}{σ:List (Option V)}{H H':Hp}{s:Wl}{h':Heap}
theorem Cx.Ok.nofr(ok:X.Ok){b:Wm}{o:Obj}(e:X.base.get? b=some o):b∉X.fs:=λhb=>by
 have:=(ok.funs.mem hb).1;rw[e]at this;cases this
theorem Inv.bs(I:Inv X pins σ H s):∀ b o,X.base.get? b=some o->s.heap.get? b=some o/\H b=none:=λb o e=>
 ⟨I.base.keep b o (I.ok.bs b o e).1 (I.ok.bs b o e).2 (I.ok.nofr e) (I.ok.noex b o e),I.base.free b o (I.ok.bs b o e).1 (I.ok.bs b o e).2 (I.ok.noex b o e)⟩
theorem Inv.bk(I:Inv X pins σ H s):∀ b o,X.base.get? b=some o->s.heap.get? b=some o:=λb o e=>(I.bs b o e).1
theorem Inv.mod(I:Inv X pins σ H s):Mod X.K X.mg X.base:=I.ok.mod
theorem Inv.kIn(I:Inv X pins σ H s):X.K.In s.heap:=I.ok.mod.kin.keeps I.bk
theorem Inv.nolimit(I:Inv X pins σ H s):s.heap.NoLimit:=I.ok.mod.nolimit.keeps I.bk
theorem Inv.lt(I:Inv X pins σ H s):X.env.locals<s.heap.objs.size:=let ⟨_,hn,_⟩:=I.loc;hn.lt
theorem Inv.sz(I:Inv X pins σ H s):X.s₀.heap.objs.size<=s.heap.objs.size:=Th I.ok.above (U7 I.lt)
theorem Inv.nofs(I:Inv X pins σ H s){a:Wm}(h:s.heap.objs.size<=a):a∉X.fs:=λhb=>by
 obtain⟨_,o,ho,_⟩:=I.ok.funs.mem hb;exact absurd (TV (Sj ho) (Th I.sz h)) (UQ _)
theorem Inv.cne(I:Inv X pins σ H s):∀ x c,X.env.cells.lookup x=some c->c≠X.env.locals:=λx c e z=>by
 obtain⟨v,o,ho,hd⟩:=I.cell x c e;obtain⟨m,⟨o',es,ep,ho',hd',_⟩,_⟩:=I.loc;rw[z,ho']at ho;cases ho;rw[hd']at hd;cases hd
theorem Inv.funs(I:Inv X pins σ H s):s.heap.FunFrames X.base X.outer:=by
 have all:∀(l:List Env),(∀ b∈frs l,b∈X.fs)->X.s₀.heap.FunFrames X.base l->s.heap.FunFrames X.base l:=by
  intro l
  induction l with
  | nil=>intro _ _;trivial
  | cons env r ih=>
    intro hs hl;obtain⟨hk,⟨L,o,hf,hn,ho,hd⟩,hr⟩:=hl;have hL:L∈X.fs:=hs L (by unfold frs;rw[Uy,hf];exact TJ);obtain⟨sl,e⟩:=I.base.slot L o ho (I.ok.frf L hL) hL λz=>I.ok.exfs L z hL;exact⟨hk,⟨L,_,hf,hn,e,hd⟩,ih (λb hb=>hs b (by unfold frs;rw[Uy,hf];exact T8 _ hb)) hr⟩
 exact all X.outer (λ_ hb=>hb) I.ok.funs
theorem Inv.stack(I:Inv X pins σ H s):s.heap.FunFrames X.base X.stack:=by
 rcases I.ok.stk with e | ⟨e,hf⟩
 ·rw[e];exact I.funs
 ·rw[e];obtain⟨m,hn,_⟩:=I.loc;refine .cons (by rw[I.ok.kind];decide) hf hn ?_ I.funs;exact Ut (Th I.ok.bsz I.ok.above)
theorem Inv.stkSub(I:Inv X pins σ H s):∀ b∈frs X.stack,b∈X.env.locals::X.fs:=λb hb=>by
 rcases I.ok.stk with e | ⟨e,hf⟩
 ·rw[e]at hb;exact T8 _ hb
 ·rw[e]at hb;unfold frs at hb;rw[Uy,hf]at hb;exact hb
theorem Inv.stkFree(I:Inv X pins σ H s):∀ b∈frs X.stack,H b=none:=λb hb=>by
 rcases T7.mp (I.stkSub b hb) with e | hb
 ·rw[e];exact I.free
 ·obtain⟨_,o,ho,_⟩:=I.ok.funs.mem hb;exact I.base.free b o ho (I.ok.frf b hb) λz=>I.ok.exfs b z hb
theorem Inv.step{g':Array YO}{t':Nat}{d':Drawn}{ch:List Wm}(I:Inv X pins σ H s)
 (hch:∀ b∈ch,(b∈X.ex\/X.s₀.heap.objs.size<=b)/\b≠X.env.locals/\(∀ x c,X.env.cells.lookup x=some c->c≠b)/\∀ p∈X.pn++pins,p.1≠b)
 (keep:∀ b o,b≠X.env.locals->b∉X.fs->b∉ch->s.heap.get? b=some o->H b=none->h'.get? b=some o)
 (slot:∀ b o,b≠X.env.locals->b∈X.fs->b∉ch->s.heap.get? b=some o->H b=none->∃ sl,h'.get? b=some {o with slots:=sl}) (free:∀ b o,b∉ch->s.heap.get? b=some o->H b=none->H' b=none)
 (there:∀ b o,b∉ch->s.heap.get? b=some o->∃ o',h'.get? b=some o')
 (tups:∀ b xs,H b=some (.tup xs)->H' b=some (.tup xs)) (frzs:∀ b o u,H b=some (.frz o (.lst u))->H' b=some (.frz o (.lst u))) (tbls:∀ b ps,H b=some (.tbl ps)->∃ more,H' b=some (.tbl (ps++more)))
 (ns:∀ m,s.heap.Ns X.env.locals m->h'.Ns X.env.locals m) (hok:HOk X.prog X.w H' h') (hg:AllBare g'):
 Inv X pins σ H' {s with heap:=h',gens:=g',drawn:=d',toks:=t'}:=by
 have neL:∀ b o,X.s₀.heap.get? b=some o->b≠X.env.locals:=λb o e=>Sx (TV (Sj e) I.ok.above)
 have neC:∀ b o,X.s₀.heap.get? b=some o->b∉X.ex->b∉ch:=λb o e hx hb=>by
  rcases(hch b hb).1 with z | z
  ·exact hx z
  ·exact absurd (TV (Sj e) z) (UQ _)
 have cellK:∀ x c,X.env.cells.lookup x=some c->∀ v,s.heap.IsCell c v->h'.IsCell c v:=λx c e v ⟨o,ho,hd⟩=>by
  have nch:c∉ch:=λz=>(hch c z).2.2.1 x c e rfl;by_cases hc:c∈X.fs
  ·obtain⟨sl,q⟩:=slot c o (I.cne x c e) hc nch ho (I.freeC x c e);exact⟨_,q,hd⟩
  ·exact⟨o,keep c o (I.cne x c e) hc nch ho (I.freeC x c e),hd⟩
 refine⟨I.ok,I.os,hg,⟨λb o e n hb hx=>?_,λb o e n hb hx=>?_,λb o e n hx=>?_,λb o e hx=>?_,λb xs e=>tups b xs (I.base.tups b xs e),λb o xs e=>frzs b o xs (I.base.frzs b o xs e),λb ps e=>?_⟩,?_,λx c e=>?_,?_,λx c e=>?_,λp hp=>?_,hok,I.len⟩
 ·exact keep b o (neL b o e) hb (neC b o e hx) (I.base.keep b o e n hb hx) (I.base.free b o e n hx)
 ·obtain⟨sl,e1⟩:=I.base.slot b o e n hb hx;obtain⟨sl',e2⟩:=slot b _ (neL b o e) hb (neC b o e hx) e1 (I.base.free b o e n hx);exact⟨sl',e2⟩
 ·obtain⟨o',e1⟩:=I.base.there b o e hx;exact free b o' (neC b o e hx) e1 (I.base.free b o e n hx)
 ·obtain⟨o',e1⟩:=I.base.there b o e hx;exact there b o' (neC b o e hx) e1
 ·obtain⟨m1,e1⟩:=I.base.tbls b ps e;obtain⟨m2,e2⟩:=tbls b _ e1;exact⟨m1++m2,by rw[e2,Array.append_assoc]⟩
 ·obtain⟨m,hn,hl⟩:=I.loc;refine⟨m,ns m hn,λi x v e1 e2 e3=>?_⟩;obtain⟨u,r,l⟩:=hl i x v e1 e2 e3;refine⟨u,r,?_⟩;rcases l with l | ⟨k,c,e,z⟩
  ·exact .inl l
  ·exact .inr ⟨k,c,e,cellK x c e _ z⟩
 ·obtain⟨v,z⟩:=I.cell x c e;exact⟨v,cellK x c e v z⟩
 ·obtain⟨m,⟨o,_,_,ho,_⟩,_⟩:=I.loc;exact free _ o (λz=>(hch _ z).2.1 rfl) ho I.free
 ·obtain⟨v,o,ho,hd⟩:=I.cell x c e;exact free c o (λz=>(hch c z).2.2.1 x c e rfl) ho (I.freeC x c e)
 ·obtain⟨e,n,ne,nf,d⟩:=I.pin p hp;have nch:p.1∉ch:=λz=>(hch p.1 z).2.2.2 p hp rfl;exact⟨keep p.1 p.2 ne nf nch e n,free p.1 p.2 nch e n,ne,nf,d⟩
theorem Inv.un{t':Nat}(I:Inv X pins σ H s)(u:Un X.fs [] H H' s.heap h')(hok:HOk X.prog X.w H' h'):Inv X pins σ H' {s with heap:=h',toks:=t'}:=by
 obtain⟨m,⟨o,es,ep,ho,r⟩,_⟩:=id I.loc;obtain⟨sl,hL⟩:=u.any ho I.free (by simp)
 exact I.step (g':=s.gens) (d':=s.drawn) (ch:=[]) (λ_ z=>nomatch z) (λb o _ hb _ e n=>u.keep b o e n hb (by simp)) (λb o _ hb _ e n=>u.slot b o e n hb (by simp)) (λb o _ e n=>u.free b o e n (by simp)) (λb o _ e=>u.there b o e (by simp)) u.tups u.frzs u.tbls (λm' hm=>by
  obtain⟨o',es',ep',ho',r'⟩:=hm;rw[ho]at ho';cases ho';exact⟨_,es',ep',hL,r'⟩) hok I.bare
theorem Inv.call{g':Array YO}{t':Nat}{d':Drawn}{ch:List Wm}(I:Inv X pins σ H s)(u:Un (frs X.stack) ch H H' s.heap h')(hok:HOk X.prog X.w H' h')(hg:AllBare g')
 (hch:∀ b∈ch,(b∈X.ex\/X.s₀.heap.objs.size<=b)/\b≠X.env.locals/\(∀ x c,X.env.cells.lookup x=some c->c≠b)/\∀ p∈X.pn++pins,p.1≠b):
 Inv X pins σ H' {s with heap:=h',gens:=g',drawn:=d',toks:=t'}:=by
 obtain⟨m,⟨o,es,ep,ho,r⟩,_⟩:=id I.loc;obtain⟨sl,hL⟩:=u.any ho I.free λz=>(hch _ z).2.1 rfl
 exact I.step (ch:=ch) hch (λb o hL hb hc e n=>u.keep b o e n (λz=>(T7.mp (I.stkSub b z)).elim hL hb) hc) (λb o _ _ hc e n=>u.any e n hc) (λb o hc e n=>u.free b o e n hc) (λb o hc e=>u.there b o e hc) u.tups u.frzs u.tbls (λm' hm=>by
  obtain⟨o',es',ep',ho',r'⟩:=hm;rw[ho]at ho';cases ho';exact⟨_,es',ep',hL,r'⟩) hok hg
theorem Inv.turned{t':Nat}{it:Wm}(I:Inv X pins σ H s)(k:∀ b o,b≠it->s.heap.get? b=some o->h'.get? b=some o)(hn:H it=none)(hL:it≠X.env.locals)
 (h1:it∈X.ex\/X.s₀.heap.objs.size<=it) (h2:∀ x c,X.env.cells.lookup x=some c->c≠it) (h3:∀ p∈X.pn++pins,p.1≠it):Inv X pins σ H {s with heap:=h',toks:=t'}:=by
 have nit:∀ b u,H b=some u->b≠it:=λb u e z=>by rw[z,hn]at e;cases e
 refine I.step (g':=s.gens) (d':=s.drawn) (ch:=[it]) (λb hb=>?_) (λb o _ _ hc e _=>k b o (λz=>hc (by simp[z])) e) (λb o _ _ hc e _=>⟨o.slots,k b o (λz=>hc (by simp[z])) e⟩) (λ_ _ _ _ n=>n)
  (λb o hc e=>⟨o,k b o (λz=>hc (by simp[z])) e⟩) (λ_ _ e=>e) (λ_ _ _ e=>e) (λb ps e=>⟨#[],by rw[e];simp⟩) (λm hm=>?_) (λb u e=>?_) I.bare
 ·have e:b=it:=by simpa using hb
  subst e;exact⟨h1,hL,h2,h3⟩
 ·obtain⟨o,es,ep,ho,r⟩:=hm;exact⟨o,es,ep,k _ o (Ne.symm hL) ho,r⟩
 ·refine(I.hok b u e).stay (λc v hc q=>k c v ?_ q) (λ_ q=>q) λ_ _ q=>q;rcases hc with z | z
  ·rw[z];exact nit b u e
  ·exact nit c _ z
theorem Inv.tok(I:Inv X pins σ H s)(t:Nat):Inv X pins σ H {s with toks:=t}:=I.un (h':=s.heap) (t':=t) Un.refl I.hok
theorem Inv.kept{t':Nat}(I:Inv X pins σ H s)(k:∀ b u,s.heap.get? b=some u->h'.get? b=some u):Inv X pins σ H {s with heap:=h',toks:=t'}:=I.un (Un.kept k) (I.hok.kept k)
theorem Inv.laid{a:Wm}{o:HO}{t':Nat}(I:Inv X pins σ H s)(k:∀ b u,s.heap.get? b=some u->h'.get? b=some u)(hp:s.heap.objs.size<=a)(new:ObjOk X.prog X.w (upd H a o) h' a o):
 Inv X pins σ (upd H a o) {s with heap:=h',toks:=t'}:=I.un (Un.laid k hp (I.hok.fresh hp)) (I.hok.laid k hp new)
theorem Inv.write{x e:Wm}{o:HO}{t':Nat}(I:Inv X pins σ H s)(mu:Mut (H x))(he:e=x\/H e=some (.own x))(k:∀ b u,b≠e->s.heap.get? b=some u->h'.get? b=some u)(heo:∃ u,h'.get? e=some u)
 (new:ObjOk X.prog X.w (upd H x o) h' x o):Inv X pins σ (upd H x o) {s with heap:=h',toks:=t'}:=I.un (Un.write mu he k heo) (I.hok.write mu he k heo new)
theorem Inv.weak{σ':List (Option V)}(I:Inv X pins σ H s)(hl:σ'.length=σ.length)(w:∀(i:Nat) v,σ'[i]?=some (some v)->σ[i]?=some (some v)):Inv X pins σ' H s:=
 ⟨I.ok,I.os,I.bare,I.base,let ⟨m,hn,hl'⟩:=I.loc;⟨m,hn,λi x v e1 e2 e3=>hl' i x v e1 (w i v e2) e3⟩,I.cell,I.free,I.freeC,I.pin,I.hok,hl.trans I.len⟩
theorem Inv.pins_of{pins':List (Wm×Obj)}(I:Inv X pins σ H s)(h:∀ p∈pins',s.heap.get? p.1=some p.2/\H p.1=none/\p.1≠X.env.locals/\p.1∉X.fs/\∀ v,p.2.data ≠ .cell v):Inv X pins' σ H s:=
 ⟨I.ok,I.os,I.bare,I.base,I.loc,I.cell,I.free,I.freeC,λp hp=>(TK.mp hp).elim (λz=>I.pin p (UJ _ z)) (h p),I.hok,I.len⟩
theorem EV{N:List Str}(hN:N.Nodup){i j:Nat}{x:Str}(a:N[i]?=some x)(b:N[j]?=some x):i=j:=by
 obtain⟨h1,e1⟩:=gM a;obtain⟨h2,e2⟩:=gM b;exact(W3 hN).mp (e1.trans e2.symm)
theorem DR{M:Model}{A:Wx}{E:Wk->Wl->Prop}{i:Nat}{x:Str}{v:V}{u:Wk}{Q:Unit->Wl->Prop}(I:Inv X pins σ H s)(hN:X.N.Nodup)(hi:X.N[i]?=some x)(hx:Loc X.env.scope x)(r:RelV v u)
 (h:∀ s',Inv X pins (σ.set i (some v)) H s'->(∃ a,Tc a s.heap s'.heap/\(a=X.env.locals\/X.env.cells.lookup x=some a))->Q () s') (hf:X.fn x=true\/X.env.scope.names.lookup x=some .local:=by first | exact .inl rfl | exact .inr rfl | assumption):Wo M A (storeName X.env x u) Q E s:=by
 obtain⟨m,hn,hl⟩:=id I.loc;have hcls:(X.env.scope.kind == .class||(X.env.scope.kind == .module&&X.env.locals != X.env.globals))=false:=by rw[I.ok.kind];rfl
 have hiσ:i<σ.length:=by rw[I.len];exact(gM hi).1
 have cne:=I.cne
 have tracked:∀{a:Wm} {h':Heap},(∃ o,s.heap.get? a=some o/\H a=none)->Tc a s.heap h'->HOk X.prog X.w H h':=λ{a h'} ha hs b ob e=>by
  obtain⟨_,_,hfree⟩:=ha;refine(I.hok b ob e).stay (λc w' hc q=>(hs.2 c ?_).trans q) (λ_ q=>q) λ_ _ q=>q;rintro rfl;rcases hc with rfl | hc
  ·rw[hfree]at e;cases e
  ·rw[hfree]at hc;cases hc
 rcases hx with hk | hk
 ·refine wpAny_storeName_local hk hn (λh' hn' hs=>?_) hcls;obtain⟨oL,_,_,hoL,_⟩:=id hn;refine h _ ⟨I.ok,I.os,I.bare,⟨λb o e n hb hx=>?_,λb o e n hb hx=>?_,I.base.free,λb o e hx=>?_,I.base.tups,I.base.frzs,I.base.tbls⟩,⟨_,hn',λj y v' e1 e2 e3=>?_⟩,λy c e=>?_,I.free,I.freeC,λp hp=>?_,tracked ⟨oL,hoL,I.free⟩ hs,by simpa using I.len⟩ ⟨_,hs,.inl rfl⟩
  ·exact(hs.2 b (Sx (TV (Sj e) I.ok.above))).trans (I.base.keep b o e n hb hx)
  ·obtain⟨sl,e1⟩:=I.base.slot b o e n hb hx;exact⟨sl,(hs.2 b (Sx (TV (Sj e) I.ok.above))).trans e1⟩
  ·obtain⟨o',e1⟩:=I.base.there b o e hx;exact⟨o',(hs.2 b (Sx (TV (Sj e) I.ok.above))).trans e1⟩
  ·by_cases hj:j=i
   ·subst hj;rw[hi]at e1;cases e1;rw[UD hiσ]at e2;cases e2;exact⟨u,r,.inl ⟨hk,by simp⟩⟩
   ·rw[UX (Ne.symm hj)]at e2;obtain⟨u',r',q⟩:=hl j y v' e1 e2 e3;refine⟨u',r',?_⟩;rcases q with⟨k,e⟩ | ⟨k,c,e,z⟩
    ·refine .inl ⟨k,?_⟩;have:y≠x:=λe=>hj (EV hN e1 (e▸hi));simp[this,e]
    ·exact .inr ⟨k,c,e,z.sameBut hs (cne y c e)⟩
  ·obtain⟨w',z⟩:=I.cell y c e;exact⟨w',z.sameBut hs (cne y c e)⟩
  ·obtain⟨e,n,ne,nf,d⟩:=I.pin p hp;exact⟨(hs.2 p.1 ne).trans e,n,ne,nf,d⟩
 ·have hfn:X.fn x=true:=by
   rcases hf with z | z
   ·exact z
   ·rw[z]at hk;cases hk
  obtain⟨c,hc⟩:=I.ok.has x (.inl hk);obtain⟨w',z⟩:=I.cell x c hc;refine wpAny_storeName_cell I.ok.kind hk hc z (λh' hc' hs=>?_);obtain⟨oc,hoc,hocd⟩:=id z;refine h {s with heap:=h'} ⟨I.ok,I.os,I.bare,⟨λb o e n hb hx=>?_,λb o e n hb hx=>?_,I.base.free,λb o e hx=>?_,I.base.tups,I.base.frzs,I.base.tbls⟩,⟨m,hn.sameBut hs (Ne.symm (cne x c hc)),λj y v' e1 e2 e3=>?_⟩,λy c' e=>?_,I.free,I.freeC,λp hp=>?_,tracked ⟨oc,hoc,I.freeC x c hc⟩ hs,by simpa using I.len⟩ ⟨c,hs,.inr hc⟩
  ·exact(hs.2 b (Sx (TV (Sj e) (I.ok.cab x c hfn hc)))).trans (I.base.keep b o e n hb hx)
  ·obtain⟨sl,e1⟩:=I.base.slot b o e n hb hx;exact⟨sl,(hs.2 b (Sx (TV (Sj e) (I.ok.cab x c hfn hc)))).trans e1⟩
  ·obtain⟨o',e1⟩:=I.base.there b o e hx;exact⟨o',(hs.2 b (Sx (TV (Sj e) (I.ok.cab x c hfn hc)))).trans e1⟩
  ·by_cases hj:j=i
   ·subst hj;rw[hi]at e1;cases e1;rw[UD hiσ]at e2;cases e2;exact⟨u,r,.inr ⟨.inl hk,c,hc,hc'⟩⟩
   ·rw[UX (Ne.symm hj)]at e2;obtain⟨u',r',q⟩:=hl j y v' e1 e2 e3;refine⟨u',r',?_⟩;rcases q with q | ⟨k,c',e,z'⟩
    ·exact .inl q
    ·refine .inr ⟨k,c',e,z'.sameBut hs ?_⟩;rintro rfl;exact hj (EV hN e1 (I.ok.inj _ _ _ e hc▸hi))
  ·by_cases hcc:c'=c
   ·subst hcc;exact⟨_,hc'⟩
   ·obtain⟨w2,z2⟩:=I.cell y c' e;exact⟨w2,z2.sameBut hs hcc⟩
  ·obtain⟨e,n,ne,nf,d⟩:=I.pin p hp;refine⟨(hs.2 p.1 ?_).trans e,n,ne,nf,d⟩;intro q;rw[q,hoc]at e;have q':oc=p.2:=oj e;exact d w' (by rw[<-q'];exact hocd)
theorem EW{M:Model}{A:Wx}{E:Wk->Wl->Prop}{i:Nat}{x:Str}{v:V}{u:Wk}{Q:Unit->Wl->Prop}(I:Inv X pins σ H s)(hN:X.N.Nodup)(hi:X.N[i]?=some x)(hx:Loc X.env.scope x)(r:RelV v u)
 (h:∀ s',Inv X pins (σ.set i (some v)) H s'->Q () s') (hf:X.fn x=true\/X.env.scope.names.lookup x=some .local:=by first | exact .inl rfl | exact .inr rfl | assumption):Wo M A (storeName X.env x u) Q E s:=
 DR I hN hi hx r (λs' I' _=>h s' I') hf
theorem Inv.call'{s':Wl}{ch:List Wm}(I:Inv X pins σ H s)(ho:s'.os=s.os)(u:Un (frs X.stack) ch H H' s.heap s'.heap)(hok:HOk X.prog X.w H' s'.heap)(hg:AllBare s'.gens)
 (hch:∀ b∈ch,(b∈X.ex\/X.s₀.heap.objs.size<=b)/\b≠X.env.locals/\(∀ x c,X.env.cells.lookup x=some c->c≠b)/\∀ p∈X.pn++pins,p.1≠b):Inv X pins σ H' s':=by
 obtain⟨h',g',d',t',o'⟩:=s';have e:o'=s.os:=ho;subst e;exact I.call (g':=g') (t':=t') (d':=d') u hok hg hch
end
abbrev XK:=Wk->Option Wm->Hp->Prop
abbrev St:=List (Option V)
abbrev VK:=V->Hp->Prop
abbrev TE:=St->Hp->VK->Prop
abbrev TT:=St->Hp->(Bool->Hp->Prop)->Prop
abbrev TA:=St->Hp->(List V->Hp->Prop)->Prop
structure Ends where
 nx:St->Hp->Prop
 rt:VK
 bk:St->Hp->Prop:=λ_ _=>False
 ct:St->Hp->Prop:=λ_ _=>False
abbrev TS:=Ends->St->Hp->Prop
def EP(X:Cx)(pins:List (Wm×Obj))(σ:St)(Q:VK)(u:Wk)(s':Wl):Prop:=∃ v H',Inv X pins σ H' s'/\RelV v u/\Q v H'
def TP(X:Cx)(pins:List (Wm×Obj))(σ:St)(Q:Bool->Hp->Prop)(b:Bool)(s':Wl):Prop:=∃ H',Inv X pins σ H' s'/\Q b H'
def AP(X:Cx)(pins:List (Wm×Obj))(σ:St)(Q:List V->Hp->Prop)(us:List Wk)(s':Wl):Prop:=∃ vs H',Inv X pins σ H' s'/\Vals vs us/\Q vs H'
def SP(X:Cx)(pins:List (Wm×Obj))(D:Ends)(f:Flow)(s':Wl):Prop:=
 match f with
 | .next=>∃ σ' H',Inv X pins σ' H' s'/\D.nx σ' H'
 | .brk=>∃ σ' H',Inv X pins σ' H' s'/\D.bk σ' H'
 | .cont=>∃ σ' H',Inv X pins σ' H' s'/\D.ct σ' H'
 | .ret u=>∃ v σ' H',Inv X pins σ' H' s'/\RelV v u/\D.rt v H'
noncomputable def PE(X:Cx)(e:Expr)(t:TE):Prop:=
 ∀(pins:List (Wm×Obj)) (s:Wl) (σ:St) (H:Hp) (Q:VK),Inv X pins σ H s->t σ H Q->Wo (Wp X.prog X.w) X.A (eval e X.env) (EP X pins σ Q) X.xe s
noncomputable def PT(X:Cx)(e:Expr)(t:TT):Prop:=
 ∀(pins:List (Wm×Obj)) (s:Wl) (σ:St) (H:Hp) (Q:Bool->Hp->Prop),Inv X pins σ H s->t σ H Q->Wo (Wp X.prog X.w) X.A (isTrue e X.env (eval e X.env)) (TP X pins σ Q) X.xe s
noncomputable def PW(X:Cx)(e:Expr)(t:TT):Prop:=
 ∀(whole:Sem Wk) (pins:List (Wm×Obj)) (s:Wl) (σ:St) (H:Hp) (Q:Bool->Hp->Prop),Inv X pins σ H s->t σ H Q->Wo (Wp X.prog X.w) X.A (isTrue e X.env whole) (TP X pins σ Q) X.xe s
theorem PW.pt{X:Cx}{e:Expr}{t:TT}(h:PW X e t):PT X e t:=h _
noncomputable def PA(X:Cx)(es:List Expr)(t:TA):Prop:=
 ∀(pos:Pos) (pins:List (Wm×Obj)) (s:Wl) (σ:St) (H:Hp) (Q:List V->Hp->Prop),Inv X pins σ H s->t σ H Q->Wo (Wp X.prog X.w) X.A (spliced (backTo pos (Wv es X.env))) (AP X pins σ Q) X.xe s
noncomputable def PS(X:Cx)(st:Stmt)(t:TS):Prop:=
 ∀(pins:List (Wm×Obj)) (s:Wl) (σ:St) (H:Hp) (D:Ends),Inv X pins σ H s->t D σ H->Wo (Wp X.prog X.w) X.A (exec st X.env) (SP X pins D) X.xe s
noncomputable def PSs(X:Cx)(st:List Stmt)(t:TS):Prop:=
 ∀(pins:List (Wm×Obj)) (s:Wl) (σ:St) (H:Hp) (D:Ends),Inv X pins σ H s->t D σ H->Wo (Wp X.prog X.w) X.A (execs st X.env) (SP X pins D) X.xe s
theorem thn{α:Type}{t:Sem α}{Q Q':α->Wl->Prop}{M:Model}{A:Wx}{E:Wk->Wl->Prop}{s:Wl}(h:Wo M A t Q E s)(hQ:∀ a s,Q a s->Q' a s):Wo M A t Q' E s:=XH h hQ λ_ _ x=>x
section
variable{X:Cx}
def EX(i:Nat):TE:=λσ H Q=>∃ v,σ[i]?=some (some v)/\Q v H
def tC(v:V):TE:=λ_ H Q=>Q v H
theorem OZ{i:Nat}{x:Str}{pos:Pos}(hN:X.N[i]?=some x)(hv:Vis X.env.scope x)(hd:(x == ("__debug__":Str))=false:=by decide)(hcd:(x == ("__classdict__":Str))=false:=by decide):PE X (.Name x pos) (EX i):=by
 intro pins s σ H Q I h;obtain⟨v,e,h⟩:=h;obtain⟨m,hn,hl⟩:=I.loc;obtain⟨u,r,l⟩:=hl i x v hN e hv;have fin:EP X pins σ Q u s:=⟨v,H,I,r,h⟩
 rcases l with⟨hk,hm⟩ | ⟨hk,c,hc,hcell⟩
 ·exact Z2 (wpAny_loadName_local I.ok.kind hk hn hm fin) hd
 ·rcases hk with hk | hk
  ·exact Z2 (wpAny_loadName_cell I.ok.kind hk hc hcell fin) hd
  ·exact Z2 (wpAny_loadName_free I.ok.kind hk hc hcell fin hcd) hd
theorem Oa{i j pos}:PE X (.Constant (.int i) j pos) (tC (.int i)):=λ_ _ _ H _ I h=>wpAny_Constant_int ⟨.int i,H,I.tok _,⟨_,rfl⟩,h⟩
theorem QY{b j pos}:PE X (.Constant (.bool b) j pos) (tC (.bl b)):=λ_ _ _ H _ I h=>Constant_bool ⟨.bl b,H,I,rfl,h⟩
theorem Of{j pos}:PE X (.Constant .none j pos) (tC .non):=λ_ _ _ H _ I h=>Constant_none ⟨.non,H,I,rfl,h⟩
theorem Og{x j pos}:PE X (.Constant (.str x) j pos) (tC (.str x)):=λ_ _ _ H _ I h=>Calls.Constant_str ⟨.str x,H,I.tok _,⟨_,rfl⟩,h⟩
def Gl(X:Cx)(x:Str):Prop:=X.env.kindOf x=some .globalImplicit
theorem MB{E:Wk->Wl->Prop}{pins:List (Wm×Obj)}{s:Wl}{σ:St}{H:Hp}{x:Str}{u:Wk}{pos:Pos}{Q:Wk->Wl->Prop}(I:Inv X pins σ H s)(hg:Gl X x)(hm:X.mg x=some u)(h:Q u s)
 (hd:(x == ("__debug__":Str))=false:=by decide):Wo (Wp X.prog X.w) X.A (eval (.Name x pos) X.env) Q E s:=
 Calls.Name_function_global I.ok.kind hg (Calls.loadGlobal_global (by rw[I.ok.glob];exact I.mod.glob.keeps I.bk) hm h) hd
theorem AL{E:Wk->Wl->Prop}{pins:List (Wm×Obj)}{s:Wl}{σ:St}{H:Hp}{x:Str}{u:Wk}{pos:Pos}{Q:Wk->Wl->Prop}(I:Inv X pins σ H s)(hg:Gl X x)(hm:X.mg x=none)(hv:Wu x=some u)(h:Q u s)
 (hn:x≠"__name__":=by decide) (hd:(x == ("__debug__":Str))=false:=by decide):Wo (Wp X.prog X.w) X.A (eval (.Name x pos) X.env) Q E s:=by
 obtain⟨mb,h1,h2⟩:=I.mod.blt;exact Calls.Name_function_global I.ok.kind hg (Calls.loadGlobal_builtin (by rw[I.ok.glob];exact I.mod.glob.keeps I.bk) hm (by rw[I.ok.blt];exact h1.keeps I.bk) ((h2 x hn).trans hv) h) hd
theorem MC{x:Str}{v:V}{u:Wk}{pos:Pos}(hg:Gl X x)(hm:X.mg x=none)(hv:Wu x=some u)(r:RelV v u)(hn:x≠"__name__":=by decide)(hd:(x == ("__debug__":Str))=false:=by decide):PE X (.Name x pos) (tC v):=
 λ_ _ _ H _ I h=>AL I hg hm hv ⟨v,H,I,r,h⟩ hn hd
variable{a b:Expr}{ta tb:TE}{pos:Pos}
variable{tA tB':TT}{rest:List Expr}
def QZ(t u:TT):TT:=λσ H Q=>t σ H λc H1=>if c=true then u σ H1 Q else Q false H1
def tOr(t u:TT):TT:=λσ H Q=>t σ H λc H1=>if c=true then Q true H1 else u σ H1 Q
def Qa(t:TT):TT:=λσ H Q=>t σ H λc H1=>Q (!c) H1
theorem MD(ha:PT X a tA):PW X (.BoolOp .And [a] pos) tA:=by
 intro wh pins s σ H Q I h;refine isTrue_and (thn (ha pins s σ H Q I h) λc s1 e=>?_);cases c with
 | true=>exact isTrue_and_nil e
 | false=>exact e
theorem Oh(ha:PT X a tA):PW X (.BoolOp .Or [a] pos) tA:=by
 intro wh pins s σ H Q I h;refine isTrue_or (thn (ha pins s σ H Q I h) λc s1 e=>?_);cases c with
 | false=>exact isTrue_or_nil e
 | true=>exact e
theorem JY(ha:PT X a tA)(hb:PW X (.BoolOp .And (b::rest) pos) tB'):PW X (.BoolOp .And (a::b::rest) pos) (QZ tA tB'):=by
 intro wh pins s σ H Q I h;refine isTrue_and (thn (ha pins s σ H _ I h) λc s1 ⟨H1,I1,q1⟩=>?_);cases c with
 | true=>exact hb wh pins s1 σ H1 Q I1 q1
 | false=>exact⟨H1,I1,q1⟩
theorem No(ha:PT X a tA)(hb:PW X (.BoolOp .Or (b::rest) pos) tB'):PW X (.BoolOp .Or (a::b::rest) pos) (tOr tA tB'):=by
 intro wh pins s σ H Q I h;refine isTrue_or (thn (ha pins s σ H _ I h) λc s1 ⟨H1,I1,q1⟩=>?_);cases c with
 | true=>exact⟨H1,I1,q1⟩
 | false=>exact hb wh pins s1 σ H1 Q I1 q1
theorem Oi(ha:PT X a tA):PT X (.UnaryOp .Not a pos) (Qa tA):=by
 intro pins s σ H Q I h;exact isTrue_not (ha pins s σ H (λc H1=>Q (!c) H1) I h)
def Np(ta tb:TE):TE:=λσ H Q=>ta σ H λx H1=>∃ c,x = .bl c/\if c=true then tb σ H1 Q else Q (.bl false) H1
def Qb(ta tb:TE):TE:=λσ H Q=>ta σ H λx H1=>∃ c,x = .bl c/\if c=true then Q (.bl true) H1 else tb σ H1 Q
def Nq(ta:TE):TE:=λσ H Q=>ta σ H λx H1=>∃ c,x = .bl c/\Q (.bl (!c)) H1
theorem JZ{op}{t:TE}(h:PE X a t):PE X (.BoolOp op [a] pos) t:=λpins s σ H Q I hw=>BoolOp_one (h pins s σ H Q I hw)
theorem Ja(ha:PE X a ta)(hb:PE X (.BoolOp .And (b::rest) pos) tb):PE X (.BoolOp .And (a::b::rest) pos) (Np ta tb):=by
 intro pins s σ H Q I h;refine BoolOp_and (thn (ha pins s σ H _ I h) λv s1 ⟨x,H1,I1,r1,q1⟩=>?_);obtain⟨c,rfl,q1⟩:=q1;cases r1;refine X4 ?_;cases c with
 | true=>exact hb pins s1 σ H1 Q I1 q1
 | false=>exact⟨.bl false,H1,I1,rfl,q1⟩
theorem Nr(ha:PE X a ta)(hb:PE X (.BoolOp .Or (b::rest) pos) tb):PE X (.BoolOp .Or (a::b::rest) pos) (Qb ta tb):=by
 intro pins s σ H Q I h;refine BoolOp_or (thn (ha pins s σ H _ I h) λv s1 ⟨x,H1,I1,r1,q1⟩=>?_);obtain⟨c,rfl,q1⟩:=q1;cases r1;refine X4 ?_;cases c with
 | false=>exact hb pins s1 σ H1 Q I1 q1
 | true=>exact⟨.bl true,H1,I1,rfl,q1⟩
theorem Oj(ha:PE X a ta):PE X (.UnaryOp .Not a pos) (Nq ta):=by
 intro pins s σ H Q I h;refine UnaryOp_ (thn (ha pins s σ H _ I h) λv s1 ⟨x,H1,I1,r1,q1⟩=>?_);obtain⟨c,rfl,q1⟩:=q1;cases r1;exact not_of (X4 ⟨.bl (!c),H1,I1,rfl,q1⟩)
def tIf(t:TT)(ta tb:TE):TE:=λσ H Q=>t σ H λc H1=>if c=true then ta σ H1 Q else tb σ H1 Q
theorem Jb{c:Expr}(hc:PT X c tA)(ha:PE X a ta)(hb:PE X b tb):PE X (.IfExp c a b pos) (tIf tA ta tb):=by
 intro pins s σ H Q I h;refine wpAny_IfExp (thn (hc pins s σ H _ I h) λd s1 ⟨H1,I1,q1⟩=>?_);cases d with
 | true=>exact ha pins s1 σ H1 Q I1 q1
 | false=>exact hb pins s1 σ H1 Q I1 q1
end
def SqL(K:Sd)(H:Hp)(a:Wm)(xs:List V):Prop:=
 Rd H a (.lst xs)\/
  ∃(o:Obj) (its:Array Wk) (n:Nat),K.lookup a=some o/\o.cls = .type "list"/\o.dict=none/\o.data = .seq its n/\its.size<=Ws/\Vals xs its.toList
def SqT(K:Sd)(H:Hp)(a:Wm)(xs:List V):Prop:=
 Rd H a (.tup xs)\/
  ∃(o:Obj) (its:Array Wk) (n:Nat),K.lookup a=some o/\o.cls = .type "tuple"/\o.data = .seq its n/\its.size<=Ws/\Vals xs its.toList
def SA:Wk->Option V
 | .none=>some .non
 | .bool b=>some (.bl b)
 | .int i _=>some (.int i)
 | .str x _=>some (.str x)
 | .bytes b _=>some (.byt b)
 | .float b _=>some (.flt b)
 | .ref a=>some (.ref a)
 | .type n=>some (.ty n)
 | _=>none
theorem RelV.abs{x:V}{u:Wk}(r:RelV x u):SA u=some x:=by
 cases x with
 | non=>cases r;rfl
 | bl _=>cases r;rfl
 | int _=>obtain⟨t,rfl⟩:=r;rfl
 | str _=>obtain⟨t,rfl⟩:=r;rfl
 | byt _=>obtain⟨t,rfl⟩:=r;rfl
 | flt _=>obtain⟨t,rfl⟩:=r;rfl
 | ref _=>cases r;rfl
 | ty _=>cases r;rfl
theorem RelV.inj{x y:V}{u:Wk}(r:RelV x u)(q:RelV y u):x=y:=oj (r.abs.symm.trans q.abs)
theorem Vals.inj:∀{xs ys:List V} {us:List Wk},Vals xs us->Vals ys us->xs=ys
 | _,_,_,.nil,.nil=>rfl
 | _,_,_,.cons r t,.cons r' t'=>by rw[r.inj r',Vals.inj t t']
section
variable{X:Cx}{pins:List (Wm×Obj)}{σ:St}{H:Hp}{s:Wl}{a:Wm}{xs ys:List V}
theorem SqL.of{K:Sd}(h:H a=some (.lst xs)):SqL K H a xs := .inl (.inl h)
theorem SqT.of{K:Sd}(h:H a=some (.tup xs)):SqT K H a xs := .inl (.inl h)
theorem Inv.list(I:Inv X pins σ H s)(h:SqL X.K H a xs):∃ its:List Wk,Vals xs its/\PlainL s.heap a its.toArray/\xs.length<=Ws:=by
 rcases h with h | ⟨o,its,n,hk,hc,hd,hs,hz,r⟩
 ·obtain⟨z,its,n,r,e⟩:=h.ok I.hok;exact⟨its,r,⟨_,n,e,rfl,rfl,rfl⟩,z⟩
 ·refine⟨its.toList,r,⟨o,n,I.kIn a o hk,hc,hd,by simpa using hs⟩,?_⟩;have e:=r.length;simp only[Tr]at e;omega
theorem Inv.tuple(I:Inv X pins σ H s)(h:SqT X.K H a xs):∃ its:List Wk,Vals xs its/\IsTup s.heap a its.toArray/\xs.length<=Ws:=by
 rcases h with h | ⟨o,its,n,hk,hc,hs,hz,r⟩
 ·obtain⟨z,its,r,p⟩:=h.ok I.hok;exact⟨its,r,p,z⟩
 ·refine⟨its.toList,r,⟨o,I.kIn a o hk,hc,n,by simpa using hs⟩,?_⟩;have e:=r.length;simp only[Tr]at e;omega
theorem Inv.list_inj(I:Inv X pins σ H s)(h:SqL X.K H a xs)(h':SqL X.K H a ys):xs=ys:=by
 obtain⟨its,r,⟨o,n,e,_,_,d⟩,_⟩:=I.list h;obtain⟨its',r',⟨o',n',e',_,_,d'⟩,_⟩:=I.list h';rw[e]at e';cases e';rw[d]at d';injection d' with d1 _;have:its=its':=by simpa using congrArg Wd d1
 subst this;exact r.inj r'
theorem Inv.tuple_inj(I:Inv X pins σ H s)(h:SqT X.K H a xs)(h':SqT X.K H a ys):xs=ys:=by
 obtain⟨its,r,⟨o,e,_,n,d⟩,_⟩:=I.tuple h;obtain⟨its',r',⟨o',e',_,n',d'⟩,_⟩:=I.tuple h';rw[e]at e';cases e';rw[d]at d';injection d' with d1 _;have:its=its':=by simpa using congrArg Wd d1
 subst this;exact r.inj r'
end
abbrev Cx.wish(X:Cx)(E:Wk->Wl->Prop):Cx:={X with xe:=E}
abbrev Cx.nox(X:Cx):Cx:=X.wish λ_ _=>False
theorem Cx.Ok.wish{X:Cx}(ok:X.Ok)(E:Wk->Wl->Prop):(X.wish E).Ok:=
 ⟨ok.mod,ok.kind,ok.glob,ok.blt,ok.above,ok.inj,ok.has,ok.cab,ok.hd,ok.frames,ok.stk,ok.exf,ok.bs,ok.bsz,ok.noex,ok.exfs,ok.funs,ok.frf⟩
theorem Cx.Ok.unwish{X:Cx}{E:Wk->Wl->Prop}(ok:(X.wish E).Ok):X.Ok:=
 ⟨ok.mod,ok.kind,ok.glob,ok.blt,ok.above,ok.inj,ok.has,ok.cab,ok.hd,ok.frames,ok.stk,ok.exf,ok.bs,ok.bsz,ok.noex,ok.exfs,ok.funs,ok.frf⟩
section
variable{X:Cx}{pins:List (Wm×Obj)}{σ:St}{H:Hp}{s:Wl}{E:Wk->Wl->Prop}
theorem Inv.wish(I:Inv X pins σ H s)(E:Wk->Wl->Prop):Inv (X.wish E) pins σ H s:=⟨I.ok.wish E,I.os,I.bare,I.base,I.loc,I.cell,I.free,I.freeC,I.pin,I.hok,I.len⟩
theorem Inv.unwish(I:Inv (X.wish E) pins σ H s):Inv X pins σ H s:=⟨I.ok.unwish,I.os,I.bare,I.base,I.loc,I.cell,I.free,I.freeC,I.pin,I.hok,I.len⟩
theorem SP.unwish{D:Ends}{f:Flow}{s':Wl}(h:SP (X.wish E) pins D f s'):SP X pins D f s':=by
 cases f with
 | next=>obtain⟨σ',H',I,q⟩:=h;exact⟨σ',H',I.unwish,q⟩
 | brk=>obtain⟨σ',H',I,q⟩:=h;exact⟨σ',H',I.unwish,q⟩
 | cont=>obtain⟨σ',H',I,q⟩:=h;exact⟨σ',H',I.unwish,q⟩
 | ret u=>obtain⟨v,σ',H',I,r,q⟩:=h;exact⟨v,σ',H',I.unwish,r,q⟩
theorem PSs.nox{st:List Stmt}{t:TS}(h:PSs X.nox st t):PSs X st t:=λpins s σ H D I hw=>
 XH (h pins s σ H D (I.wish _) hw) (λ_ _ q=>q.unwish) λ_ _ z=>False.elim z
end
section
variable{X:Cx}{st:Stmt}{rest:List Stmt}{t u:TS}{e:Expr}{te:TE}{pos:Pos}
def Qc:TS:=λD σ H=>D.nx σ H
def SB(t u:TS):TS:=λD σ H=>t {D with nx:=u D} σ H
theorem ME:PSs X [] Qc:=λ_ _ σ H _ I h=>YG ⟨σ,H,I,h⟩
theorem Jc(h1:PS X st t)(h2:PSs X rest u):PSs X (st::rest) (SB t u):=by
 intro pins s σ H D I h;refine wpAny_execs_cons (thn (h1 pins s σ H {D with nx:=u D} I h) λf s1 q=>?_);cases f with
 | next=>
   obtain⟨σ',H',I',q⟩:=q;exact h2 pins s1 σ' H' D I' q
 | ret v=>exact q
 | brk=>exact q
 | cont=>exact q
theorem Inv.quiet{pins:List (Wm×Obj)}{σ:St}{H:Hp}{s:Wl}(I:Inv X pins σ H s):interactive X.env=false:=by simp[interactive,I.ok.kind]
def Qd(te:TE):TS:=λD σ H=>te σ H λ_ H1=>D.nx σ H1
theorem MF(he:PE X e te)(hs:Xa e none pos.line X.env=pure false:=by rfl):PS X (.Expr e pos) (Qd te):=by
 intro pins s σ H D I h;exact wpAny_Expr_any (thn (he pins s σ H _ I h) λv s1 ⟨x,H1,I1,r1,q1⟩=>⟨σ,H1,I1,q1⟩) I.quiet hs
def SC(te:TE):TS:=λD σ H=>te σ H D.rt
theorem Ol(he:PE X e te):PS X (.Return (some e) pos) (SC te):=by
 intro pins s σ H D I h;exact wpAny_Return_some (thn (he pins s σ H _ I h) λv s1 ⟨x,H1,I1,r1,q1⟩=>⟨x,σ,H1,I1,r1,q1⟩)
def Qf(c:TT)(t u:TS):TS:=λD σ H=>c σ H λb H1=>if b=true then t D σ H1 else u D σ H1
theorem Qg{c:Expr}{a b:List Stmt}{tc:TT}(hc:PT X c tc)(ha:PSs X a t)(hb:PSs X b u):PS X (.If c a b pos) (Qf tc t u):=by
 intro pins s σ H D I h;refine wpAny_If (thn (hc pins s σ H _ I h) λd s1 ⟨H1,I1,q1⟩=>?_);cases d with
 | true=>exact ha pins s1 σ H1 D I1 q1
 | false=>exact hb pins s1 σ H1 D I1 q1
end
abbrev TG:=V->St->Hp->(St->Hp->Prop)->Prop
abbrev TGs:=List V->St->Hp->(St->Hp->Prop)->Prop
noncomputable def PG(X:Cx)(target:Expr)(t:TG):Prop:=
 ∀(pins:List (Wm×Obj)) (s:Wl) (σ:St) (H:Hp) (v:V) (u:Wk) (Q:St->Hp->Prop),Inv X pins σ H s->RelV v u->t v σ H Q->
  Wo (Wp X.prog X.w) X.A (assign target X.env u) (λ_ s'=>∃ σ' H',Inv X pins σ' H' s'/\Q σ' H') X.xe s
noncomputable def PGs(X:Cx)(ts:List Expr)(t:TGs):Prop:=
 ∀(pins:List (Wm×Obj)) (s:Wl) (σ:St) (H:Hp) (vs:List V) (us:List Wk) (Q:St->Hp->Prop),Inv X pins σ H s->Vals vs us->t vs σ H Q->
  Wo (Wp X.prog X.w) X.A (assignInOrder ((XI ts X.env).map (·.2)) us) (λ_ s'=>∃ σ' H',Inv X pins σ' H' s'/\Q σ' H') X.xe s
abbrev Om:=V->V->V->Hp->(Hp->Prop)->Prop
noncomputable def Qh(X:Cx)(t:Om):Prop:=
 ∀(pins:List (Wm×Obj)) (s:Wl) (σ:St) (H:Hp) (o i v:V) (ov iv u:Wk) (Q:Hp->Prop),Inv X pins σ H s->RelV o ov->RelV i iv->RelV v u->t o i v H Q->
  Wo (Wp X.prog X.w) X.A (setItem ov iv u) (λ_ s'=>∃ H',Inv X pins σ H' s'/\Q H') X.xe s
section
variable{X:Cx}{pos:Pos}
def EY(i:Nat):TG:=λv σ H Q=>Q (σ.set i (some v)) H
theorem MG{i:Nat}{x:Str}(hN:X.N.Nodup)(hi:X.N[i]?=some x)(hx:Loc X.env.scope x)(hf:X.fn x=true\/X.env.scope.names.lookup x=some .local:=by first | exact .inl rfl | exact .inr rfl | assumption):PG X (.Name x pos) (EY i):=by
 intro pins s σ H v u Q I r h;exact Yi (EW I hN hi hx r (λs' I'=>⟨_,H,I',h⟩) hf)
def SD:TGs:=λvs σ H Q=>vs=[]/\Q σ H
def Qi(t:TG)(u:TGs):TGs:=λvs σ H Q=>∃ v r,vs=v::r/\t v σ H λσ' H'=>u r σ' H' Q
theorem MH:PGs X [] SD:=by
 intro pins s σ H vs us Q I r h;obtain⟨e,h⟩:=h;subst e;cases r;exact assignInOrder_nil ⟨σ,H,I,h⟩
theorem Jd{e:Expr}{es:List Expr}{t:TG}{u:TGs}(h1:PG X e t)(h2:PGs X es u)
 (hs:(XI (e::es) X.env).map (·.2)=assign e X.env::(XI es X.env).map (·.2):=by rfl):PGs X (e::es) (Qi t u):=by
 intro pins s σ H vs us Q I r h;obtain⟨v,vr,e1,h⟩:=h;subst e1;cases r with
 | cons r rr=>
   rw[hs];refine assignInOrder_cons (thn (h1 pins s σ H _ _ _ I r h) λ_ s1 ⟨σ1,H1,I1,q1⟩=>?_);exact h2 pins s1 σ1 H1 _ _ Q I1 rr q1
def SE(K:Sd)(n:Nat)(t:TGs):TG:=λv σ H Q=>∃ a xs,v = .ref a/\SqT K H a xs/\xs.length=n/\t xs σ H Q
theorem Oo{es:List Expr}{k:Nat}{t:TGs}{n:Nat}(hc:X.calm=true)(h:PGs X es t)
 (hn:(XI es X.env).length=n:=by rfl) (hst:(XI es X.env).findIdx? (·.1)=none:=by rfl):PG X (.Tuple es k pos) (SE X.K n t):=by
 intro pins s σ H v u Q I r hw;obtain⟨a,xs,e1,hq,hl,hw⟩:=hw;subst e1;cases r;obtain⟨its,rv,ht,hz⟩:=I.tuple hq;refine assign_Tuple_tuple (I.ok.hd hc) ht (by simp[hn,<-hl,rv.length]) hst λh' hx=>?_;have I1:Inv X pins σ H {s with heap:=h'}:=I.kept (t':=s.toks) λb o e=>hx b o (Sx (Sj e)) e;exact h pins _ σ H xs _ Q I1 (by simpa using rv) hw
def Qj(to ti:TE)(t:Om):TG:=λv σ H Q=>to σ H λo H1=>ti σ H1 λi H2=>t o i v H2 λH3=>Q σ H3
theorem Op{o i:Expr}{to ti:TE}{t:Om}(ho:PE X o to)(hi:PE X i ti)(hs:Qh X t)
 (ha:∀ v,assign (.Subscript o i pos) X.env v=(do
   let ov <- holding [v] (eval o X.env)
   let iv <- holding [v,ov] (eval i X.env)
   standAt pos
   holding [v,ov,iv] (setItem ov iv v)
   release [v,ov,iv] []):=by intro _;rfl):PG X (.Subscript o i pos) (Qj to ti t):=by
 intro pins s σ H v u Q I r h;rw[ha];refine Wj (X6 (thn (ho pins s σ H _ I h) λov s1 ⟨x,H1,I1,r1,q1⟩=>?_));refine Wj (X6 (thn (hi pins s1 σ H1 _ I1 q1) λiv s2 ⟨y,H2,I2,r2,q2⟩=>?_));refine Wj (Y2 (Wj (X6 (thn (hs pins s2 σ H2 x y v ov iv u _ I2 r1 r2 r q2) λ_ s3 ⟨H3,I3,q3⟩=>?_))));exact wpAny_release ⟨σ,H3,I3,q3⟩
def Ft(te:TE)(g:TG):TS:=λD σ H=>te σ H λx H1=>g x σ H1 D.nx
theorem Je{tg e:Expr}{te:TE}{g:TG}(he:PE X e te)(hg:PG X tg g)(hs:Xm [tg] e pos.line X.env=pure false:=by rfl)(hw:XS [tg] e X.env=pure none:=by rfl)
 (h1:(XI [tg] X.env).map (·.2)=[assign tg X.env]:=by rfl):PS X (.Assign [tg] e pos) (Ft te g):=by
 intro pins s σ H D I h;refine wpAny_Assign_stores (thn (he pins s σ H _ I h) λv s1 ⟨x,H1,I1,r1,q1⟩=>?_) hs hw;rw[h1];exact thn (hg pins s1 σ H1 x v _ I1 r1 q1) λ_ s2 q=>q
theorem Oq{i:Nat}{x:Str}{e:Expr}{te:TE}{pos':Pos}(hN:X.N.Nodup)(hi:X.N[i]?=some x)(hx:Loc X.env.scope x)(he:PE X e te)(hs:Xa e (some (.Name x pos')) pos.line X.env=pure false:=by rfl)(hf:X.fn x=true\/X.env.scope.names.lookup x=some .local:=by first | exact .inl rfl | exact .inr rfl | assumption):
 PS X (.Assign [.Name x pos'] e pos) (Ft te (EY i)):=by
 intro pins s σ H D I h;refine wpAny_Assign_Name (thn (he pins s σ H _ I h) λv s1 ⟨y,H1,I1,r1,q1⟩=>?_) hs;exact EW I1 hN hi hx r1 (λs2 I2=>⟨_,H1,I2,q1⟩) hf
noncomputable def Jf(c:TT)(tb:TS):TS:=λD σ H=>∃ W:Nat->St->Hp->Prop,(∃ m,W m σ H)/\∀ m σ H,W m σ H->
 c σ H λb H1=>if b=true then ∃ N:St->Hp->Prop,(∀ σ' H',N σ' H'->∃ m',m'<m/\W m' σ' H')/\tb {D with nx:=N,ct:=N,bk:=D.nx} σ H1 else D.nx σ H1
theorem Jg{c:Expr}{body:List Stmt}{tc:TT}{tb:TS}(hp:Ys (Wp X.prog X.w) X.A X.env X.xe)(hc:PT X c tc)(hb:PSs X body tb):PS X (.While c body [] pos) (Jf tc tb):=by
 intro pins s σ H D I h;obtain⟨W,⟨m0,w0⟩,turn⟩:=h;refine wpAny_While (codeAny_whileLoop (λn s'=>∃ σ' H',Inv X pins σ' H' s'/\W n σ' H') ?_ m0 ⟨σ,H,I,w0⟩);rintro n s1 ⟨σ1,H1,I1,w1⟩;refine XO hp (thn (hc pins s1 σ1 H1 _ I1 (turn n σ1 H1 w1)) λb s2 ⟨H2,I2,q2⟩=>?_);cases b with
 | true=>
   obtain⟨N,hN,q2⟩:=q2;rw[iP rfl];refine XO hp (thn (hb pins s2 σ1 H2 _ I2 q2) λf s3 q3=>?_);cases f with
   | next=>
     obtain⟨σ3,H3,I3,n3⟩:=q3;obtain⟨m',hm,w3⟩:=hN σ3 H3 n3;exact⟨m',hm,σ3,H3,I3,w3⟩
   | cont=>
     obtain⟨σ3,H3,I3,n3⟩:=q3;obtain⟨m',hm,w3⟩:=hN σ3 H3 n3;exact⟨m',hm,σ3,H3,I3,w3⟩
   | brk=>exact q3
   | ret v=>exact q3
 | false=>
   rw[iG Su];exact YG ⟨σ1,H2,I2,q2⟩
end
structure It where
 go:Nat->Hp->Prop
 yld:Nat->Hp->V->Hp->Prop
 stop:Nat->Hp->Prop
def FpOk(X:Cx)(pins:List (Wm×Obj))(H:Hp)(b:Wm):Prop:=
 H b=none/\b≠X.env.locals/\b∉X.fs/\(b∈X.ex\/X.s₀.heap.objs.size<=b)/\(∀ x c,X.env.cells.lookup x=some c->c≠b)/\∀ p∈X.pn++pins,p.1≠b
theorem Inv.fpOk{X:Cx}{pins:List (Wm×Obj)}{σ:St}{H H':Hp}{s:Wl}{b:Wm}(I:Inv X pins σ H s)(hb:s.heap.objs.size<=b)(hn:H' b=none):FpOk X pins H' b:=by
 refine⟨hn,V0 (TV I.lt hb),I.nofs hb,.inr (Th I.sz hb),λx c e z=>?_,λp hp z=>?_⟩
 ·obtain⟨v,q⟩:=I.cell x c e;exact absurd (TV q.lt (by rw[z];exact hb)) (UQ _)
 ·exact absurd (TV (Sj (I.pin p hp).1) (by rw[z];exact hb)) (UQ _)
structure Turn(P:Wr)(w:Wt)(K:Sd)(tg:Expr)(J:It)(fp:List Wm)(it:Wm)(tn:Nat->Heap->Prop):Prop where
 mem:it∈fp
 obj:∀ i h,tn i h->∀ b∈fp,∃ o,h.get? b=some o/\∀ v,o.data ≠ .cell v
 keep:∀ i h h',tn i h->(∀ b∈fp,∀ o,h.get? b=some o->h'.get? b=some o)->tn i h'
 item:∀(X:Cx),X.prog=P->X.w=w->X.K=K->X.calm=true->∀(i:Nat) (pins:List (Wm×Obj)) (s:Wl) (σ:St) (H:Hp) (E:Wk->Wl->Prop),Inv X pins σ H s->(∀ b∈fp,FpOk X pins H b)->tn i s.heap->J.go i H->
  Wo (Wp P w) X.A (pyNext (.ref it)) (λr s1=>∃ u,r=some u/\
   Wo (Wp P w) X.A (Xf tg (.ref it) u) (λ_ s2=>∃ x H',Inv X pins σ H' s2/\RelV x u/\J.yld i H x H'/\tn (i+1) s2.heap/\∀ b∈fp,H' b=none) E s1) E s
 done:∀(X:Cx),X.prog=P->X.w=w->X.K=K->X.calm=true->∀(i:Nat) (pins:List (Wm×Obj)) (s:Wl) (σ:St) (H:Hp) (E:Wk->Wl->Prop),Inv X pins σ H s->(∀ b∈fp,FpOk X pins H b)->tn i s.heap->J.stop i H->
   Wo (Wp P w) X.A (pyNext (.ref it)) (λr s1=>r=none/\Inv X pins σ H s1) E s
 self:∀(A:Wx) (i:Nat) (s:Wl) (Q:Wk->Wl->Prop) (E:Wk->Wl->Prop),tn i s.heap->Q (.ref it) s->Wo (Wp P w) A (pyIter (.ref it)) Q E s
abbrev TI:=St->Hp->(It->Hp->Prop)->Prop
noncomputable def PIE(X:Cx)(pins:List (Wm×Obj))(σ:St)(tg:Expr)(R:It->Hp->Prop)(itv:Wk)(s2:Wl):Prop:=
 ∃(it:Wm) (fp:List Wm) (tn:Nat->Heap->Prop) (J:It) (H':Hp),itv = .ref it/\Inv X pins σ H' s2/\Turn X.prog X.w X.K tg J fp it tn/\tn 0 s2.heap/\(∀ b∈fp,FpOk X pins H' b)/\R J H'
noncomputable def PI(X:Cx)(tg iter:Expr)(wi:TI):Prop:=
 ∀(pins:List (Wm×Obj)) (s:Wl) (σ:St) (H:Hp) (R:It->Hp->Prop),Inv X pins σ H s->wi σ H R->
  Wo (Wp X.prog X.w) X.A (eval iter X.env) (λv s1=>Wo (Wp X.prog X.w) X.A (pyIter v) (PIE X pins σ tg R) X.xe s1) X.xe s
theorem Jh{M:Model}{A:Wx}{E:Wk->Wl->Prop}{s:Wl}{tg:Expr}{it:Wm}{u:Wk}{o:Obj}{n:String}{vs:Array Wk}{Q:Unit->Wl->Prop}(ho:s.heap.get? it=some o)(hc:o.cls = .type n)(hd:o.data = .fields vs)
 (hn:["enumerate","zip","dict_itemiterator","dict_reverseitemiterator","odict_iterator","itertools.zip_longest","itertools.pairwise"].contains n=false) (hQ:Q () s):Wo M A (Xf tg (.ref it) u) Q E s:=by
 unfold Xf
 cases tg<;>first
  | exact Wn hQ
  | (cases u<;>first
      | exact Wn hQ
      | (refine Wj (wpAny_load ho ?_)
         rw[hc,hd];show Wo M A (if (["enumerate","zip","dict_itemiterator","dict_reverseitemiterator","odict_iterator","itertools.zip_longest","itertools.pairwise"].contains n&&vs[0]? == some (rawInt _))=true then _ else _) Q E s;rw[iG (by intro h;rw[hn,WN]at h;cases h)];exact Wn hQ))
def Itl(K:Sd)(a:Wm):It:=
 ⟨λi H=>∃ xs x,SqL K H a xs/\xs[i]?=some x,λi H x H'=>H'=H/\∀ xs,SqL K H a xs->xs[i]?=some x,λi H=>∃ xs,SqL K H a xs/\xs.length<=i⟩
def Itt(K:Sd)(a:Wm):It:=
 ⟨λi H=>∃ xs x,SqT K H a xs/\xs[i]?=some x,λi H x H'=>H'=H/\∀ xs,SqT K H a xs->xs[i]?=some x,λi H=>∃ xs,SqT K H a xs/\xs.length<=i⟩
def Itr(lo:Int)(n:Nat):It:=⟨λi _=>i<n,λi H x H'=>H'=H/\x = .int (lo+i),λi _=>n<=i⟩
theorem IH{P:Wr}{w:Wt}{K:Sd}{tg:Expr}(a it:Wm):Turn P w K tg (Itl K a) [it] it (λi h=>h.IsListIter it a i) where
 mem:=by simp
 obj:=λi h st b hb=>by
  have e:b=it:=by simpa using hb
  subst e;obtain⟨o,e,c,d⟩:=st;exact⟨o,e,λv z=>by rw[d]at z;cases z⟩
 keep:=λi h h' st k=>st.at λo e=>k it (by simp) o e
 item:=by
  intro X hP hw hK hc i pins s σ H E I hf st hg;subst hP hw hK;obtain⟨xs,x,hq,hx⟩:=hg;obtain⟨its,rv,p,hz⟩:=I.list hq;obtain⟨u,hu,ru⟩:=rv.get hx;obtain⟨f0,f1,f2,f3,f4,f5⟩:=hf it (by simp);refine wpAny_pyNext_list_item st p.isList (x:=u) (by simpa using hu) λh' st' sb=>?_;have I1:Inv X pins σ H {s with heap:=h'}:=I.turned (t':=s.toks) (λb o hb e=>(sb.2 b hb).trans e) f0 f1 f3 f4 f5;obtain⟨o,e,c,d⟩:=id st';exact⟨u,rfl,Jh (s:={s with heap:=h'}) e c d (by decide) ⟨x,H,I1,ru,⟨rfl,λys hy=>by rw[I.list_inj hy hq];exact hx⟩,st',λb hb=>(hf b hb).1⟩⟩
 done:=by
   intro X hP hw hK hc i pins s σ H E I hf st hg;subst hP hw hK;obtain⟨xs,hq,hx⟩:=hg;obtain⟨its,rv,p,hz⟩:=I.list hq;obtain⟨f0,f1,f2,f3,f4,f5⟩:=hf it (by simp);have hl:=rv.length;exact wpAny_pyNext_list_end (I.ok.hd hc) st p.isList (by simp;omega) λh' eb=>⟨rfl,I.turned (t':=s.toks) (λb o hb e=>eb b o hb e) f0 f1 f3 f4 f5⟩
 self:=λ_ _ _ _ _ st h=>wpAny_pyIter_listiter st h
theorem Fu{P:Wr}{w:Wt}{K:Sd}{tg:Expr}(a it:Wm):Turn P w K tg (Itt K a) [it] it (λi h=>h.IsTupleIter it a i) where
 mem:=by simp
 obj:=λi h st b hb=>by
  have e:b=it:=by simpa using hb
  subst e;obtain⟨o,e,c,d⟩:=st;exact⟨o,e,λv z=>by rw[d]at z;cases z⟩
 keep:=λi h h' st k=>st.at λo e=>k it (by simp) o e
 item:=by
  intro X hP hw hK hc i pins s σ H E I hf st hg;subst hP hw hK;obtain⟨xs,x,hq,hx⟩:=hg;obtain⟨its,rv,p,hz⟩:=I.tuple hq;obtain⟨u,hu,ru⟩:=rv.get hx;obtain⟨f0,f1,f2,f3,f4,f5⟩:=hf it (by simp);refine wpAny_pyNext_tuple_item st (show s.heap.IsTuple a its.toArray from p) (x:=u) (by simpa using hu) λh' st' sb=>?_;have I1:Inv X pins σ H {s with heap:=h'}:=I.turned (t':=s.toks) (λb o hb e=>(sb.2 b hb).trans e) f0 f1 f3 f4 f5;obtain⟨o,e,c,d⟩:=id st';exact⟨u,rfl,Jh (s:={s with heap:=h'}) e c d (by decide) ⟨x,H,I1,ru,⟨rfl,λys hy=>by rw[I.tuple_inj hy hq];exact hx⟩,st',λb hb=>(hf b hb).1⟩⟩
 done:=by
   intro X hP hw hK hc i pins s σ H E I hf st hg;subst hP hw hK;obtain⟨xs,hq,hx⟩:=hg;obtain⟨its,rv,p,hz⟩:=I.tuple hq;obtain⟨f0,f1,f2,f3,f4,f5⟩:=hf it (by simp);have hl:=rv.length;exact wpAny_pyNext_tuple_end (I.ok.hd hc) st (show s.heap.IsTuple a its.toArray from p) (by simp;omega) λh' eb=>⟨rfl,I.turned (t':=s.toks) (λb o hb e=>eb b o hb e) f0 f1 f3 f4 f5⟩
 self:=λ_ _ _ _ _ st h=>wpAny_pyIter_tupleiter st h
theorem Fv{P:Wr}{w:Wt}{K:Sd}{tg:Expr}(it:Wm)(lo:Int)(n:Nat):Turn P w K tg (Itr lo n) [it] it (λi h=>IsRangeIter h it (lo+(i:Nat) * 1) ((n:Int) - (i:Nat)) 1) where
 mem:=by simp
 obj:=λi h st b hb=>by
  have e:b=it:=by simpa using hb
  subst e
  exact⟨_,st,λv z=>by
   have z':Data.fields _=Data.cell v:=z;cases z'⟩
 keep:=λi h h' st k=>k it (by simp) _ st
 item:=by
  intro X hP hw hK hc i pins s σ H E I hf st hg;subst hP hw hK;obtain⟨f0,f1,f2,f3,f4,f5⟩:=hf it (by simp);have W:=Walks.range (prog:=X.prog) (w:=X.w) (I.ok.hd hc) it lo 1 n;refine W.item i s _ _ hg st λv h' tk hv st' kk=>?_;obtain⟨t,rfl⟩:=hv;have I1:Inv X pins σ H {s with heap:=h',toks:=tk}:=I.turned (λb o hb e=>kk b o (by simpa using hb) e) f0 f1 f3 f4 f5;refine⟨_,rfl,Jh (s:={s with heap:=h',toks:=tk}) (n:="range_iterator") st' rfl rfl (by decide) ⟨.int (lo+i),H,I1,⟨t,?_⟩,⟨rfl,rfl⟩,st',λb hb=>(hf b hb).1⟩⟩;rw[Int.mul_one]
 done:=by
   intro X hP hw hK hc i pins s σ H E I hf st hg;subst hP hw hK;obtain⟨f0,f1,f2,f3,f4,f5⟩:=hf it (by simp);exact wpAny_pyNext_range_end (I.ok.hd hc) st (by have:n<=i:=hg;omega) λh' eb=>⟨rfl,I.turned (t':=s.toks) (λb o hb e=>eb b o hb e) f0 f1 f3 f4 f5⟩
 self:=λ_ _ _ _ _ st h=>wpAny_pyIter_rangeiter st h
section
variable{X:Cx}{tg:Expr}
theorem EZ{pins:List (Wm×Obj)}{σ:St}{H:Hp}{s:Wl}{R:It->Hp->Prop}{E:Wk->Wl->Prop}{lo hi:Int}{t u v:Tok}{tk:Nat}(I:Inv X pins σ H s)(h1:-(2 ^ 62)<=lo)(h2:lo<2 ^ 62)(h3:-(2 ^ 62)<=hi)(h4:hi<2 ^ 62)
 (q:R (Itr lo (hi - lo).toNat) H):Wo (Wp X.prog X.w) X.A (pyIter (.ref s.heap.objs.size)) (PIE X pins σ tg R) E {s with heap:=s.heap.push {cls := .type "range",data := .fields #[.int lo t,.int hi u,.int 1 v]},toks:=tk}:=by
 refine wpAny_pyIter_range (IsRange.new ..) (small_one h1 h2 h3 h4) ?_;have I1:Inv X pins σ H {s with heap:=s.heap.push {cls := .type "range",data := .fields #[.int lo t,.int hi u,.int 1 v]},toks:=tk}:=I.kept λb o e=>Sh _ e
 refine⟨(s.heap.push {cls := .type "range",data := .fields #[.int lo t,.int hi u,.int 1 v]}).objs.size,[(s.heap.push {cls := .type "range",data := .fields #[.int lo t,.int hi u,.int 1 v]}).objs.size],_,_,H,rfl,
  I1.kept (t':=tk) λb o e=>Sh _ e,Fv _ lo (hi - lo).toNat,?_,λb hb=>?_,q⟩
 ·have e1:lo+((0:Nat):Int) * 1=lo:=by simp
  have e2:(((hi - lo).toNat:Nat):Int) - ((0:Nat):Int)=Builtin.Range.rangeSize lo hi 1:=by rw[rangeSize_one];split<;>omega
  show IsRangeIter _ _ (lo+((0:Nat):Int) * 1) ((((hi - lo).toNat:Nat):Int) - ((0:Nat):Int)) 1;rw[e1,e2];exact Sr _ rfl
 ·have e:b=(s.heap.push {cls := .type "range",data := .fields #[.int lo t,.int hi u,.int 1 v]}).objs.size:=by simpa using hb
  subst e;exact I1.fpOk (Sw _) (I1.hok.fresh (Sw _))
def Qk(ta:TA):TI:=λσ H R=>ta σ H λvs H1=>∃ j:Int,vs=[.int j] /\ -(2 ^ 62)<=j/\j<2 ^ 62/\R (Itr 0 j.toNat) H1
def Ql(ta:TA):TI:=λσ H R=>ta σ H λvs H1=>∃ i j:Int,vs=[.int i,.int j]/\(-(2 ^ 62)<=i/\i<2 ^ 62 /\ -(2 ^ 62)<=j/\j<2 ^ 62)/\R (Itr i (j - i).toNat) H1
theorem II{a:Expr}{ta:TA}{p pos:Pos}(hg:Gl X "range")(hm:X.mg "range"=none)(ha:PA X [a] ta)(hs:Wv [a] X.env=[(false,eval a X.env)]:=by rfl):PI X tg (.Call (.Name "range" p) [a] [] pos) (Qk ta):=by
 intro pins s σ H R I h;refine Call_ (AL I hg hm boot_range (PyProof.Rows.callWith_type1 (thn (ha pos pins s σ H _ I h) λus s1 ⟨vs,H1,I1,r1,q1⟩=>?_) hs rfl));obtain⟨j,e,q1,q2,q⟩:=q1;subst e;cases r1 with
 | cons r rr=>
   cases rr;obtain⟨t,rfl⟩:=r;exact call_range_1 (EZ I1 (by omega) (by omega) q1 q2 (by simpa using q))
theorem IJ{a b:Expr}{ta:TA}{p pos:Pos}(hg:Gl X "range")(hm:X.mg "range"=none)(ha:PA X [a,b] ta)(hs:Wv [a,b] X.env=[(false,eval a X.env),(false,eval b X.env)]:=by rfl)(hs2:Wv [b] X.env=[(false,eval b X.env)]:=by rfl):
 PI X tg (.Call (.Name "range" p) [a,b] [] pos) (Ql ta):=by
 intro pins s σ H R I h;refine Call_ (AL I hg hm boot_range (PyProof.Rows.callWith_type1 (thn (ha pos pins s σ H _ I h) λus s1 ⟨vs,H1,I1,r1,q1⟩=>?_) (by rw[hs,hs2]) (by rw[hs2];rfl)));obtain⟨i,j,e,⟨q1,q2,q3,q4⟩,q⟩:=q1;subst e;cases r1 with
 | cons r rr=>
   cases rr with
   | cons r' rr=>
     cases rr;obtain⟨t,rfl⟩:=r;obtain⟨t',rfl⟩:=r';exact call_range_2 (EZ I1 q1 q2 q3 q4 q)
noncomputable def Qm(wi:TI)(g:TG)(tb:TS):TS:=λD σ H=>wi σ H λJ H1=>∃ W:Nat->Nat->St->Hp->Prop,(∃ m,W 0 m σ H1)/\∀ i m σ H,W i m σ H->
 (J.stop i H/\D.nx σ H)\/(J.go i H/\∃ N:St->Hp->Prop,(∀ σ' H',N σ' H'->∃ m',m'<m/\W (i+1) m' σ' H')/\∀ x H',J.yld i H x H'->g x σ H' λσ2 H2=>tb {D with nx:=N,ct:=N,bk:=D.nx} σ2 H2)
def Bb(fp:List Wm)(h:Heap):List (Wm×Obj):=fp.filterMap λb=>(h.get? b).map λo=>(b,o)
theorem Aw{fp:List Wm}{h:Heap}{b:Wm}{o:Obj}(hb:b∈fp)(e:h.get? b=some o):(b,o)∈Bb fp h:=Vg.mpr ⟨b,hb,by rw[e];rfl⟩
theorem IK{fp:List Wm}{h:Heap}{p:Wm×Obj}(hp:p∈Bb fp h):p.1∈fp/\h.get? p.1=some p.2:=by
 obtain⟨b,hb,e⟩:=Vg.mp hp;cases q:h.get? b with
 | none=>rw[q]at e;cases e
 | some o=>
   rw[q]at e;have e':(b,o)=p:=oj e;subst e';exact⟨hb,q⟩
theorem Inv.pinned{pins:List (Wm×Obj)}{σ:St}{H:Hp}{s:Wl}{fp:List Wm}(I:Inv X pins σ H s)(hf:∀ b∈fp,FpOk X pins H b)(ho:∀ b∈fp,∃ o,s.heap.get? b=some o/\∀ v,o.data ≠ .cell v):Inv X (pins++Bb fp s.heap) σ H s:=
 I.pins_of λp hp=>(TK.mp hp).elim (λz=>I.pin p (TF _ z)) λz=>by
  obtain⟨hb,e⟩:=IK z;obtain⟨f0,f1,f2,_⟩:=hf p.1 hb;obtain⟨o,e',d⟩:=ho p.1 hb;rw[e]at e';cases e';exact⟨e,f0,f1,f2,d⟩
theorem Inv.unpinned{pins pl:List (Wm×Obj)}{σ:St}{H:Hp}{s:Wl}(I:Inv X (pins++pl) σ H s):Inv X pins σ H s:=I.pins_of λp hp=>I.pin p (TF _ (UJ _ hp))
theorem Os{iter:Expr}{body:List Stmt}{wi:TI}{g:TG}{tb:TS}{pos:Pos}(hp:Ys (Wp X.prog X.w) X.A X.env X.xe)(hc:X.calm=true)(hi:PI X tg iter wi)(hg:PG X tg g)(hb:PSs X body tb)
 (hs:∀ x,Xz iter X.env x=pure x:=by intro _;rfl):PS X (.For tg iter body [] pos) (Qm wi g tb):=by
 intro pins s σ H D I h;refine wpAny_For (thn (hi pins s σ H _ I h) λv s1 h1=>thn h1 λitv s2 h2=>?_) hs;obtain⟨it,fp,tn,J,H2,e,I2,T,st2,f2,W,⟨m0,w0⟩,turn⟩:=h2;subst e;have stat:∀{H':Hp},(∀ b∈fp,H' b=none)->∀ b∈fp,FpOk X pins H' b:=λhn b hb=>⟨hn b hb,(f2 b hb).2⟩
 refine codeAny_forLoop_any (λn s'=>∃ i σ' H',Inv X pins σ' H' s'/\tn i s'.heap/\(∀ b∈fp,H' b=none)/\W i n σ' H') ?_ m0 ⟨0,σ,H2,I2,st2,λb hb=>(f2 b hb).1,w0⟩;rintro n s3 ⟨i,σ3,H3,I3,st3,fr3,w3⟩;rcases turn i n σ3 H3 w3 with⟨stop,qn⟩ | ⟨go,N,hN,step⟩
 ·refine XO hp (thn (T.done X rfl rfl rfl hc i pins s3 σ3 H3 X.xe I3 (stat fr3) st3 stop) λr s4 ⟨hr,I4⟩=>?_);subst hr;exact YG ⟨σ3,H3,I4,qn⟩
 ·refine XO hp (thn (T.item X rfl rfl rfl hc i pins s3 σ3 H3 X.xe I3 (stat fr3) st3 go) λr s4 ⟨u,hr,h4⟩=>?_);subst hr;refine XO hp (thn h4 λ_ s5 ⟨x,H5,I5,r5,y5,st5,fr5⟩=>?_);have I5':=I5.pinned (stat fr5) (T.obj _ _ st5);refine XO hp (thn (hg _ s5 σ3 H5 x u _ I5' r5 (step x H5 y5)) λ_ s6 ⟨σ6,H6,I6,q6⟩=>?_);refine XO hp (thn (hb _ s6 σ6 H6 _ I6 q6) λf s7 q7=>?_)
  have again:∀{σ7:St} {H7:Hp},Inv X (pins++Bb fp s5.heap) σ7 H7 s7->N σ7 H7->∃ m,m<n/\∃ i σ' H',Inv X pins σ' H' s7/\tn i s7.heap/\(∀ b∈fp,H' b=none)/\W i m σ' H':=λ{σ7 H7} I7 n7=>by
   obtain⟨m',hm,w7⟩:=hN σ7 H7 n7;refine⟨m',hm,i+1,σ7,H7,I7.unpinned,T.keep _ _ _ st5 λb hb o e=>(I7.pin (b,o) (TF _ (TF _ (Aw hb e)))).1,λb hb=>?_,w7⟩;obtain⟨o,e,d⟩:=T.obj _ _ st5 b hb;exact(I7.pin (b,o) (TF _ (TF _ (Aw hb e)))).2.1
  cases f with
  | next=>obtain⟨σ7,H7,I7,n7⟩:=q7;exact again I7 n7
  | cont=>obtain⟨σ7,H7,I7,n7⟩:=q7;exact again I7 n7
  | brk=>obtain⟨σ7,H7,I7,q7⟩:=q7;exact⟨σ7,H7,I7.unpinned,q7⟩
  | ret v=>obtain⟨x7,σ7,H7,I7,r7,q7⟩:=q7;exact⟨x7,σ7,H7,I7.unpinned,r7,q7⟩
end
abbrev R2:=V->V->Hp->VK->Prop
noncomputable def OpR(X:Cx)(f:Wk->Wk->Sem Wk)(r:R2):Prop:=
 ∀(pins:List (Wm×Obj)) (s:Wl) (σ:St) (H:Hp) (x y:V) (v u:Wk) (Q:VK),Inv X pins σ H s->RelV x v->RelV y u->r x y H Q->
  Wo (Wp X.prog X.w) X.A (f v u) (EP X pins σ Q) X.xe s
noncomputable def UnR(X:Cx)(f:Wk->Sem Wk)(r:V->Hp->VK->Prop):Prop:=
 ∀(pins:List (Wm×Obj)) (s:Wl) (σ:St) (H:Hp) (x:V) (v:Wk) (Q:VK),Inv X pins σ H s->RelV x v->r x H Q->
  Wo (Wp X.prog X.w) X.A (f v) (EP X pins σ Q) X.xe s
noncomputable def CallR(X:Cx)(f:Wk)(r:List V->Hp->VK->Prop):Prop:=
 ∀(pins:List (Wm×Obj)) (s:Wl) (σ:St) (H:Hp) (xs:List V) (us:List Wk) (Q:VK),Inv X pins σ H s->Vals xs us->r xs H Q->
  Wo (Wp X.prog X.w) X.A (call f us) (EP X pins σ Q) X.xe s
noncomputable def SF(X:Cx)(r:V->Hp->(Bool->Hp->Prop)->Prop):Prop:=
 ∀(pins:List (Wm×Obj)) (s:Wl) (σ:St) (H:Hp) (x:V) (v:Wk) (Q:Bool->Hp->Prop),Inv X pins σ H s->RelV x v->r x H Q->
  Wo (Wp X.prog X.w) X.A (truthy v) (TP X pins σ Q) X.xe s
def tOp(r:R2)(ta tb:TE):TE:=λσ H Q=>ta σ H λx H1=>tb σ H1 λy H2=>r x y H2 Q
def tUn(r:V->Hp->VK->Prop)(ta:TE):TE:=λσ H Q=>ta σ H λx H1=>r x H1 Q
def rI(C:Int->Int->Prop)(g:Int->Int->V):R2:=λx y H Q=>∃ i j,x = .int i/\y = .int j/\C i j/\Q (g i j) H
def rI0(g:Int->Int->V):R2:=λx y H Q=>∃ i j,x = .int i/\y = .int j/\Q (g i j) H
def rU(g:Int->V):V->Hp->VK->Prop:=λx H Q=>∃ i,x = .int i/\Q (g i) H
section
variable{X:Cx}{a b c:Expr}{ta tb tc:TE}{pos:Pos}
theorem Ot(ha:PE X a ta)(hb:PE X b tb){pins:List (Wm×Obj)}{s:Wl}{σ:St}{H:Hp}{R:V->V->Hp->Prop}(I:Inv X pins σ H s)
 (h:ta σ H λx H1=>tb σ H1 λy H2=>R x y H2) {Q:Wk->Wl->Prop} {f:Wk->Wk->Sem Wk}
 (hf:∀ v u s2 x y H2,Inv X pins σ H2 s2->RelV x v->RelV y u->R x y H2->Wo (Wp X.prog X.w) X.A (f v u) Q X.xe s2):
 Wo (Wp X.prog X.w) X.A (eval a X.env) (λv s₁=>Wo (Wp X.prog X.w) X.A (eval b X.env) (λu s₂=>Wo (Wp X.prog X.w) X.A (f v u) Q X.xe s₂) X.xe s₁) X.xe s:=by
 refine thn (ha pins s σ H _ I h) λv s1 ⟨x,H1,I1,r1,q1⟩=>?_;refine thn (hb pins s1 σ H1 _ I1 q1) λu s2 ⟨y,H2,I2,r2,q2⟩=>?_;exact hf v u s2 x y H2 I2 r1 r2 q2
theorem Qn{op:Y5}{r:R2}(ho:OpR X (Xb op) r)(ha:PE X a ta)(hb:PE X b tb):PE X (.BinOp a op b pos) (tOp r ta tb):=by
 intro pins s σ H Q I h;exact wpAny_BinOp (Ot ha hb I h λv u s2 x y H2 I2 rx ry q=>ho pins s2 σ H2 x y v u Q I2 rx ry q)
theorem Qo{op:UnaryOp}{r:V->Hp->VK->Prop}(ho:UnR X (unaryOp op) r)(ha:PE X a ta):PE X (.UnaryOp op a pos) (tUn r ta):=by
 intro pins s σ H Q I h;exact UnaryOp_ (thn (ha pins s σ H _ I h) λv s1 ⟨x,H1,I1,r1,q1⟩=>ho pins s1 σ H1 x v Q I1 r1 q1)
theorem opI{f:Wk->Wk->Sem Wk}{C:Int->Int->Prop}{g:Int->Int->Int}
 (rule:∀(i j:Int) (t u:Tok) (s:Wl) (Q:Wk->Wl->Prop) (E:Wk->Wl->Prop),C i j->Q (.int (g i j) s.toks) {s with toks:=s.toks+1}->Wo (Wp X.prog X.w) X.A (f (.int i t) (.int j u)) Q E s):
 OpR X f (rI C λi j => .int (g i j)):=by
 intro pins s σ H x y v u Q I rx ry h;obtain⟨i,j,rfl,rfl,hc,q⟩:=h;obtain⟨t,rfl⟩:=rx;obtain⟨t',rfl⟩:=ry;exact rule i j t t' s _ _ hc ⟨.int (g i j),H,I.tok _,⟨_,rfl⟩,q⟩
theorem Qp{f:Wk->Wk->Sem Wk}{g:Int->Int->Int}
 (rule:∀(i j:Int) (t u:Tok) (s:Wl) (Q:Wk->Wl->Prop) (E:Wk->Wl->Prop),Q (.int (g i j) s.toks) {s with toks:=s.toks+1}->Wo (Wp X.prog X.w) X.A (f (.int i t) (.int j u)) Q E s):
 OpR X f (rI0 λi j => .int (g i j)):=by
 intro pins s σ H x y v u Q I rx ry h;obtain⟨i,j,rfl,rfl,q⟩:=h;obtain⟨t,rfl⟩:=rx;obtain⟨t',rfl⟩:=ry;exact rule i j t t' s _ _ ⟨.int (g i j),H,I.tok _,⟨_,rfl⟩,q⟩
theorem MI{f:Wk->Wk->Sem Wk}{g:Int->Int->Bool}
 (rule:∀(i j:Int) (t u:Tok) (s:Wl) (Q:Wk->Wl->Prop) (E:Wk->Wl->Prop),Q (.bool (g i j)) s->Wo (Wp X.prog X.w) X.A (f (.int i t) (.int j u)) Q E s):
 OpR X f (rI0 λi j => .bl (g i j)):=by
 intro pins s σ H x y v u Q I rx ry h;obtain⟨i,j,rfl,rfl,q⟩:=h;obtain⟨t,rfl⟩:=rx;obtain⟨t',rfl⟩:=ry;exact rule i j t t' s _ _ ⟨.bl (g i j),H,I,rfl,q⟩
def Qq(i j:Int):Prop:=0<j/\j<1073741824
def Qr(i j:Int):Prop:=0<=j/\j<=1000000/\i.natAbs<2 ^ 64
def CMul(i j:Int):Prop:=(-(2 ^ 64)<i/\i<2 ^ 64)\/(-(2 ^ 64)<j/\j<2 ^ 64)
theorem CMul.ok{i j:Int}(h:CMul i j):IntMulOk i j:=by
 rcases h with⟨h1,h2⟩ | ⟨h1,h2⟩
 ·exact .of_left (intBits_le_64 h1 h2)
 ·exact .of_right (intBits_le_64 h1 h2)
theorem op_add:OpR X (Xb .Add) (rI0 λi j => .int (i+j)):=Qp λ_ _ _ _ _ _ _ q=>add_int q
theorem Ou:OpR X (Xb .Sub) (rI0 λi j => .int (i - j)):=Qp λ_ _ _ _ _ _ _ q=>sub_int q
theorem op_mul:OpR X (Xb .Mult) (rI CMul λi j => .int (i * j)):=opI λ_ _ _ _ _ _ _ hc q=>mul_int q hc.ok
theorem MJ:OpR X (Xb .FloorDiv) (rI Qq λi j => .int (i / j)):=opI λi j _ _ _ _ _ hc q=>by
 have h1:(0:Int)<j:=hc.1;have h2:j<1073741824:=hc.2;exact floordiv_int (by omega) (by rw[Int.fdiv_eq_ediv_of_nonneg i (by omega)];exact q) (.inl (PyProof.noPylong_small (by omega)))
theorem Ov:OpR X (Xb .Mod) (rI (λ_ j=>0<j) λi j => .int (i % j)):=opI λi j _ _ _ _ _ hc q=>by
 have h1:(0:Int)<j:=hc;exact mod_int' (by omega) (by rw[Int.fmod_eq_emod_of_nonneg i (by omega)];exact q)
theorem Ow:OpR X (Xb .Pow) (rI Qr λi j => .int (i ^ j.toNat)):=opI λ_ _ _ _ _ _ _ hc q=>pow_int_small hc.1 hc.2.1 hc.2.2 q
theorem unI{f:Wk->Sem Wk}{g:Int->Int}
 (rule:∀(i:Int) (t:Tok) (s:Wl) (Q:Wk->Wl->Prop) (E:Wk->Wl->Prop),Q (.int (g i) s.toks) {s with toks:=s.toks+1}->Wo (Wp X.prog X.w) X.A (f (.int i t)) Q E s):
 UnR X f (rU λi => .int (g i)):=by
 intro pins s σ H x v Q I rx h;obtain⟨i,rfl,q⟩:=h;obtain⟨t,rfl⟩:=rx;exact rule i t s _ _ ⟨.int (g i),H,I.tok _,⟨_,rfl⟩,q⟩
theorem Ox:UnR X (unaryOp .USub) (rU λi => .int (-i)):=unI λ_ _ _ _ _ q=>neg_int q
end
def Oy:V->V->Bool
 | .non,.non=>true | .non,.int _=>true | .int _,.non=>true | .non,.bl _=>true | .bl _,.non=>true | .non,.str _=>true | .str _,.non=>true
 | .int _,.int _=>true | .bl _,.bl _=>true | .str _,.str _=>true | .byt _,.byt _=>true
 | .int _,.str _=>true | .str _,.int _=>true | .bl _,.str _=>true | .str _,.bl _=>true
 | _,_=>false
def rEq:R2:=λx y H Q=>Oy x y=true/\Q (.bl (decide (x=y))) H
def rNe:R2:=λx y H Q=>Oy x y=true/\Q (.bl (!decide (x=y))) H
theorem HC{i j:Int}:decide (V.int i=V.int j)=(i == j):=by
 rw[Ta];simp
theorem Ji{i j:Bool}:decide (V.bl i=V.bl j)=(i == j):=by
 rw[Ta];simp
theorem HD{i j:Str}:decide (V.str i=V.str j)=(i == j):=by
 rw[Ta];simp
theorem HE{i j:Array UInt8}:decide (V.byt i=V.byt j)=(i.toList == j.toList):=by
 rw[Ta];cases i;cases j;simp
section
variable{X:Cx}{a b c:Expr}{ta tb tc:TE}{pos:Pos}
theorem i0{pins:List (Wm×Obj)}{σ:St}{H:Hp}{s:Wl}{Q:VK}{k k':Bool}(I:Inv X pins σ H s)(q:Q (.bl k) H)(e:k=k'):EP X pins σ Q (.bool k') s:=by
 subst e;exact⟨.bl k,H,I,rfl,q⟩
theorem op_eq:OpR X (X0 .Eq) rEq:=by
 intro pins s σ H x y v u Q I rx ry h;obtain⟨hs,q⟩:=h;cases x with
 | non=>
   cases rx;cases y with
   | non=>cases ry;exact PySem.EqNone.eq_none_none (i0 I q (by simp))
   | bl j=>cases ry;exact PySem.EqNone.eq_none_bool (i0 I q (by simp))
   | int j=>obtain⟨t',rfl⟩:=ry;exact PySem.EqNone.eq_none_int (i0 I q (by simp))
   | str j=>obtain⟨t',rfl⟩:=ry;exact PySem.EqNone.eq_none_str (i0 I q (by simp))
   | _=>exact absurd (show false=true from hs) Su
 | bl i=>
   cases rx;cases y with
   | non=>cases ry;exact PySem.EqNone.eq_bool_none (i0 I q (by simp))
   | bl j=>cases ry;exact eq_bool (i0 I q Ji)
   | str j=>obtain⟨t',rfl⟩:=ry;exact PySem.EqMixed.eq_bool_str (i0 I q (by simp))
   | _=>exact absurd (show false=true from hs) Su
 | int i=>
   obtain⟨t,rfl⟩:=rx;cases y with
   | non=>cases ry;exact PySem.EqNone.eq_int_none (i0 I q (by simp))
   | int j=>obtain⟨t',rfl⟩:=ry;exact eq_int (i0 I q HC)
   | str j=>obtain⟨t',rfl⟩:=ry;exact PySem.EqMixed.eq_int_str (i0 I q (by simp))
   | _=>exact absurd (show false=true from hs) Su
 | str i=>
   obtain⟨t,rfl⟩:=rx;cases y with
   | non=>cases ry;exact PySem.EqNone.eq_str_none (i0 I q (by simp))
   | bl j=>cases ry;exact PySem.EqMixed.eq_str_bool (i0 I q (by simp))
   | int j=>obtain⟨t',rfl⟩:=ry;exact PySem.EqMixed.eq_str_int (i0 I q (by simp))
   | str j=>obtain⟨t',rfl⟩:=ry;exact eq_str (i0 I q HD)
   | _=>exact absurd (show false=true from hs) Su
 | byt i=>
   obtain⟨t,rfl⟩:=rx;cases y with
   | byt j=>obtain⟨t',rfl⟩:=ry;exact PySem.W.eq_bytes (i0 I q HE)
   | _=>exact absurd (show false=true from hs) Su
 | _=>cases y<;>exact absurd (show false=true from hs) Su
theorem op_ne:OpR X (X0 .NotEq) rNe:=by
 intro pins s σ H x y v u Q I rx ry h;obtain⟨hs,q⟩:=h;cases x with
 | non=>
   cases rx;cases y with
   | non=>cases ry;exact PySem.EqNone.ne_none_none (i0 I q (by simp))
   | bl j=>cases ry;exact PySem.EqNone.ne_none_bool (i0 I q (by simp))
   | int j=>obtain⟨t',rfl⟩:=ry;exact PySem.EqNone.ne_none_int (i0 I q (by simp))
   | str j=>obtain⟨t',rfl⟩:=ry;exact PySem.EqNone.ne_none_str (i0 I q (by simp))
   | _=>exact absurd (show false=true from hs) Su
 | bl i=>
   cases rx;cases y with
   | non=>cases ry;exact PySem.EqNone.ne_bool_none (i0 I q (by simp))
   | bl j=>cases ry;exact ne_bool (i0 I q (congrArg not Ji))
   | str j=>obtain⟨t',rfl⟩:=ry;exact PySem.EqMixed.ne_bool_str (i0 I q (by simp))
   | _=>exact absurd (show false=true from hs) Su
 | int i=>
   obtain⟨t,rfl⟩:=rx;cases y with
   | non=>cases ry;exact PySem.EqNone.ne_int_none (i0 I q (by simp))
   | int j=>obtain⟨t',rfl⟩:=ry;exact ne_int (i0 I q (congrArg not HC))
   | str j=>obtain⟨t',rfl⟩:=ry;exact PySem.EqMixed.ne_int_str (i0 I q (by simp))
   | _=>exact absurd (show false=true from hs) Su
 | str i=>
   obtain⟨t,rfl⟩:=rx;cases y with
   | non=>cases ry;exact PySem.EqNone.ne_str_none (i0 I q (by simp))
   | bl j=>cases ry;exact PySem.EqMixed.ne_str_bool (i0 I q (by simp))
   | int j=>obtain⟨t',rfl⟩:=ry;exact PySem.EqMixed.ne_str_int (i0 I q (by simp))
   | str j=>obtain⟨t',rfl⟩:=ry;exact ne_str (i0 I q (congrArg not HD))
   | _=>exact absurd (show false=true from hs) Su
 | byt i=>
   obtain⟨t,rfl⟩:=rx;cases y with
   | byt j=>obtain⟨t',rfl⟩:=ry;exact PySem.W.ne_bytes (i0 I q (congrArg not HE))
   | _=>exact absurd (show false=true from hs) Su
 | _=>cases y<;>exact absurd (show false=true from hs) Su
theorem Qs:OpR X (X0 .Lt) (rI0 λi j => .bl (decide (i<j))):=MI λ_ _ _ _ _ _ _ q=>lt_int q
theorem Qt:OpR X (X0 .LtE) (rI0 λi j => .bl (decide (i<=j))):=MI λ_ _ _ _ _ _ _ q=>le_int q
theorem Qu:OpR X (X0 .Gt) (rI0 λi j => .bl (decide (j<i))):=MI λ_ _ _ _ _ _ _ q=>gt_int q
theorem Qv:OpR X (X0 .GtE) (rI0 λi j => .bl (decide (j<=i))):=MI λ_ _ _ _ _ _ _ q=>ge_int q
theorem Oz:OpR X (X0 .Is) (λx y H Q=>y = .non/\Q (.bl (decide (x = .non))) H):=by
 intro pins s σ H x y v u Q I rx ry h;obtain⟨rfl,q⟩:=h;cases ry;refine is_none_gen (i0 I q ?_)
 cases x<;>first
  | (cases rx;rfl)
  | (obtain⟨t,rfl⟩:=rx;rfl)
theorem op_notN:OpR X (X0 .IsNot) (λx y H Q=>y = .non/\Q (.bl (!decide (x = .non))) H):=by
 intro pins s σ H x y v u Q I rx ry h;obtain⟨rfl,q⟩:=h;cases ry;refine isnot_none_gen (i0 I q ?_)
 cases x<;>first
  | (cases rx;rfl)
  | (obtain⟨t,rfl⟩:=rx;rfl)
theorem OpR.or{f:Wk->Wk->Sem Wk}{r r':R2}(h:OpR X f r)(h':OpR X f r'):OpR X f (λx y H Q=>r x y H Q\/r' x y H Q):=by
 intro pins s σ H x y v u Q I rx ry q;rcases q with q | q
 ·exact h pins s σ H x y v u Q I rx ry q
 ·exact h' pins s σ H x y v u Q I rx ry q
theorem HF{op:CmpOp}{r:R2}(ho:OpR X (X0 op) r)(ha:PE X a ta)(hb:PE X b tb)(hm:Ya op b=false):PE X (.Compare a [op] [b] pos) (tOp r ta tb):=by
 intro pins s σ H Q I h;exact wpAny_Compare1 (Ot ha hb I h λv u s2 x y H2 I2 rx ry q=>ho pins s2 σ H2 x y v u Q I2 rx ry q) hm
def Nt(t:TE):TT:=λσ H Q=>t σ H λx H'=>∃ k,x = .bl k/\Q k H'
theorem HG{op:CmpOp}{r:R2}(ho:OpR X (X0 op) r)(ha:PE X a ta)(hb:PE X b tb)(hm:Ya op b=false):PT X (.Compare a [op] [b] pos) (Nt (tOp r ta tb)):=by
 intro pins s σ H Q I h
 refine wpAny_isTrue_Compare1 (thn (ha pins s σ H _ I h) λv s1 ⟨x,H1,I1,r1,q1⟩=>thn (hb pins s1 σ H1 _ I1 q1) λu s2 ⟨y,H2,I2,r2,q2⟩=>
  thn (ho pins s2 σ H2 x y v u _ I2 r1 r2 q2) λc s3 ⟨z,H3,I3,r3,k,e,q3⟩=>?_) hm
 subst e;cases r3;exact X4 ⟨H3,I3,q3⟩
def Fw(r r':R2)(ta tb tc:TE):TE:=λσ H Q=>ta σ H λx H1=>tb σ H1 λy H2=>r x y H2 λz H3=>∃ k,z = .bl k/\
 (if k=true then tc σ H3 λw' H4=>r' y w' H4 Q else Q (.bl false) H3)
theorem Jj{op op':CmpOp}{r r':R2}(ho:OpR X (X0 op) r)(ho':OpR X (X0 op') r')(ha:PE X a ta)(hb:PE X b tb)(hc:PE X c tc)
 (hm:ZE [op,op'] [b,c]=false:=by with_unfolding_all rfl):PE X (.Compare a [op,op'] [b,c] pos) (Fw r r' ta tb tc):=by
 intro pins s σ H Q I h
 refine Compare_chain (thn (ha pins s σ H _ I h) λv s1 ⟨x,H1,I1,r1,q1⟩=>chain_link (thn (hb pins s1 σ H1 _ I1 q1) λu s2 ⟨y,H2,I2,r2,q2⟩=>
  thn (ho pins s2 σ H2 x y v u _ I2 r1 r2 q2) λd s3 ⟨z,H3,I3,r3,k,e,q3⟩=>?_)) hm
 subst e;cases r3;refine X4 ?_;cases k with
 | false=>exact ite_ff ⟨.bl false,H3,I3,rfl,q3⟩
 | true=>exact ite_tt (chain_last (thn (hc pins s3 σ H3 _ I3 q3) λw' s4 ⟨z',H4,I4,r4,q4⟩=>ho' pins s4 σ H4 y z' u w' Q I4 r2 r4 q4))
theorem Jk{op op':CmpOp}{r r':R2}(ho:OpR X (X0 op) r)(ho':OpR X (X0 op') r')(ha:PE X a ta)(hb:PE X b tb)(hc:PE X c tc)
 (hm:ZE [op,op'] [b,c]=false:=by with_unfolding_all rfl):PT X (.Compare a [op,op'] [b,c] pos) (Nt (Fw r r' ta tb tc)):=by
 intro pins s σ H Q I h
 refine isTrue_chain (thn (ha pins s σ H _ I h) λv s1 ⟨x,H1,I1,r1,q1⟩=>test_link (thn (hb pins s1 σ H1 _ I1 q1) λu s2 ⟨y,H2,I2,r2,q2⟩=>
  thn (ho pins s2 σ H2 x y v u _ I2 r1 r2 q2) λd s3 ⟨z,H3,I3,r3,k,e,q3⟩=>?_)) hm
 subst e;cases r3;refine X4 ?_;cases k with
 | false=>
   obtain⟨k',e',q'⟩:=q3;cases e';exact ite_ff ⟨H3,I3,q'⟩
 | true=>
   refine ite_tt (test_last (thn (hc pins s3 σ H3 _ I3 q3) λw' s4 ⟨z',H4,I4,r4,q4⟩=>thn (ho' pins s4 σ H4 y z' u w' _ I4 r2 r4 q4) λd' s5 ⟨z2,H5,I5,r5,k2,e2,q5⟩=>?_));subst e2;cases r5;exact X4 ⟨H5,I5,q5⟩
def MK(K:Sd)(x:V)(H:Hp)(k:Bool):Prop:=
 match x with
 | .non=>k=false
 | .bl b=>k=b
 | .int i=>k=(i != 0)
 | .str y=>y.length<=Ws/\k=((y.length:Int) != 0)
 | .byt y=>y.size<=Ws/\k=((y.size:Int) != 0)
 | .ref p=>(∃ xs,SqL K H p xs/\k=!xs.isEmpty)\/(∃ xs,SqT K H p xs/\k=!xs.isEmpty)\/∃ kvs,H p=some (.dK kvs)/\k=!kvs.isEmpty
 | _=>False
theorem Fx{κ:Type}{kvs:List (κ×V)}{vs:List (κ×Wk)}(r:KV kvs vs):(!vs.isEmpty)=!kvs.isEmpty:=by
 cases r<;>rfl
theorem Cb{xs:List V}{its:List Wk}(r:Vals xs its):(!its.toArray.isEmpty)=!xs.isEmpty:=by
 cases r<;>simp
theorem C1:(Ws:Nat)<2 ^ 63:=by rw[YQ];decide
theorem P4:SF X (λx H Q=>∃ k,MK X.K x H k/\Q k H):=by
 intro pins s σ H x v Q I rx h;obtain⟨k,e,q⟩:=h;have hl:=C1;have hs:Ws=16777216:=YQ;cases x with
 | non=>
   cases rx;have e':k=false:=e;subst e';exact truthy_none ⟨H,I,q⟩
 | bl b=>
   cases rx;have e':k=b:=e;subst e';exact X4 ⟨H,I,q⟩
 | int i=>
   obtain⟨t,rfl⟩:=rx;have e':k=(i != 0):=e;subst e';exact PySem.P.truthy_int ⟨H,I,q⟩
 | str y=>
   obtain⟨t,rfl⟩:=rx;obtain⟨hy,e'⟩:y.length<=Ws/\k=((y.length:Int) != 0):=e;subst e';exact PySem.P.truthy_str (by omega) ⟨H,I.tok _,q⟩
 | byt y=>
   obtain⟨t,rfl⟩:=rx;obtain⟨hy,e'⟩:y.size<=Ws/\k=((y.size:Int) != 0):=e;subst e';exact PySem.W.truthy_bytes (by omega) ⟨H,I.tok _,q⟩
 | ref p=>
   cases rx;have e':(∃ xs,SqL X.K H p xs/\k=!xs.isEmpty)\/(∃ xs,SqT X.K H p xs/\k=!xs.isEmpty)\/∃ kvs,H p=some (.dK kvs)/\k=!kvs.isEmpty:=e;rcases e' with⟨xs,hx,e'⟩ | ⟨xs,hx,e'⟩ | ⟨kvs,hx,e'⟩
   ·subst e';obtain⟨its,r,pl,hz⟩:=I.list hx;have hlen:=r.length;exact wpAny_truthy_list pl.isList (by simp only[Sq];omega) ⟨H,I.tok _,by rw[Cb r];exact q⟩
   ·subst e';obtain⟨its,r,pl,hz⟩:=I.tuple hx;have hlen:=r.length;exact truthy_tuple pl (by simp only[Sq];omega) ⟨H,I.tok _,by rw[Cb r];exact q⟩
   ·subst e';obtain⟨hz,hS,vs,r,m⟩:kvs.length<=Ws/\(p == Yd)=false/\∃ vs,KV kvs vs/\s.heap.DictOf (CP X.prog X.w) p vs:=I.hok p _ hx;have hlen:kvs.length=vs.length:=Paired.length r;exact wpAny_truthy_dict hS m (by omega) ⟨H,I.tok _,by rw[Fx r];exact q⟩
 | _=>exact(show False from e).elim
theorem Jl(ha:PE X a ta)(he:∀ whole,isTrue a X.env whole=(do let v <- whole;standAt a.pos;holding [v] (truthy v))):
 PT X a (λσ H Q=>ta σ H λx H'=>∃ k,MK X.K x H' k/\Q k H'):=by
 intro pins s σ H Q I h;exact isTrue_plain (thn (ha pins s σ H _ I h) λv s1 ⟨x,H1,I1,r1,q1⟩=>P4 pins s1 σ H1 x v Q I1 r1 q1) (he _)
theorem AV{x:V}{us:List Wk}(r:Vals [x] us):∃ u,us=[u]/\RelV x u:=by
 cases r with
 | cons r1 r2=>cases r2;exact⟨_,rfl,r1⟩
theorem Nu{x y:V}{us:List Wk}(r:Vals [x,y] us):∃ u w',us=[u,w']/\RelV x u/\RelV y w':=by
 cases r with
 | cons r1 r2=>
   cases r2 with
   | cons r3 r4=>cases r4;exact⟨_,_,rfl,r1,r3⟩
theorem Jm:CallR X (.builtin "abs") (λxs H Q=>∃ i,xs=[.int i]/\Q (.int (if i<0 then -i else i)) H):=by
 intro pins s σ H xs us Q I r h;obtain⟨i,rfl,q⟩:=h;obtain⟨u,rfl,t,rfl⟩:=AV r;exact call_abs_int λu tk=>⟨.int (if i<0 then -i else i),H,I.tok _,⟨_,rfl⟩,q⟩
theorem IL(hc:X.calm=true):CallR X (.builtin "max") (λxs H Q=>∃ i j,xs=[.int i,.int j]/\Q (.int (if j>i then j else i)) H):=by
 intro pins s σ H xs us Q I r h;obtain⟨i,j,rfl,q⟩:=h;obtain⟨u,w',rfl,⟨t,rfl⟩,⟨t',rfl⟩⟩:=Nu r;refine max_two_ints (I.ok.hd hc) λh' tk k=>⟨_,H,I.kept k,?_,q⟩
 by_cases hj:j>i
 ·rw[iP hj,iP hj];exact⟨_,rfl⟩
 ·rw[iG hj,iG hj];exact⟨_,rfl⟩
theorem IM(hc:X.calm=true):CallR X (.builtin "min") (λxs H Q=>∃ i j,xs=[.int i,.int j]/\Q (.int (if j<i then j else i)) H):=by
 intro pins s σ H xs us Q I r h;obtain⟨i,j,rfl,q⟩:=h;obtain⟨u,w',rfl,⟨t,rfl⟩,⟨t',rfl⟩⟩:=Nu r;refine min_two_ints (I.ok.hd hc) λh' tk k=>⟨_,H,I.kept k,?_,q⟩
 by_cases hj:j<i
 ·rw[iP hj,iP hj];exact⟨_,rfl⟩
 ·rw[iG hj,iG hj];exact⟨_,rfl⟩
theorem IN:CallR X (.type "int") (λxs H Q=>(∃ i,xs=[.int i]/\Q (.int i) H)\/∃ k,xs=[.bl k]/\Q (.int (if k then 1 else 0)) H):=by
 intro pins s σ H xs us Q I r h;rcases h with⟨i,rfl,q⟩ | ⟨k,rfl,q⟩
 ·obtain⟨u,rfl,t,rfl⟩:=AV r;exact call_int_int ⟨.int i,H,I,⟨_,rfl⟩,q⟩
 ·obtain⟨u,rfl,r1⟩:=AV r;cases r1;exact call_int_bool ⟨.int (if k then 1 else 0),H,I.tok _,⟨_,rfl⟩,q⟩
end
structure ObjM(h:Heap)(x dx C:Wm)(mA:Str->Option Wk):Prop where
 obj:h.get? x=some (PySem.W.instObj C dx)
 ns:h.Ns1 dx mA
 ne:dx≠x
theorem IO{h:Heap}{dx:Wm}{mA:Str->Option Wk}(n:h.Ns1 dx mA):∃ od,h.get? dx=some od/\∀ name,PySem.W.lookIn name od=some (mA name):=by
 obtain⟨o,es,ep,ho,hd,hk,_,hm⟩:=n;refine⟨o,ho,λname=>?_⟩;have e:=hm name;unfold nsFind findBy at e;rw[<-Array.find?_toList]at e;unfold PySem.W.lookIn;rw[hd];dsimp only;split
 ·rename_i y q;rw[q]at e;exact congrArg some e
 ·rename_i q;rw[q]at e
  have a:es.toList.any (·.refKey)=false:=by
   rw[List.any_eq_false];intro y hy;obtain⟨z,t,hkey⟩:=hk y (Array.mem_toList_iff.mp hy);simp[DictEntry.refKey,hkey]
  have a':¬ es.toList.any (·.refKey)=true:=by rw[a];exact Su
  rw[iG a'];exact congrArg some e
theorem ObjM.look{h:Heap}{x dx C:Wm}{mA:Str->Option Wk}(I:ObjM h x dx C mA):∃ od,PySem.W.InstAt h x (PySem.W.instObj C dx) C (some od)/\∀ name,PySem.W.lookIn name od=some (mA name):=
 let ⟨od,ho,hl⟩:=IO I.ns
 ⟨od,⟨I.obj,rfl,rfl,ho⟩,hl⟩
section
variable{P:Wr}{w:Wt}{H H':Hp}{h h':Heap}{a C dx:Wm}{fs fs':List (Str×V)}
theorem HH(hok:HOk P w H h)(e:H a=some (.ins C dx fs)):∃ mA,ObjM h a dx C mA/\(∀ f,RelO (fs.lookup f) (mA f))/\PySem.Within mA (fs.map (·.1))/\fs.length<=1000/\H dx=some (.own a):=by
 obtain⟨d,z,ne,ob,mA,n,r,q⟩:=(show ObjOk P w H h a (.ins C dx fs) from hok a _ e)
 exact⟨mA,⟨ob,n,ne⟩,r,q,z,d⟩
end
structure Cls(K:Sd)(C:Wm):Prop where
 pg:PySem.W.plainGet K C Str.empty=true
 hd:PySem.W.hasDictIn K C=true
 po:PySem.W.plainOver K C=true
 sa:PySem.W.findIn K (.ref C) "__setattr__"=some (some (.builtin "object.__setattr__"))
theorem Cls.get{K:Sd}{C:Wm}(c:Cls K C)(f:Str):PySem.W.plainGet K C f=true:=c.pg
section
variable{X:Cx}{pins:List (Wm×Obj)}{σ:St}{H:Hp}{s:Wl}{A:Wx}{E:Wk->Wl->Prop}{Q:Wk->Wl->Prop}{c:Wk}{b:Bool}
inductive TyOf(K:Sd)(H:Hp):V->Wk->Prop where
 | non:TyOf K H .non (.type "NoneType")
 | bl (x:Bool):TyOf K H (.bl x) (.type "bool")
 | int (i:Int):TyOf K H (.int i) (.type "int")
 | str (x:Str):TyOf K H (.str x) (.type "str")
 | flt (x:UInt64):TyOf K H (.flt x) (.type "float")
 | lst {a:Wm} {xs:List V} (e:H a=some (.lst xs)):TyOf K H (.ref a) (.type "list")
 | frz {a:Wm} {o:Obj} {xs:List V} (e:H a=some (.frz o (.lst xs))):TyOf K H (.ref a) (.type "list")
 | tup {a:Wm} {xs:List V} (e:H a=some (.tup xs)):TyOf K H (.ref a) (.type "tuple")
 | dK {a:Wm} {kvs:List (Key×V)} (e:H a=some (.dK kvs)):TyOf K H (.ref a) (.type "dict")
 | dT {a:Wm} {kvs:List (List Key×V)} (e:H a=some (.dT kvs)):TyOf K H (.ref a) (.type "dict")
 | ins {a C dx:Wm} {fs:List (Str×V)} (e:H a=some (.ins C dx fs)) (cl:Cls K C) (ha:PySem.W.findIn K (.ref C) "__class__"=some (some (.builtin "object.__class__")))
    (hn:PySem.W.specialIn K (.builtin "object.__class__") "__get__"=some (some (.builtin "getset_descriptor.__get__"))) (htk:PySem.W.takesIn K (.builtin "object.__class__")=some true)
    (hm:PySem.W.mroIn K C (.type "object")=some true):TyOf K H (.ref a) (.ref C)
theorem IP{x:V}{u t:Wk}(I:Inv X pins σ H s)(rx:RelV x u)(ty:TyOf X.K H x t)(e:PySem.W.kitOne X.K t c=some b)(h:∀ tk,Q (.bool b) {s with toks:=tk}):
 Wo (Wp X.prog X.w) A (call (.builtin "isinstance") [u,c]) Q E s:=by
 cases ty with
 | non=>cases(show u=Value.none from rx);exact PySem.W.kia_one PySem.W.kitx_none I.kIn True.intro e (λz=>nomatch z) h
 | bl y=>cases(show u=Value.bool y from rx);exact PySem.W.kia_one PySem.W.kitx_bool I.kIn True.intro e (λz=>nomatch z) h
 | int i=>obtain⟨t,q⟩:=(show ∃ t,u=Value.int i t from rx);cases q;exact PySem.W.kia_one PySem.W.kitx_int I.kIn True.intro e (λz=>nomatch z) h
 | str y=>obtain⟨t,q⟩:=(show ∃ t,u=Value.str y t from rx);cases q;exact PySem.W.kia_one PySem.W.kitx_str I.kIn True.intro e (λz=>nomatch z) h
 | flt y=>obtain⟨t,q⟩:=(show ∃ t,u=Value.float y t from rx);cases q;exact PySem.W.kia_one PySem.W.kitx_float I.kIn True.intro e (λz=>nomatch z) h
 | @lst a xs ea=>
   cases(show u=Value.ref a from rx);obtain⟨_,_,n,_,h1⟩:=(show ObjOk X.prog X.w H s.heap a (.lst xs) from I.hok a _ ea)
   exact PySem.W.kia_one PySem.W.kitx_list I.kIn ⟨_,h1,rfl⟩ e (λz=>nomatch z) h
 | @frz a ob xs ea=>
   cases(show u=Value.ref a from rx);obtain⟨_,_,_,n,_,h1⟩:=(show ObjOk X.prog X.w H s.heap a (.frz ob (.lst xs)) from I.hok a _ ea)
   exact PySem.W.kia_one PySem.W.kitx_list I.kIn ⟨_,h1,rfl⟩ e (λz=>nomatch z) h
 | @tup a xs ea=>
   cases(show u=Value.ref a from rx);obtain⟨_,_,_,p⟩:=(show ObjOk X.prog X.w H s.heap a (.tup xs) from I.hok a _ ea)
   obtain⟨o,h1,h2,_⟩:=p;exact PySem.W.kia_one PySem.W.kitx_tuple I.kIn ⟨o,h1,h2⟩ e (λz=>nomatch z) h
 | @dK a kvs ea=>
   cases(show u=Value.ref a from rx);obtain⟨_,_,vs,_,p⟩:=(show ObjOk X.prog X.w H s.heap a (.dK kvs) from I.hok a _ ea)
   obtain⟨o,es,ep,h1,h2,_⟩:=p;exact PySem.W.kia_one PySem.W.kitx_dict I.kIn ⟨o,h1,h2.1⟩ e (λz=>nomatch z) h
 | @dT a kvs ea=>
   cases(show u=Value.ref a from rx);obtain⟨_,_,xs,_,o,es,ep,h1,h2,_⟩:=(show ObjOk X.prog X.w H s.heap a (.dT kvs) from I.hok a _ ea)
   exact PySem.W.kia_one PySem.W.kitx_dict I.kIn ⟨o,h1,h2.1⟩ e (λz=>nomatch z) h
 | @ins a C dx fs ea cl ha hn htk hm=>
   cases(show u=Value.ref a from rx);obtain⟨mA,O,_⟩:=HH I.hok ea;obtain⟨od,J,_⟩:=O.look;exact PySem.W.kia_one (PySem.W.kitx_own (cl.get _) cl.hd ha hn htk hm) I.kIn J e (λz=>nomatch z) h
end
structure Room(k:Nat)(A:Wx):Prop where
 hd:A.handled=none
 dp:A.depth+3 * k+5<XX
 un:A.units+16 * k+200<cLine
 gd:A.guards=some []
theorem Room.deeper{k:Nat}{A:Wx}(r:Room (k+1) A)(env:Env):Room k (A.deeper env):=
 ⟨r.hd,by have:=r.dp;show A.depth+1+3 * k+5<_;omega,by have:=r.un;show A.units+3+16 * k+200<_;omega,r.gd⟩
theorem Room.depth{k:Nat}{A:Wx}(r:Room k A):A.depth<XX:=by have:=r.dp;omega
def Qw:TA:=λ_ H Q=>Q [] H
def HI(ta:TE)(tr:TA):TA:=λσ H Q=>ta σ H λx H1=>tr σ H1 λxs H2=>Q (x::xs) H2
section
variable{X:Cx}{e:Expr}{es:List Expr}{te:TE}{t:TA}{pos:Pos}
theorem AF:PA X [] Qw:=λ_ _ _ _ H Q I h=>Calls.spliced_nil ⟨[],H,I,.nil,h⟩
theorem n0(ha:PE X e te)(hr:PA X es t)(hs:Wv (e::es) X.env=(false,eval e X.env)::Wv es X.env:=by rfl):PA X (e::es) (HI te t):=by
 intro pos pins s σ H Q I h;rw[hs];show Wo _ _ (spliced ((false,eval e X.env)::backTo pos (Wv es X.env))) _ _ s;refine Calls.spliced_cons (thn (ha pins s σ H _ I h) λu s1 ⟨x,H1,I1,r1,q1⟩=>?_);exact thn (hr pos pins s1 σ H1 _ I1 q1) λus s2 ⟨xs,H2,I2,r2,q2⟩=>⟨x::xs,H2,I2,.cons r1 r2,q2⟩
def Qx(t:TA):TE:=λσ H Q=>t σ H λxs H1=>xs.length<=Ws/\∀ p,H1 p=none->Q (.ref p) (upd H1 p (.tup xs))
def Qy(t:TA):TE:=λσ H Q=>t σ H λxs H1=>xs.length<=Ws/\∀ p,H1 p=none->Q (.ref p) (upd H1 p (.lst xs))
theorem P5{x1}(h:PA X es t):PE X (.Tuple es x1 pos) (Qx t):=by
 intro pins s σ H Q I hq;refine wpAny_Tuple_spliced (thn (h pos pins s σ H _ I hq) λus s1 ⟨xs,H1,I1,r,z,q⟩=>⟨by rw[<-r.length];exact z,?_⟩);have hf:H1 s1.heap.objs.size=none:=I1.hok.fresh (Sw _);refine⟨.ref s1.heap.objs.size,upd H1 s1.heap.objs.size (.tup xs),I1.laid (t':=s1.toks) (λb u e=>Sh _ e) (Sw _) ?_,rfl,q _ hf⟩;exact⟨z,us,r,⟨_,Sr _ rfl,rfl,_,rfl⟩⟩
theorem P6(h:PA X es t):PE X (.List es pos) (Qy t):=by
 intro pins s σ H Q I hq;refine wpAny_List_spliced (thn (h pos pins s σ H _ I hq) λus s1 ⟨xs,H1,I1,r,z,q⟩=>⟨by rw[<-r.length];exact z,?_⟩);have hf:H1 s1.heap.objs.size=none:=I1.hok.fresh (Sw _);refine⟨.ref s1.heap.objs.size,upd H1 s1.heap.objs.size (.lst xs),I1.laid (t':=s1.toks) (λb u e=>Sh _ e) (Sw _) ?_,rfl,q _ hf⟩;exact⟨z,us,0,r,Sr _ rfl⟩
end
abbrev Sp:=List V->Hp->VK->XK->Prop
abbrev CXT:=List Env->Hp->Wl->XK->Wk->Wl->Prop
structure Env0(P:Wr)(w:Wt)(K:Sd)(mg:Str->Option Wk)(base:Heap)(A:Wx)(outer:List Env)(s:Wl)(H:Hp):Prop where
 frames:A.frames=some outer
 mod:Mod K mg base
 bs:∀ b o,base.get? b=some o->s.heap.get? b=some o/\H b=none
 bsz:base.objs.size<=s.heap.objs.size
 funs:s.heap.FunFrames base outer
 frf:∀ b∈frs outer,H b=none
 hok:HOk P w H s.heap
 bare:AllBare s.gens
noncomputable def CE(outer:List Env)(P:Wr)(w:Wt)(H:Hp)(s:Wl)(Q:VK)(u:Wk)(s':Wl):Prop:=
 ∃ v H',s'.os=s.os/\AllBare s'.gens/\Un (frs outer) [] H H' s.heap s'.heap/\HOk P w H' s'.heap/\RelV v u/\Q v H'
noncomputable def CR(CX:CXT)(outer:List Env)(P:Wr)(w:Wt)(H:Hp)(s:Wl)(Q:VK)(E:XK)(r:Result)(s':Wl):Prop:=
 match r with
 | .ok (.ret u)=>CE outer P w H s Q u s'
 | .ok _=>False
 | .error e=>CX outer H s E e s'
structure FnOk(P:Wr)(w:Wt)(K:Sd)(mg:Str->Option Wk)(base:Heap)(CX:CXT)(k:Nat)(f:Wm)(fd:XY)(ps:List Str)(sp:Sp):Prop where
 len:∀ vs H Q E,sp vs H Q E->vs.length=ps.length
 run:∀(A:Wx) (outer:List Env) (s:Wl) (H:Hp) (args:Args) (us:List Wk) (vs:List V) (Q:VK) (E:XK),Room k A->Env0 P w K mg base A outer s H->BindsTo s fd args (ps.zip us)->Vals vs us->sp vs H Q E->
  codeAny (Wp P w) A (.call (.ref f) args) (CR CX outer P w H s Q E) s
section
variable{X:Cx}{pins:List (Wm×Obj)}{σ:St}{H:Hp}{s s':Wl}
theorem Inv.env0(I:Inv X pins σ H s):Env0 X.prog X.w X.K X.mg X.base X.A X.stack s H:=
 ⟨I.ok.frames,I.ok.mod,I.bs,Th I.ok.bsz I.sz,I.stack,I.stkFree,I.hok,I.bare⟩
theorem Inv.after{Q:VK}{u:Wk}(I:Inv X pins σ H s)(h:CE X.stack X.prog X.w H s Q u s'):EP X pins σ Q u s':=by
 obtain⟨v,H',os,bare,un,hok,r,q⟩:=h;obtain⟨hh,g,d,t,os'⟩:=s';obtain rfl:os'=s.os:=os;exact⟨v,H',I.call (h':=hh) (g':=g) (d':=d) (t':=t) (ch:=[]) un hok bare (λb z=>absurd z (by simp)),r,q⟩
end
def Nv(sp:Sp)(dvs:List V)(E:XK)(t:TA):TE:=λσ H Q=>t σ H λvs H1=>sp (vs++dvs) H1 Q E
def Binds(K:Sd)(fd:XY)(ps:List Str)(ds:List Wk):Prop:=
 ∀(s:Wl) (us:List Wk),K.In s.heap->(us++ds).length=ps.length->BindsTo s fd ⟨us,[]⟩ (ps.zip (us++ds))
theorem Binds.all{K:Sd}{fd:XY}{ps:List Str}(h:∀ us:List Wk,us.length=ps.length->Y6 fd ⟨us,[]⟩=pure (ps.zip us)):Binds K fd ps []:=λs us _ hl=>by
 rw[Tx]at hl ⊢;exact .of_eq (h us hl)
def Fy(CX:CXT)(X:Cx)(E:XK):Prop:=∀(pins:List (Wm×Obj)) (σ:St) (H:Hp) (s:Wl) (e:Wk) (s':Wl),Inv X pins σ H s->CX X.stack H s E e s'->X.xe e s'
section
variable{X:Cx}{CX:CXT}{k:Nat}{f C:Wm}{fd:XY}{ps:List Str}{sp:Sp}{dvs:List V}{ds:List Wk}{E:XK}{x m:Str}{p pos apos:Pos}{e o:Expr}{es:List Expr}{ta:TE}{t:TA}
theorem P7{pins:List (Wm×Obj)}{σ:St}{H:Hp}{s:Wl}{Q:VK}{us:List Wk}{vs:List V}(F:FnOk X.prog X.w X.K X.mg X.base CX k f fd ps sp)(hr:Room k X.A)(hb:Binds X.K fd ps ds)(hd:Vals dvs ds)(hx:Fy CX X E)
 (I:Inv X pins σ H s) (r:Vals vs us) (h:sp (vs++dvs) H Q E):Wo (Wp X.prog X.w) X.A (call (.ref f) us) (EP X pins σ Q) X.xe s:=by
 have r2:Vals (vs++dvs) (us++ds):=r.append hd;have hl:(us++ds).length=ps.length:=by rw[<-r2.length];exact F.len _ _ _ _ h
 refine Ye (XQ (F.run X.A X.stack s H ⟨us,[]⟩ (us++ds) (vs++dvs) Q E hr I.env0 (hb s us I.kIn hl) r2 h) λr s' hq=>?_);cases r with
 | error e=>exact hx pins σ H s e s' I hq
 | ok fl=>
   cases fl with
   | ret u=>exact I.after hq
   | next=>exact False.elim hq
   | brk=>exact False.elim hq
   | cont=>exact False.elim hq
theorem ML(F:FnOk X.prog X.w X.K X.mg X.base CX k f fd ps sp)(hr:Room k X.A)(hg:Gl X x)(hm:X.mg x=some (.ref f))(hk:PySem.W.keepIn X.K (.ref f)=true)(hb:Binds X.K fd ps ds)(hd:Vals dvs ds)(hx:Fy CX X E)
 (ha:PA X (e::es) t) (hdb:(x == ("__debug__":Str))=false:=by decide) (he:Wv (e::es) X.env=(false,eval e X.env)::Wv es X.env:=by rfl) (hpl:(backTo pos (Wv es X.env)).any (·.1)=false:=by rfl):
 PE X (.Call (.Name x p) (e::es) [] pos) (Nv sp dvs E t):=by
 intro pins s σ H Q I h;refine XM (MB I hg hm ?_ hdb);refine PySem.W.callWith_K (h₀:=X.base) I.ok.mod.kin hk (thn (ha pos pins s σ H _ I h) λus s1 ⟨vs,H1,I1,r,q⟩=>⟨I1.kIn,?_⟩) he hpl;exact P7 F hr hb hd hx I1 r q
end
structure FnScope(N P:List Str)(sc:Ww):Prop where
 kind:sc.kind = .function
 co:sc.isCoroutine=false
 gen:sc.isGenerator=false
 nd:N.Nodup
 pre:N.take P.length=P
 par:∀ x∈P,sc.names.lookup x=some .local\/sc.names.lookup x=some .cell
 nofree:∀ y∈sc.names,y.2 ≠ .free
theorem DS{kindOf:Str->Option XC}{x:Str}:∀{binds:List (Str×Wk)} {m:Str->Option Wk},(∀ v,(x,v)∉binds)->bindL kindOf binds m x=m x
 | [],_,_=>rfl
 | (n,v)::r,m,h=>by
   unfold bindL;rw[DS λw hw=>h w (T8 _ hw)];split
   ·have:x≠n:=by rintro rfl;exact h v TJ
    simp[this]
   ·rfl
theorem DT{kindOf:Str->Option XC}{x:Str}:∀{binds:List (Str×Wk)} {m:Str->Option Wk},(∀ v,(x,v)∉binds)->bindC kindOf binds m x=m x
 | [],_,_=>rfl
 | (n,v)::r,m,h=>by
   unfold bindC;rw[DT λw hw=>h w (T8 _ hw)];split
   ·rfl
   ·have:x≠n:=by rintro rfl;exact h v TJ
    simp[this]
theorem DU{kindOf:Str->Option XC}{x:Str}{v:Wk}:∀{P:List Str} {vs:List Wk} {i:Nat} {m:Str->Option Wk},P.Nodup->P[i]?=some x->vs[i]?=some v->kindOf x=some .local->
 bindL kindOf (P.zip vs) m x=some v
 | [],_,_,_,_,h,_,_=>by simp at h
 | _::_,[],_,_,_,_,h,_=>by simp at h
 | p::P,w::vs,0,m,nd,h1,h2,hk=>by
   simp at h1 h2;subst h1;subst h2;show bindL kindOf ((p,w)::P.zip vs) m p=_;unfold bindL;rw[DS λv hv=>(UV.mp nd).1 (U8 hv).1,iP hk];simp
 | p::P,w::vs,i+1,m,nd,h1,h2,hk=>by
   show bindL kindOf ((p,w)::P.zip vs) m x=_;unfold bindL;exact DU (i:=i) (UV.mp nd).2 (by simpa using h1) (by simpa using h2) hk
theorem DV{kindOf:Str->Option XC}{x:Str}{v:Wk}:∀{P:List Str} {vs:List Wk} {i:Nat} {m:Str->Option Wk},P.Nodup->P[i]?=some x->vs[i]?=some v->kindOf x≠some .local->
 bindC kindOf (P.zip vs) m x=some v
 | [],_,_,_,_,h,_,_=>by simp at h
 | _::_,[],_,_,_,_,h,_=>by simp at h
 | p::P,w::vs,0,m,nd,h1,h2,hk=>by
   simp at h1 h2;subst h1;subst h2;show bindC kindOf ((p,w)::P.zip vs) m p=_;unfold bindC;rw[DT λv hv=>(UV.mp nd).1 (U8 hv).1,iG hk];simp
 | p::P,w::vs,i+1,m,nd,h1,h2,hk=>by
   show bindC kindOf ((p,w)::P.zip vs) m x=_;unfold bindC;exact DV (i:=i) (UV.mp nd).2 (by simpa using h1) (by simpa using h2) hk
def start(N:List Str)(vs:List V):St:=vs.map some++TM (N.length - vs.length) none
noncomputable def IQ(CX:CXT)(P:Wr)(w:Wt)(K:Sd)(mg:Str->Option Wk)(base:Heap)(N:List Str)(qual:Str)(scope:Ww)(f:Wm)(cd:Wk)(A:Wx)(outer:List Env)(s:Wl)(H:Hp)(E:XK):Cx where
 prog:=P
 w:=w
 K:=K
 mg:=mg
 base:=base
 A:=A.deeper (envOfC qual scope s.heap.objs.size f cd)
 N:=N
 s₀:=s
 H₀:=H
 env:=envOfC qual scope s.heap.objs.size f cd
 outer:=outer
 stack:=envOfC qual scope s.heap.objs.size f cd::outer
 ex:=[]
 calm:=true
 fn:=λ_=>true
 pn:=[]
 xe:=λe s'=>Wo (Wp P w) (A.deeper (envOfC qual scope s.heap.objs.size f cd)) (leaving (envOfC qual scope s.heap.objs.size f cd) e) (λ_ s''=>CX outer H s E e s'') (λe' s''=>CX outer H s E e' s'') s'
theorem Ea{sc:Ww}{n:Nat}{x:Str}(h:sc.names.lookup x=some .cell):∃ c,(XF n sc.names []).lookup x=some c:=by
 have q:=PySem.W.cellsFrom_some sc.names n [] (.inl h);exact UY.mp q
theorem IR{CX:CXT}{P:Wr}{w:Wt}{K:Sd}{mg:Str->Option Wk}{base:Heap}{N ps:List Str}{qual:Str}{scope:Ww}{f:Wm}{cd:Wk}{A:Wx}{outer:List Env}{s s1:Wl}{H:Hp}{E:XK}{us:List Wk}{vs:List V}
 (S:FnScope N ps scope) (hd:A.handled=none) (e0:Env0 P w K mg base A outer s H) (hl:vs.length=ps.length) (r:Vals vs us)
 (x:InCallC s s.heap.objs.size (bindL (envOfC qual scope s.heap.objs.size f cd).kindOf (ps.zip us) λ_=>none) (XF (s.heap.objs.size+1) scope.names []) (bindC (envOfC qual scope s.heap.objs.size f cd).kindOf (ps.zip us) λ_=>none) s1):
 Inv (IQ CX P w K mg base N qual scope f cd A outer s H E) [] (start N vs) H s1:=by
 have hpl:ps.length<=N.length:=by have:=congrArg Uu S.pre;rw[Tn]at this;omega
 obtain⟨h1,tk,rfl,hk⟩:=x.done;have noA:∀ b:Wm,b∉(IQ CX P w K mg base N qual scope f cd A outer s H E).ex:=λb z=>absurd (show b∈([]:List Wm) from z) (by simp)
 refine⟨⟨e0.mod,S.kind,rfl,rfl,Sw _,λy z c h1 h2=>?_,λy hy=>?_,λy c _ h=>?_,λ_=>hd,Around.frames_deeper e0.frames,.inr ⟨rfl,rfl⟩,λb z=>absurd z (noA b),e0.bs,e0.bsz,λb _ _=>noA b,λb z=>absurd z (noA b),e0.funs,e0.frf⟩,
  rfl,e0.bare,Un.kept hk,⟨_,x.toInCall.ns,λi y v h1 h2 h3=>?_⟩,λy c h=>⟨_,x.cell y c h⟩,e0.hok.fresh (Sw _),λy c h=>?_,λp hp=>absurd (show p∈([]:List (Wm×Obj)) from hp) (by simp),e0.hok.kept hk,?_⟩
 ·exact Yj x.apart (PySem.mem_of_lookup h1) (PySem.mem_of_lookup h2)
 ·have hy:scope.names.lookup y=some .cell\/scope.names.lookup y=some .free:=hy;rcases hy with hy | hy
  ·exact Ea hy
  ·exact absurd rfl (S.nofree _ (PySem.mem_of_lookup hy))
 ·exact U7 (x.above y c (PySem.mem_of_lookup h))
 ·have hi:i<vs.length:=by
   unfold start at h2;by_cases hi:i<vs.length
   ·exact hi
   ·rw[Td (by simpa using hi)]at h2;rw[Ua]at h2;split at h2<;>cases h2
  have ha:vs[i]?=some v:=by
   unfold start at h2;rw[TC (by simpa using hi),Sm]at h2;cases e:vs[i]? with
   | none=>rw[e]at h2;cases h2
   | some a=>rw[e]at h2;cases h2;rfl
  obtain⟨u,hu,rv⟩:=r.get ha
  have hp:ps[i]?=some y:=by
   rw[<-S.pre,List.getElem?_take_of_lt (by omega)];exact h1
  have ndP:ps.Nodup:=by rw[<-S.pre];exact S.nd.sublist (List.take_sublist _ _)
  refine⟨u,rv,?_⟩;rcases S.par y (Ss hp) with k | k
  ·exact .inl ⟨k,DU ndP hp hu k⟩
  ·obtain⟨c,e⟩:=Ea (n:=s.heap.objs.size+1) k;refine .inr ⟨.inl k,c,e,?_⟩;have q:=x.cell y c e;rw[DV ndP hp hu (by show scope.names.lookup y≠_;rw[k];decide)]at q;exact q
 ·exact e0.hok.fresh (U7 (x.above y c (PySem.mem_of_lookup h)))
 ·unfold start;show _=N.length;rw[Sl,Se,Ue];omega
theorem Qz{CX:CXT}{P:Wr}{w:Wt}{K:Sd}{mg:Str->Option Wk}{base:Heap}{k:Nat}{f:Wm}{name qual:Str}{params:Xp}{body:List Stmt}{scope:Ww}{dV kV doc pm cdv ct oc:Wk}{an od:Option Wm}
 {osl:Array (Option Wk)} {N ps:List Str} {sp:Sp} (lk:K.lookup f=some ⟨oc,od,.func (PySem.W.fnOf name qual params body scope dV kV doc pm an cdv ct),osl⟩) (hcd:PySem.W.codeIn K cdv qual=true) (S:FnScope N ps scope)
 (len:∀ vs H Q E,sp vs H Q E->vs.length=ps.length)
 (hbody:∀(A:Wx) (outer:List Env) (s:Wl) (H:Hp) (vs:List V) (Q:VK) (E:XK),Room k (A.deeper (envOfC qual scope s.heap.objs.size f cdv))->sp vs H Q E->
   ∃ t,PSs (IQ CX P w K mg base N qual scope f cdv A outer s H E) body t/\t {nx:=λ_ H'=>Q .non H',rt:=Q} (start N vs) H):
 FnOk P w K mg base CX (k+1) f (PySem.W.fnOf name qual params body scope dV kV doc pm an cdv ct) ps sp:=by
 refine⟨len,λA outer s H args us vs Q E hr e0 hb r hsp=>?_⟩;have hl:=len _ _ _ _ hsp;have KX:K.In s.heap:=e0.mod.kin.keeps λb o e=>(e0.bs b o e).1;have lim:s.heap.NoLimit:=e0.mod.nolimit.keeps λb o e=>(e0.bs b o e).1
 have hkind:∀ y∈ps.zip us,scope.names.lookup y.1=some .local\/(scope.names.lookup y.1=some .cell/\((XF (s.heap.objs.size+1) scope.names []).lookup y.1).isSome=true):=λ⟨n,v⟩ hy=>by
  rcases S.par n (U8 hy).1 with q | q
  ·exact .inl q
  ·exact .inr ⟨q,PySem.W.cellsFrom_some _ _ _ (.inl q)⟩
 refine codeAny_call_function hr.depth (KX _ _ lk) rfl S.co S.gen rfl (PySem.W.codeRec_of KX hcd) (hb _ _ _ _ ?_);refine wpAny_newFunctionEnv_cells S.kind hkind λenv he s1 x=>?_;subst he;refine⟨lim.keeps x.toInCall.keep,codeAny_func ?_⟩;obtain⟨t,ht,hq⟩:=hbody A outer s H vs Q E (hr.deeper _) hsp;have I:Inv (IQ CX P w K mg base N qual scope f cdv A outer s H E) [] (start N vs) H s1:=IR S hr.hd e0 hl r x;refine XH (ht [] s1 (start N vs) H _ I hq) (λfl s' hs=>?_) λe s' hs=>hs
 have fin:∀{σ':St} {H':Hp} {v:V} {u:Wk},Inv (IQ CX P w K mg base N qual scope f cdv A outer s H E) [] σ' H' s'->RelV v u->Q v H'->CE outer P w H s Q u s':=
  λ{σ' H' v u} J rv q=>⟨v,H',J.os,J.bare,J.base,J.hok,rv,q⟩
 cases fl with
 | ret u=>
   obtain⟨v,σ',H',J,rv,q⟩:=hs;exact fin J rv q
 | next=>
   obtain⟨σ',H',J,q⟩:=hs;exact fin (v:=V.non) (u:=Value.none) J rfl q
 | brk=>
   obtain⟨_,_,_,q⟩:=hs;exact False.elim q
 | cont=>
   obtain⟨_,_,_,q⟩:=hs;exact False.elim q
section
variable{X:Cx}{x:Str}{p pos:Pos}{e:Expr}{es:List Expr}{t:TA}{id T:String}{r:List V->Hp->VK->Prop}
def tCB(r:List V->Hp->VK->Prop)(t:TA):TE:=λσ H Q=>t σ H λvs H1=>r vs H1 Q
theorem v0(hc:CallR X (.builtin id) r)(hg:Gl X x)(hm:X.mg x=none)(hv:Wu x=some (.builtin id))(ha:PA X (e::es) t)(hn:x≠"__name__":=by decide)(hdb:(x == ("__debug__":Str))=false:=by decide)
 (he:Wv (e::es) X.env=(false,eval e X.env)::Wv es X.env:=by rfl) (hpl:(backTo pos (Wv es X.env)).any (·.1)=false:=by rfl):PE X (.Call (.Name x p) (e::es) [] pos) (tCB r t):=by
 intro pins s σ H Q I h;refine XM (AL I hg hm hv ?_ hn hdb);exact PyProof.Rows.callWith_builtin1 (thn (ha pos pins s σ H _ I h) λus s1 ⟨vs,H1,I1,r1,q1⟩=>hc pins s1 σ H1 vs us Q I1 r1 q1) he hpl
theorem t8(hc:CallR X (.type T) r)(hg:Gl X x)(hm:X.mg x=none)(hv:Wu x=some (.type T))(ha:PA X (e::es) t)(hn:x≠"__name__":=by decide)(hdb:(x == ("__debug__":Str))=false:=by decide)
 (he:Wv (e::es) X.env=(false,eval e X.env)::Wv es X.env:=by rfl) (hpl:(backTo pos (Wv es X.env)).any (·.1)=false:=by rfl):PE X (.Call (.Name x p) (e::es) [] pos) (tCB r t):=by
 intro pins s σ H Q I h;refine XM (AL I hg hm hv ?_ hn hdb);exact PyProof.Rows.callWith_type1 (thn (ha pos pins s σ H _ I h) λus s1 ⟨vs,H1,I1,r1,q1⟩=>hc pins s1 σ H1 vs us Q I1 r1 q1) he hpl
end
end L2
namespace HT
open PySem PyProof.Rows
def lexLt:List Int->List Int->Bool
 | [],[]=>false
 | [],_::_=>true
 | _::_,[]=>false
 | x::xs,y::ys=>if x=y then lexLt xs ys else decide (x<y)
theorem rcLt_int(A:Wx)(s:Wl)(a:Int)(t:Tok)(c:Int)(u:Tok)(prog:Wr)(w:Wt)(E:Wk->Wl->Prop)(Q:Wk->Wl->Prop)(h:Q (.bool (decide (a<c))) s):
 Wo (Wp prog w) A (Yv .Lt (.int a t) (.int c u)) Q E s:=
 (PyProof.Rows.lt_int h:Wo (Wp prog w) A (X0 .Lt (.int a t) (.int c u)) Q E s)
section
variable{prog:Wr}{w:Wt}{A:Wx}{E:Wk->Wl->Prop}{s:Wl}
def sIx(n d:Nat):Option Int->Nat
 | none=>d
 | some v=>if v<0 then (v+(n:Int)).toNat else min v.toNat n
end
end HT
namespace L2
open PySem PySem.Spec PyProof.Rows
abbrev TO:=St->Hp->(Option Int->Hp->Prop)->Prop
noncomputable def PO(X:Cx)(e:Option Expr)(t:TO):Prop:=
 ∀(pins:List (Wm×Obj)) (s:Wl) (σ:St) (H:Hp) (Q:Option Int->Hp->Prop),Inv X pins σ H s->t σ H Q->
  Wo (Wp X.prog X.w) X.A (evalPart e X.env) (λu s'=>∃ o H',Inv X pins σ H' s'/\IsPart u o/\Q o H') X.xe s
def MM:TO:=λ_ H Q=>Q none H
def R0(t:TE):TO:=λσ H Q=>t σ H λx H1=>∃ i,x = .int i/\Q (some i) H1
section
variable{X:Cx}{e:Expr}{te:TE}{lo hi:Option Expr}{tl th:TO}{pos p2:Pos}
theorem MN:PO X none MM:=by
 intro pins s σ H Q I h;rw[evalPart_none];exact Wn ⟨none,H,I,.none,h⟩
theorem MO(h:PE X e te):PO X (some e) (R0 te):=by
 intro pins s σ H Q I hw;rw[evalPart_some];refine thn (h pins s σ H _ I hw) λu s1 ⟨x,H1,I1,r1,q1⟩=>?_;obtain⟨i,rfl,q⟩:=q1;obtain⟨t,rfl⟩:=r1;exact⟨some i,H1,I1,.int i t,q⟩
noncomputable def SlR(X:Cx)(r:V->Option Int->Option Int->Hp->VK->Prop):Prop:=
 ∀(pins:List (Wm×Obj)) (s:Wl) (σ:St) (H:Hp) (x:V) (v vl vu:Wk) (lo hi:Option Int) (sl:Wm) (Q:VK),Inv X pins σ H s->RelV x v->s.heap.IsSliceOf sl vl vu .none->IsPart vl lo->IsPart vu hi->r x lo hi H Q->
  ∃ T id,typeLookup (.type T) "__getitem__"=pure (some (.builtin id))/\s.TypeIs v T/\Wo (Wp X.prog X.w) X.A (getItem v (.ref sl)) (EP X pins σ Q) X.xe s
theorem SlR.or{r r':V->Option Int->Option Int->Hp->VK->Prop}(h:SlR X r)(h':SlR X r'):SlR X (λx lo hi H Q=>r x lo hi H Q\/r' x lo hi H Q):=by
 intro pins s σ H x v vl vu lo hi sl Q I rx hs pl pu q;rcases q with q | q
 ·exact h pins s σ H x v vl vu lo hi sl Q I rx hs pl pu q
 ·exact h' pins s σ H x v vl vu lo hi sl Q I rx hs pl pu q
end
def ixN(n:Nat)(i:Int):Option Nat:=if 0<=i then (if i<n then some i.toNat else none) else if -(n:Int)<=i then some (i+n).toNat else none
def atI{α:Type}(xs:List α)(i:Int):Option α:=(ixN xs.length i).bind λj=>xs[j]?
theorem HJ{n:Nat}{i:Int}{j:Nat}(h:ixN n i=some j):seqIndex? i n=some j/\j<n /\ -(n:Int)<=i/\i<n:=by
 unfold ixN at h;by_cases h0:0<=i
 ·rw[iP h0]at h;by_cases h1:i<n
  ·rw[iP h1]at h;have e:i.toNat=j:=oj h;exact⟨by rw[Yw h0 h1,e],by omega,by omega,h1⟩
  ·rw[iG h1]at h;cases h
 ·rw[iG h0]at h;by_cases h1:-(n:Int)<=i
  ·rw[iP h1]at h;have e:(i+n).toNat=j:=oj h;exact⟨by rw[Yk (by omega) h1,e],by omega,h1,by omega⟩
  ·rw[iG h1]at h;cases h
theorem HK{α:Type}{xs:List α}{i:Int}{v:α}(h:atI xs i=some v):∃ j,seqIndex? i xs.length=some j/\xs[j]?=some v/\j<xs.length /\ -(xs.length:Int)<=i/\i<xs.length:=by
 unfold atI at h;cases e:ixN xs.length i with
 | none=>rw[e]at h;cases h
 | some j=>
   rw[e]at h;obtain⟨h1,h2,h3,h4⟩:=HJ e;exact⟨j,h1,h,h2,h3,h4⟩
theorem j9{α:Type}{xs:List α}{j:Nat}{v:α}(h:xs[j]?=some v):atI xs (j:Int)=some v:=by
 have hj:j<xs.length:=(gM h).1
 have e:ixN xs.length (j:Int)=some j:=by
  unfold ixN;rw[iP (by omega),iP (by omega)];simp
 unfold atI;rw[e];exact h
def HL(b:Expr):Prop:=∀ o i,subscripted b false o i=operate [o,i] (getItem o i)
noncomputable def IxR(X:Cx)(r:R2):Prop:=
 ∀(value slice:Expr) (pins:List (Wm×Obj)) (s:Wl) (σ:St) (H:Hp) (x y:V) (v u:Wk) (Q:VK),Inv X pins σ H s->RelV x v->RelV y u->r x y H Q->
  subscripted slice false v u=operate [v,u] (getItem v u)->Wo (Wp X.prog X.w) X.A (subscriptTail value slice v u) (EP X pins σ Q) X.xe s
noncomputable def MtR(X:Cx)(id:String)(r:V->List V->Hp->VK->Prop):Prop:=
 ∀(pins:List (Wm×Obj)) (s:Wl) (σ:St) (H:Hp) (x:V) (xs:List V) (v:Wk) (us:List Wk) (Q:VK),Inv X pins σ H s->RelV x v->Vals xs us->r x xs H Q->
  Wo (Wp X.prog X.w) X.A (call (.builtin id) (v::us)) (EP X pins σ Q) X.xe s
section
variable{X:Cx}{a b:Expr}{ta tb:TE}{pos:Pos}
theorem IxR.or{r r':R2}(h:IxR X r)(h':IxR X r'):IxR X (λx y H Q=>r x y H Q\/r' x y H Q):=by
 intro value slice pins s σ H x y v u Q I rx ry q hs;rcases q with q | q
 ·exact h value slice pins s σ H x y v u Q I rx ry q hs
 ·exact h' value slice pins s σ H x y v u Q I rx ry q hs
theorem R4{r:R2}(hr:IxR X r)(ha:PE X a ta)(hb:PE X b tb)(hs:HL b):PE X (.Subscript a b pos) (tOp r ta tb):=by
 intro pins s σ H Q I h;exact Subscript_ (Ot ha hb I h λv u s2 x y H2 I2 rx ry q=>hr a b pins s2 σ H2 x y v u Q I2 rx ry q (hs _ _))
def R5(K:Sd):R2:=λx y H Q=>∃ p xs i v,x = .ref p/\y = .int i/\SqL K H p xs/\atI xs i=some v/\Q v H
def R6(K:Sd):R2:=λx y H Q=>∃ p xs i v,x = .ref p/\y = .int i/\SqT K H p xs/\atI xs i=some v/\Q v H
theorem ix_list:IxR X (R5 X.K):=by
 intro value slice pins s σ H x y v u Q I rx ry h hs;obtain⟨p,xs,i,z,rfl,rfl,hq,he,q⟩:=h;cases rx;obtain⟨t,rfl⟩:=ry;obtain⟨its,r,pl,hz⟩:=I.list hq;obtain⟨j,h1,h2,h3,h4,h5⟩:=HK he;obtain⟨w,ew,rw'⟩:=r.get h2;have hl:=r.length;have hn:=C1;have fin:EP X pins σ Q w s:=⟨z,H,I,rw',q⟩
 by_cases h0:0<=i
 ·have hj:i.toNat=j:=by
   rw[Yw h0 h5]at h1;exact oj h1
  exact item_listR pl.isList h0 (by omega) (by rw[hj];simpa using ew) fin hs
 ·have hj:(i+(its.toArray.size:Int)).toNat=j:=by
   rw[Yk (by omega) h4]at h1;rw[Sq,<-hl];exact oj h1
  exact YC (x:=w) pl.isList.typeIs slot_list_getitem.lookup
   (wpAny_getItem_list_neg (Q:=λr s'=>r=w/\EP X pins σ Q r s') pl.isList (by omega) (by rw[Sq]<;>omega) (by omega) (by rw[hj];simpa using ew) ⟨rfl,fin⟩) hs
theorem P8:IxR X (R6 X.K):=by
 intro value slice pins s σ H x y v u Q I rx ry h hs;obtain⟨p,xs,i,z,rfl,rfl,hq,he,q⟩:=h;cases rx;obtain⟨t,rfl⟩:=ry;obtain⟨its,r,pl,hz⟩:=I.tuple hq;obtain⟨j,h1,h2,h3,h4,h5⟩:=HK he;obtain⟨w,ew,rw'⟩:=r.get h2;have hl:=r.length;have hn:=C1;have fin:EP X pins σ Q w s:=⟨z,H,I,rw',q⟩
 exact YC (x:=w) pl.typeIs slot_tuple_getitem.lookup
  (getItem_tuple (j:=j) (Q:=λr s'=>r=w/\EP X pins σ Q r s') pl (by omega) (by omega) (by rw[Sq,<-hl];exact h1) (by simpa using ew) ⟨rfl,fin⟩) hs
theorem Fz(its:List Wk)(n j:Nat)(u:Wk):Obj.mapSeq (·.setIfInBounds j u) {cls := .type "list",data := .seq its.toArray n}={cls := .type "list",data := .seq (its.set j u).toArray n}:=by
 simp[Obj.mapSeq]
theorem Inv.lst{pins:List (Wm×Obj)}{σ:St}{H:Hp}{s:Wl}{p:Wm}{xs:List V}(I:Inv X pins σ H s)(h:H p=some (.lst xs)):
 ∃(its:List Wk) (n:Nat),Vals xs its/\s.heap.get? p=some {cls := .type "list",data := .seq its.toArray n}/\xs.length<=Ws:=by
 obtain⟨z,its,n,r,e⟩:=I.hok p _ h;exact⟨its,n,r,e,z⟩
theorem Inv.lstUpd{pins:List (Wm×Obj)}{σ:St}{H:Hp}{s:Wl}{p:Wm}{xs ys:List V}{its its':List Wk}{n n':Nat}{f:Obj->Obj}(I:Inv X pins σ H s)(h:H p=some (.lst xs))
 (ho:s.heap.get? p=some {cls := .type "list",data := .seq its.toArray n}) (hf:f {cls := .type "list",data := .seq its.toArray n}={cls := .type "list",data := .seq its'.toArray n'}) (r:Vals ys its') (hz:ys.length<=Ws) (t:Nat):
 Inv X pins σ (upd H p (.lst ys)) {s with heap:=s.heap.update p f,toks:=t}:=by
 have e:(s.heap.update p f).get? p=some {cls := .type "list",data := .seq its'.toArray n'}:=by
  rw[Tq f ho (by rw[hf]<;>rfl),hf]
 refine I.write (x:=p) (e:=p) (by rw[h];trivial) (.inl rfl) (λb u hb q=>(Tv _ _ (Ne.symm hb)).trans q) ⟨_,e⟩ ?_;exact⟨hz,its',n',r,e⟩
def Jn:V->V->V->Hp->(Hp->Prop)->Prop:=λo i v H Q=>∃ p xs k j,o = .ref p/\i = .int k/\H p=some (.lst xs)/\ixN xs.length k=some j/\Q (upd H p (.lst (xs.set j v)))
theorem Jo:Qh X Jn:=by
 intro pins s σ H o i v ov iv u Q I ro ri rv h;obtain⟨p,xs,k,j,rfl,rfl,hp,hj,q⟩:=h;cases ro;obtain⟨t,rfl⟩:=ri;obtain⟨its,n,r,ho,hz⟩:=I.lst hp;obtain⟨h1,h2,h3,h4⟩:=HJ hj;have hl:=r.length;have hn:=C1
 have I':Inv X pins σ (upd H p (.lst (xs.set j v))) {s with heap:=s.heap.update p (Obj.mapSeq (·.setIfInBounds j u))}:=
  I.lstUpd hp ho (Fz its n j u) (r.set rv j) (by rw[UE];exact hz) s.toks
 by_cases h0:0<=k
 ·have hk:k.toNat=j:=by
   rw[Yw h0 h4]at h1;exact oj h1
  exact PySem.W.ki_setAt ho h0 (by omega) (by rw[Sq,<-hl];exact h4) (by rw[hk];exact⟨_,I',q⟩)
 ·have hk:(k+(its.toArray.size:Int)).toNat=j:=by
   rw[Yk (by omega) h3]at h1;rw[Sq,<-hl];exact oj h1
  exact PySem.W.ki_setBack ho (by omega) (by rw[Sq,<-hl];exact h3) (by omega) (by rw[hk];exact⟨_,I',q⟩)
def v4:V->Bool
 | .non=>true
 | .bl _=>true
 | .int _=>true
 | .str _=>true
 | _=>false
def eqV:V->V->Bool
 | .non,.non=>true
 | .bl a,.bl b=>a == b
 | .bl a,.int b=>(if a then 1 else 0) == b
 | .int a,.bl b=>a == (if b then 1 else 0)
 | .int a,.int b=>a == b
 | .str a,.str b=>a == b
 | _,_=>false
theorem Jp{A:Wx}{s:Wl}{y x:V}{u v:Wk}(ry:RelV y u)(rx:RelV x v)(fy:v4 y=true)(fx:v4 x=true):SeqAt.EqAt A s u v (eqV y x):=by
 cases y with
 | non=>
   cases ry;cases x with
   | non=>cases rx;exact SeqAt.EqAt.same _
   | bl b=>cases rx;exact SeqAt.EqAt.none_bool b
   | int b=>obtain⟨t,rfl⟩:=rx;exact SeqAt.EqAt.none_int b t
   | str b=>obtain⟨t,rfl⟩:=rx;exact SeqAt.EqAt.none_str b t
   | _=>exact absurd (show false=true from fx) Su
 | bl a=>
   cases ry;cases x with
   | non=>cases rx;exact SeqAt.EqAt.bool_none a
   | bl b=>cases rx;exact SeqAt.EqAt.bool_bool a b
   | int b=>obtain⟨t,rfl⟩:=rx;exact SeqAt.EqAt.bool_int a b t
   | str b=>obtain⟨t,rfl⟩:=rx;exact SeqAt.EqAt.bool_str a b t
   | _=>exact absurd (show false=true from fx) Su
 | int a=>
   obtain⟨t',rfl⟩:=ry;cases x with
   | non=>cases rx;exact SeqAt.EqAt.int_none a t'
   | bl b=>cases rx;exact SeqAt.EqAt.int_bool a t' b
   | int b=>obtain⟨t,rfl⟩:=rx;exact SeqAt.EqAt.int_int a t' b t
   | str b=>obtain⟨t,rfl⟩:=rx;exact SeqAt.EqAt.int_str a t' b t
   | _=>exact absurd (show false=true from fx) Su
 | str a=>
   obtain⟨t',rfl⟩:=ry;cases x with
   | non=>cases rx;exact SeqAt.EqAt.str_none a t'
   | bl b=>cases rx;exact SeqAt.EqAt.str_bool a t' b
   | int b=>obtain⟨t,rfl⟩:=rx;exact SeqAt.EqAt.str_int a t' b t
   | str b=>obtain⟨t,rfl⟩:=rx;exact SeqAt.EqAt.str_str a t' b t
   | _=>exact absurd (show false=true from fx) Su
 | _=>exact absurd (show false=true from fy) Su
def eqU(x:V)(u:Wk):Bool:=match u with
 | .none=>eqV .non x
 | .bool b=>eqV (.bl b) x
 | .int i _=>eqV (.int i) x
 | .str z _=>eqV (.str z) x
 | _=>false
theorem G0{x y:V}{u:Wk}(r:RelV y u)(f:v4 y=true):eqU x u=eqV y x:=by
 cases y with
 | non=>cases r;rfl
 | bl b=>cases r;rfl
 | int i=>obtain⟨t,rfl⟩:=r;rfl
 | str z=>obtain⟨t,rfl⟩:=r;rfl
 | _=>exact absurd (show false=true from f) Su
theorem Bj{x:V}:∀{xs:List V} {us:List Wk},Vals xs us->xs.all v4=true->us.any (eqU x)=xs.any λy=>eqV y x
 | _,_,.nil,_=>rfl
 | y::xs,u::us,.cons r t,f=>by
   rw[U6,Sf]at f;rw[UC,UC,G0 r f.1,Bj t f.2]
theorem Af{A:Wx}{s:Wl}{x:V}{v:Wk}(rx:RelV x v)(fx:v4 x=true):∀{xs:List V} {us:List Wk},Vals xs us->xs.all v4=true->∀ u∈us,SeqAt.EqAt A s u v (eqU x u)
 | _,_,.nil,_=>λu hu=>by cases hu
 | y::xs,u::us,.cons r t,f=>λu' hu=>by
   rw[U6,Sf]at f;rcases T7.mp hu with rfl | hu
   ·rw[G0 r f.1];exact Jp r rx f.1 fx
   ·exact Af rx fx t f.2 u' hu
def inV(x:V)(xs:List V):Bool:=xs.any λy=>eqV y x
def rIn(K:Sd)(neg:Bool):R2:=λx y H Q=>∃ p xs,y = .ref p/\(SqL K H p xs\/SqT K H p xs)/\v4 x=true/\xs.all v4=true/\Q (.bl (if neg then !inV x xs else inV x xs)) H
theorem IS:OpR X (X0 .In) (rIn X.K false):=by
 intro pins s σ H x y v u Q I rx ry h;obtain⟨p,xs,rfl,hq,fx,fs,q⟩:=h;cases ry;rcases hq with hq | hq
 ·obtain⟨its,r,pl,hz⟩:=I.list hq;refine SeqAt.in_listAt (eqU x) pl.isList (λw hw=>Af rx fx r fs w (by simpa using hw)) ⟨.bl _,H,I,rfl,?_⟩;rw[show its.toArray.any (eqU x)=its.any (eqU x) by simp,Bj r fs];exact q
 ·obtain⟨its,r,pl,hz⟩:=I.tuple hq;refine SeqAt.in_tupleAt (eqU x) pl (λw hw=>Af rx fx r fs w (by simpa using hw)) ⟨.bl _,H,I,rfl,?_⟩;rw[show its.toArray.any (eqU x)=its.any (eqU x) by simp,Bj r fs];exact q
theorem Dx:OpR X (X0 .NotIn) (rIn X.K true):=by
 intro pins s σ H x y v u Q I rx ry h;obtain⟨p,xs,rfl,hq,fx,fs,q⟩:=h;cases ry;rcases hq with hq | hq
 ·obtain⟨its,r,pl,hz⟩:=I.list hq;refine SeqAt.notIn_listAt (eqU x) pl.isList (λw hw=>Af rx fx r fs w (by simpa using hw)) ⟨.bl _,H,I,rfl,?_⟩;rw[show its.toArray.any (eqU x)=its.any (eqU x) by simp,Bj r fs];exact q
 ·obtain⟨its,r,pl,hz⟩:=I.tuple hq;refine SeqAt.notIn_tupleAt (eqU x) pl (λw hw=>Af rx fx r fs w (by simpa using hw)) ⟨.bl _,H,I,rfl,?_⟩;rw[show its.toArray.any (eqU x)=its.any (eqU x) by simp,Bj r fs];exact q
theorem Dy:CallR X (.builtin "len") (λxs H Q=>∃ p ys,xs=[.ref p]/\(SqL X.K H p ys\/SqT X.K H p ys)/\Q (.int ys.length) H):=by
 intro pins s σ H xs us Q I r h;obtain⟨p,ys,rfl,hq,q⟩:=h;obtain⟨u,rfl,rx⟩:=AV r;cases rx;have hn:=C1;rcases hq with hq | hq
 ·obtain⟨its,r',pl,hz⟩:=I.list hq;have hlen:=r'.length;exact Calls.call_len_list pl.isList (by simp only[Sq]<;>omega) ⟨.int ys.length,H,I.tok _,⟨s.toks+1,by rw[Sq,hlen]⟩,q⟩
 ·obtain⟨its,r',pl,hz⟩:=I.tuple hq;have hlen:=r'.length;exact len_tuple pl (by simp only[Sq]<;>omega) ⟨.int ys.length,H,I.tok _,⟨s.toks+1,by rw[Sq,hlen]⟩,q⟩
theorem CallR.or{f:Wk}{r r':List V->Hp->VK->Prop}(h:CallR X f r)(h':CallR X f r'):CallR X f (λxs H Q=>r xs H Q\/r' xs H Q):=by
 intro pins s σ H xs us Q I rs q;rcases q with q | q
 ·exact h pins s σ H xs us Q I rs q
 ·exact h' pins s σ H xs us Q I rs q
theorem Dz:CallR X (.type "list") (λxs H Q=>∃ p ys,xs=[.ref p]/\(SqL X.K H p ys\/SqT X.K H p ys)/\∀ l,H l=none->Q (.ref l) (upd H l (.lst ys))):=by
 intro pins s σ H xs us Q I r h;obtain⟨p,ys,rfl,hq,q⟩:=h;obtain⟨u,rfl,rx⟩:=AV r;cases rx
 have fin:∀(its:List Wk),Vals ys its->ys.length<=Ws->∀(h':Heap) (c':Nat),(∀ b o',s.heap.get? b=some o'->h'.get? b=some o')->
  h'.get? s.heap.objs.size=some {cls := .type "list",dict:=none,data := .seq its.toArray c',slots:=#[]}->EP X pins σ Q (.ref s.heap.objs.size) {s with heap:=h'}:=λits r' hz h' c' kp e=>
  ⟨.ref s.heap.objs.size,_,I.laid (t':=s.toks) kp (Sw _) (show ObjOk X.prog X.w _ h' _ (.lst ys) from ⟨hz,its,c',r',e⟩),rfl,q _ (I.hok.fresh (Sw _))⟩
 rcases hq with hq | hq
 ·obtain⟨its,r',pl,hz⟩:=I.list hq;have hlen:=r'.length;obtain⟨o,ho,hc,n,hd⟩:=pl.isList;exact call_list_seq p (.inl rfl) ho hc hd (λh' c' kp e=>fin its r' hz h' c' kp e) (by simp only[Sq]<;>omega)
 ·obtain⟨its,r',pl,hz⟩:=I.tuple hq;have hlen:=r'.length;obtain⟨o,ho,hc,n,hd⟩:=pl;exact call_list_seq p (.inr rfl) ho hc hd (λh' c' kp e=>fin its r' hz h' c' kp e) (by simp only[Sq]<;>omega)
theorem DK:CallR X (.type "tuple") (λxs H Q=>∃ p ys,xs=[.ref p]/\((SqL X.K H p ys/\∀ l,H l=none->Q (.ref l) (upd H l (.tup ys)))\/(SqT X.K H p ys/\Q (.ref p) H))):=by
 intro pins s σ H xs us Q I r h;obtain⟨p,ys,rfl,h⟩:=h;obtain⟨u,rfl,rx⟩:=AV r;cases rx;rcases h with⟨hq,q⟩ | ⟨hq,q⟩
 ·obtain⟨its,r',pl,hz⟩:=I.list hq;have hlen:=r'.length;refine call_tuple_list pl.isList (λh' kp=>?_) (by simp only[Sq]<;>omega);have I1:Inv X pins σ H {s with heap:=h'}:=I.kept (t':=s.toks) kp
  have I2:Inv X pins σ (upd H h'.objs.size (.tup ys)) {s with heap:=h'.push {cls := .type "tuple",data := .seq its.toArray}}:=
   I1.laid (t':=s.toks) (λb o e=>Sh _ e) (Sw _) (show ObjOk X.prog X.w _ _ _ (.tup ys) from ⟨hz,its,r',IsTup.new _ _⟩)
  exact⟨.ref h'.objs.size,_,I2,rfl,q _ (I1.hok.fresh (Sw _))⟩
 ·obtain⟨its,r',pl,hz⟩:=I.tuple hq;exact call_tuple_same pl ⟨.ref p,H,I,rfl,q⟩
def tyV(K:Sd)(T:String)(x:V)(H:Hp):Prop:=match x with
 | .str _=>T="str"
 | .int _=>T="int"
 | .ref p=>(T="list"/\∃ xs,SqL K H p xs)\/(T="tuple"/\∃ o,K.lookup p=some o/\o.cls = .type "tuple"/\o.dict=none)\/
    (T="dict"/\((∃ kvs,H p=some (.dK kvs))\/∃ kvs,H p=some (.dT kvs)))\/(T="set"/\∃ S n,H p=some (.set S n))
 | _=>False
theorem Jq{pins:List (Wm×Obj)}{σ:St}{H:Hp}{s:Wl}{T:String}{x:V}{v:Wk}(I:Inv X pins σ H s)(r:RelV x v)(ty:tyV X.K T x H):
 s.TypeIs v T/\∀ a,v = .ref a->∃ ob,s.heap.get? a=some ob/\ob.dict=none:=by
 cases x with
 | str z=>
   obtain⟨t,rfl⟩:=r;cases(show T="str" from ty);exact⟨typeIs_str s z t,λ_ e=>nomatch e⟩
 | int i=>
   obtain⟨t,rfl⟩:=r;cases(show T="int" from ty);exact⟨YD s i t,λ_ e=>nomatch e⟩
 | ref p=>
   cases r;rcases ty with⟨rfl,xs,hq⟩ | ⟨rfl,o,hk,hc,hd⟩ | ⟨rfl,hk⟩ | ⟨rfl,S,n,hk⟩
   ·obtain⟨its,_,pl,_⟩:=I.list hq;refine⟨pl.isList.typeIs,λa e=>?_⟩;cases e;obtain⟨o,n,e,c,hd,_⟩:=pl;exact⟨o,e,hd⟩
   ·refine⟨⟨o,I.kIn p o hk,hc⟩,λa e=>?_⟩;cases e;exact⟨o,I.kIn _ o hk,hd⟩
   ·have z:∃ o,s.heap.get? p=some o/\o.ExactDict:=by
     rcases hk with⟨kvs,hk⟩ | ⟨kvs,hk⟩
     ·obtain⟨_,_,_,_,o,_,_,e,ex,_⟩:=I.hok p _ hk;exact⟨o,e,ex⟩
     ·obtain⟨_,_,_,_,o,_,_,e,ex,_⟩:=I.hok p _ hk;exact⟨o,e,ex⟩
    obtain⟨o,e,ex⟩:=z;refine⟨⟨o,e,ex.1⟩,λa e2=>?_⟩;cases e2;exact⟨o,e,ex.2.1⟩
   ·obtain⟨o,_,_,_,e,ex,_⟩:=I.hok p _ hk;refine⟨⟨o,e,ex.1⟩,λa e2=>?_⟩;cases e2;exact⟨o,e,ex.2.1⟩
 | _=>exact False.elim ty
def P9(K:Sd)(T:String)(r:V->List V->Hp->VK->Prop)(to:TE):TE:=λσ H Q=>to σ H λx H1=>tyV K T x H1/\r x [] H1 Q
def tBM(K:Sd)(T:String)(r:V->List V->Hp->VK->Prop)(to:TE)(t:TA):TE:=λσ H Q=>to σ H λx H1=>tyV K T x H1/\t σ H1 λxs H2=>r x xs H2 Q
variable{o e:Expr}{es:List Expr}{to:TE}{t:TA}{name:Str}{apos cpos:Pos}{T id:String}{r:V->List V->Hp->VK->Prop}
theorem Cc(pa:PlainAttrs T)(slot:Slot T name id)(hty:typeOf (.builtin id)=pure (.type "method_descriptor"))(hm:MtR X id r)(ho:PE X o to)
 (hbase:Y3 o name X.env (eval o X.env)=eval o X.env:=by rfl) (hline:(apos.endLine == cpos.line)=true:=by rfl):PE X (.Call (.Attribute o name apos) [] [] cpos) (P9 X.K T r to):=by
 intro pins s σ H Q I h;refine wpAny_Call_method0_late hbase hline (thn (ho pins s σ H _ I h) λv s1 ⟨x,H1,I1,r1,ty,q1⟩=>?_);obtain⟨h1,h2⟩:=Jq I1 r1 ty;exact⟨T,id,pa,slot,hty,h1,h2,Calls.callWith_builtin rfl (PySem.evalArgs_none (hm pins s1 σ H1 x [] v [] Q I1 r1 .nil q1))⟩
theorem Eb(pa:PlainAttrs T)(slot:Slot T name id)(hty:typeOf (.builtin id)=pure (.type "method_descriptor"))(hm:MtR X id r)(ho:PE X o to)(ha:PA X (e::es) t)
 (hbase:Y3 o name X.env (eval o X.env)=eval o X.env:=by rfl)
 (hfew:((backTo cpos (Wv (e::es) X.env)).all (λx=>!x.1)&&(backToKw cpos (keywordEach [] X.env)).all (λx=>x.1.isSome)
   && decide ((e::es).length+([]:List Keyword).length+(if ([]:List Keyword).isEmpty then 0 else 1)<30))=true:=by rfl)
 (hline:(apos.endLine == cpos.line)=true:=by rfl) (hs:Wv (e::es) X.env=(false,eval e X.env)::Wv es X.env:=by rfl) (hplain:(backTo cpos (Wv es X.env)).any (·.1)=false:=by rfl):
 PE X (.Call (.Attribute o name apos) (e::es) [] cpos) (tBM X.K T r to t):=by
 intro pins s σ H Q I h;refine wpAny_Call_method_late hbase hfew hline rfl (thn (ho pins s σ H _ I h) λv s1 ⟨x,H1,I1,r1,ty,q1⟩=>?_);obtain⟨h1,h2⟩:=Jq I1 r1 ty;refine⟨T,id,pa,slot,hty,h1,h2,?_⟩;have hA:=ha cpos pins s1 σ H1 _ I1 q1;rw[hs]at hA ⊢;refine Calls.callWith_builtin (by show(false||(backTo cpos (Wv es X.env)).any (·.1))=false;rw[hplain]<;>rfl) (Calls.evalArgs_plain ?_);exact thn hA λus s2 ⟨vs,H2,I2,r2,q2⟩=>hm pins s2 σ H2 x vs v us Q I2 r1 r2 q2
end
noncomputable def MtM(X:Cx)(id:String)(r:V->List V->Hp->VK->Prop):Prop:=
 ∀(pins:List (Wm×Obj)) (s:Wl) (σ:St) (H:Hp) (x:V) (xs:List V) (v:Wk) (us:List Wk) (Q:VK),Inv X pins σ H s->RelV x v->Vals xs us->r x xs H Q->
  Wo (Wp X.prog X.w) X.A (call (.builtin id) (v::us)) (EP X pins σ Q) X.xe s
theorem Vals.one{x:V}{us:List Wk}(h:Vals [x] us):∃ u,us=[u]/\RelV x u:=by
 cases h with
 | cons r q=>cases q;exact⟨_,rfl,r⟩
theorem Vals.two{x y:V}{us:List Wk}(h:Vals [x,y] us):∃ u v,us=[u,v]/\RelV x u/\RelV y v:=by
 cases h with
 | cons r q=>
   obtain⟨v,rfl,s⟩:=Vals.one q;exact⟨_,v,rfl,r,s⟩
theorem Vals.zero:∀{us:List Wk},Vals [] us->us=[]
 | _,.nil=>rfl
theorem Vals.eraseIdx:∀{xs:List V} {us:List Wk} (i:Nat),Vals xs us->Vals (xs.eraseIdx i) (us.eraseIdx i)
 | _,_,_,.nil => .nil
 | _,_,0,.cons _ t=>t
 | _,_,i+1,.cons r t => .cons r (Vals.eraseIdx i t)
theorem Vals.reverse{xs:List V}{us:List Wk}(h:Vals xs us):Vals xs.reverse us.reverse:=by
 induction h with
 | nil=>exact .nil
 | cons r t ih=>rw[Vl,Vl];exact Vals.append ih (.cons r .nil)
theorem Vals.rep{xs:List V}{us:List Wk}(h:Vals xs us):∀ k:Nat,Vals (TM k xs).flatten (TM k us).flatten
 | 0 => .nil
 | k+1=>by
   rw[Tj,Tj,UL,UL];exact Vals.append h (Vals.rep h k)
theorem DW(its:List Wk):∀(k:Nat) (acc:List Wk),
 WQ (λx1 x2=>x1++x2) acc.toArray (TM k its.toArray)=(acc++(TM k its).flatten).toArray
 | 0,acc=>by simp
 | k+1,acc=>by
   have e:acc.toArray++its.toArray=(acc++its).toArray:=by simp
   have e2:(acc++its)++(TM k its).flatten=acc++(TM (k+1) its).flatten:=by
    rw[Tj,UL,Vm]
   rw[<-e2,<-DW its k (acc++its),<-e,Tj,List.foldl_cons]
section
variable{X:Cx}{pins:List (Wm×Obj)}{σ:St}{H:Hp}{s:Wl}{l b:Wm}{xs ys zs:List V}
theorem Inv.lset{its its':List Wk}{n:Nat}{f:Array Wk->Array Wk}{t':Nat}(I:Inv X pins σ H s)(hH:H l=some (.lst xs))
 (e:s.heap.get? l=some {cls := .type "list",data := .seq its.toArray n}) (hf:f its.toArray=its'.toArray) (hv:Vals ys its') (hz:ys.length<=Ws):
 Inv X pins σ (upd H l (.lst ys)) {s with heap:=s.heap.update l (Obj.mapSeq f),toks:=t'}:=by
 have q:=PySem.IsL.update e f;rw[hf]at q;refine I.write (x:=l) (e:=l) (by rw[hH];exact trivial) (.inl rfl) (λb' u hb hu=>(Tv s.heap (Obj.mapSeq f) (Ne.symm hb)).trans hu) ⟨_,q⟩ ?_;exact⟨hz,its',_,hv,q⟩
theorem Inv.lnew{its:List Wk}{t':Nat}(I:Inv X pins σ H s)(hv:Vals ys its)(hz:ys.length<=Ws):
 Inv X pins σ (upd H s.heap.objs.size (.lst ys)) {s with heap:=s.heap.push {cls := .type "list",data := .seq its.toArray},toks:=t'}:=
 I.laid (λ_ _ q=>Sh _ q) (Sw _) ⟨hz,its,0,hv,Sr _ rfl⟩
theorem Inv.fresh(I:Inv X pins σ H s):H s.heap.objs.size=none:=I.hok.fresh (Sw _)
theorem Inv.lstM(I:Inv X pins σ H s)(hH:H l=some (.lst xs)):xs.length<=Ws/\∃(its:List Wk) (n:Nat),Vals xs its/\xs.length=its.length/\s.heap.get? l=some {cls := .type "list",data := .seq its.toArray n}:=by
 obtain⟨z,its,n,r,e⟩:=I.hok l _ hH;exact⟨z,its,n,r,r.length,e⟩
theorem Cd{n:Nat}(h:n<=Ws):Builtin.List.listTooLong n=false:=by
 unfold Builtin.List.listTooLong;exact decide_eq_false (by omega)
end
section
variable{X:Cx}
def HM:V->List V->Hp->VK->Prop:=λx vs H Q=>∃ l xs y,x = .ref l/\vs=[y]/\H l=some (.lst xs)/\xs.length<Ws/\Q .non (upd H l (.lst (xs++[y])))
theorem C2:MtM X "list.append" HM:=by
 intro pins s σ H x vs v us Q I rx rv h;obtain⟨l,xs,y,rfl,rfl,hH,hz,q⟩:=h;cases rx;obtain⟨u,rfl,ru⟩:=rv.one;obtain⟨z,its,n,r,hl,e⟩:=I.lstM hH;refine Xh F.slot_list_append ⟨_,e,rfl⟩ F.entry_list_append (F.args_list_append_2 _ _) (PySem.list_append l its.toArray n u (by rw[Sq];omega)) ⟨e,?_⟩;refine⟨.non,_,I.lset (its':=its++[u]) hH e (by simp) (r.append (.cons ru .nil)) ?_,rfl,q⟩;rw[Sl,UF];omega
def HN:V->List V->Hp->VK->Prop:=λx vs H Q=>∃ l b xs zs,x = .ref l/\vs=[.ref b]/\H l=some (.lst xs)/\H b=some (.lst zs)/\xs.length+zs.length<=Ws/\Q .non (upd H l (.lst (xs++zs)))
theorem DX:MtM X "list.extend" HN:=by
 intro pins s σ H x vs v us Q I rx rv h;obtain⟨l,b,xs,zs,rfl,rfl,hH,hB,hz,q⟩:=h;cases rx;obtain⟨u,rfl,ru⟩:=rv.one;cases ru;obtain⟨z,its,n,r,hl,e⟩:=I.lstM hH;obtain⟨z2,its2,n2,r2,hl2,e2⟩:=I.lstM hB;have hsz:its.toArray.size+its2.toArray.size<=Ws:=by rw[Sq,Sq];omega
 have hlong:¬ (!its.toArray.isEmpty&&Builtin.List.listTooLong (its.toArray.size+its2.toArray.size))=true:=by
  rw[Cd hsz,VY];exact Su
 refine Xh F.slot_list_extend ⟨_,e,rfl⟩ F.entry_list_extend (F.args_list_extend_2 _ _)
  (AutoSeq1.list_extend_list_list_0 l its.toArray n b its2.toArray n2 hlong (by rw[Sq];omega) (by omega)) ⟨e,e2,?_⟩
 refine⟨.non,_,I.lset (its':=its++its2) hH e (by simp) (r.append r2) ?_,rfl,q⟩;rw[Sl];omega
def R7:R2:=λx y H Q=>∃ l b xs zs,x = .ref l/\y = .ref b/\H l=some (.lst xs)/\H b=some (.lst zs)/\xs.length+zs.length<=Ws/\∀ p,H p=none->Q (.ref p) (upd H p (.lst (xs++zs)))
theorem PB:OpR X (Xb .Add) R7:=by
 intro pins s σ H x y v u Q I rx ry h;obtain⟨l,b,xs,zs,rfl,rfl,hH,hB,hz,q⟩:=h;cases rx;cases ry;obtain⟨z,its,n,r,hl,e⟩:=I.lstM hH;obtain⟨z2,its2,n2,r2,hl2,e2⟩:=I.lstM hB;refine PySem.P.add_list e e2 ?_ (by rw[Sq,Sq];omega);have ea:its.toArray++its2.toArray=(its++its2).toArray:=by simp
 rw[ea];exact⟨.ref _,_,I.lnew (t':=s.toks) (r.append r2) (by rw[Sl];omega),rfl,q _ I.fresh⟩
def R8:R2:=λx y H Q=>∃ l k xs,x = .ref l/\y = .int k/\H l=some (.lst xs) /\ -(2 ^ 63)<=k/\k<2 ^ 63/\xs.length * k.toNat<=Ws/\
 ∀ p,H p=none->Q (.ref p) (upd H p (.lst (TM k.toNat xs).flatten))
theorem MP{α:Type}(xs:List α)(k:Nat):(TM k xs).flatten.length=k * xs.length:=by
 induction k with
 | zero=>simp
 | succ k ih=>rw[Tj,UL,Sl,ih,Vn,Nat.add_comm]
theorem PC:OpR X (Xb .Mult) R8:=by
 intro pins s σ H x y v u Q I rx ry h;obtain⟨l,k,xs,rfl,rfl,hH,h1,h2,hz,q⟩:=h;cases rx;obtain⟨t,rfl⟩:=ry;obtain⟨z,its,n,r,hl,e⟩:=I.lstM hH;have hlen:its.toArray.size * k.toNat<=Ws:=by rw[Sq,<-hl];exact hz
 have hcap:¬ its.toArray.size * k.toNat>(2 ^ 63 - 1) / 8:=by
  have:(Ws:Nat)<=(2 ^ 63 - 1) / 8:=by decide
  omega
 have hfit:¬ (!Builtin.List.listFitsIndex k)=true:=by
  rw[Z3 h1 h2];exact Su
 have hlong:¬ Builtin.List.listTooLong (its.toArray.size * k.toNat)=true:=by
  rw[Cd hlen];exact Su
 have hnew:WQ (λx1 x2=>x1++x2) #[] (TM (if its.toArray.isEmpty=true then 0 else k.toNat) its.toArray)=(TM k.toNat its).flatten.toArray:=by
  have f0:∀ m:Nat,WQ (λx1 x2=>x1++x2) #[] (TM m its.toArray)=(TM m its).flatten.toArray:=λm=>by
   have:=DW its m [];rw[List.nil_append]at this;exact this
  rw[f0];cases its with
  | nil=>simp
  | cons a r'=>rw[iG (by simp)]
 refine wpAny_binaryOp_repeat_ref (T:="list") (U:="int") (by decide) ⟨_,e,rfl⟩ (λs'=>YD s' k t) noFill_list_mul F.fills_int_mul F.slot_int_rmul repeat_list F.slot_int_index.lookup
  (Xh F.slot_int_rmul (YD s k t) F.entry_int_rmul (F.args_int_rmul_2 _ _) (int___rmul___int_list k t l its.toArray n)
    ⟨e,rfl,⟨_,e,rfl⟩,Xh F.slot_list_mul ⟨_,e,rfl⟩ F.entry_list_mul (F.args_list_mul_2 _ _) (AutoListH.list___mul___list_int_3 l its.toArray n k t hfit hcap hlong) ⟨e,?_⟩⟩)
 rw[hnew];exact⟨.ref _,_,I.lnew (t':=s.toks) (r.rep k.toNat) (by rw[MP,Nat.mul_comm];exact hz),rfl,q _ I.fresh⟩
end
end L2
namespace Att
open PySem PySem.W PySem.Calls PyProof.Rows
theorem CM{P:Params}{h:Heap}:∀(ns:List Int) (vs:List Wk),WellAll P h vs (ns.map WData.int)->IntsAre vs ns:=by
 intro ns
 induction ns with
 | nil=>
   intro vs w;rw[List.map_nil]at w;cases w;exact .nil
 | cons n ns ih=>
   intro vs w;rw[TY]at w;cases w with
   | cons a b=>
     cases a;exact .cons _ _ (ih _ b)
theorem IT{l:OpenLaw}{n:Nat}(hn:l.most=some n){P:Params}{h:Heap}{args:List WData}{vals:List Wk}
 (hpre:l.row.toRowW.claim.pre args=true) (hwl:WellAll P h vals args):
 ∃ a vs ns,vals=[Value.ref a]/\args=[WData.list (ns.map WData.int)]/\h.get? a=some {cls := .type "list",data := .seq vs.toArray}/\IntsAre vs ns/\ns.length<=n:=by
 have hsh:WShape.hasAll [] args [.list .int]=true:=(pre_splitW hpre).1;have hc:l.pre.holds [] {args:=args}=true:=(pre_splitW hpre).2;obtain⟨d,r,rfl,h1,h2⟩:=hasAllW_cons hsh;obtain rfl:=hasAllW_nil h2;obtain⟨xs,rfl,h3⟩:=hasW_list h1;obtain⟨ns,rfl⟩:=items_int h3
 have hlen:ns.length<=n:=by
  unfold OpenLaw.pre at hc
  have h4:(WTm.not (.lt (.lit (.int (n:Int))) (.len (.arg 0)))).holds [] {args:=[.list (ns.map .int)]}=true:=by
   have h4:=(holds_andW hc).1;rw[hn]at h4;exact h4
  have h5:=condW_of h4 (w_not (w_lt w_lit (w_len_list (w_arg rfl))));rw[Se]at h5;refine W4 λq=>?_;have q':(n:Int)<((ns.length:Nat):Int):=by omega
  first
   | (rw[decide_eq_true q']at h5;exact absurd h5 (by decide))
   | (simp at h5;omega)
 cases hwl with
 | cons w1 w2=>
   cases w2;cases w1 with
   | list ho hall=>exact⟨_,_,ns,rfl,rfl,ho,CM ns _ hall,hlen⟩
theorem IU(l:OpenLaw)(args:List WData):l.row.toRowW.claim.post args (.bool true) args=true:=
 postW_of (r:=l.row.toRowW) (X:=(true == true))
  (show WShape.has [] (.bool true) .bool=true by first | rfl | decide | simp[WShape.has,WShape.arms,WShape.armsAll])
  (show(WTm.eq .res (.lit (.bool true))).value [] {args:=args,res:=some (.bool true),after:=args}=some (.bool (true == true)) from w_eq_bool (w_res rfl) w_lit) rfl
theorem attach_call{l:OpenLaw}{n:Nat}{q:Wr}{loose:List Str}{XP:(Str->Option Wk)->Heap->Prop}{YP:Wt->Heap->Prop}{d:DefRec}
 (hn:l.most=some n) (hdf:d.params.defaults=[])
 (call:∀(w:Wt) (s₀ s₁:Wl) (mg mb:Str->Option Wk) (fa:Wm) (o:Obj) (pm cd doc:Wk) (a:Wm) (vs:List Wk) (ns:List Int),
   Ground q loose [] XP w s₀ mg mb s₁.heap->YP w s₁.heap->
   s₁.heap.get? fa=some o->o.data = .func (docDef d.name d.params d.body d.scope pm cd doc)->s₁.heap.CodeRec cd d.name->mg d.name=some (.ref fa)->
   s₁.heap.get? a=some {cls := .type "list",data := .seq vs.toArray}->IntsAre vs ns->ns.length<=n->s₁.gens=#[]->
   codeAny (Wp l.prog w) callerA (.call (.ref fa) ⟨[.ref a],[]⟩) (λr s'=>r = .ok (.ret (.bool true))/\OldK s₁.heap s'.heap/\s'.os=s₁.os/\AllBare s'.gens) s₁):
 WalkO q loose XP YP l.row.toRowW d [] (λf vs=>PySem.call f vs):=by
 intro w s₀ s₁ mg mb G Y fa o pm cd doc dV kV ho hd hcd hD hmg hg args vals as hpre hlay hrd hwl hlo;obtain rfl:dV = .none:=Dflts.none hD hdf;obtain rfl:kV = .none:=Dflts.noKw hD;obtain⟨a,vs,ns,rfl,rfl,hobj,hints,hlen⟩:=IT hn hpre hwl;refine enter_call (XQ (call w s₀ s₁ mg mb fa o pm cd doc a vs ns G Y ho (fd_plain hd) hcd hmg hobj hints hlen hg) λr s' hq=>?_);obtain⟨rfl,h2,h3,h4⟩:=hq;exact⟨.inl ⟨.bool true,.bool true,[],rfl,λ_=>rfl,.bool true,IU l _,λ_=>⟨List.Pairwise.nil,λ_ hm=>(nomatch hm)⟩⟩,h2,h3,h4⟩
end Att
namespace L2
open PySem PySem.Spec PyProof.Rows
theorem DY:∀{vs:List Wk} {ns:List Int},IntsAre vs ns->Vals (ns.map V.int) vs
 | _,_,.nil => .nil
 | _,_,.cons n t h => .cons ⟨t,rfl⟩ (DY h)
def defArgs(s:Stmt):Xp:=match s with
 | .FunctionDef _ a _ _ _ _ _ _ _ _=>a
 | _=>{posonlyargs:=[],args:=[],vararg:=none,kwonlyargs:=[],kw_defaults:=[],kwarg:=none,defaults:=[]}
def defBody(s:Stmt):List Stmt:=match s with
 | .FunctionDef _ _ b _ _ _ _ _ _ _=>b
 | _=>[]
def defScope(s:Stmt):Ww:=match s with
 | .FunctionDef _ _ _ _ _ _ sc _ _ _=>sc
 | _=>{kind := .function,names:=[],isGenerator:=false,isCoroutine:=false}
abbrev CX0:CXT:=λ_ _ _ _ _ _=>False
abbrev E0:XK:=λ_ _ _=>False
theorem R9{X:Cx}:Fy CX0 X E0:=λ_ _ _ _ _ _ _ h=>h.elim
structure Fun(K:Sd)(x qual:Str)(st:Stmt)(f:Wm)(fd:XY):Prop where
 ex:∃(oc:Wk) (od:Option Wm) (kV doc pm:Wk) (an:Option Wm) (cdv ct:Wk) (osl:Array (Option Wk)),
  fd=PySem.W.fnOf x qual (defArgs st) (defBody st) (defScope st) .none kV doc pm an cdv ct/\K.lookup f=some ⟨oc,od,.func fd,osl⟩/\PySem.W.codeIn K cdv qual=true
 kp:PySem.W.keepIn K (.ref f)=true
section
variable{P:Wr}{w:Wt}{K:Sd}{mg:Str->Option Wk}{base:Heap}
theorem Fun.binds{x qual:Str}{st:Stmt}{f:Wm}{fd:XY}{ps:List Str}(F:Fun K x qual st f fd)
 (h:∀(kV doc pm:Wk) (an:Option Wm) (cdv ct:Wk) (us:List Wk),us.length=ps.length->Y6 (PySem.W.fnOf x qual (defArgs st) (defBody st) (defScope st) .none kV doc pm an cdv ct) ⟨us,[]⟩=pure (ps.zip us)):Binds K fd ps []:=by
 obtain⟨oc,od,kV,doc,pm,an,cdv,ct,osl,rfl,lk,hcd⟩:=F.ex;exact .all (h kV doc pm an cdv ct)
theorem G9{x qual:Str}{st:Stmt}{f:Wm}{oc:Wk}{od an:Option Wm}{osl:Array (Option Wk)}{kV doc pm cdv ct:Wk}(l:K.lookup f=some ⟨oc,od,.func (PySem.W.fnOf x qual (defArgs st) (defBody st) (defScope st) .none kV doc pm an cdv ct),osl⟩)
 (c:PySem.W.codeIn K cdv qual=true) (k:PySem.W.keepIn K (.ref f)=true):Fun K x qual st f (PySem.W.fnOf x qual (defArgs st) (defBody st) (defScope st) .none kV doc pm an cdv ct):=⟨⟨oc,od,kV,doc,pm,an,cdv,ct,osl,rfl,l,c⟩,k⟩
end
theorem IV{n:Nat}(h:n<=1000):n<Ws:=Uc h (by decide)
end L2
set_option maxHeartbeats 4000000
namespace L2
open PySem PySem.Spec PyProof.Rows
def j0(env:Env):List (Str×XC)->List (Str×Wm)->List (Str×Wm)
 | [],acc=>acc
 | (n,k)::r,acc=>if k == .free then j0 env r ((n,(env.cells.lookup n).getD 0)::acc) else j0 env r acc
theorem Ag{env:Env}{scope:Ww}(h:∀ x∈scope.names,x.2 = .free->∃ c,env.cells.lookup x.1=some c):Yf scope env=pure (j0 env scope.names []):=by
 unfold Yf
 have go:∀(names:List (Str×XC)) (acc:List (Str×Wm)),(∀ x∈names,x.2 = .free->∃ c,env.cells.lookup x.1=some c)->
  (forIn names acc λx r=>match x with
    | (name,kind)=>if (kind == NameKind.free)=true then do let __do_lift <- cellOf env name;pure (ForInStep.yield ((name,__do_lift)::r)) else pure (ForInStep.yield r):Sem (List (Str×Wm)))=pure (j0 env names acc):=by
  intro names
  induction names with
  | nil=>intro acc _;rfl
  | cons x r ih=>
    intro acc hx;obtain⟨n,k⟩:=x;rw[VU];have hr:=λy hy=>hx y (T8 _ hy);by_cases hk:k = .free
    ·subst hk;obtain⟨c,hc⟩:=hx (n,.free) TJ rfl;have hc':env.cells.lookup n=some c:=hc;unfold j0;simp only[beq_self_eq_true,if_true,cellOf,hc',Option.getD_some,pure_bind];exact ih _ hr
    ·have hb:(k == NameKind.free)=false:=by simpa using hk
     unfold j0;simp only[hb,Tw,if_false,pure_bind];exact ih _ hr
 have:=go scope.names [] h;simp only[this]
 first | rfl | simp
theorem BM{env:Env}:∀(names:List (Str×XC)) (acc:List (Str×Wm)),(∀ x∈names,x.2 = .free->∃ c,env.cells.lookup x.1=some c)->(∀ p∈acc,env.cells.lookup p.1=some p.2)->
 ∀ p∈j0 env names acc,env.cells.lookup p.1=some p.2
 | [],_,_,ha,p,hp=>ha p hp
 | (n,k)::r,acc,h,ha,p,hp=>by
   unfold j0 at hp;have hr:=λy hy=>h y (T8 _ hy);split at hp
   ·rename_i hk;have hk:k = .free:=by simpa using hk
    obtain⟨c,hc⟩:=h (n,k) TJ hk;have hc':env.cells.lookup n=some c:=hc;refine BM r _ hr (λq hq=>?_) p hp;rcases T7.mp hq with rfl | hq
    ·show env.cells.lookup n=some ((env.cells.lookup n).getD 0);rw[hc'];rfl
    ·exact ha q hq
   ·exact BM r acc hr ha p hp
theorem C3{env:Env}:∀(names:List (Str×XC)) (acc:List (Str×Wm)),∀ p∈acc,p∈j0 env names acc
 | [],_,_,hp=>hp
 | (n,k)::r,acc,p,hp=>by
   unfold j0;split
   ·exact C3 r _ p (T8 _ hp)
   ·exact C3 r acc p hp
theorem Ai{env:Env}:∀(names:List (Str×XC)) (acc:List (Str×Wm)) (n:Str),(n,NameKind.free)∈names->∃ c,(n,c)∈j0 env names acc
 | (m,k)::r,acc,n,hn=>by
   unfold j0;rcases T7.mp hn with e | hn
   ·cases e;simp only[beq_self_eq_true,if_true];exact⟨_,C3 r _ _ TJ⟩
   ·split
    ·exact Ai r _ n hn
    ·exact Ai r _ n hn
theorem B7{env:Env}:∀(names:List (Str×XC)) (acc:List (Str×Wm)),∀ p∈j0 env names acc,p∈acc\/(p.1,NameKind.free)∈names
 | [],_,_,hp => .inl hp
 | (n,k)::r,acc,p,hp=>by
   unfold j0 at hp;split at hp
   ·rename_i hk;have hk:k = .free:=by simpa using hk
    subst hk;rcases B7 r _ p hp with z | z
    ·rcases T7.mp z with rfl | z
     ·exact .inr TJ
     ·exact .inl z
    ·exact .inr (T8 _ z)
   ·rcases B7 r _ p hp with z | z
    ·exact .inl z
    ·exact .inr (T8 _ z)
theorem A8:∀(names:List (Str×XC)) (n:Nat) (acc:List (Str×Wm)),∀ p∈XF n names acc,p∈acc\/(n<=p.2/\(p.1,NameKind.cell)∈names)
 | [],_,_,_,hp => .inl hp
 | (x,k)::r,n,acc,p,hp=>by
   unfold XF at hp;split at hp
   ·rename_i hk;have hk:k = .cell:=by simpa using hk
    subst hk;rcases A8 r (n+1) _ p hp with z | ⟨z,w⟩
    ·rcases T7.mp z with rfl | z
     ·exact .inr ⟨Sw _,TJ⟩
     ·exact .inl z
    ·exact .inr ⟨Vo z,T8 _ w⟩
   ·rcases A8 r n acc p hp with z | ⟨z,w⟩
    ·exact .inl z
    ·exact .inr ⟨z,T8 _ w⟩
theorem A9:∀(names:List (Str×XC)) (n:Nat) (acc:List (Str×Wm)),∀ p∈acc,p∈XF n names acc
 | [],_,_,_,hp=>hp
 | (x,k)::r,n,acc,p,hp=>by
   unfold XF;split
   ·exact A9 r _ _ p (T8 _ hp)
   ·exact A9 r _ _ p hp
theorem Aa:∀(names:List (Str×XC)) (n:Nat) (acc:List (Str×Wm)) (x:Str),(x,NameKind.cell)∈names->∃ c,(x,c)∈XF n names acc
 | (y,k)::r,n,acc,x,hx=>by
   unfold XF;rcases T7.mp hx with e | hx
   ·cases e;simp only[beq_self_eq_true,if_true];exact⟨_,A9 r _ _ _ TJ⟩
   ·split
    ·exact Aa r _ _ x hx
    ·exact Aa r _ _ x hx
theorem Ab:∀(names:List (Str×XC)) (h:Heap) (acc:List (Str×Wm)),∀ p∈XF h.objs.size names acc,p∈acc\/(Yt h names).IsCell p.2 none
 | [],_,_,_,hp => .inl hp
 | (x,k)::r,h,acc,p,hp=>by
   unfold XF at hp;unfold Yt;split at hp
   ·rename_i hk;rw[iP hk];have:=Ab r (h.push {cls := .type "cell",data := .cell none}) ((x,h.objs.size)::acc) p (by rw[Tf];exact hp);rcases this with z | z
    ·rcases T7.mp z with rfl | z
     ·exact .inr ⟨_,YH _ _ _ _ (Sr _ rfl),rfl⟩
     ·exact .inl z
    ·exact .inr z
   ·rename_i hk;rw[iG hk];exact Ab r h acc p hp
theorem AG:∀(names:List (Str×XC)) (n:Nat) (acc:List (Str×Wm)),(acc.Pairwise λx y=>x.2≠y.2)->(∀ p∈acc,p.2<n)->(XF n names acc).Pairwise λx y=>x.2≠y.2
 | [],_,_,h,_=>h
 | (x,k)::r,n,acc,h,hl=>by
   unfold XF;split
   ·refine AG r (n+1) _ (Ul.mpr ⟨λy hy e=>?_,h⟩) λp hp=>?_
    ·have h1:=hl y hy;have e':n=y.2:=e;exact absurd h1 (by rw[<-e'];exact UQ _)
    ·rcases T7.mp hp with rfl | hp
     ·exact VG _
     ·exact UM (hl p hp)
   ·exact AG r n acc h hl
theorem AW{env:Env}(inj:∀ x y c,env.cells.lookup x=some c->env.cells.lookup y=some c->x=y):∀(names:List (Str×XC)) (acc:List (Str×Wm)),(names.map (·.1)).Nodup->
 (∀ x∈names,x.2 = .free->∃ c,env.cells.lookup x.1=some c)->(acc.Pairwise λx y=>x.2≠y.2)->(∀ p∈acc,env.cells.lookup p.1=some p.2/\p.1∉names.map (·.1))->(j0 env names acc).Pairwise λx y=>x.2≠y.2
 | [],_,_,_,h,_=>h
 | (n,k)::r,acc,nd,hf,h,ha=>by
   unfold j0;have nd':=UV.mp nd;have hr:=λy hy=>hf y (T8 _ hy);split
   ·rename_i hk;have hk:k = .free:=by simpa using hk
    obtain⟨c,hc⟩:=hf (n,k) TJ hk;have hc':env.cells.lookup n=some c:=hc;refine AW inj r _ nd'.2 hr (Ul.mpr ⟨λy hy e=>?_,h⟩) λp hp=>?_
    ·have e':(env.cells.lookup n).getD 0=y.2:=e;rw[hc']at e';have e2:c=y.2:=e';have q:=(ha y hy).1;have:=inj n y.1 c hc' (by rw[e2];exact q);exact(ha y hy).2 (by rw[<-this];exact TJ)
    ·rcases T7.mp hp with rfl | hp
     ·refine⟨?_,nd'.1⟩;show env.cells.lookup n=some ((env.cells.lookup n).getD 0);rw[hc'];rfl
     ·exact⟨(ha p hp).1,λz=>(ha p hp).2 (T8 _ z)⟩
   ·exact AW inj r acc nd'.2 hr h λp hp=>⟨(ha p hp).1,λz=>(ha p hp).2 (T8 _ z)⟩
theorem AM{env:Env}:∀(names:List (Str×XC)) (x:Str),
 (names.map λ(n,k)=>if (k == NameKind.free&&env.scope.kind == .function&&env.kindOf n == some .cell) then (n,NameKind.cell) else (n,k)).lookup x=
   (names.lookup x).map λk=>if (k == NameKind.free&&env.scope.kind == .function&&env.kindOf x == some .cell) then NameKind.cell else k
 | [],x=>rfl
 | (n,k)::r,x=>by
   have ih:=AM (env:=env) r x;rw[TY];show VA x ((if (k == NameKind.free&&env.scope.kind == .function&&env.kindOf n == some .cell)=true then (n,NameKind.cell) else (n,k))::_)=_;split
   ·rename_i hc;rw[U3,U3];cases hx:x == n with
    | false=>exact ih
    | true=>
      have e:x=n:=by simpa using hx
      subst e;simp only[UN];rw[iP hc]
   ·rename_i hc;rw[U3,U3];cases hx:x == n with
    | false=>exact ih
    | true=>
      have e:x=n:=by simpa using hx
      subst e;simp only[UN];rw[iG hc]
theorem m8{α:Type}:∀{l:List (Str×α)} {n:Str} {c:α},(l.map (·.1)).Nodup->(n,c)∈l->l.lookup n=some c
 | (k,v)::r,n,c,nd,h=>by
   have nd':=UV.mp nd;rw[U3];rcases T7.mp h with e | h2
   ·cases e;simp
   ·cases hb:n == k with
    | true=>
      have e:n=k:=by simpa using hb
      exact absurd (TR.mpr ⟨(n,c),h2,e⟩:k∈r.map (·.1)) nd'.1
    | false=>exact m8 nd'.2 h2
theorem AA{α:Type}:∀{l:List (Str×α)} {n:Str} {c:α},(n,c)∈l->∃ d,l.lookup n=some d
 | (k,v)::r,n,c,h=>by
   rw[U3];cases hb:n == k with
   | true=>exact⟨v,rfl⟩
   | false=>
     rcases T7.mp h with e | h
     ·cases e;simp at hb
     ·exact AA h
noncomputable abbrev t5(X:Cx)(scope:Ww)(N':List Str)(s2:Wl)(H2:Hp)(cs:List (Str×Wm))(C:Wm)(fp:List Wm):Cx where
 prog:=X.prog
 w:=X.w
 K:=X.K
 mg:=X.mg
 base:=X.base
 A:=X.A
 N:=N'
 s₀:=s2
 H₀:=H2
 env:=Y7 scope cs C X.env
 outer:=X.stack
 stack:=X.stack
 ex:=fp
 fn:=λx=>scope.names.lookup x == some .cell
 calm:=X.calm
 pn:=X.pn
 xe:=λ_ _=>False
def w5(sc0 sc:Ww)(own cn N:List Str)(js:List Nat):Bool:=
 (decide (sc.kind = .function))&&(sc.names.all λx=>!decide (x.2 = .free)||decide (sc0.names.lookup x.1=some .cell)||decide (sc0.names.lookup x.1=some .free))
 && decide ((sc.names.map (·.1)).Nodup)&&(own.all λx=>decide (sc.names.lookup x=some .local)||decide (sc.names.lookup x=some .cell))&&(cn.all λx=>decide (sc.names.lookup x=some .free))
 && decide ((own++cn).Nodup)&&decide (js.map (λj=>N[j]?)=cn.map some)
def Bc(k:Nat)(js:List Nat)(σ:St):St:=TM k none++js.map λj=>(σ[j]?).join
noncomputable def Ec(X:Cx)(ifs:List Expr)(t:TT):Prop:=
 ∀(pins:List (Wm×Obj)) (s:Wl) (σ:St) (H:Hp) (Q:Bool->Hp->Prop),Inv X pins σ H s->t σ H Q->
  Wo (Wp X.prog X.w) X.A (forIn ifs true λc r=>if r=true then do let ok <- isTrue c X.env (eval c X.env);pure (ForInStep.yield ok) else pure (ForInStep.yield r)) (TP X pins σ Q) X.xe s
theorem Jr{X:Cx}:Ec X [] (λ_ H Q=>Q true H):=λ_ _ _ H _ I h=>wpAny_tests_nil ⟨H,I,h⟩
theorem Js{X:Cx}{c:Expr}{t:TT}(h:PT X c t):Ec X [c] t:=λpins s σ H Q I hw=>wpAny_tests_one (h pins s σ H Q I hw)
theorem Jt{M:Model}{A:Wx}{E:Wk->Wl->Prop}{s:Wl}{scope:Ww}{env:Env}{cl:List (Str×Wm)}{Q:Env->Wl->Prop}
 (h:Q (newEnv scope s.heap.objs.size env.globals (XF (s.heap.objs.size+1) scope.names cl) env.qual none .none (some env) Xr) {s with heap:=Yt (s.heap.push {cls := .type "dict",data := .dict #[]}) scope.names}):
 Wo M A (YR scope env.globals cl [] env.qual none .none (some env)) Q E s:=by
 simp only[YR,Vh,if_true];refine Wj (wpAny_alloc ?_);refine Wj (wpAny_layCells _ (λname kind cells=>by cases hkc:kind == NameKind.cell<;>simp[hkc]) _ _ _ _ ?_);rw[show({s with heap:=s.heap.push {cls := .type "dict",data := .dict #[]}}:Wl).heap.objs.size=s.heap.objs.size+1 from Tf ..];refine Wj ?_;rw[VZ];exact Wn (Wn h)
structure CForm(prog:Wr)(w:Wt)(A:Wx)(E tg iter:Expr)(ifs:List Expr)(emit:Wk->Env->Sem Unit)(dp:Nat:=0):Prop where
 turn:∀(it:Wk) (D:Wm) (env:Env),compTurn E dp it (.ref D) env=(do
  standAt iter.pos
  match <- pyNext it with
  | none=>pure (.done .next)
  | some v=>
    Xf tg it v
    assign tg env v
    let mut ok:=true
    for c in ifs do
     if ok then ok <- isTrue c env (eval c env)
    if ok then emit (.ref D) env
    again (.compLoop E dp it (.ref D) env))
 und:∀(it acc:Wk) (env:Env),A.under (.compLoop E dp it acc env)=A
 den:∀(it acc:Wk) (env:Env),(Wp prog w).den (.compLoop E dp it acc env)=(compTurn E dp it acc env).onRaise (λx=>do noteFrame x env;theTreesLotGoes x)
 start:∀{R:Result->Wl->Prop} {s:Wl} {it acc:Wk} {env:Env},codeAny (Wp prog w) A (.compLoop E dp it acc env) R s->Wo (Wp prog w) A (pyIter it) (λit' s'=>codeAny (Wp prog w) A (.compLoop E dp it' acc env) R s') (notedBy (Wp prog w) A env λx s'=>R (.error x) s') s->
  codeAny (Wp prog w) A (.compStart E dp it acc env) R s
theorem CForm.loop{prog:Wr}{w:Wt}{A:Wx}{E tg iter:Expr}{ifs:List Expr}{emit:Wk->Env->Sem Unit}{dp:Nat}(F:CForm prog w A E tg iter ifs emit dp){R:Result->Wl->Prop}{s:Wl}{it:Wk}{D:Wm}{env:Env}(I:Nat->Wl->Prop)
 (turn:∀ n s,I n s->Wo (Wp prog w) A (pyNext it) (λr s₁=>match r with
   | none=>R (.ok .next) s₁
   | some v=>Wo (Wp prog w) A (Xf tg it v) (λ_ s₁'=>Wo (Wp prog w) A (assign tg env v) (λ_ s₂=>
      Wo (Wp prog w) A (forIn ifs true λc r=>if r=true then do let ok <- isTrue c env (eval c env);pure (ForInStep.yield ok) else pure (ForInStep.yield r)) (λok s₃=>
       if ok=true then Wo (Wp prog w) A (emit (.ref D) env) (λ_ s₅=>∃ m,m<n/\I m s₅) (λ_ _=>False) s₃
       else ∃ m,m<n/\I m s₃) (λ_ _=>False) s₂) (λ_ _=>False) s₁') (λ_ _=>False) s₁) (λ_ _=>False) s)
 (n:Nat) (h:I n s):
 codeAny (Wp prog w) A (.compLoop E dp it (.ref D) env) R s:=by
 refine codeAny_loop rfl I (λn s hI=>?_) n h;rw[F.und,F.den];refine wpAny_noted ?_;rw[F.turn];refine Wj (Y2 (Wj (XH (turn n s hI) (λr s₁ h₁=>?_) λ_ _ h'=>False.elim h')));cases r with
 | none=>exact Wn h₁
 | some v=>
   refine Wj (XH h₁ (λ_ s₁' h₁'=>?_) λ_ _ h'=>False.elim h');refine Wj (XH h₁' (λ_ s₂ h₂=>Wj (XH h₂ (λok s₃ h₃=>?_) λ_ _ h'=>False.elim h')) λ_ _ h'=>False.elim h');cases ok with
   | false=>exact Wn ⟨rfl,h₃⟩
   | true=>exact Wj (XH h₃ (λ_ s₅ h₅=>Wn ⟨rfl,h₅⟩) λ_ _ h'=>False.elim h')
noncomputable def Ju{α:Type}(J:It)(g:TG)(tt:TT)(tem:α->St->Hp->(α->Hp->Prop)->Prop)(σ':St)(Q:Hp->Prop)(W:Nat->Nat->α->Hp->Prop):Prop:=
 ∀ i m a H,W i m a H->(J.stop i H/\Q H)\/(J.go i H/\∃ N:α->Hp->Prop,(∀ a' H',N a' H'->∃ m',m'<m/\W (i+1) m' a' H')/\∀ x H',J.yld i H x H'->g x σ' H' λσ2 H2=>tt σ2 H2 λb H3=>if b=true then tem a σ2 H3 N else N a H3)
def Nw(elt:Expr)(acc:Wk)(env:Env):Sem Unit:=do
 let x <- eval elt env
 let _ <- call (.builtin "list.append") [acc,x]
theorem GA{prog:Wr}{w:Wt}{A:Wx}{elt tg iter:Expr}{ifs:List Expr}{scope:Ww}{pos:Pos}:CForm prog w A (.ListComp elt [⟨tg,iter,ifs,0⟩] scope pos) tg iter ifs (Nw elt) where
 turn:=λ_ _ _=>compTurn_list ..
 und:=λ_ _ _=>rfl
 den:=λ_ _ _=>rfl
 start:=λh0 h=>codeAny_compStart_list h0 h
def RD(te:TE)(D:Wm)(ys:List V)(σ:St)(H:Hp)(N:List V->Hp->Prop):Prop:=te σ H λv H4=>H4 D=some (.lst ys)/\ys.length<Ws/\N (ys++[v]) (upd H4 D (.lst (ys++[v])))
section
variable{X:Cx}{pins:List (Wm×Obj)}{σ:St}{H2:Hp}{s2:Wl}{tg elt iter:Expr}{ifs:List Expr}{scope:Ww}{pos:Pos}{own cn:List Str}{js:List Nat}{g:TG}{tt:TT}{te:TE}
theorem Ed{α:Type}{E:Expr}{emit:Wk->Env->Sem Unit}{mk:Sem Wk}{o0:Obj}{u0:HO}{a0:α}{tem:Wm->α->St->Hp->(α->Hp->Prop)->Prop}(F:CForm X.prog X.w X.A E tg iter ifs emit)(hmk:∀{Q:Wk->Wl->Prop},Q (.ref s2.heap.objs.size) {s2 with heap:=s2.heap.push o0}->Wo (Wp X.prog X.w) X.A mk Q X.xe s2)(nf0:o0.isFreed=false)(new0:∀(H:Hp) (h:Heap),h.get? s2.heap.objs.size=some o0->ObjOk X.prog X.w H h s2.heap.objs.size u0)(hok:w5 X.env.scope scope own cn X.N js=true)(hc:X.calm=true)
 (hg:∀ s2 H2 cs C fp,PG (t5 X scope (own++cn) s2 H2 cs C fp) tg g) (ht:∀ s2 H2 cs C fp,Ec (t5 X scope (own++cn) s2 H2 cs C fp) ifs tt) (hem:∀ D s2 H2 cs C fp pins s σ H (a:α) (N:α->Hp->Prop),Inv (t5 X scope (own++cn) s2 H2 cs C fp) pins σ H s->tem D a σ H N->Wo (Wp X.prog X.w) X.A (emit (.ref D) (Y7 scope cs C X.env)) (λ_ s1=>∃ σ1 a1 H1,Inv (t5 X scope (own++cn) s2 H2 cs C fp) pins σ1 H1 s1/\N a1 H1) (λ_ _=>False) s)
 (I2:Inv X pins σ H2 s2) {it:Wm} {fp:List Wm} {tn:Nat->Heap->Prop} {J:It} (T:Turn X.prog X.w X.K tg J fp it tn) (st2:tn 0 s2.heap) (f2:∀ b∈fp,FpOk X pins H2 b)
 {Qe:Hp->Prop} (hW:∃ W:Nat->Nat->α->Hp->Prop,(∃ m,W 0 m a0 (upd H2 s2.heap.objs.size u0))/\Ju J g tt (tem s2.heap.objs.size) (Bc own.length js σ) Qe W)
 {RR:Wk->Wm->Result->Wl->Prop}
 (hRR:∀ C H' s',Inv X pins σ H' s'->FpOk X pins H' C->(∃ m,s'.heap.Ns C m)->Qe H'->RR (.ref s2.heap.objs.size) C (.ok .next) s'):
 Wo (Wp X.prog X.w) X.A mk (λacc s₃=>Wo (Wp X.prog X.w) X.A (YR scope X.env.globals (j0 X.env scope.names []) [] X.env.qual none .none (some X.env)) (λcenv s₄=>
  codeAny (Wp X.prog X.w) X.A (.compStart E 0 (.ref it) acc {cenv with scope:=relabel scope X.env}) (RR acc cenv.locals) s₄) X.xe s₃) X.xe s2:=by
 unfold w5 at hok;simp only[Sf,dQ,T9,Ti,TQ,decide_eq_false_iff_not]at hok;obtain⟨⟨⟨⟨⟨⟨k1,k2⟩,k3⟩,k4⟩,k5⟩,k6⟩,k7⟩:=hok
 have hfreeK:∀ x∈scope.names,x.2 = .free->X.env.kindOf x.1=some .cell\/X.env.kindOf x.1=some .free:=λx hx hf=>by
  rcases k2 x hx with(z | z) | z
  ·exact absurd hf z
  ·exact .inl z
  ·exact .inr z
 have hfree:∀ x∈scope.names,x.2 = .free->∃ c,X.env.cells.lookup x.1=some c:=λx hx hf=>I2.ok.has x.1 (hfreeK x hx hf);refine hmk (Jt ?_);have hsz3:(s2.heap.push o0).objs.size=s2.heap.objs.size+1:=Tf ..;dsimp only;generalize hh3:s2.heap.push o0=h3 at hsz3 ⊢;have old3:∀ b o,s2.heap.get? b=some o->h3.get? b=some o:=λb o e=>hh3▸Sh _ e;have hD3:h3.get? s2.heap.objs.size=some o0:=hh3▸Sr _ nf0;generalize hcs:XF (h3.objs.size+1) scope.names (j0 X.env scope.names [])=cs;generalize hh4:Yt (h3.push {cls := .type "dict",data := .dict #[]}) scope.names=h4;have old4:∀ b o,h3.get? b=some o->h4.get? b=some o:=λb o e=>hh4▸YH _ _ b o (Sh _ e);have old:∀ b o,s2.heap.get? b=some o->h4.get? b=some o:=λb o e=>old4 b o (old3 b o e);have hD4:h4.get? s2.heap.objs.size=some o0:=old4 _ _ hD3;have hNs:h4.Ns h3.objs.size (λ_=>none):=hh4▸(Heap.Ns.new h3 (.type "dict")).keeps (YH _ _);generalize hC:h3.objs.size=C at hNs hcs ⊢;have hCD:@Eq Nat C (s2.heap.objs.size+1):=by rw[<-hC];exact hsz3
 have clM:=BM (env:=X.env) scope.names [] hfree (λp hp=>absurd hp (by simp));have cellLt:∀ x c,X.env.cells.lookup x=some c->@LT.lt Nat _ c s2.heap.objs.size:=λx c e=>by obtain⟨v,z⟩:=I2.cell x c e;exact z.lt
 have apart:cs.Pairwise λx y=>x.2≠y.2:=by
  rw[<-hcs];refine AG _ _ _ (AW I2.ok.inj scope.names [] k3 hfree List.Pairwise.nil λp hp=>absurd hp (by simp)) λp hp=>?_;have:=cellLt _ _ (clM p hp);show @LT.lt Nat _ p.2 (C+1);omega
 have csM:∀ p∈cs,X.env.cells.lookup p.1=some p.2\/(C+1<=p.2/\(p.1,NameKind.cell)∈scope.names/\h4.IsCell p.2 none):=λp hp=>by
  have hp0:=hp;rw[<-hcs]at hp;rcases A8 _ _ _ p hp with z | ⟨z,y⟩
  ·exact .inl (clM p z)
  ·have e:h3.objs.size+1=(h3.push {cls := .type "dict",data := .dict #[]}).objs.size:=by rw[Tf]
   have hp':=hp;rw[<-hC,e]at hp';rcases Ab _ _ _ p hp' with q | q
   ·exact .inl (clM p q)
   ·exact .inr ⟨z,y,hh4▸q⟩
 have hX:(t5 X scope (own++cn) s2 H2 cs C fp).Ok:=by
  refine⟨I2.ok.mod,k1,I2.ok.glob,I2.ok.blt,by show @LE.le Nat _ s2.heap.objs.size C;omega,λx y c h1 h2=>Yj apart (PySem.mem_of_lookup h1) (PySem.mem_of_lookup h2),λx hx=>?_,λx c hf hx=>?_,I2.ok.hd,I2.ok.frames,.inl rfl,λb hb=>?_,I2.bs,Th I2.ok.bsz I2.sz,λb o e hb=>?_,λb hb hf=>?_,I2.stack,I2.stkFree⟩
  ·have hx':(relabel scope X.env).names.lookup x=some .cell\/(relabel scope X.env).names.lookup x=some .free:=hx
   have hl:scope.names.lookup x=some .cell\/scope.names.lookup x=some .free:=by
    unfold relabel at hx';dsimp only at hx';rw[AM]at hx';cases e:scope.names.lookup x with
    | none=>rw[e]at hx';simp at hx'
    | some k=>
      rw[e]at hx';cases k<;>simp_all
   have:∃ c,(x,c)∈cs:=by
    rw[<-hcs];rcases hl with hl | hl
    ·exact Aa _ _ _ x (PySem.mem_of_lookup hl)
    ·obtain⟨c,hc'⟩:=Ai (env:=X.env) scope.names [] x (PySem.mem_of_lookup hl);exact⟨c,A9 _ _ _ _ hc'⟩
   obtain⟨c,hm⟩:=this;exact AA hm
  ·have hf':scope.names.lookup x=some .cell:=by simpa using hf
   have hm:=PySem.mem_of_lookup (show cs.lookup x=some c from hx);rcases csM _ hm with z | ⟨z,_⟩
   ·
    rw[<-hcs]at hm;rcases A8 _ _ _ _ hm with q | ⟨q,_⟩
    ·rcases B7 (env:=X.env) scope.names [] _ q with q' | q'
     ·exact absurd q' (by simp)
     ·have:=m8 k3 q';have h2:scope.names.lookup x=some .free:=this;rw[hf']at h2;cases h2
    ·show @LE.le Nat _ s2.heap.objs.size c;have q2:@LE.le Nat _ (C+1) c:=q;omega
   ·show @LE.le Nat _ s2.heap.objs.size c;have z2:@LE.le Nat _ (C+1) c:=z;omega
  ·obtain⟨f0,f1,f2',f3,f4,f5⟩:=f2 b hb;obtain⟨o,ho,_⟩:=T.obj 0 _ st2 b hb;have hb2:@LT.lt Nat _ b s2.heap.objs.size:=Sj ho;refine⟨?_,λx c e=>?_⟩
   ·show @Ne Nat b C;omega
   ·rcases csM _ (PySem.mem_of_lookup (show cs.lookup x=some c from e)) with z | ⟨z,_⟩
    ·exact f4 x c z
    ·have z2:@LE.le Nat _ (C+1) c:=z;show @Ne Nat c b;omega
  ·obtain⟨f0,f1,f2',f3,f4,f5⟩:=f2 b hb;rcases f3 with z | z
   ·exact I2.ok.noex b o e z
   ·exact absurd (TV (Sj e) (Th I2.ok.bsz z)) (UQ _)
  ·obtain⟨f0,f1,f2',_⟩:=f2 b hb;rcases T7.mp (I2.stkSub b hf) with z | z
   ·exact f1 z
   ·exact f2' z
 have capt:∀{H:Hp} {s:Wl},Inv X pins σ H s->∀{i:Nat} {x:Str} {v:V},(own++cn)[i]?=some x->(Bc own.length js σ)[i]?=some (some v)->∃ u,RelV v u/\((Y7 scope cs C X.env).kindOf x=some .cell\/(Y7 scope cs C X.env).kindOf x=some .free)/\∃ c,cs.lookup x=some c/\s.heap.IsCell c (some u):=λ{H s} IX {i x v} e1 e2=>by
  have hi:own.length<=i:=by
   rcases Vp i own.length with z | z
   ·exfalso;unfold Bc at e2;rw[TC (by simpa using z),Ua,iP z]at e2;cases e2
   ·exact z
  have e1':cn[i - own.length]?=some x:=by
   have:(own++cn)[i]?=some x:=e1;rw[Td hi]at this;exact this
  have e2':(js.map λj=>(σ[j]?).join)[i - own.length]?=some (some v):=by
   unfold Bc at e2;rw[Td (by simpa using hi)]at e2;simpa using e2
  rw[Sm]at e2';cases hj:js[i - own.length]? with
  | none=>rw[hj]at e2';cases e2'
  | some j=>
    rw[hj]at e2';have e2'':(σ[j]?).join=some v:=by simpa using e2'
    have hσ:σ[j]?=some (some v):=by
     cases q:σ[j]? with
     | none=>rw[q]at e2'';cases e2''
     | some z=>rw[q]at e2'';simp at e2'';rw[e2'']
    have hNx:X.N[j]?=some x:=by
     have:=congrArg (λl=>l[i - own.length]?) k7;simp only[Sm,hj,e1',UN]at this;exact oj this
    have hfx:scope.names.lookup x=some .free:=k5 x (Ss e1');have hK:=hfreeK (x,.free) (PySem.mem_of_lookup hfx) rfl;have hK':X.env.kindOf x=some .cell\/X.env.kindOf x=some .free:=hK;obtain⟨m,hn,hl⟩:=IX.loc
    have hvis:Vis X.env.scope x:=by
     rcases hK' with z | z
     ·exact .inr (.inl z)
     ·exact .inr (.inr z)
    obtain⟨u,r,l⟩:=hl j x v hNx hσ hvis;rcases l with⟨l1,_⟩ | ⟨l1,c,l2,l3⟩
    ·rcases hK' with z | z
     ·rw[z]at l1;cases l1
     ·rw[z]at l1;cases l1
    ·have hrl:(Y7 scope cs C X.env).kindOf x=some .cell\/(Y7 scope cs C X.env).kindOf x=some .free:=by
      show(relabel scope X.env).names.lookup x=_\/(relabel scope X.env).names.lookup x=_;unfold relabel;dsimp only;rw[AM,hfx];simp only[UN];split
      ·exact .inl rfl
      ·exact .inr rfl
     refine⟨u,r,hrl,c,?_,l3⟩;obtain⟨c',hc'⟩:=hX.has x hrl;have hc2:cs.lookup x=some c':=hc';rw[hc2];have hm:=PySem.mem_of_lookup hc2
     have:X.env.cells.lookup x=some c':=by
      rcases csM _ hm with z | ⟨_,z,_⟩
      ·exact z
      ·have:=m8 k3 z;have h2:scope.names.lookup x=some .cell:=this;rw[hfx]at h2;cases h2
     rw[l2]at this;exact this.symm
 have hDn:H2 s2.heap.objs.size=none:=I2.fresh;have hCn:H2 C=none:=I2.hok.fresh (show @LE.le Nat _ s2.heap.objs.size C by omega)
 have stkNe:∀ b,b≠X.env.locals->b∉X.fs->b∉frs X.stack:=λb h1 h2 hb=>by
  rcases T7.mp (I2.stkSub b hb) with z | z
  ·exact h1 z
  ·exact h2 z
 have I4:Inv (t5 X scope (own++cn) s2 H2 cs C fp) pins (Bc own.length js σ) (upd H2 s2.heap.objs.size u0) {s2 with heap:=h4}:=by
  refine⟨hX,rfl,I2.bare,Un.laid old (Sw _) hDn,⟨λ_=>none,hNs,λi x v e1 e2 e3=>?_⟩,λx c e=>?_,?_,λx c e=>?_,λp hp=>?_,I2.hok.laid old (Sw _) (new0 _ _ hD4),?_⟩
  ·obtain⟨u,r,hr,c,l2,l3⟩:=capt I2 e1 e2;exact⟨u,r,.inr ⟨hr,c,l2,l3.keeps λb o e=>old b o e⟩⟩
  ·rcases csM _ (PySem.mem_of_lookup (show cs.lookup x=some c from e)) with z | ⟨_,_,z⟩
   ·obtain⟨v,q⟩:=I2.cell _ _ z;exact⟨v,q.keeps λb o e=>old b o e⟩
   ·exact⟨none,z⟩
  ·show upd H2 s2.heap.objs.size u0 C=none;rw[f6 (show @Ne Nat C s2.heap.objs.size by omega)];exact hCn
  ·have hne:c≠s2.heap.objs.size/\H2 c=none:=by
    rcases csM _ (PySem.mem_of_lookup (show cs.lookup x=some c from e)) with z | ⟨z,_,_⟩
    ·exact⟨Sx (cellLt _ _ z),I2.freeC _ _ z⟩
    ·have z2:@LE.le Nat _ (C+1) c:=z;exact⟨show @Ne Nat c s2.heap.objs.size by omega,I2.hok.fresh (show @LE.le Nat _ s2.heap.objs.size c by omega)⟩
   rw[f6 hne.1];exact hne.2
  ·obtain⟨e,n,ne,nf,d⟩:=I2.pin p hp;have hlt:@LT.lt Nat _ p.1 s2.heap.objs.size:=Sj e;refine⟨old _ _ e,?_,?_,stkNe _ ne nf,d⟩
   ·rw[f6 (Sx hlt)];exact n
   ·show @Ne Nat p.1 C;omega
  ·show(Bc own.length js σ).length=(own++cn).length;unfold Bc;have hl:=congrArg Uu k7;simp only[Se]at hl;simp[hl]
 have stat:∀{H':Hp},(∀ b∈fp,H' b=none)->∀ b∈fp,FpOk (t5 X scope (own++cn) s2 H2 cs C fp) pins H' b:=λhn b hb=>by
  obtain⟨f0,f1,f2',f3,f4,f5⟩:=f2 b hb;exact⟨hn b hb,(hX.exf b hb).1,stkNe b f1 f2',.inl hb,λx c e=>(hX.exf b hb).2 x c e,f5⟩
 have back:∀{σ':St} {H':Hp} {s':Wl},Inv (t5 X scope (own++cn) s2 H2 cs C fp) pins σ' H' s'->Inv X pins σ H' s':=λ{σ' H' s'} J'=>
  I2.call' (ch:=fp) J'.os J'.base J'.hok J'.bare λb hb=>by
   obtain⟨f0,f1,f2',f3,f4,f5⟩:=f2 b hb;exact⟨f3,f1,f4,f5⟩
 obtain⟨W,⟨m0,w0⟩,turn⟩:=hW
 have loop:codeAny (Wp X.prog X.w) X.A (.compLoop E 0 (.ref it) (.ref s2.heap.objs.size) (Y7 scope cs C X.env)) (RR (.ref s2.heap.objs.size) C) {s2 with heap:=h4}:=by
  refine F.loop (λn s'=>∃ i ys H',Inv (t5 X scope (own++cn) s2 H2 cs C fp) pins (Bc own.length js σ) H' s'/\tn i s'.heap/\(∀ b∈fp,H' b=none)/\W i n ys H') ?_ m0
   ⟨0,a0,_,I4,T.keep _ _ _ st2 λb hb o e=>old b o e,λb hb=>?_,w0⟩
  ·rintro n s3 ⟨i,ys,H3,I3,st3,fr3,w3⟩;rcases turn i n ys H3 w3 with⟨stop,q⟩ | ⟨go,N,hN,step⟩
   ·refine thn (T.done (t5 X scope (own++cn) s2 H2 cs C fp) rfl rfl rfl hc i pins s3 _ H3 _ I3 (stat fr3) st3 stop) λr s4 ⟨hr,I5⟩=>?_;subst hr;obtain⟨m,hn,_⟩:=I5.loc;exact hRR C H3 s4 (back I5) (I2.fpOk (show @LE.le Nat _ s2.heap.objs.size C by omega) I5.free) ⟨m,hn⟩ q
   ·refine thn (T.item (t5 X scope (own++cn) s2 H2 cs C fp) rfl rfl rfl hc i pins s3 _ H3 _ I3 (stat fr3) st3 go) λr s4 ⟨u,hr,h4'⟩=>?_;subst hr;refine thn h4' λ_ s5 ⟨x,H5,I5,r5,y5,st5,fr5⟩=>?_;have I5':=I5.pinned (stat fr5) (T.obj _ _ st5);refine thn (hg s2 H2 cs C fp _ s5 _ H5 x u _ I5' r5 (step x H5 y5)) λ_ s6 ⟨σ6,H6,I6,q6⟩=>?_;refine thn (ht s2 H2 cs C fp _ s6 σ6 H6 _ I6 q6) λb s7 ⟨H7,I7,q7⟩=>?_
    have again:∀{σ8:St} {H8:Hp} {s8:Wl} {ys8:α},Inv (t5 X scope (own++cn) s2 H2 cs C fp) (pins++Bb fp s5.heap) σ8 H8 s8->(∀(j:Nat) v,(Bc own.length js σ)[j]?=some (some v)->σ8[j]?=some (some v))->(∃ m',m'<n/\W (i+1) m' ys8 H8)->
     ∃ m,m<n/\∃ i ys H',Inv (t5 X scope (own++cn) s2 H2 cs C fp) pins (Bc own.length js σ) H' s8/\tn i s8.heap/\(∀ b∈fp,H' b=none)/\W i m ys H':=λ{σ8 H8 s8 ys8} I8 hw8 ⟨m',hm,w8⟩=>by
     refine⟨m',hm,i+1,ys8,H8,I8.unpinned.weak (by rw[I8.len,I4.len]) hw8,T.keep _ _ _ st5 λb hb o e=>(I8.pin (b,o) (TF _ (TF _ (Aw hb e)))).1,λb hb=>?_,w8⟩;obtain⟨o,e,d⟩:=T.obj _ _ st5 b hb;exact(I8.pin (b,o) (TF _ (TF _ (Aw hb e)))).2.1
    have capK:∀{σ8:St} {H8:Hp} {s8:Wl},Inv (t5 X scope (own++cn) s2 H2 cs C fp) (pins++Bb fp s5.heap) σ8 H8 s8->Inv (t5 X scope (own++cn) s2 H2 cs C fp) (pins++Bb fp s5.heap) (Bc own.length js σ) H8 s8:=λ{σ8 H8 s8} I8=>by
     have IX:=back I8.unpinned;refine⟨I8.ok,I8.os,I8.bare,I8.base,?_,I8.cell,I8.free,I8.freeC,I8.pin,I8.hok,I4.len⟩;obtain⟨m,hn,_⟩:=I8.loc;refine⟨m,hn,λi x v e1 e2 e3=>?_⟩;obtain⟨u,r,z⟩:=capt IX e1 e2;exact⟨u,r,.inr z⟩
    cases b with
    | false=>
      rw[iG Su];rw[iG Su]at q7;exact again (capK I7) (λ_ _ e=>e) (hN _ _ q7)
    | true=>
      rw[iP rfl];rw[iP rfl]at q7;exact thn (hem _ s2 H2 cs C fp _ s7 σ6 H7 _ _ I7 q7) λ_ s9 ⟨σ9,a9,H9,I9,q9⟩=>again (capK I9) (λ_ _ e=>e) (hN _ _ q9)
  ·obtain⟨f0,_⟩:=f2 b hb;obtain⟨o,ho,_⟩:=T.obj 0 _ st2 b hb;rw[f6 (Sx (Sj ho))];exact f0
 exact F.start loop (T.self _ 0 _ _ _ (T.keep _ _ _ st2 λb hb o e=>old b o e) loop)
end
end L2
namespace PySem
open AutoSeq1 (wpAny_loadPart')
section
variable{prog:Wr}{w:Wt}{A:Wx}{E:Wk->Wl->Prop}{s:Wl}
theorem B5{it l:Wm}{i:Nat}{items}{x:Wk}{Q:Wk->Wl->Prop}(hit:s.heap.IsTupleIter it l i)
 (hl:s.heap.IsTuple l items) (hx:items[i]?=some x)
 (hQ:∀ h',h'.IsTupleIter it l (i+1)->Tc it s.heap h'->Q x {s with heap:=h'}):
 Wo (Wp prog w) A (Builtin.SmallTypes.nextOf (.ref it)) Q E s:=by
 obtain⟨o,ho,hc,hd⟩:=id hit;obtain⟨ol,hol,_,nl,hdl⟩:=hl;unfold Builtin.SmallTypes.nextOf
 refine Wj (X8 (name:=Str.ofString "__next__") hit.typeIs F.slot_tuple_iterator_next
  (X5 F.slot_tuple_iterator_next hit.typeIs F.entry_tuple_iterator_next ?_ (F.args_tuple_iterator_next_1 _)))
 show Wo _ _ (field (.ref it) 0 >>= _) _ _ s;refine Wj (XD ho hd (x := .ref l) rfl ?_);show Wo _ _ (if (Value.ref l == Value.none)=true then _ else _) _ _ s;rw[iG (show ¬ ((Value.ref l == Value.none)=true) from Su)];show Wo _ _ (field (.ref it) 1 >>= _) _ _ s;refine Wj (XD ho hd (x := .int i 0) rfl ?_);show Wo _ _ (ZF (.ref l) >>= _) _ _ s;refine Wj (XE hol hdl ?_);simp only[VB,hx];refine Wj (XN ho hd (by simp) (Wn ⟨x,rfl,Wn (hQ _ ?_ (Tc.update ..))⟩))
 exact⟨_,Tq _ ho (Obj.isFreed_of_fields (Obj.data_mapFields hd _)),(Obj.cls_mapFields ..).trans hc,by
  rw[Obj.data_mapFields hd];simp[rawInt]⟩
theorem B8{it l:Wm}{i:Nat}{items}{Q:Wk->Wl->Prop}(hh:A.handled=none)
 (hit:s.heap.IsTupleIter it l i) (hl:s.heap.IsTuple l items) (hx:items[i]?=none)
 (hE:∀ h' e,WG it s.heap h'->(∃ o,h'.get? e=some o/\o.cls = .type "StopIteration")->E (.ref e) {s with heap:=h'}):
 Wo (Wp prog w) A (Builtin.SmallTypes.nextOf (.ref it)) Q E s:=by
 obtain⟨o,ho,hc,hd⟩:=id hit;obtain⟨ol,hol,_,nl,hdl⟩:=hl;unfold Builtin.SmallTypes.nextOf
 refine Wj (X8 (name:=Str.ofString "__next__") hit.typeIs F.slot_tuple_iterator_next
  (X5 F.slot_tuple_iterator_next hit.typeIs F.entry_tuple_iterator_next ?_ (F.args_tuple_iterator_next_1 _)))
 show Wo _ _ (field (.ref it) 0 >>= _) _ _ s;refine Wj (XD ho hd (x := .ref l) rfl ?_);show Wo _ _ (if (Value.ref l == Value.none)=true then _ else _) _ _ s;rw[iG (show ¬ ((Value.ref l == Value.none)=true) from Su)];show Wo _ _ (field (.ref it) 1 >>= _) _ _ s;refine Wj (XD ho hd (x := .int i 0) rfl ?_);show Wo _ _ (ZF (.ref l) >>= _) _ _ s;refine Wj (XE hol hdl ?_);simp only[VB,hx];refine Wj (XZ (Wj (XN ho hd (by simp) ?_)))
 first
  | refine Wj (YS ?_)
  | skip
 show Wo _ _ (newExc (.type "StopIteration") [] >>= _) _ _ _;refine Wj ?_;simp only[newExc,newTuple];refine Wj (XG ?_ (by size_fits));refine Wj (m:=Xs _ _) (Yx (a:=Value.none) (by first | rfl | (simp only[Xs];rfl)) ?_);refine XG ?_ (by size_fits);simp only[raiseNew];refine Wj (wpAny_handled ?_)
 first | rw[show A.in1.handled=none from hh] | rw[hh]
 refine Wj (Wn (wpAny_throw ?_));exact hE _ _ (((Tc.update ..).extBut.push _).push _) ⟨_,Sr _ rfl,rfl⟩
end
theorem p3{prog:Wr}{w:Wt}{A:Wx}(hh:A.handled=none)(it l:Wm)(hne:l≠it)(items:Array Wk):
 Draws prog w A it [it,l] items.size (λi v=>items[i]?=some v) (λi h=>h.IsTupleIter it l i/\h.IsTuple l items) where
 live:=λ_ _ st=>let ⟨o,ho,_⟩:=st.1;⟨o,ho⟩
 frame:=λ_ _ _ st hk=>⟨st.1.at λo e=>hk it (by simp) o e,let ⟨o,ho,r⟩:=st.2;⟨o,hk l (by simp) o ho,r⟩⟩
 item:=λi s Q E hi st hQ=>by
  refine B5 st.1 st.2 (x:=items[i]) (by simp[hi]) λh' hit' hs'=>?_;exact hQ _ h' s.toks (by simp[hi]) ⟨hit',st.2.extBut hs'.extBut hne⟩ hs'
 done:=λs Q E st hE=>B8 hh st.1 st.2 (by simp) hE
theorem Bd(l:Wm)(items:Array Wk)(n:Nat)(dct:Option Wm)(sl:Array (Option Wk)):
 Meets (Builtin.«enumerate.__new__» ⟨[.type "enumerate",.ref l],[]⟩) (λ_ R s=>s.heap.get? l=some {cls := .type "tuple",dict:=dct,data := .seq items n,slots:=sl}/\
  R (.ok (.ret (.ref (s.heap.push {cls := .type "tuple_iterator",data := .fields #[.ref l,.int 0 0]}).objs.size)))
   {s with heap:=(s.heap.push {cls := .type "tuple_iterator",data := .fields #[.ref l,.int 0 0]}).push {cls := .type "enumerate",data := .fields #[.none,.bool false,.ref s.heap.objs.size,rawInt 0,.none,.none]}}):=
 .of_wp λprog w A R s h=>by
  obtain⟨hp,g,d,tk,os⟩:=s;obtain⟨hl,h⟩:=h;have hsub:=sub_enumerate;have hL:Vq (Shared.heap ⟨hp,g,d,tk,os⟩) l items:=⟨_,hl,rfl,n,rfl⟩
  wp_walk using wpAny_loadPart' hl
  refine wpAny_stack_any λst=>Wn ?_;split
  ·rename_i c _ _ _ _ _;cases(c == Value.type "enumerate")
   ·wp_walk using wpAny_loadPart' hl,XB hL
    exact⟨_,rfl,h⟩
   ·wp_walk using wpAny_loadPart' hl,XB hL
    exact⟨_,rfl,h⟩
  ·wp_walk using wpAny_loadPart' hl,XB hL
   exact⟨_,rfl,h⟩
section
variable{prog:Wr}{w:Wt}{A:Wx}{E:Wk->Wl->Prop}{s:Wl}
theorem Ac{l:Wm}{items:Array Wk}{Q:Wk->Wl->Prop}(hL:s.heap.IsTuple l items)
 (h:∀ h',IsEnum h' (s.heap.objs.size+1) s.heap.objs.size 0 .none->h'.IsTupleIter s.heap.objs.size l 0->h'.objs.size=s.heap.objs.size+2->
   (∀ b o,s.heap.get? b=some o->h'.get? b=some o)->Q (.ref (s.heap.objs.size+1)) {s with heap:=h'}):
 Wo (Wp prog w) A (call (.type "enumerate") [.ref l]) Q E s:=by
 obtain⟨⟨c,dct,dt,sl⟩,hl,hc,n,hd⟩:=hL;replace hc:c = .type "tuple":=hc;replace hd:dt = .seq items n:=hd;subst hc hd
 refine callType_new F.called_enumerate (by decide) (F.typeCall_enumerate_1 _) (F.newCall_enumerate_1 _) (λobj=>F.args_object_init_2 obj _) F.entry_enumerate_new
  (Bd l items n dct sl) ⟨hl,?_⟩
 have hz:(s.heap.push {cls := .type "tuple_iterator",data := .fields #[.ref l,.int 0 0]}).objs.size=s.heap.objs.size+1:=Tf ..;show _/\_;rw[hz]
 have he:IsEnum ((s.heap.push {cls := .type "tuple_iterator",data := .fields #[.ref l,.int 0 0]}).push
  {cls := .type "enumerate",data := .fields #[.none,.bool false,.ref s.heap.objs.size,rawInt 0,.none,.none]}) (s.heap.objs.size+1) s.heap.objs.size 0 .none:=by
  have:=Sr (s.heap.push {cls := .type "tuple_iterator",data := .fields #[.ref l,.int 0 0]})
   (o:={cls := .type "enumerate",data := .fields #[.none,.bool false,.ref s.heap.objs.size,rawInt 0,.none,.none]}) rfl
  rw[hz]at this;exact this
 refine⟨⟨_,he,rfl⟩,h _ he ⟨_,Sh _ (Sr _ rfl),rfl,rfl⟩ (by rw[Tf,hz]) λb o x=>Sh _ (Sh _ x)⟩
end
end PySem
namespace L2
open PySem PySem.Spec PyProof.Rows
section
variable{X:Cx}{pins:List (Wm×Obj)}{σ:St}{H:Hp}{s:Wl}{h':Heap}
theorem Inv.turnedL{t':Nat}{ch:List Wm}(I:Inv X pins σ H s)(k:∀ b o,b∉ch->s.heap.get? b=some o->h'.get? b=some o)(hf:∀ b∈ch,FpOk X pins H b):Inv X pins σ H {s with heap:=h',toks:=t'}:=by
 have nit:∀ b u,H b=some u->b∉ch:=λb u e z=>by rw[(hf b z).1]at e;cases e
 refine I.step (g':=s.gens) (d':=s.drawn) (ch:=ch) (λb hb=>?_) (λb o _ _ hc e _=>k b o hc e) (λb o _ _ hc e _=>⟨o.slots,k b o hc e⟩) (λ_ _ _ _ n=>n)
  (λb o hc e=>⟨o,k b o hc e⟩) (λ_ _ e=>e) (λ_ _ _ e=>e) (λb ps e=>⟨#[],by rw[e];simp⟩) (λm hm=>?_) (λb u e=>?_) I.bare
 ·obtain⟨f0,f1,f2,f3,f4,f5⟩:=hf b hb;exact⟨f3,f1,f4,f5⟩
 ·obtain⟨o,es,ep,ho,r⟩:=hm;exact⟨o,es,ep,k _ o (λz=>(hf _ z).2.1 rfl) ho,r⟩
 ·refine(I.hok b u e).stay (λc v hc q=>k c v ?_ q) (λ_ q=>q) λ_ _ q=>q;rcases hc with z | z
  ·rw[z];exact nit b u e
  ·exact nit c _ z
theorem Inv.turnLay{t':Nat}{ch:List Wm}{o:HO}(I:Inv X pins σ H s)(k:∀ b u,b∉ch->s.heap.get? b=some u->h'.get? b=some u)(hf:∀ b∈ch,FpOk X pins H b)
 (new:ObjOk X.prog X.w (upd H s.heap.objs.size o) h' s.heap.objs.size o):Inv X pins σ (upd H s.heap.objs.size o) {s with heap:=h',toks:=t'}:=by
 have hT:H s.heap.objs.size=none:=I.fresh;have nit:∀ b u,H b=some u->b∉ch:=λb u e z=>by rw[(hf b z).1]at e;cases e
 have lt:∀ b u,s.heap.get? b=some u->b≠s.heap.objs.size:=λb u e=>Sx (Sj e)
 refine I.step (g':=s.gens) (d':=s.drawn) (ch:=ch) (λb hb=>?_) (λb o _ _ hc e _=>k b o hc e) (λb o _ _ hc e _=>⟨o.slots,k b o hc e⟩) (λb u _ e n=>by rw[f6 (lt b u e)];exact n)
  (λb o hc e=>⟨o,k b o hc e⟩) (λb xs e=>by rw[f6 (f7 e hT)];exact e) (λb u xs e=>by rw[f6 (f7 e hT)];exact e) (λb ps e=>⟨#[],by rw[f6 (f7 e hT),e];simp⟩) (λm hm=>?_) (λb u e=>?_) I.bare
 ·obtain⟨f0,f1,f2,f3,f4,f5⟩:=hf b hb;exact⟨f3,f1,f4,f5⟩
 ·obtain⟨o,es,ep,ho,r⟩:=hm;exact⟨o,es,ep,k _ o (λz=>(hf _ z).2.1 rfl) ho,r⟩
 ·by_cases hb:b=s.heap.objs.size
  ·subst hb;rw[i8]at e;cases e;exact new
  ·rw[f6 hb]at e;refine(I.hok b u e).stay (λc v hc q=>k c v ?_ q) (λc q=>by rw[f6 (f7 q hT)];exact q) λc xs q=>by rw[f6 (f7 q hT)];exact q
   rcases hc with z | z
   ·rw[z];exact nit b u e
   ·exact nit c _ z
end
def PD(K:Sd)(a:Wm):It:=
 ⟨λi H=>∃ xs x,SqL K H a xs/\xs[i]?=some x,λi H x H'=>∃ p v,H p=none/\x = .ref p/\(∀ xs,SqL K H a xs->xs[i]?=some v)/\H'=upd H p (.tup [.int i,v]),λi H=>∃ xs,SqL K H a xs/\xs.length=i⟩
def PF(K:Sd)(a:Wm):It:=
 ⟨λi H=>∃ xs x,SqT K H a xs/\xs[i]?=some x,λi H x H'=>∃ p v,H p=none/\x = .ref p/\(∀ xs,SqT K H a xs->xs[i]?=some v)/\H'=upd H p (.tup [.int i,v]),λi H=>∃ xs,SqT K H a xs/\xs.length=i⟩
theorem E1:2<=Ws:=by decide
theorem GB{P:Wr}{w:Wt}{K:Sd}{elts:List Expr}{kx:Nat}{tp:Pos}(a e it:Wm)(hei:e≠it)(hae:a≠e)(hai:a≠it):Turn P w K (.Tuple elts kx tp) (PD K a) [e,it] e (λi h=>(∃ old,IsEnum h e it i old)/\h.IsListIter it a i) where
 mem:=by simp
 obj:=λi h st b hb=>by
  rcases T7.mp hb with rfl | hb
  ·obtain⟨⟨old,z⟩,_⟩:=st;exact⟨_,z,λv q=>by cases q⟩
  ·have e':b=it:=by simpa using hb
   subst e';obtain⟨o,q,c,d⟩:=st.2;exact⟨o,q,λv z=>by rw[d]at z;cases z⟩
 keep:=λi h h' st k=>⟨let ⟨old,z⟩:=st.1;⟨old,k e (by simp) _ z⟩,st.2.at λo q=>k it (by simp) o q⟩
 item:=by
  intro X hP hw hK hc i pins s σ H E I hf st hg;subst hP hw hK;obtain⟨xs,x,hq,hx⟩:=hg;obtain⟨its,rv,p,hz⟩:=I.list hq;obtain⟨u,hu,ru⟩:=rv.get hx;obtain⟨⟨old,he⟩,hli⟩:=st
  have hil:i<its.toArray.size:=by
   have:=(gM hu).1;simpa using this
  refine Y8 (Draws.list (prog:=X.prog) (w:=X.w) (A:=X.A.in1) (show X.A.in1.handled=none from I.ok.hd hc) it a hai its.toArray) he ⟨hli,p.isList⟩ hil hei (by simp[hei,Ne.symm hae]) λy h' tk hy ho hs' hT hsz hk=>?_
  have hyu:y=u:=by
   have:its.toArray[i]?=some u:=by simpa using hu
   rw[this]at hy;exact(oj hy).symm
  subst hyu;refine⟨_,rfl,?_⟩
  have I1:Inv X pins σ (upd H s.heap.objs.size (.tup [.int i,x])) {s with heap:=h',toks:=tk+1}:=
   I.turnLay (ch:=[e,it]) (λb o hb q=>hk b o (λz=>hb (by simp[z])) (λz=>hb (by simp[z])) q) hf ⟨E1,[.int i tk,y],.cons ⟨tk,rfl⟩ (.cons ru .nil),⟨_,hT,rfl,_,rfl⟩⟩
  refine Xt ho λh2 he2 hs2=>?_
  have hfp1:∀ b∈[e,it],FpOk X pins (upd H s.heap.objs.size (.tup [.int i,x])) b:=λb hb=>by
   obtain⟨f0,f1⟩:=hf b hb
   have hbl:b≠s.heap.objs.size:=by
    rcases T7.mp hb with rfl | hb
    ·exact Sx (Sj he)
    ·have e':b=it:=by simpa using hb
     subst e';obtain⟨o,q,_⟩:=hli;exact Sx (Sj q)
   exact⟨by rw[f6 hbl];exact f0,f1⟩
  have I2:Inv X pins σ (upd H s.heap.objs.size (.tup [.int i,x])) {s with heap:=h2,toks:=tk+1}:=
   Inv.turnedL (s:={s with heap:=h',toks:=tk+1}) (t':=tk+1) (ch:=[e,it]) I1 (λb o hb q=>(hs2.2 b (λz=>hb (by simp[z]))).trans q) hfp1
  refine⟨.ref s.heap.objs.size,_,I2,rfl,⟨_,x,I.fresh,rfl,λys hy=>by rw[I.list_inj hy hq];exact hx,rfl⟩,⟨⟨y,by simpa using he2⟩,hs'.1.extBut hs2.extBut (Ne.symm hei)⟩,λb hb=>(hfp1 b hb).1⟩
 done:=by
   intro X hP hw hK hc i pins s σ H E I hf st hg;subst hP hw hK;obtain⟨xs,hq,hx⟩:=hg;obtain⟨its,rv,p,hz⟩:=I.list hq;obtain⟨⟨old,he⟩,hli⟩:=st;have hl:=rv.length;have hn:its.toArray.size=i:=by simp;omega
   refine YE (Draws.list (prog:=X.prog) (w:=X.w) (A:=X.A.in1) (show X.A.in1.handled=none from I.ok.hd hc) it a hai its.toArray) he (by rw[hn];exact⟨hli,p.isList⟩) λh' eb=>⟨rfl,I.turnedL (t':=s.toks) (ch:=[e,it]) (λb o hb q=>eb b o (λz=>hb (by simp[z])) q) hf⟩
 self:=λ_ _ _ _ _ st h=>let ⟨old,z⟩:=st.1;Xi z h
theorem GC{P:Wr}{w:Wt}{K:Sd}{elts:List Expr}{kx:Nat}{tp:Pos}(a e it:Wm)(hei:e≠it)(hae:a≠e)(hai:a≠it):Turn P w K (.Tuple elts kx tp) (PF K a) [e,it] e (λi h=>(∃ old,IsEnum h e it i old)/\h.IsTupleIter it a i) where
 mem:=by simp
 obj:=λi h st b hb=>by
  rcases T7.mp hb with rfl | hb
  ·obtain⟨⟨old,z⟩,_⟩:=st;exact⟨_,z,λv q=>by cases q⟩
  ·have e':b=it:=by simpa using hb
   subst e';obtain⟨o,q,c,d⟩:=st.2;exact⟨o,q,λv z=>by rw[d]at z;cases z⟩
 keep:=λi h h' st k=>⟨let ⟨old,z⟩:=st.1;⟨old,k e (by simp) _ z⟩,st.2.at λo q=>k it (by simp) o q⟩
 item:=by
  intro X hP hw hK hc i pins s σ H E I hf st hg;subst hP hw hK;obtain⟨xs,x,hq,hx⟩:=hg;obtain⟨its,rv,p,hz⟩:=I.tuple hq;obtain⟨u,hu,ru⟩:=rv.get hx;obtain⟨⟨old,he⟩,hli⟩:=st
  have hil:i<its.toArray.size:=by
   have:=(gM hu).1;simpa using this
  refine Y8 (p3 (prog:=X.prog) (w:=X.w) (A:=X.A.in1) (show X.A.in1.handled=none from I.ok.hd hc) it a hai its.toArray) he ⟨hli,p⟩ hil hei (by simp[hei,Ne.symm hae]) λy h' tk hy ho hs' hT hsz hk=>?_
  have hyu:y=u:=by
   have:its.toArray[i]?=some u:=by simpa using hu
   rw[this]at hy;exact(oj hy).symm
  subst hyu;refine⟨_,rfl,?_⟩
  have I1:Inv X pins σ (upd H s.heap.objs.size (.tup [.int i,x])) {s with heap:=h',toks:=tk+1}:=
   I.turnLay (ch:=[e,it]) (λb o hb q=>hk b o (λz=>hb (by simp[z])) (λz=>hb (by simp[z])) q) hf ⟨E1,[.int i tk,y],.cons ⟨tk,rfl⟩ (.cons ru .nil),⟨_,hT,rfl,_,rfl⟩⟩
  refine Xt ho λh2 he2 hs2=>?_
  have hfp1:∀ b∈[e,it],FpOk X pins (upd H s.heap.objs.size (.tup [.int i,x])) b:=λb hb=>by
   obtain⟨f0,f1⟩:=hf b hb
   have hbl:b≠s.heap.objs.size:=by
    rcases T7.mp hb with rfl | hb
    ·exact Sx (Sj he)
    ·have e':b=it:=by simpa using hb
     subst e';obtain⟨o,q,_⟩:=hli;exact Sx (Sj q)
   exact⟨by rw[f6 hbl];exact f0,f1⟩
  have I2:Inv X pins σ (upd H s.heap.objs.size (.tup [.int i,x])) {s with heap:=h2,toks:=tk+1}:=
   Inv.turnedL (s:={s with heap:=h',toks:=tk+1}) (t':=tk+1) (ch:=[e,it]) I1 (λb o hb q=>(hs2.2 b (λz=>hb (by simp[z]))).trans q) hfp1
  refine⟨.ref s.heap.objs.size,_,I2,rfl,⟨_,x,I.fresh,rfl,λys hy=>by rw[I.tuple_inj hy hq];exact hx,rfl⟩,⟨⟨y,by simpa using he2⟩,hs'.1.extBut hs2.extBut (Ne.symm hei)⟩,λb hb=>(hfp1 b hb).1⟩
 done:=by
   intro X hP hw hK hc i pins s σ H E I hf st hg;subst hP hw hK;obtain⟨xs,hq,hx⟩:=hg;obtain⟨its,rv,p,hz⟩:=I.tuple hq;obtain⟨⟨old,he⟩,hli⟩:=st;have hl:=rv.length;have hn:its.toArray.size=i:=by simp;omega
   refine YE (p3 (prog:=X.prog) (w:=X.w) (A:=X.A.in1) (show X.A.in1.handled=none from I.ok.hd hc) it a hai its.toArray) he (by rw[hn];exact⟨hli,p⟩) λh' eb=>⟨rfl,I.turnedL (t':=s.toks) (ch:=[e,it]) (λb o hb q=>eb b o (λz=>hb (by simp[z])) q) hf⟩
 self:=λ_ _ _ _ _ st h=>let ⟨old,z⟩:=st.1;Xi z h
section
variable{X:Cx}
def RE(K:Sd)(ta:TA):TI:=λσ H R=>ta σ H λvs H1=>∃ a,vs=[.ref a]/\(((∃ xs,SqL K H1 a xs)/\R (PD K a) H1)\/((∃ xs,SqT K H1 a xs)/\R (PF K a) H1))
theorem Ce:Wu "enumerate"=some (.type "enumerate"):=by decide +kernel
theorem Ee:Wu "zip"=some (.type "zip"):=by decide +kernel
theorem MQ{a:Expr}{ta:TA}{p pos:Pos}{elts:List Expr}{kx:Nat}{tp:Pos}(hg:Gl X "enumerate")(hm:X.mg "enumerate"=none)(ha:PA X [a] ta)(hs:Wv [a] X.env=[(false,eval a X.env)]:=by rfl):
 PI X (.Tuple elts kx tp) (.Call (.Name "enumerate" p) [a] [] pos) (RE X.K ta):=by
 intro pins s σ H R I h;refine Call_ (AL I hg hm Ce (PyProof.Rows.callWith_type1 (thn (ha pos pins s σ H _ I h) λus s1 ⟨vs,H1,I1,r1,q1⟩=>?_) hs rfl));obtain⟨l,e,q1⟩:=q1;subst e;cases r1 with
 | cons r rr=>
   cases rr;cases r;rcases q1 with⟨⟨xs,hq⟩,q⟩ | ⟨⟨xs,hq⟩,q⟩
   ·obtain⟨its,rv,pl,hz⟩:=I1.list hq;have hlt:@LT.lt Nat _ l s1.heap.objs.size:=by obtain⟨o,n,e,_⟩:=pl;exact Sj e
    refine call_enumerate_list pl.isList λh' he hli hsz hk=>?_;refine Xi he ?_;have I2:Inv X pins σ H1 {s1 with heap:=h'}:=I1.kept (t':=s1.toks) hk;refine⟨s1.heap.objs.size+1,[s1.heap.objs.size+1,s1.heap.objs.size],_,_,H1,rfl,I2,GB l _ s1.heap.objs.size (show @Ne Nat _ _ by omega) (show @Ne Nat _ _ by omega) (show @Ne Nat _ _ by omega),⟨⟨_,he⟩,hli⟩,λb hb=>?_,q⟩
    have hb2:@LE.le Nat _ s1.heap.objs.size b:=by
     rcases T7.mp hb with rfl | hb
     ·exact UK _
     ·have e:b=s1.heap.objs.size:=by simpa using hb
      rw[e];exact Sw _
    exact I1.fpOk hb2 (I1.hok.fresh hb2)
   ·obtain⟨its,rv,pl,hz⟩:=I1.tuple hq;have hlt:@LT.lt Nat _ l s1.heap.objs.size:=by obtain⟨o,e,_⟩:=pl;exact Sj e
    refine Ac (show s1.heap.IsTuple l its.toArray from pl) λh' he hli hsz hk=>?_;refine Xi he ?_;have I2:Inv X pins σ H1 {s1 with heap:=h'}:=I1.kept (t':=s1.toks) hk;refine⟨s1.heap.objs.size+1,[s1.heap.objs.size+1,s1.heap.objs.size],_,_,H1,rfl,I2,GC l _ s1.heap.objs.size (show @Ne Nat _ _ by omega) (show @Ne Nat _ _ by omega) (show @Ne Nat _ _ by omega),⟨⟨_,he⟩,hli⟩,λb hb=>?_,q⟩
    have hb2:@LE.le Nat _ s1.heap.objs.size b:=by
     rcases T7.mp hb with rfl | hb
     ·exact UK _
     ·have e:b=s1.heap.objs.size:=by simpa using hb
      rw[e];exact Sw _
    exact I1.fpOk hb2 (I1.hok.fresh hb2)
end
def Itz(K:Sd)(a b:Wm):It:=
 ⟨λi H=>∃ xs ys x y,SqL K H a xs/\SqL K H b ys/\xs[i]?=some x/\ys[i]?=some y,
  λi H x H'=>∃ p v u,H p=none/\x = .ref p/\(∀ xs,SqL K H a xs->xs[i]?=some v)/\(∀ ys,SqL K H b ys->ys[i]?=some u)/\H'=upd H p (.tup [v,u]),
  λi H=>∃ xs ys,SqL K H a xs/\SqL K H b ys/\(xs.length<=i\/ys.length<=i)⟩
theorem Jv{P:Wr}{w:Wt}{K:Sd}{elts:List Expr}{kx:Nat}{tp:Pos}(z TI TO i1 i2 l1 l2:Wm)(D:ZipApart z TI TO i1 i2 l1 l2):Turn P w K (.Tuple elts kx tp) (Itz K l1 l2) [z,TI,TO,i1,i2] z
 (λi h=>IsZip h z TI TO .none/\IsPair h TI (.ref i1) (.ref i2)/\(∃ a b,IsPair h TO a b)/\h.IsListIter i1 l1 i/\h.IsListIter i2 l2 i) where
 mem:=by simp
 obj:=λi h st b hb=>by
  obtain⟨hz,hTI,⟨a',b',hTO⟩,⟨o1,e1,c1,d1⟩,⟨o2,e2,c2,d2⟩⟩:=st;simp only[T7,UR,or_false]at hb;rcases hb with rfl | rfl | rfl | rfl | rfl
  ·exact⟨_,hz,λv q=>by cases q⟩
  ·exact⟨_,hTI,λv q=>by cases q⟩
  ·exact⟨_,hTO,λv q=>by cases q⟩
  ·exact⟨o1,e1,λv q=>by rw[d1]at q;cases q⟩
  ·exact⟨o2,e2,λv q=>by rw[d2]at q;cases q⟩
 keep:=λi h h' st k=>by
  obtain⟨hz,hTI,⟨a',b',hTO⟩,h1,h2⟩:=st;exact⟨k z (by simp) _ hz,k TI (by simp) _ hTI,⟨a',b',k TO (by simp) _ hTO⟩,h1.at λo q=>k i1 (by simp) o q,h2.at λo q=>k i2 (by simp) o q⟩
 item:=by
  intro X hP hw hK hc i pins s σ H E I hf st hg;subst hP hw hK;obtain⟨xs,ys,x,y,hq1,hq2,hx,hy⟩:=hg;obtain⟨its1,rv1,p1,hz1⟩:=I.list hq1;obtain⟨its2,rv2,p2,hz2⟩:=I.list hq2;obtain⟨u1,hu1,ru1⟩:=rv1.get hx;obtain⟨u2,hu2,ru2⟩:=rv2.get hy;obtain⟨hz,hTI,⟨a',b',hTO⟩,h1,h2⟩:=st;refine wpAny_pyNext_zip_item D hz hTI hTO h1 h2 p1.isList p2.isList (x:=u1) (y:=u2) (by simpa using hu1) (by simpa using hu2) λh' b1 b2 b3 b4 b5 b6 hk=>?_;refine⟨_,rfl,?_⟩
  have I1:Inv X pins σ (upd H s.heap.objs.size (.tup [x,y])) {s with heap:=h'}:=
   I.turnLay (t':=s.toks) (ch:=[z,TI,TO,i1,i2]) (λb o hb q=>hk b o (λe=>hb (by simp[e])) (λe=>hb (by simp[e])) (λe=>hb (by simp[e])) (λe=>hb (by simp[e])) q) hf ⟨E1,[u1,u2],.cons ru1 (.cons ru2 .nil),⟨_,b5,rfl,_,rfl⟩⟩
  have lt1:i1<s.heap.objs.size:=by obtain⟨_,q,_⟩:=h1;exact Sj q
  have lt2:i2<s.heap.objs.size:=by obtain⟨_,q,_⟩:=h2;exact Sj q
  have hfp1:∀ b∈[z,TI,TO,i1,i2],FpOk X pins (upd H s.heap.objs.size (.tup [x,y])) b:=λb hb=>by
   obtain⟨f0,f1⟩:=hf b hb
   have hbl:b≠s.heap.objs.size:=by
    simp only[T7,UR,or_false]at hb;rcases hb with rfl | rfl | rfl | rfl | rfl
    ·exact Sx (Sj hz)
    ·exact Sx (Sj hTI)
    ·exact Sx (Sj hTO)
    ·exact Sx lt1
    ·exact Sx lt2
   exact⟨by rw[f6 hbl];exact f0,f1⟩
  refine Xy b1 λh2' hz' hs'=>?_
  have I2:Inv X pins σ (upd H s.heap.objs.size (.tup [x,y])) {s with heap:=h2'}:=
   Inv.turnedL (s:={s with heap:=h'}) (t':=s.toks) (ch:=[z,TI,TO,i1,i2]) I1 (λb o hb q=>(hs'.2 b (λe=>hb (by simp[e]))).trans q) hfp1
  refine⟨.ref s.heap.objs.size,_,I2,rfl,⟨_,x,y,I.fresh,rfl,λzs hy'=>by rw[I.list_inj hy' hq1];exact hx,λzs hy'=>by rw[I.list_inj hy' hq2];exact hy,rfl⟩,
   ⟨hz',hs'.extBut _ _ D.TIz (hk _ _ D.TIz D.TITO D.TIi1 D.TIi2 hTI),⟨_,_,hs'.extBut _ _ D.TOz b2⟩,b3.extBut hs'.extBut D.i1z,b4.extBut hs'.extBut D.i2z⟩,λb hb=>(hfp1 b hb).1⟩
 done:=by
   intro X hP hw hK hc i pins s σ H E I hf st hg;subst hP hw hK;obtain⟨xs,ys,hq1,hq2,hx⟩:=hg;obtain⟨its1,rv1,p1,hz1⟩:=I.list hq1;obtain⟨its2,rv2,p2,hz2⟩:=I.list hq2;obtain⟨hz,hTI,⟨a',b',hTO⟩,h1,h2⟩:=st;have hl1:=rv1.length;have hl2:=rv2.length
   have hend:its1.toArray[i]?=none\/its2.toArray[i]?=none:=by
    rcases hx with h | h
    ·exact .inl (by simp;omega)
    ·exact .inr (by simp;omega)
   exact wpAny_pyNext_zip_end (I.ok.hd hc) D hz hTI hTO h1 h2 p1.isList p2.isList hend λh' hk=>⟨rfl,I.turnedL (t':=s.toks) (ch:=[z,TI,TO,i1,i2]) (λb o hb q=>hk b o (λe=>hb (by simp[e])) (λe=>hb (by simp[e])) (λe=>hb (by simp[e])) (λe=>hb (by simp[e])) q) hf⟩
 self:=λ_ _ _ _ _ st h=>Xl st.1 h
section
variable{X:Cx}
def SG(K:Sd)(ta:TA):TI:=λσ H R=>ta σ H λvs H1=>∃ a b,vs=[.ref a,.ref b]/\(∃ xs,SqL K H1 a xs)/\(∃ ys,SqL K H1 b ys)/\R (Itz K a b) H1
theorem PH{a b:Expr}{ta:TA}{p pos:Pos}{elts:List Expr}{kx:Nat}{tp:Pos}(hg:Gl X "zip")(hm:X.mg "zip"=none)(ha:PA X [a,b] ta)(hs:Wv [a,b] X.env=[(false,eval a X.env),(false,eval b X.env)]:=by rfl)
 (hs2:Wv [b] X.env=[(false,eval b X.env)]:=by rfl):PI X (.Tuple elts kx tp) (.Call (.Name "zip" p) [a,b] [] pos) (SG X.K ta):=by
 intro pins s σ H R I h;refine Call_ (AL I hg hm Ee (PyProof.Rows.callWith_type1 (thn (ha pos pins s σ H _ I h) λus s1 ⟨vs,H1,I1,r1,q1⟩=>?_) (by rw[hs,hs2]) (by rw[hs2];rfl)));obtain⟨l1,l2,e,⟨xs,hq1⟩,⟨ys,hq2⟩,q⟩:=q1;subst e;obtain⟨u1,u2,rfl,r1',r2'⟩:=Vals.two r1;cases r1';cases r2';obtain⟨its1,rv1,p1,hz1⟩:=I1.list hq1;obtain⟨its2,rv2,p2,hz2⟩:=I1.list hq2;have hl1:@LT.lt Nat _ l1 s1.heap.objs.size:=by obtain⟨o,n,e,_⟩:=p1;exact Sj e
 have hl2:@LT.lt Nat _ l2 s1.heap.objs.size:=by obtain⟨o,n,e,_⟩:=p2;exact Sj e
 refine call_zip_2 p1.isList p2.isList λh' c1 c2 c3 c4 c5 c6 hk=>?_;refine Xl c1 ?_;have I2:Inv X pins σ H1 {s1 with heap:=h'}:=I1.kept (t':=s1.toks) hk;refine⟨s1.heap.objs.size+4,[s1.heap.objs.size+4,s1.heap.objs.size+2,s1.heap.objs.size+3,s1.heap.objs.size,s1.heap.objs.size+1],_,_,H1,rfl,I2,Jv _ _ _ _ _ l1 l2 ?_,⟨c1,c2,⟨_,_,c3⟩,c4,c5⟩,λb hb=>?_,q⟩
 ·constructor<;>(show @Ne Nat _ _)<;>omega
 ·have hb2:@LE.le Nat _ s1.heap.objs.size b:=by
   simp only[T7,UR,or_false]at hb;rcases hb with rfl | rfl | rfl | rfl | rfl
   ·exact To _ _
   ·exact To _ _
   ·exact To _ _
   ·exact Sw _
   ·exact To _ _
  exact I1.fpOk hb2 (I1.hok.fresh hb2)
end
theorem IW(its:List Wk)(k:Nat)(y:Wk):(its.toArray.extract 0 k).push y++its.toArray.extract k=(its.take k++y::its.drop k).toArray:=by
 apply Array.toList_inj.mp;simp
 first
  | done
  | exact VO (by simp)
section
variable{X:Cx}
def HP:V->List V->Hp->VK->Prop:=λx vs H Q=>∃ l xs i y,x = .ref l/\vs=[.int i,y]/\H l=some (.lst xs)/\0<=i/\i<=xs.length/\xs.length<Ws/\Q .non (upd H l (.lst (xs.take i.toNat++y::xs.drop i.toNat)))
theorem DZ:MtM X "list.insert" HP:=by
 intro pins s σ H x vs v us Q I rx rv h;obtain⟨l,xs,i,y,rfl,rfl,hH,h0,h1,hz,q⟩:=h;cases rx;obtain⟨u1,u2,rfl,⟨t,rfl⟩,ru⟩:=Vals.two rv;obtain⟨z,its,n,r,hl,e⟩:=I.lstM hH;have hn:=C1;refine Xh F.slot_list_insert ⟨_,e,rfl⟩ F.entry_list_insert (F.args_list_insert_3 _ _ _) (AutoSeq1.list_insert_list_int_val_1 l its.toArray n i t u2 (by rw[Z3 (by omega) (by omega)];exact Su) (by rw[Sq];omega)) ⟨e,?_⟩;refine⟨.non,_,I.lset (its':=its.take i.toNat++u2::its.drop i.toNat) hH e ?_ (Vals.append (r.take _) (.cons ru (r.drop _))) ?_,rfl,q⟩
 ·have hk:(if i<0 then (i+(its.toArray.size:Int)).toNat else min i.toNat its.toArray.size)=i.toNat:=by
   rw[iG (by omega),Sq];omega
  show(let k:=if i<0 then (i+(its.toArray.size:Int)).toNat else min i.toNat its.toArray.size;(its.toArray.extract 0 k).push u2++its.toArray.extract k)=_;rw[hk];exact IW its i.toNat u2
 ·rw[Sl,Tn,Te,VH];omega
def Ad(xs ys:List V):Bool:=xs.length == ys.length&&(xs.zip ys).all λp=>eqV p.1 p.2
def MR(K:Sd)(neg:Bool):R2:=λx y H Q=>∃ a b xs ys,x = .ref a/\y = .ref b/\SqL K H a xs/\SqL K H b ys/\((xs.all v4=true/\ys.all v4=true)\/xs=[]\/ys=[])/\Q (.bl (if neg then !Ad xs ys else Ad xs ys)) H
theorem Cf{xs ys:List V}(hl:xs.length=ys.length):(So xs.length).all (λj=>eqV (xs.getD j .non) (ys.getD j .non))=Ad xs ys:=by
 have e1:Ad xs ys=(xs.zip ys).all λp=>eqV p.1 p.2:=by unfold Ad;simp[hl]
 rw[e1,Ta,T9,T9];constructor
 ·intro h p hp;obtain⟨j,hj,e⟩:=U9.mp hp;have hj1:j<xs.length:=by simp at hj;omega
  have hj2:j<ys.length:=by omega
  have:=h j (TH.mpr hj1);rw[<-e];simpa[UA,hj1,hj2] using this
 ·intro h j hj;have hj1:j<xs.length:=TH.mp hj;have hj2:j<ys.length:=by omega
  have:=h (xs[j],ys[j]) (U9.mpr ⟨j,by simp;omega,by simp⟩);simpa[UA,hj1,hj2] using this
theorem Be{xs ys:List V}{us ws:List Wk}{A:Wx}{s:Wl}(r1:Vals xs us)(r2:Vals ys ws)(f:(xs.all v4=true/\ys.all v4=true)\/xs=[]\/ys=[]):
 ∀ j (h1:j<us.toArray.size) (h2:j<ws.toArray.size),SeqAt.EqAt A s us.toArray[j] ws.toArray[j] (eqV (xs.getD j .non) (ys.getD j .non)):=by
 intro j h1 h2;have l1:=r1.length;have l2:=r2.length;simp only[Sq]at h1 h2;have hj1:j<xs.length:=by omega
 have hj2:j<ys.length:=by omega
 obtain⟨f1,f2⟩:xs.all v4=true/\ys.all v4=true:=by
  rcases f with f | f | f
  ·exact f
  ·subst f;simp at hj1
  ·subst f;simp at hj2
 obtain⟨u,eu,ru⟩:=r1.get (i:=j) (x:=xs[j]) (by simp[hj1]);obtain⟨w',ew,rw'⟩:=r2.get (i:=j) (x:=ys[j]) (by simp[hj2])
 have e1:us.toArray[j]=u:=by
  have:=gM eu;obtain⟨_,q⟩:=this;simpa using q
 have e2:ws.toArray[j]=w':=by
  obtain⟨_,q⟩:=gM ew;simpa using q
 rw[e1,e2];have g1:xs.getD j .non=xs[j]:=by simp[UA,hj1]
 have g2:ys.getD j .non=ys[j]:=by simp[UA,hj2]
 rw[g1,g2];exact Jp ru rw' (T9.mp f1 _ (U0 hj1)) (T9.mp f2 _ (U0 hj2))
theorem PJ(hu:X.A.units<cLine):OpR X (X0 .Eq) (MR X.K false):=by
 intro pins s σ H x y v u Q I rx ry h;obtain⟨a,b,xs,ys,rfl,rfl,h1,h2,f,q⟩:=h;cases rx;cases ry;obtain⟨its1,r1,p1,_⟩:=I.list h1;obtain⟨its2,r2,p2,_⟩:=I.list h2;have l1:=r1.length;have l2:=r2.length;by_cases hl:xs.length=ys.length
 ·refine SeqAt.eq_listAt p1.isList p2.isList (by simp;omega) hu (Be r1 r2 f) ⟨.bl _,H,I,rfl,?_⟩;rw[Sq,<-l1,Cf hl];exact q
 ·refine SeqAt.eq_list_lengthsAt p1.isList p2.isList (by simp;omega) hu ⟨.bl false,H,I,rfl,?_⟩;have e:Ad xs ys=false:=by unfold Ad;simp[hl]
  rw[show(if false=true then !Ad xs ys else Ad xs ys)=Ad xs ys from rfl,e]at q;exact q
theorem PK(hu:X.A.units<cLine):OpR X (X0 .NotEq) (MR X.K true):=by
 intro pins s σ H x y v u Q I rx ry h;obtain⟨a,b,xs,ys,rfl,rfl,h1,h2,f,q⟩:=h;cases rx;cases ry;obtain⟨its1,r1,p1,_⟩:=I.list h1;obtain⟨its2,r2,p2,_⟩:=I.list h2;have l1:=r1.length;have l2:=r2.length;by_cases hl:xs.length=ys.length
 ·refine(SeqAt.RcNeAt.lists p1.isList p2.isList (by simp;omega) hu (Be r1 r2 f)) _ _ _ _ ?_;refine⟨.bl _,H,I,rfl,?_⟩;rw[Sq,<-l1,Cf hl];exact q
 ·refine(SeqAt.RcNeAt.lists_lengths p1.isList p2.isList (by simp;omega) hu) _ _ _ _ ?_;refine⟨.bl true,H,I,rfl,?_⟩;have e:Ad xs ys=false:=by unfold Ad;simp[hl]
  rw[show(if true=true then !Ad xs ys else Ad xs ys)=!Ad xs ys from rfl,e]at q;exact q
theorem call_isi1:CallR X (.builtin "isinstance") (λxs H Q=>∃ x T t b,xs=[x,.ty T]/\TyOf X.K H x t/\PySem.W.kitOne X.K t (.type T)=some b/\Q (.bl b) H):=by
 intro pins s σ H xs us Q I r h;obtain⟨x,T,t,b,rfl,ty,e,q⟩:=h;obtain⟨u1,u2,rfl,r1,r2⟩:=Vals.two r;cases r2;exact IP I r1 ty e λtk=>⟨.bl b,H,I.tok tk,rfl,q⟩
theorem GD{pins:List (Wm×Obj)}{σ:St}{H:Hp}{s:Wl}{A:Wx}{E:Wk->Wl->Prop}{Q:Wk->Wl->Prop}{b:Bool}{x:V}{u t:Wk}{tp:Wm}{dd:Option Wm}{its:List Wk}{n:Nat}{sl:Array (Option Wk)}(I:Inv X pins σ H s)(rx:RelV x u)(ty:TyOf X.K H x t)
 (htp:s.heap.get? tp=some ⟨.type "tuple",dd,.seq its.toArray n,sl⟩) (e:PySem.W.kitAny X.K t its=some b) (h:∀ tk,Q (.bool b) {s with toks:=tk}):
 Wo (Wp X.prog X.w) A (call (.builtin "isinstance") [u,.ref tp]) Q E s:=by
 cases ty with
 | non=>cases(show u=Value.none from rx);exact PySem.W.kia_tup PySem.W.kitx_none I.kIn True.intro htp e (λz=>nomatch z) h
 | bl y=>cases(show u=Value.bool y from rx);exact PySem.W.kia_tup PySem.W.kitx_bool I.kIn True.intro htp e (λz=>nomatch z) h
 | int i=>obtain⟨t,q⟩:=(show ∃ t,u=Value.int i t from rx);cases q;exact PySem.W.kia_tup PySem.W.kitx_int I.kIn True.intro htp e (λz=>nomatch z) h
 | str y=>obtain⟨t,q⟩:=(show ∃ t,u=Value.str y t from rx);cases q;exact PySem.W.kia_tup PySem.W.kitx_str I.kIn True.intro htp e (λz=>nomatch z) h
 | flt y=>obtain⟨t,q⟩:=(show ∃ t,u=Value.float y t from rx);cases q;exact PySem.W.kia_tup PySem.W.kitx_float I.kIn True.intro htp e (λz=>nomatch z) h
 | @lst a xs ea=>
   cases(show u=Value.ref a from rx);obtain⟨_,_,n,_,h1⟩:=(show ObjOk X.prog X.w H s.heap a (.lst xs) from I.hok a _ ea)
   exact PySem.W.kia_tup PySem.W.kitx_list I.kIn ⟨_,h1,rfl⟩ htp e (λz=>nomatch z) h
 | @frz a ob xs ea=>
   cases(show u=Value.ref a from rx);obtain⟨_,_,_,n,_,h1⟩:=(show ObjOk X.prog X.w H s.heap a (.frz ob (.lst xs)) from I.hok a _ ea)
   exact PySem.W.kia_tup PySem.W.kitx_list I.kIn ⟨_,h1,rfl⟩ htp e (λz=>nomatch z) h
 | @tup a xs ea=>
   cases(show u=Value.ref a from rx);obtain⟨_,_,_,p⟩:=(show ObjOk X.prog X.w H s.heap a (.tup xs) from I.hok a _ ea)
   obtain⟨o,h1,h2,_⟩:=p;exact PySem.W.kia_tup PySem.W.kitx_tuple I.kIn ⟨o,h1,h2⟩ htp e (λz=>nomatch z) h
 | @dK a kvs ea=>
   cases(show u=Value.ref a from rx);obtain⟨_,_,vs,_,p⟩:=(show ObjOk X.prog X.w H s.heap a (.dK kvs) from I.hok a _ ea)
   obtain⟨o,es,ep,h1,h2,_⟩:=p;exact PySem.W.kia_tup PySem.W.kitx_dict I.kIn ⟨o,h1,h2.1⟩ htp e (λz=>nomatch z) h
 | @dT a kvs ea=>
   cases(show u=Value.ref a from rx);obtain⟨_,_,xs,_,o,es,ep,h1,h2,_⟩:=(show ObjOk X.prog X.w H s.heap a (.dT kvs) from I.hok a _ ea)
   exact PySem.W.kia_tup PySem.W.kitx_dict I.kIn ⟨o,h1,h2.1⟩ htp e (λz=>nomatch z) h
 | @ins a C dx fs ea cl ha hn htk hm=>
   cases(show u=Value.ref a from rx);obtain⟨mA,O,_⟩:=HH I.hok ea;obtain⟨od,J,_⟩:=O.look;exact PySem.W.kia_tup (PySem.W.kitx_own (cl.get _) cl.hd ha hn htk hm) I.kIn J htp e (λz=>nomatch z) h
theorem HQ:∀(Ts:List String) {us:List Wk},Vals (Ts.map V.ty) us->us=Ts.map Value.type
 | [],_,.nil=>rfl
 | T::r,_,.cons h t=>by cases h;rw[HQ r t];rfl
theorem IY:CallR X (.builtin "isinstance") (λxs H Q=>∃(x:V) (p:Wm) (Ts:List String) (t:Wk) (b:Bool),xs=[x,.ref p]/\H p=some (.tup (Ts.map V.ty))/\TyOf X.K H x t/\PySem.W.kitAny X.K t (Ts.map Value.type)=some b/\Q (.bl b) H):=by
 intro pins s σ H xs us Q I r h;obtain⟨x,p,Ts,t,b,rfl,hp,ty,e,q⟩:=h;obtain⟨u1,u2,rfl,r1,r2⟩:=Vals.two r;cases r2;obtain⟨_,its,rv,⟨⟨c,dd,dt,sl⟩,h1,h2,n,h3⟩⟩:=(show ObjOk X.prog X.w H s.heap p (.tup (Ts.map V.ty)) from I.hok p _ hp)
 have ei:=HQ Ts rv;subst ei;replace h2:c = .type "tuple":=h2;replace h3:dt = .seq (Ts.map Value.type).toArray n:=h3;subst h2 h3;exact GD I r1 ty h1 e λtk=>⟨.bl b,H,I.tok tk,rfl,q⟩
theorem IZ(hc:X.calm=true):CallR X (.builtin "all") (λxs H Q=>∃(a:Wm) (bs:List Bool),xs=[.ref a]/\SqL X.K H a (bs.map V.bl)/\Q (.bl (bs.all id)) H):=by
 intro pins s σ H xs us Q I r h;obtain⟨a,bs,rfl,hq,q⟩:=h;obtain⟨u,rfl,ru⟩:=AV r;cases ru;obtain⟨its,rv,pl,hz⟩:=I.list hq;have hl:=rv.length;rw[Se]at hl;refine call_all_walk (Xj pl.isList ?_);have hlt:a<s.heap.objs.size:=by obtain⟨o,n,e,_⟩:=pl;exact Sj e
 refine⟨s.heap.objs.size,_,_,_,_,_,λi=>bs.getD i false,rfl,Walks.list (by exact I.ok.hd hc) s.heap.objs.size a (Sx hlt) its.toArray,⟨⟨_,Sr _ rfl,rfl,rfl⟩,pl.isList.push _⟩,?_,λh' tk hk=>?_⟩
 ·intro i v s' Q' E' hv hQ';have hv':its[i]?=some v:=by simpa using hv
  have hi:i<its.length:=(gM hv').1;have hb:(bs.map V.bl)[i]?=some (.bl (bs[i]'(by omega))):=by simp
  obtain⟨u',eu,ru'⟩:=rv.get hb;rw[hv']at eu;cases eu;cases ru';have hg:bs.getD i false=bs[i]'(by omega):=by simp[UA,show i<bs.length by omega]
  have hQ2:Q' (bs.getD i false) s':=hQ';rw[hg]at hQ2;exact X4 hQ2
 ·have I1:Inv X pins σ H {s with heap:=h',toks:=tk}:=I.kept λb o e=>hk b o (by simp;exact Sx (Sj e)) (Sh _ e);refine⟨.bl _,H,I1,rfl,?_⟩
  have e:(So its.toArray.size).all (λi=>bs.getD i false)=bs.all id:=by
   rw[Sq,<-hl,Ta,T9,T9];constructor
   ·intro h b hb;obtain⟨j,hj,e⟩:=U9.mp hb;have:=h j (TH.mpr hj);simpa[UA,hj,e] using this
   ·intro h j hj;have hj1:j<bs.length:=TH.mp hj;have:=h bs[j] (U0 hj1);simpa[UA,hj1] using this
  rw[e];exact q
theorem Ia:CallR X (.type "range") (λxs H Q=>∃ a b,xs=[.int a,.int b]/\∀ p,H p=none->Q (.ref p) (upd H p (.rng a b))):=by
 intro pins s σ H xs us Q I r h;obtain⟨a,b,rfl,q⟩:=h;obtain⟨u1,u2,rfl,⟨t,rfl⟩,⟨t',rfl⟩⟩:=Vals.two r;refine call_range_2 ⟨.ref s.heap.objs.size,_,I.laid (o := .rng a b) (λb o e=>Sh _ e) (Sw _) ⟨_,_,_,Sr _ rfl⟩,rfl,q _ I.fresh⟩
theorem Ib:CallR X (.type "range") (λxs H Q=>∃ b,xs=[.int b]/\∀ p,H p=none->Q (.ref p) (upd H p (.rng 0 b))):=by
 intro pins s σ H xs us Q I r h;obtain⟨b,rfl,q⟩:=h;obtain⟨u1,rfl,⟨t,rfl⟩⟩:=AV r;refine call_range_1 ⟨.ref s.heap.objs.size,_,I.laid (o := .rng 0 b) (λb o e=>Sh _ e) (Sw _) ⟨_,_,_,Sr _ rfl⟩,rfl,q _ I.fresh⟩
def Ic(lo:Int)(n:Nat):List V:=(So n).map λ(i:Nat)=>V.int (lo+(i:Int))
theorem Ef(lo:Int)(n:Nat):(Ic lo n).length=n:=by unfold Ic;simp
theorem Bk(hc:X.calm=true):CallR X (.type "list") (λxs H Q=>∃ p a b,xs=[.ref p]/\H p=some (.rng a b) /\ -(2 ^ 62)<=a/\a<2 ^ 62 /\ -(2 ^ 62)<=b/\b<2 ^ 62/\(b - a).toNat<=100000/\∀ l,H l=none->Q (.ref l) (upd H l (.lst (Ic a (b - a).toNat)))):=by
 intro pins s σ H xs us Q I r h;obtain⟨p,a,b,rfl,hp,h1,h2,h3,h4,h5,q⟩:=h;obtain⟨u,rfl,ru⟩:=AV r;cases ru;obtain⟨t,u',v,ho⟩:=(show ObjOk X.prog X.w H s.heap p (.rng a b) from I.hok p _ hp)
 have hn:Builtin.Range.rangeSize a b 1=(((b - a).toNat:Nat):Int):=by rw[rangeSize_one];split<;>omega
 refine call_list_range (I.ok.hd hc) (show IsRange s.heap p a b 1 t u' v from ho) (small_one h1 h2 h3 h4) hn (by omega) λh' tk acc c' kp e hi=>?_;have hz:(b - a).toNat<=Ws:=Th h5 (by decide);refine⟨.ref s.heap.objs.size,_,I.laid kp (Sw _) (show ObjOk X.prog X.w _ h' _ (.lst (Ic a (b - a).toNat)) from ⟨by rw[Ef];exact hz,acc.toList,c',?_,by simpa using e⟩),rfl,q _ I.fresh⟩;obtain⟨hs,hv⟩:=hi
 have key:∀(n:Nat) (l:List Wk) (lo:Int),l.length=n->(∀(j:Nat) (v:Wk),l[j]?=some v->∃ t,v=Value.int (lo+(j:Int)) t)->Vals ((So n).map λ(i:Nat)=>V.int (lo+(i:Int))) l:=by
  intro n
  induction n with
  | zero=>intro l lo hl _;cases l with | nil=>exact .nil | cons _ _=>simp at hl
  | succ n ih=>
    intro l lo hl hv;cases l with
    | nil=>simp at hl
    | cons x r=>
      rw[List.range_succ_eq_map,TY,TX];refine .cons ?_ ?_
      ·obtain⟨t,e⟩:=hv 0 x (by simp);exact⟨t,e⟩
      ·have:=ih r (lo+1) (by simpa using hl) λj v hj=>by
        obtain⟨t,e⟩:=hv (j+1) v (by simpa using hj);refine⟨t,?_⟩;rw[e]
        congr 1
        omega
       have e2:((λ(i:Nat)=>V.int (lo+(i:Int)))∘Nat.succ)=λ(i:Nat)=>V.int (lo+1+(i:Int)):=by
        funext i
        show V.int (lo+((i+1:Nat):Int))=V.int (lo+1+(i:Int))
        congr 1
        omega
       rw[e2];exact this
 refine key _ _ a (by simpa using hs) λj v hj=>?_;obtain⟨t,e⟩:=hv j v (by simpa using hj);exact⟨t,by rw[e];congr 1;omega⟩
end
def srt(ns:List Int):List Int:=ns.mergeSort (λa b=>decide (a<=b))
theorem AN(ns:List Int):(srt ns).Perm ns:=List.mergeSort_perm _ _
theorem Jw(ns:List Int):(srt ns).Pairwise (·<=·):=by
 have h:=List.pairwise_mergeSort (le:=λ(a b:Int)=>decide (a<=b)) (λa b c h1 h2=>by simp only[dQ]at *;omega) (λa b=>by simp only[Ti,dQ];omega) ns;exact h.imp λh=>of_decide_eq_true h
theorem Jx{ns ns':List Int}(hp:ns'.Perm ns)(hs:ns'.Pairwise (·<=·)):ns'=srt ns:=
 List.Perm.eq_of_pairwise (λ_ _ _ _ a b=>Int.le_antisymm a b) hs (Jw ns) (hp.trans (AN ns).symm)
theorem t9:∀{ns:List Int} {us:List Wk},Vals (ns.map V.int) us->IntsAre us ns
 | [],_,.nil => .nil
 | _::_,_,.cons ⟨_,e⟩ t=>by subst e;exact .cons _ _ (t9 t)
theorem C4:∀{ns:List Int} {us:List Wk},IntsAre us ns->Vals (ns.map V.int) us
 | _,_,.nil => .nil
 | _,_,.cons _ _ t => .cons ⟨_,rfl⟩ (C4 t)
theorem Jy:Wu "sorted"=some (.builtin "sorted"):=by decide +kernel
section
variable{X:Cx}
theorem Eg:CallR X (.builtin "sorted") (λxs H Q=>∃ p ns,xs=[.ref p]/\SqL X.K H p (ns.map V.int)/\ns.length<64/\∀ l,H l=none->Q (.ref l) (upd H l (.lst ((srt ns).map V.int)))):=by
 intro pins s σ H xs us Q I r h;obtain⟨p,ns,rfl,hq,h64,q⟩:=h;obtain⟨u,rfl,rx⟩:=AV r;cases rx;obtain⟨its,r',pl,hz⟩:=I.list hq;have hlen:=r'.length;rw[Se]at hlen;refine sorted_ints pl.isList (t9 r') (by omega) λout ns' a1 a2 a3=>?_;obtain⟨e,he⟩:=sortedAll_at s.heap its out;have en:=Jx a2 a3;subst en;refine⟨.ref (s.heap.objs.size+1),_,I.laid (t':=s.toks) (λb o h=>sortedAll_old h) (UK _) (show ObjOk X.prog X.w _ _ _ (.lst ((srt ns).map V.int)) from ⟨?_,out.toList,e,C4 a1,by simpa using he⟩),rfl,q _ (I.hok.fresh (UK _))⟩;rw[Se,a2.length_eq];exact Th (U7 h64) (by decide)
end
section
variable{κ:Type}[DecidableEq κ]
def Ax(kvs:List (κ×V))(k:κ):Option V:=(kvs.find? λkv=>decide (kv.1=k)).map (·.2)
def Cg(kvs:List (κ×V))(k:κ)(v:V):List (κ×V):=
 if (kvs.any λkv=>decide (kv.1=k))=true then kvs.map (λkv=>if kv.1=k then (kv.1,v) else kv) else kvs++[(k,v)]
theorem Bm{p:κ×V}{r:List (κ×V)}{k:κ}(e:p.1=k):Ax (p::r) k=some p.2:=by simp[Ax,UO,e]
theorem Bn{p:κ×V}{r:List (κ×V)}{k:κ}(e:¬ p.1=k):Ax (p::r) k=Ax r k:=by simp[Ax,UO,e]
theorem Eh(k:κ):∀ kvs:List (κ×V),(kvs.any λkv=>decide (kv.1=k))=(Ax kvs k).isSome
 | []=>rfl
 | p::r=>by
   rw[UC];by_cases e:p.1=k
   ·simp only[Bm e,decide_eq_true e,We,Vh]
   ·rw[Bn e,decide_eq_false e,WY];exact Eh k r
theorem RelO.isSome_eq{o:Option V}{u:Option Wk}(r:RelO o u):o.isSome=u.isSome:=by
 cases o with
 | none=>cases u with
   | none=>rfl
   | some _=>exact(show False from r).elim
 | some _=>cases u with
   | none=>exact(show False from r).elim
   | some _=>rfl
theorem RelO.getD{o:Option V}{u:Option Wk}{d:V}{d':Wk}(r:RelO o u)(rd:RelV d d'):RelV (o.getD d) (u.getD d'):=by
 cases o with
 | none=>cases u with
   | none=>exact rd
   | some _=>exact(show False from r).elim
 | some _=>cases u with
   | none=>exact(show False from r).elim
   | some _=>exact r
theorem KV.val{kvs:List (κ×V)}{vs:List (κ×Wk)}(r:KV kvs vs)(k:κ):RelO (Ax kvs k) (valueAt vs k):=by
 unfold KV at r
 induction r with
 | nil=>exact True.intro
 | @cons p q ps qs h t ih=>
   obtain⟨h1,h2⟩:=h;by_cases e:p.1=k
   ·have e':q.1=k:=h1.symm.trans e;have b:valueAt (q::qs) k=some q.2:=by simp[valueAt,UO,e']
    rw[Bm e,b];exact h2
   ·have e':¬ q.1=k:=λz=>e (h1.trans z);have b:valueAt (q::qs) k=valueAt qs k:=by simp[valueAt,UO,e']
    rw[Bn e,b];exact ih
theorem KV.any{kvs:List (κ×V)}{vs:List (κ×Wk)}(r:KV kvs vs)(k:κ):(kvs.any λkv=>decide (kv.1=k))=vs.any λkv=>decide (kv.1=k):=by
 unfold KV at r
 induction r with
 | nil=>rfl
 | cons h t ih=>rw[UC,UC,ih,h.1]
theorem KV.repl{kvs:List (κ×V)}{vs:List (κ×Wk)}(r:KV kvs vs)(k:κ){y:V}{u:Wk}(ry:RelV y u):
 KV (kvs.map λkv=>if kv.1=k then (kv.1,y) else kv) (vs.map λkv=>if kv.1=k then (kv.1,u) else kv):=by
 unfold KV at r ⊢
 induction r with
 | nil=>exact .nil
 | @cons p q ps qs h t ih=>
   rw[TY,TY];refine .cons ?_ ih;obtain⟨h1,h2⟩:=h;by_cases e:p.1=k
   ·rw[iP e,iP (h1.symm.trans e)];exact⟨h1,ry⟩
   ·rw[iG e,iG (λz=>e (h1.trans z))];exact⟨h1,h2⟩
theorem KV.put{kvs:List (κ×V)}{vs:List (κ×Wk)}(r:KV kvs vs)(k:κ){y:V}{u:Wk}(ry:RelV y u):KV (Cg kvs k y) (stored vs k u):=by
 unfold Cg stored;rw[r.any k];by_cases e:(vs.any λkv=>decide (kv.1=k))=true
 ·rw[iP e,iP e];exact r.repl k ry
 ·rw[iG e,iG e];exact Paired.snoc r ⟨rfl,ry⟩
theorem KV.keys{kvs:List (κ×V)}{vs:List (κ×Wk)}(r:KV kvs vs):kvs.map (·.1)=vs.map (·.1):=by
 unfold KV at r
 induction r with
 | nil=>rfl
 | cons h t ih=>rw[TY,TY,ih,h.1]
theorem KV.length{kvs:List (κ×V)}{vs:List (κ×Wk)}(r:KV kvs vs):kvs.length=vs.length:=Paired.length r
end
abbrev KT(H:Hp):List (List Key×V)->List (List Key×Wm×Wk)->Prop:=Paired λp q=>p.1=q.1/\H q.2.1=some (.tup (p.1.map kV))/\RelV p.2 q.2.2
theorem KT.val{H:Hp}{kvs:List (List Key×V)}{xs:List (List Key×Wm×Wk)}(r:KT H kvs xs)(k:List Key):RelO (Ax kvs k) ((atKey xs k).map (·.2)):=by
 induction r with
 | nil=>exact True.intro
 | @cons p q ps qs h t ih=>
   obtain⟨h1,_,h2⟩:=h;by_cases e:p.1=k
   ·have e':q.1=k:=h1.symm.trans e;have b:atKey (q::qs) k=some q.2:=by simp[atKey,UO,e']
    rw[Bm e,b];exact h2
   ·have e':¬ q.1=k:=λz=>e (h1.trans z);have b:atKey (q::qs) k=atKey qs k:=by simp[atKey,UO,e']
    rw[Bn e,b];exact ih
theorem KT.repl{H:Hp}{kvs:List (List Key×V)}{xs:List (List Key×Wm×Wk)}(r:KT H kvs xs)(k:List Key){y:V}{u:Wk}(ry:RelV y u):
 KT H (kvs.map λkv=>if kv.1=k then (kv.1,y) else kv) (xs.map (putAt k u)):=by
 induction r with
 | nil=>exact .nil
 | @cons p q ps qs h t ih=>
   rw[TY,TY];refine .cons ?_ ih;obtain⟨h1,h2,h3⟩:=h;unfold putAt;by_cases e:p.1=k
   ·rw[iP e,iP (h1.symm.trans e)];exact⟨h1,h2,ry⟩
   ·rw[iG e,iG (λz=>e (h1.trans z))];exact⟨h1,h2,h3⟩
theorem KT.put{H:Hp}{kvs:List (List Key×V)}{xs:List (List Key×Wm×Wk)}(r:KT H kvs xs)(k:List Key){b:Wm}{y:V}{u:Wk}(hb:H b=some (.tup (k.map kV)))(ry:RelV y u):
 KT H (Cg kvs k y) (storedH xs k b u):=by
 have e:(kvs.any λkv=>decide (kv.1=k))=(atKey xs k).isSome:=by
  rw[Eh,(r.val k).isSome_eq,Option.isSome_map]
 unfold Cg storedH;rw[e];by_cases q:(atKey xs k).isSome=true
 ·rw[iP q,iP q];exact r.repl k ry
 ·rw[iG q,iG q];exact Paired.snoc r ⟨rfl,hb,ry⟩
theorem KT.keeps{H H':Hp}{kvs:List (List Key×V)}{xs:List (List Key×Wm×Wk)}(r:KT H kvs xs)(ht:∀ b ys,H b=some (.tup ys)->H' b=some (.tup ys)):KT H' kvs xs:=
 Paired.mapP r λ_ _ z=>⟨z.1,ht _ _ z.2.1,z.2.2⟩
def DGet(H:Hp)(a:Wm)(y:V)(r:Option V):Prop:=
 (∃ kvs k,Rd H a (.dK kvs)/\y=kV k/\r=Ax kvs k)\/∃ kvs k b,Rd H a (.dT kvs)/\y = .ref b/\H b=some (.tup (k.map kV))/\r=Ax kvs k
def DPut(H:Hp)(a:Wm)(y v:V)(H':Hp):Prop:=
 (∃ kvs k,H a=some (.dK kvs)/\y=kV k/\kvs.length<Ws/\H'=upd H a (.dK (Cg kvs k v)))\/
 ∃ kvs k b,H a=some (.dT kvs)/\y = .ref b/\H b=some (.tup (k.map kV))/\kvs.length<Ws/\H'=upd H a (.dT (Cg kvs k v))
theorem DGet.t{H:Hp}{a b:Wm}{kvs:List (List Key×V)}{k:List Key}(e:H a=some (.dT kvs))(eb:H b=some (.tup (k.map kV))):DGet H a (.ref b) (Ax kvs k) := .inr ⟨kvs,k,b,.inl e,rfl,eb,rfl⟩
theorem DPut.t{H:Hp}{a b:Wm}{kvs:List (List Key×V)}{k:List Key}{v:V}(e:H a=some (.dT kvs))(eb:H b=some (.tup (k.map kV)))(hl:kvs.length<Ws):
 DPut H a (.ref b) v (upd H a (.dT (Cg kvs k v))) := .inr ⟨kvs,k,b,e,rfl,eb,hl,rfl⟩
section
variable{X:Cx}{pins:List (Wm×Obj)}{σ:St}{H:Hp}{s:Wl}{a:Wm}{y v:V}{u r:Wk}{o:Option V}{A:Wx}{E:Wk->Wl->Prop}
theorem Inv.big(I:Inv X pins σ H s):Yd<s.heap.objs.size:=by
 have h:Wq<s.heap.objs.size:=(I.mod.glob.keeps I.bk).lt;exact VP (by decide) h
end
mutual
noncomputable def Dat(H:Hp):V->PyData->Prop
 | x,.none=>x = .non
 | x,.bool b=>x = .bl b
 | x,.int i=>x = .int i
 | x,.str s=>x = .str s
 | x,.list ds=>∃ a xs,x = .ref a/\H a=some (.lst xs)/\DatAll H xs ds
 | x,.tuple ds=>∃ a xs,x = .ref a/\H a=some (.tup xs)/\DatAll H xs ds
 | _,.dict _=>False
noncomputable def DatAll(H:Hp):List V->List PyData->Prop
 | [],[]=>True
 | x::xs,d::ds=>Dat H x d/\DatAll H xs ds
 | [],_::_=>False
 | _::_,[]=>False
end
mutual
theorem Dat.mono{H H':Hp}(k:∀ b o,H b=some o->H' b=some o):∀(x:V) (d:PyData),Dat H x d->Dat H' x d
 | _,.none,h=>by unfold Dat at h ⊢;exact h
 | _,.bool _,h=>by unfold Dat at h ⊢;exact h
 | _,.int _,h=>by unfold Dat at h ⊢;exact h
 | _,.str _,h=>by unfold Dat at h ⊢;exact h
 | x,.list ds,h=>by
   unfold Dat at h ⊢;obtain⟨a,xs,e,h1,h2⟩:=h;exact⟨a,xs,e,k _ _ h1,DatAll.mono k xs ds h2⟩
 | x,.tuple ds,h=>by
   unfold Dat at h ⊢;obtain⟨a,xs,e,h1,h2⟩:=h;exact⟨a,xs,e,k _ _ h1,DatAll.mono k xs ds h2⟩
 | _,.dict _,h=>by unfold Dat at h;exact h.elim
theorem DatAll.mono{H H':Hp}(k:∀ b o,H b=some o->H' b=some o):∀(xs:List V) (ds:List PyData),DatAll H xs ds->DatAll H' xs ds
 | [],[],_=>by unfold DatAll;trivial
 | x::xs,d::ds,h=>by
   unfold DatAll at h ⊢;exact⟨Dat.mono k x d h.1,DatAll.mono k xs ds h.2⟩
 | [],_::_,h=>by unfold DatAll at h;exact h.elim
 | _::_,[],h=>by unfold DatAll at h;exact h.elim
end
section
variable{X:Cx}{a b:Expr}{ta:TE}{pos:Pos}
theorem Id:OpR X (X0 .IsNot) (λx y H Q=>∃ c d,x = .bl c/\y = .bl d/\Q (.bl (c != d)) H):=by
 intro pins s σ H x y v u Q I rx ry h;obtain⟨c,d,rfl,rfl,q⟩:=h;cases rx;cases ry;exact isnot_bool ⟨.bl (c != d),H,I,rfl,q⟩
end
theorem b_set:Wu "set"=some (.type "set"):=by decide +kernel
section
variable{prog:Wr}{w:Wt}{A:Wx}{E:Wk->Wl->Prop}{s:Wl}
theorem Bf{α β:Type}{f:α->Sem β}{M:Model}:∀(vs:List α) (g:α->β) {Q:List β->Wl->Prop},(∀ v∈vs,∀(Q':β->Wl->Prop),Q' (g v) s->Wo M A (f v) Q' E s)->Q (vs.map g) s->Wo M A (vs.mapM f) Q E s
 | [],g,Q,_,h=>by rw[List.mapM_nil];exact Wn h
 | v::vs,g,Q,hf,h=>by
   rw[List.mapM_cons];exact Wj (hf v (TJ ..) _ (Wj (Bf vs g (λu hu=>hf u (T8 _ hu)) (Wn h))))
def IsPr(h:Heap)(v:Wk)(a b:Int):Prop:=∃ p o n t u,v = .ref p/\h.get? p=some o/\o.cls = .type "tuple"/\o.data = .seq #[.int a t,.int b u] n
theorem C5(v:Wk):firstOfTuple' v=(do
 if (<- typeOf v) != .type "tuple" then return none
 return (<- Builtin.List.listItems v)[0]?):=rfl
theorem IsPr.at{h h':Heap}{v:Wk}{a b:Int}(x:IsPr h v a b)(k:∀ p o,h.get? p=some o->o.cls = .type "tuple"->h'.get? p=some o):IsPr h' v a b:=by
 obtain⟨p,o,n,t1,t2,e,ho,hc,hd⟩:=x;exact⟨p,o,n,t1,t2,e,k p o ho hc,hc,hd⟩
end
def Up(xs:Array Nat):Prop:=∀ i j (hi:i<xs.size) (hj:j<xs.size),i<j->xs[i]<xs[j]
theorem up_list{xs:Array Nat}:Up xs↔xs.toList.Pairwise (·<·):=by
 rw[V6]
 exact⟨λh i j hi hj hij=>by simpa using h i j (by simpa using hi) (by simpa using hj) hij,λh i j hi hj hij=>by
  have:=h i j (by simpa using hi) (by simpa using hj) hij
  rwa [Uv,Uv]at this⟩
theorem Jz{xs:Array Nat}(hu:Up xs)(j:Nat):∀(f lo hi:Nat),hi<=xs.size->lo<=hi->hi - lo<=f->(∀ i (h:i<xs.size),i<lo->xs[i]<j)->(∀ i (h:i<xs.size),hi<=i->j<=xs[i])->
 (SetTable.below.go xs j f lo hi)<=xs.size/\(∀ i (h:i<xs.size),i<SetTable.below.go xs j f lo hi->xs[i]<j)/\(∀ i (h:i<xs.size),SetTable.below.go xs j f lo hi<=i->j<=xs[i]):=by
 intro f
 induction f with
 | zero=>
   intro lo hi h1 h2 h3 h4 h5;have:lo=hi:=by omega
   subst this;unfold SetTable.below.go;exact⟨h1,h4,h5⟩
 | succ f ih=>
   intro lo hi h1 h2 h3 h4 h5;unfold SetTable.below.go;by_cases hlh:lo<hi
   ·rw[iP hlh];have hm:(lo+hi) / 2<xs.size:=by omega
    have e:xs.getD ((lo+hi) / 2) j=xs[(lo+hi) / 2]:=by simp[WR,hm]
    dsimp only;rw[e];by_cases hc:xs[(lo+hi) / 2]<j
    ·rw[iP hc];refine ih _ _ h1 (by omega) (by omega) (λi h hi'=>?_) h5;by_cases z:i=(lo+hi) / 2
     ·subst z;exact hc
     ·exact VP (hu i _ h hm (by omega)) hc
    ·rw[iG hc];refine ih _ _ (by omega) (by omega) (by omega) h4 (λi h hi'=>?_);by_cases z:i=(lo+hi) / 2
     ·subst z;omega
     ·have:=hu _ i hm h (by omega);omega
   ·rw[iG hlh];have:lo=hi:=by omega
    subst this;exact⟨h1,h4,h5⟩
theorem Ei{xs:Array Nat}(hu:Up xs)(j:Nat):SetTable.below xs j<=xs.size/\(∀ i (h:i<xs.size),i<SetTable.below xs j->xs[i]<j)/\(∀ i (h:i<xs.size),SetTable.below xs j<=i->j<=xs[i]):=
 Jz hu j xs.size 0 xs.size (Sw _) (U4 _) (by omega) (λi _ h=>absurd h (VV _)) (λi h h'=>absurd h (Nat.not_lt.mpr h'))
theorem PL{xs:Array Nat}(hu:Up xs){j:Nat}(hn:xs[SetTable.below xs j]?≠some j):Up (SetTable.insertAt xs (SetTable.below xs j) j):=by
 obtain⟨h1,h2,h3⟩:=Ei hu j;rw[up_list,SetTable.toList_insertAt];have hl:=up_list.mp hu
 have hgt:∀ i (h:i<xs.size),SetTable.below xs j<=i->j<xs[i]:=by
  intro i h hi;have:=h3 i h hi;by_cases z:SetTable.below xs j=i
  ·have:xs[i]≠j:=λe=>hn (by rw[z];simp[h,e]);omega
  ·have a:=hu _ i (by omega) h (Vi hi z);have b:=h3 (SetTable.below xs j) (by omega) (Sw _);omega
 rw[Va];refine⟨hl.take,?_,?_⟩
 ·rw[Ul];refine⟨λy hy=>?_,hl.drop⟩;obtain⟨i,hi,e⟩:=U9.mp hy;rw[Vr]at e;have hi':SetTable.below xs j+i<xs.size:=by simp at hi;omega
  have:=hgt _ hi' (To _ _);rw[<-e];simpa using this
 ·intro x hx y hy;obtain⟨i,hi,e⟩:=U9.mp hx;have hib:i<SetTable.below xs j:=by simp at hi;omega
  have hx':x<j:=by
   rw[<-e,List.getElem_take];have:=h2 i (by omega) hib;simpa using this
  rcases T7.mp hy with rfl | hy
  ·exact hx'
  ·obtain⟨k,hk,e2⟩:=U9.mp hy;rw[Vr]at e2;have hk':SetTable.below xs j+k<xs.size:=by simp at hk;omega
   have:=hgt _ hk' (To _ _);have h:xs.toList[SetTable.below xs j+k]'(by simpa using hk')=xs[SetTable.below xs j+k]:=by simp
   rw[h]at e2;omega
structure Tab(w:Wt)(t:XA):Prop where
 up:Up t.place
 no:t.dummies=#[]
 led:t.led=!w.params.followText "set-order"
theorem K0{w:Wt}{t:XA}(T:Tab w t)(j:Nat):t.slot j ≠ .dummy:=by
 unfold SetTable.slot;rw[T.no];dsimp only;split
 ·exact λz=>nomatch z
 ·have:SetTable.has #[] j=false:=rfl;rw[this];exact λz=>nomatch z
theorem PM{w:Wt}{t:XA}(T:Tab w t)(g:Nat->Int)(h:Int):∀(f:Nat) (p:SetTable.Probe) (j:Nat) (d:Option Nat),p.dummy=none->SetTable.probe.go t g h f p=some (.empty j d)->t.slot j = .empty/\d=none:=by
 intro f
 induction f with
 | zero=>intro p j d _ e;unfold SetTable.probe.go at e;cases e
 | succ f ih=>
   intro p j d hp e
   have adv:∀ q:SetTable.Probe,q.dummy=none->(t.advance q).dummy=none:=by
    intro q hq;unfold SetTable.advance;split
    ·exact hq
    ·exact hq
   unfold SetTable.probe.go at e;split at e
   ·rename_i hs;cases e;exact⟨hs,hp⟩
   ·rename_i hs;exact absurd hs (K0 T _)
   ·split at e
    ·cases e
    ·exact ih _ _ _ (adv _ hp) e
theorem K1{w:Wt}{t:XA}(T:Tab w t){h:Int}{j:Nat}{b:Bool}(e:t.freeSlot h=some (j,b)):t.place[SetTable.below t.place j]?≠some j:=by
 unfold SetTable.freeSlot at e;split at e
 ·rename_i j' d hp;unfold SetTable.probe at hp;obtain⟨hs,hd⟩:=PM T _ _ _ _ _ _ rfl hp;subst hd;cases e;unfold SetTable.slot at hs;dsimp only[Option.getD_none]at hs ⊢;split at hs
  ·cases hs
  ·rename_i hn;intro z;exact hn (by rw[z];simp)
 ·cases e
theorem BN{w:Wt}{t:XA}(T:Tab w t)(n:Nat):Tab w (t.standIn n):=by
 refine⟨?_,rfl,T.led⟩;show Up (Array.range n);intro i j hi hj hij;simpa using hij
theorem PN{w:Wt}{t:XA}(T:Tab w t)(n:Nat):Tab w (t.orStandIn n):=by
 unfold SetTable.orStandIn;split
 ·exact T
 ·exact BN T n
theorem MS{w:Wt}{t:XA}(T:Tab w t)(es:Array (Int×Wk))(h:Int)(x:Wk):Tab w (layNew t es h x).2.1:=by
 unfold layNew;split
 ·rename_i j b e;refine PN (t:=(t.put j).1) ⟨PL T.up (K1 T e),?_,T.led⟩ _;show(if SetTable.has t.dummies j=true then _ else t.dummies)=#[];rw[T.no];rfl
 ·exact BN T _
theorem Ie{w:Wt}{t:XA}(T:Tab w t)(es:Array (Int×Wk))(n:Nat):Tab w (YT t es n).2.1:=by
 unfold YT;split
 ·rename_i t' order e;dsimp only;split
  ·unfold SetTable.relaid SetTable.laid at e;obtain⟨owner,_,e⟩:=Option.bind_eq_some_iff.mp e;have e':=oj e;have e1:=congrArg Prod.fst e';subst e1;refine⟨?_,rfl,T.led⟩;rw[up_list]
   have key:∀ l:List Nat,l.Pairwise (·<·)->((l.filterMap λj=>(owner.getD j none).map (j,·)).map (·.1)).Pairwise (·<·):=by
    intro l hl
    have:(l.filterMap λj=>(owner.getD j none).map (j,·)).map (·.1)=l.filter λj=>(owner.getD j none).isSome:=by
     induction l with
     | nil=>rfl
     | cons a l ih=>
       have ih:=ih (Ul.mp hl).2;cases ho:owner.getD a none with
       | none=>rw[VE (by rw[ho];rfl),List.filter_cons_of_neg (by rw[ho];simp),ih]
       | some b=>rw[VF (b:=(a,b)) (by rw[ho];rfl),List.filter_cons_of_pos (by rw[ho];rfl),TY,ih]
    rw[this];exact hl.filter _
   simpa using key _ VQ
  ·exact BN T _
 ·exact BN T _
noncomputable def SetX(prog:Wr)(w:Wt)(h:Heap)(a:Wm)(L:List Int):Prop:=
 ∃ o es ep t,h.get? a=some o/\o.ExactSet/\o.data = .set es ep t/\ElemsOf (intKind prog w) es.toList/\es.size<XU/\t.fits es.size=true/\Tab w t/\(es.toList.map λe=>numOf e.2).Perm L
section
variable{prog:Wr}{w:Wt}{A:Wx}{E:Wk->Wl->Prop}{s:Wl}
theorem SetX.keep{h h':Heap}{a:Wm}{L:List Int}(x:SetX prog w h a L)(k:∀ o,h.get? a=some o->h'.get? a=some o):SetX prog w h' a L:=by
 obtain⟨o,es,ep,t,ho,r⟩:=x;exact⟨o,es,ep,t,k o ho,r⟩
theorem CQ{k:Int}{v:Wk}(h:(intKind prog w).is k v=true):numOf v=k:=by
 obtain⟨t,rfl⟩:=Value.isInt_shape (k:=k) (v:=v) h;rfl
theorem K3{h:Heap}{a:Wm}{o:Obj}{es es':Array (Int×Wk)}{ep:Nat}{t t':XA}{L:List Int}(ho:h.get? a=some o)(hx:o.ExactSet)(hd:o.data = .set es ep t)
 (he:ElemsOf (intKind prog w) es'.toList) (hb:es'.size<XU) (hf:t'.fits es'.size=true) (hT:Tab w t') (hp:(es'.toList.map λe=>numOf e.2).Perm L):
 (h.update a (Obj.putSet es' t')).get? a=some {o with data := .set es' (ep+1) t'}/\SetX prog w (h.update a (Obj.putSet es' t')) a L:=by
 have g:=Tq (Obj.putSet es' t') ho (by rw[putSet_of es' t' hd];rfl);rw[putSet_of es' t' hd]at g;exact⟨g,_,es',ep+1,t',g,hx,rfl,he,hb,hf,hT,hp⟩
theorem Nx{g:Bool->Sem Unit}(hg:∀(b:Bool) (s₁:Wl) (Q':Unit->Wl->Prop),Q' () s₁->Wo (Wp prog w) A (g b) Q' E s₁){a:Wm}{o:Obj}{es es1:Array (Int×Wk)}{ep:Nat}{t t2:XA}{L:List Int}{dm:Bool}
 {R:Option Bool->Wl->Prop} (ho:s.heap.get? a=some o) (hx:o.ExactSet) (hd:o.data = .set es ep t) (he:ElemsOf (intKind prog w) es1.toList) (hb:es1.size<XU) (hf:t2.fits es1.size=true) (hT:Tab w t2) (hp:(es1.toList.map λe=>numOf e.2).Perm L)
 (h:∀ h',Tc a s.heap h'->SetX prog w h' a L->R (some true) {s with heap:=h'}):
 Wo (Wp prog w) A (do
  storeSet a es1 t2
  if (!dm&&t2.tooFull)=true then do
      g (YT t2 es1 (SetTable.grown es1.size)).2.2
      storeSet a (YT t2 es1 (SetTable.grown es1.size)).1 (YT t2 es1 (SetTable.grown es1.size)).2.1
      pure (some true)
   else pure (some true)) R E s:=by
 obtain⟨g1,x1⟩:=K3 (prog:=prog) ho hx hd he hb hf hT hp;have b1:=Tc.update s.heap a (Obj.putSet es1 t2);refine Wj (Yl ho hd ?_ (Y0 hb));by_cases hc:(!dm&&t2.tooFull)=true
 ·rw[iP hc];have hpr:=relayAll_perm t2 es1 (SetTable.grown es1.size);have hfr:=relayAll_fits t2 es1 (SetTable.grown es1.size);have hTr:=Ie hT es1 (SetTable.grown es1.size)
  have hsz:(YT t2 es1 (SetTable.grown es1.size)).1.size<XU:=by
   rw[<-Tr,hpr.length_eq,Tr];exact hb
  obtain⟨_,x2⟩:=K3 (prog:=prog) g1 hx rfl (he.perm hpr) hsz hfr hTr ((hpr.map _).trans hp);exact Wj (hg _ _ _ (Wj (Yl g1 rfl (Wn (h _ (b1.trans (Tc.update _ a _)) x2)) (Y0 hsz))))
 ·rw[iG hc];exact Wn (h _ b1 x1)
theorem SH{a:Wm}{L:List Int}{k:Int}{tk:Tok}{Q:Bool->Wl->Prop}(hX:SetX prog w s.heap a L)(hroom:L.length+1<XU)
 (h:∀ h' b,Tc a s.heap h'->SetX prog w h' a (Xu L k)->Q b {s with heap:=h'}):Wo (Wp prog w) A (setAddHashed a (.int k tk) ((intKind prog w).hash k)) Q E s:=by
 obtain⟨o,es,ep,t,ho,hx,hd,hel,hb,hf,hT,hp⟩:=hX;have hkey:(intKind prog w).is k (.int k tk)=true:=Z4 _ _ _ _;have hsz:es.size=L.length:=by rw[<-hp.length_eq,Se,Tr]
 unfold setAddHashed setAddHashedIn;refine X6 (Wj (XR ho hd hf ?_));dsimp only;rw[byScan_of (knd:=intKind prog w) rfl hb hel,iP rfl];unfold setAddByScan;refine Wj (Wj (XZ (Wj (wpAny_setScan_of hkey ho hd hf hel ?_))))
 have hin:(L.any (· == k))=true↔∃ e∈es.toList,(intKind prog w).is k e.2=true:=by
  rw[UH];constructor
  ·rintro⟨x,hxL,e⟩;obtain⟨y,hy,ey⟩:=TR.mp (hp.mem_iff.mpr hxL);obtain⟨⟨k',hk',_⟩,_⟩:=hel y hy;have:numOf y.2=k':=CQ hk';have:k'=k:=by rw[<-this,ey];simpa using e
   subst this;exact⟨y,hy,hk'⟩
  ·rintro⟨y,hy,hk'⟩;refine⟨k,hp.mem_iff.mp (TR.mpr ⟨y,hy,CQ hk'⟩),by simp⟩
 cases hr:List.findIdx? (λe=>(intKind prog w).is k e.2) es.toList with
 | some j=>
   obtain⟨hj,hpj,_⟩:=List.findIdx?_eq_some_iff_getElem.mp hr;have hL:Xu L k=L:=by unfold Xu;rw[iP (hin.mpr ⟨_,U0 hj,hpj⟩)]
   refine Wn (Wn ?_);exact h s.heap _ (Tc.refl a s.heap) (by rw[hL];exact⟨o,es,ep,t,ho,hx,hd,hel,hb,hf,hT,hp⟩)
 | none=>
   have hL:Xu L k=L++[k]:=by
    unfold Xu;rw[iG];intro z;obtain⟨e,he,hk'⟩:=hin.mp z;have:=List.findIdx?_eq_none_iff.mp hr e he;rw[hk']at this;cases this
   have q1:=layNew_perm t es ((intKind prog w).hash k) (.int k tk);have q2:=layNew_fits t es ((intKind prog w).hash k) (.int k tk);have q3:=MS hT es ((intKind prog w).hash k) (.int k tk);generalize layNew t es ((intKind prog w).hash k) (.int k tk)=lay at q1 q2 q3 ⊢;obtain⟨es1,t1,dm,gv⟩:=lay;dsimp only at q1 q2 q3 ⊢;rw[VC]at q1;have he1:ElemsOf (intKind prog w) es1.toList:=(hel.push hkey rfl).perm q1
   have hz1:es1.size<XU:=by
    rw[<-Tr,q1.length_eq,Sl,Tr,hsz];simpa using hroom
   have hp1:(es1.toList.map λe=>numOf e.2).Perm (Xu L k):=by
    rw[hL];refine(q1.map _).trans ?_;rw[Sz];exact hp.append_right _
   have hgw:∀(b:Bool) (s₁:Wl) (Q':Unit->Wl->Prop),Q' () s₁->Wo (Wp prog w) A (match b with | true=>rule "set.scan.the-table-gave-way" | false=>pure ()) Q' E s₁:=
    λb s₁ Q' hq=>by cases b<;>first | exact Wn hq | exact XZ hq
   refine Wj (hgw _ _ _ ?_);split
   ·refine Wj ?_;rw[hashByValue_scannable 8 rfl];refine Wn (Nx hgw ho hx hd he1 hz1 q2 q3 hp1 λh' hsb hX'=>?_);exact Wn (h h' _ hsb hX')
   ·refine Wj (Wn ?_);rw[iP rfl];refine Nx hgw ho hx hd he1 hz1 q2 q3 hp1 λh' hsb hX'=>?_;exact Wn (h h' _ hsb hX')
end
section
variable{prog:Wr}{w:Wt}{A:Wx}{R:Result->Wl->Prop}{I:Wm}{fp wr:List Wm}{G:Array YO->Array YO->Prop}{n:Nat}{P:Nat->Wk->Prop}{St:Nat->Wl->Prop}
theorem RF(W:WalksS prog w A.in1 I fp wr G n P St)(S:Wm)(hSf:S∉fp)(val:Nat->Int)(hval:∀ i v,P i v->∃ t,v = .int (val i) t)(hb:n+1<XU):
 ∀(k i:Nat) (s:Wl),i+k=n->St i s->SetX prog w s.heap S (Xc val i)->
  (∀ s',Moved (S::wr) G s s'->SetX prog w s'.heap S (Xc val n)->R (.ok (.ret .none)) s')->
  codeAny (Wp prog w) A (.builtin "set.update.loop" ⟨[.ref S,.ref I],[]⟩) R s:=by
 have nw:S∉wr:=λz=>hSf (W.sub _ z);have up:∀ b∈wr,b∈S::wr:=λb hb=>T8 _ hb;intro k
 induction k with
 | zero=>
   intro i s hk hst hX hR;obtain rfl:i=n:=hk;refine XJ F.entry_set_update_loop ?_;rw[Around.under_plainId F.plain_set_update_loop _];exact Wj (m:=pyNext (.ref I)) (W.done s _ _ hst λs' hm=>Wn (hR s' (hm.mono up) (hX.keep λo e=>hm.heap S o nw e)))
 | succ k ih=>
   intro i s hk hst hX hR;refine XJ F.entry_set_update_loop ?_;rw[Around.under_plainId F.plain_set_update_loop _];refine Wj (m:=pyNext (.ref I)) (W.item i s _ _ (by omega) hst λv s1 hP st1 hm=>?_);obtain⟨t,rfl⟩:=hval i v hP;refine Wj (m:=holding [Value.int (val i) t] (setAdd S (.int (val i) t))) (X6 ?_);unfold setAdd;have X1:SetX prog w s1.heap S (Xc val i):=hX.keep λo e=>hm.heap S o nw e;have room:(Xc val i).length+1<XU:=by have:=Xv val i;omega
   refine X6 (Wj ((intKind prog w).pyHash (k:=val i) (Z4 _ _ _ _) ?_));refine SH (s:={s1 with toks:=s1.toks+1}) X1 room λh2 b hsb X2=>?_;rw[<-firstMet_succ]at X2;have oth:∀ b o,b≠S->s1.heap.get? b=some o->h2.get? b=some o:=λb o hne e=>(hsb.2 b hne).trans e;refine Wn ⟨Xd F.plain_set_update_loop _,ih (i+1) _ (by omega) (W.frame _ s1 _ _ st1 (UK _) λb hbf o e=>oth b o (λz=>hSf (z▸hbf)) e) X2 λs3 m3 X3=>?_⟩;exact hR s3 (Moved.trans W.gtrans ((hm.mono up).then_heap (UK _) λb o hb e=>oth b o (λz=>hb (by rw[z];exact TJ)) e) m3) X3
end
section
variable{prog:Wr}{w:Wt}{A:Wx}{E:Wk->Wl->Prop}{s:Wl}
abbrev Aj(w:Wt):Obj:={cls := .type "set",dict:=none,data := .set #[] 0 (.fresh 0 0 (!w.params.followText "set-order"))}
theorem RG(a:Wk){Q₁:Wk->Wl->Prop}(h:Q₁ (.ref s.heap.objs.size) {s with heap:=s.heap.push (Aj w)}):codeAny (Wp prog w) A (.call (.builtin "set.__new__") ⟨[.type "set",a],[]⟩) (wants Q₁ E) s:=by
 refine YI ?_;show Wo _ A.in1 (checkBuiltinCall "set.__new__" ⟨[.type "set",a],[]⟩ >>= λ_=>again (.builtin "set.__new__" ⟨[.type "set",a],[]⟩)) _ _ s;refine Wj (Yx (F.newCall_set_1 a) (Wn ⟨Xd F.plain_set_new _,XJ F.entry_set_new ?_⟩));rw[Around.under_plainId F.plain_set_new _];unfold Builtin.«set.__new__» Builtin.Frozenset.newClass;have sub:=sub_set_self;obtain⟨hp,g,d,tk,os⟩:=s;dsimp only
 wp_walk
 refine Y9 (Wn ?_);dsimp only;simp only[newObj];exact Wj (wpAny_alloc (Wn (Wn h)))
theorem K4(h:Heap):SetX prog w (h.push (Aj w)) h.objs.size []:=
 ⟨_,#[],0,_,Sr _ rfl,⟨rfl,rfl,rfl⟩,rfl,λe he=>by simp at he,by decide,rfl,⟨λi j hi=>absurd hi (VV _),rfl,rfl⟩,by simp⟩
set_option maxHeartbeats 8000000 in
theorem Ny{l:Wm}{items:Array Wk}{ns:List Int}{Q:Wk->Wl->Prop}(hh:A.handled=none)(hl:s.heap.IsList l items)(hi:IntsAre items.toList ns)(hb:items.size+1<XU)
 (h:∀(h':Heap) (tk:Nat),SetX prog w h' s.heap.objs.size (Xc (λi=>ns.getD i 0) items.size)->(∀ b o,b<s.heap.objs.size->s.heap.get? b=some o->h'.get? b=some o)->Q (.ref s.heap.objs.size) {s with heap:=h',toks:=tk}):
 Wo (Wp prog w) A (call (.type "set") [.ref l]) Q E s:=by
 obtain⟨c,tl,hmro⟩:=F.called_set.mro;have made:=F.called_set.made;have sub:=F.called_set.sub;have u1:=F.called_set.notType;have u2:=F.called_set.canCreate;have u3:=F.typeCall_set_1 (.ref l);refine Ye (YI ?_);show Wo _ _ (callAny (.type "set") _) _ _ _;refine Wn ⟨Code.quiet_builtin _ (by decide +kernel),XJ F.entry_type_call ?_⟩;rw[Around.under_plain (YM "set" [.ref l] []) rfl]
 repeat (any_goals (first | assumption | wp_step))
 refine XQ (RG (.ref l) (E:=E) (Q₁:=λobj s₁=>obj = .ref s.heap.objs.size/\s₁={s with heap:=s.heap.push (Aj w)}) ⟨rfl,rfl⟩) λr s₁ hr=>?_;cases r with
 | error e=>exact hr
 | ok fl=>
   cases fl with
   | ret obj=>
     obtain⟨rfl,rfl⟩:=hr;have gS:(s.heap.push (Aj w)).get? s.heap.objs.size=some (Aj w):=Sr _ rfl;have hT:Shared.TypeIs {s with heap:=s.heap.push (Aj w)} (.ref s.heap.objs.size) "set":=⟨_,gS,rfl⟩
     have u4:=F.called_set.init.lookup;have u5:=F.called_set.init.bind (.ref s.heap.objs.size)
     repeat (any_goals (first | assumption | wp_step))
     refine XQ (YU (R:=wants (λr s₂=>r = .none/\∃ h' tk,s₂={s with heap:=h',toks:=tk}/\SetX prog w h' s.heap.objs.size (Xc (λi=>ns.getD i 0) items.size)/\
      (∀ b o,b<s.heap.objs.size->s.heap.get? b=some o->h'.get? b=some o)) E) F.called_set.init.plain F.entry_set_init (Yu hT ?_)) λr₂ s₂ hr₂=>?_
     ·obtain⟨⟨cl,di,da,sl⟩,ol,cl',nl,da'⟩:=hl;simp only at cl' da';subst cl' da';have hol:(s.heap.push (Aj w)).get? l=some {cls := .type "list",dict:=di,data := .seq items nl,slots:=sl}:=Sh _ ol;have v1:=F.sub_list_set;have v2:=F.sub_list_frozenset;have v3:(Value.type "list" == Value.type "dict")=false:=by decide
      have hl1:(s.heap.push (Aj w)).IsList l items:=⟨_,hol,rfl,nl,rfl⟩
      unfold Builtin.«set.__init__» noKeywords Builtin.Frozenset.updateFrom;generalize hPI:pyIter=PI
      wp_walk
      subst hPI;refine Xj hl1 (Wj (YV ?_));have lS:l<s.heap.objs.size:=Sj ol;have z1:(s.heap.push (Aj w)).objs.size=s.heap.objs.size+1:=Tf _ _;have lI:l≠(s.heap.push (Aj w)).objs.size:=by rw[z1];exact Sx (UM lS)
      have hSf:s.heap.objs.size∉[(s.heap.push (Aj w)).objs.size,l]:=by
       rw[z1];intro z;rcases T7.mp z with z | z
       ·exact absurd z (Sx (VG _))
       ·exact absurd (Sv.mp z) (V0 lS)
      have hval:∀(i:Nat) (v:Wk),items[i]?=some v->∃ t,v = .int ((λi=>ns.getD i 0) i) t:=λi v hv=>IntsAre.int_at hi i v (by rw[UG];exact hv)
      refine RF ((Walks.list (by simp[hh]) _ l lI items).toS) s.heap.objs.size hSf (λi=>ns.getD i 0) hval hb items.size 0 _ (Ui _)
       ⟨⟨_,Sr _ rfl,rfl,rfl⟩,hl1.push _⟩ ((K4 s.heap).keep λo e=>Sh _ e) λs' hm X'=>?_
      obtain⟨h',g',d',tk',os'⟩:=s';obtain rfl:g'=s.gens:=hm.gens;obtain rfl:d'=s.drawn:=hm.drawn;obtain rfl:os'=s.os:=hm.os;refine Wn (Wn ⟨rfl,h',tk',rfl,X',λb o hb e=>hm.heap b o (λz=>?_) (Sh _ (Sh _ e))⟩);rcases T7.mp z with z | z
      ·exact absurd z (Sx hb)
      ·have z':=Sv.mp z;rw[z1]at z';exact absurd z' (Sx (UM hb))
     ·cases r₂ with
      | error e=>exact hr₂
      | ok fl₂=>
        cases fl₂ with
        | ret r=>
          obtain⟨rfl,h',tk,rfl,X',hk'⟩:=hr₂
          repeat (any_goals (first | assumption | wp_step))
          exact h _ _ X' hk'
        | _=>exact hr₂.elim
   | _=>exact hr.elim
end
namespace SiF
theorem slot_si_next:Slot "set_iterator" "__next__" "set_iterator.__next__":=
 .of (owner:="set_iterator") (n:="__next__") (by rw[Z0,YN];kernel_rfl) (by decide +kernel) (by decide +kernel) (by decide +kernel)
  (by first | exact .inl (by decide +kernel) | exact .inr (by decide +kernel)) (by rw[Z5];kernel_rfl)
theorem entry_si_next:entryFor table "set_iterator.__next__"=some Builtin.«set_iterator.__next__»:=entryFor_of_fast (by kernel_rfl)
theorem args_si_next(a:Wk):argsOk "set_iterator.__next__" ⟨[a],[]⟩:=by unfold argsOk;kernel_rfl
theorem slot_si_iter:Slot "set_iterator" "__iter__" "set_iterator.__iter__":=
 .of (owner:="set_iterator") (n:="__iter__") (by rw[Z0,YN];kernel_rfl) (by decide +kernel) (by decide +kernel) (by decide +kernel)
  (by first | exact .inl (by decide +kernel) | exact .inr (by decide +kernel)) (by rw[Z5];kernel_rfl)
theorem entry_si_iter:entryFor table "set_iterator.__iter__"=some Builtin.«dict_keyiterator.__iter__»:=Z6 (id':="dict_keyiterator.__iter__") (by kernel_rfl) rfl (by decide +kernel) (by kernel_rfl)
theorem args_si_iter(a:Wk):argsOk "set_iterator.__iter__" ⟨[a],[]⟩:=by unfold argsOk;kernel_rfl
theorem entry_set_iter:entryFor table "set.__iter__"=some Builtin.«frozenset.__iter__»:=Z6 (id':="frozenset.__iter__") (by kernel_rfl) rfl (by decide +kernel) (by kernel_rfl)
end SiF
theorem Bg{α:Type}:∀{l:List α} {i:Nat} (h:i<l.length),(l[i]::l.eraseIdx i).Perm l
 | a::l,0,h => .rfl
 | a::l,i+1,h=>(List.Perm.swap a _ _).trans ((Bg (l:=l) (i:=i) (by simpa using h)).cons a)
section
variable{prog:Wr}{w:Wt}{A:Wx}{E:Wk->Wl->Prop}
theorem MU{src:Source}{n:Nat}(hn:n≠0){s:Wl}{Q:Nat->Wl->Prop}(h:∀ i d,i<n->Q i {s with drawn:=d}):Wo (Wp prog w) A (choose src n) Q E s:=by
 intro Γ p hΓ;show Sem.wp _ _ (.choose src n .pure) _ _ _ _;rw[Sem.wp_choose];exact⟨hn,h _ _ (WU _ (Nat.pos_of_ne_zero hn))⟩
theorem Nz{α:Type}:∀(n:Nat) (xs:List α) (s:Wl) (Q:List α->Wl->Prop),xs.length=n->(∀ ys d,ys.Perm xs->Q ys {s with drawn:=d})->Wo (Wp prog w) A (ZG n xs) Q E s
 | 0,xs,s,Q,hl,h=>by
   unfold ZG;have:xs=[]:=Uw hl;subst this;exact Wn (h [] s.drawn .rfl)
 | n+1,[],s,Q,hl,h=>by cases hl
 | n+1,x::xs,s,Q,hl,h=>by
   unfold ZG;refine Wj (MU (by simp) λi d hi=>?_);rw[Si hi];dsimp only;refine Wj (Nz n _ _ _ (by rw[V2 hi];simp at hl ⊢;omega) λys d' hp=>Wn (h _ d' ?_));exact((hp.cons _)).trans (Bg hi)
end
theorem HR{α:Type}(f:Nat->Nat):∀(n k:Nat) (left:List α) (out:Array α),left.length=n->(pickOrder.go f n k left out).toList.Perm (out.toList++left)
 | 0,k,left,out,hl=>by
   have:left=[]:=Uw hl;subst this;unfold pickOrder.go;simp
 | n+1,k,left,out,hl=>by
   unfold pickOrder.go;have hi:f k % left.length<left.length:=WU _ (by omega);rw[Si hi];dsimp only;refine(HR f n (k+1) _ _ (by rw[V2 hi];omega)).trans ?_;rw[VC,Vm];exact List.Perm.append_left _ (Bg hi)
theorem Ig{α:Type}(f:Nat->Nat)(xs:Array α):(YA f xs).toList.Perm xs.toList:=by
 unfold YA;simpa using HR f xs.size 0 xs.toList #[] (by simp)
end L2
set_option maxHeartbeats 400000
namespace L2
open PySem PySem.Spec PyProof.Rows
def SetAt(w:Wt)(h:Heap)(a:Wm)(es:Array (Int×Wk))(ep:Nat)(t:XA):Prop:=∃ o,h.get? a=some o/\o.cls = .type "set"/\o.data = .set es ep t/\t.fits es.size=true/\Tab w t
theorem SetAt.keep{w:Wt}{h h':Heap}{a:Wm}{es:Array (Int×Wk)}{ep:Nat}{t:XA}(x:SetAt w h a es ep t)(k:∀ o,h.get? a=some o->h'.get? a=some o):SetAt w h' a es ep t:=let ⟨o,e,r⟩:=x;⟨o,k o e,r⟩
def slotAt(t:XA)(i:Nat):Nat:=if i=0 then 0 else t.place.getD (i - 1) 0+1
theorem GE{w:Wt}{t:XA}(T:Tab w t){i:Nat}(hi:i<=t.place.size):SetTable.below t.place (slotAt t i)=i:=by
 obtain⟨h1,h2,h3⟩:=Ei T.up (slotAt t i);by_cases z:i=0
 ·subst z;have e:slotAt t 0=0:=rfl;rw[e]at h2 h1 ⊢;by_cases q:SetTable.below t.place 0=0
  ·exact q
  ·have:=h2 0 (by omega) (by omega);omega
 ·have e:slotAt t i=t.place[i - 1]'(by omega)+1:=by unfold slotAt;rw[iG z];simp[WR,show i - 1<t.place.size by omega]
  rw[e]at h1 h2 h3 ⊢;rcases Nat.lt_trichotomy (SetTable.below t.place (t.place[i - 1]'(by omega)+1)) i with q | q | q
  ·have:=h3 (i - 1) (by omega) (by omega);omega
  ·exact q
  ·have hi2:i<t.place.size:=by omega
   have a:=h2 i hi2 q;have b:=T.up (i - 1) i (by omega) hi2 (by omega);omega
inductive Way(w:Wt)(h:Heap)(T0 S:Wm)(es:Array (Int×Wk))(ep:Nat)(t:XA)(fs:List (Int×Wk))(i:Nat):Wk->Prop where
 | text (hw:w.params.followText "set-order"=true) (hf:fs=(YA (w.params.setOrder S ep) es).toList):Way w h T0 S es ep t fs i (.int 0 0)
 | table (hw:w.params.followText "set-order"=false) (hd:(!t.plain&&decide (es.size>1))=false) (hf:fs=es.toList):Way w h T0 S es ep t fs i (.int (slotAt t i:Nat) 0)
 | drawn (hw:w.params.followText "set-order"=false) (pl:List Nat) (o:Obj) (n:Nat) (ho:h.get? T0=some o) (hd:o.data = .seq (pl.map λk=>Value.int (k:Nat) 0).toArray n) (hl:pl.length=fs.length)
    (hf:∀(k:Nat) p,pl[k]?=some p->es[p]?=fs[k]?):Way w h T0 S es ep t fs i (.ref T0)
def Sit(w:Wt)(h:Heap)(T0 I S:Wm)(es:Array (Int×Wk))(ep:Nat)(t:XA)(fs:List (Int×Wk))(i:Nat):Prop:=
 ∃ o first,h.get? I=some o/\o.cls = .type "set_iterator"/\o.data = .fields #[first,.int (i:Nat) 0,.ref S,.int (es.size:Nat) 0,.int (ep:Nat) 0]/\Way w h T0 S es ep t fs i first
section
variable{prog:Wr}{w:Wt}{A:Wx}{E:Wk->Wl->Prop}{s:Wl}{T0 I S:Wm}{es:Array (Int×Wk)}{ep:Nat}{t:XA}{fs:List (Int×Wk)}{i:Nat}
theorem Sit.typeIs(x:Sit w s.heap T0 I S es ep t fs i):s.TypeIs (.ref I) "set_iterator":=let ⟨o,_,e,c,_⟩:=x;⟨o,e,c⟩
theorem Ak{b:Bool}(hw:w.params.followText "set-order"=b){Q:Bool->Wl->Prop}(h:Q b s):Wo (Wp prog w) A setsByText Q E s:=by
 unfold setsByText;refine Wj (Y9 (Wn ?_));show Q (w.params.followText "set-order") s;rw[hw];exact h
theorem Bo{sl:Nat}{Q:Option (Wk×Nat)->Wl->Prop}(y:SetAt w s.heap S es ep t)(hw:w.params.followText "set-order"=true)(h:Q (((YA (w.params.setOrder S ep) es)[i]?).map λe=>(e.2,sl)) s):
 Wo (Wp prog w) A (setNext S sl i ep) Q E s:=by
 obtain⟨oS,hoS,hcS,hdS,hf,T⟩:=y;unfold setNext;refine Wj (XR hoS hdS hf ?_);dsimp only;refine Wj (Ak hw ?_);rw[iP rfl,iG (by simp)];refine Wj ?_;unfold setWalk;refine Wj (XR hoS hdS hf ?_);dsimp only;refine Wj (Ak hw ?_);rw[iP rfl];refine Wj (Y9 (Wn ?_));exact Wn h
theorem BW{Q:Option (Wk×Nat)->Wl->Prop}(y:SetAt w s.heap S es ep t)(hw:w.params.followText "set-order"=false)(hd:(!t.plain&&decide (es.size>1))=false)(hi:i<=es.size)
 (h:Q (match es[i]?,t.place[i]? with | some (_,x),some j=>some (x,j+1) | _,_=>none) s):Wo (Wp prog w) A (setNext S (slotAt t i) i ep) Q E s:=by
 obtain⟨oS,hoS,hcS,hdS,hf,T⟩:=y
 have hsz:t.place.size=es.size:=by
  simp only[SetTable.fits,Sf,bQ]at hf;exact hf.1
 unfold setNext;refine Wj (XR hoS hdS hf ?_);dsimp only;refine Wj (Ak hw ?_);rw[iG Su];show Wo _ _ (if (!t.plain&&decide (es.size>1))=true then _ else _) _ _ _;rw[hd,iG Su];show Wo _ _ ((if (!t.led&&!es.isEmpty)=true then Yy "set:maker-not-led" else pure ()) >>= _) _ _ _;rw[T.led,hw];refine Wj ?_;rw[show(!(!false)&&!es.isEmpty)=false from rfl,iG Su];refine Wn (Wn ?_);rw[GE T (by omega)];exact h
theorem Ih{e:Int×Wk}{Q:Option Wk->Wl->Prop}(x:Sit w s.heap T0 I S es ep t fs i)(y:SetAt w s.heap S es ep t)(hl:fs.length=es.size)(hi:fs[i]?=some e)
 (hQ:∀ h',Tc I s.heap h'->Sit w h' T0 I S es ep t fs (i+1)->Q (some e.2) {s with heap:=h'}):Wo (Wp prog w) A (pyNext (.ref I)) Q E s:=by
 obtain⟨o,first,ho,hc,hd,W⟩:=id x;obtain⟨oS,hoS,hcS,hdS,hf,T⟩:=id y;have hlt:i<es.size:=by rw[<-hl];exact(gM hi).1
 unfold pyNext;refine Wj (Xe (X8 (name:=Str.ofString "__next__") x.typeIs SiF.slot_si_next (X5 SiF.slot_si_next x.typeIs SiF.entry_si_next ?_ (SiF.args_si_next _))));unfold Builtin.«set_iterator.__next__»;refine Wj (m:=slotArgs "__next__" 0 ⟨[.ref I],[]⟩) (Wn ?_);refine Wj (Z7 ho hd ?_);dsimp only;refine Wj (Xo hoS hdS hf ?_);rw[iG (by simp)]
 have step2:∀(nx:Nat) (v:Wk),v=e.2->(∀ h',(∀ T o,T≠I->s.heap.get? T=some o->h'.get? T=some o)->Way w h' T0 S es ep t fs (i+1) (.int nx 0))->
  Wo (Wp prog w) A.in1 (do Ym (.ref I) 0 (rawInt nx);Ym (.ref I) 1 (rawInt ((i:Int)+1));ret v) (λfin s'=>∃ v,fin=Fin.done (Flow.ret v)/\Wo (Wp prog w) A (pure (some v)) Q E s')
   (λe s'=>Wo (Wp prog w) A (do let __do_lift <- isInstance e (Value.type "StopIteration");if __do_lift=true then pure none else throw e) Q E s') s:=by
  intro nx v hv hW;subst hv;refine Wj (XN ho hd (by simp) ?_);have g1:=Tq (Obj.mapFields (·.setIfInBounds 0 (rawInt nx))) ho (Obj.isFreed_of_fields (Obj.data_mapFields hd _));refine Wj (XN g1 (Obj.data_mapFields hd _) (by simp) ?_);have g2:=Tq (Obj.mapFields (·.setIfInBounds 1 (rawInt ((i:Int)+1)))) g1 (Obj.isFreed_of_fields (Obj.data_mapFields (Obj.data_mapFields hd _) _));refine Wn ⟨_,rfl,Wn (hQ _ ((Tc.update _ I _).trans (Tc.update _ I _)) ⟨_,_,g2,?_,?_,hW _ λT o hT e=>?_⟩)⟩
  ·exact((Obj.cls_mapFields ..).trans (Obj.cls_mapFields ..)).trans hc
  ·rw[Obj.data_mapFields (Obj.data_mapFields hd _)];simp[rawInt]
  ·exact(Tv _ _ (Ne.symm hT)).trans ((Tv _ _ (Ne.symm hT)).trans e)
 cases W with
 | text hw hf'=>
   dsimp only;refine Wj (Bo (i:=i) (ep:=ep) y hw ?_);have:(YA (w.params.setOrder S ep) es)[i]?=some e:=by rw[<-UG,<-hf'];exact hi
   rw[this];exact step2 0 e.2 rfl λh' _ => .text hw hf'
 | table hw hd' hf'=>
   dsimp only;refine Wj (BW (i:=i) (ep:=ep) y hw hd' (by omega) ?_)
   have hsz:t.place.size=es.size:=by
    simp only[SetTable.fits,Sf,bQ]at hf;exact hf.1
   have e1:es[i]?=some e:=by rw[<-UG,<-hf'];exact hi
   have e2:t.place[i]?=some (t.place[i]'(by omega)):=by simp[show i<t.place.size by omega]
   rw[e1,e2];refine step2 _ e.2 rfl λh' _=>?_;have:t.place[i]'(by omega)+1=slotAt t (i+1):=by unfold slotAt;rw[iG (by omega)];simp[WR,show i<t.place.size by omega]
   rw[this];exact .table hw hd' hf'
 | drawn hw pl oT nT hoT hdT hlT hfT=>
   dsimp only;refine Wj (XE hoT hdT ?_);have hip:i<pl.length:=by omega
   have e1:pl[i]?=some (pl[i]'hip):=by simp
   have e2:(pl.map λk=>Value.int (k:Nat) 0).toArray[(i:Int).toNat]?=some (.int ((pl[i]'hip:Nat):Int) 0):=by simp[hip]
   dsimp only;rw[e2];dsimp only;have e3:es[pl[i]'hip]?=some e:=by rw[hfT i _ e1];exact hi
   refine Wj ?_;unfold setNextDrawn;refine Wj (XR hoS hdS hf ?_);dsimp only;rw[iG (by simp),VB,e3];refine Wn (Wj (XN ho hd (by simp) ?_));have g1:=Tq (Obj.mapFields (·.setIfInBounds 1 (rawInt ((i:Int)+1)))) ho (Obj.isFreed_of_fields (Obj.data_mapFields hd _));have hTI:T0≠I:=λz=>by subst z;rw[ho]at hoT;cases hoT;rw[hd]at hdT;cases hdT
   refine Wn ⟨_,rfl,Wn (hQ _ (Tc.update _ I _) ⟨_,_,g1,(Obj.cls_mapFields ..).trans hc,?_,.drawn hw pl oT nT ((Tv _ _ (Ne.symm hTI)).trans hoT) hdT hlT hfT⟩)⟩;rw[Obj.data_mapFields hd];simp[rawInt]
theorem K5{Q:Option Wk->Wl->Prop}(hh:A.handled=none)(hQ:∀ h',WG I s.heap h'->Q none {s with heap:=h'})(k:Sem Unit)(hk:∀(Q':Unit->Wl->Prop) (E':Wk->Wl->Prop),(∀ h',Tc I s.heap h'->Q' () {s with heap:=h'})->Wo (Wp prog w) A.in1 k Q' E' s):
 Wo (Wp prog w) A.in1 (k >>= λ_=>newExc (.type "StopIteration") [] >>= λe=>raiseNew (α:=Fin) e) (λfin s'=>∃ v,fin=Fin.done (Flow.ret v)/\Wo (Wp prog w) A (pure (some v)) Q E s')
  (λe s'=>Wo (Wp prog w) A (do let __do_lift <- isInstance e (Value.type "StopIteration");if __do_lift=true then pure none else throw e) Q E s') s:=by
 refine Wj (hk _ _ λh' hs=>?_);refine Wj ?_;simp only[newExc,newTuple];refine Wj (XG ?_ (by size_fits));refine Wj (m:=Xs _ _) (Yx (a:=Value.none) (by first | rfl | (simp only[Xs];rfl)) ?_);refine XG ?_ (by size_fits);simp only[raiseNew];refine Wj (wpAny_handled ?_);rw[show A.in1.handled=none from hh];refine Wj (Wn (wpAny_throw ?_));refine Wj (YB (T:="StopIteration") (b:=true) ⟨_,Sr _ rfl,rfl⟩ Z8 ?_);exact Wn (hQ _ ((hs.extBut.push _).push _))
theorem K6{Q:Option Wk->Wl->Prop}(hh:A.handled=none)(x:Sit w s.heap T0 I S es ep t fs es.size)(y:SetAt w s.heap S es ep t)(hl:fs.length=es.size)
 (hQ:∀ h',WG I s.heap h'->Q none {s with heap:=h'}):Wo (Wp prog w) A (pyNext (.ref I)) Q E s:=by
 obtain⟨o,first,ho,hc,hd,W⟩:=id x;obtain⟨oS,hoS,hcS,hdS,hf,T⟩:=id y;unfold pyNext;refine Wj (Xe (X8 (name:=Str.ofString "__next__") x.typeIs SiF.slot_si_next (X5 SiF.slot_si_next x.typeIs SiF.entry_si_next ?_ (SiF.args_si_next _))));unfold Builtin.«set_iterator.__next__»;refine Wj (m:=slotArgs "__next__" 0 ⟨[.ref I],[]⟩) (Wn ?_);refine Wj (Z7 ho hd ?_);dsimp only;refine Wj (Xo hoS hdS hf ?_);rw[iG (by simp)];have one:∀(Q':Unit->Wl->Prop) (E':Wk->Wl->Prop),(∀ h',Tc I s.heap h'->Q' () {s with heap:=h'})->Wo (Wp prog w) A.in1 (Ym (.ref I) 2 .none) Q' E' s:=λQ' E' q=>XN ho hd (by simp) (q _ (Tc.update ..));cases W with
 | text hw hf'=>
   dsimp only;refine Wj (Bo (i:=es.size) (ep:=ep) y hw ?_);have:(YA (w.params.setOrder S ep) es)[es.size]?=none:=by rw[<-UG,<-hf'];exact Uq (by omega)
   rw[this];exact K5 hh hQ _ one
 | table hw hd' hf'=>
   dsimp only;refine Wj (BW (i:=es.size) (ep:=ep) y hw hd' (Sw _) ?_);rw[show es[es.size]?=none by simp];exact K5 hh hQ _ one
 | drawn hw pl oT nT hoT hdT hlT hfT=>
   dsimp only;refine Wj (XE hoT hdT ?_);have e2:(pl.map λk=>Value.int (k:Nat) 0).toArray[((es.size:Nat):Int).toNat]?=none:=by simp;omega
   dsimp only;rw[e2];dsimp only
   have two:=K5 (prog:=prog) (w:=w) (A:=A) (E:=E) (s:=s) (I:=I) (Q:=Q) hh hQ (Ym (.ref I) 0 (rawInt 0) >>= λ_=>Ym (.ref I) 2 .none) λQ' E' q=>by
    refine Wj (XN ho hd (by simp) ?_);have g1:=Tq (Obj.mapFields (·.setIfInBounds 0 (rawInt 0))) ho (Obj.isFreed_of_fields (Obj.data_mapFields hd _));exact XN g1 (Obj.data_mapFields hd _) (by simp) (q _ ((Tc.update _ I _).trans (Tc.update _ I _)))
   rw[bind_assoc]at two;exact two
theorem Ii{Q:Wk->Wl->Prop}(x:Sit w s.heap T0 I S es ep t fs i)(h:Q (.ref I) s):Wo (Wp prog w) A (pyIter (.ref I)) Q E s:=by
 refine Yn x.typeIs SiF.slot_si_iter (X5 SiF.slot_si_iter x.typeIs SiF.entry_si_iter ?_ (SiF.args_si_iter _));show Wo _ _ (ret (.ref I)) _ _ s;exact Wn ⟨_,rfl,"set_iterator",_,x.typeIs,SiF.slot_si_next.lookup,h⟩
theorem Sit.keep{h h':Heap}(x:Sit w h T0 I S es ep t fs i)(k:∀ b,b=I\/b=T0->∀ o,h.get? b=some o->h'.get? b=some o):Sit w h' T0 I S es ep t fs i:=by
 obtain⟨o,first,ho,hc,hd,W⟩:=x;refine⟨o,first,k I (.inl rfl) _ ho,hc,hd,?_⟩;cases W with
 | text hw hf=>exact .text hw hf
 | table hw hp hf=>exact .table hw hp hf
 | drawn hw pl oT n hoT hdT hl hf=>exact .drawn hw pl oT n (k T0 (.inr rfl) _ hoT) hdT hl hf
theorem RH(hh:A.handled=none)(T0 I S:Wm)(hne:S≠I)(es:Array (Int×Wk))(ep:Nat)(t:XA)(fs:List (Int×Wk))(hl:fs.length=es.size):
 Walks prog w A I [I,S,T0] [I] es.size (λi v=>∃ e,fs[i]?=some e/\e.2=v) (λi h=>Sit w h T0 I S es ep t fs i/\SetAt w h S es ep t) where
 sub:=λb hb=>by simp at hb;simp[hb]
 frame:=λ_ _ _ st hk=>⟨st.1.keep λb hb o e=>hk b (by rcases hb with rfl | rfl<;>simp) o e,st.2.keep λo e=>hk S (by simp) o e⟩
 item:=λi s Q E hi st hQ=>by
  have hi':i<fs.length:=by omega
  refine Ih (e:=fs[i]) st.1 st.2 hl (by simp) λh' hs' x'=>?_;exact hQ fs[i].2 h' s.toks ⟨fs[i],by simp,rfl⟩ ⟨x',st.2.keep λo e=>hs'.extBut _ _ hne e⟩ λb o hb e=>hs'.extBut b o (λh=>hb (by simp[h])) e
 done:=λs Q E st hQ=>K6 hh st.1 st.2 hl λh' he'=>hQ h' s.toks λb o hb e=>he' b o (λh=>hb (by simp[h])) e
 self:=λ_ _ _ _ st hQ=>Ii st.1 hQ
theorem RI{Q:Wk->Wl->Prop}(y:SetAt w s.heap S es ep t)(hz:es.size<=Ws)
 (hQ:∀ h' d I T0 fs,(∀ b o,s.heap.get? b=some o->h'.get? b=some o)->s.heap.objs.size<=I->s.heap.objs.size<=T0->h'.objs.size=I+1->fs.Perm es.toList->Sit w h' T0 I S es ep t fs 0->Q (.ref I) {s with heap:=h',drawn:=d}):Wo (Wp prog w) A (pyIter (.ref S)) Q E s:=by
 obtain⟨oS,hoS,hcS,hdS,hf,T⟩:=id y;have hT:s.TypeIs (.ref S) "set":=⟨oS,hoS,hcS⟩
 refine Yn hT F.slot_set_iter (X5 F.slot_set_iter hT SiF.entry_set_iter ?_ (F.args_set_iter_1 _));unfold Builtin.«frozenset.__iter__»;refine Wj (m:=Builtin.Frozenset.slot0 "__iter__" ⟨[.ref S],[]⟩) (Wn ?_);refine Wj (m:=Builtin.Frozenset.sizeOf S) ?_;unfold Builtin.Frozenset.sizeOf;refine Wj (Xo hoS hdS hf (Wn ?_));refine Wj ?_;unfold setDrawn;refine Wj (XR hoS hdS hf ?_);dsimp only
 have fin:∀(first:Wk) (h:Heap) (d:Drawn) (fs:List (Int×Wk)) (T0:Wm),(∀ b o,s.heap.get? b=some o->h.get? b=some o)->s.heap.objs.size<=h.objs.size->s.heap.objs.size<=T0->fs.Perm es.toList->(∀ h',(∀ b o,h.get? b=some o->h'.get? b=some o)->Way w h' T0 S es ep t fs 0 first)->
  Wo (Wp prog w) A.in1 (setEpoch S >>= λe=>newFields "set_iterator" [first,rawInt 0,.ref S,rawInt (es.size:Nat),rawInt e] >>= λv=>ret v)
   (λfin s'=>∃ r,fin=Fin.done (Flow.ret r)/\∃ T' r_1,s'.TypeIs r T'/\typeLookup (.type T') "__next__"=pure (some r_1)/\Q r s') E {s with heap:=h,drawn:=d}:=by
  intro first h d fs T0 hk h1 h2 hp hW
  refine Wj (wpAny_setEpoch_of (hk _ _ hoS) hdS hf ?_);refine Wj (XG ?_ (by size_fits));refine Wn ⟨_,rfl,"set_iterator",_,⟨_,Sr _ rfl,rfl⟩,SiF.slot_si_next.lookup,?_⟩;have kp:∀ b o,h.get? b=some o->(h.push {cls := .type "set_iterator",data := .fields #[first,rawInt 0,.ref S,rawInt (es.size:Nat),rawInt (ep:Nat)]}).get? b=some o:=λb o e=>Sh _ e;exact hQ _ d h.objs.size T0 fs (λb o e=>kp b o (hk b o e)) h1 h2 (Tf _ _) hp ⟨_,first,Sr _ rfl,rfl,rfl,hW _ kp⟩
 cases hw:w.params.followText "set-order" with
 | true=>
   refine Wj (Ak hw (Wn ?_));show Wo _ _ (if (!true&&(!t.plain&&decide (es.size>1)))=true then _ else _) _ _ _;rw[iG (by simp)];refine Wj (Wn ?_);exact fin _ s.heap s.drawn _ s.heap.objs.size (λ_ _ e=>e) (Sw _) (Sw _) (Ig (w.params.setOrder S ep) es) λh' _ => .text hw rfl
 | false=>
   refine Wj (Ak hw (Wn ?_));show Wo _ _ (if (!false&&(!t.plain&&decide (es.size>1)))=true then _ else _) _ _ _;cases hpl:(!t.plain&&decide (es.size>1)) with
   | false=>
     rw[iG (by simp)];refine Wj (Wn ?_);exact fin _ s.heap s.drawn es.toList s.heap.objs.size (λ_ _ e=>e) (Sw _) (Sw _) .rfl λh' _ => .table hw hpl rfl
   | true=>
     rw[iP (by simp)];refine Wj (Nz es.size (So es.size) s _ (by simp) λpl d hp=>?_);refine Wj (Xw ?_ (by rw[Se,hp.length_eq,U5];exact hz));have hin:∀ p∈pl,p<es.size:=λp hpm=>TH.mp (hp.mem_iff.mp hpm);have efs:∃ fs:List (Int×Wk),fs=pl.filterMap (λp=>es[p]?):=⟨_,rfl⟩
     obtain⟨fs,efs⟩:=efs
     have hfs:∀(l:List Nat),(∀ p∈l,p<es.size)->(l.filterMap λp=>es[p]?).length=l.length/\∀(k:Nat) p,l[k]?=some p->es[p]?=(l.filterMap λp=>es[p]?)[k]?:=by
      intro l
      induction l with
      | nil=>intro _;exact⟨rfl,λk p h=>by simp at h⟩
      | cons a l ih=>
        intro hl;obtain⟨i1,i2⟩:=ih λp hp=>hl p (T8 _ hp);have ha:=hl a (TJ ..);have ea:es[a]?=some es[a]:=by simp[ha]
        rw[VF ea];refine⟨by simp[i1],λk p h=>?_⟩;cases k with
        | zero=>simp at h;subst h;simp[ha]
        | succ k=>simpa using i2 k p (by simpa using h)
     obtain⟨l1,l2⟩:=hfs pl hin;refine fin _ _ d fs s.heap.objs.size (λb o e=>Sh _ e) (by rw[Tf];exact UK _) (Sw _) ?_ λh' k=>?_
     ·rw[efs];exact(hp.filterMap _).trans (by rw[filterMap_getElem?_range])
     ·exact .drawn hw pl _ 0 (k _ _ (Sr _ rfl)) rfl (by rw[efs,l1]) (λk p h=>by rw[efs];exact l2 k p h)
end
end L2
set_option maxHeartbeats 800000
namespace L2
open PySem PySem.Spec PyProof.Rows
section
variable{prog:Wr}{w:Wt}{A:Wx}{E:Wk->Wl->Prop}{s:Wl}{S:Wm}{es:Array (Int×Wk)}{ep:Nat}{t:XA}
theorem RJ{Q:Bool->Wl->Prop}(hT:s.TypeIs (.ref S) "set")(h:Q false s):Wo (Wp prog w) A (Builtin.List.listLengthHint (.ref S)) Q E s:=by
 unfold Builtin.List.listLengthHint;refine Wj (wpAny_specialOf hT PySem.F.slot_set_len.lookup ?_);generalize hid:("set.__len__":String)=id0
 wp_delta
 rw[show splitId id0=some ("set","__len__") from by subst hid;decide +kernel];subst hid;refine Wj (YB (T:="set") (b:=true) hT sub_set_self ?_);refine YJ (λz=>absurd z (by decide)) (λ_=>?_);refine YJ (λ_=>?_) (λz=>absurd (by decide +kernel) z);exact Wj (YF hT (Wn h))
theorem K7{Q:List Wk->Wl->Prop}(hh:A.handled=none)(y:SetAt w s.heap S es ep t)(hz:es.size<=Ws)
 (hQ:∀ h' tk d (acc:List Wk) (fs:List (Int×Wk)),(∀ b o,s.heap.get? b=some o->h'.get? b=some o)->s.heap.objs.size<=h'.objs.size->fs.Perm es.toList->acc=fs.map (·.2)->Q acc {s with heap:=h',toks:=tk,drawn:=d}):
 Wo (Wp prog w) A (collect (.ref S)) Q E s:=by
 obtain⟨oS,hoS,hcS,hdS,hf,T⟩:=id y;unfold collect;refine Wj (YV (XJ PySem.F.entry_proto_collect ?_));rw[Around.under_plainId PySem.F.plain_proto_collect _];refine Wj (m:=newList []) (XG ?_);refine Wn ⟨Xd PySem.F.plain_list_iadd _,XJ PySem.F.entry_list_iadd ?_⟩;rw[Around.under_plainId PySem.F.plain_list_iadd _];show Wo _ A.in1 (Builtin.List.listExtendWith (.ref s.heap.objs.size) (.ref S) (.ref s.heap.objs.size)) _ _ {s with heap:=s.heap.push {cls := .type "list",data := .seq ([]:List Wk).toArray}};have y1:SetAt w (s.heap.push {cls := .type "list",data := .seq ([]:List Wk).toArray}) S es ep t:=y.keep λo e=>Sh _ e;have hne:s.heap.objs.size≠S:=λz=>by rw[<-z]at hoS;exact absurd (Sj hoS) (UQ _)
 have hL:(s.heap.push {cls := .type "list",data := .seq ([]:List Wk).toArray}).get? s.heap.objs.size=some {cls := .type "list",data := .seq #[]}:=Sr _ rfl;have hz1:(s.heap.push {cls := .type "list",data := .seq ([]:List Wk).toArray}).objs.size=s.heap.objs.size+1:=Tf _ _;unfold Builtin.List.listExtendWith;refine Wj (YF (T:="set") ⟨oS,Sh _ hoS,hcS⟩ ?_);have b1:Builtin.List.listSameRef (.ref s.heap.objs.size) (.ref S)=false:=by simp[Builtin.List.listSameRef,hne]
 have b2:(Value.type "set" == Value.type "list")=false:=by decide
 have b3:(Value.type "set" == Value.type "tuple")=false:=by decide
 simp only[b1,b2,b3,Vf,Tw,if_false];refine Wj (RI (s:={s with heap:=s.heap.push {cls := .type "list",data := .seq ([]:List Wk).toArray}}) y1 hz λh2 d I T0 fs k2 hI hT0 hz2 hp x2=>?_);have y2:SetAt w h2 S es ep t:=y1.keep λo e=>k2 _ _ e;refine Wj (X6 (RJ (s:={s with heap:=h2,drawn:=d}) ⟨oS,k2 _ _ (Sh _ hoS),hcS⟩ ?_));have hL2:=k2 _ _ hL;have LI:s.heap.objs.size≠I:=by rw[hz1]at hI;exact Sx hI
 have LT:s.heap.objs.size≠T0:=by rw[hz1]at hT0;exact Sx hT0
 have SI:S≠I:=λz=>by
  have h1:=Sj hoS;rw[hz1,<-z]at hI;exact absurd (Vs hI) (W5 h1)
 have nf:s.heap.objs.size∉[I,S,T0]:=by
  simp only[T7,UR,or_false,not_or];exact⟨LI,hne,LT⟩
 have hlen:fs.length=es.size:=by rw[hp.length_eq,Tr]
 have W:=(RH (prog:=prog) (w:=w) (A:=A.in1) hh T0 I S SI es ep t fs hlen).toS
 have key:∀(h:Heap) (c tk:Nat),Sit w h T0 I S es ep t fs 0->SetAt w h S es ep t->(∀ b o,b≠s.heap.objs.size->h2.get? b=some o->h.get? b=some o)->h.get? s.heap.objs.size=some {cls := .type "list",dict:=none,data := .seq #[] c,slots:=#[]}->s.heap.objs.size<=h.objs.size->
  codeAny (Wp prog w) A (.builtin "list.extend.loop" ⟨[.ref s.heap.objs.size,.ref I,.ref s.heap.objs.size],[]⟩) (wants (λv s'=>∃ h' tk' acc c',v = .ref s.heap.objs.size/\s'={s with heap:=h',toks:=tk',drawn:=d}/\(∀ b o,s.heap.get? b=some o->h'.get? b=some o)/\s.heap.objs.size<=h'.objs.size/\h'.get? s.heap.objs.size=some {cls := .type "list",dict:=none,data := .seq acc c',slots:=#[]}/\ItemsOf (λi v=>∃ e,fs[i]?=some e/\e.2=v) acc es.size) E) {s with heap:=h,toks:=tk,drawn:=d}:=by
  intro h c tk x3 y3 k3 hL3 hz3;refine codeAny_extend_loopS W hz s.heap.objs.size nf (.ref s.heap.objs.size) es.size 0 _ #[] c rfl (U4 _) ⟨x3,y3⟩ hL3 (ItemsOf.nil _) λs' acc c' hm hS' hacc=>?_;rw[Moved.eq_with hm];refine⟨s'.heap,s'.toks,acc,c',rfl,rfl,λb o e=>hm.heap b o (λz=>?_) (k3 b o (Sx (Sj e)) (k2 _ _ (Sh _ e))),U7 (Sj hS'),hS',hacc⟩;rcases T7.mp z with z | z
  ·exact absurd z (Sx (Sj e))
  ·have z':=Sv.mp z;rw[hz1]at hI;have:=Sj e;rw[z']at this;exact absurd this (W5 (Vs hI))
 have fin:∀ r s',wants (λv s'=>∃ h' tk' acc c',v = .ref s.heap.objs.size/\s'={s with heap:=h',toks:=tk',drawn:=d}/\(∀ b o,s.heap.get? b=some o->h'.get? b=some o)/\s.heap.objs.size<=h'.objs.size/\h'.get? s.heap.objs.size=some {cls := .type "list",dict:=none,data := .seq acc c',slots:=#[]}/\ItemsOf (λi v=>∃ e,fs[i]?=some e/\e.2=v) acc es.size) E r s'->
  wants (λv s'=>Wo (Wp prog w) A (match v with | .ref a=>load a >>= λo=>(match o.data with | .seq xs _=>pure xs.toList | _=>Yy "internal:collect") | _=>Yy "internal:collect") Q E s') E r s':=by
  intro r s' hr;cases r with
  | error e=>exact hr
  | ok fl=>
    cases fl with
    | ret v=>
      obtain⟨h',tk',acc,c',rfl,rfl,h3,h4,h5,h6⟩:=hr;refine Wj (wpAny_load (s:={s with heap:=h',toks:=tk',drawn:=d}) h5 (Wn (hQ h' tk' d _ fs h3 h4 hp ?_)));refine Vt λk=>?_;rw[Sm,UG];by_cases hk:k<es.size
      ·have ha:acc[k]?=some (acc[k]'(by rw[h6.1];exact hk)):=by simp[h6.1,hk]
       obtain⟨e,he,ev⟩:=h6.2 k _ ha;rw[ha,he,<-ev];rfl
      ·rw[Array.getElem?_eq_none (by rw[h6.1];omega),Uq (by omega)];rfl
    | _=>exact hr.elim
 refine YJ (λ_=>?_) (λ_=>Wn ⟨Xd PySem.F.plain_extend_loop _,XQ (key _ _ _ x2 y2 (λ_ _ _ e=>e) hL2 (U7 (Sj hL2))) fin⟩);refine Wj (XZ (Wj ?_));show Wo _ _ (updateSeq s.heap.objs.size (·.push .none) >>= λ_=>updateSeq s.heap.objs.size (·.pop)) _ _ _;refine Wj (YK hL2 rfl ?_);have u1:=Tq (Obj.mapSeq (·.push Value.none)) hL2 rfl;refine YK (hz:=by seq_fits) u1 rfl ?_;have u2:=Tq (Obj.mapSeq (·.pop)) u1 rfl;have oth:∀ b o,b≠s.heap.objs.size->h2.get? b=some o->((h2.update s.heap.objs.size (Obj.mapSeq (·.push Value.none))).update s.heap.objs.size (Obj.mapSeq (·.pop))).get? b=some o:=λb o hb e=>(Tv _ _ (Ne.symm hb)).trans ((Tv _ _ (Ne.symm hb)).trans e);refine Wn ⟨Xd PySem.F.plain_extend_loop _,XQ (key _ _ _ (x2.keep λb hb o e=>oth b o (by rcases hb with rfl | rfl;exact LI.symm;exact LT.symm) e) (y2.keep λo e=>oth _ o hne.symm e) oth u2 ?_) fin⟩;rw[Uj,Uj];exact U7 (Sj hL2)
end
theorem _root_.L2.Inv.dr{X:Cx}{pins:List (Wm×Obj)}{σ:St}{H:Hp}{s:Wl}(I:Inv X pins σ H s)(d:Drawn):Inv X pins σ H {s with drawn:=d}:=
 ⟨I.ok,I.os,I.bare,I.base,I.loc,I.cell,I.free,I.freeC,I.pin,I.hok,I.len⟩
section
variable{prog:Wr}{w:Wt}{A:Wx}{E:Wk->Wl->Prop}{s:Wl}
theorem MV{S:Wm}{L:List Int}{Q:Wk->Wl->Prop}(hh:A.handled=none)(x:SetX prog w s.heap S L)(h64:L.length<64)
 (h:∀(h':Heap) (tk:Nat) (d:Drawn) (l:Wm) (out:Array Wk) (e:Nat),(∀ b o,s.heap.get? b=some o->h'.get? b=some o)->s.heap.objs.size<=l->h'.get? l=some (seqObj "list" out e)->IntsAre out.toList (srt L)->Q (.ref l) {s with heap:=h',toks:=tk,drawn:=d}):
 Wo (Wp prog w) A (call (.builtin "sorted") [.ref S]) Q E s:=by
 obtain⟨o,es,ep,t,ho,hx,hd,hel,hb,hf,hT,hp⟩:=x;refine Calls.call_function_entry Yz Yo Yp (args_sorted1 _) ?_;unfold Builtin.«sorted»;refine Wj (m:=Z9 "sorted" 1 1 _) (Wn ?_);refine Wj (K7 (A:=A.in1) hh ⟨o,ho,hx.1,hd,hf,hT⟩ (Y0 hb) λh2 tk d acc fs k2 hz2 hpf hacc=>?_)
 have hints:∀ v∈acc,∃ n tt,v=Value.int n tt:=by
  intro v hv;rw[hacc]at hv;obtain⟨e,he,rfl⟩:=TR.mp hv;obtain⟨⟨k,hk,_⟩,_⟩:=hel e (hpf.mem_iff.mp he);obtain⟨tt,e2⟩:=Value.isInt_shape (k:=k) (v:=e.2) hk;exact⟨k,tt,e2⟩
 have hI:IntsAre acc (acc.map numOf):=intsAre_map acc hints
 have hpL:(acc.map numOf).Perm L:=by
  rw[hacc,TX];exact(hpf.map _).trans hp
 have hl64:acc.length<64:=by have:=hpL.length_eq;rw[Se]at this;omega
 refine Wj (Xn ?_ (by rw[YQ];omega));have hoL:(h2.push (seqObj "list" acc.toArray 0)).get? h2.objs.size=some (seqObj "list" acc.toArray 0):=Sr _ rfl;refine Wj (X6 (X5 (s:={s with heap:=h2.push (seqObj "list" acc.toArray 0),toks:=tk,drawn:=d}) YW ⟨_,hoL,rfl⟩ YL (list_sort_tree hoL hI hl64 λout ns' a1 a2 a3=>⟨_,rfl,?_⟩) (ZA _)));have en:ns'=srt L:=Jx (a2.trans hpL) a3;subst en;obtain⟨e,he⟩:=sortedHeap_at (vs:=acc) (out:=out) hoL;refine Wn ⟨_,rfl,h _ tk d h2.objs.size out e (λb o eb=>?_) hz2 he a1⟩;have hlt:=Sj (k2 b o eb);rw[sortedHeap_old (Sx hlt) (by rw[Tf];exact UM hlt)];exact Sh _ (k2 b o eb)
end
section
variable{X:Cx}
theorem Da:Wu "sorted"=some (.builtin "sorted"):=by decide +kernel
def AO(ns:List Int):List Int:=Xc (λi=>ns.getD i 0) ns.length
end
end L2
set_option maxHeartbeats 1000000
set_option maxHeartbeats 2000000
namespace L2
open PySem PySem.Spec PyProof.Rows
open PySem.AutoSeq1 (wpAny_loadPart')
open PySem.MeetsSeq PySem.MeetsSeq2 PySem.MeetsSeq3
theorem rcLt_int{prog:Wr}{w:Wt}{A:Wx}{E:Wk->Wl->Prop}{s:Wl}{a b:Int}{t u:Tok}{Q:Wk->Wl->Prop}(h:Q (.bool (decide (a<b))) s):Wo (Wp prog w) A (Yv .Lt (.int a t) (.int b u)) Q E s:=by
 exact wpAny_richCompare_same (YD s a t) (YD s b u) slot_int_lt (call_int_lt ⟨(λx=>nomatch x),h⟩)
section
variable{prog:Wr}{w:Wt}{A:Wx}{E:Wk->Wl->Prop}{s:Wl}{a₀:Array Keyed}
structure SBk(κ:YX)(a₀:Array Keyed)(st:SortSt):Prop where
 perm:(arrOf st).Perm a₀
 kind:kindOf st=κ
 failed:Xx st=none
 pend:Xq st=#[]
theorem SBk.size{κ:YX}{st:SortSt}(h:SBk κ a₀ st):(arrOf st).size=a₀.size:=h.perm.size_eq
theorem SBk.setArr{κ:YX}{st:SortSt}(h:SBk κ a₀ st){xs:Array Keyed}(hp:xs.Perm (arrOf st)):SBk κ a₀ (setArr st xs):=⟨hp.trans h.perm,h.kind,h.failed,h.pend⟩
variable{κ:YX}
end
section
variable{X:Cx}
def lt2(p q:Int×Int):Bool:=HT.lexLt [p.1,p.2] [q.1,q.2]
end
def Kpt(hb h:Heap):Prop:=∀ b o,hb.get? b=some o->h.get? b=some o
structure Sk(hb h:Heap)(a k:Wm)(ks xs:Array Wk)(e:Nat):Prop where
 a0:hb.get? a=none
 k0:hb.get? k=none
 ne:k≠a
 kp:Kpt hb h
 kk:∃ n,h.get? k=some (seqObj "list" ks n)
 aa:h.get? a=some (seqObj "list" xs e)
theorem Bp{hb h:Heap}{a:Wm}{g:Obj->Obj}(z:hb.get? a=none)(K:Kpt hb h):Kpt hb (h.update a g):=λb o q=>
 ((Tc.update h a g).2 b λe=>by rw[e,z]at q;cases q).trans (K b o q)
theorem Sk.setK{hb h:Heap}{a k:Wm}{ks xs:Array Wk}{e:Nat}(S:Sk hb h a k ks xs e)(f:Array Wk->Array Wk):Sk hb (h.update k (Obj.mapSeq f)) a k (f ks) xs e:=
 ⟨S.a0,S.k0,S.ne,Bp S.k0 S.kp,S.kk.elim λ_ q=>⟨_,Xg q f⟩,((Tc.update h k _).2 a S.ne.symm).trans S.aa⟩
theorem y6{n:Nat}(h:n<64):n<=Ws:=by rw[YQ];omega
section
variable{prog:Wr}{w:Wt}{A:Wx}{E:Wk->Wl->Prop}{s:Wl}{hb:Heap}{a k:Wm}{vs:List Wk}{P:PySem.Fin->Wl->Prop}{keys:Array Wk}{e:Nat}
theorem HS{st:SortSt}(S:Sk hb s.heap a k keys #[] e)(hz:keys.size=vs.length)(lt:vs.length<64)(hp:(arrOf st).Perm (keys.zip vs.toArray))(hn:Xx st=none)(h:∀ h' c,Kpt hb h'->h'.get? a=some (seqObj "list" ((arrOf st).map (·.2)) c)->P (.done (.ret .none)) {s with heap:=h'}):Wo (Wp prog w) A (ksk_tail a false e (.ref k) st) P E s:=by
 obtain⟨n,q⟩:=S.kk;have S1:=S.setK λ_=>#[]
 have z:((arrOf st).map (·.2)).size<64:=by
  have:=hp.size_eq;have zv:vs.toArray.size=vs.length:=rfl;rw[Vb]at this;rw[WV];omega
 exact Wj (XW q rfl (Wj (YS (Wj (Y1 S1.aa rfl (Wj (XW S1.aa rfl
  (by rw[hn,bne_self_eq_false];exact Wn (h _ _ (Bp S.a0 S1.kp) (Xg S1.aa _))) (U4 _) (Um (y6 z)))))))) (y6 (hz▸lt)) (U4 _))
end
section
variable{prog:Wr}{w:Wt}{A:Wx}{E:Wk->Wl->Prop}{s:Wl}{vs:List Wk}
theorem Al{hb h:Heap}{o:Obj}(K:Kpt hb h):Kpt hb (h.push o):=λb _ q=>Sh _ (K b _ q)
abbrev Two(h:Heap)(vs:List Wk):Heap:=((h.push (seqObj "list" #[] 0)).update h.objs.size (Obj.mapSeq λz=>z++vs.toArray)).push (seqObj "list" vs.toArray 0)
end
theorem BO{α β:Type}{R:α->β->Prop}{out its:List β}(p:out.Perm its):∀{ws:List α},Paired R ws its->∃ ws',Paired R ws' out/\ws'.Perm ws:=by
 induction p with
 | nil=>exact λ{ws} r=>⟨ws,r,.refl _⟩
 | cons x _ ih=>
   intro ws r;cases r with
   | cons r rr=>
     obtain⟨ws',r',p'⟩:=ih rr;exact⟨_::ws',.cons r r',.cons _ p'⟩
 | swap x y l=>
   intro ws r;cases r with
   | cons r rr=>
     cases rr with
     | cons r2 rr2=>exact⟨_::_::_,.cons r2 (.cons r rr2),.swap ..⟩
 | trans _ _ ih1 ih2=>
   intro ws r;obtain⟨w2,r2,p2⟩:=ih2 r;obtain⟨w1,r1,p1⟩:=ih1 r2;exact⟨w1,r1,p1.trans p2⟩
def Ch(vs:List V)(js:List Nat)(σ:St):St:=vs.map some++js.map λj=>(σ[j]?).join
noncomputable abbrev Ej(X:Cx)(A:Wx)(q:Str)(sc:Ww)(N':List Str)(s:Wl)(H:Hp)(f c':Wm):Cx where
 prog:=X.prog
 w:=X.w
 K:=X.K
 mg:=X.mg
 base:=X.base
 A:=A.deeper (PySem.W.envX q sc s.heap.objs.size f (.ref c') (j0 X.env sc.names []))
 N:=N'
 s₀:=s
 H₀:=H
 env:=PySem.W.envX q sc s.heap.objs.size f (.ref c') (j0 X.env sc.names [])
 outer:=X.stack
 stack:=PySem.W.envX q sc s.heap.objs.size f (.ref c') (j0 X.env sc.names [])::X.stack
 ex:=[]
 fn:=λx=>sc.names.lookup x == some .cell
 calm:=true
 pn:=[]
 xe:=λ_ _=>False
def BX(sc0 sc:Ww)(ps cn N:List Str)(js:List Nat):Bool:=w5 sc0 sc ps cn N js&&(!sc.isCoroutine&&!sc.isGenerator)&&sc.names.all λx=>!decide (x.2 = .cell)
section
variable{X:Cx}{pins:List (Wm×Obj)}{σ:St}{H:Hp}{s:Wl}{A:Wx}{q:Str}{sc:Ww}{ps cn:List Str}{js:List Nat}{f c':Wm}{vs:List V}{us:List Wk}{h':Heap}{tk:Nat}
theorem MW(I:Inv X pins σ H s)(hok:BX X.env.scope sc ps cn X.N js=true)(hA:A.frames=some X.stack)(hd:A.handled=none)(r:Vals vs us)(hl:vs.length=ps.length)
 (hns:h'.Ns s.heap.objs.size (λx=>(ps.zip us).reverse.lookup x)) (hk:∀ b o,s.heap.get? b=some o->h'.get? b=some o):
 Inv (Ej X A q sc (ps++cn) s H f c') [] (Ch vs js σ) H {s with heap:=h',toks:=tk}:=by
 unfold BX w5 at hok;simp only[Sf,dQ,T9,Ti,TQ,decide_eq_false_iff_not]at hok;obtain⟨⟨⟨⟨⟨⟨⟨⟨k1,k2⟩,k3⟩,k4⟩,k5⟩,k6⟩,k7⟩,k8⟩,k9⟩:=hok
 have hfreeK:∀ x∈sc.names,x.2 = .free->X.env.kindOf x.1=some .cell\/X.env.kindOf x.1=some .free:=λx hx hf=>by
  rcases k2 x hx with(z | z) | z
  ·exact absurd hf z
  ·exact .inl z
  ·exact .inr z
 have hfree:∀ x∈sc.names,x.2 = .free->∃ c,X.env.cells.lookup x.1=some c:=λx hx hf=>I.ok.has x.1 (hfreeK x hx hf);have clM:=BM (env:=X.env) sc.names [] hfree (λp hp=>nomatch hp);have apart:=AW I.ok.inj sc.names [] k3 hfree List.Pairwise.nil λp hp=>nomatch hp;have noC:∀{x:Str},sc.names.lookup x=some .cell->False:=λ{x} e=>k9 _ (PySem.mem_of_lookup e) rfl;have look:∀{x:Str} {c:Wm},(j0 X.env sc.names []).lookup x=some c->X.env.cells.lookup x=some c:=λ{x c} e=>clM _ (PySem.mem_of_lookup e)
 have cell:∀{x:Str} {c:Wm},(j0 X.env sc.names []).lookup x=some c->∃ v,h'.IsCell c v:=λ{x c} e=>by
  obtain⟨v,o,ho,hd⟩:=I.cell x c (look e);exact⟨v,o,hk _ _ ho,hd⟩
 have hul:us.length=ps.length:=r.length▸hl;obtain⟨m,hm,hloc⟩:=id I.loc
 refine⟨⟨I.ok.mod,k1,rfl,rfl,Sw _,λx y c h1 h2=>Yj apart (PySem.mem_of_lookup h1) (PySem.mem_of_lookup h2),λx hx=>?_,λx c h=>(noC (bQ.mp h)).elim,λ_=>hd,Around.frames_deeper hA,.inr ⟨rfl,rfl⟩,λ_ z=>(nomatch z),I.bs,Th I.ok.bsz I.sz,λ_ _ _ z=>(nomatch z),λ_ z=>(nomatch z),I.stack,I.stkFree⟩,
  rfl,I.bare,Un.kept hk,⟨_,hns,λi x v h1 h2 h3=>?_⟩,λx c e=>cell e,I.hok.fresh (Sw _),λx c e=>I.freeC x c (look e),λ_ hp=>(nomatch hp),I.hok.kept hk,?_⟩
 ·have hx':sc.names.lookup x=some .cell\/sc.names.lookup x=some .free:=hx;rcases hx' with z | z
  ·exact(noC z).elim
  ·obtain⟨c,hc⟩:=Ai (env:=X.env) sc.names [] x (PySem.mem_of_lookup z);exact AA hc
 ·have h1:(ps++cn)[i]?=some x:=h1;have nd:=Ug.mp k6;by_cases hi:i<ps.length
  ·rw[TC hi]at h1;have h2:(Ch vs js σ)[i]?=some (some v):=h2;unfold Ch at h2;rw[TC (by simpa[hl] using hi),Sm]at h2;obtain⟨v',e1,e2⟩:=TU.mp h2;cases e2;obtain⟨u,hu,rv⟩:=r.get e1;refine⟨u,rv,.inl ⟨(k4 x (Ss h1)).elim id λz=>(noC z).elim,?_⟩⟩;refine m8 (?_:((ps.zip us).reverse.map (·.1)).Nodup) (List.mem_reverse.mpr (Ss (i:=i) ?_))
   ·rw[List.map_reverse,W6 (Vu hul.symm)];exact(List.reverse_perm _).nodup_iff.mpr nd.1
   ·rw[V7];exact⟨h1,hu⟩
  ·rw[Td (W4 hi)]at h1;have h2:(Ch vs js σ)[i]?=some (some v):=h2;unfold Ch at h2;rw[Td (by simpa[hl] using hi),Se,hl,Sm]at h2;obtain⟨j,e1,e2⟩:=TU.mp h2
   have e3:X.N[j]?=some x:=by
    have:=congrArg (λl=>l[i - ps.length]?) k7;simp only[Sm,e1,h1,UN]at this;exact oj this
   have hfx:=k5 x (Ss h1);have hvis:=hfreeK (x,.free) (PySem.mem_of_lookup hfx) rfl
   have e4:σ[j]?=some (some v):=by
    cases z:σ[j]? with
    | none=>rw[z]at e2;cases e2
    | some y=>rw[z]at e2;exact congrArg some e2
   obtain⟨u,rv,lk⟩:=hloc j x v e3 e4 (hvis.elim (λz => .inr (.inl z)) λz => .inr (.inr z));refine⟨u,rv,?_⟩;rcases lk with⟨z,_⟩ | ⟨_,c,hc,o,ho,hod⟩
   ·have z':X.env.kindOf x=some .local:=z;rcases hvis with y | y<;>(rw[z']at y;cases y)
   ·obtain⟨c2,hc2⟩:=AA (Ai (env:=X.env) sc.names [] x (PySem.mem_of_lookup hfx)).choose_spec;have:c2=c:=oj ((look hc2).symm.trans hc);subst this;exact .inr ⟨.inr hfx,c2,hc2,o,hk _ _ ho,hod⟩
 ·show(Ch vs js σ).length=(ps++cn).length;have:=congrArg Uu k7;rw[Se,Se]at this;unfold Ch;rw[Sl,Sl,Se,Se,hl,this]
noncomputable def DL(f:Wm)(q:Str)(params:Xp)(body:Expr)(sc:Ww)(cl:List (Str×Wm))(c':Wm):HO := .ext λh=>∃ pm ctv,h.get? f=some (PySem.W.kla_obj "<lambda>" q params body sc cl pm c' ctv)
def CodO(c':Wm)(q:Str):HO := .ext λh=>h.CodeRec (.ref c') q
theorem K8{params:Xp}{body:Expr}{t:TE}{Q:VK}(I:Inv X pins σ H s)(hok:BX X.env.scope sc ps cn X.N js=true)(hA:A.frames=some X.stack)(hd:A.handled=none)(dep:A.depth<XX)
 (hf:H f=some (DL f q params body sc (j0 X.env sc.names []) c')) (hc:H c'=some (CodO c' q)) (hbind:∀ pm ctv,Y6 (PySem.W.kla_fn "<lambda>" q params body sc (j0 X.env sc.names []) pm (.ref c') ctv) ⟨us,[]⟩=pure (ps.zip us))
 (r:Vals vs us) (hl:vs.length=ps.length) (hb:PE (Ej X A q sc (ps++cn) s H f c') body t) (ht:t (Ch vs js σ) H Q):
 Wo (Wp X.prog X.w) A (call (.ref f) us []) (EP X pins σ Q) (λ_ _=>False) s:=by
 have hok':=hok;unfold BX w5 at hok;simp only[Sf,dQ,T9,Ti,TQ,decide_eq_false_iff_not]at hok;obtain⟨⟨⟨⟨⟨⟨⟨⟨k1,k2⟩,k3⟩,k4⟩,k5⟩,k6⟩,k7⟩,k8⟩,k9⟩:=hok;obtain⟨⟨pm,ctv,ho⟩,_⟩:=I.hok f _ hf;obtain⟨hcd,_⟩:=I.hok c' _ hc;refine Ye (PySem.W.kla_callFunE dep ho rfl k8.1 k8.2 rfl hcd ?_);rw[hbind];refine Wn (wpAny_newFunctionEnv k9 (λx hx=>?_) (λh₁ hns hsb=>⟨?_,?_⟩) k1)
 ·exact(k4 x.1 (U8 (show(x.1,x.2)∈ps.zip us from hx)).1).elim id λz=>(k9 _ (PySem.mem_of_lookup z) rfl).elim
 ·exact I.nolimit.fresh _ hsb
 ·have hk:∀ b o,s.heap.get? b=some o->h₁.get? b=some o:=λb o e=>hsb.extBut b o (Sx (Sj e)) (Sh _ e);have J:=MW (q:=q) (f:=f) (c':=c') (tk:=s.toks+(ps.zip us).length) I hok' hA hd r hl hns hk;refine PySem.W.kla_codeExpr (XH (hb [] _ _ H Q J ht) (λv s' ⟨x,H',J',rx,qx⟩=>?_) λe s' z=>False.elim z);exact⟨x,H',I.call' J'.os J'.base J'.hok J'.bare λ_ z=>(nomatch z),rx,qx⟩
end
section
variable{prog:Wr}{w:Wt}{A:Wx}{E:Wk->Wl->Prop}{s:Wl}{hb:Heap}{a k:Wm}{vs:List Wk}{P:PySem.Fin->Wl->Prop}{keys:Array Wk}{e:Nat}{kz:List Int}
theorem MX(S:Sk hb s.heap a k keys #[] e)(hk:IntsAre keys.toList kz)(hl:kz.length=vs.length)(lt:vs.length<64)(h:∀ h' (out:Array Wk) c,Kpt hb h'->h'.get? a=some (seqObj "list" out c)->KskOut false kz vs out.toList->P (.done (.ret .none)) {s with heap:=h'}):
 Wo (Wp prog w) A (ksk_end a false vs.toArray e (.ref k) keys) P E s:=by
 have hz:keys.size=vs.length:=(Tr.symm.trans hk.length).trans hl;have zz:(keys.zip vs.toArray).size=vs.length:=by have zv:vs.toArray.size=vs.length:=rfl;rw[Vb];omega
 show Wo _ _ (do let kind <- if vs.toArray.size<2 then pure Yq else keyKind' keys
                    let ((),st) <- (if vs.toArray.size<2 then pure () else sortRuns').run (SortSt.mk' kind (keys.zip vs.toArray) #[] 7 none)
                    ksk_tail a false e (.ref k) st) P E s
 cases Vp vs.toArray.size 2 with
 | inl l2=>
   simp only[l2,if_true]
   have hs:SortedTo (arrOf (SortSt.mk' Yq (keys.zip vs.toArray) #[] 7 none)) (arrOf (SortSt.mk' Yq (keys.zip vs.toArray) #[] 7 none)).size:=by
    intro i j hij hj;have hj2:j<(keys.zip vs.toArray).size:=hj;rw[Sq]at l2;have:i=j:=by omega
    subst this;exact Ub _
   exact Wj (Wn (Wj (Wn (HS (st:=SortSt.mk' Yq (keys.zip vs.toArray) #[] 7 none) S hz lt (V3.refl _) rfl λh' c k g=>h h' _ c k g (ksk_out (b:=false) hk (V3.refl _) hs)))))
 | inr g2=>
   have l2:¬ vs.toArray.size<2:=Nat.not_lt_of_le g2;rw[Sq]at g2;simp only[l2,if_false,ksk_kind hk (hz▸g2)];refine Wj (Wn (Wj (XH (Q:=λr s'=>s'=s/\(arrOf r.2).Perm (keys.zip vs.toArray)/\Xx r.2=none/\SortedTo (arrOf r.2) (keys.zip vs.toArray).size) (E:=λ_ _=>False) ?_ ?_ λ_ _ f=>f.elim)))
   ·exact wpS_sortRuns (a₀:=keys.zip vs.toArray) (Q:=λ_ st'=>(arrOf st').Perm (keys.zip vs.toArray)/\Xx st'=none/\SortedTo (arrOf st') (keys.zip vs.toArray).size) (ksk_intKeys hk) ⟨V3.refl _,rfl,rfl,rfl⟩ (show 2<=(keys.zip vs.toArray).size by omega) (show(keys.zip vs.toArray).size<64 by omega) λ_ p f o=>⟨p,f,o⟩
   ·intro r s' ⟨e',p,f,o⟩;cases e';exact HS S hz lt p f λh' c k g=>h h' _ c k g (ksk_out (b:=false) hk p (p.size_eq▸o))
end
section
variable{X:Cx}{pins:List (Wm×Obj)}{σ:St}{H:Hp}{s:Wl}{A:Wx}{E:Wk->Wl->Prop}{a k:Wm}{vs:List Wk}{P:PySem.Fin->Wl->Prop}{e:Nat}{kz:List Int}{h':Heap}
theorem Inv.take{t':Nat}{o:HO}(I:Inv X pins σ H s)(hf:FpOk X pins H a)(new:ObjOk X.prog X.w (upd H a o) s.heap a o):Inv X pins σ (upd H a o) {s with toks:=t'}:=by
 obtain⟨f0,f1,f2,f3,f4,f5⟩:=hf
 refine I.step (h':=s.heap) (g':=s.gens) (d':=s.drawn) (ch:=[a]) (λb hb=>?_) (λb o _ _ _ e _=>e) (λb o _ _ _ e _=>⟨o.slots,e⟩) (λb u hc e n=>by rw[f6 (λz=>hc (by simp[z]))];exact n)
  (λb o _ e=>⟨o,e⟩) (λb xs e=>by rw[f6 (f7 e f0)];exact e) (λb u xs e=>by rw[f6 (f7 e f0)];exact e) (λb ps e=>⟨#[],by rw[f6 (f7 e f0),e];simp⟩) (λm hm=>hm) (λb u e=>?_) I.bare
 ·rw[Sv.mp hb];exact⟨f3,f1,f4,f5⟩
 ·by_cases hb:b=a
  ·subst hb;rw[i8]at e;cases e;exact new
  ·rw[f6 hb]at e;exact(I.hok b u e).stay (λc v _ q=>q) (λc q=>by rw[f6 (f7 q f0)];exact q) λc xs q=>by rw[f6 (f7 q f0)];exact q
theorem K9{c:String}{xs:Array Wk}{n:Nat}:∀ v,(seqObj c xs n).data ≠ .cell v:=λ_ z=>nomatch z
theorem KA{f:Wk}{J:Hp->Prop}(fa:FpOk X pins H a)(fk:FpOk X pins H k)(ne:k≠a)(I:Inv X pins σ H s)(ha:s.heap.get? a=some (seqObj "list" #[] e))(hk:s.heap.get? k=some (seqObj "list" #[] 0))(jh:J H)(lt:vs.length<64)(hl:kz.length=vs.length)
 (turn:∀(i:Nat) (v:Wk) (z:Int) (pins':List (Wm×Obj)) (H':Hp) (s':Wl),vs[i]?=some v->kz[i]?=some z->Inv X pins' σ H' s'->J H'->Wo (Wp X.prog X.w) A (call f [v]) (EP X pins' σ λr H2=>r = .int z/\J H2) (λ_ _=>False) s')
 (h:∀(s':Wl) (H':Hp) (out:Array Wk) (c:Nat),Inv X pins σ H' s'->FpOk X pins H' a->J H'->s'.heap.get? a=some (seqObj "list" out c)->KskOut false kz vs out.toList->P (.done (.ret .none)) s'):
 Wo (Wp X.prog X.w) A (ksk_rest a f false vs.toArray e (.ref k)) P E s:=by
 have fp:∀{H':Hp} {b:Wm},b=a\/b=k->H' b=none->FpOk X pins H' b:=λhb n=>by
  rcases hb with rfl | rfl
  ·exact⟨n,fa.2⟩
  ·exact⟨n,fk.2⟩
 unfold ksk_rest;refine Wj (XZ ?_);rw[List.forIn_toArray];refine Wj (ksk_fold (λi s'=>∃ H' ks n,Inv X pins σ H' s'/\J H'/\H' a=none/\H' k=none/\s'.heap.get? a=some (seqObj "list" #[] e)/\s'.heap.get? k=some (seqObj "list" ks n)/\IntsAre ks.toList (kz.take i)) vs 0 s ⟨H,#[],0,I,jh,fa.1,fk.1,ha,hk,.nil⟩ ?_ ?_)
 ·rintro j v s' hv ⟨H',ks,n,I',j',na,nk,ga,gk,hi⟩;rw[Ui]at hi ⊢;have jl:=(gM hv).1;have hz:kz[j]?=some kz[j]:=Si (hl▸jl)
  have I2:Inv X (pins++[(a,seqObj "list" #[] e),(k,seqObj "list" ks n)]) σ H' s':=I'.pins_of λp hp=>by
   rcases TK.mp hp with z | z
   ·exact I'.pin p (TF _ z)
   ·rcases T7.mp z with rfl | z
    ·exact⟨ga,na,fa.2.1,fa.2.2.1,K9⟩
    ·rw[Sv.mp z];exact⟨gk,nk,fk.2.1,fk.2.2.1,K9⟩
  refine Wj (Xe (XH (turn j v _ _ H' s' hv hz I2 j') (λr s2 ⟨x,H2,I3,rx,ex,j2⟩=>?_) λ_ _ no=>no.elim));subst ex;obtain⟨t,rfl⟩:=rx;have pa:=I3.pin (a,seqObj "list" #[] e) (TF _ (TF _ (.head _)));have pk:=I3.pin (k,seqObj "list" ks n) (TF _ (TF _ (.tail _ (.head _))))
  have sz:ks.size=j:=by
   have:=hi.length;rw[Tn,Tr]at this;omega
  have sb:=Tc.update s2.heap k (Obj.mapSeq (·.push (.int kz[j] t)));refine Wj (XW pk.1 rfl (Wn ⟨rfl,H2,_,_,I3.unpinned.turnedL (ch:=[k]) (λb o hb q=>(sb.2 b λz=>hb (by simp[z])).trans q) (λb hb=>by rw[Sv.mp hb];exact fp (.inr rfl) pk.2.1),j2,pa.2.1,pk.2.1,(sb.2 a ne.symm).trans pa.1,Xg pk.1 _,?_⟩) (y6 (by omega)) (Um (y6 (show(ks.push (.int kz[j] t)).size<64 by rw[Array.size_push];omega))));rw[VC,List.take_add_one,hz];exact ksk_snoc hi
 ·rintro s' ⟨H',ks,n,I',j',na,nk,ga,gk,hi⟩;rw[Ui,VO (Vu hl)]at hi;refine Wj (Yr gk rfl (MX (hb:=PySem.W.hideAll s'.heap [a,k]) ⟨PySem.W.hideAll_none _ (.head _),PySem.W.hideAll_none _ (.tail _ (.head _)),ne,λb o q=>PySem.W.of_hideAll _ q,⟨n,gk⟩,ga⟩ hi hl lt λh' out c K g o=>?_));exact h _ H' out c (I'.turnedL (t':=s'.toks) (ch:=[a,k]) (λb o hb q=>K b o (PySem.W.hideAll_get _ q hb)) λb hb=>(T7.mp hb).elim (λz=>by rw[z];exact fp (.inl rfl) na) λz=>by rw[Sv.mp z];exact fp (.inr rfl) nk) (fp (.inl rfl) na) j' g o
theorem GF{f:Wk}{J:Hp->Prop}{l q:Wm}{Q:Wk->Wl->Prop}(ef:f = .ref q)(I:Inv X pins σ H s)(hl:s.heap.IsList l vs.toArray)(jh:J H)(lt:vs.length<64)(hz:kz.length=vs.length)
 (turn:∀(i:Nat) (v:Wk) (z:Int) (pins':List (Wm×Obj)) (H':Hp) (s':Wl),vs[i]?=some v->kz[i]?=some z->Inv X pins' σ H' s'->J H'->Wo (Wp X.prog X.w) A.in1.in1 (call f [v]) (EP X pins' σ λr H2=>r = .int z/\J H2) (λ_ _=>False) s')
 (h:∀(s':Wl) (H':Hp) (a:Wm) (out:Array Wk) (c:Nat),Inv X pins σ H' s'->FpOk X pins H' a->J H'->s'.heap.get? a=some (seqObj "list" out c)->KskOut false kz vs out.toList->Q (.ref a) s'):
 Wo (Wp X.prog X.w) A (call (.builtin "sorted") [.ref l] [(Str.ofString "key",f)]) Q E s:=by
 subst ef;have up:((s.heap.push (seqObj "list" #[] 0)).update s.heap.objs.size (Obj.mapSeq (·++vs.toArray))).objs.size=s.heap.objs.size+1:=(Uj ..).trans (Yg ..);have none':∀ b,s.heap.objs.size<=b->s.heap.get? b=none:=λb=>Ut;have K:Kpt s.heap (Two s.heap vs):=Al (Bp (none' _ (Sw _)) (Al λ_ _ q=>q));have ho:(Two s.heap vs).get? (s.heap.objs.size+1)=some (seqObj "list" vs.toArray 0):=up▸Sr _ rfl;refine call_function_entry_kw Yz Yo Yp (ksk_s1 _ _) ?_;refine Wj (m:=Z9 "sorted" 1 1 _) (Wn (Wj (collect_list hl (Wj (Xn ?_ (y6 lt))) (y6 lt))));show Wo _ _ _ _ _ {s with heap:=Two s.heap vs};rw[up];have a0:=none' (s.heap.objs.size+1) (UK _);have u1:=Xg ho λ_=>(#[]:Array Wk)
 have hv:vs.toArray.size<64:=lt;have z2:(Two s.heap vs).objs.size=s.heap.objs.size+2:=by rw[Yg,up]
 refine Wj (X6 (wpAny_call_entry_kw YW ⟨_,ho,rfl⟩ YL (ksk_t1 _ _▸?_) (ksk_l1 _ _)));have s3:((Two s.heap vs).update (s.heap.objs.size+1) (Obj.mapSeq λ_=>(#[]:Array Wk))).objs.size=s.heap.objs.size+2:=(Uj ..).trans z2;refine Wj (Yr ho rfl (Wj (XW ho rfl (Wj (Y1 u1 rfl (Wj (Xw (Wj (Xn (X6 ?_) (U4 _))) (y6 hv))))) (y6 hv) (U4 _))));have ksz:(((Two s.heap vs).update (s.heap.objs.size+1) (Obj.mapSeq λ_=>(#[]:Array Wk))).push (seqObj "tuple" vs.toArray 0)).objs.size=s.heap.objs.size+3:=by rw[Yg,s3]
 have K2:Kpt s.heap ((((Two s.heap vs).update (s.heap.objs.size+1) (Obj.mapSeq λ_=>(#[]:Array Wk))).push (seqObj "tuple" vs.toArray 0)).push (seqObj "list" #[] 0)):=Al (Al (Bp a0 K))
 refine KA (s:={s with heap:=(((Two s.heap vs).update (s.heap.objs.size+1) (Obj.mapSeq λ_=>(#[]:Array Wk))).push (seqObj "tuple" vs.toArray 0)).push (seqObj "list" #[] 0)}) (J:=J) (pins:=pins) (I.fpOk (UK _) (I.hok.fresh (UK _))) (I.fpOk (by rw[ksz];exact To _ 3) (I.hok.fresh (by rw[ksz];exact To _ 3)))
  (by rw[ksz];show @Ne Nat (s.heap.objs.size+3) (s.heap.objs.size+1);omega) (I.kept (t':=s.toks) K2) (Sh _ (Sh _ u1)) (Sr _ rfl) jh lt hz turn λs' H' out c I' f' j g o=>?_
 exact⟨_,rfl,Wn ⟨_,rfl,h s' H' _ out c I' f' j g o⟩⟩
end
def TabOk(H:Hp)(q:Str)(pos:Pos)(ps:Array Wk):Prop:=TriplesOk ps.toList/\(codeAmong pos ps.toList=none\/∃ c',codeAmong pos ps.toList=some (.ref c')/\H c'=some (CodO c' q))
structure LamNew(H H':Hp)(P f c':Wm)(q:Str)(pos:Pos)(u:HO):Prop where
 lam:H' f=some u
 cod:H' c'=some (CodO c' q)
 new:H f=none
 keep:∀ b o,b≠P->H b=some o->H' b=some o
 tab:∃ ps,H' P=some (.tbl ps)/\TabOk H' q pos ps
section
variable{X:Cx}{pins:List (Wm×Obj)}{σ:St}{H:Hp}{s:Wl}{A:Wx}{E:Wk->Wl->Prop}{q:Str}{pos:Pos}{ps:Array Wk}{sc:Ww}{params:Xp}{body:Expr}{c P c' f:Wm}{h h':Heap}
theorem KB{Pr:Wr}{w:Wt}{H':Hp}{cl:List (Str×Wm)}{pm ctv:Wk}(e:h.get? f=some (PySem.W.kla_obj "<lambda>" q params body sc cl pm c' ctv)):ObjOk Pr w H' h f (DL f q params body sc cl c'):=
 ⟨⟨pm,ctv,e⟩,⟨_,e⟩,λ_ _ ⟨pm,ctv,e⟩ k=>⟨pm,ctv,k _ e⟩⟩
theorem PP{Pr:Wr}{w:Wt}{H':Hp}(e:h.CodeRec (.ref c') q):ObjOk Pr w H' h c' (CodO c' q):=by
 obtain⟨c,o,vs,t,e1,e2,e3,e4⟩:=e;cases e1;refine⟨⟨c',o,vs,t,rfl,e2,e3,e4⟩,⟨o,e2⟩,λh1 h2 ⟨c,o,vs,t,e1,e2,e3,e4⟩ k=>?_⟩;cases e1;exact⟨c',o,vs,t,rfl,k _ e2,e3,e4⟩
theorem KC{Q:Wk->Wl->Prop}(I:Inv X pins σ H s)(hc:X.env.code = .ref c)(C:PySem.W.CodeHd X.base c P)(hP:H P=some (.tbl ps))(ht:TabOk H q pos ps)(hq:X.env.qual++"<lambda>"=q)(hdef:defaultsOf params X.env=([],[]))
 (hcl:Yf sc X.env=pure (j0 X.env sc.names [])) (h:∀ f c' H' s',Inv X pins σ H' s'->LamNew H H' P f c' q pos (DL f q params body sc (j0 X.env sc.names []) c')->Q (.ref f) s'):
 Wo (Wp X.prog X.w) A (eval (.Lambda params body sc pos) X.env) Q E s:=by
 refine PySem.W.kla_eval hdef ?_;rw[hq];have hps:s.heap.get? P=some (PySem.W.tabObj ps):=I.hok P _ hP;have hg:=I.mod.glob.keeps I.bk;have C':=C.keeps I.bk;obtain⟨bm,ob,b1,b2,b3,b4,b5,b6⟩:=I.mod.bm
 have hgP:Wq≠P:=λz=>by
  obtain⟨o,es,ep,e,hd,_⟩:=hg;rw[z,hps]at e;cases e;cases hd
 have hbP:bm≠P:=λz=>by
  have e:=I.bk _ _ b3;rw[z,hps]at e;cases e;cases b4
 have hbG:bm≠Wq:=λz=>by
  obtain⟨o,es,ep,e,hd,_⟩:=I.mod.glob;rw[z,e]at b3;cases b3;rw[hd]at b6;cases b6
 have hbu:s.heap.BuiltinsAt X.mg P:=⟨bm,ob,b1,b2,hbG,hbP,I.bk _ _ b3,b4,b5,b6⟩
 have nP:∀{b:Wm},H b=none->b≠P:=λn z=>by rw[z,hP]at n;cases n
 rcases ht.2 with hnf | ⟨c',hf,hc'⟩
 ·refine PySem.W.kla_makeFunction hcl I.ok.glob hg hc C' hps ht.1 hnf hgP hbu λc' ctv h' tk hx hge hlt hrec htb=>?_;have nf0:(PySem.W.kla_obj "<lambda>" q params body sc (j0 X.env sc.names []) ((X.mg "__name__").getD .none) c' ctv).isFreed=false:=rfl;have ob0:∃ pm,(PySem.W.kla_obj "<lambda>" q params body sc (j0 X.env sc.names []) ((X.mg "__name__").getD .none) c' ctv)=PySem.W.kla_obj "<lambda>" q params body sc (j0 X.env sc.names []) pm c' ctv:=⟨_,rfl⟩
  generalize (PySem.W.kla_obj "<lambda>" q params body sc (j0 X.env sc.names []) ((X.mg "__name__").getD .none) c' ctv)=ob at nf0 ob0 ⊢;obtain⟨pm,eob⟩:=ob0;have hx':∀ b o,b≠P->s.heap.get? b=some o->(h'.push ob).get? b=some o:=λb o n e=>Sh _ (hx b o n e);have hP':(h'.push ob).get? P=_:=Sh _ htb;have hf':(h'.push ob).get? h'.objs.size=_:=(Sr h' nf0).trans (congrArg some eob);have hc2:(h'.push ob).CodeRec (.ref c') q:=hrec.keeps λb o e=>Sh _ e;have nc:H c'=none:=I.hok.fresh hge;have nf:H h'.objs.size=none:=I.hok.fresh (Th hge (U7 hlt));have cP:=nP nc;have fP:=nP nf;have cf:c'≠h'.objs.size:=Sx hlt
  let H':=upd (upd (upd H P (.tbl (ps++#[rawInt pos.line,rawInt pos.col,.ref c']))) c' (CodO c' q)) h'.objs.size (DL h'.objs.size q params body sc (j0 X.env sc.names []) c')
  have kp:∀ b o,b≠P->H b=some o->H' b=some o:=λb o n e=>by
   show upd _ _ _ b=_;rw[f6 (f7 e nf),f6 (f7 e nc),f6 n];exact e
  have eP:H' P=some (.tbl (ps++#[rawInt pos.line,rawInt pos.col,.ref c'])):=by
   show upd _ _ _ P=_;rw[f6 fP.symm,f6 cP.symm,i8]
  have ec:H' c'=some (CodO c' q):=by
   show upd _ _ _ c'=_;rw[f6 cf,i8]
  have ef:H' h'.objs.size=some (DL h'.objs.size q params body sc (j0 X.env sc.names []) c'):=i8
  have old:∀ b,H' b=none\/b=P\/b=c'\/b=h'.objs.size\/H' b=H b:=λb=>by
   by_cases z1:b=P
   ·exact .inr (.inl z1)
   ·by_cases z2:b=c'
    ·exact .inr (.inr (.inl z2))
    ·by_cases z3:b=h'.objs.size
     ·exact .inr (.inr (.inr (.inl z3)))
     ·refine .inr (.inr (.inr (.inr ?_)));show upd _ _ _ b=_;rw[f6 z3,f6 z2,f6 z1]
  refine h _ c' H' _ (I.step (g':=s.gens) (d':=s.drawn) (ch:=[]) (λ_ z=>nomatch z) (λb o _ _ _ e n=>hx' b o (nP n) e) (λb o _ _ _ e n=>⟨o.slots,hx' b o (nP n) e⟩) (λb o _ e n=>?_) (λb o _ e=>?_) (λb xs e=>kp _ _ (λz=>by rw[z,hP]at e;cases e) e) (λb o xs e=>kp _ _ (λz=>by rw[z,hP]at e;cases e) e) (λb qs e=>?_) (λm hm=>?_) (λb u e=>?_) I.bare) ⟨ef,ec,nf,kp,_,eP,?_,.inr ⟨c',?_,ec⟩⟩
  ·have lb:=Sj e;show upd _ _ _ b=_;rw[f6 (Sx (TV lb (Th hge (U7 hlt)))),f6 (Sx (TV lb hge)),f6 (nP n)];exact n
  ·by_cases z:b=P
   ·subst z;exact⟨_,hP'⟩
   ·exact⟨o,hx' b o z e⟩
  ·by_cases z:b=P
   ·subst z;rw[hP]at e;cases e;exact⟨_,eP⟩
   ·exact⟨#[],by rw[kp b _ z e];simp⟩
  ·obtain⟨o,es,ep,ho,r⟩:=hm;exact⟨o,es,ep,hx' _ o (nP I.free) ho,r⟩
  ·rcases old b with z | z | z | z | z
   ·rw[z]at e;cases e
   ·subst z;rw[eP]at e;cases e;exact hP'
   ·subst z;rw[ec]at e;cases e;exact PP hc2
   ·subst z;rw[ef]at e;cases e;exact KB hf'
   ·by_cases y:b=P
    ·subst y;rw[eP]at e;cases e;exact hP'
    ·rw[z]at e;refine(I.hok b u e).stay (λc v hc q=>hx' c v ?_ q) (λc q=>kp _ _ (λz=>by rw[z,hP]at q;cases q) q) λc xs q=>kp _ _ (λz=>by rw[z,hP]at q;cases q) q;rcases hc with rfl | hc
     ·exact y
     ·exact λz=>by rw[z,hP]at hc;cases hc
  ·rw[Ve];exact TriplesOk_snoc _ _ _ _ ht.1
  ·rw[Ve];exact codeAmong_snoc _ ht.1 hnf
 ·refine PySem.W.kla_makeFunctionHit hcl I.ok.glob hg hc C' hps ht.1 hf hbu λctv h' tk hk hsz=>?_;have nf:H h'.objs.size=none:=I.hok.fresh hsz;have kp:∀ b o,H b=some o->upd H h'.objs.size (DL h'.objs.size q params body sc (j0 X.env sc.names []) c') b=some o:=λb o e=>by rw[f6 (f7 e nf)];exact e
  exact h _ c' _ _ (I.laid (a:=h'.objs.size) (o:=DL h'.objs.size q params body sc (j0 X.env sc.names []) c') (t':=tk) (λb u e=>Sh _ (hk b u e)) hsz (KB (Sr _ rfl))) ⟨i8,kp _ _ hc',nf,λb o _ e=>kp _ _ e,ps,kp _ _ hP,ht.1,.inr ⟨c',hf,kp _ _ hc'⟩⟩
end
theorem Ci:∀{kz:List Int} {ws:List V} {its:List Wk},Vals ws its->Paired (λ(p:Int×V) (q:Int×Wk)=>p.1=q.1/\RelV p.2 q.2) (kz.zip ws) (kz.zip its)
 | [],_,_,_ => .nil
 | _::_,_,_,.nil => .nil
 | _::_,_,_,.cons r t => .cons ⟨rfl,r⟩ (Ci t)
theorem Cj{R:Int->Int->Prop}:∀{ys:List (Int×V)} {zs:List (Int×Wk)},Paired (λ(p:Int×V) (q:Int×Wk)=>p.1=q.1/\RelV p.2 q.2) ys zs->Vals (ys.map (·.2)) (zs.map (·.2))/\ys.map (·.1)=zs.map (·.1)
 | _,_,.nil=>⟨.nil,rfl⟩
 | _,_,.cons r t=>⟨.cons r.2 (Cj (R:=R) t).1,by rw[TY,TY,r.1,(Cj (R:=R) t).2]⟩
noncomputable def RK(X:Cx)(q:Str)(lp:Pos)(params:Xp)(body:Expr)(sc:Ww)(js:List Nat)(tb:TE)(vs:List V)(σ:St)(H1:Hp)(Q:VK):Prop:=
 ∃(p:Wm) (ws:List V) (kz:List Int) (c P:Wm) (ps:Array Wk),vs=[.ref p]/\ws.length<64/\kz.length=ws.length/\X.env.code = .ref c/\PySem.W.codeHdIn X.K c P=true/\H1 P=some (.tbl ps)/\TabOk H1 q lp ps/\
  ∀ f c' H2,LamNew H1 H2 P f c' q lp (DL f q params body sc (j0 X.env sc.names []) c')->∃ J:Hp->Prop,J H2/\SqL X.K H2 p ws/\(∀ H,J H->H f=some (DL f q params body sc (j0 X.env sc.names []) c')/\H c'=some (CodO c' q))/\
   (∀(i:Nat) v z H,ws[i]?=some v->kz[i]?=some z->J H->tb (Ch [v] js σ) H λr H'=>r = .int z/\J H')/\
   ∀ H l (ys:List (Int×V)),J H->H l=none->ys.Perm (kz.zip ws)->(ys.map (·.1)).Pairwise (·<=·)->Q (.ref l) (upd H l (.lst (ys.map (·.2))))
theorem KD{X:Cx}{p pos kp lp:Pos}{e body:Expr}{params:Xp}{sc:Ww}{x q:Str}{cn:List Str}{js:List Nat}{t:TA}{tb:TE}(hg:Gl X "sorted")(hm:X.mg "sorted"=none)(ha:PA X [e] t)(hok:BX X.env.scope sc [x] cn X.N js=true)(hq:X.env.qual++"<lambda>"=q)
 (hdef:defaultsOf params X.env=([],[])) (hbind:∀(cl:List (Str×Wm)) (pm c' ctv u:Wk),Y6 (PySem.W.kla_fn "<lambda>" q params body sc cl pm c' ctv) ⟨[u],[]⟩=pure [(x,u)]) (hd:X.calm=true) (dep:X.A.depth<XX)
 (hb:∀ s H f c',PE (Ej X X.A.in1.in1 q sc ([x]++cn) s H f c') body tb) (he:backTo pos (Wv [e] X.env)=(false,eval e X.env)::backTo pos (Wv [] X.env)) (hpl:(backTo pos (Wv [e] X.env)).any (·.1)=false):
 PE X (.Call (.Name "sorted" p) [e] [⟨some "key",.Lambda params body sc lp,kp⟩] pos) (λσ H Q=>t σ H λvs H1=>RK X q lp params body sc js tb vs σ H1 Q):=by
 intro pins s σ H Q I h;have hok':=hok;unfold BX w5 at hok';simp only[Sf,dQ,T9,Ti,TQ,decide_eq_false_iff_not]at hok';obtain⟨⟨⟨⟨⟨⟨⟨⟨k1,k2⟩,k3⟩,k4⟩,k5⟩,k6⟩,k7⟩,k8⟩,k9⟩:=hok'
 have hcl:Yf sc X.env=pure (j0 X.env sc.names []):=Ag λy hy hf=>I.ok.has y.1 (by
  rcases k2 y hy with(z | z) | z
  ·exact absurd hf z
  ·exact .inl z
  ·exact .inr z)
 refine XM (AL I hg hm (show Wu "sorted"=some (.builtin "sorted") by decide +kernel) ?_ (by decide) (by decide));refine callWith_kw (thn (ha pos pins s σ H _ I h) λus s1 ⟨vs,H1,I1,r1,p,ws,kz,c,P,ps,ev,lt,lk,ec,C,hP,ht,h1⟩=>?_) he hpl rfl rfl;refine thn (Q:=λzs s2=>∃ f c' H2,zs=[.ref f]/\Inv X pins σ H2 s2/\LamNew H1 H2 P f c' q lp (DL f q params body sc (j0 X.env sc.names []) c')) (wpAny_evalAll_cons (Wj (KC I1 ec (PySem.W.codeHd_of_K I1.mod.kin C) hP ht hq hdef hcl λf c' H2 s2 I2 L=>Wj (Y2 (Wn (wpAny_evalAll_nil ⟨f,c',H2,rfl,I2,L⟩)))))) λzs s2 ⟨f,c',H2,ez,I2,L⟩=>?_;subst ez;subst ev;obtain⟨u,rfl,rx⟩:=AV r1;cases rx;obtain⟨J,j2,hl,hJ,turn,fin⟩:=h1 f c' H2 L;obtain⟨its,r',pl,hz⟩:=I2.list hl;have hlen:=r'.length;refine GF (f := .ref f) (kz:=kz) rfl I2 pl.isList j2 (by omega) (by omega) (λi v z pins' H' s' hv hz I' j'=>?_) λs' H' a out cc I' f' j' g ⟨zs,pm,eo,pw⟩=>?_
 ·have il:=(gM hv).1;have hw:=Si (show i<ws.length by omega);obtain⟨u,hu,ru⟩:=r'.get hw;rw[hv]at hu;cases hu;exact K8 (ps:=[x]) (js:=js) I' hok I'.ok.frames (I'.ok.hd hd) dep (hJ H' j').1 (hJ H' j').2 (λpm ctv=>hbind _ _ _ _ _) (.cons ru .nil) rfl (hb s' H' f c') (turn i _ z H' hw hz j')
 ·obtain⟨ys,rp,py⟩:=BO pm (Ci (kz:=kz) r');have po:=Cj (R:=(·<=·)) rp
  have hz2:(ys.map (·.2)).length<=Ws:=by
   rw[Se,py.length_eq,List.length_zip];exact y6 (Uc (Nat.min_le_right _ _) lt)
  refine⟨.ref a,_,I'.take (t':=s'.toks) f' (show ObjOk X.prog X.w _ _ _ (.lst (ys.map (·.2))) from ⟨hz2,out.toList,cc,eo▸po.1,by simpa using g⟩),rfl,fin H' a ys j' f'.1 py ?_⟩;rw[po.2,Tu];exact pw.imp λ{a b} h=>by simpa using h
def HU(ts:List Wm)(H:Hp):Prop:=(∀ P∈ts,H P=some (.tbl #[]))/\∀ b,H b=none\/(∃ o xs,H b=some (.frz o (.lst xs)))\/b∈ts
theorem Ij{P:Wr}{w:Wt}{K:Sd}{mg mb:Str->Option Wk}{k:Nat}{fa a:Wm}{fd:XY}{x:Str}{sp:Sp}{s₁:Wl}{vs:List Wk}{ns:List Int}{ts:List Wm}
 (KX:K.In s₁.heap) (hns:s₁.heap.Ns Wq mg) (hb:s₁.heap.Ns Xr mb) (hbb:∀ x:Str,x≠"__name__"->mb x=Wu x) (hlim:s₁.heap.NoLimit) (hbm:BmAt mg s₁.heap) (hg:s₁.gens=#[])
 (ha:s₁.heap.get? a=some {cls := .type "list",data := .seq vs.toArray}) (hi:IntsAre vs ns) (hl:ns.length<=Ws) (hr:Room k callerA) (hts:∀ T∈ts,s₁.heap.get? T=some (PySem.W.tabObj #[])/\K.lookup T=none/\∃ c,PySem.W.codeHdIn K c T=true)
 (F:∀ base:Heap,K.In base->base.Ns Wq mg->FnOk P w K mg base CX0 k fa fd [x] sp) (hbind:∀(s:Wl) (u:Wk),BindsTo s fd ⟨[u],[]⟩ [(x,u)])
 (hsp:∀ H:Hp,HU ts H->SqL K H a (ns.map V.int)->sp [.ref a] H (λv _=>v = .bl true) λ_ _ _=>False):
 codeAny (Wp P w) callerA (.call (.ref fa) ⟨[.ref a],[]⟩) (λr s'=>r = .ok (.ret (.bool true))/\OldK s₁.heap s'.heap/\s'.os=s₁.os/\AllBare s'.gens) s₁:=by
 have rv:=DY hi;have lenV:=hi.length;have aT:a∉ts:=λz=>by have e:=(hts a z).1;rw[ha]at e;cases e
 have core:∀ H:Hp,HU ts H->SqL K H a (ns.map V.int)->HOk P w H s₁.heap->(∀ b,H b≠none->b=a\/b∈ts)->(H a≠none->K.lookup a=none)->
  codeAny (Wp P w) callerA (.call (.ref fa) ⟨[.ref a],[]⟩) (λr s'=>r = .ok (.ret (.bool true))/\OldK s₁.heap s'.heap/\s'.os=s₁.os/\AllBare s'.gens) s₁:=by
  intro H hO hS hok hA hK;have p9:∀{b:Wm} {o:Obj},s₁.heap.get? b=some o->H b=none->(Dw s₁.heap H).get? b=some o:=λe n=>JX e n
  have noA:∀{b:Wm} {o:Obj},s₁.heap.get? b=some o->o≠{cls := .type "list",data := .seq vs.toArray}->o≠PySem.W.tabObj #[]->H b=none:=λ{b o} e d d'=>by
   cases q:H b with
   | none=>rfl
   | some u=>
     rcases hA b (by rw[q];simp) with z | z
     ·rw[z,ha]at e;exact absurd (oj e).symm d
     ·rw[(hts b z).1]at e;exact absurd (oj e).symm d'
  have nsK:∀{b:Wm} {m:Str->Option Wk},s₁.heap.Ns b m->(Dw s₁.heap H).Ns b m:=λ{b m} ⟨o,es,ep,e,d,r⟩=>⟨o,es,ep,p9 e (noA e (λz=>by rw[z]at d;cases d) (λz=>by rw[z]at d;cases d)),d,r⟩
  have hKb:K.In (Dw s₁.heap H):=λb o e=>p9 (KX b o e) (by
   cases q:H b with
   | none=>rfl
   | some u=>
     rcases hA b (by rw[q];simp) with z | z
     ·subst z;rw[hK (by rw[q];simp)]at e;cases e
     ·rw[(hts b z).2.1]at e;cases e)
  have hM:Mod K mg (Dw s₁.heap H):=⟨hKb,nsK hns,⟨mb,nsK hb,hbb⟩,let ⟨mc,h1,h2⟩:=hlim;⟨mc,nsK h1,h2⟩,let ⟨bm,ob,b1,b2,b3,b4,b5,b6⟩:=hbm;⟨bm,ob,b1,b2,p9 b3 (noA b3 (λz=>by rw[z]at b6;cases b6) (λz=>by rw[z]at b6;cases b6)),b4,b5,b6⟩⟩
  have e0:Env0 P w K mg (Dw s₁.heap H) callerA [] s₁ H:=⟨rfl,hM,λb o e=>MA e,Vu (IG _ _),trivial,(λ_ z=>nomatch z),hok,.of_eq hg⟩
  refine XQ ((F _ hKb (nsK hns)).run callerA [] s₁ H ⟨[.ref a],[]⟩ [.ref a] [.ref a] _ _ hr e0 (hbind s₁ (.ref a)) (.cons rfl .nil) (hsp H hO hS)) λr s' h=>?_;cases r with
  | error e=>exact False.elim h
  | ok fl=>
    cases fl with
    | next=>exact False.elim h
    | brk=>exact False.elim h
    | cont=>exact False.elim h
    | ret u=>
      obtain⟨v,H',os,bare,un,hok',r',q⟩:=h;have q':v = .bl true:=q;subst q';obtain rfl:u=Value.bool true:=r'
      have one:∀ b o,s₁.heap.get? b=some o->s'.heap.get? b=some o\/(b∈ts/\∃ more,s'.heap.get? b=some (PySem.W.tabObj (#[]++more))):=λb o e=>by
       cases q:H b with
       | none=>exact .inl (un.keep b o e q (λz=>nomatch z) (λz=>nomatch z))
       | some u=>
         rcases hO.2 b with z | ⟨ob,xs,z⟩ | z
         ·rw[q]at z;cases z
         ·have z2:=un.frzs b ob _ z;obtain⟨e1,_⟩:=hok b _ z;obtain⟨e2,_⟩:=hok' b _ z2;rw[e]at e1;cases e1;exact .inl e2
         ·obtain⟨more,z2⟩:=un.tbls b _ (hO.1 b z);exact .inr ⟨z,more,hok' b _ z2⟩
      refine⟨rfl,⟨λb o e=>?_,λb o e=>?_⟩,os,bare⟩
      ·rcases one b o e with z | ⟨z,more,g⟩
       ·exact .inl z
       ·obtain⟨e1,_,c,hc⟩:=hts b z;rw[e]at e1;cases e1;exact .inr (.inl ⟨((PySem.W.codeHd_of_K KX hc).tab e).isCodeTable,rfl,#[],more,rfl,g⟩)
      ·rcases one b o e with z | ⟨z,more,g⟩
       ·exact⟨_,z⟩
       ·exact⟨_,g⟩
 have noTS:∀{b:Wm},b∈ts->K.lookup b=none:=λz=>(hts _ z).2.1;cases hk:K.lookup a with
 | some o=>
   have e:=KX a o hk;rw[ha]at e;cases e;refine core (λb=>if b∈ts then some (.tbl #[]) else none) ⟨λT hT=>iP hT,λb=>?_⟩ (.inr ⟨_,vs.toArray,_,hk,rfl,rfl,rfl,by rw[Sq,lenV];exact hl,by simpa using rv⟩) (λb u z=>?_) (λb z=>?_) λz=>absurd (iG aT) z
   ·by_cases hb:b∈ts
    ·exact .inr (.inr hb)
    ·exact .inl (iG hb)
   ·by_cases hb:b∈ts
    ·have z':=(iP hb).symm.trans z;cases z';exact(hts b hb).1
    ·have z':=(iG hb).symm.trans z;cases z'
   ·by_cases hb:b∈ts
    ·exact .inr hb
    ·exact absurd (iG hb) z
 | none=>
   refine core (λb=>if b∈ts then some (.tbl #[]) else if b=a then some (.frz {cls := .type "list",data := .seq vs.toArray} (.lst (ns.map V.int))) else none) ⟨λT hT=>iP hT,λb=>?_⟩ (.inl (.inr ⟨{cls := .type "list",data := .seq vs.toArray},(iG aT).trans (iP rfl)⟩)) (λb u z=>?_) (λb z=>?_) λ_=>hk
   ·by_cases hb:b∈ts
    ·exact .inr (.inr hb)
    ·by_cases h2:b=a
     ·exact .inr (.inl ⟨_,_,(iG hb).trans (iP h2)⟩)
     ·exact .inl ((iG hb).trans (iG h2))
   ·by_cases hb:b∈ts
    ·have z':=(iP hb).symm.trans z;cases z';exact(hts b hb).1
    ·by_cases h2:b=a
     ·have z':=((iG hb).trans (iP h2)).symm.trans z;cases z';subst h2;exact⟨ha,by rw[Se];exact hl,vs,_,rv,ha⟩
     ·have z':=((iG hb).trans (iG h2)).symm.trans z;cases z'
   ·by_cases hb:b∈ts
    ·exact .inr hb
    ·by_cases h2:b=a
     ·exact .inl h2
     ·exact absurd ((iG hb).trans (iG h2)) z
theorem walk_ofT{l:PySem.W.OpenLaw}{n k:Nat}{q:Wr}{loose:List Str}{XP:(Str->Option Wk)->Heap->Prop}{YP:Wt->Heap->Prop}{d:DefRec}{K:Params->Sd}{sp:Wt->Sp}{x:Str}{ts:List Wm}
 (hn:l.most=some n) (hn2:n<=Ws) (hdf:d.params.defaults=[]) (hr:Room k callerA)
 (hY:∀(w:Wt) (h:Heap),YP w h->(K w.params).In h/\∀ T∈ts,h.get? T=some (PySem.W.tabObj #[])) (hT:∀ w:Wt,∀ T∈ts,(K w.params).lookup T=none/\∃ c,PySem.W.codeHdIn (K w.params) c T=true)
 (F:∀(w:Wt) (mg:Str->Option Wk) (fa:Wm) (h:Heap),(K w.params).In h->h.Ns Wq mg->mg d.name=some (.ref fa)->
   ∃ fd:XY,(∀(s:Wl) (u:Wk),BindsTo s fd ⟨[u],[]⟩ [(x,u)])/\
    ∀ base:Heap,(K w.params).In base->base.Ns Wq mg->FnOk l.prog w (K w.params) mg base CX0 k fa fd [x] (sp w))
 (hsp:∀(w:Wt) (H:Hp) (a:Wm) (ns:List Int),ns.length<=n->HU ts H->SqL (K w.params) H a (ns.map V.int)->sp w [.ref a] H (λv _=>v = .bl true) λ_ _ _=>False):
 PySem.W.WalkO q loose XP YP l.row.toRowW d [] (λf vs=>PySem.call f vs):=by
 refine Att.attach_call hn hdf λw s₀ s₁ mg mb fa o pm cd doc a vs ns G Y ho hd hcd hmg hobj hints hlen hg=>?_;obtain⟨KX,hts⟩:=hY w _ Y;obtain⟨fd,hb,hF⟩:=F w mg fa _ KX G.T.g hmg;exact Ij KX G.T.g G.T.b G.T.builtins G.T.nolimit G.T.bmain hg hobj hints (Th hlen hn2) hr (λT z=>⟨hts T z,hT w T z⟩) hF hb λH hO hS=>hsp w H a ns hlen hO hS
end L2
namespace Rf
open PySem L2
inductive TyN where
 | int | bool | str | list | tuple | none
 deriving DecidableEq
def TyN.nm:TyN->String
 | .int=>"int" | .bool=>"bool" | .str=>"str" | .list=>"list" | .tuple=>"tuple" | .none=>"NoneType"
inductive SV where
 | non | bl (b:Bool) | int (i:Int) | str (x:Str) | tup (xs:List SV) | loc (k:Nat) | ro (xs:List SV) | ty (t:TyN)
inductive SO where
 | lst (xs:List SV)
 | iset (ms:List Int)
 | dtp (kvs:List ((Int×Int)×Int)) | dtl (kvs:List (List Int×SV)) | dtf (o:Obj) (us:List (List Key×V)) (kvs:List (List Int×SV)) | dct (kvs:List (Int×SV)) | dcf (o:Obj) (ks:List (Key×V)) (kvs:List (Int×SV)) | tbl (x:Str) (lp:Pos)
abbrev Sto:=List SO
abbrev EnvS:=List (Option SV)
def FzL(K:Sd)(H:Hp)(a:Wm)(vs:List V):Prop:=(∃ o,H a=some (.frz o (.lst vs)))\/
 ∃(o:Obj) (its:Array Wk) (n:Nat),K.lookup a=some o/\o.cls = .type "list"/\o.dict=none/\o.data = .seq its n/\its.size<=Ws/\Vals vs its.toList
theorem FzL.sq{K:Sd}{H:Hp}{a:Wm}{vs:List V}(h:FzL K H a vs):SqL K H a vs:=h.imp (λ⟨o,e⟩ => .inr ⟨o,e⟩) id
mutual
noncomputable def Rl(K:Sd)(as:List Wm)(H:Hp):V->SV->Prop
 | v,.non=>v = .non
 | v,.bl b=>v = .bl b
 | v,.int i=>v = .int i
 | v,.str x=>v = .str x
 | v,.tup xs=>∃ p vs,v = .ref p/\H p=some (.tup vs)/\RlAll K as H vs xs
 | v,.loc k=>∃ a,as[k]?=some a/\v = .ref a
 | v,.ro xs=>∃ a vs,v = .ref a/\FzL K H a vs/\RlAll K as H vs xs
 | v,.ty t=>v = .ty t.nm
noncomputable def RlAll(K:Sd)(as:List Wm)(H:Hp):List V->List SV->Prop
 | vs,[]=>vs=[]
 | vs,x::xs=>∃ v r,vs=v::r/\Rl K as H v x/\RlAll K as H r xs
end
def imm:HO->Bool
 | .tup _=>true
 | .frz _ (.lst _)=>true
 | .ext _=>true
 | _=>false
def KeepU(H H':Hp):Prop:=∀ b o,H b=some o->imm o=true->H' b=some o
theorem KeepU.refl(H:Hp):KeepU H H:=λ_ _ h _=>h
theorem KeepU.trans{H H' H'':Hp}(a:KeepU H H')(b:KeepU H' H''):KeepU H H'':=λx o h i=>b x o (a x o h i) i
theorem u7{H:Hp}{p:Wm}{o:HO}(hp:H p=none):KeepU H (upd H p o):=λb u h _=>by
 rw[f6 (f7 h hp)];exact h
theorem C6{H:Hp}{a:Wm}{u o:HO}(h:H a=some u)(i:imm u=false):KeepU H (upd H a o):=λb v hb iv=>by
 rw[f6 (QX hb h (by intro z;rw[z,i]at iv;cases iv))];exact hb
theorem FzL.mono{K:Sd}{H H':Hp}{a:Wm}{vs:List V}(k:KeepU H H')(h:FzL K H a vs):FzL K H' a vs:=h.imp (λ⟨o,e⟩=>⟨o,k _ _ e rfl⟩) id
theorem MY{α:Type}{as as':List α}(h:as <+: as'){k:Nat}{a:α}(e:as[k]?=some a):as'[k]?=some a:=by
 obtain⟨t,rfl⟩:=h;rw[TC ((gM e).1)];exact e
mutual
theorem Rl.mono{K:Sd}{as as':List Wm}{H H':Hp}(ha:as <+: as')(hH:KeepU H H'):∀(x:SV) (v:V),Rl K as H v x->Rl K as' H' v x
 | .non,v,h=>by unfold Rl at h ⊢;exact h
 | .bl _,v,h=>by unfold Rl at h ⊢;exact h
 | .int _,v,h=>by unfold Rl at h ⊢;exact h
 | .str _,v,h=>by unfold Rl at h ⊢;exact h
 | .tup xs,v,h=>by
   unfold Rl at h ⊢;obtain⟨p,vs,e,hp,h⟩:=h;exact⟨p,vs,e,hH p _ hp rfl,RlAll.mono ha hH xs vs h⟩
 | .ro xs,v,h=>by
   unfold Rl at h ⊢;obtain⟨p,vs,e,hp,h⟩:=h;exact⟨p,vs,e,hp.mono hH,RlAll.mono ha hH xs vs h⟩
 | .ty _,v,h=>by unfold Rl at h ⊢;exact h
 | .loc k,v,h=>by
   unfold Rl at h ⊢;obtain⟨a,e,z⟩:=h;exact⟨a,MY ha e,z⟩
theorem RlAll.mono{K:Sd}{as as':List Wm}{H H':Hp}(ha:as <+: as')(hH:KeepU H H'):∀(xs:List SV) (vs:List V),RlAll K as H vs xs->RlAll K as' H' vs xs
 | [],vs,h=>by unfold RlAll at h ⊢;exact h
 | x::xs,vs,h=>by
   unfold RlAll at h ⊢;obtain⟨v,r,e,h1,h2⟩:=h;exact⟨v,r,e,Rl.mono ha hH x v h1,RlAll.mono ha hH xs r h2⟩
end
section
variable{K:Sd}{as:List Wm}{H:Hp}
theorem rl_non{v:V}:Rl K as H v .non↔v = .non:=by unfold Rl;exact Iff.rfl
theorem rl_bl{v:V}{b:Bool}:Rl K as H v (.bl b)↔v = .bl b:=by unfold Rl;exact Iff.rfl
theorem rl_int{v:V}{i:Int}:Rl K as H v (.int i)↔v = .int i:=by unfold Rl;exact Iff.rfl
theorem rl_str{v:V}{x:Str}:Rl K as H v (.str x)↔v = .str x:=by unfold Rl;exact Iff.rfl
theorem rl_tup{v:V}{xs:List SV}:Rl K as H v (.tup xs)↔∃ p vs,v = .ref p/\H p=some (.tup vs)/\RlAll K as H vs xs:=by rw[Rl]
theorem rl_loc{v:V}{k:Nat}:Rl K as H v (.loc k)↔∃ a,as[k]?=some a/\v = .ref a:=by unfold Rl;exact Iff.rfl
theorem rl_ro{v:V}{xs:List SV}:Rl K as H v (.ro xs)↔∃ a vs,v = .ref a/\FzL K H a vs/\RlAll K as H vs xs:=by rw[Rl]
theorem rl_ty{v:V}{n:TyN}:Rl K as H v (.ty n)↔v = .ty n.nm:=by unfold Rl;exact Iff.rfl
theorem rla_nil{vs:List V}:RlAll K as H vs []↔vs=[]:=by unfold RlAll;exact Iff.rfl
theorem rla_cons{vs:List V}{x:SV}{xs:List SV}:RlAll K as H vs (x::xs)↔∃ v r,vs=v::r/\Rl K as H v x/\RlAll K as H r xs:=by rw[RlAll]
theorem RlAll.nil:RlAll K as H [] []:=rla_nil.mpr rfl
theorem RlAll.cons{v:V}{x:SV}{vs:List V}{xs:List SV}(h:Rl K as H v x)(t:RlAll K as H vs xs):RlAll K as H (v::vs) (x::xs):=rla_cons.mpr ⟨v,vs,rfl,h,t⟩
theorem RlAll.length:∀{xs:List SV} {vs:List V},RlAll K as H vs xs->vs.length=xs.length
 | [],_,h=>by rw[rla_nil.mp h];rfl
 | x::xs,_,h=>by
   obtain⟨v,r,rfl,_,t⟩:=rla_cons.mp h;simp[t.length]
theorem RlAll.get:∀{xs:List SV} {vs:List V} {i:Nat} {x:SV},RlAll K as H vs xs->xs[i]?=some x->∃ v,vs[i]?=some v/\Rl K as H v x
 | [],_,i,_,_,e=>by simp at e
 | y::xs,_,0,_,h,e=>by
   obtain⟨v,r,rfl,a,_⟩:=rla_cons.mp h;simp at e;subst e;exact⟨v,rfl,a⟩
 | y::xs,_,i+1,_,h,e=>by
   obtain⟨v,r,rfl,_,t⟩:=rla_cons.mp h;simpa using t.get (by simpa using e)
theorem RlAll.append:∀{xs ys:List SV} {vs us:List V},RlAll K as H vs xs->RlAll K as H us ys->RlAll K as H (vs++us) (xs++ys)
 | [],_,_,_,h,h'=>by rw[rla_nil.mp h];exact h'
 | x::xs,_,_,_,h,h'=>by
   obtain⟨v,r,rfl,a,t⟩:=rla_cons.mp h;exact .cons a (t.append h')
theorem RlAll.take:∀{xs:List SV} {vs:List V} (n:Nat),RlAll K as H vs xs->RlAll K as H (vs.take n) (xs.take n)
 | _,_,0,_=>by simpa using RlAll.nil
 | [],_,n+1,h=>by rw[rla_nil.mp h];exact .nil
 | x::xs,_,n+1,h=>by
   obtain⟨v,r,rfl,a,t⟩:=rla_cons.mp h;exact .cons a (t.take n)
theorem RlAll.drop:∀{xs:List SV} {vs:List V} (n:Nat),RlAll K as H vs xs->RlAll K as H (vs.drop n) (xs.drop n)
 | _,_,0,h=>h
 | [],_,n+1,h=>by rw[rla_nil.mp h];exact .nil
 | x::xs,_,n+1,h=>by
   obtain⟨v,r,rfl,a,t⟩:=rla_cons.mp h;exact t.drop n
theorem RlAll.set{x:SV}{v:V}(hx:Rl K as H v x):∀{xs:List SV} {vs:List V} (n:Nat),RlAll K as H vs xs->RlAll K as H (vs.set n v) (xs.set n x)
 | [],_,n,h=>by rw[rla_nil.mp h];exact .nil
 | y::xs,_,0,h=>by
   obtain⟨_,r,rfl,_,t⟩:=rla_cons.mp h;exact .cons hx t
 | y::xs,_,n+1,h=>by
   obtain⟨_,r,rfl,a,t⟩:=rla_cons.mp h;exact .cons a (t.set hx n)
theorem RlAll.ins{x:SV}{v:V}(hx:Rl K as H v x){xs:List SV}{vs:List V}(h:RlAll K as H vs xs)(n:Nat):RlAll K as H (vs.take n++v::vs.drop n) (xs.take n++x::xs.drop n):=(h.take n).append (.cons hx (h.drop n))
theorem RlAll.ints{is:List Int}:RlAll K as H (is.map V.int) (is.map SV.int):=by
 induction is with
 | nil=>exact .nil
 | cons i is ih=>exact .cons (rl_int.mpr rfl) ih
end
noncomputable def RlD(K:Sd)(as:List Wm)(H:Hp):List (Key×V)->List (Int×SV)->Prop
 | ks,[]=>ks=[]
 | ks,p::r=>∃ v t,ks=(.inl p.1,v)::t/\Rl K as H v p.2/\RlD K as H t r
theorem RlD.mono{K:Sd}{as as':List Wm}{H H':Hp}(ha:as <+: as')(hH:KeepU H H'):∀(kvs:List (Int×SV)) (ks:List (Key×V)),RlD K as H ks kvs->RlD K as' H' ks kvs
 | [],_,h=>h
 | p::r,_,⟨v,t,e,h1,h2⟩=>⟨v,t,e,Rl.mono ha hH p.2 v h1,RlD.mono ha hH r t h2⟩
noncomputable def RlT(K:Sd)(as:List Wm)(H:Hp):List (List Key×V)->List (List Int×SV)->Prop
 | us,[]=>us=[]
 | us,p::r=>∃ v t,us=(p.1.map Sum.inl,v)::t/\Rl K as H v p.2/\RlT K as H t r
theorem RlT.mono{K:Sd}{as as':List Wm}{H H':Hp}(ha:as <+: as')(hH:KeepU H H'):∀(kvs:List (List Int×SV)) (us:List (List Key×V)),RlT K as H us kvs->RlT K as' H' us kvs
 | [],_,h=>h
 | p::r,_,⟨v,t,e,h1,h2⟩=>⟨v,t,e,Rl.mono ha hH p.2 v h1,RlT.mono ha hH r t h2⟩
def dtV(kvs:List ((Int×Int)×Int)):List (List Key×V):=kvs.map λp=>([.inl p.1.1,.inl p.1.2],V.int p.2)
noncomputable def TabK(K:Sd)(x:Str)(c P:Wm):Prop:=PySem.W.tabIn K x=some (c,P)/\PySem.W.codeHdIn K c P=true
abbrev PR(x:Str):Str:=x++".<locals>."++"<lambda>"
noncomputable def RlO(K:Sd)(as:List Wm)(H:Hp)(a:Wm):SO->Prop
 | .lst xs=>∃ vs,H a=some (.lst vs)/\RlAll K as H vs xs
 | .iset ms=>∃ F,H a=some (.set F ms.length)/\∀ k,F k=decide (k∈ms)
 | .dtp kvs=>H a=some (.dT (dtV kvs))
 | .dtl kvs=>∃ us,H a=some (.dT us)/\RlT K as H us kvs
 | .dtf o us kvs=>H a=some (.frz o (.dT us))/\RlT K as H us kvs
 | .dct kvs=>∃ ks,H a=some (.dK ks)/\RlD K as H ks kvs
 | .dcf o ks kvs=>H a=some (.frz o (.dK ks))/\RlD K as H ks kvs
 | .tbl x lp=>∃ c ps,H a=some (.tbl ps)/\TabK K x c a/\TabOk H (PR x) lp ps
structure Ok(K:Sd)(as:List Wm)(H:Hp)(S:Sto):Prop where
 len:as.length=S.length
 nd:as.Nodup
 obj:∀(k:Nat) (o:SO) (a:Wm),S[k]?=some o->as[k]?=some a->RlO K as H a o
noncomputable def EnvOk(K:Sd)(as:List Wm)(H:Hp)(σ:St)(ρ:EnvS):Prop:=σ.length=ρ.length/\∀(i:Nat) (x:SV),ρ[i]?=some (some x)->∃ v,σ[i]?=some (some v)/\Rl K as H v x
theorem EnvOk.mono{K:Sd}{as as':List Wm}{H H':Hp}{σ:St}{ρ:EnvS}(h:EnvOk K as H σ ρ)(ha:as <+: as')(hH:KeepU H H'):EnvOk K as' H' σ ρ:=⟨h.1,λi x e=>let ⟨v,a,b⟩:=h.2 i x e;⟨v,a,Rl.mono ha hH x v b⟩⟩
theorem EnvOk.set{K:Sd}{as:List Wm}{H:Hp}{σ:St}{ρ:EnvS}(h:EnvOk K as H σ ρ){i:Nat}{v:V}{x:SV}(hx:Rl K as H v x):EnvOk K as H (σ.set i (some v)) (ρ.set i (some x)):=⟨by rw[UE,UE];exact h.1,λj y e=>by
 by_cases hij:i=j
 ·subst hij;have hi:i<ρ.length:=by have:=(gM e).1;rwa [UE]at this
  rw[UD hi]at e;rw[UD (by rw[h.1];exact hi)];cases e;exact⟨v,rfl,hx⟩
 ·rw[UX hij]at e ⊢;exact h.2 j y e⟩
section
variable{K:Sd}{as:List Wm}{H:Hp}{S:Sto}
theorem RlO.mono{as':List Wm}{H':Hp}{a:Wm}(ha:as <+: as')(hH:KeepU H H')(e:∀ u,H a=some u->H' a=some u):∀{o:SO},RlO K as H a o->RlO K as' H' a o
 | .lst xs,⟨vs,h1,h2⟩=>⟨vs,e _ h1,RlAll.mono ha hH xs vs h2⟩
 | .iset ms,⟨F,h1,h2⟩=>⟨F,e _ h1,h2⟩
 | .dtp kvs,h1=>e _ h1
 | .dtl kvs,⟨us,h1,h2⟩=>⟨us,e _ h1,RlT.mono ha hH kvs us h2⟩
 | .dtf _ us kvs,⟨h1,h2⟩=>⟨e _ h1,RlT.mono ha hH kvs us h2⟩
 | .dct kvs,⟨ks,h1,h2⟩=>⟨ks,e _ h1,RlD.mono ha hH kvs ks h2⟩
 | .dcf _ ks kvs,⟨h1,h2⟩=>⟨e _ h1,RlD.mono ha hH kvs ks h2⟩
 | .tbl x lp,⟨c,ps,h1,h2,h3⟩=>⟨c,ps,e _ h1,h2,h3.1,h3.2.imp id λ⟨c',h4,h5⟩=>⟨c',h4,hH _ _ h5 rfl⟩⟩
theorem RlO.some{a:Wm}:∀{o:SO},RlO K as H a o->∃ u,H a=some u/\imm u=false
 | .lst _,⟨_,h,_⟩=>⟨_,h,rfl⟩
 | .iset _,⟨_,h,_⟩=>⟨_,h,rfl⟩
 | .dtp _,h=>⟨_,h,rfl⟩
 | .dtl _,⟨_,h,_⟩=>⟨_,h,rfl⟩
 | .dtf _ _ _,⟨h,_⟩=>⟨_,h,rfl⟩
 | .dct _,⟨_,h,_⟩=>⟨_,h,rfl⟩
 | .dcf _ _ _,⟨h,_⟩=>⟨_,h,rfl⟩
 | .tbl _ _,⟨_,_,h,_⟩=>⟨_,h,rfl⟩
theorem Ok.at(h:Ok K as H S){k:Nat}{o:SO}(e:S[k]?=some o):∃ a,as[k]?=some a/\RlO K as H a o:=by
 have hk:k<as.length:=by rw[h.len];exact(gM e).1
 exact⟨as[k],Si hk,h.obj k o _ e (Si hk)⟩
theorem Ok.of(h:Ok K as H S){k:Nat}{a:Wm}(e:as[k]?=some a):∃ o,S[k]?=some o/\RlO K as H a o:=by
 have hk:k<S.length:=by rw[<-h.len];exact(gM e).1
 exact⟨S[k],Si hk,h.obj k _ a (Si hk) e⟩
theorem Ok.new(h:Ok K as H S){p:Wm}{o:HO}(hp:H p=none):Ok K as (upd H p o) S:=⟨h.len,h.nd,λk u a e ea=>by
 have r:=h.obj k u a e ea;obtain⟨z,hz,_⟩:=r.some;exact r.mono (TN as) (u7 hp) λvs hv=>by rw[f6 (f7 hz hp)];exact hv⟩
theorem Ok.free(h:Ok K as H S){p:Wm}(hp:H p=none):p∉as:=λhm=>by
 obtain⟨k,hk⟩:=UB hm;obtain⟨o,_,r⟩:=h.of hk;obtain⟨z,hz,_⟩:=r.some;rw[hp]at hz;cases hz
theorem Ok.pushO(h:Ok K as H S){p:Wm}(hp:H p=none){u:HO}{x:SO}(r:RlO K (as++[p]) (upd H p u) p x):Ok K (as++[p]) (upd H p u) (S++[x]):=by
 have pre:as <+: as++[p]:=UT _ _;refine⟨by rw[Sl,Sl,h.len];rfl,?_,λk o a e ea=>?_⟩
 ·rw[Ug];refine⟨h.nd,by simp,λa ha b hb=>?_⟩;rw[Sv.mp hb];intro z;subst z;exact h.free hp ha
 ·by_cases hk:k<S.length
  ·rw[TC hk]at e;rw[TC (by rw[h.len];exact hk)]at ea;exact((h.new (o:=u) hp).obj k o a e ea).mono pre (KeepU.refl _) λ_ z=>z
  ·have hk':k=S.length:=by
    have:=(gM e).1;rw[Sl,UF]at this;omega
   subst hk';rw[Tb]at e;rw[<-h.len,Tb]at ea;cases e;cases ea;exact r
theorem Ok.push(h:Ok K as H S){p:Wm}(hp:H p=none){vs:List V}{xs:List SV}(r:RlAll K as H vs xs):Ok K (as++[p]) (upd H p (.lst vs)) (S++[.lst xs]):=h.pushO hp ⟨vs,i8,RlAll.mono (UT _ _) (u7 hp) xs vs r⟩
theorem Ok.writeO(h:Ok K as H S){k:Nat}{a:Wm}{y x:SO}{u:HO}(e:S[k]?=some y)(ea:as[k]?=some a)(r:KeepU H (upd H a u)->RlO K as (upd H a u) a x):Ok K as (upd H a u) (S.set k x)/\KeepU H (upd H a u):=by
 obtain⟨z,h1,iz⟩:=(h.obj k _ a e ea).some;have ku:KeepU H (upd H a u):=C6 h1 iz;refine⟨⟨by rw[UE];exact h.len,h.nd,λj o b eo eb=>?_⟩,ku⟩;by_cases hj:k=j
 ·subst hj;rw[UD ((gM e).1)]at eo;rw[ea]at eb;cases eo;cases eb;exact r ku
 ·rw[UX hj]at eo
  have hab:b≠a:=λz=>by
   subst z;exact hj ((Vv ((gM ea).1) h.nd).mp (ea.trans eb.symm))
  exact(h.obj j o b eo eb).mono (TN as) ku λws hw=>by rw[f6 hab];exact hw
theorem Ok.write(h:Ok K as H S){k:Nat}{a:Wm}{ys xs:List SV}{vs:List V}(e:S[k]?=some (.lst ys))(ea:as[k]?=some a)(r:RlAll K as H vs xs):Ok K as (upd H a (.lst vs)) (S.set k (.lst xs))/\KeepU H (upd H a (.lst vs)):=h.writeO e ea λku=>⟨vs,i8,RlAll.mono (TN as) ku xs vs r⟩
end
structure Go(as:List Wm)(H:Hp)(as':List Wm)(H':Hp):Prop where
 pre:as <+: as'
 keep:∀ b o,H b=some o->b∉as->H' b=some o/\b∉as'
theorem Go.refl(as:List Wm)(H:Hp):Go as H as H:=⟨TN _,λ_ _ h n=>⟨h,n⟩⟩
theorem Go.trans{as as1 as2:List Wm}{H H1 H2:Hp}(a:Go as H as1 H1)(b:Go as1 H1 as2 H2):Go as H as2 H2:=⟨a.pre.trans b.pre,λx o h n=>let ⟨h1,n1⟩:=a.keep x o h n;b.keep x o h1 n1⟩
theorem Go.new{as:List Wm}{H:Hp}{p:Wm}{o:HO}(hp:H p=none):Go as H as (upd H p o):=⟨TN _,λb u h n=>⟨by rw[f6 (f7 h hp)];exact h,n⟩⟩
theorem Go.push{as:List Wm}{H:Hp}{p:Wm}{o:HO}(hp:H p=none):Go as H (as++[p]) (upd H p o):=⟨UT _ _,λb u h n=>⟨by rw[f6 (f7 h hp)];exact h,by
 rw[TK,Sv];rintro(z | z)
 ·exact n z
 ·exact f7 h hp z⟩⟩
theorem Go.write{as:List Wm}{H:Hp}{a:Wm}{o:HO}(ha:a∈as):Go as H as (upd H a o):=⟨TN _,λb u h n=>⟨by rw[f6 (λz=>n (by rw[z];exact ha))];exact h,n⟩⟩
section
variable{K:Sd}{as as':List Wm}{H H':Hp}{S:Sto}
theorem Ok.away(h:Ok K as H S){b:Wm}{o:HO}(e:H b=some o)(i:imm o=true):b∉as:=λhm=>by
 obtain⟨k,hk⟩:=UB hm;obtain⟨_,_,r⟩:=h.of hk;obtain⟨z,hz,iz⟩:=r.some;rw[e]at hz;cases hz;rw[i]at iz;cases iz
theorem Go.ku(g:Go as H as' H')(ok:Ok K as H S):KeepU H H':=λb o h i=>(g.keep b o h (ok.away h i)).1
end
end Rf
namespace L2
open PySem PySem.Spec PyProof.Rows
open PySem.AutoSeq1 (wpAny_loadPart')
section
variable{prog:Wr}{w:Wt}{A:Wx}{E:Wk->Wl->Prop}{s:Wl}
theorem GG{v:Wk}{Q:Option Wk->Wl->Prop}(hv:s.TypeIs v "list")(h:Q none s):Wo (Wp prog w) A (firstOfTuple' v) Q E s:=by
 rw[C5];refine Wj (YF (T:="list") hv ?_);have ht:(Value.type "list" != Value.type "tuple")=true:=by decide
 rw[ht];simp only[if_true];exact Wn h
theorem GH{v:Wk}{vs:List Wk}{Q:YX->Wl->Prop}(hp:∀ u∈v::vs,s.TypeIs u "list")(h:Q ZC s):Wo (Wp prog w) A (keyKind' (v::vs).toArray) Q E s:=by
 rw[keyKind'_eq,Vw];refine Wj ?_;rw[map_eq_pure_bind];refine Wj (Bf (v::vs) (λ_=>none) (λu hu Q' hq=>GG (hp u hu) hq) (Wn ?_));have e1:¬ ((Vx (λ(_:Wk)=>(none:Option Wk)) (v::vs)).toArray.all λx=>x.isSome)=true:=by simp
 rw[iG e1];have e2:¬ (((Vx (λ(_:Wk)=>(none:Option Wk)) (v::vs)).toArray[0]?).bind id).isSome=true:=by simp
 rw[iG e2,oneTypeOnly'_eq,Vw];refine Wj ?_;rw[map_eq_pure_bind];refine Wj (Wj (Bf (v::vs) (λ_=>Value.type "list") (λu hu Q' hq=>YF (hp u hu) hq) (Wn ?_)))
 have hall:((Vx (λ(_:Wk)=>Value.type "list") (v::vs)).toArray.all λx=>x == Value.type "list")=true:=by
  simp only[List.all_toArray,Vy,T9];intro _ _;rfl
 have h0:(Vx (λ(_:Wk)=>Value.type "list") (v::vs)).toArray[0]?=some (Value.type "list"):=by simp
 rw[h0];dsimp only;rw[iP hall];exact Wn (Wn h)
end
def DM:Wk->Wm
 | .ref p=>p
 | _=>0
theorem Db:∀ ps:List Wm,Vals (ps.map V.ref) (ps.map Value.ref)
 | [] => .nil
 | p::ps => .cons rfl (Db ps)
theorem Ay:∀{ps:List Wm} {us:List Wk},Vals (ps.map V.ref) us->us=ps.map Value.ref
 | [],_,.nil=>rfl
 | _::ps,_,.cons r1 t1=>by cases r1;rw[Ay t1];rfl
section
variable{X:Cx}
theorem RL:Wu "any"=some (.builtin "any"):=by decide +kernel
theorem Ik(hc:X.calm=true):CallR X (.builtin "any") (λxs H Q=>∃(a:Wm) (bs:List Bool),xs=[.ref a]/\SqL X.K H a (bs.map V.bl)/\Q (.bl (bs.any id)) H):=by
 intro pins s σ H xs us Q I r h;obtain⟨a,bs,rfl,hq,q⟩:=h;obtain⟨u,rfl,ru⟩:=AV r;cases ru;obtain⟨its,rv,pl,hz⟩:=I.list hq;have hl:=rv.length;rw[Se]at hl;refine call_any_walk (Xj pl.isList ?_);have hlt:a<s.heap.objs.size:=by obtain⟨o,n,e,_⟩:=pl;exact Sj e
 refine⟨s.heap.objs.size,_,_,_,_,_,λi=>bs.getD i false,rfl,Walks.list (by exact I.ok.hd hc) s.heap.objs.size a (Sx hlt) its.toArray,⟨⟨_,Sr _ rfl,rfl,rfl⟩,pl.isList.push _⟩,?_,λh' tk hk=>?_⟩
 ·intro i v s' Q' E' hv hQ';have hv':its[i]?=some v:=by simpa using hv
  have hi:i<its.length:=(gM hv').1;have hb:(bs.map V.bl)[i]?=some (.bl (bs[i]'(by omega))):=by simp
  obtain⟨u',eu,ru'⟩:=rv.get hb;rw[hv']at eu;cases eu;cases ru';have hg:bs.getD i false=bs[i]'(by omega):=by simp[UA,show i<bs.length by omega]
  have hQ2:Q' (bs.getD i false) s':=hQ';rw[hg]at hQ2;exact X4 hQ2
 ·have I1:Inv X pins σ H {s with heap:=h',toks:=tk}:=I.kept λb o e=>hk b o (by simp;exact Sx (Sj e)) (Sh _ e);refine⟨.bl _,H,I1,rfl,?_⟩
  have e:(So its.toArray.size).any (λi=>bs.getD i false)=bs.any id:=by
   rw[Sq,<-hl,Ta,UH,UH];constructor
   ·rintro⟨j,hj,e⟩;have hj1:j<bs.length:=TH.mp hj;exact⟨bs[j],U0 hj1,by simpa[UA,hj1] using e⟩
   ·rintro⟨b,hb,e⟩;obtain⟨j,hj,e2⟩:=U9.mp hb;exact⟨j,TH.mpr hj,by simpa[UA,hj,e2] using e⟩
  rw[e];exact q
theorem Ck(hu:X.A.units+1<cLine):OpR X (X0 .NotIn) (λx y H Q=>∃(a p:Wm) (ps:List Wm) (f:Wm->List Int),x = .ref a/\y = .ref p/\SqL X.K H p (ps.map V.ref)/\H a=some (.lst ((f a).map V.int))/\(∀ q∈ps,H q=some (.lst ((f q).map V.int)))/\
 Q (.bl (!(ps.any λq=>decide (f q=f a)))) H):=by
 intro pins s σ H x y v u Q I rx ry h;obtain⟨a,p,ps,f,rfl,rfl,hq,ha,hps,q⟩:=h;cases rx;cases ry;obtain⟨its,r,pl,hz⟩:=I.list hq;have ei:=Ay r;subst ei;refine SeqAt.notIn_listAt (λv=>decide (f (DM v)=f a)) pl.isList (λw hw=>?_) ⟨.bl _,H,I,rfl,?_⟩
 ·have hw':w∈ps.map Value.ref:=by simpa using hw
  obtain⟨q',hq',rfl⟩:=TR.mp hw';show SeqAt.EqAt _ s (.ref q') (.ref a) (decide (f q'=f a));by_cases hne:q'=a
  ·subst hne;rw[decide_eq_true rfl];exact SeqAt.EqAt.same _
  ·obtain⟨i1,q1,l1,_⟩:=I.list (SqL.of (hps q' hq'));obtain⟨i2,q2,l2,_⟩:=I.list (SqL.of ha);have n1:=q1.length;have n2:=q2.length;rw[Se]at n1 n2;refine SeqAt.EqAt.of_refs hne ?_;by_cases hl:(f q').length=(f a).length
   ·have:=SeqAt.RcAt.lists (A:=X.A.in1) (s:=s) (e:=λk=>eqV (((f q').map V.int).getD k .non) (((f a).map V.int).getD k .non)) l1.isList l2.isList (by simp;omega) (by show X.A.units+1<cLine;exact hu) (Be q1 q2 (.inl ⟨by simp[v4],by simp[v4]⟩))
    have e2:((So i1.toArray.size).all λk=>eqV (((f q').map V.int).getD k .non) (((f a).map V.int).getD k .non))=decide (f q'=f a):=by
     rw[Ta,T9,dQ];constructor
     ·intro hh;refine VI hl λk h1 h2=>?_;have:=hh k (TH.mpr (by simp;omega));simpa[UA,h1,h2,eqV] using this
     ·intro hh k hk;have hk1:k<(f a).length:=by have:=TH.mp hk;simp at this;omega
      rw[hh];simp[UA,hk1,eqV]
    rw[e2]at this;exact this
   ·rw[decide_eq_false (λz=>hl (by rw[z]))];exact SeqAt.RcAt.lists_lengths l1.isList l2.isList (by simp;omega) (by show X.A.units+1<cLine;exact hu)
 ·have:((ps.map Value.ref).toArray.any λv=>decide (f (DM v)=f a))=ps.any λq=>decide (f q=f a):=by
   rw[List.any_toArray,VR];rfl
  rw[this];exact q
end
end L2
namespace Rf
open PySem L2
abbrev QE:=SV->Sto->Prop
abbrev WE:=EnvS->Sto->QE->Prop
abbrev WA:=EnvS->Sto->(List SV->Sto->Prop)->Prop
abbrev WT:=EnvS->Sto->(Bool->Sto->Prop)->Prop
noncomputable def Post(K:Sd)(as:List Wm)(H:Hp)(Q:VK):QE:=λx S'=>∀ as' H' v,Go as H as' H'->Ok K as' H' S'->Rl K as' H' v x->Q v H'
noncomputable def RM(K:Sd)(as:List Wm)(H:Hp)(Q:List V->Hp->Prop):List SV->Sto->Prop:=λxs S'=>∀ as' H' vs,Go as H as' H'->Ok K as' H' S'->RlAll K as' H' vs xs->Q vs H'
def PostT(K:Sd)(as:List Wm)(H:Hp)(Q:Bool->Hp->Prop):Bool->Sto->Prop:=λb S'=>∀ as' H',Go as H as' H'->Ok K as' H' S'->Q b H'
noncomputable def lift(K:Sd)(w:WE):TE:=λσ H Q=>∃ as ρ S,Ok K as H S/\EnvOk K as H σ ρ/\w ρ S (Post K as H Q)
noncomputable def liftA(K:Sd)(w:WA):TA:=λσ H Q=>∃ as ρ S,Ok K as H S/\EnvOk K as H σ ρ/\w ρ S (RM K as H Q)
noncomputable def liftT(K:Sd)(w:WT):TT:=λσ H Q=>∃ as ρ S,Ok K as H S/\EnvOk K as H σ ρ/\w ρ S (PostT K as H Q)
def Mono(w:WE):Prop:=∀ ρ S (P P':QE),(∀ x S',P x S'->P' x S')->w ρ S P->w ρ S P'
def MonoA(w:WA):Prop:=∀ ρ S (P P':List SV->Sto->Prop),(∀ x S',P x S'->P' x S')->w ρ S P->w ρ S P'
def MonoT(w:WT):Prop:=∀ ρ S (P P':Bool->Sto->Prop),(∀ x S',P x S'->P' x S')->w ρ S P->w ρ S P'
theorem i5{X:Cx}{e:Expr}{t:TE}(t':TE)(h:PE X e t)(imp:∀ σ H Q,t' σ H Q->t σ H Q):PE X e t':=λpins s σ H Q I hw=>h pins s σ H Q I (imp σ H Q hw)
theorem Cn{X:Cx}{e:Expr}{t:TT}(t':TT)(h:PT X e t)(imp:∀ σ H Q,t' σ H Q->t σ H Q):PT X e t':=λpins s σ H Q I hw=>h pins s σ H Q I (imp σ H Q hw)
theorem KG{X:Cx}{e:List Expr}{t:TA}(t':TA)(h:PA X e t)(imp:∀ σ H Q,t' σ H Q->t σ H Q):PA X e t':=λp pins s σ H Q I hw=>h p pins s σ H Q I (imp σ H Q hw)
section
variable{K:Sd}{as as1 as2:List Wm}{H H1 H2:Hp}
theorem Post.mono{Q:VK}{x:SV}{S:Sto}(h:Post K as H Q x S)(g:Go as H as1 H1):Post K as1 H1 Q x S:=λas' H' v g'=>h as' H' v (g.trans g')
end
abbrev S2:=SV->SV->Sto->QE->Prop
abbrev S1:=SV->Sto->QE->Prop
abbrev Sn:=List SV->Sto->QE->Prop
def w2(s:S2)(a b:WE):WE:=λρ S Q=>a ρ S λx S1=>b ρ S1 λy S2=>s x y S2 Q
def w1(s:S1)(a:WE):WE:=λρ S Q=>a ρ S λx S1=>s x S1 Q
def wn(s:Sn)(a:WA):WE:=λρ S Q=>a ρ S λxs S1=>s xs S1 Q
def Mono2(s:S2):Prop:=∀ x y S (P P':QE),(∀ x S',P x S'->P' x S')->s x y S P->s x y S P'
def Ek(s:S1):Prop:=∀ x S (P P':QE),(∀ x S',P x S'->P' x S')->s x S P->s x S P'
def MonoN(s:Sn):Prop:=∀ x S (P P':QE),(∀ x S',P x S'->P' x S')->s x S P->s x S P'
theorem Mono.two{s:S2}{a b:WE}(hs:Mono2 s)(ha:Mono a)(hb:Mono b):Mono (w2 s a b):=λρ S P P' i h=>ha _ _ _ _ (λ_ _ h=>hb _ _ _ _ (λ_ _ h=>hs _ _ _ _ _ i h) h) h
theorem Mono.one{s:S1}{a:WE}(hs:Ek s)(ha:Mono a):Mono (w1 s a):=λρ S P P' i h=>ha _ _ _ _ (λ_ _ h=>hs _ _ _ _ i h) h
theorem Mono.n{s:Sn}{a:WA}(hs:MonoN s)(ha:MonoA a):Mono (wn s a):=λρ S P P' i h=>ha _ _ _ _ (λ_ _ h=>hs _ _ _ _ i h) h
noncomputable def BV(K:Sd)(s:S2)(r:R2):Prop:=∀ as H S x y v u Q,Ok K as H S->Rl K as H v x->Rl K as H u y->s x y S (Post K as H Q)->r v u H Q
noncomputable def SJ(K:Sd)(s:S1)(r:V->Hp->VK->Prop):Prop:=∀ as H S x v Q,Ok K as H S->Rl K as H v x->s x S (Post K as H Q)->r v H Q
noncomputable def RN(K:Sd)(s:Sn)(r:List V->Hp->VK->Prop):Prop:=∀ as H S xs vs Q,Ok K as H S->RlAll K as H vs xs->s xs S (Post K as H Q)->r vs H Q
theorem BP{K:Sd}{s:S2}{r:R2}{wa wb:WE}(sim:BV K s r)(ms:Mono2 s)(ma:Mono wa)(mb:Mono wb):∀ σ H Q,lift K (w2 s wa wb) σ H Q->tOp r (lift K wa) (lift K wb) σ H Q:=by
 rintro σ H Q ⟨as,ρ,S,ok,en,h⟩;refine⟨as,ρ,S,ok,en,ma _ _ _ _ (λx S1 hb as1 H1 v g1 ok1 rv=>?_) h⟩;refine⟨as1,ρ,S1,ok1,en.mono g1.pre (g1.ku ok),mb _ _ _ _ (λy S2 hs as2 H2 u g2 ok2 ru=>?_) hb⟩;exact sim as2 H2 S2 x y v u Q ok2 (Rl.mono g2.pre (g2.ku ok1) x v rv) ru (ms _ _ _ _ _ (λz S3 hz=>hz.mono (g1.trans g2)) hs)
theorem PU{K:Sd}{s:S1}{r:V->Hp->VK->Prop}{wa:WE}(sim:SJ K s r)(ms:Ek s)(ma:Mono wa):∀ σ H Q,lift K (w1 s wa) σ H Q->tUn r (lift K wa) σ H Q:=by
 rintro σ H Q ⟨as,ρ,S,ok,en,h⟩;refine⟨as,ρ,S,ok,en,ma _ _ _ _ (λx S1 hs as1 H1 v g1 ok1 rv=>?_) h⟩;exact sim as1 H1 S1 x v Q ok1 rv (ms _ _ _ _ (λz S3 hz=>hz.mono g1) hs)
theorem RO{K:Sd}{s:Sn}{r:List V->Hp->VK->Prop}{wa:WA}(sim:RN K s r)(ms:MonoN s)(ma:MonoA wa):∀ σ H Q,lift K (wn s wa) σ H Q->tCB r (liftA K wa) σ H Q:=by
 rintro σ H Q ⟨as,ρ,S,ok,en,h⟩;refine⟨as,ρ,S,ok,en,ma _ _ _ _ (λx S1 hs as1 H1 v g1 ok1 rv=>?_) h⟩;exact sim as1 H1 S1 x v Q ok1 rv (ms _ _ _ _ (λz S3 hz=>hz.mono g1) hs)
def Dc:WA:=λ_ S Q=>Q [] S
def Co(a:WE)(b:WA):WA:=λρ S Q=>a ρ S λx S1=>b ρ S1 λxs S2=>Q (x::xs) S2
theorem MonoA.nil:MonoA Dc:=λ_ _ _ _ i h=>i _ _ h
theorem MonoA.cons{a:WE}{b:WA}(ha:Mono a)(hb:MonoA b):MonoA (Co a b):=λ_ _ _ _ i h=>ha _ _ _ _ (λ_ _ h=>hb _ _ _ _ (λ_ _ h=>i _ _ h) h) h
theorem MZ{X:Cx}{K:Sd}:PA X [] (liftA K Dc):=KG _ AF λσ H Q ⟨as,ρ,S,ok,en,h⟩=>h as H [] (Go.refl _ _) ok .nil
theorem KH{K:Sd}{a:WE}{b:WA}(ma:Mono a)(mb:MonoA b):∀ σ H Q,liftA K (Co a b) σ H Q->HI (lift K a) (liftA K b) σ H Q:=by
 rintro σ H Q ⟨as,ρ,S,ok,en,h⟩;refine⟨as,ρ,S,ok,en,ma _ _ _ _ (λx S1 hs as1 H1 v g1 ok1 rv=>?_) h⟩;refine⟨as1,ρ,S1,ok1,en.mono g1.pre (g1.ku ok),mb _ _ _ _ (λxs S2 hq as2 H2 vs g2 ok2 rs=>?_) hs⟩;exact hq as2 H2 _ (g1.trans g2) ok2 (.cons (Rl.mono g2.pre (g2.ku ok1) x v rv) rs)
theorem KI{X:Cx}{K:Sd}{e:Expr}{es:List Expr}{a:WE}{b:WA}(ma:Mono a)(mb:MonoA b)(h1:PE X e (lift K a))(h2:PA X es (liftA K b))(hs:Wv (e::es) X.env=(false,eval e X.env)::Wv es X.env):PA X (e::es) (liftA K (Co a b)):=KG _ (n0 h1 h2 hs) (KH ma mb)
def PV(i:Nat):WE:=λρ S Q=>∃ x,ρ[i]?=some (some x)/\Q x S
def wC(x:SV):WE:=λ_ S Q=>Q x S
theorem Mono.var{i:Nat}:Mono (PV i):=λ_ _ _ _ i ⟨x,a,b⟩=>⟨x,a,i _ _ b⟩
theorem Mono.c{x:SV}:Mono (wC x):=λ_ _ _ _ i h=>i _ _ h
theorem Ma{K:Sd}{i:Nat}:∀ σ H Q,lift K (PV i) σ H Q->EX i σ H Q:=λσ H Q ⟨as,ρ,S,ok,en,x,e,h⟩=>let ⟨v,ev,rv⟩:=en.2 i x e;⟨v,ev,h as H v (Go.refl _ _) ok rv⟩
theorem El{K:Sd}{x:SV}{v:V}(hx:∀ as H,Rl K as H v x):∀ σ H Q,lift K (wC x) σ H Q->tC v σ H Q:=λσ H Q ⟨as,ρ,S,ok,en,h⟩=>h as H v (Go.refl _ _) ok (hx as H)
def big:Nat:=100000
theorem Am{n:Nat}(h:n<=big):n<=Ws:=Th h (by decide)
theorem GI{n:Nat}(h:n<big):n<Ws:=TV h (by decide)
def Mb:Sn:=λxs S Q=>xs.length<=big/\Q (.tup xs) S
def Mc:Sn:=λxs S Q=>xs.length<=big/\Q (.loc S.length) (S++[.lst xs])
theorem MonoN.tup:MonoN Mb:=λ_ _ _ _ i h=>⟨h.1,i _ _ h.2⟩
theorem MonoN.lst:MonoN Mc:=λ_ _ _ _ i h=>⟨h.1,i _ _ h.2⟩
theorem KJ{K:Sd}{as:List Wm}{H:Hp}{S:Sto}{p:Wm}(ok:Ok K as H S):Rl K (as++[p]) (upd H p (.lst vs)) (.ref p) (.loc S.length):=rl_loc.mpr ⟨p,by rw[<-ok.len,Tb],rfl⟩
theorem AB{K:Sd}{as:List Wm}{H:Hp}{S:Sto}{Q:VK}{xs:List SV}{vs:List V}(ok:Ok K as H S)(r:RlAll K as H vs xs)(h:Post K as H Q (.loc S.length) (S++[.lst xs])):∀ p,H p=none->Q (.ref p) (upd H p (.lst vs)):=λp hp=>
 h (as++[p]) _ (.ref p) (Go.push hp) (ok.push hp r) (KJ ok)
theorem Cp{K:Sd}{as:List Wm}{H:Hp}{S:Sto}{Q:VK}{xs:List SV}{vs:List V}(ok:Ok K as H S)(r:RlAll K as H vs xs)(h:Post K as H Q (.tup xs) S):∀ p,H p=none->Q (.ref p) (upd H p (.tup vs)):=λp hp=>
 h as _ (.ref p) (Go.new hp) (ok.new hp) (rl_tup.mpr ⟨p,vs,rfl,i8,RlAll.mono (TN _) (u7 hp) xs vs r⟩)
theorem Md{K:Sd}{wa:WA}(ma:MonoA wa):∀ σ H Q,lift K (wn Mb wa) σ H Q->Qx (liftA K wa) σ H Q:=by
 rintro σ H Q ⟨as,ρ,S,ok,en,h⟩;refine⟨as,ρ,S,ok,en,ma _ _ _ _ (λxs S1 hs as1 H1 vs g1 ok1 rv=>?_) h⟩;exact⟨by rw[rv.length];exact Am hs.1,Cp ok1 rv (hs.2.mono g1)⟩
theorem Mf{K:Sd}{wa:WA}(ma:MonoA wa):∀ σ H Q,lift K (wn Mc wa) σ H Q->Qy (liftA K wa) σ H Q:=by
 rintro σ H Q ⟨as,ρ,S,ok,en,h⟩;refine⟨as,ρ,S,ok,en,ma _ _ _ _ (λxs S1 hs as1 H1 vs g1 ok1 rv=>?_) h⟩;exact⟨by rw[rv.length];exact Am hs.1,AB ok1 rv (hs.2.mono g1)⟩
end Rf
namespace L2
open PySem PySem.Spec PyProof.Rows
section
variable{prog:Wr}{w:Wt}{A:Wx}{E:Wk->Wl->Prop}{s:Wl}
set_option maxHeartbeats 8000000 in
theorem KK{l:Wm}{items:Array Wk}{ns:List Int}{Q:Wk->Wl->Prop}(hh:A.handled=none)(hl:s.heap.IsTuple l items)(hi:IntsAre items.toList ns)(hb:items.size+1<XU)
 (h:∀(h':Heap) (tk:Nat),SetX prog w h' s.heap.objs.size (Xc (λi=>ns.getD i 0) items.size)->(∀ b o,b<s.heap.objs.size->s.heap.get? b=some o->h'.get? b=some o)->Q (.ref s.heap.objs.size) {s with heap:=h',toks:=tk}):
 Wo (Wp prog w) A (call (.type "set") [.ref l]) Q E s:=by
 obtain⟨c,tl,hmro⟩:=F.called_set.mro;have made:=F.called_set.made;have sub:=F.called_set.sub;have u1:=F.called_set.notType;have u2:=F.called_set.canCreate;have u3:=F.typeCall_set_1 (.ref l);refine Ye (YI ?_);show Wo _ _ (callAny (.type "set") _) _ _ _;refine Wn ⟨Code.quiet_builtin _ (by decide +kernel),XJ F.entry_type_call ?_⟩;rw[Around.under_plain (YM "set" [.ref l] []) rfl]
 repeat (any_goals (first | assumption | wp_step))
 refine XQ (RG (.ref l) (E:=E) (Q₁:=λobj s₁=>obj = .ref s.heap.objs.size/\s₁={s with heap:=s.heap.push (Aj w)}) ⟨rfl,rfl⟩) λr s₁ hr=>?_;cases r with
 | error e=>exact hr
 | ok fl=>
   cases fl with
   | ret obj=>
     obtain⟨rfl,rfl⟩:=hr;have gS:(s.heap.push (Aj w)).get? s.heap.objs.size=some (Aj w):=Sr _ rfl;have hT:Shared.TypeIs {s with heap:=s.heap.push (Aj w)} (.ref s.heap.objs.size) "set":=⟨_,gS,rfl⟩
     have u4:=F.called_set.init.lookup;have u5:=F.called_set.init.bind (.ref s.heap.objs.size)
     repeat (any_goals (first | assumption | wp_step))
     refine XQ (YU (R:=wants (λr s₂=>r = .none/\∃ h' tk,s₂={s with heap:=h',toks:=tk}/\SetX prog w h' s.heap.objs.size (Xc (λi=>ns.getD i 0) items.size)/\
      (∀ b o,b<s.heap.objs.size->s.heap.get? b=some o->h'.get? b=some o)) E) F.called_set.init.plain F.entry_set_init (Yu hT ?_)) λr₂ s₂ hr₂=>?_
     ·obtain⟨⟨cl,di,da,sl⟩,ol,cl',nl,da'⟩:=hl;simp only at cl' da';subst cl' da';have hol:(s.heap.push (Aj w)).get? l=some {cls := .type "tuple",dict:=di,data := .seq items nl,slots:=sl}:=Sh _ ol;have v1:=F.sub_tuple_set;have v2:=F.sub_tuple_frozenset;have v3:(Value.type "tuple" == Value.type "dict")=false:=by decide
      have hl1:(s.heap.push (Aj w)).IsTuple l items:=⟨_,hol,rfl,nl,rfl⟩
      unfold Builtin.«set.__init__» noKeywords Builtin.Frozenset.updateFrom;generalize hPI:pyIter=PI
      wp_walk
      subst hPI;refine XB hl1 (Wj (YV ?_));have lS:l<s.heap.objs.size:=Sj ol;have z1:(s.heap.push (Aj w)).objs.size=s.heap.objs.size+1:=Tf _ _;have lI:l≠(s.heap.push (Aj w)).objs.size:=by rw[z1];exact Sx (UM lS)
      have hSf:s.heap.objs.size∉[(s.heap.push (Aj w)).objs.size,l]:=by
       rw[z1];intro z;rcases T7.mp z with z | z
       ·exact absurd z (Sx (VG _))
       ·exact absurd (Sv.mp z) (V0 lS)
      have hval:∀(i:Nat) (v:Wk),items[i]?=some v->∃ t,v = .int ((λi=>ns.getD i 0) i) t:=λi v hv=>IntsAre.int_at hi i v (by rw[UG];exact hv)
      refine RF ((Walks.tuple (by simp[hh]) _ l lI items).toS) s.heap.objs.size hSf (λi=>ns.getD i 0) hval hb items.size 0 _ (Ui _)
       ⟨⟨_,Sr _ rfl,rfl,rfl⟩,hl1.push _⟩ ((K4 s.heap).keep λo e=>Sh _ e) λs' hm X'=>?_
      obtain⟨h',g',d',tk',os'⟩:=s';obtain rfl:g'=s.gens:=hm.gens;obtain rfl:d'=s.drawn:=hm.drawn;obtain rfl:os'=s.os:=hm.os;refine Wn (Wn ⟨rfl,h',tk',rfl,X',λb o hb e=>hm.heap b o (λz=>?_) (Sh _ (Sh _ e))⟩);rcases T7.mp z with z | z
      ·exact absurd z (Sx hb)
      ·have z':=Sv.mp z;rw[z1]at z';exact absurd z' (Sx (UM hb))
     ·cases r₂ with
      | error e=>exact hr₂
      | ok fl₂=>
        cases fl₂ with
        | ret r=>
          obtain⟨rfl,h',tk,rfl,X',hk'⟩:=hr₂
          repeat (any_goals (first | assumption | wp_step))
          exact h _ _ X' hk'
        | _=>exact hr₂.elim
   | _=>exact hr.elim
theorem SetX.kind{h:Heap}{a:Wm}{L:List Int}(x:SetX prog w h a L):h.SetOf (intKind prog w) a (λk=>decide (k∈L)) L.length:=by
 obtain⟨o,es,ep,t,ho,hx,hd,hel,hb,hf,hT,hp⟩:=x;refine⟨o,es,ep,t,ho,hx,hd,hel,λk=>?_,hb,hf,by rw[<-hp.length_eq];simp⟩;rw[dQ,<-hp.mem_iff,TR];constructor
 ·rintro⟨e,he,rfl⟩;obtain⟨⟨k,hk,_⟩,_⟩:=hel e he;exact⟨e,he,by rw[CQ hk];exact hk⟩
 ·rintro⟨e,he,hk⟩;exact⟨e,he,CQ hk⟩
end
section
variable{X:Cx}
def BY(ns:List Int):List Int:=Xc (λi=>ns.getD i 0) ns.length
theorem An(ns:List Int)(k:Int):k∈BY ns↔k∈ns:=by
 have e:=firstMet_any (λi=>ns.getD i 0) ns.length k
 have e2:(So ns.length).map (λi=>ns.getD i 0)=ns:=by
  apply VI
  ·simp
  ·intro i h1 h2;simp[Si h2]
 rw[e2]at e;have h1:(BY ns).any (· == k)=true↔k∈BY ns:=by simp
 have h2:ns.any (· == k)=true↔k∈ns:=by simp
 rw[<-h1,<-h2];unfold BY;rw[e]
theorem Il(hc:X.calm=true):CallR X (.type "set") (λxs H Q=>∃ p ns,xs=[.ref p]/\(SqL X.K H p (ns.map V.int)\/SqT X.K H p (ns.map V.int))/\ns.length<=900/\∀ l,H l=none->Q (.ref l) (upd H l (.set (λk=>decide (k∈ns)) (BY ns).length))):=by
 intro pins s σ H xs us Q I r h;obtain⟨p,ns,rfl,hq,h9,q⟩:=h;obtain⟨u,rfl,rx⟩:=AV r;cases rx
 have fin:∀(its:List Wk),Vals (ns.map V.int) its->∀(h':Heap) (tk:Nat),SetX X.prog X.w h' s.heap.objs.size (Xc (λi=>ns.getD i 0) its.toArray.size)->(∀ b o,b<s.heap.objs.size->s.heap.get? b=some o->h'.get? b=some o)->EP X pins σ Q (.ref s.heap.objs.size) {s with heap:=h',toks:=tk}:=by
  intro its r' h' tk hX hk;have hlen:=r'.length;rw[Se]at hlen
  have hX:SetX X.prog X.w h' s.heap.objs.size (BY ns):=by
   have e:its.toArray.size=ns.length:=by rw[Sq,hlen]
   rw[e]at hX;exact hX
  have k1:∀ b o,s.heap.get? b=some o->h'.get? b=some o:=λb o e=>hk b o (Sj e) e
  have so:ObjOk X.prog X.w (upd H s.heap.objs.size (.set (λk=>decide (k∈ns)) (BY ns).length)) h' s.heap.objs.size (.set (λk=>decide (k∈ns)) (BY ns).length):=by
   have:=hX.kind;rw[show(λk=>decide (k∈BY ns))=λk=>decide (k∈ns) from funext λk=>by rw[decide_eq_decide];exact An ns k]at this;exact this
  exact⟨.ref s.heap.objs.size,_,I.laid (t':=tk) k1 (Sw _) so,rfl,q _ (I.hok.fresh (Sw _))⟩
 rcases hq with hq | hq
 ·obtain⟨its,r',pl,hz⟩:=I.list hq;have hlen:=r'.length;rw[Se]at hlen;exact Ny (items:=its.toArray) (ns:=ns) (I.ok.hd hc) pl.isList (by simpa using t9 r') (by simp only[Sq];show its.length+1<4096;omega) (fin its r')
 ·obtain⟨its,r',pl,hz⟩:=I.tuple hq;have hlen:=r'.length;rw[Se]at hlen;exact KK (items:=its.toArray) (ns:=ns) (I.ok.hd hc) pl (by simpa using t9 r') (by simp only[Sq];show its.length+1<4096;omega) (fin its r')
theorem KL:OpR X (X0 .In) (λx y H Q=>∃(k:Int) (p:Wm) (S:Int->Bool) (n:Nat),x = .int k/\y = .ref p/\H p=some (.set S n)/\Q (.bl (S k)) H):=by
 intro pins s σ H x y v u Q I rx ry h;obtain⟨k,p,S,n,rfl,rfl,hp,q⟩:=h;obtain⟨t,rfl⟩:=rx;cases ry;have hS:s.heap.SetOf (intKind X.prog X.w) p S n:=I.hok p _ hp;exact wpAny_inSet_of (k:=k) (Z4 _ _ _ _) rfl hS ⟨.bl _,H,I.tok _,rfl,q⟩
end
open PySem PySem.Spec PyProof.Rows PySem.SeqAt
section
variable{X:Cx}
def O0(K:Sd):R2:=λx y H Q=>∃ a t,x = .ref a/\y = .str t/\((∃ xs,SqL K H a xs)\/∃ xs,SqT K H a xs)/\Q (.bl false) H
theorem Mg(hu:X.A.units<cLine):OpR X (X0 .Eq) (O0 X.K):=by
 intro pins s σ H x y v u Q I rx ry h;obtain⟨a,t,rfl,rfl,h1,q⟩:=h;cases rx;obtain⟨tk,rfl⟩:=ry
 have e:Wo (Wp X.prog X.w) X.A (Yv .Eq (.ref a) (.str t tk)) (EP X pins σ Q) X.xe s:=by
  rcases h1 with⟨xs,h1⟩ | ⟨xs,h1⟩
  ·obtain⟨its,r1,p1,_⟩:=I.list h1;exact RcAt.list_str t tk p1.isList hu _ _ _ _ ⟨.bl false,H,I,rfl,q⟩
  ·obtain⟨its,r1,p1,_⟩:=I.tuple h1;exact RcAt.tuple_str (items:=its.toArray) t tk p1 hu _ _ _ _ ⟨.bl false,H,I,rfl,q⟩
 exact e
end
end L2
namespace Rf
open PySem L2
def AC:SV->Bool
 | .non=>true | .bl _=>true | .int _=>true | .str _=>true | _=>false
def toV:SV->V
 | .non => .non | .bl b => .bl b | .int i => .int i | .str x => .str x | _ => .non
def eqF:SV->SV->Bool
 | .non,.non=>true
 | .bl a,.bl b=>a == b
 | .bl a,.int b=>(if a then 1 else 0) == b
 | .int a,.bl b=>a == (if b then 1 else 0)
 | .int a,.int b=>a == b
 | .str a,.str b=>a == b
 | _,_=>false
def DN(xs ys:List SV):Bool:=xs.length == ys.length&&(xs.zip ys).all λp=>eqF p.1 p.2
def inS(x:SV)(xs:List SV):Bool:=xs.any λy=>eqF y x
section
variable{K:Sd}{as:List Wm}{H:Hp}
theorem HV{x:SV}{v:V}(f:AC x=true)(r:Rl K as H v x):v=toV x:=by
 cases x with
 | non=>exact rl_non.mp r
 | bl _=>exact rl_bl.mp r
 | int _=>exact rl_int.mp r
 | str _=>exact rl_str.mp r
 | _=>cases f
theorem Ao:∀{xs:List SV} {vs:List V},xs.all AC=true->RlAll K as H vs xs->vs=xs.map toV
 | [],_,_,r=>rla_nil.mp r
 | x::xs,_,f,r=>by
   rw[U6,Sf]at f;obtain⟨v,vs,rfl,r1,r2⟩:=rla_cons.mp r;rw[HV f.1 r1,Ao f.2 r2];rfl
theorem Em{x:SV}(f:AC x=true):v4 (toV x)=true:=by cases x<;>first | rfl | cases f
theorem C7{xs:List SV}(f:xs.all AC=true):(xs.map toV).all v4=true:=by
 rw[T9]at f ⊢;intro v hv;obtain⟨x,hx,rfl⟩:=TR.mp hv;exact Em (f x hx)
theorem E2{x y:SV}(fx:AC x=true)(fy:AC y=true):eqV (toV x) (toV y)=eqF x y:=by
 cases x<;>first | cases fx;done | (cases y<;>first | rfl | cases fy)
theorem PX{x:SV}{xs:List SV}(fx:AC x=true)(f:xs.all AC=true):inV (toV x) (xs.map toV)=inS x xs:=by
 unfold inV inS;rw[VR];rw[T9]at f;rw[Ta,UH,UH];constructor
 ·rintro⟨y,hy,e⟩;exact⟨y,hy,by rw[<-E2 (f y hy) fx];exact e⟩
 ·rintro⟨y,hy,e⟩;exact⟨y,hy,by show eqV (toV y) (toV x)=true;rw[E2 (f y hy) fx];exact e⟩
theorem Mh:∀{xs ys:List SV},xs.all AC=true->ys.all AC=true->Ad (xs.map toV) (ys.map toV)=DN xs ys:=by
 intro xs ys fx fy;unfold Ad DN;rw[Se,Se,List.zip_map,Vy]
 congr 1
 rw[Ta,T9,T9];rw[T9]at fx fy;constructor
 ·rintro h ⟨a,b⟩ hm;have:=h (a,b) hm;rw[<-E2 (fx a (U8 hm).1) (fy b (U8 hm).2)];exact this
 ·rintro h ⟨a,b⟩ hm;have:=h (a,b) hm;show eqV (toV a) (toV b)=true;rw[E2 (fx a (U8 hm).1) (fy b (U8 hm).2)];exact this
def w9:SV->Sto->Option (List SV)
 | .tup xs,_=>some xs
 | .ro xs,_=>some xs
 | .loc k,S=>match S[k]? with | some (.lst xs)=>some xs | _=>none
 | _,_=>none
theorem C8{x:SV}{v:V}{S:Sto}{xs:List SV}(ok:Ok K as H S)(r:Rl K as H v x)(h:w9 x S=some xs):∃ a vs,v = .ref a/\(SqL K H a vs\/SqT K H a vs)/\RlAll K as H vs xs:=by
 cases x with
 | tup ys=>
   cases h;obtain⟨p,vs,rfl,hp,rr⟩:=rl_tup.mp r;exact⟨p,vs,rfl,.inr (SqT.of hp),rr⟩
 | ro ys=>
   cases h;obtain⟨p,vs,rfl,hp,rr⟩:=rl_ro.mp r;exact⟨p,vs,rfl,.inl hp.sq,rr⟩
 | loc k=>
   obtain⟨a,ea,rfl⟩:=rl_loc.mp r;unfold w9 at h;cases hs:S[k]? with
   | none=>simp only[hs]at h;cases h
   | some o=>
     cases o with
     | lst ys=>
       simp only[hs]at h;cases h;obtain⟨vs,h1,rr⟩:=ok.obj k _ a hs ea;exact⟨a,vs,rfl,.inl (SqL.of h1),rr⟩
     | iset _=>simp only[hs]at h;cases h
     | dtl _=>simp only[hs]at h;cases h
     | dtf _ _ _=>simp only[hs]at h;cases h
     | dtp _=>simp only[hs]at h;cases h
     | dct _=>simp only[hs]at h;cases h
     | dcf _ _ _=>simp only[hs]at h;cases h
     | tbl _ _=>simp only[hs]at h;cases h
 | _=>cases h
theorem n4{k:Nat}{v:V}{S:Sto}{xs:List SV}(ok:Ok K as H S)(r:Rl K as H v (.loc k))(h:S[k]?=some (.lst xs)):∃ a vs,v = .ref a/\as[k]?=some a/\H a=some (.lst vs)/\RlAll K as H vs xs:=by
 obtain⟨a,ea,rfl⟩:=rl_loc.mp r;obtain⟨vs,h1,rr⟩:=ok.obj k _ a h ea;exact⟨a,vs,rfl,ea,h1,rr⟩
end
def KM:S2
 | .int i,.int j,S,Q=>Q (.int (i+j)) S
 | .loc k,.loc l,S,Q=>∃ xs ys,S[k]?=some (.lst xs)/\S[l]?=some (.lst ys)/\xs.length+ys.length<=big/\Q (.loc S.length) (S++[.lst (xs++ys)])
 | _,_,_,_=>False
def GJ(C:Int->Int->Prop)(g:Int->Int->SV):S2
 | .int i,.int j,S,Q=>C i j/\Q (g i j) S
 | _,_,_,_=>False
def Bq(g:Int->Int->SV):S2
 | .int i,.int j,S,Q=>Q (g i j) S
 | _,_,_,_=>False
def KN:S2
 | .int i,.int j,S,Q=>CMul i j/\Q (.int (i * j)) S
 | .loc k,.int j,S,Q=>∃ xs,S[k]?=some (.lst xs)/\(-1000000<j/\j<1000000)/\xs.length * j.toNat<=big/\Q (.loc S.length) (S++[.lst (TM j.toNat xs).flatten])
 | _,_,_,_=>False
theorem Mono2.add:Mono2 KM:=λx y S P P' i h=>by
 unfold KM at h ⊢
 split at h<;>first
  | exact i _ _ h
  | exact⟨h.1,i _ _ h.2⟩
  | (obtain⟨xs,ys,a,b,c,d⟩:=h;exact⟨xs,ys,a,b,c,i _ _ d⟩)
  | exact h.elim
theorem Mono2.int{C:Int->Int->Prop}{g:Int->Int->SV}:Mono2 (GJ C g):=λx y S P P' i h=>by
 unfold GJ at h ⊢;split at h
 ·exact⟨h.1,i _ _ h.2⟩
 ·exact h.elim
theorem Mono2.int0{g:Int->Int->SV}:Mono2 (Bq g):=λx y S P P' i h=>by
 unfold Bq at h ⊢;split at h
 ·exact i _ _ h
 ·exact h.elim
theorem Mono2.mul:Mono2 KN:=λx y S P P' i h=>by
 unfold KN at h ⊢;split at h
 ·exact⟨h.1,i _ _ h.2⟩
 ·obtain⟨xs,a,b,c,d⟩:=h;exact⟨xs,a,b,c,i _ _ d⟩
 ·exact h.elim
section
variable{K:Sd}
theorem Post.here{as:List Wm}{H:Hp}{Q:VK}{x:SV}{S:Sto}{v:V}(h:Post K as H Q x S)(ok:Ok K as H S)(r:Rl K as H v x):Q v H:=h as H v (Go.refl _ _) ok r
theorem E3{C:Int->Int->Prop}{g:Int->Int->SV}{g':Int->Int->V}(hg:∀ as H i j,Rl K as H (g' i j) (g i j)):BV K (GJ C g) (rI C g'):=λas H S x y v u Q ok rx ry h=>by
 unfold GJ at h;split at h
 ·rw[rl_int]at rx ry;exact⟨_,_,rx,ry,h.1,h.2.here ok (hg _ _ _ _)⟩
 ·exact h.elim
theorem B9{g:Int->Int->SV}{g':Int->Int->V}(hg:∀ as H i j,Rl K as H (g' i j) (g i j)):BV K (Bq g) (rI0 g'):=λas H S x y v u Q ok rx ry h=>by
 unfold Bq at h;split at h
 ·rw[rl_int]at rx ry;exact⟨_,_,rx,ry,h.here ok (hg _ _ _ _)⟩
 ·exact h.elim
def RP(K:Sd):R2:=λx y H Q=>(rI0 λi j => .int (i+j)) x y H Q\/R7 x y H Q
theorem Mi{X:Cx}:OpR X (Xb .Add) (RP X.K):=op_add.or PB
theorem Mj:BV K KM (RP K):=λas H S x y v u Q ok rx ry h=>by
 unfold KM at h;split at h
 ·rw[rl_int]at rx ry;exact .inl ⟨_,_,rx,ry,h.here ok (rl_int.mpr rfl)⟩
 ·obtain⟨xs,ys,h1,h2,h3,h4⟩:=h;obtain⟨a,vs,rfl,_,ha,ra⟩:=n4 ok rx h1;obtain⟨b,us,rfl,_,hb,rb⟩:=n4 ok ry h2;exact(.inr (⟨a,b,vs,us,rfl,rfl,ha,hb,by rw[ra.length,rb.length];exact Am h3,AB ok (ra.append rb) h4⟩))
 ·exact h.elim
theorem RlAll.rep{as:List Wm}{H:Hp}{vs:List V}{xs:List SV}(h:RlAll K as H vs xs):∀ n,RlAll K as H (TM n vs).flatten (TM n xs).flatten
 | 0=>by simpa using RlAll.nil
 | n+1=>by
   rw[Tj,Tj,UL,UL];exact h.append (RlAll.rep h n)
theorem Ml:BV K KN (λx y H Q=>(rI CMul λi j => .int (i * j)) x y H Q\/R8 x y H Q):=λas H S x y v u Q ok rx ry h=>by
 unfold KN at h;split at h
 ·rw[rl_int]at rx ry;exact .inl ⟨_,_,rx,ry,h.1,h.2.here ok (rl_int.mpr rfl)⟩
 ·rename_i k j;obtain⟨xs,h1,h2,h3,h4⟩:=h;obtain⟨a,vs,rfl,_,ha,ra⟩:=n4 ok rx h1;rw[rl_int]at ry;subst ry;exact .inr (⟨a,j,vs,rfl,rfl,ha,by omega,by omega,by rw[ra.length];exact Am h3,AB ok (ra.rep _) h4⟩)
 ·exact h.elim
end
def scS:SV->SV->Option Bool
 | .int i,.int j=>some (decide (i=j))
 | .bl i,.bl j=>some (decide (i=j))
 | .str i,.str j=>some (decide (i=j))
 | .non,.non=>some true
 | .non,.int _=>some false | .int _,.non=>some false | .non,.bl _=>some false | .bl _,.non=>some false | .non,.str _=>some false | .str _,.non=>some false
 | .int _,.str _=>some false | .str _,.int _=>some false | .bl _,.str _=>some false | .str _,.bl _=>some false
 | _,_=>none
def GK:SV->SV->Sto->(Bool->Prop)->Prop
 | .loc k,.loc l,S,Q=>∃ xs ys,S[k]?=some (.lst xs)/\S[l]?=some (.lst ys)/\((xs.all AC=true/\ys.all AC=true)\/xs=[]\/ys=[])/\Q (DN xs ys)
 | _,_,_,_=>False
def Im:SV->SV->Sto->(Bool->Prop)->Prop
 | .loc k,.loc l,S,Q=>∃ xs ys,S[k]?=some (.lst xs)/\S[l]?=some (.lst ys)/\((xs.all AC=true/\ys.all AC=true)\/xs=[]\/ys=[])/\Q (DN xs ys)
 | .loc k,.str _,S,Q=>(∃ xs,S[k]?=some (.lst xs))/\Q false
 | .tup _,.str _,_,Q=>Q false
 | _,_,_,_=>False
theorem PY{x y:SV}{S:Sto}{Q:Bool->Prop}(h:Im x y S Q):GK x y S Q\/(∃ t,y = .str t/\((∃ k xs,x = .loc k/\S[k]?=some (.lst xs))\/∃ xs,x = .tup xs)/\Q false):=by
 unfold Im at h;split at h
 ·exact .inl h
 ·obtain⟨⟨xs,e⟩,q⟩:=h;exact .inr ⟨_,rfl,.inl ⟨_,xs,rfl,e⟩,q⟩
 ·exact .inr ⟨_,rfl,.inr ⟨_,rfl⟩,h⟩
 ·exact h.elim
theorem Io{x y:SV}{S:Sto}{P P':Bool->Prop}(i:∀ b,P b->P' b)(h:Im x y S P):Im x y S P':=by
 unfold Im at h ⊢;split at h
 ·obtain⟨xs,ys,a,b,c,d⟩:=h;exact⟨xs,ys,a,b,c,i _ d⟩
 ·exact⟨h.1,i _ h.2⟩
 ·exact i _ h
 ·exact h.elim
def sEq:S2:=λx y S Q=>match scS x y with | some b=>Q (.bl b) S | none=>Im x y S λb=>Q (.bl b) S
def sNe:S2:=λx y S Q=>match scS x y with | some b=>Q (.bl (!b)) S | none=>GK x y S λb=>Q (.bl (!b)) S
def BZ:SV->Sto->Option (List Int)
 | .loc k,S=>match S[k]? with | some (.iset ms)=>some ms | _=>none
 | _,_=>none
def sIn(neg:Bool):S2:=λx y S Q=>match BZ y S with
 | some ms=>∃ i,x = .int i/\neg=false/\Q (.bl (decide (i∈ms))) S
 | none=>AC x=true/\∃ ys,w9 y S=some ys/\ys.all AC=true/\Q (.bl (if neg then !inS x ys else inS x ys)) S
def En:SV->Bool
 | .non=>true
 | _=>false
def KO(neg:Bool):S2:=λx y S Q=>(y = .non/\Q (.bl (if neg then !En x else En x)) S)\/∃ c d,neg=true/\x = .bl c/\y = .bl d/\Q (.bl (c != d)) S
theorem Ip{x y:SV}{S:Sto}{P P':Bool->Prop}(i:∀ b,P b->P' b)(h:GK x y S P):GK x y S P':=by
 unfold GK at h ⊢;split at h
 ·obtain⟨xs,ys,a,b,c,d⟩:=h;exact⟨xs,ys,a,b,c,i _ d⟩
 ·exact h.elim
theorem Mono2.eq:Mono2 sEq:=λx y S P P' i h=>by
 unfold sEq at h ⊢;split at h
 ·exact i _ _ h
 ·exact Io (λ_=>i _ _) h
theorem Mono2.ne:Mono2 sNe:=λx y S P P' i h=>by
 unfold sNe at h ⊢;split at h
 ·exact i _ _ h
 ·exact Ip (λ_=>i _ _) h
theorem Mono2.in'{n:Bool}:Mono2 (sIn n):=λx y S P P' i h=>by
 unfold sIn at h ⊢;split at h
 ·obtain⟨j,e,z,h⟩:=h;exact⟨j,e,z,i _ _ h⟩
 ·obtain⟨f,ys,a,b,h⟩:=h;exact⟨f,ys,a,b,i _ _ h⟩
theorem Mono2.isN{n:Bool}:Mono2 (KO n):=λx y S P P' i h=>h.imp (λh=>⟨h.1,i _ _ h.2⟩) λ⟨c,d,z,a,b,h⟩=>⟨c,d,z,a,b,i _ _ h⟩
section
variable{K:Sd}
theorem KP{as:List Wm}{H:Hp}{x y:SV}{v u:V}{b:Bool}(e:scS x y=some b)(rx:Rl K as H v x)(ry:Rl K as H u y):Oy v u=true/\decide (v=u)=b:=by
 cases x<;>first | (unfold scS at e;cases e;done) | (cases y<;>first | (unfold scS at e;cases e;done) | (simp only[rl_non,rl_bl,rl_int,rl_str]at rx ry;subst rx ry;unfold scS at e;injection e with e;subst e;exact⟨rfl,by simp⟩))
theorem HW{as:List Wm}{H:Hp}{S:Sto}{x y:SV}{v u:V}{Q:Bool->Prop}(ok:Ok K as H S)(rx:Rl K as H v x)(ry:Rl K as H u y)(h:GK x y S Q):∃ a b xs ys,v = .ref a/\u = .ref b/\SqL K H a xs/\SqL K H b ys/\((xs.all v4=true/\ys.all v4=true)\/xs=[]\/ys=[])/\Q (Ad xs ys):=by
 unfold GK at h;split at h
 ·obtain⟨xs,ys,h1,h2,h3,h4⟩:=h;obtain⟨a,vs,rfl,_,ha,ra⟩:=n4 ok rx h1;obtain⟨b,us,rfl,_,hb,rb⟩:=n4 ok ry h2;refine⟨a,b,vs,us,rfl,rfl,SqL.of ha,SqL.of hb,?_,?_⟩
  ·rcases h3 with⟨f1,f2⟩ | h3 | h3
   ·rw[Ao f1 ra,Ao f2 rb];exact .inl ⟨C7 f1,C7 f2⟩
   ·subst h3;exact .inr (.inl (rla_nil.mp ra))
   ·subst h3;exact .inr (.inr (rla_nil.mp rb))
  ·have e:Ad vs us=DN xs ys:=by
    rcases h3 with⟨f1,f2⟩ | h3 | h3
    ·rw[Ao f1 ra,Ao f2 rb,Mh f1 f2]
    ·subst h3;have:=rla_nil.mp ra;subst this;have l:=rb.length;unfold Ad DN;simp[l]
    ·subst h3;have:=rla_nil.mp rb;subst this;have l:=ra.length;unfold Ad DN;simp[l]
   rw[e];exact h4
 ·exact h.elim
theorem PZ:BV K sEq (λx y H Q=>rEq x y H Q\/(MR K false x y H Q\/O0 K x y H Q)):=λas H S x y v u Q ok rx ry h=>by
 unfold sEq at h;split at h
 ·rename_i b e;obtain⟨h1,h2⟩:=KP e rx ry;exact .inl ⟨h1,by rw[h2];exact h.here ok (rl_bl.mpr rfl)⟩
 ·rcases PY h with h | ⟨t,rfl,h,q⟩
  ·obtain⟨a,b,xs,ys,e1,e2,h1,h2,h3,h4⟩:=HW ok rx ry h;exact .inr (.inl ⟨a,b,xs,ys,e1,e2,h1,h2,h3,h4.here ok (rl_bl.mpr rfl)⟩)
  ·rw[rl_str]at ry;subst ry;rcases h with⟨k,xs,rfl,hk⟩ | ⟨xs,rfl⟩
   ·obtain⟨a,vs,rfl,_,ha,_⟩:=n4 ok rx hk;exact .inr (.inr ⟨a,t,rfl,rfl,.inl ⟨vs,SqL.of ha⟩,Post.here q ok (rl_bl.mpr rfl)⟩)
   ·obtain⟨p,vs,rfl,hp,_⟩:=rl_tup.mp rx;exact .inr (.inr ⟨p,t,rfl,rfl,.inr ⟨vs,SqT.of hp⟩,Post.here q ok (rl_bl.mpr rfl)⟩)
theorem Pa:BV K sNe (λx y H Q=>rNe x y H Q\/MR K true x y H Q):=λas H S x y v u Q ok rx ry h=>by
 unfold sNe at h;split at h
 ·rename_i b e;obtain⟨h1,h2⟩:=KP e rx ry;exact .inl ⟨h1,by rw[h2];exact h.here ok (rl_bl.mpr rfl)⟩
 ·obtain⟨a,b,xs,ys,e1,e2,h1,h2,h3,h4⟩:=HW ok rx ry h;exact .inr ⟨a,b,xs,ys,e1,e2,h1,h2,h3,h4.here ok (rl_bl.mpr rfl)⟩
theorem Mm{as:List Wm}{H:Hp}{S:Sto}{y:SV}{u:V}{ms:List Int}(ok:Ok K as H S)(r:Rl K as H u y)(h:BZ y S=some ms):∃ a k F,y = .loc k/\u = .ref a/\as[k]?=some a/\S[k]?=some (.iset ms)/\H a=some (.set F ms.length)/\∀ k,F k=decide (k∈ms):=by
 cases y with
 | loc k=>
   obtain⟨a,ea,rfl⟩:=rl_loc.mp r;unfold BZ at h;cases hs:S[k]? with
   | none=>simp only[hs]at h;cases h
   | some o=>
     cases o with
     | lst ys=>simp only[hs]at h;cases h
     | iset ns=>
       simp only[hs]at h;cases h;obtain⟨F,h1,h2⟩:=ok.obj k _ a hs ea;exact⟨a,k,F,rfl,rfl,ea,hs,h1,h2⟩
     | dtl _=>simp only[hs]at h;cases h
     | dtf _ _ _=>simp only[hs]at h;cases h
     | dtp _=>simp only[hs]at h;cases h
     | dct _=>simp only[hs]at h;cases h
     | dcf _ _ _=>simp only[hs]at h;cases h
     | tbl _ _=>simp only[hs]at h;cases h
 | _=>cases h
def Pb(K:Sd)(neg:Bool):R2:=λx y H Q=>rIn K neg x y H Q\/(neg=false/\∃(k:Int) (p:Wm) (S:Int->Bool) (n:Nat),x = .int k/\y = .ref p/\H p=some (.set S n)/\Q (.bl (S k)) H)
theorem Pc{X:Cx}:OpR X (X0 .In) (Pb X.K false):=λpins s σ H x y v u Q I rx ry h=>h.elim (IS pins s σ H x y v u Q I rx ry) λh=>KL pins s σ H x y v u Q I rx ry h.2
theorem Iq{X:Cx}:OpR X (X0 .NotIn) (Pb X.K true):=λpins s σ H x y v u Q I rx ry h=>h.elim (Dx pins s σ H x y v u Q I rx ry) λh=>by cases h.1
theorem KQ{n:Bool}:BV K (sIn n) (Pb K n):=λas H S x y v u Q ok rx ry h=>by
 unfold sIn at h;split at h
 ·rename_i ms hi;obtain⟨i,rfl,rfl,h⟩:=h;obtain⟨a,k,F,rfl,rfl,ea,es,hF,hk⟩:=Mm ok ry hi;rw[rl_int]at rx;exact .inr ⟨rfl,i,a,F,_,rx,rfl,hF,by rw[hk];exact h.here ok (rl_bl.mpr rfl)⟩
 ·obtain⟨f,ys,hs,fs,h⟩:=h;obtain⟨a,vs,rfl,hq,rr⟩:=C8 ok ry hs;have ev:=HV f rx;have es:=Ao fs rr;subst ev es;exact .inl ⟨a,_,rfl,hq,Em f,C7 fs,by rw[PX f fs];exact h.here ok (rl_bl.mpr rfl)⟩
theorem Ep{as:List Wm}{H:Hp}{x:SV}{v:V}(r:Rl K as H v x):decide (v=V.non)=En x:=by
 cases x with
 | non=>rw[rl_non.mp r];rfl
 | bl _=>rw[rl_bl.mp r];rfl
 | int _=>rw[rl_int.mp r];rfl
 | str _=>rw[rl_str.mp r];rfl
 | tup _=>obtain⟨p,vs,rfl,_⟩:=rl_tup.mp r;rfl
 | loc _=>obtain⟨p,_,rfl⟩:=rl_loc.mp r;rfl
 | ro _=>obtain⟨p,vs,rfl,_⟩:=rl_ro.mp r;rfl
 | ty _=>rw[rl_ty.mp r];rfl
theorem Mn:BV K (KO false) (λx y H Q=>y = .non/\Q (.bl (decide (x = .non))) H):=λas H S x y v u Q ok rx ry h=>by
 rcases h with⟨e,h⟩ | ⟨c,d,z,_⟩
 ·subst e;exact⟨rl_non.mp ry,by rw[Ep rx];exact h.here ok (rl_bl.mpr rfl)⟩
 ·cases z
theorem KR:BV K (KO true) (λx y H Q=>(y = .non/\Q (.bl (!decide (x = .non))) H)\/∃ c d,x = .bl c/\y = .bl d/\Q (.bl (c != d)) H):=λas H S x y v u Q ok rx ry h=>by
 rcases h with⟨e,h⟩ | ⟨c,d,_,rfl,rfl,h⟩
 ·subst e;exact .inl ⟨rl_non.mp ry,by rw[Ep rx];exact h.here ok (rl_bl.mpr rfl)⟩
 ·exact .inr ⟨c,d,rl_bl.mp rx,rl_bl.mp ry,h.here ok (rl_bl.mpr rfl)⟩
end
def sIx:S2
 | x,.int i,S,Q=>∃ xs y,w9 x S=some xs/\atI xs i=some y/\Q y S
 | _,_,_,_=>False
theorem Mono2.ix:Mono2 sIx:=λx y S P P' i h=>by
 unfold sIx at h ⊢;split at h
 ·obtain⟨xs,z,a,b,c⟩:=h;exact⟨xs,z,a,b,i _ _ c⟩
 ·exact h.elim
section
variable{K:Sd}
theorem RlAll.atI{as:List Wm}{H:Hp}{xs:List SV}{vs:List V}{i:Int}{y:SV}(h:RlAll K as H vs xs)(e:L2.atI xs i=some y):∃ v,L2.atI vs i=some v/\Rl K as H v y:=by
 unfold L2.atI at e ⊢;rw[h.length];cases hj:ixN xs.length i with
 | none=>rw[hj]at e;cases e
 | some j=>
   rw[hj]at e;exact h.get e
theorem Pd:BV K sIx (λx y H Q=>R5 K x y H Q\/R6 K x y H Q):=λas H S x y v u Q ok rx ry h=>by
 unfold sIx at h;split at h
 ·obtain⟨xs,z,h1,h2,h3⟩:=h;obtain⟨a,vs,rfl,hq,rr⟩:=C8 ok rx h1;obtain⟨w,hw,rw'⟩:=rr.atI h2;rw[rl_int]at ry;rcases hq with hq | hq
  ·exact .inl ⟨a,vs,_,w,rfl,ry,hq,hw,h3.here ok rw'⟩
  ·exact .inr ⟨a,vs,_,w,rfl,ry,hq,hw,h3.here ok rw'⟩
 ·exact h.elim
end
end Rf
namespace PySem
namespace AutoSeq1
set_option maxRecDepth 8000 in
theorem extT(l:Wm)(items:Array Wk)(n:Nat)(b:Wm)(items2:Array Wk)(n2:Nat)(dd:Option Wm)(sl:Array (Option Wk))(hs0:¬(!items.isEmpty&&Builtin.List.listTooLong (items.size+items2.size))=true)(hs1:items.size<=Ws)(hs2:items.size+items2.size<=Ws+1:=by seq_fits):
 Meets (Builtin.«list.extend» ⟨[.ref l,.ref b],[]⟩) (λ_ R s=>s.heap.get? l=some {cls := .type "list",dict:=none,data := .seq items n,slots:=#[]}/\s.heap.get? b=some {cls := .type "tuple",dict:=dd,data := .seq items2 n2,slots:=sl}/\R (.ok (.ret Value.none)) {s with heap:=s.heap.update l (Obj.mapSeq λx=>x++items2),toks:=s.toks}):=
 .of_wp λprog w A R s h=>by
  obtain⟨hp,g,d,tk,os⟩:=s;obtain⟨hl,hb,h⟩:=h;have f1:=idx_int;have f2:=sub_tuple_tuple;have f3:=sub_list_list;have f4:=sub_tuple_list;have f5:=sub_list_tuple;have hz':(items++items2).size<=Ws+1:=by rw[Array.size_append];exact hs2
  wp_walk using (YK hl rfl (hz:=hs1) (_hz':=hz')),wpAny_loadPart' hl,wpAny_loadPart' hb;exact⟨_,rfl,h⟩
end AutoSeq1
end PySem
namespace L2
open PySem PySem.Spec PyProof.Rows
section
variable{X:Cx}
def O7:V->List V->Hp->VK->Prop:=λx vs H Q=>∃ l b xs zs,x = .ref l/\vs=[.ref b]/\H l=some (.lst xs)/\H b=some (.tup zs)/\xs.length+zs.length<=Ws/\Q .non (upd H l (.lst (xs++zs)))
theorem HX:MtM X "list.extend" O7:=by
 intro pins s σ H x vs v us Q I rx rv h;obtain⟨l,b,xs,zs,rfl,rfl,hH,hB,hz,q⟩:=h;cases rx;obtain⟨u,rfl,ru⟩:=rv.one;cases ru;obtain⟨z,its,n,r,hl,e⟩:=I.lstM hH;obtain⟨its2,r2,⟨⟨cls,dd,dat,sl⟩,e2,c2,n2,d2⟩,z2⟩:=I.tuple (SqT.of hB);simp only at c2 d2;subst c2 d2;have hl2:=r2.length;have hsz:its.toArray.size+its2.toArray.size<=Ws:=by rw[Sq,Sq];omega
 have hlong:¬ (!its.toArray.isEmpty&&Builtin.List.listTooLong (its.toArray.size+its2.toArray.size))=true:=by
  rw[Cd hsz,VY];exact Su
 refine Xh F.slot_list_extend ⟨_,e,rfl⟩ F.entry_list_extend (F.args_list_extend_2 _ _)
  (AutoSeq1.extT l its.toArray n b its2.toArray n2 dd sl hlong (by rw[Sq];omega) (by omega)) ⟨e,e2,?_⟩
 refine⟨.non,_,I.lset (its':=its++its2) hH e (by simp) (r.append r2) ?_,rfl,q⟩;rw[Sl];omega
theorem CI(n:Int):∀{ns:List Int} {its:List Wk},Vals (ns.map V.int) its->its.countP (eqU (.int n))=ns.count n
 | [],_,r=>by cases r;rfl
 | m::ns,_,r=>by
   cases r with
   | cons r1 r2=>
     rw[List.countP_cons,VW,CI n r2,G0 r1 rfl];rfl
def HY:V->List V->Hp->VK->Prop:=λx vs H Q=>∃(l:Wm) (ns:List Int) (n:Int),x = .ref l/\vs=[.int n]/\H l=some (.lst (ns.map V.int))/\Q (.int (ns.count n:Nat)) H
theorem Dd:MtM X "list.count" HY:=by
 intro pins s σ H x vs v us Q I rx rv h;obtain⟨l,ns,n,rfl,rfl,hH,q⟩:=h;cases rx;obtain⟨u,rfl,ru⟩:=rv.one;obtain⟨z,its,k,r,hl,e⟩:=I.lstM hH
 have fl:(ns.map V.int).all v4=true:=T9.mpr λv hv=>by
  obtain⟨n,_,rfl⟩:=TR.mp hv;rfl
 refine Xh F.slot_list_count ⟨_,e,rfl⟩ F.entry_list_count (F.args_list_count_2 _ _) (SeqAt.list_countAt l its.toArray k none #[] u (eqU (.int n))) ⟨e,λy hy=>Af ru rfl r fl y (by simpa using hy),?_⟩;show EP X pins σ Q (.int ((its.toArray.toList.countP (eqU (.int n)):Nat):Int) s.toks) _;rw[show its.toArray.toList=its from rfl,CI n r];exact⟨.int (ns.count n:Nat),H,I.tok _,⟨_,rfl⟩,q⟩
end
end L2
namespace Rf
open PySem L2
inductive BI where
 | len | abs | min | max | int | list | tuple | all | any | sorted | isi | str | repr
 deriving DecidableEq
def BI.name:BI->Str
 | .len=>"len" | .abs=>"abs" | .min=>"min" | .max=>"max" | .int=>"int" | .list=>"list" | .tuple=>"tuple" | .all=>"all" | .any=>"any" | .sorted=>"sorted" | .isi=>"isinstance" | .str=>"str" | .repr=>"repr"
def blS:List SV->Option (List Bool)
 | []=>some []
 | .bl b::xs=>(blS xs).map (b::·)
 | _::_=>none
def Cq:List SV->Option (List Int)
 | []=>some []
 | .int i::xs=>(Cq xs).map (i::·)
 | _::_=>none
def tyS:SV->Sto->Option TyN
 | .non,_=>some .none
 | .bl _,_=>some .bool
 | .int _,_=>some .int
 | .str _,_=>some .str
 | .tup _,_=>some .tuple
 | .loc k,S=>match S[k]? with | some (.lst _)=>some .list | _=>none
 | _,_=>none
def GL:TyN->TyN->Bool
 | .bool,.int=>true
 | a,b=>decide (a=b)
def Ir:List SV->Option (List TyN)
 | []=>some []
 | .ty t::xs=>(Ir xs).map (t::·)
 | _::_=>none
def a0(f:Sto->QE->Prop):Sn:=λxs S Q=>match xs with | []=>f S Q | _=>False
def a1(f:S1):Sn:=λxs S Q=>match xs with | [x]=>f x S Q | _=>False
def a2(f:S2):Sn:=λxs S Q=>match xs with | [x,y]=>f x y S Q | _=>False
def oI(f:Int->Sto->QE->Prop):S1:=λx S Q=>match x with | .int i=>f i S Q | _=>False
theorem C9{f:S1}{xs:List SV}{S:Sto}{Q:QE}(h:a1 f xs S Q):∃ x,xs=[x]/\f x S Q:=match xs,h with | [x],h=>⟨x,rfl,h⟩
theorem KS{f:S2}{xs:List SV}{S:Sto}{Q:QE}(h:a2 f xs S Q):∃ x y,xs=[x,y]/\f x y S Q:=match xs,h with | [x,y],h=>⟨x,y,rfl,h⟩
theorem Br{f:Int->Sto->QE->Prop}{x:SV}{S:Sto}{Q:QE}(h:oI f x S Q):∃ i,x = .int i/\f i S Q:=match x,h with | .int i,h=>⟨i,rfl,h⟩
theorem v7{f:S1}(m:Ek f):MonoN (a1 f):=λxs S P P' i h=>by
 replace h:=C9 h;obtain⟨x,rfl,h⟩:=h;exact m x S P P' i h
theorem CS{f:S2}(m:Mono2 f):MonoN (a2 f):=λxs S P P' i h=>by
 replace h:=KS h;obtain⟨x,y,rfl,h⟩:=h;exact m x y S P P' i h
theorem Mo{f:Int->Sto->QE->Prop}(m:∀ k S P P',(∀ x S',P x S'->P' x S')->f k S P->f k S P'):Ek (oI f):=λx S P P' i h=>by
 replace h:=Br h;obtain⟨k,rfl,h⟩:=h;exact m k S P P' i h
def RQ:S1
 | .int i,S,Q=>Q (.int i) S
 | .bl b,S,Q=>Q (.int (if b then 1 else 0)) S
 | _,_,_=>False
theorem O8{x:SV}{S:Sto}{Q:QE}(h:RQ x S Q):(∃ i,x = .int i/\Q (.int i) S)\/∃ b,x = .bl b/\Q (.int (if b then 1 else 0)) S:=match x,h with
 | .int i,h => .inl ⟨i,rfl,h⟩
 | .bl b,h => .inr ⟨b,rfl,h⟩
def RS:S2:=λx y S Q=>match y with
 | .ty t=>∃ a,t ≠ .none/\tyS x S=some a/\Q (.bl (GL a t)) S
 | .tup ts=>∃ a bs,TyN.none∉bs/\tyS x S=some a/\Ir ts=some bs/\Q (.bl (bs.any (GL a))) S
 | _=>False
theorem O9{x y:SV}{S:Sto}{Q:QE}(h:RS x y S Q):(∃ t a,y = .ty t/\t ≠ .none/\tyS x S=some a/\Q (.bl (GL a t)) S)\/∃ ts a bs,y = .tup ts/\TyN.none∉bs/\tyS x S=some a/\Ir ts=some bs/\Q (.bl (bs.any (GL a))) S:=match y,h with
 | .ty t,⟨a,h⟩ => .inl ⟨t,a,rfl,h⟩
 | .tup ts,⟨a,bs,h⟩ => .inr ⟨ts,a,bs,rfl,h⟩
def SK:S1:=λx S Q=>∃ xs,w9 x S=some xs/\Q (.int xs.length) S
def SL:S1:=oI λi S Q=>Q (.int (if i<0 then -i else i)) S
def SM:S2:=λx y S Q=>oI (λi S Q=>oI (λj S Q=>Q (.int (if j<i then j else i)) S) y S Q) x S Q
def SN:S2:=λx y S Q=>oI (λi S Q=>oI (λj S Q=>Q (.int (if j>i then j else i)) S) y S Q) x S Q
def RT:S1:=λx S Q=>∃ xs,w9 x S=some xs/\Q (.loc S.length) (S++[.lst xs])
def Pe:S1:=λx S Q=>∃ xs,w9 x S=some xs/\Q (.tup xs) S
def SQ:S1:=λx S Q=>∃ xs bs,x ≠ .tup xs/\w9 x S=some xs/\blS xs=some bs/\Q (.bl (bs.all id)) S
def SR:S1:=λx S Q=>∃ xs bs,x ≠ .tup xs/\w9 x S=some xs/\blS xs=some bs/\Q (.bl (bs.any id)) S
def Mp:S1:=λx S Q=>∃ xs ns,x ≠ .tup xs/\w9 x S=some xs/\Cq xs=some ns/\ns.length<64/\Q (.loc S.length) (S++[.lst ((srt ns).map SV.int)])
def sBi:BI->Sn
 | .len=>a1 SK
 | .abs=>a1 SL
 | .min=>a2 SM
 | .max=>a2 SN
 | .int=>a1 RQ
 | .list=>a1 RT
 | .tuple=>a1 Pe
 | .all=>a1 SQ
 | .any=>a1 SR
 | .sorted=>a1 Mp
 | .isi=>a2 RS
 | .str=>λ_ _ _=>False
 | .repr=>λ_ _ _=>False
theorem MonoN.bi:∀{b:BI},MonoN (sBi b)
 | .len=>v7 λ_ _ _ _ i ⟨a,c,d⟩=>⟨a,c,i _ _ d⟩
 | .abs=>v7 (Mo λ_ _ _ _ i h=>i _ _ h)
 | .min=>CS λx y S P P' i h=>by
   replace h:=Br h;obtain⟨k,rfl,h1⟩:=h;obtain⟨l,rfl,h2⟩:=Br h1;exact i _ _ h2
 | .max=>CS λx y S P P' i h=>by
   replace h:=Br h;obtain⟨k,rfl,h1⟩:=h;obtain⟨l,rfl,h2⟩:=Br h1;exact i _ _ h2
 | .int=>v7 λx S P P' i h=>by
   replace h:=O8 h;rcases h with⟨k,rfl,h⟩ | ⟨b,rfl,h⟩
   ·exact i _ _ h
   ·exact i _ _ h
 | .list=>v7 λ_ _ _ _ i ⟨a,c,d⟩=>⟨a,c,i _ _ d⟩
 | .tuple=>v7 λ_ _ _ _ i ⟨a,c,d⟩=>⟨a,c,i _ _ d⟩
 | .all=>v7 λ_ _ _ _ i ⟨a,b,c,d,e,f⟩=>⟨a,b,c,d,e,i _ _ f⟩
 | .any=>v7 λ_ _ _ _ i ⟨a,b,c,d,e,f⟩=>⟨a,b,c,d,e,i _ _ f⟩
 | .sorted=>v7 λ_ _ _ _ i ⟨a,b,c,d,e,f,g⟩=>⟨a,b,c,d,e,f,i _ _ g⟩
 | .isi=>CS λx y S P P' i h=>by
   replace h:=O9 h;rcases h with⟨t,a,rfl,h1,h2,h⟩ | ⟨ts,a,bs,rfl,h1,h2,h3,h⟩
   ·exact⟨a,h1,h2,i _ _ h⟩
   ·exact⟨a,bs,h1,h2,h3,i _ _ h⟩
 | .str=>λ_ _ _ _ _ h=>h
 | .repr=>λ_ _ _ _ _ h=>h
section
variable{K:Sd}{as:List Wm}{H:Hp}{S:Sto}
theorem GM:∀{xs:List SV} {bs:List Bool} {vs:List V},blS xs=some bs->RlAll K as H vs xs->vs=bs.map V.bl
 | [],_,_,e,r=>by cases e;exact rla_nil.mp r
 | .bl b::xs,_,_,e,r=>by
   obtain⟨v,vs,rfl,r1,r2⟩:=rla_cons.mp r;unfold blS at e;cases h:blS xs with
   | none=>rw[h]at e;cases e
   | some cs=>
     rw[h]at e;cases e;rw[rl_bl.mp r1,GM h r2];rfl
 | .non::_,_,_,e,_=>by cases e
 | .int _::_,_,_,e,_=>by cases e
 | .str _::_,_,_,e,_=>by cases e
 | .tup _::_,_,_,e,_=>by cases e
 | .loc _::_,_,_,e,_=>by cases e
 | .ro _::_,_,_,e,_=>by cases e
 | .ty _::_,_,_,e,_=>by cases e
theorem CT:∀{xs:List SV} {bs:List Int} {vs:List V},Cq xs=some bs->RlAll K as H vs xs->vs=bs.map V.int
 | [],_,_,e,r=>by cases e;exact rla_nil.mp r
 | .int b::xs,_,_,e,r=>by
   obtain⟨v,vs,rfl,r1,r2⟩:=rla_cons.mp r;unfold Cq at e;cases h:Cq xs with
   | none=>rw[h]at e;cases e
   | some cs=>
     rw[h]at e;cases e;rw[rl_int.mp r1,CT h r2];rfl
 | .non::_,_,_,e,_=>by cases e
 | .bl _::_,_,_,e,_=>by cases e
 | .str _::_,_,_,e,_=>by cases e
 | .tup _::_,_,_,e,_=>by cases e
 | .loc _::_,_,_,e,_=>by cases e
 | .ro _::_,_,_,e,_=>by cases e
 | .ty _::_,_,_,e,_=>by cases e
theorem u8{x:SV}{v:V}{xs:List SV}(ok:Ok K as H S)(r:Rl K as H v x)(n:x ≠ .tup xs)(h:w9 x S=some xs):∃ a vs,v = .ref a/\SqL K H a vs/\RlAll K as H vs xs:=by
 cases x with
 | tup ys=>cases h;exact absurd rfl n
 | ro ys=>
   cases h;obtain⟨p,vs,rfl,hp,rr⟩:=rl_ro.mp r;exact⟨p,vs,rfl,hp.sq,rr⟩
 | loc k=>
   obtain⟨a,ea,rfl⟩:=rl_loc.mp r;unfold w9 at h;cases hs:S[k]? with
   | none=>simp only[hs]at h;cases h
   | some o=>
     cases o with
     | lst ys=>
       simp only[hs]at h;cases h;obtain⟨vs,h1,rr⟩:=ok.obj k _ a hs ea;exact⟨a,vs,rfl,SqL.of h1,rr⟩
     | iset _=>simp only[hs]at h;cases h
     | dtl _=>simp only[hs]at h;cases h
     | dtf _ _ _=>simp only[hs]at h;cases h
     | dtp _=>simp only[hs]at h;cases h
     | dct _=>simp only[hs]at h;cases h
     | dcf _ _ _=>simp only[hs]at h;cases h
     | tbl _ _=>simp only[hs]at h;cases h
 | _=>cases h
theorem CA{vs:List V}{x:SV}(r:RlAll K as H vs [x]):∃ v,vs=[v]/\Rl K as H v x:=by
 obtain⟨v,t,rfl,r1,r2⟩:=rla_cons.mp r;rw[rla_nil.mp r2];exact⟨v,rfl,r1⟩
theorem Mq{vs:List V}{x y:SV}(r:RlAll K as H vs [x,y]):∃ v u,vs=[v,u]/\Rl K as H v x/\Rl K as H u y:=by
 obtain⟨v,t,rfl,r1,r2⟩:=rla_cons.mp r;obtain⟨u,rfl,r3⟩:=CA r2;exact⟨v,u,rfl,r1,r3⟩
end
theorem KU{K:Sd}{as:List Wm}{H:Hp}{S:Sto}{Q:VK}{x:SV}{v:V}{ys:List SV}(ok:Ok K as H S)(r1:Rl K as H v x)(h1:w9 x S=some ys)(h2:Post K as H Q (.tup ys) S):∃ p us,v = .ref p/\((SqL K H p us/\∀ l,H l=none->Q (.ref l) (upd H l (.tup us)))\/(SqT K H p us/\Q (.ref p) H)):=by
 cases x with
 | tup zs=>
   cases h1;obtain⟨p,us,rfl,hp,rr⟩:=rl_tup.mp r1;exact⟨p,us,rfl,.inr ⟨SqT.of hp,h2.here ok r1⟩⟩
 | loc k=>
   obtain⟨a,us,rfl,hq,rr⟩:=u8 ok r1 (by intro z;cases z) h1;exact⟨a,us,rfl,.inl ⟨hq,Cp ok rr h2⟩⟩
 | ro k=>
   obtain⟨a,us,rfl,hq,rr⟩:=u8 ok r1 (by intro z;cases z) h1;exact⟨a,us,rfl,.inl ⟨hq,Cp ok rr h2⟩⟩
 | _=>cases h1
section
variable{K:Sd}{as:List Wm}{H:Hp}{S:Sto}
theorem OA{x:SV}{v:V}{a:TyN}(ok:Ok K as H S)(r:Rl K as H v x)(h:tyS x S=some a):TyOf K H v (.type a.nm):=by
 cases x with
 | non=>cases h;rw[rl_non.mp r];exact .non
 | bl b=>cases h;rw[rl_bl.mp r];exact .bl b
 | int b=>cases h;rw[rl_int.mp r];exact .int b
 | str b=>cases h;rw[rl_str.mp r];exact .str b
 | tup xs=>cases h;obtain⟨p,vs,rfl,hp,_⟩:=rl_tup.mp r;exact .tup hp
 | loc k=>
   obtain⟨b,eb,rfl⟩:=rl_loc.mp r;unfold tyS at h;cases hs:S[k]? with
   | none=>simp only[hs]at h;cases h
   | some o=>
     cases o with
     | lst ys=>
       simp only[hs]at h;cases h;obtain⟨vs,h1,_⟩:=ok.obj k _ b hs eb;exact .lst h1
     | iset _=>simp only[hs]at h;cases h
     | dtl _=>simp only[hs]at h;cases h
     | dtf _ _ _=>simp only[hs]at h;cases h
     | dtp _=>simp only[hs]at h;cases h
     | dct _=>simp only[hs]at h;cases h
     | dcf _ _ _=>simp only[hs]at h;cases h
     | tbl _ _=>simp only[hs]at h;cases h
 | _=>cases h
noncomputable def ktn(t c:String):Option Bool:=if (Value.type t == Value.type c)=true then some true else if PySem.W.kitMeta c=true then (fastBuiltinMro t).map (·.contains (.type c)) else none
theorem HZ{K:Sd}(a:TyN)(t:TyN)(ht:t ≠ .none):PySem.W.kitOne K (.type a.nm) (.type t.nm)=some (GL a t):=by
 have e:PySem.W.kitOne K (.type a.nm) (.type t.nm)=ktn a.nm t.nm:=rfl;rw[e];cases a<;>cases t<;>first | exact absurd rfl ht | decide +kernel
theorem Ha{K:Sd}(a:TyN):∀(bs:List TyN),TyN.none∉bs->PySem.W.kitAny K (.type a.nm) ((bs.map TyN.nm).map Value.type)=some (bs.any (GL a))
 | [],_=>rfl
 | b::bs,h=>by
   rw[TY,TY,PySem.W.kitAny,HZ a b (λz=>h (by rw[z];simp)),UC];cases GL a b with
   | true=>rfl
   | false=>exact Ha a bs (λz=>h (T8 _ z))
theorem KW:∀{xs:List SV} {bs:List TyN} {vs:List V},Ir xs=some bs->RlAll K as H vs xs->vs=(bs.map TyN.nm).map V.ty
 | [],_,_,e,r=>by cases e;exact rla_nil.mp r
 | .ty b::xs,_,_,e,r=>by
   obtain⟨v,vs,rfl,r1,r2⟩:=rla_cons.mp r;unfold Ir at e;cases h:Ir xs with
   | none=>rw[h]at e;cases e
   | some cs=>
     rw[h]at e;cases e;rw[rl_ty.mp r1,KW h r2];rfl
 | .non::_,_,_,e,_=>by cases e
 | .bl _::_,_,_,e,_=>by cases e
 | .str _::_,_,_,e,_=>by cases e
 | .tup _::_,_,_,e,_=>by cases e
 | .loc _::_,_,_,e,_=>by cases e
 | .ro _::_,_,_,e,_=>by cases e
 | .int _::_,_,_,e,_=>by cases e
end
noncomputable def rBi(K:Sd):BI->List V->Hp->VK->Prop
 | .len=>λxs H Q=>∃ p ys,xs=[.ref p]/\(SqL K H p ys\/SqT K H p ys)/\Q (.int ys.length) H
 | .abs=>λxs H Q=>∃ i,xs=[.int i]/\Q (.int (if i<0 then -i else i)) H
 | .min=>λxs H Q=>∃ i j,xs=[.int i,.int j]/\Q (.int (if j<i then j else i)) H
 | .max=>λxs H Q=>∃ i j,xs=[.int i,.int j]/\Q (.int (if j>i then j else i)) H
 | .int=>λxs H Q=>(∃ i,xs=[.int i]/\Q (.int i) H)\/∃ k,xs=[.bl k]/\Q (.int (if k then 1 else 0)) H
 | .list=>λxs H Q=>∃ p ys,xs=[.ref p]/\(SqL K H p ys\/SqT K H p ys)/\∀ l,H l=none->Q (.ref l) (upd H l (.lst ys))
 | .tuple=>λxs H Q=>∃ p ys,xs=[.ref p]/\((SqL K H p ys/\∀ l,H l=none->Q (.ref l) (upd H l (.tup ys)))\/(SqT K H p ys/\Q (.ref p) H))
 | .all=>λxs H Q=>∃(a:Wm) (bs:List Bool),xs=[.ref a]/\SqL K H a (bs.map V.bl)/\Q (.bl (bs.all id)) H
 | .any=>λxs H Q=>∃(a:Wm) (bs:List Bool),xs=[.ref a]/\SqL K H a (bs.map V.bl)/\Q (.bl (bs.any id)) H
 | .sorted=>λxs H Q=>∃ p ns,xs=[.ref p]/\SqL K H p (ns.map V.int)/\ns.length<64/\∀ l,H l=none->Q (.ref l) (upd H l (.lst ((srt ns).map V.int)))
 | .isi=>λxs H Q=>(∃ x T t b,xs=[x,.ty T]/\TyOf K H x t/\PySem.W.kitOne K t (.type T)=some b/\Q (.bl b) H)\/(∃(x:V) (p:Wm) (Ts:List String) (t:Wk) (b:Bool),xs=[x,.ref p]/\H p=some (.tup (Ts.map V.ty))/\TyOf K H x t/\PySem.W.kitAny K t (Ts.map Value.type)=some b/\Q (.bl b) H)
 | .str=>λ_ _ _=>False
 | .repr=>λ_ _ _=>False
theorem Pf{K:Sd}:∀{b:BI},RN K (sBi b) (rBi K b)
 | .len=>λas H S xs vs Q ok r h=>by
   replace h:=C9 h;obtain⟨x,rfl,ys,h1,h2⟩:=h;obtain⟨v,rfl,r1⟩:=CA r;obtain⟨a,us,rfl,hq,rr⟩:=C8 ok r1 h1;exact⟨a,us,rfl,hq,by rw[rr.length];exact h2.here ok (rl_int.mpr rfl)⟩
 | .abs=>λas H S xs vs Q ok r h=>by
   replace h:=C9 h;obtain⟨x,rfl,h⟩:=h;replace h:=Br h;obtain⟨i,rfl,h⟩:=h;obtain⟨v,rfl,r1⟩:=CA r;exact⟨_,by rw[rl_int.mp r1],Post.here h ok (rl_int.mpr rfl)⟩
 | .min=>λas H S xs vs Q ok r h=>by
   replace h:=KS h;obtain⟨x,y,rfl,h⟩:=h;replace h:=Br h;obtain⟨i,rfl,h⟩:=h;replace h:=Br h;obtain⟨j,rfl,h⟩:=h;obtain⟨v,u,rfl,r1,r2⟩:=Mq r;exact⟨_,_,by rw[rl_int.mp r1,rl_int.mp r2],Post.here h ok (rl_int.mpr rfl)⟩
 | .max=>λas H S xs vs Q ok r h=>by
   replace h:=KS h;obtain⟨x,y,rfl,h⟩:=h;replace h:=Br h;obtain⟨i,rfl,h⟩:=h;replace h:=Br h;obtain⟨j,rfl,h⟩:=h;obtain⟨v,u,rfl,r1,r2⟩:=Mq r;exact⟨_,_,by rw[rl_int.mp r1,rl_int.mp r2],Post.here h ok (rl_int.mpr rfl)⟩
 | .int=>λas H S xs vs Q ok r h=>by
   replace h:=C9 h;obtain⟨x,rfl,h⟩:=h;obtain⟨v,rfl,r1⟩:=CA r;replace h:=O8 h;rcases h with⟨k,rfl,h⟩ | ⟨b,rfl,h⟩
   ·exact .inl ⟨_,by rw[rl_int.mp r1],Post.here h ok (rl_int.mpr rfl)⟩
   ·exact .inr ⟨_,by rw[rl_bl.mp r1],Post.here h ok (rl_int.mpr rfl)⟩
 | .list=>λas H S xs vs Q ok r h=>by
   replace h:=C9 h;obtain⟨x,rfl,ys,h1,h2⟩:=h;obtain⟨v,rfl,r1⟩:=CA r;obtain⟨a,us,rfl,hq,rr⟩:=C8 ok r1 h1;exact⟨a,us,rfl,hq,AB ok rr h2⟩
 | .tuple=>λas H S xs vs Q ok r h=>by
   replace h:=C9 h;obtain⟨x,rfl,ys,h1,h2⟩:=h;obtain⟨v,rfl,r1⟩:=CA r;obtain⟨p,us,rfl,z⟩:=KU ok r1 h1 h2;exact⟨p,us,rfl,z⟩
 | .all=>λas H S xs vs Q ok r h=>by
   replace h:=C9 h;obtain⟨x,rfl,ys,bs,h0,h1,h2,h3⟩:=h;obtain⟨v,rfl,r1⟩:=CA r;obtain⟨a,us,rfl,hq,rr⟩:=u8 ok r1 h0 h1;rw[GM h2 rr]at hq;exact⟨a,bs,rfl,hq,h3.here ok (rl_bl.mpr rfl)⟩
 | .any=>λas H S xs vs Q ok r h=>by
   replace h:=C9 h;obtain⟨x,rfl,ys,bs,h0,h1,h2,h3⟩:=h;obtain⟨v,rfl,r1⟩:=CA r;obtain⟨a,us,rfl,hq,rr⟩:=u8 ok r1 h0 h1;rw[GM h2 rr]at hq;exact⟨a,bs,rfl,hq,h3.here ok (rl_bl.mpr rfl)⟩
 | .sorted=>λas H S xs vs Q ok r h=>by
   replace h:=C9 h;obtain⟨x,rfl,ys,ns,h0,h1,h2,h3,h4⟩:=h;obtain⟨v,rfl,r1⟩:=CA r;obtain⟨a,us,rfl,hq,rr⟩:=u8 ok r1 h0 h1;rw[CT h2 rr]at hq;exact⟨a,ns,rfl,hq,h3,AB ok RlAll.ints h4⟩
 | .isi=>λas H S xs vs Q ok r h=>by
   replace h:=KS h;obtain⟨x,y,rfl,h⟩:=h;obtain⟨v,u,rfl,r1,r2⟩:=Mq r;replace h:=O9 h;rcases h with⟨t,a,rfl,h0,h1,h2⟩ | ⟨ts,a,bs,rfl,h0,h1,h2,h3⟩
   ·rw[rl_ty.mp r2];exact .inl ⟨v,_,_,_,rfl,OA ok r1 h1,HZ _ _ h0,h2.here ok (rl_bl.mpr rfl)⟩
   ·obtain⟨p,vs,rfl,hp,rr⟩:=rl_tup.mp r2;rw[KW h2 rr]at hp;exact .inr ⟨v,p,_,_,_,rfl,hp,OA ok r1 h1,Ha _ _ h0,h3.here ok (rl_bl.mpr rfl)⟩
 | .str=>λ_ _ _ _ _ _ _ _ h=>False.elim h
 | .repr=>λ_ _ _ _ _ _ _ _ h=>False.elim h
theorem CU{K:Sd}{as:List Wm}{H:Hp}:∀{ns:List Int} {vs:List V},RlAll K as H vs (ns.map SV.int)->vs=ns.map V.int
 | [],vs,h=>rla_nil.mp h
 | n::ns,vs,h=>by
   obtain⟨v,r,rfl,h1,h2⟩:=rla_cons.mp h;rw[rl_int.mp h1,CU h2];rfl
inductive MT where
 | append | extend | extT | insert | count
 deriving DecidableEq
def MT.name:MT->Str
 | .append=>"append" | .extend=>"extend" | .extT=>"extend" | .insert=>"insert" | .count=>"count"
def oL(f:Nat->Sto->QE->Prop):S1:=λx S Q=>match x with | .loc k=>f k S Q | _=>False
theorem CN{f:Nat->Sto->QE->Prop}{x:SV}{S:Sto}{Q:QE}(h:oL f x S Q):∃ k,x = .loc k/\f k S Q:=match x,h with | .loc k,h=>⟨k,rfl,h⟩
def Mr(x:SV):S1:=λy S Q=>oL (λk S Q=>∃ xs,S[k]?=some (.lst xs)/\xs.length<big/\Q .non (S.set k (.lst (xs++[y])))) x S Q
def Ms(x:SV):S1:=λy S Q=>oL (λk S Q=>oL (λl S Q=>∃ xs ys,S[k]?=some (.lst xs)/\S[l]?=some (.lst ys)/\xs.length+ys.length<=big/\Q .non (S.set k (.lst (xs++ys)))) y S Q) x S Q
def RU(x:SV):S1:=λy S Q=>oL (λk S Q=>∃ xs ys,y = .tup ys/\S[k]?=some (.lst xs)/\xs.length+ys.length<=big/\Q .non (S.set k (.lst (xs++ys)))) x S Q
def Mt(x:SV):S2:=λz y S Q=>oL (λk S Q=>oI (λi S Q=>∃ xs,S[k]?=some (.lst xs)/\(0<=i/\i<=xs.length)/\xs.length<big/\Q .non (S.set k (.lst (xs.take i.toNat++y::xs.drop i.toNat)))) z S Q) x S Q
def Pg(x:SV):S1:=λy S Q=>oL (λk S Q=>oI (λn S Q=>∃ ns:List Int,S[k]?=some (.lst (ns.map SV.int))/\Q (.int (ns.count n:Nat)) S) y S Q) x S Q
def sMt:MT->SV->Sn
 | .append,x=>a1 (Mr x)
 | .extend,x=>a1 (Ms x)
 | .extT,x=>a1 (RU x)
 | .insert,x=>a2 (Mt x)
 | .count,x=>a1 (Pg x)
theorem E4:∀{m:MT} {x:SV},MonoN (sMt m x)
 | .append,x=>v7 λy S P P' i h=>by
   replace h:=CN h;obtain⟨k,rfl,a,c,d,e⟩:=h;exact⟨a,c,d,i _ _ e⟩
 | .extend,x=>v7 λy S P P' i h=>by
   replace h:=CN h;obtain⟨k,rfl,h⟩:=h;replace h:=CN h;obtain⟨l,rfl,a,c,d,e,f,g⟩:=h;exact⟨a,c,d,e,f,i _ _ g⟩
 | .extT,x=>v7 λy S P P' i h=>by
   replace h:=CN h;obtain⟨k,rfl,a,c,d,e,f,g⟩:=h;exact⟨a,c,d,e,f,i _ _ g⟩
 | .insert,x=>CS λz y S P P' i h=>by
   replace h:=CN h;obtain⟨k,rfl,h⟩:=h;replace h:=Br h;obtain⟨j,rfl,a,c,d,e,f⟩:=h;exact⟨a,c,d,e,i _ _ f⟩
 | .count,x=>v7 λy S P P' i h=>by
   replace h:=CN h;obtain⟨k,rfl,h⟩:=h;replace h:=Br h;obtain⟨n,rfl,a,b,c⟩:=h;exact⟨a,b,i _ _ c⟩
def rMt:MT->V->List V->Hp->VK->Prop
 | .append=>HM
 | .extend=>HN
 | .extT=>O7
 | .insert=>HP
 | .count=>HY
section
variable{K:Sd}{as:List Wm}{H:Hp}{S:Sto}
theorem Az{Q:VK}{k:Nat}{a:Wm}{xs ys:List SV}{us:List V}{x:SV}{v:V}(ok:Ok K as H S)(e:S[k]?=some (.lst xs))(ea:as[k]?=some a)(r:RlAll K as H us ys)(h:Post K as H Q x (S.set k (.lst ys)))(rx:Rl K as H v x):Q v (upd H a (.lst us)):=by
 obtain⟨ok',ku⟩:=ok.write e ea r;exact h as _ v (Go.write (Ss ea)) ok' (Rl.mono (TN _) ku x v rx)
theorem KY:∀{m:MT} {Q:VK} {x:SV} {v:V} {xs:List SV} {vs:List V} (ok:Ok K as H S) (rx:Rl K as H v x) (r:RlAll K as H vs xs) (h:sMt m x xs S (Post K as H Q)),rMt m v vs H Q
 | .append,Q,x,v,xs,vs,ok,rx,r,h=>by
   replace h:=C9 h;obtain⟨y,rfl,h⟩:=h;replace h:=CN h;obtain⟨k,rfl,ys,h1,h2,h3⟩:=h;obtain⟨a,us,rfl,ea,ha,ra⟩:=n4 ok rx h1;obtain⟨u,rfl,ru⟩:=CA r;exact⟨a,us,u,rfl,rfl,ha,by rw[ra.length];exact GI h2,Az ok h1 ea (ra.append (.cons ru .nil)) h3 (rl_non.mpr rfl)⟩
 | .extend,Q,x,v,xs,vs,ok,rx,r,h=>by
   replace h:=C9 h;obtain⟨y,rfl,h⟩:=h;replace h:=CN h;obtain⟨k,rfl,h⟩:=h;replace h:=CN h;obtain⟨l,rfl,ys,zs,h1,h2,h3,h4⟩:=h;obtain⟨a,us,rfl,ea,ha,ra⟩:=n4 ok rx h1;obtain⟨u,rfl,ru⟩:=CA r;obtain⟨b,ws,rfl,eb,hb,rb⟩:=n4 ok ru h2;exact⟨a,b,us,ws,rfl,rfl,ha,hb,by rw[ra.length,rb.length];exact Am h3,Az ok h1 ea (ra.append rb) h4 (rl_non.mpr rfl)⟩
 | .extT,Q,x,v,xs,vs,ok,rx,r,h=>by
   replace h:=C9 h;obtain⟨y,rfl,h⟩:=h;replace h:=CN h;obtain⟨k,rfl,ys,zs,rfl,h1,h3,h4⟩:=h;obtain⟨a,us,rfl,ea,ha,ra⟩:=n4 ok rx h1;obtain⟨u,rfl,ru⟩:=CA r;obtain⟨b,ws,rfl,hb,rb⟩:=rl_tup.mp ru;exact⟨a,b,us,ws,rfl,rfl,ha,hb,by rw[ra.length,rb.length];exact Am h3,Az ok h1 ea (ra.append rb) h4 (rl_non.mpr rfl)⟩
 | .insert,Q,x,v,xs,vs,ok,rx,r,h=>by
   replace h:=KS h;obtain⟨z,y,rfl,h⟩:=h;replace h:=CN h;obtain⟨k,rfl,h⟩:=h;replace h:=Br h;obtain⟨i,rfl,ys,h1,h2,h3,h4⟩:=h;obtain⟨a,us,rfl,ea,ha,ra⟩:=n4 ok rx h1;obtain⟨u,w,rfl,ru,rw'⟩:=Mq r;rw[rl_int.mp ru];exact⟨a,us,i,w,rfl,rfl,ha,h2.1,by rw[ra.length];exact h2.2,by rw[ra.length];exact GI h3,Az ok h1 ea (ra.ins rw' _) h4 (rl_non.mpr rfl)⟩
 | .count,Q,x,v,xs,vs,ok,rx,r,h=>by
   replace h:=C9 h;obtain⟨y,rfl,h⟩:=h;replace h:=CN h;obtain⟨k,rfl,h⟩:=h;replace h:=Br h;obtain⟨n,rfl,ns,h1,h4⟩:=h;obtain⟨a,us,rfl,ea,ha,ra⟩:=n4 ok rx h1;obtain⟨u,rfl,ru⟩:=CA r;rw[CU ra]at ha;exact⟨a,ns,n,rfl,by rw[rl_int.mp ru],ha,h4.here ok (rl_int.mpr rfl)⟩
end
mutual
inductive Tg where
 | nm (i:Nat) | tup (ts:Tgs)
inductive Tgs where
 | nil | cons (t:Tg) (ts:Tgs)
end
mutual
inductive Ex where
 | var (i:Nat) | c (x:SV) | op (o:Y5) (a b:Ex) | neg (a:Ex) | cmp (o:CmpOp) (a b:Ex) | chn (o p:CmpOp) (a b c:Ex)
 | and (a b:Ex) | or (a b:Ex) | not (a:Ex) | ife (t a b:Ex) | tup (es:Exs) | lst (es:Exs) | ix (a b:Ex)
 | call (f:Nat) (es:Exs) | bi (b:BI) (es:Exs) | mt (m:MT) (a:Ex) (es:Exs) | comp (own cn:List Str) (js:List Nat) (g:Tg) (it:Itb) (t:Eo) (e:Ex) | tyc (t:TyN) | lrng1 (a:Ex) | lrng2 (a b:Ex) | srtset (a:Ex) | setl (a:Ex) | srtk (x:Str) (lp:Pos) (j:Nat) (y:Str) (cn:List Str) (js:List Nat) (a e:Ex) | srtf (a:Ex) | ninl (a b:Ex) | no
inductive Exs where
 | nil | cons (e:Ex) (es:Exs)
inductive Eo where
 | no | yes (e:Ex)
inductive Itb where
 | seq (e:Ex) | rng1 (a:Ex) | rng2 (a b:Ex) | enum (e:Ex) | zip (i j:Nat)
end
inductive Stm where
 | asg (t:Tg) (e:Ex) | put (o i e:Ex) | expr (e:Ex) | iff (t:Ex) (a b:List Stm) | loop (g:Tg) (it:Itb) (b:List Stm) | whl (t:Ex) (b:List Stm)
 | ret (e:Ex) | no
def sOp:Y5->S2
 | .Add=>KM
 | .Sub=>Bq λi j => .int (i - j)
 | .Mult=>KN
 | .FloorDiv=>GJ Qq λi j => .int (i / j)
 | .Mod=>GJ (λ_ j=>0<j) λi j => .int (i % j)
 | .Pow=>GJ Qr λi j => .int (i ^ j.toNat)
 | _=>λ_ _ _ _=>False
def B0:CmpOp->S2
 | .Eq=>sEq
 | .NotEq=>sNe
 | .Lt=>Bq λi j => .bl (decide (i<j))
 | .LtE=>Bq λi j => .bl (decide (i<=j))
 | .Gt=>Bq λi j => .bl (decide (j<i))
 | .GtE=>Bq λi j => .bl (decide (j<=i))
 | .In=>sIn false
 | .NotIn=>sIn true
 | .Is=>KO false
 | .IsNot=>KO true
def KZ:S1
 | .int i,S,Q=>Q (.int (-i)) S
 | _,_,_=>False
def Ph:SV->Sto->Option Bool
 | .bl b,_=>some b
 | .tup xs,_=>some (!xs.isEmpty)
 | .loc k,S=>match S[k]? with | some (.lst xs)=>some (!xs.isEmpty) | _=>none
 | _,_=>none
def Pi(w:WE):WT:=λρ S Q=>w ρ S λx S'=>∃ b,Ph x S'=some b/\Q b S'
def Ka(a b:WE):WE:=λρ S Q=>a ρ S λx S1=>∃ c,x = .bl c/\if c=true then b ρ S1 Q else Q (.bl false) S1
def wOr(a b:WE):WE:=λρ S Q=>a ρ S λx S1=>∃ c,x = .bl c/\if c=true then Q (.bl true) S1 else b ρ S1 Q
def Mu(a:WE):WE:=λρ S Q=>a ρ S λx S1=>∃ c,x = .bl c/\Q (.bl (!c)) S1
def Cr(a b:WT):WT:=λρ S Q=>a ρ S λc S1=>if c=true then b ρ S1 Q else Q false S1
def GN(a b:WT):WT:=λρ S Q=>a ρ S λc S1=>if c=true then Q true S1 else b ρ S1 Q
def Hb(a:WT):WT:=λρ S Q=>a ρ S λc S1=>Q (!c) S1
def Mv(t:WT)(a b:WE):WE:=λρ S Q=>t ρ S λc S1=>if c=true then a ρ S1 Q else b ρ S1 Q
def Kb(s s':S2)(a b c:WE):WE:=λρ S Q=>a ρ S λx S1=>b ρ S1 λy S2=>s x y S2 λz S3=>∃ k,z = .bl k/\if k=true then c ρ S3 λu S4=>s' y u S4 Q else Q (.bl false) S3
abbrev WO:=EnvS->Sto->(Option Int->Sto->Prop)->Prop
def Pj:WO:=λ_ S Q=>Q none S
def Kc(w:WE):WO:=λρ S Q=>w ρ S λx S1=>∃ i,x = .int i/\Q (some i) S1
abbrev WI:=EnvS->Sto->((Sto->Prop)->List SV->Sto->Prop)->Prop
def AQ:SV->Sto->Sto->Prop
 | .loc k,S,S'=>S'[k]?=S[k]?
 | _,_,_=>True
def OB(w:WE):WI:=λρ S R=>w ρ S λx S1=>∃ xs,w9 x S1=some xs/\R (AQ x S1) xs S1
def Ap(lo hi:Int):List SV:=(So (hi - lo).toNat).map λ(i:Nat) => .int (lo+i)
def Ke(w:WE):WI:=λρ S R=>w ρ S λx S1=>∃ j,x = .int j/\(-(2 ^ 62)<=j/\j<2 ^ 62)/\R (λ_=>True) (Ap 0 j) S1
def Kf(w u:WE):WI:=λρ S R=>w ρ S λx S1=>u ρ S1 λy S2=>∃ i j,x = .int i/\y = .int j/\(-(2 ^ 62)<=i/\i<2 ^ 62 /\ -(2 ^ 62)<=j/\j<2 ^ 62)/\R (λ_=>True) (Ap i j) S2
def BA(xs:List SV):List SV:=(So xs.length).zipWith (λ(i:Nat) x => .tup [.int i,x]) xs
def Kg(w:WE):WI:=λρ S R=>w ρ S λx S1=>∃ xs,w9 x S1=some xs/\R (AQ x S1) (BA xs) S1
def E5:SV->Bool
 | .tup _=>true
 | _=>false
def GO(xs ys:List SV):List SV:=xs.zipWith (λx y => .tup [x,y]) ys
def OC(i j:Nat):WI:=λρ S R=>∃ x y xs ys,ρ[i]?=some (some x)/\ρ[j]?=some (some y)/\w9 x S=some xs/\w9 y S=some ys/\E5 x=E5 y/\xs.length=ys.length/\R (λS'=>AQ x S S'/\AQ y S S') (GO xs ys) S
def GP(a:WE):WE:=λρ S Q=>a ρ S λx S1=>∃ j,x = .int j/\(-(2 ^ 62)<=j/\j<=100000)/\Q (.loc S1.length) (S1++[.lst (Ap 0 j)])
def GQ(a b:WE):WE:=λρ S Q=>a ρ S λx S1=>b ρ S1 λy S2=>∃ i j,x = .int i/\y = .int j/\(0<=i/\i<=100000 /\ -(2 ^ 62)<=j/\j<=100000)/\Q (.loc S2.length) (S2++[.lst (Ap i j)])
def Iu(kvs:List (List Int×SV))(k:List Int):Option SV:=(kvs.find? λp=>decide (p.1=k)).map (·.2)
def OD(kvs:List (List Int×SV))(k:List Int)(x:SV):List (List Int×SV):=if (kvs.any λp=>decide (p.1=k))=true then kvs.map (λp=>if p.1=k then (p.1,x) else p) else kvs++[(k,x)]
def Kh(a:WE):WE:=λρ S Q=>a ρ S λx S1=>∃(k:Nat) (ls:List Nat) (g:Nat->Int),x = .loc k/\S1[k]?=some (.lst (ls.map SV.loc))/\(∀ l∈ls,∃ t,S1[l]?=some (.lst (.int (g l)::t)))/\(ls.map g).Nodup/\ls.length<64/\
 ∀ ls':List Nat,ls'.Perm ls->(ls'.map g).Pairwise (·<=·)->Q (.loc S1.length) (S1++[.lst (ls'.map SV.loc)])
def Er:S2:=λx y S Q=>∃(k l:Nat) (ls:List Nat) (f:Nat->List Int),x = .loc k/\y = .loc l/\S[k]?=some (.lst ((f k).map SV.int))/\S[l]?=some (.lst (ls.map SV.loc))/\(∀ m∈ls,S[m]?=some (.lst ((f m).map SV.int)))/\Q (.bl (!(ls.any λm=>decide (f m=f k)))) S
def Ki(x:Str)(lp:Pos)(j:Nat)(js:List Nat)(a e:WE):WE:=λρ S Q=>a ρ S λv S1=>∃(k:Nat) (xs:List SV) (kz:List Int),v = .loc k/\S1[k]?=some (.lst xs)/\xs.length<64/\S1[j]?=some (.tbl x lp)/\kz.length=xs.length/\
 (∀(i:Nat) y z,xs[i]?=some y->kz[i]?=some z->e (some y::js.map λj=>(ρ[j]?).join) S1 λr S'=>r = .int z/\S'=S1)/\
 ∀ ys:List (Int×SV),ys.Perm (kz.zip xs)->(ys.map (·.1)).Pairwise (·<=·)->Q (.loc S1.length) (S1++[.lst (ys.map (·.2))])
def E6(a:WE):WE:=λρ S Q=>a ρ S λx S1=>∃ xs ns,w9 x S1=some xs/\Cq xs=some ns/\ns.length<64/\Q (.loc S1.length) (S1++[.lst ((srt (AO ns)).map SV.int)])
def Kj(a:WE):WE:=λρ S Q=>a ρ S λx S1=>∃ xs ns,w9 x S1=some xs/\Cq xs=some ns/\ns.length<=900/\Q (.loc S1.length) (S1++[.iset (AO ns)])
def Iv(kvs:List (Int×SV))(i:Int):Option SV:=(kvs.find? λp=>decide (p.1=i)).map (·.2)
def OE(kvs:List (Int×SV))(i:Int)(x:SV):List (Int×SV):=if (kvs.any λp=>decide (p.1=i))=true then kvs.map (λp=>if p.1=i then (p.1,x) else p) else kvs++[(i,x)]
def wMt(m:MT)(a:WE)(b:WA):WE:=λρ S Q=>a ρ S λx S1=>(∃ k xs,x = .loc k/\S1[k]?=some (.lst xs))/\b ρ S1 λxs S2=>sMt m x xs S2 Q
mutual
noncomputable def wTg:Tg->SV->EnvS->(EnvS->Prop)->Prop
 | .nm i,x,ρ,Q=>Q (ρ.set i (some x))
 | .tup ts,.tup xs,ρ,Q=>AU ts xs ρ Q
 | .tup _,_,_,_=>False
noncomputable def AU:Tgs->List SV->EnvS->(EnvS->Prop)->Prop
 | .nil,[],ρ,Q=>Q ρ
 | .cons t ts,x::xs,ρ,Q=>wTg t x ρ λρ'=>AU ts xs ρ' Q
 | _,_,_,_=>False
end
def Es(k:Nat)(js:List Nat)(ρ:EnvS):EnvS:=TM k none++js.map λj=>(ρ[j]?).join
abbrev WM(β:Type):=EnvS->β->Sto->(β->Sto->Prop)->Prop
noncomputable def wTG{β:Type}(keep:Sto->Prop)(g:Tg)(t:WT)(em:WM β)(ρ:EnvS)(Q:β->Sto->Prop):List SV->β->Sto->Prop
 | [],a,S=>keep S/\Q a S
 | x::xs,a,S=>keep S/\wTg g x ρ λρ2=>t ρ2 S λb S1=>if b=true then em ρ2 a S1 λa' S2=>wTG keep g t em ρ Q xs a' S2 else wTG keep g t em ρ Q xs a S1
abbrev emL(e:WE):WM (List SV):=λρ ys S N=>e ρ S λy S2=>ys.length<big/\N (ys++[y]) S2
noncomputable abbrev wCG{β:Type}(k:Nat)(js:List Nat)(g:Tg)(i:WI)(t:WT)(em:WM β)(b0:β)(fin:QE->β->Sto->Prop):WE:=λρ S Q=>i ρ S λkeep xs S1=>wTG keep g t em (Es k js ρ) (fin Q) xs b0 S1
abbrev Pk{β:Type}(o:β->SO):QE->β->Sto->Prop:=λQ b S=>Q (.loc S.length) (S++[o b])
noncomputable abbrev Kk(keep:Sto->Prop)(g:Tg)(t:WT)(e:WE)(ρ:EnvS)(Q:List SV->Sto->Prop):=wTG keep g t (emL e) ρ Q
noncomputable abbrev wKL(k:Nat)(js:List Nat)(g:Tg)(i:WI)(t:WT)(em:WM (List SV)):WE:=λρ S Q=>i ρ S λkeep xs S1=>wTG keep g t em (Es k js ρ) (λys S2=>Q (.loc S2.length) (S2++[.lst ys])) xs [] S1
def tt1(w:WE):WE×WT:=(w,Pi w)
def wBl(w:WE):WT:=λρ S Q=>w ρ S λx S'=>∃ b,x = .bl b/\Q b S'
def tt2(w:WE):WE×WT:=(w,wBl w)
def RV:WT:=λ_ S Q=>Q true S
mutual
noncomputable def wEx(Δ:Nat->Sn):Ex->WE×WT
 | .var i=>tt1 (PV i)
 | .c x=>tt1 (wC x)
 | .op o a b=>tt1 (w2 (sOp o) (wEx Δ a).1 (wEx Δ b).1)
 | .neg a=>tt1 (w1 KZ (wEx Δ a).1)
 | .cmp o a b=>tt2 (w2 (B0 o) (wEx Δ a).1 (wEx Δ b).1)
 | .chn o p a b c=>tt2 (Kb (B0 o) (B0 p) (wEx Δ a).1 (wEx Δ b).1 (wEx Δ c).1)
 | .and a b=>(Ka (wEx Δ a).1 (wEx Δ b).1,Cr (wEx Δ a).2 (wEx Δ b).2)
 | .or a b=>(wOr (wEx Δ a).1 (wEx Δ b).1,GN (wEx Δ a).2 (wEx Δ b).2)
 | .not a=>(Mu (wEx Δ a).1,Hb (wEx Δ a).2)
 | .ife t a b=>(Mv (wEx Δ t).2 (wEx Δ a).1 (wEx Δ b).1,λ_ _ _=>False)
 | .tup es=>tt1 (wn Mb (Et Δ es))
 | .lst es=>tt1 (wn Mc (Et Δ es))
 | .ix a b=>tt1 (w2 sIx (wEx Δ a).1 (wEx Δ b).1)
 | .call f es=>tt1 (wn (Δ f) (Et Δ es))
 | .bi b es=>tt1 (wn (sBi b) (Et Δ es))
 | .mt m a es=>tt1 (wMt m (wEx Δ a).1 (Et Δ es))
 | .comp own _ js g it t e=>tt1 (wKL own.length js g (Mw Δ it) (wEo Δ t).2 (emL (wEx Δ e).1))
 | .tyc t=>tt1 (wC (.ty t))
 | .lrng1 a=>tt1 (GP (wEx Δ a).1)
 | .lrng2 a b=>tt1 (GQ (wEx Δ a).1 (wEx Δ b).1)
 | .srtf a=>tt1 (Kh (wEx Δ a).1)
 | .ninl a b=>tt2 (w2 Er (wEx Δ a).1 (wEx Δ b).1)
 | .srtk x lp j _ _ js a e=>tt1 (Ki x lp j js (wEx Δ a).1 (wEx Δ e).1)
 | .srtset a=>tt1 (E6 (wEx Δ a).1)
 | .setl a=>tt1 (Kj (wEx Δ a).1)
 | .no=>(λ_ _ _=>False,λ_ _ _=>False)
noncomputable def Et(Δ:Nat->Sn):Exs->WA
 | .nil=>Dc
 | .cons e es=>Co (wEx Δ e).1 (Et Δ es)
noncomputable def wEo(Δ:Nat->Sn):Eo->WO×WT
 | .no=>(Pj,RV)
 | .yes e=>(Kc (wEx Δ e).1,(wEx Δ e).2)
noncomputable def Mw(Δ:Nat->Sn):Itb->WI
 | .seq e=>OB (wEx Δ e).1
 | .rng1 a=>Ke (wEx Δ a).1
 | .rng2 a b=>Kf (wEx Δ a).1 (wEx Δ b).1
 | .enum e=>Kg (wEx Δ e).1
 | .zip i j=>OC i j
end
structure EndsS where
 nx:EnvS->Sto->Prop
 rt:SV->Sto->Prop
 bk:EnvS->Sto->Prop:=λ_ _=>False
 ct:EnvS->Sto->Prop:=λ_ _=>False
abbrev WS:=EndsS->EnvS->Sto->Prop
def Iw:SV->SV->SV->Sto->(Sto->Prop)->Prop
 | .loc k,.int i,v,S,Q=>∃ xs j,S[k]?=some (.lst xs)/\ixN xs.length i=some j/\Q (S.set k (.lst (xs.set j v)))
 | _,_,_,_,_=>False
def y7(keep:Sto->Prop)(g:Tg)(b:WS)(D:EndsS):List SV->EnvS->Sto->Prop
 | [],ρ,S=>keep S/\D.nx ρ S
 | x::xs,ρ,S=>keep S/\wTg g x ρ λρ2=>b {D with nx:=y7 keep g b D xs,ct:=y7 keep g b D xs,bk:=D.nx} ρ2 S
noncomputable def Pl(t:WT)(b:WS):WS:=λD ρ S=>∃ W:Nat->EnvS->Sto->Prop,(∃ m,W m ρ S)/\∀ m ρ S,W m ρ S->t ρ S λc S1=>if c=true then
 b {D with nx:=λρ' S'=>∃ m',m'<m/\W m' ρ' S',ct:=λρ' S'=>∃ m',m'<m/\W m' ρ' S',bk:=D.nx} ρ S1 else D.nx ρ S1
mutual
noncomputable def wSt(Δ:Nat->Sn):Stm->WS
 | .asg t e=>λD ρ S=>(wEx Δ e).1 ρ S λx S1=>wTg t x ρ λρ'=>D.nx ρ' S1
 | .put o i e=>λD ρ S=>(wEx Δ e).1 ρ S λv S1=>(wEx Δ o).1 ρ S1 λx S2=>(wEx Δ i).1 ρ S2 λy S3=>Iw x y v S3 λS4=>D.nx ρ S4
 | .expr e=>λD ρ S=>(wEx Δ e).1 ρ S λ_ S1=>D.nx ρ S1
 | .iff t a b=>λD ρ S=>(wEx Δ t).2 ρ S λc S1=>if c=true then wSs Δ a D ρ S1 else wSs Δ b D ρ S1
 | .loop g it b=>λD ρ S=>Mw Δ it ρ S λkeep xs S1=>y7 keep g (wSs Δ b) D xs ρ S1
 | .whl t b=>Pl (wEx Δ t).2 (wSs Δ b)
 | .ret e=>λD ρ S=>(wEx Δ e).1 ρ S D.rt
 | .no=>λ_ _ _=>False
noncomputable def wSs(Δ:Nat->Sn):List Stm->WS
 | []=>λD ρ S=>D.nx ρ S
 | s::ss=>λD ρ S=>wSt Δ s {D with nx:=wSs Δ ss D} ρ S
end
theorem v5{α:Type}{P:Prop}{x:α}(h:(none:Option α)=some x):P:=nomatch h
def Kl(scope sc:Ww):Ww:={scope with names:=scope.names.map λ(n,k)=>if (k == .free&&sc.kind == .function&&sc.names.lookup n == some .cell) then (n,.cell) else (n,k)}
def f9:Expr->Bool
 | .Starred ..=>false
 | _=>true
theorem g9{e:Expr}{es:List Expr}{env:Env}(h:f9 e=true):Wv (e::es) env=(false,eval e env)::Wv es env:=by
 cases e<;>first | rfl | cases h
theorem BB{env:Env}{pos:Pos}:∀{es:List Expr},es.all f9=true->(backTo pos (Wv es env)).any (·.1)=false
 | [],_=>rfl
 | e::es,h=>by
   rw[U6,Sf]at h;rw[g9 h.1];exact BB (es:=es) h.2
theorem De{env:Env}{pos:Pos}:∀{es:List Expr},es.all f9=true->(backTo pos (Wv es env)).all (λx=>!x.1)=true
 | [],_=>rfl
 | e::es,h=>by
   rw[U6,Sf]at h;rw[g9 h.1];exact De (es:=es) h.2
def glo(sc:Ww)(x:Str):Bool:=sc.names.lookup x == some .globalImplicit&&!(x == ("__name__":Str))&&!(x == ("__debug__":Str))
def vis(sc:Ww)(x:Str):Bool:=sc.names.lookup x == some .local||sc.names.lookup x == some .cell||sc.names.lookup x == some .free
def loc(sc:Ww)(x:Str):Bool:=sc.names.lookup x == some .local||sc.names.lookup x == some .cell
def Pm:SV->Const->Bool
 | .non,.none=>true
 | .bl a,.bool b=>a == b
 | .int i,.int j=>decide (i=j)
 | .str x,.str y=>decide (x=y)
 | _,_=>false
def BC:Expr->Bool
 | .Slice ..=>false
 | _=>true
def AR:Expr->Bool
 | .Set ..=>false
 | _=>true
def GR:Expr->Bool
 | .UnaryOp .Not _ _=>false
 | .BoolOp ..=>false
 | .IfExp ..=>false
 | .Compare ..=>false
 | _=>true
def CV:Expr->Bool
 | .Call (.Name _ _) [] [] _=>false
 | _=>true
def Aq:Expr->Option Str
 | .Name x _=>some x
 | _=>none
def Km:Expr->Option Const
 | .Constant k _ _=>some k
 | _=>none
def RW:Expr->Option (Expr×Y5×Expr)
 | .BinOp a o b _=>some (a,o,b)
 | _=>none
def vUn:Expr->Option (UnaryOp×Expr)
 | .UnaryOp o a _=>some (o,a)
 | _=>none
def Mx:Expr->Option (Expr×List CmpOp×List Expr)
 | .Compare a os bs _=>some (a,os,bs)
 | _=>none
def Kn:Expr->Option (BoolOp×List Expr×Pos)
 | .BoolOp o vs p=>some (o,vs,p)
 | _=>none
def RX:Expr->Option (Expr×Expr×Expr)
 | .IfExp t a b _=>some (t,a,b)
 | _=>none
def E7:Expr->Option (List Expr)
 | .Tuple es _ _=>some es
 | _=>none
def RY:Expr->Option (List Expr)
 | .List es _=>some es
 | _=>none
def Pn:Expr->Option (Expr×Expr)
 | .Subscript a b _=>some (a,b)
 | _=>none
def Cs:Expr->Option (Expr×List Expr×List Keyword)
 | .Call f as ks _=>some (f,as,ks)
 | _=>none
def GS:Expr->Nat
 | .Call _ _ _ p=>p.line
 | _=>0
def Ko:Expr->Option (Expr×Str×Nat)
 | .Attribute o n p=>some (o,n,p.endLine)
 | _=>none
def OF:Expr->Option (Expr×List Y4×Ww)
 | .ListComp e gs s _=>some (e,gs,s)
 | _=>none
def Po:Expr->Option (Str×Expr×Ww×Pos)
 | .Lambda ⟨[],[a],none,[],[],none,[]⟩ b s p=>some (a.arg,b,s,p)
 | _=>none
theorem My{r:Expr}{x:Str×Expr×Ww×Pos}(h:Po r=some x):∃ an ap,r = .Lambda ⟨[],[⟨x.1,an,ap⟩],none,[],[],none,[]⟩ x.2.1 x.2.2.1 x.2.2.2:=by
 unfold Po at h;split at h
 ·rename_i a b s p;cases a;cases h;exact⟨_,_,rfl⟩
 ·exact v5 h
theorem AS{r:Expr}{x:Str}(h:Aq r=some x):∃ p,r = .Name x p:=by cases r<;>first | (cases h;exact⟨_,rfl⟩) | exact v5 h
theorem Ix{r:Expr}{x:Const}(h:Km r=some x):∃ j p,r = .Constant x j p:=by cases r<;>first | (cases h;exact⟨_,_,rfl⟩) | exact v5 h
theorem Mz{r:Expr}{x:Expr×Y5×Expr}(h:RW r=some x):∃ p,r = .BinOp x.1 x.2.1 x.2.2 p:=by cases r<;>first | (cases h;exact⟨_,rfl⟩) | exact v5 h
theorem Kp{r:Expr}{x:UnaryOp×Expr}(h:vUn r=some x):∃ p,r = .UnaryOp x.1 x.2 p:=by cases r<;>first | (cases h;exact⟨_,rfl⟩) | exact v5 h
theorem E8{r:Expr}{x:Expr×List CmpOp×List Expr}(h:Mx r=some x):∃ p,r = .Compare x.1 x.2.1 x.2.2 p:=by cases r<;>first | (cases h;exact⟨_,rfl⟩) | exact v5 h
theorem Eu{r:Expr}{x:BoolOp×List Expr×Pos}(h:Kn r=some x):r = .BoolOp x.1 x.2.1 x.2.2:=by cases r<;>first | (cases h;exact rfl) | exact v5 h
theorem N0{r:Expr}{x:Expr×Expr×Expr}(h:RX r=some x):∃ p,r = .IfExp x.1 x.2.1 x.2.2 p:=by cases r<;>first | (cases h;exact⟨_,rfl⟩) | exact v5 h
theorem Bs{r:Expr}{x:List Expr}(h:E7 r=some x):∃ j p,r = .Tuple x j p:=by cases r<;>first | (cases h;exact⟨_,_,rfl⟩) | exact v5 h
theorem N1{r:Expr}{x:List Expr}(h:RY r=some x):∃ p,r = .List x p:=by cases r<;>first | (cases h;exact⟨_,rfl⟩) | exact v5 h
theorem Hc{r:Expr}{x:Expr×Expr}(h:Pn r=some x):∃ p,r = .Subscript x.1 x.2 p:=by cases r<;>first | (cases h;exact⟨_,rfl⟩) | exact v5 h
theorem Ct{r:Expr}{x:Expr×List Expr×List Keyword}(h:Cs r=some x):∃ p,r = .Call x.1 x.2.1 x.2.2 p/\GS r=p.line:=by cases r<;>first | (cases h;exact⟨_,rfl,rfl⟩) | exact v5 h
theorem Kq{r:Expr}{x:Expr×Str×Nat}(h:Ko r=some x):∃ p,r = .Attribute x.1 x.2.1 p/\x.2.2=p.endLine:=by cases r<;>first | (cases h;exact⟨_,rfl,rfl⟩) | exact v5 h
theorem Kr{r:Expr}{x:Expr×List Y4×Ww}(h:OF r=some x):∃ p,r = .ListComp x.1 x.2.1 x.2.2 p:=by cases r<;>first | (cases h;exact⟨_,rfl⟩) | exact v5 h
theorem c7{α:Type}{o:Option α}{p:α->Bool}(h:o.any p=true):∃ x,o=some x/\p x=true:=by
 cases o with
 | none=>cases h
 | some x=>exact⟨x,rfl,h⟩
theorem AX{α:Type}{l:List α}{x:α}(h:l.head?=some x):l=x::l.tail:=by
 cases l with
 | nil=>cases h
 | cons y r=>cases h;rfl
def l1{α:Type}:List α->Option α
 | [x]=>some x
 | _=>none
def l2{α:Type}:List α->Option (α×α)
 | [x,y]=>some (x,y)
 | _=>none
theorem A6{α:Type}{l:List α}{x:α}(h:l1 l=some x):l=[x]:=by
 match l,h with
 | [y],h=>cases h;rfl
theorem Ev{α:Type}{l:List α}{x:α×α}(h:l2 l=some x):l=[x.1,x.2]:=by
 match l,h with
 | [y,z],h=>cases h;rfl
def l3{α:Type}:List α->Option (α×α×α)
 | [x,y,z]=>some (x,y,z)
 | _=>none
def Pp(r:Expr):Option (Str×List Expr×Keyword):=(Cs r).bind λc=>match c.2.2 with
 | [kw]=>(Aq c.1).map λx=>(x,c.2.1,kw)
 | _=>none
theorem N2{r:Expr}{x:Str×List Expr×Keyword}(h:Pp r=some x):∃ p q,r = .Call (.Name x.1 p) x.2.1 [x.2.2] q:=by
 unfold Pp at h;cases hc:Cs r with
 | none=>rw[hc]at h;cases h
 | some c=>
   rw[hc]at h;obtain⟨q,e,_⟩:=Ct hc;obtain⟨f,as,ks⟩:=c
   match ks,h with
   | [kw],h=>
     replace h:(Aq f).map (λx=>(x,as,kw))=some x:=h;cases hn:Aq f with
     | none=>rw[hn]at h;cases h
     | some nm=>
       rw[hn]at h;cases h;obtain⟨p,e2⟩:=AS hn;exact⟨p,q,by rw[e,e2]⟩
   | [],h=>cases h
   | _::_::_,h=>cases h
def vFn(r:Expr):Option (Str×List Expr):=(Cs r).bind λc=>if c.2.2.isEmpty then (Aq c.1).map λx=>(x,c.2.1) else none
theorem y8{r:Expr}{x:Str×List Expr}(h:vFn r=some x):∃ p q,r = .Call (.Name x.1 p) x.2 [] q:=by
 unfold vFn at h;cases hc:Cs r with
 | none=>rw[hc]at h;cases h
 | some c=>
   rw[hc]at h;obtain⟨q,e,_⟩:=Ct hc;simp only[VJ]at h;by_cases hk:c.2.2.isEmpty=true
   ·rw[iP hk]at h;cases hn:Aq c.1 with
    | none=>rw[hn]at h;cases h
    | some y=>
      rw[hn]at h;cases h;obtain⟨p,ep⟩:=AS hn;rw[e,ep,U1.mp hk];exact⟨p,q,rfl⟩
   ·rw[iG hk]at h;cases h
def vMt(r:Expr):Option (Expr×Str×List Expr):=(Cs r).bind λc=>if c.2.2.isEmpty then (Ko c.1).bind λa=>if a.2.2 == GS r then some (a.1,a.2.1,c.2.1) else none else none
theorem Pq{r:Expr}{x:Expr×Str×List Expr}(h:vMt r=some x):∃ ap cp,r = .Call (.Attribute x.1 x.2.1 ap) x.2.2 [] cp/\(ap.endLine == cp.line)=true:=by
 unfold vMt at h;cases hc:Cs r with
 | none=>rw[hc]at h;cases h
 | some c=>
   rw[hc]at h;obtain⟨q,e,el⟩:=Ct hc;simp only[VJ]at h;by_cases hk:c.2.2.isEmpty=true
   ·rw[iP hk]at h;cases hn:Ko c.1 with
    | none=>rw[hn]at h;cases h
    | some y=>
      rw[hn]at h;simp only[VJ]at h;obtain⟨p,ep,el2⟩:=Kq hn;by_cases hl:(y.2.2 == GS r)=true
      ·rw[iP hl]at h;cases h;refine⟨p,q,?_,?_⟩
       ·rw[e,ep,U1.mp hk]
       ·rw[<-el2,<-el];exact hl
      ·rw[iG hl]at h;cases h
   ·rw[iG hk]at h;cases h
mutual
noncomputable def Ba(k:Nat)(N:List Str)(sc:Ww):Tg->Expr->Bool
 | .nm i,r=>(Aq r).any λx=>decide (i<k)&&decide (N[i]?=some x)&&loc sc x
 | .tup ts,r=>(E7 r).any λes=>AT k N sc ts es
noncomputable def AT(k:Nat)(N:List Str)(sc:Ww):Tgs->List Expr->Bool
 | .nil,r=>r.isEmpty
 | .cons t ts,r=>(r.head?).any λe=>Ba k N sc t e&&f9 e&&AT k N sc ts r.tail
end
def nmB(N:List Str)(sc:Ww)(i:Nat)(x:Str):Bool:=decide (N[i]?=some x)&&vis sc x&&!(x == ("__debug__":Str))&&!(x == ("__classdict__":Str))
mutual
noncomputable def j7(T:List Str)(N:List Str)(sc:Ww):Ex->Expr->Bool
 | .var i,r=>(Aq r).any λx=>nmB N sc i x
 | .c x,r=>(Km r).any λk=>Pm x k
 | .op o a b,r=>(RW r).any λv=>decide (o=v.2.1)&&j7 T N sc a v.1&&j7 T N sc b v.2.2
 | .neg a,r=>(vUn r).any λv=>decide (v.1 = .USub)&&j7 T N sc a v.2
 | .cmp o a b,r=>(Mx r).any λv=>(l1 v.2.2).any λrb=>decide (v.2.1=[o])&&j7 T N sc a v.1&&j7 T N sc b rb&&AR rb
 | .chn o p a b c,r=>(Mx r).any λv=>(l2 v.2.2).any λrs=>decide (v.2.1=[o,p])&&j7 T N sc a v.1&&j7 T N sc b rs.1&&j7 T N sc c rs.2&&AR rs.2
 | .and a b,r=>(Kn r).any λv=>decide (v.1 = .And)&&(v.2.1.head?).any λx=>j7 T N sc a x&&(match l1 v.2.1.tail with | some y=>j7 T N sc b y | none=>decide (2<=v.2.1.tail.length)&&j7 T N sc b (.BoolOp .And v.2.1.tail v.2.2))
 | .or a b,r=>(Kn r).any λv=>decide (v.1 = .Or)&&(v.2.1.head?).any λx=>j7 T N sc a x&&(match l1 v.2.1.tail with | some y=>j7 T N sc b y | none=>decide (2<=v.2.1.tail.length)&&j7 T N sc b (.BoolOp .Or v.2.1.tail v.2.2))
 | .not a,r=>(vUn r).any λv=>decide (v.1 = .Not)&&j7 T N sc a v.2
 | .ife t a b,r=>(RX r).any λv=>j7 T N sc t v.1&&j7 T N sc a v.2.1&&j7 T N sc b v.2.2
 | .tup es,r=>(E7 r).any λrs=>Ar T N sc es rs
 | .lst es,r=>(RY r).any λrs=>Ar T N sc es rs
 | .ix a b,r=>(Pn r).any λv=>j7 T N sc a v.1&&j7 T N sc b v.2&&BC v.2
 | .call f es,r=>(vFn r).any λv=>decide (f+1<T.length/\T[f]?=some v.1)&&glo sc v.1&&Ar T N sc es v.2&&!v.2.isEmpty
 | .bi b es,r=>(vFn r).any λv=>decide (b.name=v.1)&&glo sc v.1&&Ar T N sc es v.2&&!v.2.isEmpty
 | .mt m a es,r=>(vMt r).any λv=>decide (v.2.1=m.name)&&CV v.1&&decide (v.2.2.length<29)&&j7 T N sc a v.1&&Ar T N sc es v.2.2
 | .comp own cn js g it t e,r=>(OF r).any λv=>(l1 v.2.1).any λc=>decide (c.is_async=0)&&w5 sc v.2.2 own cn N js&&Ba own.length (own++cn) (Kl v.2.2 sc) g c.target&&Pt T N sc it c.target c.iter&&AR c.iter&&Hd T (own++cn) (Kl v.2.2 sc) t c.ifs&&j7 T (own++cn) (Kl v.2.2 sc) e v.1
 | .tyc t,r=>(Aq r).any λx=>decide (x=Str.ofString t.nm)&&glo sc x&&decide (t ≠ .none)
 | .lrng1 a,r=>(vFn r).any λv=>(l1 v.2).any λz=>(vFn z).any λu=>(l1 u.2).any λra=>decide (v.1=("list":Str))&&decide (u.1=("range":Str))&&glo sc v.1&&glo sc u.1&&j7 T N sc a ra&&f9 ra
 | .lrng2 a b,r=>(vFn r).any λv=>(l1 v.2).any λz=>(vFn z).any λu=>(l2 u.2).any λra=>decide (v.1=("list":Str))&&decide (u.1=("range":Str))&&glo sc v.1&&glo sc u.1&&j7 T N sc a ra.1&&f9 ra.1&&j7 T N sc b ra.2&&f9 ra.2
 | .srtf a,r=>(vFn r).any λv=>(l1 v.2).any λra=>decide (v.1=("sorted":Str))&&glo sc v.1&&j7 T N sc a ra&&f9 ra
 | .ninl a b,r=>(Mx r).any λv=>(l1 v.2.2).any λrb=>decide (v.2.1=[.NotIn])&&j7 T N sc a v.1&&j7 T N sc b rb&&AR rb
 | .srtk x lp j y cn js a e,r=>(Pp r).any λv=>(l1 v.2.1).any λra=>(Po v.2.2.value).any λl=>decide (v.1=("sorted":Str))&&glo sc v.1&&j7 T N sc a ra&&f9 ra&&decide (v.2.2.arg=some ("key":Str))&&decide (T.getLast?=some x)&&decide (l.1=y)&&decide (l.2.2.2=lp)&&BX sc l.2.2.1 [y] cn N js&&j7 [] (y::cn) l.2.2.1 e l.2.1
 | .srtset a,r=>(vFn r).any λv=>(l1 v.2).any λz=>(vFn z).any λu=>(l1 u.2).any λra=>decide (v.1=("sorted":Str))&&decide (u.1=("set":Str))&&glo sc v.1&&glo sc u.1&&j7 T N sc a ra&&f9 ra
 | .setl a,r=>(vFn r).any λv=>(l1 v.2).any λra=>decide (v.1=("set":Str))&&glo sc v.1&&j7 T N sc a ra&&f9 ra
 | .no,_=>true
noncomputable def Ar(T:List Str)(N:List Str)(sc:Ww):Exs->List Expr->Bool
 | .nil,r=>r.isEmpty
 | .cons e es,r=>(r.head?).any λx=>j7 T N sc e x&&f9 x&&Ar T N sc es r.tail
noncomputable def Ps(T:List Str)(N:List Str)(sc:Ww):Eo->Option Expr->Bool
 | .no,r=>r.isNone
 | .yes e,r=>r.any λx=>j7 T N sc e x
noncomputable def Hd(T:List Str)(N:List Str)(sc:Ww):Eo->List Expr->Bool
 | .no,r=>r.isEmpty
 | .yes e,r=>(l1 r).any λx=>j7 T N sc e x
noncomputable def Pt(T:List Str)(N:List Str)(sc:Ww):Itb->Expr->Expr->Bool
 | .seq e,_,r=>j7 T N sc e r
 | .rng1 a,_,r=>(vFn r).any λv=>(l1 v.2).any λra=>decide (v.1=("range":Str))&&glo sc v.1&&j7 T N sc a ra&&f9 ra
 | .rng2 a b,_,r=>(vFn r).any λv=>(l2 v.2).any λra=>decide (v.1=("range":Str))&&glo sc v.1&&j7 T N sc a ra.1&&f9 ra.1&&j7 T N sc b ra.2&&f9 ra.2
 | .enum e,tg,r=>(E7 tg).isSome&&(vFn r).any λv=>(l1 v.2).any λa=>decide (v.1=("enumerate":Str))&&glo sc v.1&&j7 T N sc e a&&f9 a
 | .zip i j,tg,r=>(E7 tg).isSome&&(vFn r).any λv=>(l2 v.2).any λa=>(Aq a.1).any λy=>(Aq a.2).any λz=>decide (v.1=("zip":Str))&&glo sc v.1&&nmB N sc i y&&nmB N sc j z
end
noncomputable def spS(K:Sd)(w:Sn):Sp:=λvs H Q _=>∃ as S xs,Ok K as H S/\RlAll K as H vs xs/\w xs S (Post K as H Q)
structure Cal(P:Wr)(w:Wt)(K:Sd)(mg:Str->Option Wk)(base:Heap)(k:Nat)(x:Str)(ps:List Str)(sp:Sp):Prop where
 ex:∃ f fd,FnOk P w K mg base CX0 k f fd ps sp/\mg x=some (.ref f)/\PySem.W.keepIn K (.ref f)=true/\Binds K fd ps []
noncomputable def Me(X:Cx)(x:Str):Prop:=X.env.qual=x++".<locals>."/\(∀ c P,TabK X.K x c P->X.env.code = .ref c)/\X.A.depth+2<XX/\X.A.units+110<cLine
structure Cok(T:List Str)(Δ:Nat->Sn)(X:Cx)(k:Nat)(N:List Str)(sc:Ww):Prop where
 hN:X.N=N
 hs:X.env.scope=sc
 nd:N.Nodup
 calm:X.calm=true
 fn:∀ i x,i<k->N[i]?=some x->sc.names.lookup x=some .cell->X.fn x=true
 un:X.A.units+102<cLine
 bl:∀ b:BI,X.mg b.name=none
 rng:X.mg "range"=none
 enm:X.mg "enumerate"=none
 rvs:X.mg "reversed"=none
 zip:X.mg "zip"=none
 sm0:X.mg "sum"=none
 st0:X.mg "set"=none
 dc0:X.mg "dict"=none
 ty:∀ t:TyN,t ≠ .none->X.mg (Str.ofString t.nm)=none
 gd:X.A.guards=some []
 me:∀ x,T.getLast?=some x->Me X x
 call:∀ f x,f+1<T.length->T[f]?=some x->∃ k ps,Cal X.prog X.w X.K X.mg X.base k x ps (spS X.K (Δ f))/\Room k X.A
 mono:∀ f,MonoN (Δ f)
def isCmp:Expr->Bool
 | .ListComp ..=>true
 | .DictComp ..=>true
 | _=>false
noncomputable def AsgC(X:Cx)(r:Expr)(w:WE):Prop:=∀(i:Nat) (x:Str) (px spos:Pos),X.N.Nodup->X.N[i]?=some x->X.env.scope.names.lookup x=some .local->Xa r (some (.Name x px)) spos.line X.env=pure true->PS X (.Assign [.Name x px] r spos) (Ft (lift X.K w) (EY i))
structure Good(X:Cx)(r:Expr)(w:WE×WT):Prop where
 pe:PE X r (lift X.K w.1)
 pt:PT X r (liftT X.K w.2)
 m:Mono w.1
 mt:MonoT w.2
 pw:∀ op vs p,r = .BoolOp op vs p->PW X r (liftT X.K w.2)
 cg:isCmp r=true->AsgC X r w.1:=by intro h;cases h
section
variable{X:Cx}{r:Expr}{w:WE}
theorem MonoT.tru(m:Mono w):MonoT (Pi w):=λρ S P P' i h=>m _ _ _ _ (λx S' ⟨b,e,q⟩=>⟨b,e,i _ _ q⟩) h
theorem MonoT.bl(m:Mono w):MonoT (wBl w):=λρ S P P' i h=>m _ _ _ _ (λx S' ⟨b,e,q⟩=>⟨b,e,i _ _ q⟩) h
theorem Pu{K:Sd}{as:List Wm}{H:Hp}{S:Sto}{x:SV}{v:V}{b:Bool}(ok:Ok K as H S)(r:Rl K as H v x)(e:Ph x S=some b):MK K v H b:=by
 cases x with
 | bl c=>cases e;rw[rl_bl.mp r];exact rfl
 | tup xs=>
   cases e;obtain⟨p,vs,rfl,hp,rp⟩:=rl_tup.mp r;refine .inr (.inl ⟨vs,SqT.of hp,?_⟩);have:=rp.length;cases vs<;>cases xs<;>first | rfl | (simp at this)
 | loc k=>
   unfold Ph at e;cases hs:S[k]? with
   | none=>simp only[hs]at e;cases e
   | some o=>
     cases o with
     | lst xs=>
       simp only[hs]at e;cases e;obtain⟨a,vs,rfl,_,ha,rr⟩:=n4 ok r hs;refine .inl ⟨vs,SqL.of ha,?_⟩;have:=rr.length;cases vs<;>cases xs<;>first | rfl | (simp at this)
     | iset _=>simp only[hs]at e;cases e
     | dtl _=>simp only[hs]at e;cases e
     | dtf _ _ _=>simp only[hs]at e;cases e
     | dtp _=>simp only[hs]at e;cases e
     | dct _=>simp only[hs]at e;cases e
     | dcf _ _ _=>simp only[hs]at e;cases e
     | tbl _ _=>simp only[hs]at e;cases e
 | _=>cases e
theorem DO{env:Env}(h:GR r=true):∀ whole,isTrue r env whole=(do let v <- whole;standAt r.pos;holding [v] (truthy v)):=by
 intro whole;cases r<;>first | rfl | (cases h;done) | (rename_i o _ _;cases o<;>first | rfl | cases h)
theorem N3{K:Sd}(m:Mono w):∀ σ H Q,liftT K (Pi w) σ H Q->lift K w σ H λx H'=>∃ k,MK K x H' k/\Q k H':=by
 rintro σ H Q ⟨as,ρ,S,ok,en,h⟩;exact⟨as,ρ,S,ok,en,m _ _ _ _ (λx S' ⟨b,e,q⟩ as' H' v g ok' r=>⟨b,Pu ok' r e,q as' H' g ok'⟩) h⟩
theorem GT{K:Sd}(m:Mono w):∀ σ H Q,liftT K (wBl w) σ H Q->lift K w σ H λx H'=>∃ k,x = .bl k/\Q k H':=by
 rintro σ H Q ⟨as,ρ,S,ok,en,h⟩;exact⟨as,ρ,S,ok,en,m _ _ _ _ (λx S' ⟨b,e,q⟩ as' H' v g ok' r=>⟨b,by subst e;exact rl_bl.mp r,q as' H' g ok'⟩) h⟩
theorem Good.one(hp:PE X r (lift X.K w))(m:Mono w)(h:GR r=true)(hc:isCmp r=true->AsgC X r w:=by intro h;cases h):Good X r (tt1 w) where
 cg:=hc
 pe:=hp
 pt:=Cn _ (Jl hp (DO h)) (N3 m)
 m:=m
 mt := .tru m
 pw:=λop vs p e=>by rw[e]at h;cases h
theorem Ks{X:Cx}{r:Expr}:PE X r (lift X.K λ_ _ _=>False):=λ_ _ _ _ _ _ h=>let ⟨_,_,_,_,_,z⟩:=h;z.elim
theorem Ew{X:Cx}{r:Expr}:PT X r (liftT X.K λ_ _ _=>False):=λ_ _ _ _ _ _ h=>let ⟨_,_,_,_,_,z⟩:=h;z.elim
theorem Kt{X:Cx}{r:Expr}:PW X r (liftT X.K λ_ _ _=>False):=λ_ _ _ _ _ _ _ h=>let ⟨_,_,_,_,_,z⟩:=h;z.elim
theorem Good.never:Good X r (λ_ _ _=>False,λ_ _ _=>False):=⟨Ks,Ew,λ_ _ _ _ _ h=>h,λ_ _ _ _ _ h=>h,λ_ _ _ _=>Kt,λ_ _ _ _ _ _ _ _ _ _ _ _ _ _ _ h=>let ⟨_,_,_,_,_,z⟩:=h;z.elim⟩
end
theorem He{o:Y5}:Mono2 (sOp o):=by
 unfold sOp;split<;>first | exact .add | exact .int0 | exact .mul | exact .int | exact λ_ _ _ _ _ _ h=>h
theorem AD{o:CmpOp}:Mono2 (B0 o):=by
 unfold B0;split<;>first | exact .eq | exact .ne | exact .int0 | exact .in' | exact .isN
section
variable{X:Cx}
theorem Ku{o:Y5}{ra rb:Expr}{p:Pos}{wa wb:WE}(ha:PE X ra (lift X.K wa))(hb:PE X rb (lift X.K wb))(ma:Mono wa)(mb:Mono wb):PE X (.BinOp ra o rb p) (lift X.K (w2 (sOp o) wa wb)):=by
 have go:∀{s:S2} {rr:R2},Mono2 s->OpR X (Xb o) rr->BV X.K s rr->PE X (.BinOp ra o rb p) (lift X.K (w2 s wa wb)):=λms ho sim=>i5 _ (Qn ho ha hb) (BP sim ms ma mb);have no:PE X (.BinOp ra o rb p) (lift X.K (w2 (λ_ _ _ _=>False) wa wb)):=go (λ_ _ _ _ _ _ h=>h) (rr:=λ_ _ _ _=>False) (λ_ _ _ _ _ _ _ _ _ _ _ _ h=>h.elim) (λ_ _ _ _ _ _ _ _ _ _ _ h=>h);cases o with
 | Add=>exact go .add Mi Mj
 | Sub=>exact go .int0 Ou (B9 λ_ _ _ _=>rl_int.mpr rfl)
 | Mult=>exact go .mul (op_mul.or PC) Ml
 | FloorDiv=>exact go .int MJ (E3 λ_ _ _ _=>rl_int.mpr rfl)
 | Mod=>exact go .int Ov (E3 λ_ _ _ _=>rl_int.mpr rfl)
 | Pow=>exact go .int Ow (E3 λ_ _ _ _=>rl_int.mpr rfl)
 | _=>exact no
theorem Cu(o:CmpOp)(hu:X.A.units<cLine):∃ rr:R2,OpR X (X0 o) rr/\BV X.K (B0 o) rr:=by
 cases o with
 | Eq=>exact⟨_,op_eq.or ((PJ hu).or (Mg hu)),PZ⟩
 | NotEq=>exact⟨_,op_ne.or (PK hu),Pa⟩
 | Lt=>exact⟨_,Qs,B9 λ_ _ _ _=>rl_bl.mpr rfl⟩
 | LtE=>exact⟨_,Qt,B9 λ_ _ _ _=>rl_bl.mpr rfl⟩
 | Gt=>exact⟨_,Qu,B9 λ_ _ _ _=>rl_bl.mpr rfl⟩
 | GtE=>exact⟨_,Qv,B9 λ_ _ _ _=>rl_bl.mpr rfl⟩
 | Is=>exact⟨_,Oz,Mn⟩
 | IsNot=>exact⟨_,op_notN.or Id,KR⟩
 | In=>exact⟨_,Pc,KQ⟩
 | NotIn=>exact⟨_,Iq,KQ⟩
theorem BD{o:CmpOp}{r:Expr}(h:AR r=true):Ya o r=false:=by
 cases r<;>first | rfl | cases h
theorem Iy{o:CmpOp}{ra rb:Expr}{p:Pos}{wa wb:WE}(hu:X.A.units<cLine)(ha:PE X ra (lift X.K wa))(hb:PE X rb (lift X.K wb))(ma:Mono wa)(mb:Mono wb)(hn:AR rb=true):Good X (.Compare ra [o] [rb] p) (tt2 (w2 (B0 o) wa wb)):=by
 obtain⟨rr,ho,sim⟩:=Cu (X:=X) o hu;have m:Mono (w2 (B0 o) wa wb) := .two AD ma mb
 exact{pe:=i5 _ (HF ho ha hb (BD hn)) (BP sim AD ma mb)
       pt:=Cn _ (HG ho ha hb (BD hn)) λσ H Q h=>BP sim AD ma mb σ H _ (GT m σ H Q h)
       m:=m
       mt := .bl m
       pw:=λ_ _ _ e=>by cases e}
theorem Ey{o p:CmpOp}{a b c:WE}(ma:Mono a)(mb:Mono b)(mc:Mono c):Mono (Kb (B0 o) (B0 p) a b c):=λρ S P P' i h=>ma _ _ _ _ (λx S1 h=>mb _ _ _ _ (λy S2 h=>AD _ _ _ _ _ (λz S3 ⟨k,e,q⟩=>⟨k,e,by
 cases k with
 | true=>rw[iP rfl]at q ⊢;exact mc _ _ _ _ (λu S4 h=>AD _ _ _ _ _ i h) q
 | false=>rw[iG Su]at q ⊢;exact i _ _ q⟩) h) h) h
theorem Hf{K:Sd}{o p:CmpOp}{r r':R2}{a b c:WE}(s1:BV K (B0 o) r)(s2:BV K (B0 p) r')(ma:Mono a)(mb:Mono b)(mc:Mono c):∀ σ H Q,lift K (Kb (B0 o) (B0 p) a b c) σ H Q->Fw r r' (lift K a) (lift K b) (lift K c) σ H Q:=by
 rintro σ H Q ⟨as,ρ,S,ok,en,h⟩;refine⟨as,ρ,S,ok,en,ma _ _ _ _ (λx S1 h as1 H1 v g1 ok1 rv=>?_) h⟩;refine⟨as1,ρ,S1,ok1,en.mono g1.pre (g1.ku ok),mb _ _ _ _ (λy S2 h as2 H2 u g2 ok2 ru=>?_) h⟩;refine s1 as2 H2 S2 x y v u _ ok2 (Rl.mono g2.pre (g2.ku ok1) x v rv) ru (AD _ _ _ _ _ (λz S3 ⟨k,e,q⟩ as3 H3 t g3 ok3 rt=>?_) h);subst e;refine⟨k,rl_bl.mp rt,?_⟩;cases k with
 | true=>
   rw[iP rfl]at q ⊢;refine⟨as3,ρ,S3,ok3,(en.mono g1.pre (g1.ku ok)).mono (g2.trans g3).pre ((g2.trans g3).ku ok1),mc _ _ _ _ (λn S4 h as4 H4 m g4 ok4 rm=>?_) q⟩;exact s2 as4 H4 S4 y n u m Q ok4 (Rl.mono (g3.trans g4).pre ((g3.trans g4).ku ok2) y u ru) rm (AD _ _ _ _ _ (λf S5 hf=>hf.mono (((g1.trans g2).trans g3).trans g4)) h)
 | false=>
   rw[iG Su]at q ⊢;exact q as3 H3 _ ((g1.trans g2).trans g3) ok3 (rl_bl.mpr rfl)
theorem Iz{o q:CmpOp}{ra rb rc:Expr}{p:Pos}{wa wb wc:WE}(hu:X.A.units<cLine)(ha:PE X ra (lift X.K wa))(hb:PE X rb (lift X.K wb))(hc:PE X rc (lift X.K wc))(ma:Mono wa)(mb:Mono wb)(mc:Mono wc)(hn:AR rc=true):Good X (.Compare ra [o,q] [rb,rc] p) (tt2 (Kb (B0 o) (B0 q) wa wb wc)):=by
 obtain⟨r1,ho,sim⟩:=Cu (X:=X) o hu;obtain⟨r2,hq,sim2⟩:=Cu (X:=X) q hu;have m:Mono (Kb (B0 o) (B0 q) wa wb wc):=Ey ma mb mc;have hm:ZE [o,q] [rb,rc]=false:=BD hn
 exact{pe:=i5 _ (Jj ho hq ha hb hc hm) (Hf sim sim2 ma mb mc)
       pt:=Cn _ (Jk ho hq ha hb hc hm) λσ H Q h=>Hf sim sim2 ma mb mc σ H _ (GT m σ H Q h)
       m:=m
       mt := .bl m
       pw:=λ_ _ _ e=>by cases e}
end
section
variable{K:Sd}
theorem l9{c:Bool}{A B A' B':Prop}(ha:A->A')(hb:B->B')(h:if c=true then A else B):if c=true then A' else B':=by
 cases c with
 | true=>rw[iP rfl]at h ⊢;exact ha h
 | false=>rw[iG Su]at h ⊢;exact hb h
theorem Mono.and{a b:WE}(ma:Mono a)(mb:Mono b):Mono (Ka a b):=λρ S P P' i h=>ma _ _ _ _ (λx S1 ⟨c,e,q⟩=>⟨c,e,l9 (mb _ _ _ _ i) (i _ _) q⟩) h
theorem Mono.or{a b:WE}(ma:Mono a)(mb:Mono b):Mono (wOr a b):=λρ S P P' i h=>ma _ _ _ _ (λx S1 ⟨c,e,q⟩=>⟨c,e,l9 (i _ _) (mb _ _ _ _ i) q⟩) h
theorem Mono.not{a:WE}(ma:Mono a):Mono (Mu a):=λρ S P P' i h=>ma _ _ _ _ (λx S1 ⟨c,e,q⟩=>⟨c,e,i _ _ q⟩) h
theorem MonoT.and{a b:WT}(ma:MonoT a)(mb:MonoT b):MonoT (Cr a b):=λρ S P P' i h=>ma _ _ _ _ (λx S1 q=>l9 (mb _ _ _ _ i) (i _ _) q) h
theorem MonoT.or{a b:WT}(ma:MonoT a)(mb:MonoT b):MonoT (GN a b):=λρ S P P' i h=>ma _ _ _ _ (λx S1 q=>l9 (i _ _) (mb _ _ _ _ i) q) h
theorem MonoT.not{a:WT}(ma:MonoT a):MonoT (Hb a):=λρ S P P' i h=>ma _ _ _ _ (λx S1 q=>i _ _ q) h
theorem Mono.ifE{t:WT}{a b:WE}(mt:MonoT t)(ma:Mono a)(mb:Mono b):Mono (Mv t a b):=λρ S P P' i h=>mt _ _ _ _ (λx S1 q=>l9 (ma _ _ _ _ i) (mb _ _ _ _ i) q) h
theorem Post.at{as as1:List Wm}{H H1:Hp}{Q:VK}{x:SV}{S:Sto}{v:V}(h:Post K as H Q x S)(g:Go as H as1 H1)(ok:Ok K as1 H1 S)(r:Rl K as1 H1 v x):Q v H1:=h as1 H1 v g ok r
theorem Hg{a b:WE}(ma:Mono a)(mb:Mono b):∀ σ H Q,lift K (Ka a b) σ H Q->Np (lift K a) (lift K b) σ H Q:=by
 rintro σ H Q ⟨as,ρ,S,ok,en,h⟩;refine⟨as,ρ,S,ok,en,ma _ _ _ _ (λx S1 ⟨c,e,q⟩ as1 H1 v g1 ok1 rv=>?_) h⟩;subst e;refine⟨c,rl_bl.mp rv,l9 (λq=>?_) (λq=>q.at g1 ok1 (rl_bl.mpr rfl)) q⟩;exact⟨as1,ρ,S1,ok1,en.mono g1.pre (g1.ku ok),mb _ _ _ _ (λy S2 h=>h.mono g1) q⟩
theorem Kv{a b:WE}(ma:Mono a)(mb:Mono b):∀ σ H Q,lift K (wOr a b) σ H Q->Qb (lift K a) (lift K b) σ H Q:=by
 rintro σ H Q ⟨as,ρ,S,ok,en,h⟩;refine⟨as,ρ,S,ok,en,ma _ _ _ _ (λx S1 ⟨c,e,q⟩ as1 H1 v g1 ok1 rv=>?_) h⟩;subst e;refine⟨c,rl_bl.mp rv,l9 (λq=>q.at g1 ok1 (rl_bl.mpr rfl)) (λq=>?_) q⟩;exact⟨as1,ρ,S1,ok1,en.mono g1.pre (g1.ku ok),mb _ _ _ _ (λy S2 h=>h.mono g1) q⟩
theorem N4{a:WE}(ma:Mono a):∀ σ H Q,lift K (Mu a) σ H Q->Nq (lift K a) σ H Q:=by
 rintro σ H Q ⟨as,ρ,S,ok,en,h⟩;refine⟨as,ρ,S,ok,en,ma _ _ _ _ (λx S1 ⟨c,e,q⟩ as1 H1 v g1 ok1 rv=>?_) h⟩;subst e;exact⟨c,rl_bl.mp rv,q.at g1 ok1 (rl_bl.mpr rfl)⟩
theorem PostT.mono{as as1:List Wm}{H H1:Hp}{Q:Bool->Hp->Prop}{x:Bool}{S:Sto}(h:PostT K as H Q x S)(g:Go as H as1 H1):PostT K as1 H1 Q x S:=λas' H' g'=>h as' H' (g.trans g')
theorem Ez{a b:WT}(ma:MonoT a)(mb:MonoT b):∀ σ H Q,liftT K (Cr a b) σ H Q->QZ (liftT K a) (liftT K b) σ H Q:=by
 rintro σ H Q ⟨as,ρ,S,ok,en,h⟩;refine⟨as,ρ,S,ok,en,ma _ _ _ _ (λc S1 q as1 H1 g1 ok1=>?_) h⟩;refine l9 (λq=>?_) (λq=>q as1 H1 g1 ok1) q;exact⟨as1,ρ,S1,ok1,en.mono g1.pre (g1.ku ok),mb _ _ _ _ (λy S2 h=>h.mono g1) q⟩
theorem Hh{a b:WT}(ma:MonoT a)(mb:MonoT b):∀ σ H Q,liftT K (GN a b) σ H Q->tOr (liftT K a) (liftT K b) σ H Q:=by
 rintro σ H Q ⟨as,ρ,S,ok,en,h⟩;refine⟨as,ρ,S,ok,en,ma _ _ _ _ (λc S1 q as1 H1 g1 ok1=>?_) h⟩;refine l9 (λq=>q as1 H1 g1 ok1) (λq=>?_) q;exact⟨as1,ρ,S1,ok1,en.mono g1.pre (g1.ku ok),mb _ _ _ _ (λy S2 h=>h.mono g1) q⟩
theorem Kw{a:WT}(ma:MonoT a):∀ σ H Q,liftT K (Hb a) σ H Q->Qa (liftT K a) σ H Q:=by
 rintro σ H Q ⟨as,ρ,S,ok,en,h⟩;exact⟨as,ρ,S,ok,en,ma _ _ _ _ (λc S1 q as1 H1 g1 ok1=>q as1 H1 g1 ok1) h⟩
theorem N5{t:WT}{a b:WE}(mt:MonoT t)(ma:Mono a)(mb:Mono b):∀ σ H Q,lift K (Mv t a b) σ H Q->tIf (liftT K t) (lift K a) (lift K b) σ H Q:=by
 rintro σ H Q ⟨as,ρ,S,ok,en,h⟩;refine⟨as,ρ,S,ok,en,mt _ _ _ _ (λc S1 q as1 H1 g1 ok1=>?_) h⟩;refine l9 (λq=>?_) (λq=>?_) q
 ·exact⟨as1,ρ,S1,ok1,en.mono g1.pre (g1.ku ok),ma _ _ _ _ (λy S2 h=>h.mono g1) q⟩
 ·exact⟨as1,ρ,S1,ok1,en.mono g1.pre (g1.ku ok),mb _ _ _ _ (λy S2 h=>h.mono g1) q⟩
end
section
variable{X:Cx}
theorem E9{e:Expr}{t:TT}(t':TT)(h:PW X e t)(imp:∀ σ H Q,t' σ H Q->t σ H Q):PW X e t':=λwh pins s σ H Q I hw=>h wh pins s σ H Q I (imp σ H Q hw)
theorem GU{x y:Expr}{p:Pos}{a b:WE×WT}(ha:Good X x a)(hb:Good X y b):Good X (.BoolOp .And [x,y] p) (Ka a.1 b.1,Cr a.2 b.2):=
 have pw:PW X (.BoolOp .And [x,y] p) (liftT X.K (Cr a.2 b.2)):=E9 _ (JY ha.pt (MD hb.pt)) (Ez ha.mt hb.mt)
 {pe:=i5 _ (Ja ha.pe (JZ hb.pe)) (Hg ha.m hb.m),pt:=pw.pt,m := .and ha.m hb.m,mt := .and ha.mt hb.mt,pw:=λ_ _ _ _=>pw}
theorem GV{x y z:Expr}{zs:List Expr}{p:Pos}{a b:WE×WT}(ha:Good X x a)(hb:Good X (.BoolOp .And (y::z::zs) p) b):Good X (.BoolOp .And (x::y::z::zs) p) (Ka a.1 b.1,Cr a.2 b.2):=
 have pw:PW X (.BoolOp .And (x::y::z::zs) p) (liftT X.K (Cr a.2 b.2)):=E9 _ (JY ha.pt (hb.pw _ _ _ rfl)) (Ez ha.mt hb.mt)
 {pe:=i5 _ (Ja ha.pe hb.pe) (Hg ha.m hb.m),pt:=pw.pt,m := .and ha.m hb.m,mt := .and ha.mt hb.mt,pw:=λ_ _ _ _=>pw}
theorem J1{x y:Expr}{p:Pos}{a b:WE×WT}(ha:Good X x a)(hb:Good X y b):Good X (.BoolOp .Or [x,y] p) (wOr a.1 b.1,GN a.2 b.2):=
 have pw:PW X (.BoolOp .Or [x,y] p) (liftT X.K (GN a.2 b.2)):=E9 _ (No ha.pt (Oh hb.pt)) (Hh ha.mt hb.mt)
 {pe:=i5 _ (Nr ha.pe (JZ hb.pe)) (Kv ha.m hb.m),pt:=pw.pt,m := .or ha.m hb.m,mt := .or ha.mt hb.mt,pw:=λ_ _ _ _=>pw}
theorem J2{x y z:Expr}{zs:List Expr}{p:Pos}{a b:WE×WT}(ha:Good X x a)(hb:Good X (.BoolOp .Or (y::z::zs) p) b):Good X (.BoolOp .Or (x::y::z::zs) p) (wOr a.1 b.1,GN a.2 b.2):=
 have pw:PW X (.BoolOp .Or (x::y::z::zs) p) (liftT X.K (GN a.2 b.2)):=E9 _ (No ha.pt (hb.pw _ _ _ rfl)) (Hh ha.mt hb.mt)
 {pe:=i5 _ (Nr ha.pe hb.pe) (Kv ha.m hb.m),pt:=pw.pt,m := .or ha.m hb.m,mt := .or ha.mt hb.mt,pw:=λ_ _ _ _=>pw}
theorem J3{x:Expr}{p:Pos}{a:WE×WT}(ha:Good X x a):Good X (.UnaryOp .Not x p) (Mu a.1,Hb a.2) where
 pe:=i5 _ (Oj ha.pe) (N4 ha.m)
 pt:=Cn _ (Oi ha.pt) (Kw ha.mt)
 m := .not ha.m
 mt := .not ha.mt
 pw:=λ_ _ _ e=>by cases e
theorem J4{t x y:Expr}{p:Pos}{c a b:WE×WT}(hc:Good X t c)(ha:Good X x a)(hb:Good X y b):Good X (.IfExp t x y p) (Mv c.2 a.1 b.1,λ_ _ _=>False) where
 pe:=i5 _ (Jb hc.pt ha.pe hb.pe) (N5 hc.mt ha.m hb.m)
 pt:=Ew
 m := .ifE hc.mt ha.m hb.m
 mt:=λ_ _ _ _ _ h=>h
 pw:=λ_ _ _ e=>by cases e
theorem Pv{i:Nat}{x:Str}{p:Pos}{N:List Str}{sc:Ww}{T:List Str}{Δ:Nat->Sn}{k:Nat}(C:Cok T Δ X k N sc)(hi:N[i]?=some x)(hv:vis sc x=true)(h1:(x == ("__debug__":Str))=false)(h2:(x == ("__classdict__":Str))=false):PE X (.Name x p) (EX i):=by
 have hv':Vis X.env.scope x:=by
  rw[C.hs];unfold vis at hv;simp only[Ti,bQ]at hv;rcases hv with(hv | hv) | hv
  ·exact .inl hv
  ·exact .inr (.inl hv)
  ·exact .inr (.inr hv)
 exact OZ (i:=i) (by rw[C.hN];exact hi) hv' h1 h2
theorem N6{x:SV}{k:Const}{j:Nat}{p:Pos}(h:Pm x k=true):Good X (.Constant k j p) (tt1 (wC x)):=by
 refine .one ?_ .c rfl;unfold Pm at h;split at h
 ·exact i5 _ Of (El λ_ _=>rl_non.mpr rfl)
 ·rw[bQ]at h;subst h;exact i5 _ QY (El λ_ _=>rl_bl.mpr rfl)
 ·have h:=of_decide_eq_true h;subst h;exact i5 _ Oa (El λ_ _=>rl_int.mpr rfl)
 ·have h:=of_decide_eq_true h;subst h;exact i5 _ Og (El λ_ _=>rl_str.mpr rfl)
 ·cases h
theorem Cv:Ek KZ:=λx S P P' i h=>by
 unfold KZ at h ⊢;split at h
 ·exact i _ _ h
 ·exact h.elim
theorem J5{x:Expr}{p:Pos}{a:WE×WT}(ha:Good X x a):Good X (.UnaryOp .USub x p) (tt1 (w1 KZ a.1)):=by
 refine .one (i5 _ (Qo Ox ha.pe) (PU (λas H S x v Q ok r h=>?_) Cv ha.m)) (.one Cv ha.m) rfl;unfold KZ at h;split at h
 ·exact⟨_,rl_int.mp r,h.here ok (rl_int.mpr rfl)⟩
 ·exact h.elim
theorem GW{b:Expr}(h:BC b=true):HL b:=λo i=>by cases b<;>first | rfl | cases h
theorem Kx{x y:Expr}{p:Pos}{a b:WE×WT}(ha:Good X x a)(hb:Good X y b)(h:BC y=true):Good X (.Subscript x y p) (tt1 (w2 sIx a.1 b.1)):=
 .one (i5 _ (R4 (ix_list.or P8) ha.pe hb.pe (GW h)) (BP Pd .ix ha.m hb.m)) (.two .ix ha.m hb.m) rfl
def RZ(K:Sd)(as:List Wm)(H:Hp)(Q:Option Int->Hp->Prop):Option Int->Sto->Prop:=λb S'=>∀ as' H',Go as H as' H'->Ok K as' H' S'->Q b H'
noncomputable def Ky(K:Sd)(w:WO):St->Hp->(Option Int->Hp->Prop)->Prop:=λσ H Q=>∃ as ρ S,Ok K as H S/\EnvOk K as H σ ρ/\w ρ S (RZ K as H Q)
def MonoO(w:WO):Prop:=∀ ρ S (P P':Option Int->Sto->Prop),(∀ x S',P x S'->P' x S')->w ρ S P->w ρ S P'
theorem MonoO.no:MonoO Pj:=λ_ _ _ _ i h=>i _ _ h
theorem MonoO.yes{w:WE}(m:Mono w):MonoO (Kc w):=λ_ _ _ _ i h=>m _ _ _ _ (λx S1 ⟨k,e,q⟩=>⟨k,e,i _ _ q⟩) h
theorem Ra:PO X none (Ky X.K Pj):=λpins s σ H Q I ⟨as,ρ,S,ok,en,h⟩=>MN pins s σ H Q I (h as H (Go.refl _ _) ok)
theorem Pw{x:Expr}{a:WE×WT}(ha:Good X x a):PO X (some x) (Ky X.K (Kc a.1)):=λpins s σ H Q I ⟨as,ρ,S,ok,en,h⟩=>
 MO ha.pe pins s σ H Q I ⟨as,ρ,S,ok,en,ha.m _ _ _ _ (λy S1 ⟨k,e,q⟩ as1 H1 v g1 ok1 rv=>⟨k,by subst e;exact rl_int.mp rv,q as1 H1 g1 ok1⟩) h⟩
end
end Rf
namespace L2
open PySem PySem.Spec PyProof.Rows
section
variable{prog:Wr}{w:Wt}{A:Wx}{R:Result->Wl->Prop}{I:Wm}{fp wr:List Wm}{G:Array YO->Array YO->Prop}{n:Nat}{P:Nat->Wk->Prop}{St:Nat->Wl->Prop}
noncomputable def TupsAt(prog:Wr)(w:Wt)(h:Heap)(n:Nat)(ta:Nat->Wm)(kv:Nat->Key×Wk):Prop:=∀ i,i<n->∃ key,(CP prog w).is (kv i).1 key=true/\h.IsTuple (ta i) #[key,(kv i).2]
theorem TupsAt.keep{h h':Heap}{ta:Nat->Wm}{kv:Nat->Key×Wk}(t:TupsAt prog w h n ta kv)(k:∀ i o,i<n->h.get? (ta i)=some o->h'.get? (ta i)=some o):TupsAt prog w h' n ta kv:=λi hi=>by
 obtain⟨key,hk,o,ho,r⟩:=t i hi;exact⟨key,hk,o,k i o hi ho,r⟩
end
end L2
namespace PySem
structure ZipFar(z TI TO i1 i2:Wm)(f1 f2:List Wm):Prop where
 iz:TI≠z/\TO≠z/\i1≠z/\i2≠z
 im:TI≠TO/\TI≠i1/\TI≠i2/\TO≠i1/\TO≠i2/\i1≠i2
 g1:∀ c∈f1,c≠z/\c≠TO/\c≠i2
 g2:∀ c∈f2,c≠z/\c≠TO/\c≠i1
section
variable{prog:Wr}{w:Wt}{A:Wx}{E:Wk->Wl->Prop}{s:Wl}
theorem EA{z TI TO i1 i2:Wm}{f1 f2:List Wm}{n1 n2 k:Nat}{P1 P2:Nat->Wk->Prop}{S1 S2:Nat->Heap->Prop}{Q:Wk->Wl->Prop}
 (W1:Draws prog w A i1 f1 n1 P1 S1) (W2:Draws prog w A i2 f2 n2 P2 S2) (Fa:ZipFar z TI TO i1 i2 f1 f2) (hz:IsZip s.heap z TI TO .none) (hI:IsPair s.heap TI (.ref i1) (.ref i2)) (hO:∃ a b,IsPair s.heap TO a b)
 (t1:S1 k s.heap) (t2:S2 k s.heap) (l1:k<n1) (l2:k<n2)
 (hQ:∀ x y h' tk,P1 k x->P2 k y->IsZip h' z TI TO (rawInt s.heap.objs.size)->(∃ a b,IsPair h' TO a b)->S1 (k+1) h'->S2 (k+1) h'->IsPair h' s.heap.objs.size x y->h'.objs.size=s.heap.objs.size+1->
   (∀ c o,c≠z->c≠TO->c≠i1->c≠i2->s.heap.get? c=some o->h'.get? c=some o)->Q (.ref s.heap.objs.size) {s with heap:=h',toks:=tk}):
 Wo (Wp prog w) A (Builtin.«zip.__next__» ⟨[.ref z],[]⟩) (λfin s'=>∃ v,fin = .done (.ret v)/\Q v s') E s:=by
 obtain⟨a,b,hO⟩:=hO;obtain⟨z1,z2,z3,z4⟩:=Fa.iz;obtain⟨m1,m2,m3,m4,m5,m6⟩:=Fa.im;have get2:∀{R:Wk->Wl->Prop},R (.bool false) s->Wo (Wp prog w) A (field (.ref z) 2) R E s:=λq=>XD hz rfl (x := .bool false) rfl q;show Wo _ _ (field (.ref z) 2 >>= _) _ _ _;refine Wj (get2 ?_);show Wo _ _ (field (.ref z) 3 >>= _) _ _ _;refine Wj (XD hz rfl (x := .ref TI) rfl (Wj (XE hI rfl ?_)));show Wo _ _ (Builtin.SmallTypes.ownedTupleIsFree (.ref z) >>= _) _ _ _;refine Wj ?_;unfold Builtin.SmallTypes.ownedTupleIsFree;refine Wj (XD hz rfl (x := .none) rfl (Wn ?_));simp only[if_true];refine Wj (XZ (Wj (XD hz rfl (x := .ref TO) rfl (Wj (XT hz (by simp) λha za ka=>Wj ?_)))));replace za:IsZip ha z TI TO .ellipsis:=za;simp only[W7,WH,VU,VZ];refine Wj (Wj (Yb ?_));show Wo _ _ (Builtin.SmallTypes.nextOf (.ref i1) >>= _) _ _ _;have t1a:S1 k ha:=W1.frame _ _ _ t1 λc hc o e=>ka.extBut _ _ (Fa.g1 c hc).1 e;refine Wj (W1.item k {s with heap:=ha} _ _ l1 t1a λx hb tb px t1b kb=>Wn ?_);have Ob:IsPair hb TO a b:=kb.extBut _ _ m4 (ka.extBut _ _ z2 hO);refine Wj (XE Ob rfl (Wj (YY Ob λhc Oc kc=>?_)));replace Oc:IsPair hc TO x b:=Oc;refine Wj (YS (Wn ?_));refine Wj (Wj (Yb ?_));show Wo _ _ (Builtin.SmallTypes.nextOf (.ref i2) >>= _) _ _ _;have t2c:S2 k hc:=W2.frame _ _ _ t2 λc hm o e=>kc.extBut _ _ (Fa.g2 c hm).2.1 (kb.extBut _ _ (Fa.g2 c hm).2.2 (ka.extBut _ _ (Fa.g2 c hm).1 e));refine Wj (W2.item k {s with heap:=hc,toks:=tb} _ _ l2 t2c λy hd td py t2d kd=>Wn ?_);have Od:IsPair hd TO x b:=kd.extBut _ _ m5 Oc;refine Wj (XE Od rfl (Wj (YY Od λhe Oe ke=>?_)));replace Oe:IsPair he TO x y:=Oe;refine Wj (YS (Wn (Wn ?_)));refine Wj (XE Oe rfl (Wj (Xw ?_)));have hsz:he.objs.size=s.heap.objs.size:=by rw[ke.1,kd.1,kc.1,kb.1,ka.1]
 have ze:IsZip he z TI TO .ellipsis:=ke.extBut _ _ z2.symm (kd.extBut _ _ z4.symm (kc.extBut _ _ z2.symm (kb.extBut _ _ z3.symm za)));have kk:∀ c o,c≠z->c≠TO->c≠i1->c≠i2->s.heap.get? c=some o->he.get? c=some o:=λc o c1 c2 c3 c4 e=>ke.extBut _ _ c2 (kd.extBut _ _ c4 (kc.extBut _ _ c2 (kb.extBut _ _ c3 (ka.extBut _ _ c1 e))));have lz:z<he.objs.size:=Sj ze;show Wo _ _ (Builtin.SmallTypes.ownedTupleHandOut (.ref z) (.ref he.objs.size) >>= _) _ _ _;refine Wj ?_;unfold Builtin.SmallTypes.ownedTupleHandOut;have zf:IsZip (he.push {cls := .type "tuple",data := .seq #[x,y]}) z TI TO .ellipsis:=Sh _ ze;refine Wj (XT zf (by simp) λhf zf' kf=>?_);replace zf':IsZip hf z TI TO (rawInt he.objs.size):=zf';refine XT zf' (by simp) λhg zg kg=>?_;replace zg:IsZip hg z TI TO (rawInt he.objs.size):=zg;have up:∀ c o,c≠z->he.get? c=some o->hg.get? c=some o:=λc o c1 e=>kg.extBut _ _ c1 (kf.extBut _ _ c1 (Sh _ e));have Tg:IsPair hg he.objs.size x y:=kg.extBut _ _ (V0 lz) (kf.extBut _ _ (V0 lz) (Sr _ rfl));have sg:hg.objs.size=he.objs.size+1:=by rw[kg.1,kf.1,Tf]
 rw[hsz]at zg Tg sg;refine Wn ⟨_,rfl,?_⟩;show Q (.ref he.objs.size) _;rw[hsz]
 refine hQ x y hg td px py zg ⟨x,y,up _ _ z2 Oe⟩ (W1.frame _ _ _ t1b λc hm o e=>up c o (Fa.g1 c hm).1 (ke.extBut _ _ (Fa.g1 c hm).2.1 (kd.extBut _ _ (Fa.g1 c hm).2.2 (kc.extBut _ _ (Fa.g1 c hm).2.1 e))))
  (W2.frame _ _ _ t2d λc hm o e=>up c o (Fa.g2 c hm).1 (ke.extBut _ _ (Fa.g2 c hm).2.1 e)) Tg sg λc o c1 c2 c3 c4 e=>up c o c1 (kk c o c1 c2 c3 c4 e)
theorem F0{z TI TO i1 i2:Wm}{f1:List Wm}{n1:Nat}{P1:Nat->Wk->Prop}{S1:Nat->Heap->Prop}{Q:Fin->Wl->Prop}
 (W1:Draws prog w A i1 f1 n1 P1 S1) (iz:i1≠z) (g1:∀ c∈f1,c≠z) (hz:IsZip s.heap z TI TO .none) (hI:IsPair s.heap TI (.ref i1) (.ref i2)) (t1:S1 n1 s.heap)
 (hE:∀ h' e,(∀ c o,c≠z->c≠i1->s.heap.get? c=some o->h'.get? c=some o)->(∃ o,h'.get? e=some o/\o.cls = .type "StopIteration")->E (.ref e) {s with heap:=h'}):
 Wo (Wp prog w) A (Builtin.«zip.__next__» ⟨[.ref z],[]⟩) Q E s:=by
 show Wo _ _ (field (.ref z) 2 >>= _) _ _ _;refine Wj (XD hz rfl (x := .bool false) rfl ?_);show Wo _ _ (field (.ref z) 3 >>= _) _ _ _;refine Wj (XD hz rfl (x := .ref TI) rfl (Wj (XE hI rfl ?_)));show Wo _ _ (Builtin.SmallTypes.ownedTupleIsFree (.ref z) >>= _) _ _ _;refine Wj ?_;unfold Builtin.SmallTypes.ownedTupleIsFree;refine Wj (XD hz rfl (x := .none) rfl (Wn ?_));simp only[if_true];refine Wj (XZ (Wj (XD hz rfl (x := .ref TO) rfl (Wj (XT hz (by simp) λha za ka=>Wj ?_)))));replace za:IsZip ha z TI TO .ellipsis:=za;simp only[W7,WH,VU,VZ];refine Wj (Wj (Yb ?_));show Wo _ _ (Builtin.SmallTypes.nextOf (.ref i1) >>= _) _ _ _;refine Wj (W1.done {s with heap:=ha} _ _ (W1.frame _ _ _ t1 λc hc o e=>ka.extBut _ _ (g1 c hc) e) λhb e kb he=>?_);obtain⟨oe,hoe,hce⟩:=he;have zb:IsZip hb z TI TO .ellipsis:=kb _ _ iz.symm za;have ez:e≠z:=λx=>by subst x;rw[zb]at hoe;cases hoe;simp at hce
 exact XT zb (by simp) λhc _ kc=>hE hc e (λc o c1 c3 x=>kc.extBut _ _ c1 (kb _ _ c3 (ka.extBut _ _ c1 x))) ⟨oe,kc.extBut _ _ ez hoe,hce⟩
theorem Bt{z TI TO i1 i2:Wm}{f1 f2:List Wm}{n1 n2 k:Nat}{P1 P2:Nat->Wk->Prop}{S1 S2:Nat->Heap->Prop}{Q:Option Wk->Wl->Prop}
 (W1:Draws prog w A.in1 i1 f1 n1 P1 S1) (W2:Draws prog w A.in1 i2 f2 n2 P2 S2) (Fa:ZipFar z TI TO i1 i2 f1 f2) (hz:IsZip s.heap z TI TO .none) (hI:IsPair s.heap TI (.ref i1) (.ref i2)) (hO:∃ a b,IsPair s.heap TO a b)
 (t1:S1 k s.heap) (t2:S2 k s.heap) (l1:k<n1) (l2:k<n2)
 (hQ:∀ x y h' tk,P1 k x->P2 k y->IsZip h' z TI TO (rawInt s.heap.objs.size)->(∃ a b,IsPair h' TO a b)->S1 (k+1) h'->S2 (k+1) h'->IsPair h' s.heap.objs.size x y->h'.objs.size=s.heap.objs.size+1->
   (∀ c o,c≠z->c≠TO->c≠i1->c≠i2->s.heap.get? c=some o->h'.get? c=some o)->Q (some (.ref s.heap.objs.size)) {s with heap:=h',toks:=tk}):
 Wo (Wp prog w) A (pyNext (.ref z)) Q E s:=by
 have hT:s.TypeIs (.ref z) "zip":=⟨_,hz,rfl⟩
 unfold pyNext
 exact Wj (Xe (X8 (name:=Str.ofString "__next__") hT F.slot_zip_next
  (X5 F.slot_zip_next hT F.entry_zip_next (EA W1 W2 Fa hz hI hO t1 t2 l1 l2 λx y h' tk a1 a2 a3 a4 a5 a6 a7 a8 a9=>Wn (hQ x y h' tk a1 a2 a3 a4 a5 a6 a7 a8 a9)) (F.args_zip_next_1 _))))
theorem CB{z TI TO i1 i2:Wm}{f1:List Wm}{n1:Nat}{P1:Nat->Wk->Prop}{S1:Nat->Heap->Prop}{Q:Option Wk->Wl->Prop}
 (W1:Draws prog w A.in1 i1 f1 n1 P1 S1) (iz:i1≠z) (g1:∀ c∈f1,c≠z) (hz:IsZip s.heap z TI TO .none) (hI:IsPair s.heap TI (.ref i1) (.ref i2)) (t1:S1 n1 s.heap)
 (hQ:∀ h',(∀ c o,c≠z->c≠i1->s.heap.get? c=some o->h'.get? c=some o)->Q none {s with heap:=h'}):Wo (Wp prog w) A (pyNext (.ref z)) Q E s:=by
 have hT:s.TypeIs (.ref z) "zip":=⟨_,hz,rfl⟩
 unfold pyNext
 refine Wj (Xe (X8 (name:=Str.ofString "__next__") hT F.slot_zip_next
  (X5 F.slot_zip_next hT F.entry_zip_next (F0 W1 iz g1 hz hI t1 λh' e hk he=>?_) (F.args_zip_next_1 _))))
 obtain⟨o,ho,hc⟩:=he;exact Wj (YB (T:="StopIteration") (b:=true) ⟨o,ho,hc⟩ Z8 (Wn (hQ _ hk)))
end
abbrev CO(l:Wm):Obj:={cls := .type "tuple_iterator",data := .fields #[.ref l,.int 0 0]}
abbrev zt3(h:Heap)(l1 l2:Wm):Heap:=((h.push (CO l1)).push (CO l2)).push {cls := .type "tuple",data := .seq #[.ref h.objs.size,.ref (h.push (CO l1)).objs.size]}
abbrev zt4(h:Heap)(l1 l2:Wm):Heap:=(zt3 h l1 l2).push {cls := .type "tuple",data := .seq #[.none,.none]}
abbrev zt5(h:Heap)(l1 l2:Wm):Heap:=(zt4 h l1 l2).push {cls := .type "zip",data := .fields #[.none,.bool false,.bool false,.ref ((h.push (CO l1)).push (CO l2)).objs.size,.ref (zt3 h l1 l2).objs.size]}
theorem F1(l1 l2:Wm)(xs ys:Array Wk):
 Meets (Builtin.«zip.__new__» ⟨[.type "zip",.ref l1,.ref l2],[]⟩) (λ_ R s=>s.heap.IsTuple l1 xs/\s.heap.IsTuple l2 ys/\
  R (.ok (.ret (.ref (zt4 s.heap l1 l2).objs.size))) {s with heap:=zt5 s.heap l1 l2}):=
 .of_wp λprog w A R s h=>by
  obtain⟨hp,g,d,tk,os⟩:=s;obtain⟨hl1,hl2,h⟩:=h;have hsub:=sub_zip;have hL1:Vq (Shared.heap ⟨hp,g,d,tk,os⟩) l1 xs:=hl1;have hL2:Vq (Shared.heap ⟨hp.push (CO l1),g,d,tk,os⟩) l2 ys:=let ⟨o,e,r⟩:=hl2;⟨o,Sh _ e,r⟩
  wp_walk using XB hL1,XB hL2
  exact⟨_,rfl,h⟩
section
variable{prog:Wr}{w:Wt}{A:Wx}{E:Wk->Wl->Prop}{s:Wl}
theorem EB{l1 l2:Wm}{xs ys:Array Wk}{Q:Wk->Wl->Prop}(hl1:s.heap.IsTuple l1 xs)(hl2:s.heap.IsTuple l2 ys)
 (h:∀ h',IsZip h' (s.heap.objs.size+4) (s.heap.objs.size+2) (s.heap.objs.size+3) .none->IsPair h' (s.heap.objs.size+2) (.ref s.heap.objs.size) (.ref (s.heap.objs.size+1))->
   (∃ a b,IsPair h' (s.heap.objs.size+3) a b)->h'.IsTupleIter s.heap.objs.size l1 0->h'.IsTupleIter (s.heap.objs.size+1) l2 0->
   (∀ c o,s.heap.get? c=some o->h'.get? c=some o)->Q (.ref (s.heap.objs.size+4)) {s with heap:=h'}):
 Wo (Wp prog w) A (call (.type "zip") [.ref l1,.ref l2]) Q E s:=by
 refine callType_new F.called_zip (by decide) (F.typeCall_zip_2 _ _) (F.newCall_zip_2 _ _) (λobj=>F.args_object_init_3 obj _ _) F.entry_zip_new (F1 l1 l2 xs ys) ⟨hl1,hl2,?_⟩;have y1:(s.heap.push (CO l1)).objs.size=s.heap.objs.size+1:=Tf ..;have y2:((s.heap.push (CO l1)).push (CO l2)).objs.size=s.heap.objs.size+2:=by rw[Tf,y1]
 have y3:(zt3 s.heap l1 l2).objs.size=s.heap.objs.size+3:=by rw[Tf,y2]
 have y4:(zt4 s.heap l1 l2).objs.size=s.heap.objs.size+4:=by rw[Tf,y3]
 have up:∀{h0:Heap} {o1:Obj} {c o},h0.get? c=some o->(h0.push o1).get? c=some o:=λe=>Sh _ e;have q5:(zt5 s.heap l1 l2).get? (zt4 s.heap l1 l2).objs.size=some _:=Sr _ rfl;have q4:(zt5 s.heap l1 l2).get? (zt3 s.heap l1 l2).objs.size=some _:=up (Sr _ rfl);have q3:(zt5 s.heap l1 l2).get? ((s.heap.push (CO l1)).push (CO l2)).objs.size=some _:=up (up (Sr _ rfl));have q2:(zt5 s.heap l1 l2).get? (s.heap.push (CO l1)).objs.size=some _:=up (up (up (Sr _ rfl)));have q1:(zt5 s.heap l1 l2).get? s.heap.objs.size=some _:=up (up (up (up (Sr _ rfl))));show _/\_;rw[y2,y3,y4]at q5;rw[y1,y2]at q3;rw[y3]at q4;rw[y1]at q2;rw[y4];exact⟨⟨_,q5,rfl⟩,h _ q5 q3 ⟨_,_,q4⟩ ⟨_,q1,rfl,rfl⟩ ⟨_,q2,rfl,rfl⟩ λc o x=>up (up (up (up (up x))))⟩
end
end PySem
namespace L2
open PySem PySem.Spec PyProof.Rows
def Px(K:Sd)(a b:Wm):It:=
 ⟨λi H=>∃ xs ys x y,SqT K H a xs/\SqT K H b ys/\xs[i]?=some x/\ys[i]?=some y,
  λi H x H'=>∃ p v u,H p=none/\x = .ref p/\(∀ xs,SqT K H a xs->xs[i]?=some v)/\(∀ ys,SqT K H b ys->ys[i]?=some u)/\H'=upd H p (.tup [v,u]),
  λi H=>∃ xs,SqT K H a xs/\xs.length=i⟩
theorem Hi{z TI TO i1 i2 l1 l2:Wm}(D:ZipApart z TI TO i1 i2 l1 l2):ZipFar z TI TO i1 i2 [i1,l1] [i2,l2] where
 iz:=⟨D.TIz,D.TOz,D.i1z,D.i2z⟩
 im:=⟨D.TITO,D.TIi1,D.TIi2,D.TOi1,D.TOi2,D.i12⟩
 g1:=λc hc=>by
  rcases T7.mp hc with rfl | hc
  ·exact⟨D.i1z,D.TOi1.symm,D.i12⟩
  ·rw[Sv.mp hc];exact⟨D.l1z,D.l1TO,D.l1i2⟩
 g2:=λc hc=>by
  rcases T7.mp hc with rfl | hc
  ·exact⟨D.i2z,D.TOi2.symm,D.i12.symm⟩
  ·rw[Sv.mp hc];exact⟨D.l2z,D.l2TO,D.l2i1⟩
theorem J6{P:Wr}{w:Wt}{K:Sd}{elts:List Expr}{kx:Nat}{tp:Pos}(z TI TO i1 i2 l1 l2:Wm)(D:ZipApart z TI TO i1 i2 l1 l2):Turn P w K (.Tuple elts kx tp) (Px K l1 l2) [z,TI,TO,i1,i2] z
 (λi h=>IsZip h z TI TO .none/\IsPair h TI (.ref i1) (.ref i2)/\(∃ a b,IsPair h TO a b)/\h.IsTupleIter i1 l1 i/\h.IsTupleIter i2 l2 i) where
 mem:=by simp
 obj:=λi h st b hb=>by
  obtain⟨hz,hTI,⟨a',b',hTO⟩,⟨o1,e1,c1,d1⟩,⟨o2,e2,c2,d2⟩⟩:=st;simp only[T7,UR,or_false]at hb;rcases hb with rfl | rfl | rfl | rfl | rfl
  ·exact⟨_,hz,λv q=>by cases q⟩
  ·exact⟨_,hTI,λv q=>by cases q⟩
  ·exact⟨_,hTO,λv q=>by cases q⟩
  ·exact⟨o1,e1,λv q=>by rw[d1]at q;cases q⟩
  ·exact⟨o2,e2,λv q=>by rw[d2]at q;cases q⟩
 keep:=λi h h' st k=>by
  obtain⟨hz,hTI,⟨a',b',hTO⟩,h1,h2⟩:=st;exact⟨k z (by simp) _ hz,k TI (by simp) _ hTI,⟨a',b',k TO (by simp) _ hTO⟩,h1.at λo q=>k i1 (by simp) o q,h2.at λo q=>k i2 (by simp) o q⟩
 item:=by
  intro X hP hw hK hc i pins s σ H E I hf st hg;subst hP hw hK;obtain⟨xs,ys,x,y,hq1,hq2,hx,hy⟩:=hg;obtain⟨its1,rv1,p1,hz1⟩:=I.tuple hq1;obtain⟨its2,rv2,p2,hz2⟩:=I.tuple hq2;obtain⟨u1,hu1,ru1⟩:=rv1.get hx;obtain⟨u2,hu2,ru2⟩:=rv2.get hy;obtain⟨hz,hTI,hTO,h1,h2⟩:=st;have hs1:i<its1.toArray.size:=by simpa using (gM hu1).1
  have hs2:i<its2.toArray.size:=by simpa using (gM hu2).1
  refine Bt (p3 (prog:=X.prog) (w:=X.w) (A:=X.A.in1) (show X.A.in1.handled=none from I.ok.hd hc) i1 l1 D.l1i1 its1.toArray) (p3 (prog:=X.prog) (w:=X.w) (A:=X.A.in1) (show X.A.in1.handled=none from I.ok.hd hc) i2 l2 D.l2i2 its2.toArray) (Hi D) hz hTI hTO ⟨h1,p1⟩ ⟨h2,p2⟩ hs1 hs2 λv1 v2 h' tk e1 e2 b1 b2 b3 b4 b5 b6 hk=>?_;have e1:v1=u1:=by have:=e1.symm.trans (show its1.toArray[i]?=some u1 by simpa using hu1);cases this;rfl
  have e2:v2=u2:=by have:=e2.symm.trans (show its2.toArray[i]?=some u2 by simpa using hu2);cases this;rfl
  subst e1 e2;refine⟨_,rfl,?_⟩
  have I1:Inv X pins σ (upd H s.heap.objs.size (.tup [x,y])) {s with heap:=h',toks:=tk}:=
   I.turnLay (t':=tk) (ch:=[z,TI,TO,i1,i2]) (λb o hb q=>hk b o (λe=>hb (by simp[e])) (λe=>hb (by simp[e])) (λe=>hb (by simp[e])) (λe=>hb (by simp[e])) q) hf ⟨E1,[v1,v2],.cons ru1 (.cons ru2 .nil),⟨_,b5,rfl,_,rfl⟩⟩
  have lt1:i1<s.heap.objs.size:=by obtain⟨_,q,_⟩:=h1;exact Sj q
  have lt2:i2<s.heap.objs.size:=by obtain⟨_,q,_⟩:=h2;exact Sj q
  obtain⟨a',b',hTO⟩:=hTO
  have hfp1:∀ b∈[z,TI,TO,i1,i2],FpOk X pins (upd H s.heap.objs.size (.tup [x,y])) b:=λb hb=>by
   obtain⟨f0,f1⟩:=hf b hb
   have hbl:b≠s.heap.objs.size:=by
    simp only[T7,UR,or_false]at hb;rcases hb with rfl | rfl | rfl | rfl | rfl
    ·exact Sx (Sj hz)
    ·exact Sx (Sj hTI)
    ·exact Sx (Sj hTO)
    ·exact Sx lt1
    ·exact Sx lt2
   exact⟨by rw[f6 hbl];exact f0,f1⟩
  refine Xy b1 λh2' hz' hs'=>?_
  have I2:Inv X pins σ (upd H s.heap.objs.size (.tup [x,y])) {s with heap:=h2',toks:=tk}:=
   Inv.turnedL (s:={s with heap:=h',toks:=tk}) (t':=tk) (ch:=[z,TI,TO,i1,i2]) I1 (λb o hb q=>(hs'.2 b (λe=>hb (by simp[e]))).trans q) hfp1
  obtain⟨a2,b2',b2⟩:=b2
  refine⟨.ref s.heap.objs.size,_,I2,rfl,⟨_,x,y,I.fresh,rfl,λzs hy'=>by rw[I.tuple_inj hy' hq1];exact hx,λzs hy'=>by rw[I.tuple_inj hy' hq2];exact hy,rfl⟩,
   ⟨hz',hs'.extBut _ _ D.TIz (hk _ _ D.TIz D.TITO D.TIi1 D.TIi2 hTI),⟨_,_,hs'.extBut _ _ D.TOz b2⟩,b3.1.at λo q=>hs'.extBut _ _ D.i1z q,b4.1.at λo q=>hs'.extBut _ _ D.i2z q⟩,λb hb=>(hfp1 b hb).1⟩
 done:=by
   intro X hP hw hK hc i pins s σ H E I hf st hg;subst hP hw hK;obtain⟨xs,hq1,hx⟩:=hg;obtain⟨its1,rv1,p1,hz1⟩:=I.tuple hq1;obtain⟨hz,hTI,hTO,h1,h2⟩:=st;have hl1:=rv1.length;have hsz:i=its1.toArray.size:=by rw[<-hx,hl1];simp
   subst hsz;refine CB (p3 (prog:=X.prog) (w:=X.w) (A:=X.A.in1) (show X.A.in1.handled=none from I.ok.hd hc) i1 l1 D.l1i1 its1.toArray) D.i1z (λc hc=>((Hi D).g1 c hc).1) hz hTI ⟨h1,p1⟩ λh' hk=>⟨rfl,I.turnedL (t':=s.toks) (ch:=[z,TI,TO,i1,i2]) (λb o hb q=>hk b o (λe=>hb (by simp[e])) (λe=>hb (by simp[e])) q) hf⟩
 self:=λ_ _ _ _ _ st h=>Xl st.1 h
section
variable{X:Cx}
def Rb(K:Sd)(ta:TA):TI:=λσ H R=>ta σ H λvs H1=>∃ a b,vs=[.ref a,.ref b]/\(∃ xs,SqT K H1 a xs)/\(∃ ys,SqT K H1 b ys)/\R (Px K a b) H1
theorem N7{a b:Expr}{ta:TA}{p pos:Pos}{elts:List Expr}{kx:Nat}{tp:Pos}(hg:Gl X "zip")(hm:X.mg "zip"=none)(ha:PA X [a,b] ta)(hs:Wv [a,b] X.env=[(false,eval a X.env),(false,eval b X.env)]:=by rfl)
 (hs2:Wv [b] X.env=[(false,eval b X.env)]:=by rfl):PI X (.Tuple elts kx tp) (.Call (.Name "zip" p) [a,b] [] pos) (Rb X.K ta):=by
 intro pins s σ H R I h;refine Call_ (AL I hg hm Ee (PyProof.Rows.callWith_type1 (thn (ha pos pins s σ H _ I h) λus s1 ⟨vs,H1,I1,r1,q1⟩=>?_) (by rw[hs,hs2]) (by rw[hs2];rfl)));obtain⟨l1,l2,e,⟨xs,hq1⟩,⟨ys,hq2⟩,q⟩:=q1;subst e;obtain⟨u1,u2,rfl,r1',r2'⟩:=Vals.two r1;cases r1';cases r2';obtain⟨its1,rv1,p1,hz1⟩:=I1.tuple hq1;obtain⟨its2,rv2,p2,hz2⟩:=I1.tuple hq2;have hl1:@LT.lt Nat _ l1 s1.heap.objs.size:=by obtain⟨o,e,_⟩:=p1;exact Sj e
 have hl2:@LT.lt Nat _ l2 s1.heap.objs.size:=by obtain⟨o,e,_⟩:=p2;exact Sj e
 refine EB p1 p2 λh' c1 c2 c3 c4 c5 hk=>?_;refine Xl c1 ?_;have I2:Inv X pins σ H1 {s1 with heap:=h'}:=I1.kept (t':=s1.toks) hk;refine⟨s1.heap.objs.size+4,[s1.heap.objs.size+4,s1.heap.objs.size+2,s1.heap.objs.size+3,s1.heap.objs.size,s1.heap.objs.size+1],_,_,H1,rfl,I2,J6 _ _ _ _ _ l1 l2 ?_,⟨c1,c2,c3,c4,c5⟩,λb hb=>?_,q⟩
 ·constructor<;>(show @Ne Nat _ _)<;>omega
 ·have hb2:@LE.le Nat _ s1.heap.objs.size b:=by
   simp only[T7,UR,or_false]at hb;rcases hb with rfl | rfl | rfl | rfl | rfl
   ·exact To _ _
   ·exact To _ _
   ·exact To _ _
   ·exact Sw _
   ·exact To _ _
  exact I1.fpOk hb2 (I1.hok.fresh hb2)
end
abbrev ZipL(h:Heap)(z TI TO:Wm)(T:Nat)(b:Bool):Prop:=h.get? z=some {cls := .type "zip",dict:=none,data := .fields #[rawInt T,.bool b,.bool false,.ref TI,.ref TO],slots:=#[]}
structure StZ(z TI TO i1 i2 l1 l2 d:Wm)(xs ys:Array Wk)(i:Nat)(h:Heap):Prop where
 zip:(i=0/\IsZip h z TI TO .none/\∃ a b,IsPair h TO a b)\/∃(T:Nat) (b:Bool) (o:Obj),ZipL h z TI TO T b/\h.get? T=some o/\T≠z/\T≠i1/\T≠i2/\T≠d
 ti:IsPair h TI (.ref i1) (.ref i2)
 w1:h.IsListIter i1 l1 i/\h.IsList l1 xs
 w2:h.IsListIter i2 l2 i/\h.IsList l2 ys
section
variable{prog:Wr}{w:Wt}{A:Wx}{E:Wk->Wl->Prop}{s:Wl}{z TI TO i1 i2 l1 l2 d:Wm}{xs ys:Array Wk}{i:Nat}
theorem StZ.keep{h h':Heap}(st:StZ z TI TO i1 i2 l1 l2 d xs ys i h)(hd:d≠z/\d≠TO/\d≠i1/\d≠i2/\d≠TI/\d≠l1/\d≠l2)(k:∀ c o,c≠d->h.get? c=some o->h'.get? c=some o):StZ z TI TO i1 i2 l1 l2 d xs ys i h':=by
 obtain⟨a1,a2,a3,a4,a5,a6,a7⟩:=hd;refine⟨?_,k _ _ a5.symm st.ti,⟨st.w1.1.at λo e=>k _ o a3.symm e,st.w1.2.at λo e=>k _ o a6.symm e⟩,⟨st.w2.1.at λo e=>k _ o a4.symm e,st.w2.2.at λo e=>k _ o a7.symm e⟩⟩;rcases st.zip with⟨e,hz,a,b,hO⟩ | ⟨T,b,o,hz,ho,t1,t2,t3,t4⟩
 ·exact .inl ⟨e,k _ _ a1.symm hz,a,b,k _ _ a2.symm hO⟩
 ·exact .inr ⟨T,b,o,k _ _ a1.symm hz,k _ _ t4 ho,t1,t2,t3,t4⟩
end
section
variable{X:Cx}
def J7(K:Sd)(te:TE):TE:=λσ H Q=>te σ H λx H1=>∃(p:Wm) (ns:List Int),x = .ref p/\(SqL K H1 p (ns.map V.int)\/SqT K H1 p (ns.map V.int))/\ns.length<64/\∀ l,H1 l=none->Q (.ref l) (upd H1 l (.lst ((srt (AO ns)).map V.int)))
theorem F2{e:Expr}{te:TE}{p1 p2 pos1 pos2:Pos}(hc:X.calm=true)(hl:Gl X "sorted")(hml:X.mg "sorted"=none)(hs:Gl X "set")(hms:X.mg "set"=none)(he:PE X e te)
 (h1:Wv [e] X.env=(false,eval e X.env)::Wv [] X.env:=by rfl)
 (h2:Wv [.Call (.Name "set" p2) [e] [] pos2] X.env=(false,eval (.Call (.Name "set" p2) [e] [] pos2) X.env)::Wv [] X.env:=by rfl)
 (h3:(backTo pos1 (Wv [] X.env)).any (·.1)=false:=by rfl) (h4:(backTo pos2 (Wv [] X.env)).any (·.1)=false:=by rfl):
 PE X (.Call (.Name "sorted" p1) [.Call (.Name "set" p2) [e] [] pos2] [] pos1) (J7 X.K te):=by
 intro pins s σ H Q I h;refine XM (AL I hl hml Da ?_ (by decide) (by decide));refine PyProof.Rows.callWith_builtin1 ?_ h2 h3;rw[h2];show Wo _ _ (spliced ((false,eval (.Call (.Name "set" p2) [e] [] pos2) X.env)::backTo pos1 (Wv [] X.env))) _ _ s;refine Calls.spliced_cons ?_;refine XM (AL I hs hms b_set ?_ (by decide) (by decide));refine PyProof.Rows.callWith_type1 ?_ h1 h4;rw[h1];show Wo _ _ (spliced ((false,eval e X.env)::backTo pos2 (Wv [] X.env))) _ _ s;refine Calls.spliced_cons (thn (he pins s σ H _ I h) λu s1 ⟨x,H1,I1,rx,p,ns,ex,hq,hb,q1⟩=>Calls.spliced_nil ?_);subst ex;cases rx;cases hq
 case' inl hq=>
  obtain⟨its,r',pl,hz⟩:=I1.list hq;have hlen:=r'.length;rw[Se]at hlen;refine Ny (items:=its.toArray) (ns:=ns) (I1.ok.hd hc) pl.isList (by simpa using t9 r') (by simp only[Sq];show its.length+1<4096;omega) λh' tk hX hk=>?_
 case' inr hq=>
  obtain⟨its,r',pl,hz⟩:=I1.tuple hq;have hlen:=r'.length;rw[Se]at hlen;refine KK (items:=its.toArray) (ns:=ns) (I1.ok.hd hc) pl (by simpa using t9 r') (by simp only[Sq];show its.length+1<4096;omega) λh' tk hX hk=>?_
 all_goals
  refine Calls.spliced_nil ?_;have k1:∀ b o,s1.heap.get? b=some o->h'.get? b=some o:=λb o e=>hk b o (Sj e) e;have I2:Inv X pins σ H1 {s1 with heap:=h',toks:=tk}:=I1.kept k1
  have hX:SetX X.prog X.w h' s1.heap.objs.size (AO ns):=by
   have e:its.toArray.size=ns.length:=by rw[Sq,hlen]
   rw[e]at hX;exact hX
  refine MV (s:={s1 with heap:=h',toks:=tk}) (I1.ok.hd hc) hX (Uc (Xv _ _) hb) λh3 tk3 d l out e k3 hz3 hl3 ho3=>?_;refine⟨.ref l,_,(I2.dr d).laid (h':=h3) (a:=l) (o := .lst ((srt (AO ns)).map V.int)) (t':=tk3) k3 hz3 (show ObjOk X.prog X.w _ _ _ (.lst ((srt (AO ns)).map V.int)) from ⟨?_,out.toList,e,C4 ho3,by simpa using hl3⟩),rfl,q1 l ((I2.dr d).hok.fresh hz3)⟩;rw[Se,(AN _).length_eq];exact U7 (IV (Th (Xv _ _) (by omega)))
end
theorem KV.at{κ:Type}{ks:List (κ×V)}{vs:List (κ×Wk)}(r:KV ks vs):∀{i:Nat} {p:κ×V},ks[i]?=some p->∃ v,vs[i]?=some (p.1,v)/\RelV p.2 v:=by
 intro i
 induction r generalizing i with
 | nil=>exact λh=>by simp at h
 | @cons a b _ _ h _ ih=>
   intro p hp;cases i with
   | zero=>cases hp;exact⟨b.2,by rw[h.1];rfl,h.2⟩
   | succ i=>exact ih hp
open PySem.AutoSeq1 (wpAny_loadPart')
open PySem.MeetsSeq PySem.MeetsSeq2 PySem.MeetsSeq3
def Kz(h:Heap)(v:Wk)(a:Int):Prop:=∃ p its t,v = .ref p/\h.IsList p its/\its[0]?=some (.int a t)
section
variable{prog:Wr}{w:Wt}{A:Wx}{E:Wk->Wl->Prop}{s:Wl}
theorem L0(l b:Wm)(items items2:Array Wk)(n n2:Nat)(dd dd2:Option Wm)(sl sl2:Array (Option Wk)){x y:Int}{t u:Tok}(i1:items[0]?=some (.int x t))(i2:items2[0]?=some (.int y u))(hne:x≠y):
 Meets (Builtin.«list.__eq__.loop» ⟨[.ref l,.ref b,rawInt 0,rawInt 0],[]⟩)
  (λA R s=>s.heap.get? l=some {cls := .type "list",dict:=dd,data := .seq items n,slots:=sl}/\s.heap.get? b=some {cls := .type "list",dict:=dd2,data := .seq items2 n2,slots:=sl2}/\
    R (.ok (.ret (.bool (decide (x<y))))) s):=by
 intro prog w A R s h;obtain⟨hp,g,d,tk,os⟩:=s;obtain⟨hl,hb,h⟩:=h
 wp_walk using wpAny_loadPart' hl,wpAny_loadPart' hb
 have hi1:items[Us 0]?=some (.int x t):=i1;have hi2:items2[Us 0]?=some (.int y u):=i2;rw[hi1,hi2];refine Wj (SeqAt.EqAt.int_int x t y u _ _ _ _ ?_);rw[show(x == y)=false from beq_eq_false_iff_ne.mpr hne]
 wp_walk using wpAny_loadPart' hl,wpAny_loadPart' hb
 rw[hi1,hi2];refine Wj (rcLt_int ?_)
 wp_walk
 exact h
theorem L1(l b:Wm)(items items2:Array Wk)(n n2:Nat)(dd dd2:Option Wm)(sl sl2:Array (Option Wk)){x y:Int}{t u:Tok}(i1:items[0]?=some (.int x t))(i2:items2[0]?=some (.int y u))(hne:x≠y):
 Meets (Builtin.«list.__lt__» ⟨[.ref l,.ref b],[]⟩)
  (λA R s=>s.heap.get? l=some {cls := .type "list",dict:=dd,data := .seq items n,slots:=sl}/\s.heap.get? b=some {cls := .type "list",dict:=dd2,data := .seq items2 n2,slots:=sl2}/\
    R (.ok (.ret (.bool (decide (x<y))))) s):=by
 intro prog w A R s h;obtain⟨hp,g,d,tk,os⟩:=s;obtain⟨hl,hb,h⟩:=h;have f3:=AutoSeq1.sub_list_list
 wp_walk using wpAny_loadPart' hl,wpAny_loadPart' hb
 exact⟨Xd plain_eq_loop _,XJ entry_eq_loop (by
  rw[Around.under_plainId plain_eq_loop _];exact L0 l b items items2 n n2 dd dd2 sl sl2 i1 i2 hne prog w A R _ ⟨hl,hb,h⟩)⟩
theorem F3{v u:Wk}{a b:Int}{Q:Bool->Wl->Prop}(hu:A.units<cLine)(hx:Kz s.heap v a)(hy:Kz s.heap u b)(hne:a≠b)(h:Q (decide (a<b)) s):Wo (Wp prog w) A (oneLt' true v u) Q E s:=by
 obtain⟨p,its,t,rfl,hl,i1⟩:=hx;obtain⟨p2,its2,t2,rfl,hl2,i2⟩:=hy;obtain⟨⟨cls,dd,data,sl⟩,ho,hc,n,hd⟩:=id hl;obtain⟨⟨cls2,dd2,data2,sl2⟩,ho2,hc2,n2,hd2⟩:=id hl2;simp only at hc hd hc2 hd2;subst hc hd hc2 hd2;rw[oneLt'_eq];simp only[if_true];refine Wj (wpAny_cRoomFor hu ?_);refine Wj (wpAny_callSpecialIfBound?_slot ⟨_,ho,rfl⟩ F.slot_list_lt (Xh F.slot_list_lt ⟨_,ho,rfl⟩ F.entry_list_lt (F.args_list_lt_2 _ _) (L1 p p2 its its2 n n2 dd dd2 sl sl2 i1 i2 hne) ⟨ho,ho2,?_⟩));exact X4 h
end
theorem KT.at{H:Hp}:∀{kvs:List (List Key×V)} {xs:List (List Key×Wm×Wk)},KT H kvs xs->∀{i:Nat} {p:List Key×V},kvs[i]?=some p->∃ q,xs[i]?=some q/\H q.2.1=some (.tup (p.1.map kV))
 | _,_,.nil,_,_,h=>by simp at h
 | _,_,.cons a t,0,p,h=>by simp at h;subst h;exact⟨_,rfl,a.2.1⟩
 | _,_,.cons a t,i+1,p,h=>by
   obtain⟨q,e,z⟩:=KT.at t (i:=i) (p:=p) (by simpa using h);exact⟨q,by simpa using e,z⟩
end L2
namespace PySem
def DEn(h:Heap)(d:Wm)(es:Array ZH)(ep:Nat):Prop:=∃ o,h.get? d=some o/\o.ExactDict/\o.data = .dict es ep
theorem DEn.keep{h h':Heap}{d:Wm}{es:Array ZH}{ep:Nat}(x:DEn h d es ep)(k:∀ o,h.get? d=some o->h'.get? d=some o):DEn h' d es ep:=let ⟨o,e,r⟩:=x;⟨o,k o e,r⟩
theorem DEn.lt{h:Heap}{d:Wm}{es:Array ZH}{ep:Nat}(x:DEn h d es ep):d<h.objs.size:=let ⟨_,e,_⟩:=x;Sj e
end PySem
namespace Rf
open PySem L2
structure GoodA(X:Cx)(rs:List Expr)(w:WA):Prop where
 pa:PA X rs (liftA X.K w)
 m:MonoA w
section
variable{X:Cx}
theorem J8:GoodA X [] Dc:=⟨MZ,.nil⟩
theorem GX{x:Expr}{xs:List Expr}{a:WE×WT}{b:WA}(ha:Good X x a)(hb:GoodA X xs b)(hs:f9 x=true):GoodA X (x::xs) (Co a.1 b):=⟨KI ha.m hb.m ha.pe hb.pa (g9 hs),.cons ha.m hb.m⟩
theorem J9{rs:List Expr}{j:Nat}{p:Pos}{w:WA}(h:GoodA X rs w):Good X (.Tuple rs j p) (tt1 (wn Mb w)) := .one (i5 _ (P5 h.pa) (Md h.m)) (.n .tup h.m) rfl
theorem JA{rs:List Expr}{p:Pos}{w:WA}(h:GoodA X rs w):Good X (.List rs p) (tt1 (wn Mc w)) := .one (i5 _ (P6 h.pa) (Mf h.m)) (.n .lst h.m) rfl
theorem L5{K:Sd}{s:Sn}{w:WA}(ms:MonoN s)(m:MonoA w):∀ σ H Q,lift K (wn s w) σ H Q->Nv (spS K s) [] E0 (liftA K w) σ H Q:=by
 rintro σ H Q ⟨as,ρ,S,ok,en,h⟩;refine⟨as,ρ,S,ok,en,m _ _ _ _ (λxs S1 hs as1 H1 vs g1 ok1 rv=>?_) h⟩;show spS K s (vs++[]) H1 Q E0;rw[Tx];exact⟨as1,S1,xs,ok1,rv,ms _ _ _ _ (λz S3 hz=>hz.mono g1) hs⟩
theorem GY{T:List Str}{Δ:Nat->Sn}{k f:Nat}{N:List Str}{sc:Ww}{x:Str}{y:Expr}{ys:List Expr}{p q:Pos}{w:WA}(C:Cok T Δ X k N sc)(hf:f+1<T.length/\T[f]?=some x)(hg:glo sc x=true)(h:GoodA X (y::ys) w)(hy:f9 y=true)(hs:ys.all f9=true):Good X (.Call (.Name x p) (y::ys) [] q) (tt1 (wn (Δ f) w)):=by
 obtain⟨d,ps,hC,hr⟩:=C.call f x hf.1 hf.2;obtain⟨fa,fd,F,hm,hk,hb⟩:=hC.ex;unfold glo at hg;simp only[Sf,bQ,TQ]at hg;have gl:Gl X x:=by show X.env.scope.names.lookup x=_;rw[C.hs];exact hg.1.1
 exact .one (i5 _ (ML F hr gl hm hk hb .nil R9 h.pa hg.2 (g9 hy) (BB hs)) (L5 (C.mono f) h.m)) (.n (C.mono f) h.m) rfl
theorem Rc:Wu "abs"=some (.builtin "abs"):=by decide +kernel
theorem Re:Wu "min"=some (.builtin "min"):=by decide +kernel
theorem Rg:Wu "max"=some (.builtin "max"):=by decide +kernel
theorem Rh:Wu "len"=some (.builtin "len"):=by decide +kernel
theorem Ri:Wu "all"=some (.builtin "all"):=by decide +kernel
theorem OG:Wu "int"=some (.type "int"):=by decide +kernel
theorem EC:Wu "list"=some (.type "list"):=by decide +kernel
theorem Rj:Wu "isinstance"=some (.builtin "isinstance"):=by decide +kernel
theorem OH:Wu "str"=some (.type "str"):=by decide +kernel
theorem Py:Wu "bool"=some (.type "bool"):=by decide +kernel
theorem Hj:Wu "range"=some (.type "range"):=by decide +kernel
theorem b_set:Wu "set"=some (.type "set"):=by decide +kernel
theorem Hk:Wu "tuple"=some (.type "tuple"):=by decide +kernel
theorem Pz:Wu "repr"=some (.builtin "repr"):=by decide +kernel
theorem L6{T:List Str}{Δ:Nat->Sn}{k:Nat}{N:List Str}{sc:Ww}{b:BI}{y:Expr}{ys:List Expr}{p q:Pos}{w:WA}(C:Cok T Δ X k N sc)(hg:glo sc b.name=true)(h:GoodA X (y::ys) w)(hy:f9 y=true)(hs:ys.all f9=true):Good X (.Call (.Name b.name p) (y::ys) [] q) (tt1 (wn (sBi b) w)):=by
 unfold glo at hg;simp only[Sf,bQ,TQ]at hg;have gl:Gl X b.name:=by show X.env.scope.names.lookup b.name=_;rw[C.hs];exact hg.1.1
 have hm:=C.bl b;have e1:=g9 (es:=ys) (env:=X.env) hy;have e2:=BB (env:=X.env) (pos:=q) hs;refine .one (i5 (t:=tCB (rBi X.K b) (liftA X.K w)) _ ?_ (RO Pf .bi h.m)) (.n .bi h.m) rfl;cases b with
 | len=>exact v0 Dy gl hm Rh h.pa (by decide) hg.2 e1 e2
 | abs=>exact v0 Jm gl hm Rc h.pa (by decide) hg.2 e1 e2
 | min=>exact v0 (IM C.calm) gl hm Re h.pa (by decide) hg.2 e1 e2
 | max=>exact v0 (IL C.calm) gl hm Rg h.pa (by decide) hg.2 e1 e2
 | int=>exact t8 IN gl hm OG h.pa (by decide) hg.2 e1 e2
 | list=>exact t8 Dz gl hm EC h.pa (by decide) hg.2 e1 e2
 | tuple=>exact t8 DK gl hm Hk h.pa (by decide) hg.2 e1 e2
 | all=>exact v0 (IZ C.calm) gl hm Ri h.pa (by decide) hg.2 e1 e2
 | any=>exact v0 (Ik C.calm) gl hm RL h.pa (by decide) hg.2 e1 e2
 | sorted=>exact v0 Eg gl hm Jy h.pa (by decide) hg.2 e1 e2
 | isi=>exact v0 (call_isi1.or IY) gl hm Rj h.pa (by decide) hg.2 e1 e2
 | repr=>exact v0 (λ_ _ _ _ _ _ _ _ _ h=>False.elim h) gl hm Pz h.pa (by decide) hg.2 e1 e2
 | str=>exact t8 (λ_ _ _ _ _ _ _ _ _ h=>False.elim h) gl hm OH h.pa (by decide) hg.2 e1 e2
theorem Mono.mt{m:MT}{a:WE}{b:WA}(ma:Mono a)(mb:MonoA b):Mono (wMt m a b):=λρ S P P' i h=>ma _ _ _ _ (λx S1 ⟨e,h⟩=>⟨e,mb _ _ _ _ (λxs S2 h=>E4 _ _ _ _ i h) h⟩) h
theorem p9{ro:Expr}{nm:Str}{env:Env}{wh:Sem Wk}(h:CV ro=true):Y3 ro nm env wh=wh:=by
 unfold Y3;split
 ·cases h
 ·rfl
theorem L7{K:Sd}{as:List Wm}{H:Hp}{S:Sto}{k:Nat}{v:V}{xs:List SV}(ok:Ok K as H S)(r:Rl K as H v (.loc k))(hs:S[k]?=some (.lst xs)):tyV K "list" v H:=by
 obtain⟨a,vs,rfl,_,h1,_⟩:=n4 ok r hs;exact .inl ⟨rfl,_,SqL.of h1⟩
theorem Q0{K:Sd}{m:MT}{a:WE}{b:WA}(ma:Mono a)(mb:MonoA b):∀ σ H Q,lift K (wMt m a b) σ H Q->tBM K "list" (rMt m) (lift K a) (liftA K b) σ H Q:=by
 rintro σ H Q ⟨as,ρ,S,ok,en,h⟩;refine⟨as,ρ,S,ok,en,ma _ _ _ _ (λx S1 ⟨⟨j,zs,e,hz⟩,h⟩ as1 H1 v g1 ok1 rv=>?_) h⟩;subst e;refine⟨L7 ok1 rv hz,as1,ρ,S1,ok1,en.mono g1.pre (g1.ku ok),mb _ _ _ _ (λxs S2 h as2 H2 vs g2 ok2 rs=>?_) h⟩;exact KY ok2 (Rl.mono g2.pre (g2.ku ok1) _ v rv) rs (E4 _ _ _ _ (λz S3 hz=>hz.mono (g1.trans g2)) h)
theorem N8{K:Sd}{m:MT}{a:WE}(ma:Mono a):∀ σ H Q,lift K (wMt m a Dc) σ H Q->P9 K "list" (rMt m) (lift K a) σ H Q:=by
 rintro σ H Q ⟨as,ρ,S,ok,en,h⟩;refine⟨as,ρ,S,ok,en,ma _ _ _ _ (λx S1 ⟨⟨j,zs,e,hz⟩,h⟩ as1 H1 v g1 ok1 rv=>?_) h⟩;subst e;exact⟨L7 ok1 rv hz,KY ok1 rv .nil (E4 _ _ _ _ (λz S3 hz=>hz.mono g1) h)⟩
theorem L8{m:MT}{ro y:Expr}{ys:List Expr}{ap cp:Pos}{a:WE×WT}{b:WA}(ha:Good X ro a)(hb:GoodA X (y::ys) b)(hn:CV ro=true)(hl:(ap.endLine == cp.line)=true)(hk:(y::ys).length<29)(hy:f9 y=true)(hs:ys.all f9=true):Good X (.Call (.Attribute ro m.name ap) (y::ys) [] cp) (tt1 (wMt m a.1 b)):=by
 have e1:=g9 (es:=ys) (env:=X.env) hy;have e2:=BB (env:=X.env) (pos:=cp) hs
 have e3:((backTo cp (Wv (y::ys) X.env)).all (λx=>!x.1)&&(backToKw cp (keywordEach [] X.env)).all (λx=>x.1.isSome)
  && decide ((y::ys).length+([]:List Keyword).length+(if ([]:List Keyword).isEmpty then 0 else 1)<30))=true:=by
  rw[De (by rw[U6,hy,hs];rfl)];simp only[WZ,Sf,dQ];exact⟨rfl,by show(y::ys).length+0+0<30;omega⟩
 refine .one (i5 (t:=tBM X.K "list" (rMt m) (lift X.K a.1) (liftA X.K b)) _ ?_ (Q0 ha.m hb.m)) (.mt ha.m hb.m) rfl;cases m with
 | append=>exact Eb PySem.F.plainAttrs_list PySem.F.slot_list_append PySem.F.type_list_append C2 ha.pe hb.pa (p9 hn) e3 hl e1 e2
 | extend=>exact Eb PySem.F.plainAttrs_list PySem.F.slot_list_extend PySem.F.type_list_extend DX ha.pe hb.pa (p9 hn) e3 hl e1 e2
 | extT=>exact Eb PySem.F.plainAttrs_list PySem.F.slot_list_extend PySem.F.type_list_extend HX ha.pe hb.pa (p9 hn) e3 hl e1 e2
 | insert=>exact Eb PySem.F.plainAttrs_list PySem.F.slot_list_insert PySem.F.type_list_insert DZ ha.pe hb.pa (p9 hn) e3 hl e1 e2
 | count=>exact Eb PySem.F.plainAttrs_list PySem.F.slot_list_count PySem.F.type_list_count (λpins s σ H x xs v us Q I rx rs q=>Dd pins s σ H x xs v us Q I rx rs q) ha.pe hb.pa (p9 hn) e3 hl e1 e2
theorem JB{m:MT}{ro:Expr}{ap cp:Pos}{a:WE×WT}(ha:Good X ro a)(hn:CV ro=true)(hl:(ap.endLine == cp.line)=true):Good X (.Call (.Attribute ro m.name ap) [] [] cp) (tt1 (wMt m a.1 Dc)):=by
 refine .one (i5 (t:=P9 X.K "list" (rMt m) (lift X.K a.1)) _ ?_ (N8 ha.m)) (.mt ha.m .nil) rfl;cases m with
 | append=>exact Cc PySem.F.plainAttrs_list PySem.F.slot_list_append PySem.F.type_list_append C2 ha.pe (p9 hn) hl
 | extend=>exact Cc PySem.F.plainAttrs_list PySem.F.slot_list_extend PySem.F.type_list_extend DX ha.pe (p9 hn) hl
 | extT=>exact Cc PySem.F.plainAttrs_list PySem.F.slot_list_extend PySem.F.type_list_extend HX ha.pe (p9 hn) hl
 | insert=>exact Cc PySem.F.plainAttrs_list PySem.F.slot_list_insert PySem.F.type_list_insert DZ ha.pe (p9 hn) hl
 | count=>exact Cc PySem.F.plainAttrs_list PySem.F.slot_list_count PySem.F.type_list_count (λpins s σ H x xs v us Q I rx rs q=>Dd pins s σ H x xs v us Q I rx rs q) ha.pe (p9 hn) hl
theorem JC{T:List Str}{Δ:Nat->Sn}{k:Nat}{N:List Str}{sc:Ww}{t:TyN}{p:Pos}(C:Cok T Δ X k N sc)(hg:glo sc (Str.ofString t.nm)=true)(ht:t ≠ .none):Good X (.Name (Str.ofString t.nm) p) (tt1 (wC (.ty t))):=by
 unfold glo at hg;simp only[Sf,bQ,TQ]at hg;have gl:Gl X (Str.ofString t.nm):=by show X.env.scope.names.lookup _=_;rw[C.hs];exact hg.1.1
 have b:Wu (Str.ofString t.nm)=some (.type t.nm):=by cases t<;>first | exact OG | exact Py | exact OH | exact EC | exact Hk | exact absurd rfl ht
 exact .one (i5 _ (MC (v := .ty t.nm) gl (C.ty t ht) b rfl (by cases t<;>first | decide | exact absurd rfl ht) hg.2) (El λ_ _=>rl_ty.mpr rfl)) .c rfl
theorem L9{K:Sd}{as:List Wm}{H:Hp}{lo hi:Int}:RlAll K as H (Ic lo (hi - lo).toNat) (Ap lo hi):=by
 unfold Ic Ap
 induction So (hi - lo).toNat with
 | nil=>exact .nil
 | cons i r ih=>exact .cons (rl_int.mpr rfl) ih
theorem Cw{a:WE}(m:Mono a):Mono (GP a):=λρ S P P' i h=>m _ _ _ _ (λx S1 ⟨j,e,z,q⟩=>⟨j,e,z,i _ _ q⟩) h
theorem Cy{a b:WE}(m:Mono a)(mb:Mono b):Mono (GQ a b):=λρ S P P' i h=>m _ _ _ _ (λx S1 h=>mb _ _ _ _ (λy S2 ⟨l,j,e,e2,z,q⟩=>⟨l,j,e,e2,z,i _ _ q⟩) h) h
theorem F4{T:List Str}{Δ:Nat->Sn}{k:Nat}{N:List Str}{sc:Ww}{r:Expr}{p p2 q q2:Pos}{a:WE×WT}(C:Cok T Δ X k N sc)(hg:glo sc "list"=true)(hg2:glo sc "range"=true)(ha:Good X r a)(hs:f9 r=true):Good X (.Call (.Name "list" p) [.Call (.Name "range" p2) [r] [] q2] [] q) (tt1 (GP a.1)):=by
 unfold glo at hg hg2;simp only[Sf,bQ,TQ]at hg hg2;have gl:Gl X "list":=by show X.env.scope.names.lookup ("list":Str)=_;rw[C.hs];exact hg.1.1
 have gr:Gl X "range":=by show X.env.scope.names.lookup ("range":Str)=_;rw[C.hs];exact hg2.1.1
 have e1:=t8 (p:=p2) (pos:=q2) Ib gr C.rng Hj (n0 ha.pe AF (g9 hs)) (by decide) hg2.2 (g9 hs) rfl;refine .one (i5 _ (t8 (p:=p) (pos:=q) (Bk C.calm) gl (C.bl .list) EC (n0 e1 AF rfl) (by decide) hg.2 rfl rfl) ?_) (Cw ha.m) rfl;rintro σ H Q ⟨as,ρ,S,ok,en,h⟩;refine⟨as,ρ,S,ok,en,ha.m _ _ _ _ (λx S1 ⟨j,e,z,q⟩ as1 H1 v g1 ok1 rv=>?_) h⟩;subst e;refine⟨j,by rw[rl_int.mp rv],λp hp=>⟨p,0,j,rfl,i8,by decide,by decide,z.1,by omega,by omega,?_⟩⟩;exact AB (ok1.new hp) L9 (q.mono (g1.trans (Go.new hp)))
theorem F5{T:List Str}{Δ:Nat->Sn}{k:Nat}{N:List Str}{sc:Ww}{r r2:Expr}{p p2 q q2:Pos}{a b:WE×WT}(C:Cok T Δ X k N sc)(hg:glo sc "list"=true)(hg2:glo sc "range"=true)(ha:Good X r a)(hb:Good X r2 b)(hs:f9 r=true)(hs2:f9 r2=true):Good X (.Call (.Name "list" p) [.Call (.Name "range" p2) [r,r2] [] q2] [] q) (tt1 (GQ a.1 b.1)):=by
 unfold glo at hg hg2;simp only[Sf,bQ,TQ]at hg hg2;have gl:Gl X "list":=by show X.env.scope.names.lookup ("list":Str)=_;rw[C.hs];exact hg.1.1
 have gr:Gl X "range":=by show X.env.scope.names.lookup ("range":Str)=_;rw[C.hs];exact hg2.1.1
 have e1:=t8 (p:=p2) (pos:=q2) Ia gr C.rng Hj (n0 ha.pe (n0 hb.pe AF (g9 hs2)) (g9 hs)) (by decide) hg2.2 (g9 hs) (BB (by simpa using hs2));refine .one (i5 _ (t8 (p:=p) (pos:=q) (Bk C.calm) gl (C.bl .list) EC (n0 e1 AF rfl) (by decide) hg.2 rfl rfl) ?_) (Cy ha.m hb.m) rfl;rintro σ H Q ⟨as,ρ,S,ok,en,h⟩;refine⟨as,ρ,S,ok,en,ha.m _ _ _ _ (λx S1 h as1 H1 v g1 ok1 rv=>?_) h⟩;refine⟨as1,ρ,S1,ok1,en.mono g1.pre (g1.ku ok),hb.m _ _ _ _ (λy S2 ⟨l,j,e,e2,z,q⟩ as2 H2 u g2 ok2 ru=>?_) h⟩;subst e e2;refine⟨l,j,by rw[rl_int.mp rv,rl_int.mp ru],λp hp=>⟨p,l,j,rfl,i8,by omega,by omega,z.2.2.1,by omega,by omega,?_⟩⟩;exact AB (ok2.new hp) L9 (q.mono ((g1.trans g2).trans (Go.new hp)))
theorem CJ{a:WE}(m:Mono a):Mono (E6 a):=λρ S P P' i h=>m _ _ _ _ (λx S1 ⟨xs,ns,b,c,d,q⟩=>⟨xs,ns,b,c,d,i _ _ q⟩) h
theorem Dh{a:WE}(m:Mono a):Mono (Kj a):=λρ S P P' i h=>m _ _ _ _ (λx S1 ⟨xs,ns,b,c,d,q⟩=>⟨xs,ns,b,c,d,i _ _ q⟩) h
theorem RlD.length{K:Sd}{as:List Wm}{H:Hp}:∀{kvs:List (Int×SV)} {ks:List (Key×V)},RlD K as H ks kvs->ks.length=kvs.length
 | [],_,h=>by rw[show _=[] from h];rfl
 | p::r,_,⟨v,t,e,_,h⟩=>by rw[e,Te,Te,RlD.length h]
theorem Di{x:Str}{lp:Pos}{j:Nat}{js:List Nat}{a e:WE}(m:Mono a):Mono (Ki x lp j js a e):=λρ S P P' i h=>m _ _ _ _ (λv S1 ⟨k,xs,kz,a,b,c,d,l,t,q⟩=>⟨k,xs,kz,a,b,c,d,l,t,λys p o=>i _ _ (q ys p o)⟩) h
theorem RlAll.perm{K:Sd}{as:List Wm}{H:Hp}{ws ws':List V}(p:ws'.Perm ws):∀{xs:List SV},RlAll K as H ws xs->∃ xs',RlAll K as H ws' xs'/\xs'.Perm xs:=by
 induction p with
 | nil=>exact λ{xs} r=>⟨xs,r,.refl _⟩
 | cons v _ ih=>
   intro xs r;cases xs with
   | nil=>exact absurd (show _::_=[] from r) (VL _ _)
   | cons x xs=>
     obtain⟨_,_,e,r1,r2⟩:=r;cases e;obtain⟨xs',r',p'⟩:=ih r2;exact⟨x::xs',⟨_,_,rfl,r1,r'⟩,.cons _ p'⟩
 | swap u v l=>
   intro xs r;cases xs with
   | nil=>exact absurd (show _::_=[] from r) (VL _ _)
   | cons x xs=>
     obtain⟨_,_,e,r1,r2⟩:=r;cases e;cases xs with
     | nil=>exact absurd (show _::_=[] from r2) (VL _ _)
     | cons y xs=>
       obtain⟨_,_,e,r3,r4⟩:=r2;cases e;exact⟨y::x::xs,⟨_,_,rfl,r3,_,_,rfl,r1,r4⟩,.swap ..⟩
 | trans _ _ ih1 ih2=>
   intro xs r;obtain⟨x2,r2,p2⟩:=ih2 r;obtain⟨x1,r1,p1⟩:=ih1 r2;exact⟨x1,r1,p1.trans p2⟩
theorem ED{T:List Str}{Δ:Nat->Sn}{k:Nat}{N:List Str}{sc:Ww}{r:Expr}{p p2 q q2:Pos}{a:WE×WT}(C:Cok T Δ X k N sc)(hg:glo sc "sorted"=true)(hg2:glo sc "set"=true)(ha:Good X r a)(hs:f9 r=true):Good X (.Call (.Name "sorted" p) [.Call (.Name "set" p2) [r] [] q2] [] q) (tt1 (E6 a.1)):=by
 unfold glo at hg hg2;simp only[Sf,bQ,TQ]at hg hg2;have gl:Gl X "sorted":=by show X.env.scope.names.lookup ("sorted":Str)=_;rw[C.hs];exact hg.1.1
 have gr:Gl X "set":=by show X.env.scope.names.lookup ("set":Str)=_;rw[C.hs];exact hg2.1.1
 refine .one (i5 _ (F2 C.calm gl (C.bl .sorted) gr C.st0 ha.pe (g9 hs) rfl rfl rfl) ?_) (CJ ha.m) rfl;rintro σ H Q ⟨as,ρ,S,ok,en,h⟩;refine⟨as,ρ,S,ok,en,ha.m _ _ _ _ (λx S1 ⟨xs,ns,h1,h2,h3,q⟩ as1 H1 v g1 ok1 rv=>?_) h⟩;obtain⟨a,us,rfl,hq,rr⟩:=C8 ok1 rv h1;rw[CT h2 rr]at hq;exact⟨a,ns,rfl,hq,h3,AB ok1 RlAll.ints (q.mono g1)⟩
theorem GZ{T:List Str}{Δ:Nat->Sn}{k:Nat}{N:List Str}{sc:Ww}{r:Expr}{p q:Pos}{a:WE×WT}(C:Cok T Δ X k N sc)(hg:glo sc "set"=true)(ha:Good X r a)(hs:f9 r=true):Good X (.Call (.Name "set" p) [r] [] q) (tt1 (Kj a.1)):=by
 unfold glo at hg;simp only[Sf,bQ,TQ]at hg;have gl:Gl X "set":=by show X.env.scope.names.lookup ("set":Str)=_;rw[C.hs];exact hg.1.1
 refine .one (i5 _ (t8 (Il C.calm) gl C.st0 b_set (n0 ha.pe AF (g9 hs)) (by decide) hg.2 (g9 hs) rfl) ?_) (Dh ha.m) rfl;rintro σ H Q ⟨as,ρ,S,ok,en,h⟩;refine⟨as,ρ,S,ok,en,ha.m _ _ _ _ (λx S1 ⟨xs,ns,h1,h2,h3,q⟩ as1 H1 v g1 ok1 rv=>?_) h⟩;obtain⟨a,us,rfl,hq,rr⟩:=C8 ok1 rv h1;rw[CT h2 rr]at hq;refine⟨a,ns,rfl,hq,h3,λl hl=>?_⟩;have ok2:Ok X.K (as1++[l]) (upd H1 l (.set (λk=>decide (k∈ns)) (BY ns).length)) (S1++[.iset (AO ns)]):=ok1.pushO hl ⟨_,i8,λk=>by rw[decide_eq_decide];exact(An ns k).symm⟩;exact q _ _ _ (g1.trans (Go.push hl)) ok2 (rl_loc.mpr ⟨l,by rw[<-ok1.len];exact Tb,rfl⟩)
end
section
variable{K:Sd}{as:List Wm}{H:Hp}{S:Sto}
theorem RlD.get:∀{kvs:List (Int×SV)} {ks:List (Key×V)} {i:Nat} {p:Int×SV},RlD K as H ks kvs->kvs[i]?=some p->∃ v,ks[i]?=some (.inl p.1,v)
 | q::r,_,0,p,⟨v,t,e,_,_⟩,hp=>by cases hp;subst e;exact⟨v,rfl⟩
 | q::r,_,i+1,p,⟨v,t,e,_,h⟩,hp=>by
   subst e;obtain⟨u,hu⟩:=RlD.get (i:=i) h (show r[i]?=some p from hp);exact⟨u,hu⟩
theorem RlD.val:∀{kvs:List (Int×SV)} {ks:List (Key×V)},RlD K as H ks kvs->∀ i,(∃ x v,Iv kvs i=some x/\Ax ks (.inl i)=some v/\Rl K as H v x)\/(Iv kvs i=none/\Ax ks (.inl i)=none)
 | [],_,h,i=>by rw[show _=[] from h];exact .inr ⟨rfl,rfl⟩
 | p::r,_,⟨v,t,e,h1,h2⟩,i=>by
   subst e;by_cases hp:p.1=i
   ·refine .inl ⟨p.2,v,?_,?_,h1⟩
    ·unfold Iv;rw[VS (by simp[hp])];rfl
    ·unfold Ax;rw[VS (by simp[hp])];rfl
   ·have e1:Iv (p::r) i=Iv r i:=by unfold Iv;rw[VT (by simp[hp])]
    have e2:Ax ((Sum.inl p.1,v)::t) (Sum.inl i)=Ax t (Sum.inl i):=by unfold Ax;rw[VT (by simp[hp])]
    rw[e1,e2];exact RlD.val h2 i
theorem RlD.any:∀{kvs:List (Int×SV)} {ks:List (Key×V)},RlD K as H ks kvs->∀ i,(ks.any λkv=>decide (kv.1=Sum.inl i))=kvs.any λp=>decide (p.1=i)
 | [],_,h,i=>by rw[show _=[] from h];rfl
 | p::r,_,⟨v,t,e,h1,h2⟩,i=>by
   subst e;rw[UC,UC,RlD.any h2 i]
   congr 1
   simp
theorem RlD.set{v:V}{x:SV}(rv:Rl K as H v x):∀{kvs:List (Int×SV)} {ks:List (Key×V)},RlD K as H ks kvs->∀ i,RlD K as H (ks.map λkv=>if kv.1=Sum.inl i then (kv.1,v) else kv) (kvs.map λp=>if p.1=i then (p.1,x) else p)
 | [],_,h,i=>by rw[show _=[] from h];rfl
 | p::r,_,⟨u,t,e,h1,h2⟩,i=>by
   subst e;rw[TY,TY];by_cases hp:p.1=i
   ·rw[iP hp,iP (by rw[hp])];exact⟨v,_,rfl,rv,RlD.set rv h2 i⟩
   ·rw[iG hp,iG (λz=>hp (Sum.inl.inj z))];exact⟨u,_,rfl,h1,RlD.set rv h2 i⟩
theorem RlD.snoc{v:V}{x:SV}(rv:Rl K as H v x)(i:Int):∀{kvs:List (Int×SV)} {ks:List (Key×V)},RlD K as H ks kvs->RlD K as H (ks++[(Sum.inl i,v)]) (kvs++[(i,x)])
 | [],_,h=>by rw[show _=[] from h];exact⟨v,[],rfl,rv,rfl⟩
 | p::r,_,⟨u,t,e,h1,h2⟩=>by subst e;exact⟨u,_,rfl,h1,RlD.snoc rv i h2⟩
theorem RlD.put{kvs:List (Int×SV)}{ks:List (Key×V)}{v:V}{x:SV}(h:RlD K as H ks kvs)(rv:Rl K as H v x)(i:Int):RlD K as H (Cg ks (Sum.inl i) v) (OE kvs i x):=by
 unfold Cg OE;rw[h.any i];by_cases z:(kvs.any λp=>decide (p.1=i))=true
 ·rw[iP z,iP z];exact h.set rv i
 ·rw[iG z,iG z];exact h.snoc rv i
end
section
variable{X:Cx}
theorem RlD.zip{K:Sd}{as:List Wm}{H:Hp}:∀(ns:List Int) {ws:List V} {ys:List SV},RlAll K as H ws ys->RlD K as H ((ns.zip ws).map λt=>((.inl t.1:Key),t.2)) (ns.zip ys)
 | [],_,_,_=>rfl
 | n::ns,_,[],h=>by rw[rla_nil.mp h];rfl
 | n::ns,_,y::ys,h=>by
   obtain⟨v,r,rfl,h1,h2⟩:=rla_cons.mp h;exact⟨v,_,rfl,h1,RlD.zip ns h2⟩
end
theorem RlD.vals{K:Sd}{as:List Wm}{H:Hp}:∀{kvs:List (Int×SV)} {ks:List (Key×V)},RlD K as H ks kvs->RlAll K as H (ks.map (·.2)) (kvs.map (·.2))
 | [],_,h=>by rw[show _=[] from h];rfl
 | p::r,_,⟨v,t,e,a,h⟩=>by rw[e];exact⟨v,_,rfl,a,RlD.vals h⟩
theorem RlD.at{K:Sd}{as:List Wm}{H:Hp}:∀{kvs:List (Int×SV)} {ks:List (Key×V)} {i:Nat} {p:Int×SV},RlD K as H ks kvs->kvs[i]?=some p->∃ v,ks[i]?=some (.inl p.1,v)/\Rl K as H v p.2
 | [],_,i,p,_,hp=>by simp at hp
 | p::r,_,0,_,⟨v,t,e,a,h⟩,hp=>by cases hp;exact⟨v,by rw[e];rfl,a⟩
 | p::r,_,i+1,_,⟨v,t,e,a,h⟩,hp=>by
   obtain⟨u,hu,ru⟩:=RlD.at (i:=i) h hp;exact⟨u,by rw[e];exact hu,ru⟩
section
variable{K:Sd}{as:List Wm}{H:Hp}{S:Sto}
theorem RlT.length:∀{kvs:List (List Int×SV)} {us:List (List Key×V)},RlT K as H us kvs->us.length=kvs.length
 | [],_,h=>by rw[show _=_ from h];rfl
 | p::r,_,⟨v,t,e,_,h2⟩=>by rw[e,Te,Te,h2.length]
theorem RlT.get:∀{kvs:List (List Int×SV)} {us:List (List Key×V)} {i:Nat} {p:List Int×SV},RlT K as H us kvs->kvs[i]?=some p->∃ v,us[i]?=some (p.1.map Sum.inl,v)
 | [],_,_,_,_,h=>by simp at h
 | p::r,_,0,_,⟨v,t,e,_,h2⟩,h=>by
   simp at h;subst h;rw[e];exact⟨v,rfl⟩
 | p::r,_,i+1,_,⟨v,t,e,_,h2⟩,h=>by
   rw[e];obtain⟨v,hv⟩:=h2.get (i:=i) (by simpa using h);exact⟨v,by simpa using hv⟩
theorem CW:∀{a b:List Int},a.map (Sum.inl:Int->Key)=b.map Sum.inl->a=b
 | [],[],_=>rfl
 | [],_::_,h=>by simp at h
 | _::_,[],h=>by simp at h
 | a::x,b::y,h=>by
   rw[TY,TY]at h;injection h with h1 h2;injection h1 with h1;rw[h1,CW h2]
theorem RlT.val(k:List Int):∀{kvs:List (List Int×SV)} {us:List (List Key×V)},RlT K as H us kvs->(∃ x v,Iu kvs k=some x/\Ax us (k.map Sum.inl)=some v/\Rl K as H v x)\/(Iu kvs k=none/\Ax us (k.map Sum.inl)=none)
 | [],_,h=>by rw[show _=_ from h];exact .inr ⟨rfl,rfl⟩
 | p::r,_,⟨v,t,e,h1,h2⟩=>by
   rw[e];by_cases z:p.1=k
   ·refine .inl ⟨p.2,v,?_,Bm (by rw[z]),h1⟩;unfold Iu;rw[UO,decide_eq_true z];rfl
   ·rw[Bn (λy=>z (CW y)),show Iu (p::r) k=Iu r k by unfold Iu;rw[UO,decide_eq_false z]];exact RlT.val k h2
theorem RlT.snoc{k:List Int}{v:V}{x:SV}(rv:Rl K as H v x):∀{kvs:List (List Int×SV)} {us:List (List Key×V)},RlT K as H us kvs->RlT K as H (us++[(k.map Sum.inl,v)]) (kvs++[(k,x)])
 | [],_,h=>by rw[show _=_ from h];exact⟨v,[],rfl,rv,rfl⟩
 | p::r,_,⟨w,t,e,h1,h2⟩=>by rw[e];exact⟨w,_,rfl,h1,h2.snoc rv⟩
theorem F6{vs:List V}{ls:List Nat}(h:RlAll K as H vs (ls.map SV.loc)):∃ ps:List Wm,vs=ps.map V.ref/\ps.length=ls.length/\∀(i:Nat) p,ps[i]?=some p->∃ l,ls[i]?=some l/\as[l]?=some p:=by
 induction ls generalizing vs with
 | nil=>exact⟨[],rla_nil.mp h,rfl,λi p z=>by simp at z⟩
 | cons l ls ih=>
   obtain⟨v,t,rfl,h1,h2⟩:=rla_cons.mp h;obtain⟨a,ea,rfl⟩:=rl_loc.mp h1;obtain⟨ps,rfl,hl,hp⟩:=ih h2;refine⟨a::ps,rfl,by rw[Te,Te,hl],λi p z=>?_⟩;cases i with
   | zero=>simp at z;subst z;exact⟨l,rfl,ea⟩
   | succ i=>
     obtain⟨l',e,q⟩:=hp i p (by simpa using z);exact⟨l',by simpa using e,q⟩
end
section
variable{K:Sd}{as:List Wm}{H:Hp}
theorem RlT.any:∀{kvs:List (List Int×SV)} {us:List (List Key×V)},RlT K as H us kvs->∀ k,(us.any λkv=>decide (kv.1=k.map Sum.inl))=kvs.any λp=>decide (p.1=k)
 | [],_,h,k=>by rw[show _=_ from h];rfl
 | p::r,_,⟨v,t,e,_,h2⟩,k=>by
   rw[e,UC,UC,RlT.any h2 k];by_cases z:p.1=k
   ·rw[decide_eq_true z,decide_eq_true (show _=_ by rw[z])]
   ·rw[decide_eq_false z,decide_eq_false (λy=>z (CW y))]
theorem RlT.set{v:V}{x:SV}(rv:Rl K as H v x):∀{kvs:List (List Int×SV)} {us:List (List Key×V)},RlT K as H us kvs->∀ k:List Int,RlT K as H (us.map λkv=>if kv.1=k.map Sum.inl then (kv.1,v) else kv) (kvs.map λp=>if p.1=k then (p.1,x) else p)
 | [],_,h,k=>by rw[show _=_ from h];rfl
 | p::r,_,⟨w,t,e,h1,h2⟩,k=>by
   rw[e,TY,TY];by_cases z:p.1=k
   ·rw[iP z,iP (by rw[z])];exact⟨v,_,rfl,rv,RlT.set rv h2 k⟩
   ·rw[iG z,iG (λy=>z (CW y))];exact⟨w,_,rfl,h1,RlT.set rv h2 k⟩
theorem RlT.put{kvs:List (List Int×SV)}{us:List (List Key×V)}{v:V}{x:SV}(h:RlT K as H us kvs)(rv:Rl K as H v x)(k:List Int):RlT K as H (Cg us (k.map Sum.inl) v) (OD kvs k x):=by
 unfold Cg OD;rw[h.any k];split
 ·exact h.set rv k
 ·exact h.snoc rv
theorem RlT.vals:∀{kvs:List (List Int×SV)} {us:List (List Key×V)},RlT K as H us kvs->RlAll K as H (us.map (·.2)) (kvs.map (·.2))
 | [],_,h=>by rw[show _=[] from h];rfl
 | p::r,_,⟨v,t,e,a,h⟩=>by rw[e];exact⟨v,_,rfl,a,RlT.vals h⟩
end
section
variable{X:Cx}{T:List Str}{Δ:Nat->Sn}{k:Nat}{N cn:List Str}{sc scL:Ww}{x y:Str}{js:List Nat}
theorem Cok.lam(C:Cok T Δ X k N sc)(hT:T.getLast?=some x)(hl:BX sc scL [y] cn N js=true)(q:Str)(s:Wl)(H:Hp)(f c':Wm):Cok [] Δ (Ej X X.A.in1.in1 q scL (y::cn) s H f c') 1 (y::cn) scL where
 hN:=rfl
 hs:=rfl
 nd:=by
  unfold BX w5 at hl;simp only[Sf,dQ]at hl;exact hl.1.1.1.2
 calm:=rfl
 fn:=λ_ _ _ _ h=>bQ.mpr h
 un:=by
  have:=(C.me x hT).2.2.2;show X.A.units+1+1+3+102<cLine;omega
 bl:=C.bl
 rng:=C.rng
 enm:=C.enm
 rvs:=C.rvs
 zip:=C.zip
 sm0:=C.sm0
 st0:=C.st0
 dc0:=C.dc0
 ty:=C.ty
 gd:=C.gd
 me:=λ_ h=>nomatch h
 call:=λ_ _ h=>absurd h (VV _)
 mono:=C.mono
variable{K:Sd}{as:List Wm}{H:Hp}{S:Sto}
theorem Dj:∀{kz:List Int} {us:List V} {xs:List SV},RlAll K as H us xs->Paired (λ(p:Int×SV) (q:Int×V)=>p.1=q.1/\Rl K as H q.2 p.2) (kz.zip xs) (kz.zip us)
 | [],_,_,_ => .nil
 | _::_,_,[],h=>by rw[rla_nil.mp h];exact .nil
 | _::_,_,_::_,h=>let ⟨_,_,e,a,b⟩:=rla_cons.mp h;e ▸ .cons ⟨rfl,a⟩ (Dj b)
theorem CC:∀{zs:List (Int×SV)} {ys:List (Int×V)},Paired (λ(p:Int×SV) (q:Int×V)=>p.1=q.1/\Rl K as H q.2 p.2) zs ys->RlAll K as H (ys.map (·.2)) (zs.map (·.2))/\zs.map (·.1)=ys.map (·.1)
 | _,_,.nil=>⟨.nil,rfl⟩
 | _,_,.cons r t=>⟨.cons r.2 (CC t).1,by rw[TY,TY,r.1,(CC t).2]⟩
theorem N9{σ:St}{ρ:EnvS}{v:V}{u:SV}(en:EnvOk K as H σ ρ)(r:Rl K as H v u):EnvOk K as H (Ch [v] js σ) (some u::js.map λj=>(ρ[j]?).join):=by
 refine⟨by simp[Ch],λi z e=>?_⟩;cases i with
 | zero=>cases e;exact⟨v,rfl,r⟩
 | succ i=>
   rw[VM,Sm]at e;obtain⟨j,e1,e2⟩:=TU.mp e
   have e3:ρ[j]?=some (some z):=by
    cases h:ρ[j]? with
    | none=>rw[h]at e2;cases e2
    | some w=>rw[h]at e2;exact congrArg some e2
   obtain⟨w,e4,rw'⟩:=en.2 j z e3;refine⟨w,?_,rw'⟩;show(some v::js.map λj=>(σ[j]?).join)[i+1]?=_;rw[VM,Sm,e1,UN,e4];rfl
theorem LA{q:Str}{an:Option Expr}{ap:Pos}{body:Expr}{sc:Ww}{cl:List (Str×Wm)}{pm c ct u:Wk}:Y6 (PySem.W.kla_fn "<lambda>" q ⟨[],[⟨y,an,ap⟩],none,[],[],none,[]⟩ body sc cl pm c ct) ⟨[u],[]⟩=pure [(y,u)]:=by
 have l:VA y [(y,u)]=some u:=by rw[U3,beq_self_eq_true]
 unfold Y6;simp[PySem.W.kla_fn,ZF,l];rfl
theorem Ga{r body:Expr}{lp p q kp:Pos}{an:Option Expr}{ap:Pos}{a e:WE×WT}{j:Nat}(C:Cok T Δ X k N sc)(hg:glo sc "sorted"=true)(ha:Good X r a)(hs:f9 r=true)(hT:T.getLast?=some x)(hl:BX sc scL [y] cn N js=true)
 (he:∀ s H f c',Good (Ej X X.A.in1.in1 (PR x) scL (y::cn) s H f c') body e):
 Good X (.Call (.Name "sorted" p) [r] [⟨some "key",.Lambda ⟨[],[⟨y,an,ap⟩],none,[],[],none,[]⟩ body scL lp,kp⟩] q) (tt1 (Ki x lp j js a.1 e.1)):=by
 unfold glo at hg;simp only[Sf,bQ,TQ]at hg;have gl:Gl X "sorted":=by show X.env.scope.names.lookup ("sorted":Str)=_;rw[C.hs];exact hg.1.1
 obtain⟨m1,m2,m3,m4⟩:=C.me x hT;have me:=(he X.s₀ X.H₀ 0 0).m;refine .one (i5 _ (KD (x:=y) (q:=PR x) (tb:=lift X.K e.1) gl (C.bl .sorted) (n0 ha.pe AF (g9 hs)) (by rw[C.hs,C.hN];exact hl) (by rw[m1]) rfl (λ_ _ _ _ _=>LA) C.calm (by omega) (λs H f c'=>(he s H f c').pe) (by rw[g9 hs];rfl) (by rw[g9 hs];rfl)) ?_) (Di ha.m) rfl;rintro σ H Q ⟨as,ρ,S,ok,en,h⟩;refine⟨as,ρ,S,ok,en,ha.m _ _ _ _ (λv S1 ⟨k,xs,kz,e0,h1,lt,ht,lz,turn,fin⟩ as1 H1 u g1 ok1 rv=>?_) h⟩;subst e0;have en1:=en.mono g1.pre (g1.ku ok);obtain⟨pa,us,ev,ea,hp,rr⟩:=n4 ok1 rv h1;obtain⟨P,eP,c,ps,hP,tk,tok⟩:=ok1.at ht;have pP:pa≠P:=λz=>by rw[z,hP]at hp;cases hp
 have ul:=rr.length;refine⟨pa,us,kz,c,P,ps,by rw[ev],by omega,by omega,m2 c P tk,tk.2,hP,tok,λf c' H2 L=>?_⟩;have k12:KeepU H1 H2:=λb o e i=>L.keep b o (λz=>by rw[z,hP]at e;cases e;cases i) e;have g2:Go as1 H1 as1 H2:=⟨TN _,λb o e n=>⟨L.keep b o (λz=>n (z▸Ss eP)) e,n⟩⟩
 have ok2:Ok X.K as1 H2 S1:=⟨ok1.len,ok1.nd,λi o b eo eb=>by
  by_cases z:b=P
  ·have:i=j:=(Vv ((gM eb).1) ok1.nd).mp (by rw[eb,eP,z]);subst this;rw[ht]at eo;cases eo;obtain⟨ps',h1,h2⟩:=L.tab;exact⟨c,ps',z▸h1,z▸tk,h2⟩
  ·exact(ok1.obj i o b eo eb).mono (TN _) k12 λu hu=>L.keep b u z hu⟩
 refine⟨λH=>Go as1 H1 as1 H/\Ok X.K as1 H S1/\KeepU H2 H,⟨g2,ok2,KeepU.refl _⟩,SqL.of (L.keep _ _ pP hp),λH j=>⟨j.2.2 _ _ L.lam rfl,j.2.2 _ _ L.cod rfl⟩,λi v z H hv hz ⟨jg,jo,jk⟩=>?_,λH l ys ⟨jg,jo,jk⟩ hl pm pw=>?_⟩
 ·have il:i<xs.length:=by rw[<-ul];exact(gM hv).1
  obtain⟨v',e1,r1⟩:=rr.get (Si il);rw[hv]at e1;cases e1;have ku:=jg.ku ok1;refine⟨as1,_,S1,jo,N9 (en1.mono (TN _) ku) (Rl.mono (TN _) ku _ _ r1),me _ _ _ _ (λr S' ⟨er,eS⟩ as' H' w g ok' rw'=>?_) (turn i _ z (Si il) hz)⟩;subst er;subst eS;have:as'=as1:=(g.pre.eq_of_length (by rw[ok'.len,jo.len])).symm;subst this;exact⟨rl_int.mp rw',jg.trans g,ok',jk.trans (g.ku jo)⟩
 ·obtain⟨zs,rp,pz⟩:=BO pm (Dj (kz:=kz) (RlAll.mono (TN _) (jg.ku ok1) _ _ rr));have up:=CC rp;exact fin zs pz (up.2▸pw) (as1++[l]) _ (.ref l) (g1.trans (jg.trans (Go.push hl))) (jo.push hl up.1) (KJ jo)
end
end Rf
namespace Srf
open PySem PyProof.Rows
def KF(f:Wk->Int)(xs:Array Keyed)(i:Nat):Int:=match xs[i]? with
 | some p=>f p.1
 | none=>0
theorem BE{f:Wk->Int}{xs ys:Array Keyed}{i j:Nat}(h:xs[i]?=ys[j]?):KF f xs i=KF f ys j:=by unfold KF;rw[h]
theorem Dk{f:Wk->Int}{xs:Array Keyed}{s d:Nat}(hs:s<xs.size)(hd:d<=s)(k:Nat):KF f (bubble xs s d) k=if k=s - d then KF f xs s else if s - d<k/\k<=s then KF f xs (k - 1) else KF f xs k:=by
 have e:=Z1 hs d hd k;split
 ·rename_i z;rw[iP z]at e;exact BE e
 ·rename_i z;rw[iG z]at e;split
  ·rename_i y;rw[iP y]at e;exact BE e
  ·rename_i y;rw[iG y]at e;exact BE e
theorem CD{f:Wk->Int}{xs:Array Keyed}{i j:Nat}(hj:j<=xs.size)(k:Nat):KF f (mirror xs i j ((j - i) / 2)) k=if i<=k/\k<j then KF f xs (i+j - 1 - k) else KF f xs k:=by
 have e:=YZ (i:=i) hj k;split
 ·rename_i y;rw[iP y]at e;exact BE e
 ·rename_i y;rw[iG y]at e;exact BE e
theorem v8{f:Wk->Int}{xs:Array Keyed}{i j:Nat}(hj:j<=xs.size)(h:∀ k,i<=k->k<j->KF f xs k=KF f xs (j - 1))(k:Nat):KF f (mirror xs i j ((j - i) / 2)) k=KF f xs k:=by
 rw[CD hj];split
 ·rw[h _ (by omega) (by omega),h k (by omega) (by omega)]
 ·rfl
structure LtF(prog:Wr)(w:Wt)(A:Wx)(s:Wl)(f:Wk->Int)(a₀:Array Keyed):Prop where
 lt:∀ p∈a₀.toList,∀ q∈a₀.toList,f p.1≠f q.1->∀(E':Wk->Wl->Prop) (Q:Bool->Wl->Prop),Q (decide (f p.1<f q.1)) s->Wo (Wp prog w) A (oneLt' true p.1 q.1) Q E' s
 nd:(a₀.toList.map λp=>f p.1).Nodup
variable{f:Wk->Int}
def Sg(f:Wk->Int)(xs:Array Keyed)(lo k:Nat):Prop:=∀ i j,i<=j->j<k->KF f xs (lo+i)<=KF f xs (lo+j)
def Dg(f:Wk->Int)(xs:Array Keyed)(lo k:Nat):Prop:=∀ i j,i<=j->j<k->KF f xs (lo+j)<=KF f xs (lo+i)
structure Sb(a₀ a1:Array Keyed)(lo:Nat)(pd:Array (Nat×Nat×Nat))(st:SortSt):Prop where
 perm:(arrOf st).Perm a₀
 kind:kindOf st=ZC
 failed:Xx st=none
 pend:Xq st=pd
 pre:∀ i,i<lo->(arrOf st)[i]?=a1[i]?
section
variable{a₀ a1:Array Keyed}{lo:Nat}{pd:Array (Nat×Nat×Nat)}{st:SortSt}
theorem Sb.size(h:Sb a₀ a1 lo pd st):(arrOf st).size=a₀.size:=h.perm.size_eq
theorem Sb.put(h:Sb a₀ a1 lo pd st){xs:Array Keyed}(hp:xs.Perm (arrOf st))(hq:∀ i,i<lo->xs[i]?=(arrOf st)[i]?):Sb a₀ a1 lo pd (setArr st xs):=
 ⟨hp.trans h.perm,h.kind,h.failed,h.pend,λi hi=>(hq i hi).trans (h.pre i hi)⟩
theorem NA{xs:Array Keyed}{i j k:Nat}(hj:j<=xs.size)(h:k<i):(mirror xs i j ((j - i) / 2))[k]?=xs[k]?:=by
 rw[YZ hj,iG (by omega)]
theorem NB{xs:Array Keyed}{s d k:Nat}(hs:s<xs.size)(hd:d<=s)(h:k<s - d):(bubble xs s d)[k]?=xs[k]?:=by
 rw[Z1 hs d hd,iG (by omega),iG (by omega)]
end
section
variable{prog:Wr}{w:Wt}{A:Wx}{E:Wk->Wl->Prop}{s:Wl}{a₀ a1:Array Keyed}{lo:Nat}{pd:Array (Nat×Nat×Nat)}
theorem F7{st:SortSt}{i j:Nat}{Q:Option Bool->SortSt->Prop}(hB:Sb a₀ a1 lo pd st)(h0:LtF prog w A s f a₀)(hi:i<a₀.size)(hj:j<a₀.size)(ne:i≠j)
 (h:Q (some (decide (KF f (arrOf st) i<KF f (arrOf st) j))) st):wpS (Wp prog w) A E s (ltAt' i j) Q st:=by
 have hi':i<(arrOf st).size:=by rw[hB.size];exact hi
 have hj':j<(arrOf st).size:=by rw[hB.size];exact hj
 have pl:=V4.mp hB.perm;have mi:(arrOf st)[i]∈a₀.toList:=pl.mem_iff.mp (by simp);have mj:(arrOf st)[j]∈a₀.toList:=pl.mem_iff.mp (by simp);have ki:KF f (arrOf st) i=f (arrOf st)[i].1:=by unfold KF;rw[getElem?_pos _ i hi']
 have kj:KF f (arrOf st) j=f (arrOf st)[j].1:=by unfold KF;rw[getElem?_pos _ j hj']
 have nd:((arrOf st).toList.map λp=>f p.1).Nodup:=(pl.map _).nodup_iff.mpr h0.nd
 have nk:f (arrOf st)[i].1≠f (arrOf st)[j].1:=λz=>by
  exact ne ((W3 (h₀:=by simpa using hi') (h₁:=by simpa using hj') nd).mp (by simpa using z))
 rw[ki,kj]at h;rw[ltAt'_eq];refine Wz (wpS_get ?_);show wpS _ _ _ _ (do let x <- elem' (arrOf st) i;let y <- elem' (arrOf st) j;lt' x y) Q st;rw[elem'_eq,elem'_eq,getElem?_pos _ i hi',getElem?_pos _ j hj'];refine Wz (X7 (Wz (X7 ?_)));rw[lt'_eq];refine Wz (wpS_get ?_);rw[hB.kind,keyLt'_oneType];exact Wz (wpS_lift (Xe (h0.lt _ mi _ mj nk _ _ ⟨rfl,X7 h⟩)))
theorem Q1{st:SortSt}{n ok:Nat}{Q:Bool->SortSt->Prop}(h0:LtF prog w A s f a₀)(hn:lo+n<=a₀.size)(hok:ok<=n)(hB:Sb a₀ a1 lo pd st)(hs:Sg f (arrOf st) lo ok)
 (h:∀ st',Sb a₀ a1 lo pd st'->Sg f (arrOf st') lo n->Q true st'):wpS (Wp prog w) A E s (binarySort' lo n ok) Q st:=by
 rw[binarySort'_eq]
 refine Wz (ZD (Xk (I:=λk c st'=>c=(none,())/\Sb a₀ a1 lo pd st'/\Sg f (arrOf st') lo (min k n))
  (Q:=λc st'=>c=(none,())/\Sb a₀ a1 lo pd st'/\Sg f (arrOf st') lo n) ?one ?out ?ini) ?beh)
 case beh=>rintro c st' ⟨rfl,b,g⟩;exact X7 (h st' b g)
 case ini=>
  refine⟨rfl,hB,λi j hij hj=>?_⟩;rcases Vj ok with z | z
  ·rw[show i=j by omega];exact Ub _
  ·exact hs i j hij (by omega)
 case out=>
  rintro c st' ⟨e,b,g⟩;rw[show min (max (max ok 1) n) n=n by omega]at g;exact⟨e,b,g⟩
 case one=>
  rintro k c st' a b ⟨rfl,hb,g⟩;rw[show min k n=k by omega]at g;have hk:lo+k<a₀.size:=by omega
  refine Wz (ZD (Xk (I:=λx c z=>z=st'/\∃ l r,c=(none,l,r)/\l<=r/\r<=k/\r - l<=k - x/\(∀ i,i<l->KF f (arrOf st') (lo+i)<=KF f (arrOf st') (lo+k))/\∀ i,r<=i->i<k->KF f (arrOf st') (lo+k)<KF f (arrOf st') (lo+i))
   (Q:=λc z=>z=st'/\∃ l r,c=(none,l,r)/\l<=k/\(∀ i,i<l->KF f (arrOf st') (lo+i)<=KF f (arrOf st') (lo+k))/\∀ i,l<=i->i<k->KF f (arrOf st') (lo+k)<KF f (arrOf st') (lo+i)) ?i1 ?i2 ?i3) ?i4)
  case i3=>exact⟨rfl,0,k,rfl,by omega,by omega,by omega,λi hi=>by omega,λi h1 h2=>by omega⟩
  case i2=>
   rintro c z ⟨rfl,l,r,rfl,h1,h2,h3,h4,h5⟩;rw[show r=l by omega]at h5;exact⟨rfl,l,r,rfl,by omega,h4,h5⟩
  case i1=>
   rintro x c z _ hx ⟨rfl,l,r,rfl,h1,h2,h3,h4,h5⟩;dsimp only;by_cases ge:l≥r
   ·rw[iP ge];rw[show r=l by omega]at h5;exact X7 ⟨rfl,l,r,rfl,by omega,h4,h5⟩
   ·rw[iG ge];refine Wz (F7 hb h0 hk (by omega) (by omega) ?_);by_cases y:KF f (arrOf z) (lo+k)<KF f (arrOf z) (lo+(l+r) / 2)
    ·simp only[y,decide_true,if_true];exact X7 ⟨rfl,l,(l+r) / 2,rfl,by omega,by omega,by omega,h4,λi p q=>Int.lt_of_lt_of_le y (g _ _ p q)⟩
    ·simp only[y,decide_false,Tw,if_false];exact X7 ⟨rfl,(l+r) / 2+1,r,rfl,by omega,by omega,by omega,λi p=>Vz (g i ((l+r) / 2) (by omega) (by omega)) (Wh.mp y),h5⟩
  case i4=>
   rintro c z ⟨rfl,l,r,rfl,h1,h4,h5⟩;show wpS _ _ _ _ (do moveDown' (lo+k) (lo+l);pure (ForInStep.yield (none,()))) _ _;rw[moveDown'_eq];have hz:lo+k<(arrOf z).size:=by rw[hb.size];exact hk
   refine Wz (Yh (X7 ⟨rfl,hb.put (bubble_perm _ _ _) (λi hi=>NB hz (by omega) (by omega)),?_⟩));rw[show min (k+1) n=k+1 by omega];intro i j hij hj;show KF f (bubble (arrOf z) (lo+k) (lo+k - (lo+l))) (lo+i)<=KF f (bubble (arrOf z) (lo+k) (lo+k - (lo+l))) (lo+j);rw[Dk hz (by omega),Dk hz (by omega),show lo+k - (lo+k - (lo+l))=lo+l by omega];by_cases i1:i<l
   ·rw[iG (by omega),iG (by omega)];by_cases j1:j<l
    ·rw[iG (by omega),iG (by omega)];exact g _ _ hij (by omega)
    ·by_cases j2:j=l
     ·rw[iP (by omega)];exact h4 _ i1
     ·rw[iG (by omega),iP (by omega),show lo+j - 1=lo+(j - 1) by omega];exact g _ _ (by omega) (by omega)
   ·by_cases i2:i=l
    ·rw[iP (by omega)];by_cases j2:j=l
     ·rw[iP (by omega)];exact Ub _
     ·rw[iG (by omega),iP (by omega),show lo+j - 1=lo+(j - 1) by omega];exact V1 (h5 _ (by omega) (by omega))
    ·rw[iG (by omega),iP (by omega),iG (by omega),iP (by omega),show lo+i - 1=lo+(i - 1) by omega,show lo+j - 1=lo+(j - 1) by omega];exact g _ _ (by omega) (by omega)
end
def upL(lo a m:Nat):StateT SortSt Sem AscSt:=
 forIn [a:m] ((none,a):AscSt) λ_ c=>do
  match <- ltAt' (lo+c.2) (lo+c.2 - 1) with
  | some b=>if b=true then pure (.done (none,c.2)) else pure (.yield (none,c.2+1))
  | _=>pure (.done (some none,c.2))
def Gb(lo n m:Nat):StateT SortSt Sem (Option Nat):=do
 X9 lo (lo+n)
 let c <- upL lo n m
 match c.1 with
 | some r=>pure r
 | none=>pure (some c.2)
noncomputable def dnL(lo n m:Nat):StateT SortSt Sem DescSt:=
 forIn [n:m] ((none,n,0):DescSt) λ_ c=>do
  match <- ltAt' (lo+c.2.1) (lo+c.2.1 - 1) with
  | some b=>
    if b=true then
     if c.2.2>0 then do
      X9 (lo+c.2.1 - (c.2.2+1)) (lo+c.2.1)
      pure (.yield (none,c.2.1+1,0))
     else pure (.yield (none,c.2.1+1,0))
    else do
     match <- ltAt' (lo+c.2.1 - 1) (lo+c.2.1) with
     | some d=>if d=true then pure (.done (none,c.2.1,c.2.2)) else pure (.yield (none,c.2.1+1,c.2.2+1))
     | _=>pure (.done (some none,c.2.1,c.2.2))
  | _=>pure (.done (some none,c.2.1,c.2.2))
noncomputable def dpL(lo n m:Nat):StateT SortSt Sem (Option Nat):=do
 liftM (rule "list.sort.descending-run")
 let c <- dnL lo (n+1) m
 match c.1 with
 | some r=>pure r
 | none=>
   if c.2.2>0 then do
    X9 (lo+c.2.1 - (c.2.2+1)) (lo+c.2.1)
    Gb lo c.2.1 m
   else Gb lo c.2.1 m
theorem Q2(lo m:Nat):countRun' lo m=(do
 let c <- upL lo 1 m
 match c.1 with
 | some r=>pure r
 | none=>
   if (c.2 == m)=true then pure (some c.2)
   else if c.2>1 then do
    match <- ltAt' lo (lo+c.2 - 1) with
    | some b=>if b=true then pure (some c.2) else do
       X9 lo (lo+c.2)
       dpL lo c.2 m
    | _=>pure none
   else dpL lo c.2 m):=by
 rw[countRun'_eq];have e3:∀ n (f:PUnit->StateT SortSt Sem (Option Nat)),(∀ u,f u=(upL lo n m >>= λc=>match c.1 with | some r=>pure r | none=>pure (some c.2)))->(X9 lo (lo+n) >>= f)=Gb lo n m:=λn f h=>congrArg (λk=>X9 lo (lo+n) >>= k) (funext h);have up:∀ n (f g:AscSt->StateT SortSt Sem (Option Nat)),(∀ r n,f (r,n)=g (r,n))->(upL lo n m >>= f)=(upL lo n m >>= g):=λn f g h=>congrArg (λk=>upL lo n m >>= k) (funext λc=>h c.1 c.2);have dn:∀ n (f g:DescSt->StateT SortSt Sem (Option Nat)),(∀ r n q,f (r,n,q)=g (r,n,q))->(dnL lo n m >>= f)=(dnL lo n m >>= g):=λn f g h=>congrArg (λk=>dnL lo n m >>= k) (funext λc=>h c.1 c.2.1 c.2.2)
 have dp:∀ n (f:PUnit->StateT SortSt Sem (Option Nat)),(∀ u,f u=(dnL lo (n+1) m >>= λc=>match c.1 with
  | some r=>pure r
  | none=>if c.2.2>0 then do
     X9 (lo+c.2.1 - (c.2.2+1)) (lo+c.2.1)
     Gb lo c.2.1 m
    else Gb lo c.2.1 m))->(liftM (rule "list.sort.descending-run") >>= f)=dpL lo n m:=λn f h=>congrArg (λk=>liftM (rule "list.sort.descending-run") >>= k) (funext h)
 refine up 1 _ _ λr n=>?_;cases r with
 | some r=>rfl
 | none=>
   dsimp only;split
   ·rfl
   ·split
    ·refine congrArg (λk=>ltAt' lo (lo+n - 1) >>= k) (funext λx=>?_);cases x with
     | none=>rfl
     | some b=>
       dsimp only;split
       ·rfl
       ·refine congrArg (λk=>X9 lo (lo+n) >>= k) (funext λu=>?_);refine dp n _ λu=>dn (n+1) _ _ λr n q=>?_;cases r with
        | some r=>rfl
        | none=>
          dsimp only;split
          ·refine congrArg (λk=>X9 (lo+n - (q+1)) (lo+n) >>= k) (funext λu=>?_);exact e3 n _ λu=>up n _ _ λr n=>by cases r<;>rfl
          ·exact e3 n _ λu=>up n _ _ λr n=>by cases r<;>rfl
    ·refine dp n _ λu=>dn (n+1) _ _ λr n q=>?_;cases r with
     | some r=>rfl
     | none=>
       dsimp only;split
       ·refine congrArg (λk=>X9 (lo+n - (q+1)) (lo+n) >>= k) (funext λu=>?_);exact e3 n _ λu=>up n _ _ λr n=>by cases r<;>rfl
       ·exact e3 n _ λu=>up n _ _ λr n=>by cases r<;>rfl
section
variable{prog:Wr}{w:Wt}{A:Wx}{E:Wk->Wl->Prop}{s:Wl}{a₀ a1:Array Keyed}{lo:Nat}{pd:Array (Nat×Nat×Nat)}
theorem EF{st:SortSt}{i j:Nat}{Q:Unit->SortSt->Prop}(h:Q () (setArr st (mirror (arrOf st) i j ((j - i) / 2)))):wpS (Wp prog w) A E s (X9 i j) Q st:=by
 rw[reverseSlice'_eq];exact Yh h
theorem Sb.mir{st:SortSt}(hB:Sb a₀ a1 lo pd st){i j:Nat}(hi:lo<=i)(hj:j<=a₀.size):Sb a₀ a1 lo pd (setArr st (mirror (arrOf st) i j ((j - i) / 2))):=
 hB.put (mirror_perm _ _ _ _) λk hk=>NA (by rw[hB.size];exact hj) (by omega)
theorem Sg.more{xs:Array Keyed}{x:Nat}(h:Sg f xs lo x)(h1:1<=x)(hx:KF f xs (lo+x - 1)<=KF f xs (lo+x)):Sg f xs lo (x+1):=λi j hij hj=>by
 by_cases z:j<x
 ·exact h i j hij z
 ·rw[show j=x by omega];by_cases y:i=x
  ·rw[y];exact Ub _
  ·refine Vz (h i (x - 1) (by omega) (by omega)) ?_;rw[show lo+(x - 1)=lo+x - 1 by omega];exact hx
theorem Dg.more{xs ys:Array Keyed}{x:Nat}(h:Dg f xs lo x)(e:∀ k,KF f ys k=KF f xs k)(h1:1<=x)(hx:KF f xs (lo+x)<=KF f xs (lo+x - 1)):Dg f ys lo (x+1):=λi j hij hj=>by
 rw[e,e];by_cases z:j<x
 ·exact h i j hij z
 ·rw[show j=x by omega];by_cases y:i=x
  ·rw[y];exact Ub _
  ·have:=h i (x - 1) (by omega) (by omega);rw[show lo+(x - 1)=lo+x - 1 by omega]at this;exact Vz hx this
theorem OI{st:SortSt}{a m:Nat}{Q:AscSt->SortSt->Prop}(h0:LtF prog w A s f a₀)(hm:lo+m<=a₀.size)(ha:1<=a)(ham:a<=m)(hB:Sb a₀ a1 lo pd st)(hs:Sg f (arrOf st) lo a)
 (h:∀ n,a<=n->n<=m->Sg f (arrOf st) lo n->(n=m\/KF f (arrOf st) (lo+n)<KF f (arrOf st) (lo+n - 1))->Q (none,n) st):wpS (Wp prog w) A E s (upL lo a m) Q st:=by
 unfold upL;refine Xk (I:=λx c z=>z=st/\c=(none,x)/\Sg f (arrOf st) lo x) (λx c z hx hxm=>?_) (λc z=>?_) ⟨rfl,rfl,hs⟩
 ·rintro⟨rfl,rfl,g⟩;refine Wz (F7 hB h0 (by omega) (by omega) (by omega) ?_);by_cases y:KF f (arrOf z) (lo+x)<KF f (arrOf z) (lo+x - 1)
  ·simp only[y,decide_true,if_true];exact X7 (h x hx (by omega) g (.inr y))
  ·simp only[y,decide_false,Tw,if_false];exact X7 ⟨rfl,rfl,g.more (by omega) (Wh.mp y)⟩
 ·rintro⟨rfl,rfl,g⟩;rw[show max a m=m by omega]at g ⊢;exact h m ham (Sw _) g (.inl rfl)
theorem LB{st:SortSt}{n m:Nat}{Q:Option Nat->SortSt->Prop}(h0:LtF prog w A s f a₀)(hm:lo+m<=a₀.size)(h1:1<=n)(hnm:n<=m)(hB:Sb a₀ a1 lo pd st)(hs:Dg f (arrOf st) lo n)
 (h:∀ k st',Sb a₀ a1 lo pd st'->1<=k->k<=m->Sg f (arrOf st') lo k->Q (some k) st'):wpS (Wp prog w) A E s (Gb lo n m) Q st:=by
 unfold Gb;have hz:lo+n<=(arrOf st).size:=by rw[hB.size];omega
 have hB':=hB.mir (i:=lo) (j:=lo+n) (Sw _) (by omega);refine Wz (EF (Wz (OI h0 hm h1 hnm hB' (λi j hij hj=>?_) λk k1 k2 g _=>X7 (h k _ hB' (by omega) k2 g))));show KF f (mirror (arrOf st) lo (lo+n) _) (lo+i)<=KF f (mirror (arrOf st) lo (lo+n) _) (lo+j);rw[CD hz,CD hz,iP (by omega),iP (by omega)];have:=hs (n - 1 - j) (n - 1 - i) (by omega) (by omega);rw[show lo+(n - 1 - j)=lo+(lo+n) - 1 - (lo+j) by omega,show lo+(n - 1 - i)=lo+(lo+n) - 1 - (lo+i) by omega]at this;exact this
theorem Rk{st:SortSt}{n m:Nat}{Q:DescSt->SortSt->Prop}(h0:LtF prog w A s f a₀)(hm:lo+m<=a₀.size)(h1:1<=n)(hnm:n<=m)(hB:Sb a₀ a1 lo pd st)(hs:Dg f (arrOf st) lo n)
 (h:∀ x q st',Sb a₀ a1 lo pd st'->n<=x->x<=m->Dg f (arrOf st') lo x->q+1<=x->(∀ i,lo+x - (q+1)<=i->i<lo+x->KF f (arrOf st') i=KF f (arrOf st') (lo+x - 1))->Q (none,x,q) st'):wpS (Wp prog w) A E s (dnL lo n m) Q st:=by
 unfold dnL;refine Xk (I:=λx c z=>∃ q,c=(none,x,q)/\Sb a₀ a1 lo pd z/\Dg f (arrOf z) lo x/\q+1<=x/\∀ i,lo+x - (q+1)<=i->i<lo+x->KF f (arrOf z) i=KF f (arrOf z) (lo+x - 1)) (λx c z hx hxm=>?_) (λc z=>?_) ⟨0,rfl,hB,hs,by omega,λi a b=>by congr 1;omega⟩
 ·rintro⟨q,rfl,hb,g,hq,he⟩;have hz:lo+x<=(arrOf z).size:=by rw[hb.size];omega
  dsimp only;refine Wz (F7 hb h0 (by omega) (by omega) (by omega) ?_);by_cases y:KF f (arrOf z) (lo+x)<KF f (arrOf z) (lo+x - 1)
  ·simp only[y,decide_true,if_true];by_cases p:q>0
   ·rw[iP p];exact Wz (EF (X7 ⟨0,rfl,hb.mir (by omega) (by omega),g.more (v8 hz he) (by omega) (V1 y),by omega,λi a b=>by congr 1;omega⟩))
   ·rw[iG p];exact X7 ⟨0,rfl,hb,g.more (λ_=>rfl) (by omega) (V1 y),by omega,λi a b=>by congr 1;omega⟩
  ·simp only[y,decide_false,Tw,if_false];refine Wz (F7 hb h0 (by omega) (by omega) (by omega) ?_);by_cases v:KF f (arrOf z) (lo+x - 1)<KF f (arrOf z) (lo+x)
   ·simp only[v,decide_true,if_true];exact X7 (h x q z hb hx (by omega) g hq he)
   ·simp only[v,decide_false,Tw,if_false];have e:KF f (arrOf z) (lo+x)=KF f (arrOf z) (lo+x - 1):=by omega
    refine X7 ⟨q+1,rfl,hb,g.more (λ_=>rfl) (by omega) (by omega),by omega,λi a b=>?_⟩;rw[show lo+(x+1) - 1=lo+x by omega];by_cases u:i=lo+x
    ·rw[u]
    ·rw[e];exact he i (by omega) (by omega)
 ·rintro⟨q,rfl,hb,g,hq,he⟩;rw[show max n m=m by omega]at g hq he ⊢;exact h m q z hb hnm (Sw _) g hq he
theorem OJ{st:SortSt}{n m:Nat}{Q:Option Nat->SortSt->Prop}(h0:LtF prog w A s f a₀)(hm:lo+m<=a₀.size)(hnm:n+1<=m)(hB:Sb a₀ a1 lo pd st)(hs:Dg f (arrOf st) lo (n+1))
 (h:∀ k st',Sb a₀ a1 lo pd st'->1<=k->k<=m->Sg f (arrOf st') lo k->Q (some k) st'):wpS (Wp prog w) A E s (dpL lo n m) Q st:=by
 unfold dpL;refine Wz (wpS_lift (XZ ⟨rfl,?_⟩));refine Wz (Rk h0 hm (by omega) hnm hB hs λx q st' hb hx1 hx2 g hq he=>?_);have hz:lo+x<=(arrOf st').size:=by rw[hb.size];omega
 dsimp only;by_cases p:q>0
 ·rw[iP p];refine Wz (EF (LB h0 hm (by omega) hx2 (hb.mir (by omega) (by omega)) (λi j hij hj=>?_) h));show KF f (mirror (arrOf st') _ _ _) (lo+j)<=KF f (mirror (arrOf st') _ _ _) (lo+i);rw[v8 hz he,v8 hz he];exact g i j hij hj
 ·rw[iG p];exact LB h0 hm (by omega) hx2 hb g h
theorem Q3{st:SortSt}{m:Nat}{Q:Option Nat->SortSt->Prop}(h0:LtF prog w A s f a₀)(hm:lo+m<=a₀.size)(h1:1<=m)(hB:Sb a₀ a1 lo pd st)
 (h:∀ k st',Sb a₀ a1 lo pd st'->1<=k->k<=m->Sg f (arrOf st') lo k->Q (some k) st'):wpS (Wp prog w) A E s (countRun' lo m) Q st:=by
 rw[Q2];refine Wz (OI h0 hm (Sw 1) h1 hB (λi j hij hj=>by rw[show i=j by omega];exact Ub _) λn n1 n2 g hor=>?_);dsimp only;by_cases e:n=m
 ·rw[iP (by simpa using e)];exact X7 (h n st hB n1 n2 g)
 ·rw[iG (by simpa using e)];have hlt:=hor.resolve_left e;by_cases z:n>1
  ·rw[iP z];refine Wz (F7 hB h0 (by omega) (by omega) (by omega) ?_);by_cases y:KF f (arrOf st) lo<KF f (arrOf st) (lo+n - 1)
   ·simp only[y,decide_true,if_true];exact X7 (h n st hB n1 n2 g)
   ·simp only[y,decide_false,Tw,if_false];have hz:lo+n<=(arrOf st).size:=by rw[hB.size];omega
    have al:∀ k,lo<=k->k<lo+n->KF f (arrOf st) k=KF f (arrOf st) (lo+n - 1):=λk a b=>by
     have p:=g 0 (k - lo) (by omega) (by omega);have q:=g (k - lo) (n - 1) (by omega) (by omega);rw[show lo+(k - lo)=k by omega]at p q;rw[show lo+(n - 1)=lo+n - 1 by omega]at q;rw[Nat.add_zero]at p;omega
    refine Wz (EF (OJ h0 hm (by omega) (hB.mir (Sw _) (by omega)) ?_ h));refine Dg.more (xs:=arrOf st) (λi j hij hj=>?_) (v8 hz al) (by omega) (V1 hlt);rw[al _ (by omega) (by omega),al (lo+i) (by omega) (by omega)];exact Ub _
  ·rw[iG z];have:n=1:=by omega
   subst this;refine OJ h0 hm (by omega) hB ?_ h;exact Dg.more (xs:=arrOf st) (λi j hij hj=>by rw[show i=j by omega];exact Ub _) (λ_=>rfl) (Sw _) (V1 hlt)
theorem NC{st:SortSt}{Q:Unit->SortSt->Prop}(h0:LtF prog w A s f a₀)(hB:Sb a₀ a₀ 0 #[] st)(h2:2<=a₀.size)(h64:a₀.size<64)
 (h:∀ st',(arrOf st').Perm a₀->Xx st'=none->Sg f (arrOf st') 0 a₀.size->Q () st'):wpS (Wp prog w) A E s sortRuns' Q st:=by
 rw[sortRuns'_eq];refine Wz (wpS_get ?_);dsimp only
 have hmr:minRun' a₀.size a₀.size 0=a₀.size:=by
  obtain⟨f,hf⟩:∃ f,a₀.size=f+1:=⟨a₀.size - 1,by omega⟩
  have:minRun' (f+1) a₀.size 0=a₀.size:=by rw[minRun'_succ,iP h64];rfl
  rwa [<-hf]at this
 simp only[hB.size,hmr]
 let Dn:SortSt->Prop:=λz=>(arrOf z).Perm a₀/\Xx z=none/\Xq z=#[(0,a₀.size,0)]/\Sg f (arrOf z) 0 a₀.size
 have dn:∀ z,Sb a₀ a₀ 0 #[] z->Sg f (arrOf z) 0 a₀.size->Dn (setPending z ((Xq z).push (0,a₀.size,0))):=λz b g=>⟨b.perm,b.failed,by show(Xq z).push _=_;rw[b.pend];rfl,g⟩
 refine Wz (ZD (Xk (I:=λx c z=>(x=0/\c=(none,0)/\Sb a₀ a₀ 0 #[] z)\/(1<=x/\c=(none,a₀.size)/\Dn z)) (Q:=λc z=>c=(none,a₀.size)/\Dn z) ?step ?fin (.inl ⟨rfl,rfl,hB⟩)) ?post)
 case fin=>
  rintro c z (⟨hx,_,_⟩ | ⟨_,hc,hD⟩)
  ·omega
  ·exact⟨hc,hD⟩
 case step=>
  rintro x c z _ hx (⟨rfl,rfl,hb⟩ | ⟨hx1,rfl,hD⟩)
  ·dsimp only;rw[iG (by omega)];simp only[Nat.sub_zero,Nat.min_self,Ui];refine Wz (Q3 h0 (by omega) (by omega) hb λm z2 b2 hm1 hm2 g2=>?_);dsimp only;by_cases hlt:m<a₀.size
   ·rw[iP hlt];refine Wz (wpS_lift (XZ ⟨rfl,?_⟩));refine Wz (Q1 h0 (by omega) hm2 b2 g2 λz3 b3 g3=>?_);simp only[Wa,Tw,if_false];refine Wz (wpS_get ?_);have hb:(Xq z3).back?=none:=by rw[b3.pend];rfl
    rw[hb];dsimp only;exact Wz (Yh (X7 (.inr ⟨by omega,rfl,dn _ b3 g3⟩)))
   ·rw[iG hlt];have hm:m=a₀.size:=by omega
    subst hm;refine Wz (wpS_get ?_);have hb:(Xq z2).back?=none:=by rw[b2.pend];rfl
    rw[hb];dsimp only;exact Wz (Yh (X7 (.inr ⟨by omega,rfl,dn _ b2 g2⟩)))
  ·dsimp only;rw[iP (Sw _)];exact X7 ⟨rfl,hD⟩
 case post=>
  rintro c z ⟨rfl,hD⟩;dsimp only;refine Wz (ZD (Xk (I:=λ_ c y=>y=z/\c=(none,())) (Q:=λc y=>y=z/\c=(none,())) ?_ (λ_ _ hh=>hh) ⟨rfl,rfl⟩) ?_)
  ·rintro x c y _ _ ⟨rfl,rfl⟩;refine Wz (wpS_get ?_);rw[iP (by rw[hD.2.2.1];exact Sw 1)];exact X7 ⟨rfl,rfl⟩
  ·rintro c y ⟨rfl,rfl⟩;exact X7 (h _ hD.1 hD.2.1 hD.2.2.2)
end
def ND(f:Wk->Int)(vs out:List Wk):Prop:=out.Perm vs/\(out.map f).Pairwise (·<=·)
section
open L2
variable{prog:Wr}{w:Wt}{A:Wx}{E:Wk->Wl->Prop}{s:Wl}
theorem Hl{vs:List Wk}{xs:Array Keyed}(hp:xs.Perm (vs.toArray.zip vs.toArray))(g:Sg f xs 0 vs.length):ND f vs (xs.map (·.2)).toList:=by
 have pl:=V4.mp hp;have zl:(vs.toArray.zip vs.toArray).toList=vs.zip vs:=by simp
 rw[zl]at pl;have sz:xs.size=vs.length:=by rw[hp.size_eq];simp
 have e:∀ p∈xs.toList,p.1=p.2:=λp hq=>by
  have:=pl.mem_iff.mp hq;obtain⟨i,hi⟩:=UB this;rw[V7]at hi;exact oj (hi.1.symm.trans hi.2)
 refine⟨?_,?_⟩
 ·have:=pl.map Prod.snd;rw[List.map_snd_zip (Sw _)]at this
  rwa [W8]
 ·rw[W8,TX,V6];intro i j hi hj hij;have hi':i<xs.size:=by simpa using hi
  have hj':j<xs.size:=by simpa using hj
  have q:=g i j (U7 hij) (sz▸hj');rw[Ui,Ui]at q;unfold KF at q;rw[getElem?_pos _ i hi',getElem?_pos _ j hj']at q;have e1:=e xs[i] (by simp);have e2:=e xs[j] (by simp);simp only[List.getElem_map,Function.comp,Uv];rw[<-e1,<-e2];exact q
theorem LC{a:Wm}{vs:List Wk}{n:Nat}{P:Fin->Wl->Prop}(hu:A.units<cLine)(ho:s.heap.get? a=some (seqObj "list" vs.toArray n))(h64:vs.length<64)
 (hp:∀ v∈vs,v ≠ .ref a/\Kz s.heap v (f v)) (nd:(vs.map f).Nodup)
 (h:∀ out:Array Wk,ND f vs out.toList->P (.done (.ret .none)) {s with heap:=sortedHeap s.heap a vs out}):
 Wo (Wp prog w) A (Builtin.«list.sort» ⟨[.ref a],[]⟩) P E s:=by
 have z0:vs.toArray.size=vs.length:=Sq ..;obtain⟨e1,ho1⟩:∃ e1,(s.heap.update a (Obj.mapSeq λ_=>#[])).get? a=some (seqObj "list" #[] e1):=⟨_,Xg ho (λ_=>#[])⟩
 rw[list_sort_plain];refine Wj (Yr ho rfl (Wj (XW ho rfl (Wj (Y1 ho1 rfl (Wj (Xw (Wj (Xn (X6 ?_) (U4 _))) (y6 (z0▸h64)))))) (y6 (z0▸h64)) (U4 _))));generalize hh:((s.heap.update a (Obj.mapSeq λ_=>(#[]:Array Wk))).push (seqObj "tuple" vs.toArray 0)).push (seqObj "list" #[] 0)=h6;have hk:∀ p o,p≠a->s.heap.get? p=some o->h6.get? p=some o:=λp o hpa e=>hh▸Sh _ (Sh _ ((Tv _ _ (Ne.symm hpa)).trans e));have ho6:h6.get? a=some (seqObj "list" #[] e1):=hh▸Sh _ (Sh _ ho1)
 have hp6:∀ v∈vs,Kz h6 v (f v):=λv hv=>by
  obtain⟨na,p,its,t,e,⟨o,ho',r⟩,hi⟩:=hp v hv;exact⟨p,its,t,e,⟨o,hk p o (λz=>na (by rw[e,z])) ho',r⟩,hi⟩
 have fin:∀ out:Array Wk,ND f vs out.toList->Wo (Wp prog w) A (ret .none) P E {s with heap:=h6.update a (Obj.mapSeq λ_=>out)}:=λout g=>by subst hh;exact Wn (h _ g)
 have fits:∀ st':SortSt,(arrOf st').Perm (vs.toArray.zip vs.toArray)->((arrOf st').map (·.2)).size<=Ws:=λst' hq=>y6 (by rw[WV,hq.size_eq,Vb,z0];omega);show Wo (Wp prog w) A _ P E {s with heap:=h6};dsimp only;by_cases h2:vs.toArray.size<2
 ·rw[iP h2,iP h2];refine Wj (Wn ?_);rw[StateT.run_pure];refine Wj (Wn ?_);dsimp only;refine(Wj (Y1 ho6 rfl (Wj (XW ho6 rfl ?_ (U4 _) (Um (fits (SortSt.mk' Yq (vs.toArray.zip vs.toArray) #[] 7 none) (V3.refl _)))))));simp only[bne_self_eq_false,Tw,if_false];refine fin _ (Hl (xs:=vs.toArray.zip vs.toArray) (V3.refl _) λi j hij hj=>?_);rw[z0]at h2;rw[show i=j by omega];exact Ub _
 ·rw[iG h2,iG h2];rw[z0]at h2
  have hkk:∀(Q:YX->Wl->Prop),Q ZC {s with heap:=h6}->Wo (Wp prog w) A (keyKind' vs.toArray) Q E {s with heap:=h6}:=by
   intro Q hQ;cases vs with
   | nil=>exact absurd (Nat.zero_lt_two) h2
   | cons v r=>
     refine GH (λu hu=>?_) hQ;obtain⟨p,its,t,rfl,⟨o,ho',hc',_⟩,_⟩:=hp6 u hu;exact⟨o,ho',hc'⟩
  refine Wj (hkk _ ?_);have zl:(vs.toArray.zip vs.toArray).toList=vs.zip vs:=by simp
  have zz:(vs.toArray.zip vs.toArray).size=vs.length:=by simp
  refine Wj (XH (NC (a₀:=vs.toArray.zip vs.toArray) (st:=SortSt.mk' ZC (vs.toArray.zip vs.toArray) #[] 7 none) (Q:=λ_ st'=>(arrOf st').Perm (vs.toArray.zip vs.toArray)/\Xx st'=none/\Sg f (arrOf st') 0 vs.length)
   ⟨λp hp' q hq' ne E' Q hQ=>?_,?_⟩ ⟨V3.refl _,rfl,rfl,rfl,λ_ z=>nomatch z⟩ (by omega) (by omega) λst' a1 a2 a3=>⟨a1,a2,zz▸a3⟩) ?_ λ_ _ e=>e)
  ·rw[zl]at hp' hq';exact F3 hu (hp6 _ (U8 (show(p.1,p.2)∈vs.zip vs from hp')).1) (hp6 _ (U8 (show(q.1,q.2)∈vs.zip vs from hq')).1) ne hQ
  ·rw[zl,show(λp:Keyed=>f p.1)=f∘Prod.fst from rfl,<-TX,W6 (Sw _)];exact nd
  ·rintro⟨⟨⟩,st'⟩ s' ⟨rfl,hq,hf,g⟩;dsimp only;refine Wj (Y1 ho6 rfl (Wj (XW ho6 rfl ?_ (U4 _) (Um (fits st' hq)))));rw[hf];simp only[bne_self_eq_false,Tw,if_false];exact fin _ (Hl hq g)
end
section
open L2
variable{prog:Wr}{w:Wt}{A:Wx}{E:Wk->Wl->Prop}{s:Wl}{X:Cx}
theorem Gc{l:Wm}{vs:List Wk}{Q:Wk->Wl->Prop}(hu:A.units+2<cLine)(hl:s.heap.IsList l vs.toArray)(h64:vs.length<64)(hp:∀ v∈vs,Kz s.heap v (f v))(nd:(vs.map f).Nodup)
 (h:∀ out:Array Wk,ND f vs out.toList->Q (.ref (s.heap.objs.size+1)) {s with heap:=sortedAll s.heap vs out}):Wo (Wp prog w) A (call (.builtin "sorted") [.ref l]) Q E s:=by
 have z0:vs.toArray.size=vs.length:=Sq ..;refine Calls.call_function_entry Yz Yo Yp (args_sorted1 _) ?_;refine Wj (m:=Z9 "sorted" 1 1 _) (Wn (Wj (collect_list hl (Wj (Xn ?_ (y6 (z0▸h64)))) (y6 h64))));have up:((s.heap.push (seqObj "list" #[] 0)).update s.heap.objs.size (Obj.mapSeq (·++vs.toArray))).objs.size=s.heap.objs.size+1:=(Uj ..).trans (Yg ..);have ho:(Two s.heap vs).get? (s.heap.objs.size+1)=some (seqObj "list" vs.toArray 0):=up▸Sr _ rfl;have K:Kpt s.heap (Two s.heap vs):=Al (Bp (Ut (Sw _)) (Al λ_ _ q=>q));show Wo _ _ _ _ _ {s with heap:=Two s.heap vs};rw[up];refine Wj (X6 (X5 YW ⟨_,ho,rfl⟩ YL (LC (f:=f) (by show A.units+1+1<cLine;omega) ho h64 (λv hv=>?_) nd λout g=>⟨_,rfl,?_⟩) (ZA _)))
 ·obtain⟨p,its,t,rfl,⟨o,ho',r⟩,hi⟩:=hp v hv;exact⟨λz=>Sx (UM (Sj ho')) (by injection z),p,its,t,rfl,⟨o,K p o ho',r⟩,hi⟩
 ·exact Wn ⟨_,rfl,h out g⟩
def fOf(g:Wm->Int):Wk->Int
 | .ref p=>g p
 | _=>0
theorem call_sortedF(hu:X.A.units+2<cLine):CallR X (.builtin "sorted") (λxs H Q=>∃(p:Wm) (ps:List Wm) (g:Wm->Int),xs=[.ref p]/\SqL X.K H p (ps.map V.ref)/\(∀ q∈ps,∃ t,H q=some (.lst (.int (g q)::t)))/\(ps.map g).Nodup/\ps.length<64/\
 ∀ l (ps':List Wm),H l=none->ps'.Perm ps->(ps'.map g).Pairwise (·<=·)->Q (.ref l) (upd H l (.lst (ps'.map V.ref)))):=by
 intro pins s σ H xs us Q I r h;obtain⟨p,ps,g,rfl,hq,hps,nd,h64,q⟩:=h;obtain⟨u,rfl,rx⟩:=AV r;cases rx;obtain⟨its,r',pl,hz⟩:=I.list hq;have ei:=Ay r';subst ei;have mf:∀ qs:List Wm,(qs.map Value.ref).map (fOf g)=qs.map g:=λqs=>by rw[TX];rfl
 refine Gc (f:=fOf g) hu pl.isList (by simpa using h64) (λv hv=>?_) (by rw[mf];exact nd) λout ⟨pm,pw⟩=>?_
 ·obtain⟨p',hp',rfl⟩:=TR.mp hv;obtain⟨t,hn⟩:=hps p' hp';obtain⟨i2,r2,l2,_⟩:=I.list (SqL.of hn);cases r2 with
  | cons r1 r2=>
    obtain⟨t1,rfl⟩:=r1;exact⟨p',_,t1,rfl,l2.isList,by simp[fOf]⟩
 ·have e1:out.toList=(out.toList.map DM).map Value.ref:=by
   rw[TX]
   conv=>lhs;rw[<-Vc out.toList]
   refine UP λv hv=>?_;obtain⟨p',_,rfl⟩:=TR.mp (pm.mem_iff.mp hv);rfl
  have e2:(out.toList.map DM).Perm ps:=by
   have:=pm.map DM;rw[TX]at this;simpa[Function.comp_def,DM] using this
  obtain⟨e,he⟩:=sortedAll_at s.heap (ps.map Value.ref) out;rw[e1,mf]at pw
  have rv:Vals ((out.toList.map DM).map V.ref) out.toList:=by
   have:=Db (out.toList.map DM);rw[<-e1]at this;exact this
  have hz2:((out.toList.map DM).map V.ref).length<=Ws:=by
   rw[Se]at hz ⊢;rw[e2.length_eq];exact hz
  exact⟨.ref (s.heap.objs.size+1),_,I.laid (t':=s.toks) (λb o h=>sortedAll_old h) (UK _) (show ObjOk X.prog X.w _ _ _ (.lst ((out.toList.map DM).map V.ref)) from ⟨hz2,out.toList,e,rv,by simpa using he⟩),rfl,q _ _ (I.hok.fresh (UK _)) e2 pw⟩
end
end Srf
namespace Rf
open PySem L2
theorem Dl{a:WE}(m:Mono a):Mono (Kh a):=λρ S P P' i h=>m _ _ _ _ (λx S1 ⟨k,ls,g,a,b,c,d,l,q⟩=>⟨k,ls,g,a,b,c,d,l,λls' p w=>i _ _ (q ls' p w)⟩) h
theorem BQ:Mono2 Er:=λx y S P P' i ⟨k,l,ls,f,a,b,c,d,e,q⟩=>⟨k,l,ls,f,a,b,c,d,e,i _ _ q⟩
section
variable{K:Sd}{as:List Wm}{H:Hp}
theorem Gd{k:Nat}{p:Wm}(nd:as.Nodup)(e:as[k]?=some p):as.idxOf p=k:=by
 obtain⟨h,rfl⟩:=gM e;exact List.Nodup.idxOf_getElem nd k h
theorem Hm:∀{ps:List Wm},(∀ p∈ps,as[as.idxOf p]?=some p)->RlAll K as H (ps.map V.ref) ((ps.map as.idxOf).map SV.loc)
 | [],_ => .nil
 | p::ps,h => .cons (rl_loc.mpr ⟨p,h p TJ,rfl⟩) (Hm λq hq=>h q (T8 _ hq))
theorem F8{ls:List Nat}{ps:List Wm}(nd:as.Nodup)(hl:ps.length=ls.length)(h:∀(i:Nat) p,ps[i]?=some p->∃ l,ls[i]?=some l/\as[l]?=some p):ps.map as.idxOf=ls/\∀ p∈ps,as[as.idxOf p]?=some p:=by
 refine⟨Vt λi=>?_,λp hp=>?_⟩
 ·rw[Sm];cases e:ps[i]? with
  | none=>rw[Uq (hl▸List.getElem?_eq_none_iff.mp e)];rfl
  | some p=>obtain⟨l,e1,e2⟩:=h i p e;rw[e1,UN,Gd nd e2]
 ·obtain⟨i,hi⟩:=UB hp;obtain⟨l,_,e2⟩:=h i p hi;rw[Gd nd e2];exact e2
theorem F9:BV K Er (λx y H Q=>∃(a p:Wm) (ps:List Wm) (f:Wm->List Int),x = .ref a/\y = .ref p/\SqL K H p (ps.map V.ref)/\H a=some (.lst ((f a).map V.int))/\(∀ q∈ps,H q=some (.lst ((f q).map V.int)))/\Q (.bl (!(ps.any λq=>decide (f q=f a)))) H):=λas H S x y v u Q ok rx ry h=>by
 obtain⟨k,l,ls,f,rfl,rfl,h1,h2,h3,q⟩:=h;obtain⟨a,_,rfl,ea,ha,ra⟩:=n4 ok rx h1;obtain⟨p,us,rfl,ep,hp,rr⟩:=n4 ok ry h2;obtain⟨ps,rfl,l1,p1⟩:=F6 rr;obtain⟨e1,e2⟩:=F8 ok.nd l1 p1;rw[CU ra]at ha;have ia:=Gd ok.nd ea;subst ia;refine⟨a,p,ps,λz=>f (as.idxOf z),rfl,rfl,SqL.of hp,ha,λz hz=>?_,?_⟩
 ·have m:as.idxOf z∈ls:=e1▸TZ hz;obtain⟨vs,z1,z2⟩:=ok.obj _ _ z (h3 _ m) (e2 z hz);rw[CU z2]at z1;exact z1
 ·have:=q.here ok (rl_bl.mpr rfl);rw[<-e1,VR]at this;exact this
end
theorem Ge{X:Cx}{ra rb:Expr}{p:Pos}{wa wb:WE}(hu:X.A.units+1<cLine)(ha:PE X ra (lift X.K wa))(hb:PE X rb (lift X.K wb))(ma:Mono wa)(mb:Mono wb)(hn:AR rb=true):Good X (.Compare ra [.NotIn] [rb] p) (tt2 (w2 Er wa wb)):=by
 have m:Mono (w2 Er wa wb) := .two BQ ma mb
 exact{pe:=i5 _ (HF (Ck hu) ha hb (BD hn)) (BP F9 BQ ma mb)
       pt:=Cn _ (HG (Ck hu) ha hb (BD hn)) λσ H Q h=>BP F9 BQ ma mb σ H _ (GT m σ H Q h)
       m:=m
       mt := .bl m
       pw:=λ_ _ _ e=>by cases e}
theorem Gf{X:Cx}{T:List Str}{Δ:Nat->Sn}{k:Nat}{N:List Str}{sc:Ww}{r:Expr}{p q:Pos}{a:WE×WT}(hu:X.A.units+2<cLine)(C:Cok T Δ X k N sc)(hg:glo sc "sorted"=true)(ha:Good X r a)(hs:f9 r=true):Good X (.Call (.Name "sorted" p) [r] [] q) (tt1 (Kh a.1)):=by
 unfold glo at hg;simp only[Sf,bQ,TQ]at hg;have gl:Gl X "sorted":=by show X.env.scope.names.lookup ("sorted":Str)=_;rw[C.hs];exact hg.1.1
 refine .one (i5 _ (v0 (Srf.call_sortedF hu) gl (C.bl .sorted) Da (n0 ha.pe AF (g9 hs)) (by decide) hg.2 (g9 hs) rfl) ?_) (Dl ha.m) rfl;rintro σ H Q ⟨as,ρ,S,ok,en,h⟩;refine⟨as,ρ,S,ok,en,ha.m _ _ _ _ (λx S1 ⟨k,ls,g,e0,h1,h2,h3,h4,q⟩ as1 H1 v g1 ok1 rv=>?_) h⟩;subst e0;obtain⟨a,us,rfl,ea,ha,rr⟩:=n4 ok1 rv h1;obtain⟨ps,rfl,l1,p1⟩:=F6 rr;obtain⟨e1,e2⟩:=F8 ok1.nd l1 p1;have em:∀ qs:List Wm,qs.map (λz=>g (as1.idxOf z))=(qs.map as1.idxOf).map g:=λqs=>by rw[TX];rfl
 refine⟨a,ps,λz=>g (as1.idxOf z),rfl,SqL.of ha,λz hz=>?_,by rw[em,e1];exact h3,by omega,λl ps' hl pm pw=>?_⟩
 ·have m:as1.idxOf z∈ls:=e1▸TZ hz;obtain⟨t,ht⟩:=h2 _ m;obtain⟨vs,z1,z2⟩:=ok1.obj _ _ z ht (e2 z hz);obtain⟨v,t,rfl,w1,w2⟩:=rla_cons.mp z2;rw[rl_int.mp w1]at z1;exact⟨t,z1⟩
 ·exact q (ps'.map as1.idxOf) (e1▸pm.map as1.idxOf) (em ps'▸pw) _ _ _ (g1.trans (Go.push hl)) (ok1.push hl (Hm λz hz=>e2 z (pm.mem_iff.mp hz))) (rl_loc.mpr ⟨l,by rw[<-ok1.len];exact Tb,rfl⟩)
end Rf
namespace L2
open PySem PySem.Spec PyProof.Rows
def IterK(k:Bool)(h:Heap)(it l:Wm)(i:Nat):Prop:=match k with
 | true=>h.IsTupleIter it l i
 | false=>h.IsListIter it l i
theorem IterK.obj{k:Bool}{h:Heap}{it l:Wm}{i:Nat}(x:IterK k h it l i):∃ o,h.get? it=some o/\∀ v,o.data ≠ .cell v:=by
 cases k<;>(obtain⟨o,e,_,d⟩:=x;exact⟨o,e,λv q=>by rw[d]at q;cases q⟩)
theorem IterK.at{k:Bool}{h h':Heap}{it l:Wm}{i:Nat}(x:IterK k h it l i)(f:∀ o,h.get? it=some o->h'.get? it=some o):IterK k h' it l i:=by
 cases k
 ·exact Heap.IsListIter.at x f
 ·exact Heap.IsTupleIter.at x f
end L2
namespace Rf
open PySem L2
noncomputable def FA(K:Sd)(g:Tg):TG:=λv σ H Q=>∃ as ρ S x,Ok K as H S/\EnvOk K as H σ ρ/\Rl K as H v x/\wTg g x ρ λρ'=>∀ σ',EnvOk K as H σ' ρ'->Q σ' H
noncomputable def Q4(K:Sd)(g:Tgs):TGs:=λvs σ H Q=>∃ as ρ S xs,Ok K as H S/\EnvOk K as H σ ρ/\RlAll K as H vs xs/\AU g xs ρ λρ'=>∀ σ',EnvOk K as H σ' ρ'->Q σ' H
mutual
theorem y9:∀(g:Tg) {x:SV} {ρ:EnvS} {P P':EnvS->Prop},(∀ r,P r->P' r)->wTg g x ρ P->wTg g x ρ P'
 | .nm i,x,ρ,P,P',h,q=>by unfold wTg at q ⊢;exact h _ q
 | .tup ts,x,ρ,P,P',h,q=>by
   cases x with
   | tup xs=>unfold wTg at q ⊢;exact FB ts h q
   | _=>unfold wTg at q;exact q.elim
theorem FB:∀(g:Tgs) {x:List SV} {ρ:EnvS} {P P':EnvS->Prop},(∀ r,P r->P' r)->AU g x ρ P->AU g x ρ P'
 | .nil,x,ρ,P,P',h,q=>by
   cases x with
   | nil=>unfold AU at q ⊢;exact h _ q
   | cons _ _=>unfold AU at q;exact q.elim
 | .cons t ts,x,ρ,P,P',h,q=>by
   cases x with
   | nil=>unfold AU at q;exact q.elim
   | cons y ys=>unfold AU at q ⊢;exact y9 t (λr q=>FB ts h q) q
end
theorem BF{env:Env}:∀{es:List Expr},es.all f9=true->(XI es env).length=es.length/\(XI es env).findIdx? (·.1)=none/\∀ e r,es=e::r->(XI (e::r) env).map (·.2)=assign e env::(XI r env).map (·.2)
 | [],_=>⟨rfl,rfl,λe r h=>by cases h⟩
 | e::es,h=>by
   rw[U6,Sf]at h;obtain⟨h1,h2,_⟩:=BF (env:=env) h.2;have:XI (e::es) env=(false,assign e env)::XI es env:=by cases e<;>first | rfl | (have:=h.1;cases this)
   rw[this];refine⟨by simp[h1],by rw[List.findIdx?_cons,h2];rfl,λe' r z=>?_⟩;injection z with z1 z2;subst z1 z2;rw[this];rfl
theorem CF{k:Nat}{N:List Str}{sc:Ww}:∀{g:Tgs} {es:List Expr},AT k N sc g es=true->es.all f9=true
 | .nil,es,h=>by unfold AT at h;rw[U1]at h;subst h;rfl
 | .cons t ts,es,h=>by
   rw[AT]at h;replace h:=c7 h;obtain⟨e,he,h⟩:=h;simp only[Sf]at h;rw[AX he,U6,h.1.2,CF h.2];rfl
section
variable{X:Cx}{T:List Str}{Δ:Nat->Sn}{k:Nat}{N:List Str}{sc:Ww}
mutual
theorem Bu(C:Cok T Δ X k N sc):∀(g:Tg) (r:Expr),Ba k N sc g r=true->PG X r (FA X.K g)
 | .nm i,r,h=>by
   rw[Ba]at h;replace h:=c7 h;obtain⟨x,hx,h⟩:=h;obtain⟨p,rfl⟩:=AS hx
   ·simp only[Sf,dQ]at h;obtain⟨⟨h1,h2⟩,h3⟩:=h;unfold loc at h3;simp only[Ti,bQ]at h3;have hl:Loc X.env.scope x:=by rw[C.hs];exact h3
    have hf:X.fn x=true\/X.env.scope.names.lookup x=some .local:=by
     rw[C.hs];rcases h3 with h3 | h3
     ·exact .inr h3
     ·exact .inl (C.fn i x h1 h2 h3)
    have b:=MG (X:=X) (pos:=p) (i:=i) (by rw[C.hN];exact C.nd) (by rw[C.hN];exact h2) hl hf;intro pins s σ H v u Q I rr hq;obtain⟨as,ρ,S,y,ok,en,rv,q⟩:=hq;unfold wTg at q;exact b pins s σ H v u Q I rr (q _ (en.set rv))
 | .tup ts,r,h=>by
   rw[Ba]at h;replace h:=c7 h;obtain⟨es,he,h⟩:=h;obtain⟨j,p,rfl⟩:=Bs he
   ·have st:=BF (env:=X.env) (CF h);have b:=Oo (X:=X) (k:=j) (pos:=p) C.calm (Dm C ts es h) st.1 st.2.1;intro pins s σ H v u Q I rr hq;refine b pins s σ H v u Q I rr ?_;obtain⟨as,ρ,S,y,ok,en,rv,q⟩:=hq;cases y with
    | tup xs=>
      obtain⟨a,vs,rfl,ha,ra⟩:=rl_tup.mp rv;unfold wTg at q;refine⟨a,vs,rfl,SqT.of ha,?_,as,ρ,S,xs,ok,en,ra,q⟩;rw[ra.length];exact Hn ts es xs h q
    | _=>unfold wTg at q;exact q.elim
theorem Dm(C:Cok T Δ X k N sc):∀(g:Tgs) (es:List Expr),AT k N sc g es=true->PGs X es (Q4 X.K g)
 | .nil,es,h=>by
   rw[AT]at h;rw[U1]at h;subst h;intro pins s σ H vs us Q I rr hq;refine MH pins s σ H vs us Q I rr ?_;obtain⟨as,ρ,S,xs,ok,en,rv,q⟩:=hq;cases xs with
   | nil=>unfold AU at q;exact⟨rla_nil.mp rv,q _ en⟩
   | cons _ _=>unfold AU at q;exact q.elim
 | .cons t ts,el,h=>by
   have st:=BF (env:=X.env) (CF h);rw[AT]at h;replace h:=c7 h;obtain⟨e,he,h⟩:=h;simp only[Sf]at h;rw[AX he]at st ⊢;generalize el.tail=es at h st;intro pins s σ H vs us Q I rr hq;refine Jd (Bu C t e h.1.1) (Dm C ts es h.2) (st.2.2 _ _ rfl) pins s σ H vs us Q I rr ?_;obtain⟨as,ρ,S,xs,ok,en,rv,q⟩:=hq;cases xs with
   | nil=>unfold AU at q;exact q.elim
   | cons y ys=>
     unfold AU at q;obtain⟨v,r,rfl,r1,r2⟩:=rla_cons.mp rv;exact⟨v,r,rfl,as,ρ,S,y,ok,en,r1,y9 t (λρ' q σ' en'=>⟨as,ρ',S,ys,ok,en',r2,q⟩) q⟩
theorem Hn:∀(g:Tgs) (es:List Expr) (xs:List SV) {ρ:EnvS} {P:EnvS->Prop},AT k N sc g es=true->AU g xs ρ P->xs.length=es.length
 | .nil,es,xs,ρ,P,h,q=>by
   rw[AT]at h;rw[U1]at h;subst h;cases xs with
   | nil=>rfl
   | cons _ _=>unfold AU at q;exact q.elim
 | .cons t ts,el,xs,ρ,P,h,q=>by
   rw[AT]at h;replace h:=c7 h;obtain⟨e,he,h⟩:=h;simp only[Sf]at h;rw[AX he];generalize el.tail=es at h;cases xs with
   | nil=>unfold AU at q;exact q.elim
   | cons y ys=>
     unfold AU at q;obtain⟨ρ',q'⟩:=Ho t q;simp[Hn ts es ys h.2 q']
theorem Ho:∀(g:Tg) {x:SV} {ρ:EnvS} {P:EnvS->Prop},wTg g x ρ P->∃ ρ',P ρ'
 | .nm i,x,ρ,P,q=>by unfold wTg at q;exact⟨_,q⟩
 | .tup ts,x,ρ,P,q=>by
   cases x with
   | tup xs=>unfold wTg at q;exact FC ts q
   | _=>unfold wTg at q;exact q.elim
theorem FC:∀(g:Tgs) {xs:List SV} {ρ:EnvS} {P:EnvS->Prop},AU g xs ρ P->∃ ρ',P ρ'
 | .nil,xs,ρ,P,q=>by
   cases xs with
   | nil=>unfold AU at q;exact⟨_,q⟩
   | cons _ _=>unfold AU at q;exact q.elim
 | .cons t ts,xs,ρ,P,q=>by
   cases xs with
   | nil=>unfold AU at q;exact q.elim
   | cons y ys=>
     unfold AU at q;obtain⟨ρ',q'⟩:=Ho t q;exact FC ts q'
end
end
structure Gu(as:List Wm)(H:Hp)(as':List Wm)(H':Hp):Prop where
 pre:as <+: as'
 kp:KeepU H H'
theorem Gu.ku{K:Sd}{as as':List Wm}{H H':Hp}{S:Sto}(g:Gu as H as' H')(_:Ok K as H S):KeepU H H':=g.kp
theorem Go.gu{K:Sd}{as as':List Wm}{H H':Hp}{S:Sto}(g:Go as H as' H')(ok:Ok K as H S):Gu as H as' H':=⟨g.pre,g.ku ok⟩
noncomputable def Walks(K:Sd)(as0:List Wm)(H0:Hp)(J:It)(keep:Sto->Prop)(xs:List SV):Prop:=∀ as H S,Gu as0 H0 as H->Ok K as H S->keep S->
 (∀(i:Nat) (x:SV),xs[i]?=some x->J.go i H/\∀ v H',J.yld i H v H'->Go as H as H'/\Ok K as H' S/\Rl K as H' v x)/\J.stop xs.length H
noncomputable def Rm(K:Sd)(as:List Wm)(H:Hp)(R:It->Hp->Prop):(Sto->Prop)->List SV->Sto->Prop:=λkeep xs S1=>∀ as1 H1 J,Go as H as1 H1->Ok K as1 H1 S1->Walks K as1 H1 J keep xs->R J H1
noncomputable def liftI(K:Sd)(w:WI):TI:=λσ H R=>∃ as ρ S,Ok K as H S/\EnvOk K as H σ ρ/\w ρ S (Rm K as H R)
def MonoI(w:WI):Prop:=∀ ρ S (P P':(Sto->Prop)->List SV->Sto->Prop),(∀ k x S',P k x S'->P' k x S')->w ρ S P->w ρ S P'
structure GoodI(X:Cx)(tg r:Expr)(w:WI):Prop where
 pi:PI X tg r (liftI X.K w)
 m:MonoI w
section
variable{X:Cx}{K:Sd}
theorem Bv{as0 as:List Wm}{H0 H:Hp}{S1 S:Sto}{x:SV}{v:V}{xs:List SV}(ok1:Ok K as0 H0 S1)(r:Rl K as0 H0 v x)(h:w9 x S1=some xs)(g:Gu as0 H0 as H)(ok:Ok K as H S)(kp:AQ x S1 S):Rl K as H v x/\w9 x S=some xs:=by
 refine⟨Rl.mono g.pre (g.ku ok1) x v r,?_⟩;cases x with
 | loc k=>
   have kp:S[k]?=S1[k]?:=kp;unfold w9 at h ⊢;simp only[kp];exact h
 | _=>exact h
theorem JD{as0:List Wm}{H0:Hp}{S1:Sto}{x:SV}{a:Wm}{xs:List SV}(ok1:Ok K as0 H0 S1)(r:Rl K as0 H0 (.ref a) x)(n:x ≠ .tup xs)(h:w9 x S1=some xs):Walks K as0 H0 (Itl K a) (AQ x S1) xs:=λas H S g ok kp=>by
 obtain⟨r',h'⟩:=Bv ok1 r h g ok kp;obtain⟨b,vs,e,hq,rr⟩:=u8 ok r' n h';cases e;refine⟨λi y hy=>?_,vs,hq,by rw[rr.length];exact Sw _⟩;obtain⟨v,hv,rv⟩:=rr.get hy;refine⟨⟨vs,v,hq,hv⟩,λu H' yl=>?_⟩;obtain⟨e,yl⟩:=yl;subst e;have:=yl vs hq;rw[hv]at this;cases this;exact⟨Go.refl _ _,ok,rv⟩
theorem LD{as0:List Wm}{H0:Hp}{S1:Sto}{a:Wm}{xs:List SV}(ok1:Ok K as0 H0 S1)(r:Rl K as0 H0 (.ref a) (.tup xs)):Walks K as0 H0 (Itt K a) (AQ (.tup xs) S1) xs:=λas H S g ok kp=>by
 have r':=Rl.mono g.pre (g.ku ok1) _ _ r;obtain⟨b,vs,e,hb,rr⟩:=rl_tup.mp r';cases e;refine⟨λi y hy=>?_,vs,SqT.of hb,by rw[rr.length];exact Sw _⟩;obtain⟨v,hv,rv⟩:=rr.get hy;refine⟨⟨vs,v,SqT.of hb,hv⟩,λu H' yl=>?_⟩;obtain⟨e,yl⟩:=yl;subst e;have:=yl vs (SqT.of hb);rw[hv]at this;cases this;exact⟨Go.refl _ _,ok,rv⟩
theorem FD{as0:List Wm}{H0:Hp}{lo hi:Int}:Walks K as0 H0 (Itr lo (hi - lo).toNat) (λ_=>True) (Ap lo hi):=λas H S g ok _=>by
 have hl:(Ap lo hi).length=(hi - lo).toNat:=by unfold Ap;simp
 refine⟨λi y hy=>?_,by show(hi - lo).toNat<=(Ap lo hi).length;rw[hl];exact Sw _⟩;have hi':i<(hi - lo).toNat:=by rw[<-hl];exact(gM hy).1
 refine⟨hi',λu H' yl=>?_⟩;obtain⟨e,rfl⟩:=yl;subst e
 have:y = .int (lo+i):=by
  unfold Ap at hy;rw[Sm,UZ hi']at hy;exact(oj hy).symm
 subst this;exact⟨Go.refl _ _,ok,rl_int.mpr rfl⟩
theorem FE{xs:List SV}{i:Nat}{y:SV}(h:(BA xs)[i]?=some y):∃ x,xs[i]?=some x/\y = .tup [.int i,x]:=by
 unfold BA at h;rw[Ur]at h;cases h1:(So xs.length)[i]? with
 | none=>rw[h1]at h;cases h
 | some j=>
   cases h2:xs[i]? with
   | none=>rw[h1,h2]at h;cases h
   | some x=>
     rw[h1,h2]at h;have hi:=(gM h2).1;rw[UZ hi]at h1;cases h1;cases h;exact⟨x,rfl,rfl⟩
theorem FF{xs:List SV}:(BA xs).length=xs.length:=by unfold BA;simp
theorem Gg{as0:List Wm}{H0:Hp}{S1:Sto}{x:SV}{a:Wm}{xs:List SV}(ok1:Ok K as0 H0 S1)(r:Rl K as0 H0 (.ref a) x)(n:x ≠ .tup xs)(h:w9 x S1=some xs):Walks K as0 H0 (PD K a) (AQ x S1) (BA xs):=λas H S g ok kp=>by
 obtain⟨r',h'⟩:=Bv ok1 r h g ok kp;obtain⟨b,vs,e,hq,rr⟩:=u8 ok r' n h';cases e;refine⟨λi y hy=>?_,vs,hq,by rw[rr.length,FF]⟩;obtain⟨z,hz,rfl⟩:=FE hy;obtain⟨v,hv,rv⟩:=rr.get hz;refine⟨⟨vs,v,hq,hv⟩,λu H' yl=>?_⟩;obtain⟨p,w,hp,rfl,yl,rfl⟩:=yl;have:=yl vs hq;rw[hv]at this;cases this;exact⟨Go.new hp,ok.new hp,rl_tup.mpr ⟨p,_,rfl,i8,.cons (rl_int.mpr rfl) (.cons (Rl.mono (TN _) (u7 hp) z v rv) .nil)⟩⟩
theorem Gh{as0:List Wm}{H0:Hp}{S1:Sto}{a:Wm}{xs:List SV}(ok1:Ok K as0 H0 S1)(r:Rl K as0 H0 (.ref a) (.tup xs)):Walks K as0 H0 (PF K a) (AQ (.tup xs) S1) (BA xs):=λas H S g ok kp=>by
 have r':=Rl.mono g.pre (g.ku ok1) _ _ r;obtain⟨b,vs,e,hb,rr⟩:=rl_tup.mp r';cases e;refine⟨λi y hy=>?_,vs,SqT.of hb,by rw[rr.length,FF]⟩;obtain⟨z,hz,rfl⟩:=FE hy;obtain⟨v,hv,rv⟩:=rr.get hz;refine⟨⟨vs,v,SqT.of hb,hv⟩,λu H' yl=>?_⟩;obtain⟨p,w,hp,rfl,yl,rfl⟩:=yl;have:=yl vs (SqT.of hb);rw[hv]at this;cases this;exact⟨Go.new hp,ok.new hp,rl_tup.mpr ⟨p,_,rfl,i8,.cons (rl_int.mpr rfl) (.cons (Rl.mono (TN _) (u7 hp) z v rv) .nil)⟩⟩
theorem Q5{tg l:Expr}{w1 w2:TI}(h1:PI X tg l w1)(h2:PI X tg l w2):PI X tg l (λσ H R=>w1 σ H R\/w2 σ H R):=λpins s σ H R I h=>h.elim (h1 pins s σ H R I) (h2 pins s σ H R I)
theorem Cz{tg l:Expr}{w:TI}(w':TI)(h:PI X tg l w)(imp:∀ σ H R,w' σ H R->w σ H R):PI X tg l w':=λpins s σ H R I hw=>h pins s σ H R I (imp σ H R hw)
def SS(K:Sd)(tl:TE):TI:=λσ H R=>tl σ H λx H1=>∃ a,x = .ref a/\(((∃ xs,SqL K H1 a xs)/\R (Itl K a) H1)\/((∃ xs,SqT K H1 a xs)/\R (Itt K a) H1))
theorem Q6{tg l:Expr}{tl:TE}(hl:PE X l tl):PI X tg l (SS X.K tl):=by
 intro pins s σ H R I h;refine thn (hl pins s σ H _ I h) λv s1 ⟨x,H1,I1,r1,q1⟩=>?_;obtain⟨a,e,q⟩:=q1;subst e;cases r1;have I2:∀{ob:Obj},Inv X pins σ H1 {s1 with heap:=s1.heap.push ob}:=I1.kept (t':=s1.toks) λb o e=>Sh _ e
 have fp:∀ b∈[s1.heap.objs.size],FpOk X pins H1 b:=λb hb=>by
  rw[Sv.mp hb];exact I1.fpOk (Sw _) (I1.hok.fresh (Sw _))
 rcases q with⟨⟨xs,hq⟩,q⟩ | ⟨⟨xs,hq⟩,q⟩
 ·obtain⟨its,rv,p,hz⟩:=I1.list hq;exact Xj p.isList ⟨s1.heap.objs.size,[s1.heap.objs.size],_,_,H1,rfl,I2,IH a _,⟨_,Sr _ rfl,rfl,rfl⟩,fp,q⟩
 ·obtain⟨its,rv,p,hz⟩:=I1.tuple hq;exact XB (show s1.heap.IsTuple a its.toArray from p) ⟨s1.heap.objs.size,[s1.heap.objs.size],_,_,H1,rfl,I2,Fu a _,⟨_,Sr _ rfl,rfl,rfl⟩,fp,q⟩
theorem JE{tg r:Expr}{a:WE×WT}(ha:Good X r a):GoodI X tg r (OB a.1) where
 m:=λρ S P P' i h=>ha.m _ _ _ _ (λx S1 ⟨xs,e,q⟩=>⟨xs,e,i _ _ _ q⟩) h
 pi:=Cz _ (Q6 ha.pe) (by
  rintro σ H R ⟨as,ρ,S,ok,en,h⟩;refine⟨as,ρ,S,ok,en,ha.m _ _ _ _ (λx S1 ⟨xs,e,q⟩ as1 H1 v g1 ok1 rv=>?_) h⟩;by_cases ht:x = .tup xs
  ·subst ht;obtain⟨p,vs,rfl,hp,rr⟩:=rl_tup.mp rv;exact⟨p,rfl,.inr ⟨⟨vs,SqT.of hp⟩,q as1 H1 _ g1 ok1 (LD ok1 rv)⟩⟩
  ·obtain⟨p,vs,rfl,hq,rr⟩:=u8 ok1 rv ht e;exact⟨p,rfl,.inl ⟨⟨vs,hq⟩,q as1 H1 _ g1 ok1 (JD ok1 rv ht e)⟩⟩)
theorem Gi{T:List Str}{Δ:Nat->Sn}{k:Nat}{N:List Str}{sc:Ww}{elts:List Expr}{kx:Nat}{tp p q:Pos}{r:Expr}{a:WE×WT}(C:Cok T Δ X k N sc)(hg:glo sc "enumerate"=true)(ha:Good X r a)(hs:f9 r=true):GoodI X (.Tuple elts kx tp) (.Call (.Name "enumerate" p) [r] [] q) (Kg a.1) where
 m:=λρ S P P' i h=>ha.m _ _ _ _ (λx S1 ⟨xs,e,q⟩=>⟨xs,e,i _ _ _ q⟩) h
 pi:=by
  unfold glo at hg;simp only[Sf,bQ,TQ]at hg;have gl:Gl X "enumerate":=by show X.env.scope.names.lookup ("enumerate":Str)=_;rw[C.hs];exact hg.1.1
  refine Cz _ (MQ gl C.enm (n0 ha.pe AF (g9 hs)) (g9 hs)) ?_;rintro σ H R ⟨as,ρ,S,ok,en,h⟩;refine⟨as,ρ,S,ok,en,ha.m _ _ _ _ (λx S1 ⟨xs,e,q⟩ as1 H1 v g1 ok1 rv=>?_) h⟩;by_cases ht:x = .tup xs
  ·subst ht;obtain⟨p,vs,rfl,hp,rr⟩:=rl_tup.mp rv;exact⟨p,rfl,.inr ⟨⟨vs,SqT.of hp⟩,q as1 H1 _ g1 ok1 (Gh ok1 rv)⟩⟩
  ·obtain⟨p,vs,rfl,hq,rr⟩:=u8 ok1 rv ht e;exact⟨p,rfl,.inl ⟨⟨vs,hq⟩,q as1 H1 _ g1 ok1 (Gg ok1 rv ht e)⟩⟩
theorem Gj{T:List Str}{Δ:Nat->Sn}{k:Nat}{N:List Str}{sc:Ww}{tg r:Expr}{p q:Pos}{a:WE×WT}(C:Cok T Δ X k N sc)(hg:glo sc "range"=true)(ha:Good X r a)(hs:f9 r=true):GoodI X tg (.Call (.Name "range" p) [r] [] q) (Ke a.1) where
 m:=λρ S P P' i h=>ha.m _ _ _ _ (λx S1 ⟨j,e,z,q⟩=>⟨j,e,z,i _ _ _ q⟩) h
 pi:=by
  unfold glo at hg;simp only[Sf,bQ,TQ]at hg;have gl:Gl X "range":=by show X.env.scope.names.lookup ("range":Str)=_;rw[C.hs];exact hg.1.1
  refine Cz _ (II gl C.rng (n0 ha.pe AF (g9 hs)) (g9 hs)) ?_;rintro σ H R ⟨as,ρ,S,ok,en,h⟩;refine⟨as,ρ,S,ok,en,ha.m _ _ _ _ (λx S1 ⟨j,e,z,q⟩ as1 H1 v g1 ok1 rv=>?_) h⟩;subst e;refine⟨j,by rw[rl_int.mp rv],z.1,z.2,?_⟩;have:=q as1 H1 (Itr 0 (j - 0).toNat) g1 ok1 FD
  rwa [Int.sub_zero]at this
theorem Gk{T:List Str}{Δ:Nat->Sn}{k:Nat}{N:List Str}{sc:Ww}{tg r r2:Expr}{p q:Pos}{a b:WE×WT}(C:Cok T Δ X k N sc)(hg:glo sc "range"=true)(ha:Good X r a)(hb:Good X r2 b)(hs:f9 r=true)(hs2:f9 r2=true):GoodI X tg (.Call (.Name "range" p) [r,r2] [] q) (Kf a.1 b.1) where
 m:=λρ S P P' i h=>ha.m _ _ _ _ (λx S1 h=>hb.m _ _ _ _ (λy S2 ⟨l,j,e,e2,z,q⟩=>⟨l,j,e,e2,z,i _ _ _ q⟩) h) h
 pi:=by
  unfold glo at hg;simp only[Sf,bQ,TQ]at hg;have gl:Gl X "range":=by show X.env.scope.names.lookup ("range":Str)=_;rw[C.hs];exact hg.1.1
  refine Cz _ (IJ gl C.rng (n0 ha.pe (n0 hb.pe AF (g9 hs2)) (g9 hs)) (by rw[g9 hs,g9 hs2];rfl) (g9 hs2)) ?_;rintro σ H R ⟨as,ρ,S,ok,en,h⟩;refine⟨as,ρ,S,ok,en,ha.m _ _ _ _ (λx S1 h as1 H1 v g1 ok1 rv=>?_) h⟩;refine⟨as1,ρ,S1,ok1,en.mono g1.pre (g1.ku ok),hb.m _ _ _ _ (λy S2 ⟨l,j,e,e2,z,q⟩ as2 H2 u g2 ok2 ru=>?_) h⟩;subst e e2;exact⟨l,j,by rw[rl_int.mp rv,rl_int.mp ru],z,q as2 H2 _ (g1.trans g2) ok2 FD⟩
theorem EG{xs ys:List SV}{i:Nat}{z:SV}(h:(GO xs ys)[i]?=some z):∃ x y,xs[i]?=some x/\ys[i]?=some y/\z = .tup [x,y]:=by
 unfold GO at h;rw[Ur]at h;cases h1:xs[i]? with
 | none=>rw[h1]at h;cases h
 | some x=>
   cases h2:ys[i]? with
   | none=>rw[h1,h2]at h;cases h
   | some y=>
     rw[h1,h2]at h;cases h;exact⟨x,y,rfl,rfl,rfl⟩
theorem Hq{xs ys:List SV}(h:xs.length=ys.length):(GO xs ys).length=xs.length:=by unfold GO;simp[h]
theorem JF{as0:List Wm}{H0:Hp}{S1:Sto}{x y:SV}{a b:Wm}{xs ys:List SV}(ok1:Ok K as0 H0 S1)(rx:Rl K as0 H0 (.ref a) x)(ry:Rl K as0 H0 (.ref b) y)(nx:x ≠ .tup xs)(ny:y ≠ .tup ys)(hx:w9 x S1=some xs)(hy:w9 y S1=some ys)(hl:xs.length=ys.length):Walks K as0 H0 (Itz K a b) (λS'=>AQ x S1 S'/\AQ y S1 S') (GO xs ys):=λas H S g ok kp=>by
 obtain⟨r1,h1⟩:=Bv ok1 rx hx g ok kp.1;obtain⟨r2,h2⟩:=Bv ok1 ry hy g ok kp.2;obtain⟨_,vs,e,hq,rr⟩:=u8 ok r1 nx h1;cases e;obtain⟨_,us,e,hq2,rr2⟩:=u8 ok r2 ny h2;cases e;refine⟨λi z hz=>?_,vs,us,hq,hq2,.inl (by rw[rr.length,Hq hl];exact Sw _)⟩;obtain⟨p,q,hp,hq',rfl⟩:=EG hz;obtain⟨v,hv,rv⟩:=rr.get hp;obtain⟨u,hu,ru⟩:=rr2.get hq';refine⟨⟨vs,us,v,u,hq,hq2,hv,hu⟩,λw H' yl=>?_⟩;obtain⟨n,v',u',hn,rfl,y1,y2,rfl⟩:=yl;have e1:=y1 vs hq;have e2:=y2 us hq2;rw[hv]at e1;cases e1;rw[hu]at e2;cases e2;exact⟨Go.new hn,ok.new hn,rl_tup.mpr ⟨n,_,rfl,i8,.cons (Rl.mono (TN _) (u7 hn) p v rv) (.cons (Rl.mono (TN _) (u7 hn) q u ru) .nil)⟩⟩
theorem JG{as0:List Wm}{H0:Hp}{S1:Sto}{a b:Wm}{xs ys:List SV}{kp:Sto->Prop}(ok1:Ok K as0 H0 S1)(rx:Rl K as0 H0 (.ref a) (.tup xs))(ry:Rl K as0 H0 (.ref b) (.tup ys))(hl:xs.length=ys.length):Walks K as0 H0 (Px K a b) kp (GO xs ys):=λas H S g ok _=>by
 obtain⟨_,vs,e,hb,rr⟩:=rl_tup.mp (Rl.mono g.pre (g.ku ok1) _ _ rx);cases e;obtain⟨_,us,e,hb2,rr2⟩:=rl_tup.mp (Rl.mono g.pre (g.ku ok1) _ _ ry);cases e;have hq:SqT K H a vs:=SqT.of hb;have hq2:SqT K H b us:=SqT.of hb2;refine⟨λi z hz=>?_,vs,hq,by rw[rr.length,Hq hl]⟩;obtain⟨p,q,hp,hq',rfl⟩:=EG hz;obtain⟨v,hv,rv⟩:=rr.get hp;obtain⟨u,hu,ru⟩:=rr2.get hq';refine⟨⟨vs,us,v,u,hq,hq2,hv,hu⟩,λw H' yl=>?_⟩;obtain⟨n,v',u',hn,rfl,y1,y2,rfl⟩:=yl;have e1:=y1 vs hq;have e2:=y2 us hq2;rw[hv]at e1;cases e1;rw[hu]at e2;cases e2;exact⟨Go.new hn,ok.new hn,rl_tup.mpr ⟨n,_,rfl,i8,.cons (Rl.mono (TN _) (u7 hn) p v rv) (.cons (Rl.mono (TN _) (u7 hn) q u ru) .nil)⟩⟩
theorem JH{T:List Str}{Δ:Nat->Sn}{k:Nat}{N:List Str}{sc:Ww}{elts:List Expr}{kx i j:Nat}{tp p q p1 p2:Pos}{y z:Str}(C:Cok T Δ X k N sc)(hg:glo sc "zip"=true)(h1:PE X (.Name y p1) (EX i))(h2:PE X (.Name z p2) (EX j)):GoodI X (.Tuple elts kx tp) (.Call (.Name "zip" p) [.Name y p1,.Name z p2] [] q) (OC i j) where
 m:=λρ S P P' i h=>let ⟨x,y,xs,ys,a,b,c,d,e,f,q⟩:=h;⟨x,y,xs,ys,a,b,c,d,e,f,i _ _ _ q⟩
 pi:=by
  unfold glo at hg;simp only[Sf,bQ,TQ]at hg;have gl:Gl X "zip":=by show X.env.scope.names.lookup ("zip":Str)=_;rw[C.hs];exact hg.1.1
  have pa:PA X [.Name y p1,.Name z p2] (HI (EX i) (HI (EX j) Qw)):=n0 h1 (n0 h2 AF rfl) rfl;refine Cz _ (Q5 (PH gl C.zip pa rfl rfl) (N7 gl C.zip pa rfl rfl)) ?_;rintro σ H R ⟨as,ρ,S,ok,en,x,y,xs,ys,ex,ey,hx,hy,ht,hl,h⟩;obtain⟨v,ev,rv⟩:=en.2 _ _ ex;obtain⟨u,eu,ru⟩:=en.2 _ _ ey;by_cases hxt:x = .tup xs
  ·subst hxt;have:∃ zs,y = .tup zs:=by cases y<;>first | (cases ht;done) | exact⟨_,rfl⟩
   obtain⟨zs,rfl⟩:=this;cases hy;obtain⟨a,vs,rfl,ha,_⟩:=rl_tup.mp rv;obtain⟨b,us,rfl,hb,_⟩:=rl_tup.mp ru;exact .inr ⟨_,ev,_,eu,a,b,rfl,⟨vs,SqT.of ha⟩,⟨us,SqT.of hb⟩,h as H _ (Go.refl _ _) ok (JG ok rv ru hl)⟩
  ·have hyt:y ≠ .tup ys:=λz=>by
    subst z;have:∃ zs,x = .tup zs:=by cases x<;>first | (cases ht;done) | exact⟨_,rfl⟩
    obtain⟨zs,rfl⟩:=this;cases hx;exact hxt rfl
   obtain⟨a,vs,rfl,ha,_⟩:=u8 ok rv hxt hx;obtain⟨b,us,rfl,hb,_⟩:=u8 ok ru hyt hy;exact .inl ⟨_,ev,_,eu,a,b,rfl,⟨vs,ha⟩,⟨us,hb⟩,h as H _ (Go.refl _ _) ok (JF ok rv ru hxt hyt hx hy hl)⟩
end
end Rf
namespace L2
open PySem PySem.Spec PyProof.Rows
noncomputable def SetXO(prog:Wr)(w:Wt)(o:Obj)(L:List Int):Prop:=
 ∃ es ep t,o.ExactSet/\o.data = .set es ep t/\ElemsOf (intKind prog w) es.toList/\es.size<XU/\t.fits es.size=true/\Tab w t/\(es.toList.map λe=>numOf e.2).Perm L
theorem SetXO.at{prog:Wr}{w:Wt}{o:Obj}{L:List Int}{h:Heap}{a:Wm}(x:SetXO prog w o L)(e:h.get? a=some o):SetX prog w h a L:=let ⟨es,ep,t,r⟩:=x;⟨o,es,ep,t,e,r⟩
theorem SetX.obj{prog:Wr}{w:Wt}{L:List Int}{h:Heap}{a:Wm}(x:SetX prog w h a L):∃ o,h.get? a=some o/\SetXO prog w o L:=let ⟨o,es,ep,t,e,r⟩:=x;⟨o,e,es,ep,t,r⟩
def hoS(o:Obj)(L:List Int):HO := .frz o (.set (λk=>decide (k∈L)) L.length)
noncomputable def PEk{α:Type}(Y:Cx)(emit:Wk->Env->Sem Unit)(tem:Wm->α->St->Hp->(α->Hp->Prop)->Prop):Prop:=∀ D pins s σ H a N,Inv Y pins σ H s->tem D a σ H N->Wo (Wp Y.prog Y.w) Y.A (emit (.ref D) Y.env) (λ_ s1=>∃ a1 H1,Inv Y pins σ H1 s1/\N a1 H1) (λ_ _=>False) s
noncomputable def PEm{α:Type}(Y:Cx)(emit:Wk->Env->Sem Unit)(tem:Wm->α->St->Hp->(α->Hp->Prop)->Prop):Prop:=∀ D pins s σ H a N,Inv Y pins σ H s->tem D a σ H N->Wo (Wp Y.prog Y.w) Y.A (emit (.ref D) Y.env) (λ_ s1=>∃ σ1 a1 H1,Inv Y pins σ1 H1 s1/\N a1 H1) (λ_ _=>False) s
theorem PEk.m{α:Type}{Y:Cx}{emit:Wk->Env->Sem Unit}{tem:Wm->α->St->Hp->(α->Hp->Prop)->Prop}(h:PEk Y emit tem):PEm Y emit tem:=λD pins s σ H a N I q=>thn (h D pins s σ H a N I q) λ_ _ ⟨a1,H1,r⟩=>⟨σ,a1,H1,r⟩
section
variable{Y:Cx}{elt kx vx:Expr}{te tv:TE}(hx:Y.xe=λ_ _=>False)
include hx
theorem Q7(he:PE Y elt te):PEk Y (Nw elt) (RD te):=by
 intro D pins s σ H ys N I h;have e3:=he pins s σ H _ I h;rw[hx]at e3;refine Wj (thn e3 λy s8 ⟨v,H8,I8,r8,hD8,hz8,q8⟩=>?_);have e4:=C2 (X:=Y) pins s8 σ H8 (.ref D) [v] (.ref D) [y] (λ_ H9=>H9=upd H8 D (.lst (ys++[v]))) I8 rfl (.cons r8 .nil) ⟨_,ys,v,rfl,rfl,hD8,hz8,rfl⟩;rw[hx]at e4;refine Wj (thn e4 λ_ s9 ⟨z,H9,I9,r9,e9⟩=>?_);subst e9;exact Wn ⟨_,_,I9,q8⟩
end
structure CKind(X:Cx)(E tg iter:Expr)(ifs:List Expr)(scope:Ww)(emit:Wk->Env->Sem Unit)(u0:HO) where
 mkS:Sem Wk
 o0:Obj
 pos0:Pos
 gs:List Y4
 F:CForm X.prog X.w X.A E tg iter ifs emit
 cl:clausesOf E=⟨tg,iter,ifs,0⟩::gs
 ev:eval E X.env=Yc E scope X.env pos0 mkS false (eval iter X.env) none
 ev2:∀ use,evalThenUse E X.env use=(do let _ <- Yc E scope X.env pos0 mkS false (eval iter X.env) (some use))
 hmk:∀{s2:Wl} {Q:Wk->Wl->Prop},Q (.ref s2.heap.objs.size) {s2 with heap:=s2.heap.push o0}->Wo (Wp X.prog X.w) X.A mkS Q X.xe s2
 nf:o0.isFreed=false
 new:∀{pins:List (Wm×Obj)} {σ:St} {H2:Hp} {s2:Wl},Inv X pins σ H2 s2->∀(H:Hp) (h:Heap),h.get? s2.heap.objs.size=some o0->ObjOk X.prog X.w H h s2.heap.objs.size u0
noncomputable def tCG{α:Type}(u0:HO)(a0:α)(tem:Wm->α->St->Hp->(α->Hp->Prop)->Prop)(wi:TI)(g:TG)(tt:TT)(k:Nat)(js:List Nat)(fin:Wm->Hp->Prop)(σ:St)(H:Hp):Prop:=wi σ H λJ H1=>∀ D,H1 D=none->
 ∃ W:Nat->Nat->α->Hp->Prop,(∃ m,W 0 m a0 (upd H1 D u0))/\Ju J g tt (tem D) (Bc k js σ) (λH=>fin D H) W
noncomputable def InB(X:Cx)(scope:Ww)(N:List Str)(P:Cx->Prop):Prop:=∀ s2 H2 cs C fp,P (t5 X scope N s2 H2 cs C fp)
section
variable{X:Cx}{α:Type}{E tg iter:Expr}{ifs:List Expr}{scope:Ww}{emit:Wk->Env->Sem Unit}{u0:HO}{a0:α}{tem:Wm->α->St->Hp->(α->Hp->Prop)->Prop}{wi:TI}{g:TG}{tt:TT}{own cn:List Str}{js:List Nat}(Kd:CKind X E tg iter ifs scope emit u0)
 (hi:PI X tg iter wi) (hg:InB X scope (own++cn) λY=>PG Y tg g) (ht:InB X scope (own++cn) λY=>Ec Y ifs tt) (hem:InB X scope (own++cn) λY=>PEm Y emit tem) (hc:X.calm=true) (hok:w5 X.env.scope scope own cn X.N js=true) (hs:∀ x,Xz iter X.env x=pure x)
include Kd hi hg ht hem hc hok hs
theorem FG{fin:Wm->Hp->Prop}{use:Option (Wk->Sem Unit)}{Q':Wk->Wl->Prop}{pins:List (Wm×Obj)}{s:Wl}{σ:St}{H:Hp}(I:Inv X pins σ H s)(h:tCG u0 a0 tem wi g tt own.length js fin σ H)
 (hend:∀ D C H' s',Inv X pins σ H' s'->FpOk X pins H' C->(∃ m,s'.heap.Ns C m)->fin D H'->compPost (Wp X.prog X.w) X.A X.xe use Q' (.ref D) C (.ok .next) s'):
 Wo (Wp X.prog X.w) X.A (Yc E scope X.env Kd.pos0 Kd.mkS false (eval iter X.env) use) Q' X.xe s:=by
 have hok':=hok;unfold w5 at hok';simp only[Sf,dQ,T9,Ti,TQ,decide_eq_false_iff_not]at hok';obtain⟨⟨⟨⟨⟨⟨k1,k2⟩,k3⟩,k4⟩,k5⟩,k6⟩,k7⟩:=hok'
 have hfree:∀ x∈scope.names,x.2 = .free->∃ c,X.env.cells.lookup x.1=some c:=λx hx hf=>I.ok.has x.1 (by
  rcases k2 x hx with(z | z) | z
  ·exact absurd hf z
  ·exact .inl z
  ·exact .inr z)
 refine wpAny_comprehension_free Kd.cl hs (Ag hfree) k1 (λx hx hl=>?_) (thn (hi pins s σ H _ I h) λv s1 h1=>thn h1 λitv s2 ⟨it,fp,tn,J,H2,e,I2,T,st2,f2,q⟩=>?_)
 ·rw[m8 k3 (show(x.1,x.2)∈scope.names from hx),hl]
 ·subst e;exact Ed (RR:=λacc C=>compPost (Wp X.prog X.w) X.A X.xe use Q' acc C) Kd.F (Kd.hmk) Kd.nf (Kd.new I2) hok hc hg ht (λD s2 H2 cs C fp=>hem s2 H2 cs C fp D) I2 T st2 f2 (q _ I2.fresh) λC H' s' I' fC hn=>hend _ C H' s' I' fC hn
theorem LF:PE X E λσ H Q=>tCG u0 a0 tem wi g tt own.length js (λD H=>Q (.ref D) H) σ H:=by
 intro pins s σ H Q I h;rw[Kd.ev];refine FG Kd hi hg ht hem hc hok hs I h λD C H' s' I' ⟨f0,f1,f2',f3,f4,f5⟩ ⟨m,hn⟩ q'=>⟨m,hn,λh' hs'=>⟨.ref D,H',?_,rfl,q'⟩⟩
 exact I'.turned (t':=s'.toks) (λb o hb e=>(hs'.2 b hb).trans e) f0 f1 f3 f4 f5
theorem FH{i:Nat}{x:Str}{px spos:Pos}(hN:X.N.Nodup)(hix:X.N[i]?=some x)(hx:X.env.scope.names.lookup x=some .local)(hsw:Xa E (some (.Name x px)) spos.line X.env=pure true):PS X (.Assign [.Name x px] E spos) (Ft (λσ H Q=>tCG u0 a0 tem wi g tt own.length js (λD H=>Q (.ref D) H) σ H) (EY i)):=by
 intro pins s σ H D I h;rw[exec_Assign_Name_used _ _ _ _ hsw,Kd.ev2];refine Wj (Y2 (Wj (Wj (XH (FG Kd (Q':=λ_ s'=>SP X pins D .next s') hi hg ht hem hc hok hs I h λD C H' s' I' ⟨f0,f1,f2',f3,f4,f5⟩ ⟨m,hn⟩ q'=>?_) (λ_ s' hq=>Wn (Wn hq)) λ_ _ e=>e))));show Wo _ X.A (assign (.Name x px) X.env (.ref D)) _ _ _;refine Yi (DR I' hN hix (.inl hx) (v := .ref D) rfl (λs3 I3 ⟨a,hsb,ha⟩=>?_) (.inr hx))
 have hCa:C≠a:=by
  rcases ha with z | z
  ·rw[z];exact f1
  ·exact λe=>f4 x a z e.symm
 exact⟨m,hn.sameBut hsb hCa,λh' hs'=>⟨_,H',I3.turned (t':=s3.toks) (λb o hb e=>(hs'.2 b hb).trans e) f0 f1 f3 f4 f5,q'⟩⟩
end
section
variable{X:Cx}{tg iter elt kx vx:Expr}{ifs:List Expr}{gs:List Y4}{scope:Ww}{pos:Pos}{emit:Wk->Env->Sem Unit}
def ckL(F:CForm X.prog X.w X.A (.ListComp elt (⟨tg,iter,ifs,0⟩::gs) scope pos) tg iter ifs emit):CKind X (.ListComp elt (⟨tg,iter,ifs,0⟩::gs) scope pos) tg iter ifs scope emit (.lst []) where
 mkS:=newList []
 o0:={cls := .type "list",dict:=none,data := .seq ([]:List Wk).toArray}
 pos0:=_
 gs:=gs
 F:=F
 cl:=rfl
 ev:=eval_ListComp ..
 ev2:=λ_=>rfl
 hmk:=λh=>XG h
 nf:=rfl
 new:=λ_ _ _ hD=>⟨U4 _,[],0,.nil,hD⟩
end
end L2
namespace Rf
open PySem L2
theorem JI{α:Type}{o:Option (Option α)}{x:α}(h:o.join=some x):o=some (some x):=by
 cases o with
 | none=>cases h
 | some o=>cases o with
   | none=>cases h
   | some y=>cases h;rfl
theorem EnvOk.cap{K:Sd}{as:List Wm}{H:Hp}{σ:St}{ρ:EnvS}(h:EnvOk K as H σ ρ)(k:Nat)(js:List Nat):EnvOk K as H (Bc k js σ) (Es k js ρ):=by
 refine⟨by unfold Bc Es;simp,λi x e=>?_⟩;unfold Es at e;unfold Bc;by_cases hi:i<k
 ·rw[TC (by simpa using hi),Ua,iP hi]at e;cases e
 ·rw[Td (by simpa using hi),Ue,Sm]at e;rw[Td (by simpa using hi),Ue,Sm];cases hj:js[i - k]? with
  | none=>rw[hj]at e;cases e
  | some j=>
    rw[hj]at e;have e':(ρ[j]?).join=some x:=oj e;obtain⟨v,hv,rv⟩:=h.2 j x (JI e');exact⟨v,by simp only[UN];rw[hv];rfl,rv⟩
theorem Ok.adoptO{K:Sd}{as:List Wm}{H:Hp}{S:Sto}{D:Wm}{x:SO}(h:Ok K as H S)(n:D∉as)(r:RlO K (as++[D]) H D x):Ok K (as++[D]) H (S++[x]):=by
 have pre:as <+: as++[D]:=UT _ _;refine⟨by rw[Sl,Sl,h.len];rfl,?_,λk o a e ea=>?_⟩
 ·rw[Ug];refine⟨h.nd,by simp,λa ha b hb=>?_⟩;rw[Sv.mp hb];intro z;subst z;exact n ha
 ·by_cases hk:k<S.length
  ·rw[TC hk]at e;rw[TC (by rw[h.len];exact hk)]at ea;exact(h.obj k o a e ea).mono pre (KeepU.refl _) λ_ z=>z
  ·have hk':k=S.length:=by
    have:=(gM e).1;rw[Sl,UF]at this;omega
   subst hk';rw[Tb]at e;rw[<-h.len,Tb]at ea;cases e;cases ea;exact r
theorem Ok.otherO{K:Sd}{as:List Wm}{H:Hp}{S:Sto}(h:Ok K as H S){b:Wm}{u v:HO}(hb:H b=some u)(hi:imm u=false)(n:b∉as):Ok K as (upd H b v) S:=⟨h.len,h.nd,λk o a e ea=>(h.obj k o a e ea).mono (TN as) (C6 hb hi) λws hw=>by
 rw[f6 (λz=>n (by rw[<-z];exact Ss ea))];exact hw⟩
theorem JJ(ns:List Int)(i:Int):AO (ns++[i])=PyProof.Rows.step_dedup (AO ns) i:=by
 unfold AO;rw[Sl,UF,PyProof.Rows.firstMet_succ];have e1:(ns++[i]).getD ns.length 0=i:=by simp
 have e2:PyProof.Rows.firstMet (λj=>(ns++[i]).getD j 0) ns.length=PyProof.Rows.firstMet (λj=>ns.getD j 0) ns.length:=by
  unfold PyProof.Rows.firstMet
  congr 1
  refine UP λj hj=>?_;have hj:=TH.mp hj;simp[TC hj]
 rw[e1,e2]
def FI{β:Type}(em:WM β):Prop:=∀ ρ a S (N N':β->Sto->Prop),(∀ a S,N a S->N' a S)->em ρ a S N->em ρ a S N'
section
variable{β:Type}{keep:Sto->Prop}{g:Tg}{t:WT}{em:WM β}{e f:WE}
theorem D0(me:Mono e):FI (emL e):=λρ ys S N N' h=>me _ _ _ _ λy S2 q=>⟨q.1,h _ _ q.2⟩
theorem EH{ρ:EnvS}(mt:MonoT t)(me:FI em){Q Q':β->Sto->Prop}(i:∀ a S,Q a S->Q' a S):∀(xs:List SV) (a:β) (S:Sto),wTG keep g t em ρ Q xs a S->wTG keep g t em ρ Q' xs a S
 | [],a,S,h=>⟨h.1,i _ _ h.2⟩
 | x::xs,a,S,h=>⟨h.1,y9 g (λρ2 q=>mt _ _ _ _ (λb S1 q=>l9 (λq=>me _ _ _ _ _ (λy S2 q=>EH mt me i xs _ _ q) q) (λq=>EH mt me i xs _ _ q) q) q) h.2⟩
theorem Mono.cG{k:Nat}{js:List Nat}{i:WI}{b0:β}{fin:QE->β->Sto->Prop}(mi:MonoI i)(mt:MonoT t)(me:FI em)(mf:∀ P P':QE,(∀ x S,P x S->P' x S)->∀ b S,fin P b S->fin P' b S):Mono (wCG k js g i t em b0 fin):=λρ S P P' im h=>mi _ _ _ _ (λkeep xs S1 h=>EH mt me (mf _ _ im) xs _ S1 h) h
end
structure GoD(D:Wm)(as:List Wm)(H:Hp)(as':List Wm)(H':Hp):Prop where
 pre:as <+: as'
 keep:∀ b o,H b=some o->b∉as->b≠D->H' b=some o/\b∉as'
 ku:KeepU H H'
 out:D∉as->D∉as'
section
variable{K:Sd}{as as' as1 as2:List Wm}{H H' H1 H2:Hp}{S:Sto}{D:Wm}{u v:HO}
theorem GoD.refl:GoD D as H as H:=⟨TN _,λ_ _ h n _=>⟨h,n⟩,KeepU.refl _,id⟩
theorem GoD.trans(a:GoD D as H as1 H1)(b:GoD D as1 H1 as2 H2):GoD D as H as2 H2:=⟨a.pre.trans b.pre,λx o h n z=>let ⟨h1,n1⟩:=a.keep x o h n z;b.keep x o h1 n1 z,a.ku.trans b.ku,λh=>b.out (a.out h)⟩
theorem Go.d(g:Go as H as1 H1)(ok:Ok K as H S)(hD:H D=some u):GoD D as H as1 H1:=⟨g.pre,λb o h n _=>g.keep b o h n,g.ku ok,λn=>(g.keep D _ hD n).2⟩
theorem GoD.put(hD:H D=some u)(i:imm u=false):GoD D as H as (upd H D v):=⟨TN _,λb o h n z=>⟨by rw[f6 z];exact h,n⟩,C6 hD i,id⟩
theorem GoD.go(g:GoD D as (upd H D u) as' H')(hD:H D=none):Go as H as' H':=⟨g.pre,λb o h n=>g.keep b o (by rw[f6 (f7 h hD)];exact h) n (f7 h hD)⟩
end
structure Knd(α β:Type)(K:Sd) where
 at_:List Wm->Hp->Wm->α->β->Prop
 mono:∀{as as' H H' D a b},as <+: as'->KeepU H H'->H' D=H D->at_ as H D a b->at_ as' H' D a b
 some:∀{as H D a b},at_ as H D a b->∃ u,H D=some u/\imm u=false
section
variable{K:Sd}{α β:Type}{k:Knd α β K}
theorem Knd.go{as as':List Wm}{H H':Hp}{S:Sto}{D:Wm}{a:α}{b:β}(h:k.at_ as H D a b)(ok:Ok K as H S)(n:D∉as)(g:Go as H as' H'):GoD D as H as' H'/\k.at_ as' H' D a b/\D∉as':=by
 obtain⟨u,e,i⟩:=k.some h;have z:=g.keep D u e n;exact⟨g.d ok e,k.mono g.pre (g.ku ok) (z.1.trans e.symm) h,z.2⟩
noncomputable def Q8(k:Knd α β K)(em:WM β)(tem:Wm->α->St->Hp->(α->Hp->Prop)->Prop):Prop:=
 ∀ D a b σ ρ as H S (N:α->Hp->Prop) (N':β->Sto->Prop),D∉as->Ok K as H S->EnvOk K as H σ ρ->k.at_ as H D a b->em ρ b S N'->
  (∀ as' S' a' b' H',GoD D as H as' H'->Ok K as' H' S'->k.at_ as' H' D a' b'->N' b' S'->N a' H')->tem D a σ H N
theorem Q9{em:WM β}{tem:Wm->α->St->Hp->(α->Hp->Prop)->Prop}{n:Nat}{js:List Nat}{g:Tg}{i:WI}{t:WT}{a0:α}{b0:β}{u0:HO}{fin:QE->β->Sto->Prop}{fin':VK->Wm->Hp->Prop}(h:Q8 k em tem)(mi:MonoI i)(mt:MonoT t)(u:imm u0=false)(h0:∀ as H D,k.at_ as (upd H D u0) D a0 b0)
 (hfin:∀{as H as2 H2 S2 D a b Q},Go as H as2 H2->Go as H (as2++[D]) H2->Ok K as2 H2 S2->D∉as2->k.at_ as2 H2 D a b->fin (Post K as H Q) b S2->fin' Q D H2):
 ∀ σ H Q,lift K (wCG n js g i t em b0 fin) σ H Q->tCG u0 a0 tem (liftI K i) (FA K g) (liftT K t) n js (fin' Q) σ H:=by
 rintro σ H Q ⟨as,ρ,S,ok,en,q⟩;refine⟨as,ρ,S,ok,en,mi _ _ _ _ (λkeep xs S1 q as1 H1 J g1 ok1 W D hD=>?_) q⟩;have n1:=ok1.free hD
 refine⟨λi m a H'=>m=xs.length - i/\i<=xs.length/\∃ as2 S2 b,GoD D as1 (upd H1 D u0) as2 H'/\Ok K as2 H' S2/\k.at_ as2 H' D a b/\wTG keep g t em (Es n js ρ) (fin (Post K as H Q)) (xs.drop i) b S2,
  ⟨_,rfl,U4 _,as1,S1,b0,.refl,ok1.new hD,h0 _ _ _,q⟩,?_⟩
 rintro i m a H2 ⟨rfl,hi,as2,S2,b,gd2,ok2,at2,q⟩;have gg:=gd2.go hD;by_cases hlt:i<xs.length
 ·right;rw[V8 hlt]at q;obtain⟨go,yl⟩:=(W as2 H2 S2 (gg.gu ok1) ok2 q.1).1 i xs[i] (Si hlt);refine⟨go,λa H'=>∃ as2 S2 b,GoD D as1 (upd H1 D u0) as2 H'/\Ok K as2 H' S2/\k.at_ as2 H' D a b/\wTG keep g t em (Es n js ρ) (fin (Post K as H Q)) (xs.drop (i+1)) b S2,λa' H' z=>⟨_,by omega,rfl,hlt,z⟩,λx H3 y3=>?_⟩;obtain⟨g3,ok3,rx⟩:=yl x H3 y3;obtain⟨gd3,at3,n3⟩:=k.go at2 ok2 (gd2.out n1) g3;have ge:=g1.trans (gg.trans g3);refine⟨as2,Es n js ρ,S2,_,ok3,(en.mono ge.pre (ge.ku ok)).cap n js,rx,y9 g (λρ4 q σ4 en4=>⟨as2,ρ4,S2,ok3,en4,mt _ _ _ _ (λc S5 q as5 H5 g5 ok5=>?_) q⟩) q.2⟩;obtain⟨gd5,at5,n5⟩:=k.go at3 ok3 n3 g5;have gd:=(gd2.trans gd3).trans gd5;exact l9 (λq=>h D a b σ4 ρ4 as5 H5 S5 _ _ n5 ok5 (en4.mono g5.pre (g5.ku ok3)) at5 q λas6 S6 a6 b6 H6 g6 ok6 at6 q6=>⟨as6,S6,b6,gd.trans g6,ok6,at6,q6⟩) (λq=>⟨as5,S5,b,gd,ok5,at5,q⟩) q
 ·left;obtain rfl:i=xs.length:=by omega
  rw[W9]at q;refine⟨(W as2 H2 S2 (gg.gu ok1) ok2 q.1).2,hfin (g1.trans gg) ⟨(g1.trans gg).pre.trans (UT _ _),λb o hb nb=>?_⟩ ok2 (gd2.out n1) at2 q.2⟩;obtain⟨h1,m1⟩:=g1.keep b o hb nb;obtain⟨h2,m2⟩:=gg.keep b o h1 m1;refine⟨h2,?_⟩;rw[TK,Sv];rintro(z | z)
  ·exact m2 z
  ·exact f7 h1 hD z
end
section
variable{K:Sd}{e f:WE}
noncomputable def kL:Knd (List V) (List SV) K:=⟨λas H D vs xs=>H D=some (.lst vs)/\RlAll K as H vs xs,λp ku e h=>⟨e.trans h.1,RlAll.mono p ku _ _ h.2⟩,λh=>⟨_,h.1,rfl⟩⟩
theorem NE(me:Mono e):Q8 (kL (K:=K)) (emL e) (RD (lift K e)):=λD a b σ ρ as H S N N' n ok en h q hN=>
 ⟨as,ρ,S,ok,en,me _ _ _ _ (λy S2 q as2 H2 v g2 ok2 rv=>by
   obtain⟨gd,h2,n2⟩:=kL.go h ok n g2;have pu:=GoD.put (as:=as2) (v := .lst (a++[v])) h2.1 rfl;exact⟨h2.1,by rw[h2.2.length];exact GI q.1,hN _ _ _ _ _ (gd.trans pu) (ok2.otherO h2.1 rfl n2) ⟨i8,RlAll.mono (TN _) pu.ku _ _ (h2.2.append (.cons rv .nil))⟩ q.2⟩) q⟩
theorem NF{α β:Type}{k:Knd α β K}{o:β->SO}(ad:∀{as H D a b},k.at_ as H D a b->RlO K as H D (o b)){as H as2 H2 S2 D a b Q}(_:Go as H as2 H2)(g:Go as H (as2++[D]) H2)(ok:Ok K as2 H2 S2)(n:D∉as2)(h:k.at_ as2 H2 D a b)(q:Pk o (Post K as H Q) b S2):Q (.ref D) H2:=
 q (as2++[D]) H2 (.ref D) g (ok.adoptO n (ad (k.mono (UT _ _) (KeepU.refl _) rfl h))) (rl_loc.mpr ⟨D,by rw[<-ok.len,Tb],rfl⟩)
end
theorem FJ{scope sc:Ww}{x:Str}(h:scope.names.lookup x=some .local):(Kl scope sc).names.lookup x=some .local:=by
 have go:∀ l:List (Str×XC),l.lookup x=some .local->(l.map λ(n,k)=>if (k == .free&&sc.kind == .function&&sc.names.lookup n == some .cell) then (n,.cell) else (n,k)).lookup x=some .local:=by
  intro l
  induction l with
  | nil=>intro h;cases h
  | cons a r ih=>
    obtain⟨n,k⟩:=a;intro h;rw[U3]at h;rw[TY];cases hb:x == n with
    | true=>
      rw[hb]at h;have:k = .local:=oj h;subst this;show VA x ((n,NameKind.local)::_)=_;rw[U3,hb]
    | false=>
      rw[hb]at h
      have e:∀ k',VA x ((n,k')::(r.map λ(n,k)=>if (k == .free&&sc.kind == .function&&sc.names.lookup n == some .cell) then (n,.cell) else (n,k)))=some .local:=λk'=>by
       rw[U3,hb];exact ih h
      show VA x ((if (k == .free&&sc.kind == .function&&sc.names.lookup n == some .cell)=true then (n,NameKind.cell) else (n,k))::_)=_;split<;>exact e _
 exact go _ h
theorem Cok.comp{T:List Str}{Δ:Nat->Sn}{X:Cx}{k:Nat}{N:List Str}{sc scope:Ww}{own cn:List Str}{js:List Nat}(C:Cok T Δ X k N sc)(hok:w5 sc scope own cn N js=true)(s2:Wl)(H2:Hp)(cs:List (Str×Wm))(A:Wm)(fp:List Wm):Cok T Δ (t5 X scope (own++cn) s2 H2 cs A fp) own.length (own++cn) (Kl scope sc) where
 hN:=rfl
 hs:=by rw[<-C.hs];rfl
 nd:=by
  unfold w5 at hok;simp only[Sf,dQ]at hok;exact hok.1.2
 calm:=C.calm
 fn:=λi x hi hx hc=>by
  unfold w5 at hok;simp only[Sf,dQ,T9,Ti]at hok
  have hm:x∈own:=by
   rw[TC hi]at hx;exact Ss hx
  show(scope.names.lookup x == some .cell)=true;rcases hok.1.1.1.2 x hm with h | h
  ·rw[FJ h]at hc;cases hc
  ·rw[h];rfl
 un:=C.un
 bl:=C.bl
 rng:=C.rng
 enm:=C.enm
 rvs:=C.rvs
 zip:=C.zip
 sm0:=C.sm0
 st0:=C.st0
 dc0:=C.dc0
 ty:=C.ty
 gd:=C.gd
 me:=C.me
 call:=C.call
 mono:=C.mono
theorem Ae{r:Expr}(h:AR r=true){env:Env}:∀ x,Xz r env x=pure x:=λx=>by cases r<;>first | rfl | cases h
theorem BR{T N:List Str}{sc:Ww}:∀{es:Exs} {rs:List Expr},Ar T N sc es rs=true->rs.all f9=true
 | .nil,rs,h=>by unfold Ar at h;rw[U1]at h;subst h;rfl
 | .cons e es,rs,h=>by
   unfold Ar at h;replace h:=c7 h;obtain⟨x,hx,h⟩:=h;simp only[Sf]at h;rw[AX hx,U6,h.1.2,BR h.2];rfl
theorem Gm{X:Cx}{i:Nat}{x:Str}{p:Pos}{N:List Str}{sc:Ww}{T:List Str}{Δ:Nat->Sn}{k:Nat}(C:Cok T Δ X k N sc)(h:nmB N sc i x=true):PE X (.Name x p) (EX i):=by
 unfold nmB at h;simp only[Sf,dQ,TQ]at h;exact Pv C h.1.1.1 h.1.1.2 h.1.2 h.2
theorem Hr{α:Type}{l:List α}(h:(!l.isEmpty)=true):∃ y ys,l=y::ys:=by
 cases l with
 | nil=>cases h
 | cons y ys=>exact⟨y,ys,rfl⟩
theorem QA{X:Cx}{c:Expr}{a:WE×WT}(h:Good X c a):Ec X [c] (liftT X.K a.2):=Js h.pt
theorem LG{X:Cx}:Ec X [] (liftT X.K RV):=λpins s σ H Q I hw=>Jr pins s σ H Q I (let ⟨as,ρ,S,ok,en,h⟩:=hw;h as H (Go.refl _ _) ok)
theorem QB{X:Cx}{E tg ri:Expr}{ifs:List Expr}{scope:Ww}{emit:Wk->Env->Sem Unit}{u0:HO}{α β:Type}{k:Knd α β X.K}{em:WM β}{tem:Wm->α->St->Hp->(α->Hp->Prop)->Prop}{a0:α}{b0:β}{o:β->SO}{T N own cn:List Str}{Δ:Nat->Sn}{kk:Nat}{sc:Ww}{js:List Nat}{g:Tg}{i:WI}{t:WT}(Kd:CKind X E tg ri ifs scope emit u0)(C:Cok T Δ X kk N sc)(hok:w5 sc scope own cn N js=true)(hi:GoodI X tg ri i)(hn:AR ri=true)
 (hg:InB X scope (own++cn) λY=>PG Y tg (FA X.K g)) (ht:InB X scope (own++cn) λY=>Ec Y ifs (liftT X.K t)) (mt:MonoT t) (hem:InB X scope (own++cn) λY=>PEm Y emit tem) (h:Q8 k em tem) (mm:FI em) (u:imm u0=false) (h0:∀ as H D,k.at_ as (upd H D u0) D a0 b0) (ad:∀{as H D a b},k.at_ as H D a b->RlO X.K as H D (o b)) (hp:GR E=true):Good X E (tt1 (wCG own.length js g i t em b0 (Pk o))):=
 have hok':w5 X.env.scope scope own cn X.N js=true:=by rw[C.hs,C.hN];exact hok
 have via:=Q9 (n:=own.length) (js:=js) (g:=g) h hi.m mt u h0 (fin':=λQ D H=>Q (.ref D) H) (NF (k:=k) (o:=o) ad)
 .one (i5 _ (LF Kd hi.pi hg ht hem C.calm hok' (Ae hn)) λσ H Q h=>via σ H Q h) (.cG hi.m mt mm λP P' im b S q=>im _ _ q) hp
  λ_ i x px spos hN hx hl hsw=>λpins s σ H D I q=>FH Kd hi.pi hg ht hem C.calm hok' (Ae hn) hN hx hl hsw pins s σ H D I (via σ H _ q)
mutual
theorem e5{T:List Str}{Δ:Nat->Sn}:∀(e:Ex) (r:Expr) {X:Cx} {k:Nat} {N:List Str} {sc:Ww},Cok T Δ X k N sc->j7 T N sc e r=true->Good X r (wEx Δ e)
 | .var i,r,X,k,N,sc,C,h=>by
   replace h:=c7 h;obtain⟨x,hx,h⟩:=h;obtain⟨p,rfl⟩:=AS hx;exact .one (i5 _ (Gm C h) Ma) .var rfl
 | .c x,r,X,k,N,sc,C,h=>by
   replace h:=c7 h;obtain⟨x,hx,h⟩:=h;obtain⟨j,p,rfl⟩:=Ix hx;exact N6 h
 | .op o a b,r,X,k,N,sc,C,h=>by
   replace h:=c7 h;obtain⟨v,hv,h⟩:=h;obtain⟨p,rfl⟩:=Mz hv;simp only[Sf,dQ]at h;have ga:=e5 a _ C h.1.2;have gb:=e5 b _ C h.2;rw[<-h.1.1];exact .one (Ku ga.pe gb.pe ga.m gb.m) (.two He ga.m gb.m) rfl
 | .neg a,r,X,k,N,sc,C,h=>by
   replace h:=c7 h;obtain⟨v,hv,h⟩:=h;obtain⟨p,rfl⟩:=Kp hv;simp only[Sf,dQ]at h;rw[h.1];exact J5 (e5 a _ C h.2)
 | .cmp o a b,r,X,k,N,sc,C,h=>by
   replace h:=c7 h;obtain⟨v,hv,h⟩:=h;replace h:=c7 h;obtain⟨rb,hb,h⟩:=h;obtain⟨p,rfl⟩:=E8 hv;simp only[Sf,dQ]at h;obtain⟨⟨⟨h0,h1⟩,h2⟩,h3⟩:=h;rw[h0,A6 hb];have ga:=e5 a _ C h1;have gb:=e5 b _ C h2;have:=C.un;exact Iy (by omega) ga.pe gb.pe ga.m gb.m h3
 | .chn o p a b c,r,X,k,N,sc,C,h=>by
   replace h:=c7 h;obtain⟨v,hv,h⟩:=h;replace h:=c7 h;obtain⟨rs,hb,h⟩:=h;obtain⟨p,rfl⟩:=E8 hv;simp only[Sf,dQ]at h;obtain⟨⟨⟨⟨h0,h1⟩,h2⟩,h3⟩,h4⟩:=h;rw[h0,Ev hb];have ga:=e5 a _ C h1;have gb:=e5 b _ C h2;have gc:=e5 c _ C h3;have:=C.un;exact Iz (by omega) ga.pe gb.pe gc.pe ga.m gb.m gc.m h4
 | .and a b,r,X,k,N,sc,C,h=>by
   replace h:=c7 h;obtain⟨v,hv,h⟩:=h;have e:=Eu hv;subst e;rw[Sf,dQ]at h;obtain⟨h0,h⟩:=h;replace h:=c7 h;obtain⟨x,hx,h⟩:=h;rw[Sf]at h;have ga:=e5 a _ C h.1;rw[h0,AX hx];have h2:=h.2;generalize v.2.1.tail=tl at h2;cases hl:l1 tl with
   | some y=>
     rw[hl]at h2;rw[A6 hl];exact GU ga (e5 b _ C h2)
   | none=>
     rw[hl]at h2;rw[Sf,dQ]at h2;have gb:=e5 b _ C h2.2
     match tl,h2,gb with
     | y::z::zs,h2,gb=>exact GV ga gb
     | [],h2,_=>exact absurd h2.1 (by simp)
     | [_],h2,_=>exact absurd h2.1 (by simp)
 | .or a b,r,X,k,N,sc,C,h=>by
   replace h:=c7 h;obtain⟨v,hv,h⟩:=h;have e:=Eu hv;subst e;rw[Sf,dQ]at h;obtain⟨h0,h⟩:=h;replace h:=c7 h;obtain⟨x,hx,h⟩:=h;rw[Sf]at h;have ga:=e5 a _ C h.1;rw[h0,AX hx];have h2:=h.2;generalize v.2.1.tail=tl at h2;cases hl:l1 tl with
   | some y=>
     rw[hl]at h2;rw[A6 hl];exact J1 ga (e5 b _ C h2)
   | none=>
     rw[hl]at h2;rw[Sf,dQ]at h2;have gb:=e5 b _ C h2.2
     match tl,h2,gb with
     | y::z::zs,h2,gb=>exact J2 ga gb
     | [],h2,_=>exact absurd h2.1 (by simp)
     | [_],h2,_=>exact absurd h2.1 (by simp)
 | .not a,r,X,k,N,sc,C,h=>by
   replace h:=c7 h;obtain⟨v,hv,h⟩:=h;obtain⟨p,rfl⟩:=Kp hv;simp only[Sf,dQ]at h;rw[h.1];exact J3 (e5 a _ C h.2)
 | .ife t a b,r,X,k,N,sc,C,h=>by
   replace h:=c7 h;obtain⟨v,hv,h⟩:=h;obtain⟨p,rfl⟩:=N0 hv;simp only[Sf]at h;exact J4 (e5 t _ C h.1.1) (e5 a _ C h.1.2) (e5 b _ C h.2)
 | .tup es,r,X,k,N,sc,C,h=>by
   replace h:=c7 h;obtain⟨v,hv,h⟩:=h;obtain⟨j,p,rfl⟩:=Bs hv;exact J9 (AJ es _ C h)
 | .lst es,r,X,k,N,sc,C,h=>by
   replace h:=c7 h;obtain⟨v,hv,h⟩:=h;obtain⟨p,rfl⟩:=N1 hv;exact JA (AJ es _ C h)
 | .ix a b,r,X,k,N,sc,C,h=>by
   replace h:=c7 h;obtain⟨v,hv,h⟩:=h;obtain⟨p,rfl⟩:=Hc hv;simp only[Sf]at h;exact Kx (e5 a _ C h.1.1) (e5 b _ C h.1.2) h.2
 | .call f es,r,X,k,N,sc,C,h=>by
   replace h:=c7 h;obtain⟨v,hv,h⟩:=h;obtain⟨p,q,rfl⟩:=y8 hv;simp only[Sf,dQ]at h;obtain⟨⟨⟨h1,h2⟩,h3⟩,h4⟩:=h;obtain⟨y,ys,e⟩:=Hr h4;have st:=BR h3;have g:=AJ es _ C h3;rw[e]at st g ⊢;rw[U6,Sf]at st;exact GY C h1 h2 g st.1 st.2
 | .bi b es,r,X,k,N,sc,C,h=>by
   replace h:=c7 h;obtain⟨v,hv,h⟩:=h;obtain⟨p,q,rfl⟩:=y8 hv;simp only[Sf,dQ]at h;obtain⟨⟨⟨h1,h2⟩,h3⟩,h4⟩:=h;obtain⟨y,ys,e⟩:=Hr h4;have st:=BR h3;have g:=AJ es _ C h3;rw[e]at st g ⊢;rw[U6,Sf]at st;rw[<-h1]at h2 ⊢;exact L6 C h2 g st.1 st.2
 | .mt m a es,r,X,k,N,sc,C,h=>by
   replace h:=c7 h;obtain⟨v,hv,h⟩:=h;obtain⟨ap,cp,rfl,hl⟩:=Pq hv;simp only[Sf,dQ]at h;obtain⟨⟨⟨⟨h0,h1⟩,h3⟩,h4⟩,h5⟩:=h;have st:=BR h5;have ga:=e5 a _ C h4;have gs:=AJ es _ C h5;rw[h0];generalize v.2.2=args at h3 h5 st gs ⊢;cases args with
   | nil=>
     cases es with
     | nil=>exact JB ga h1 hl
     | cons _ _=>rw[Ar]at h5;cases h5
   | cons y ys=>
     rw[U6,Sf]at st;exact L8 ga gs h1 hl h3 st.1 st.2
 | .comp own cn js g it t e,r,X,k,N,sc,C,h=>by
   replace h:=c7 h;obtain⟨v,hv,h⟩:=h;replace h:=c7 h;obtain⟨c,hc,h⟩:=h;obtain⟨p,rfl⟩:=Kr hv;simp only[Sf,dQ]at h;obtain⟨⟨⟨⟨⟨⟨h0,h1⟩,h2⟩,h3⟩,h4⟩,h5⟩,h6⟩:=h;have hI:=Do it _ _ C h3;have hT:=λs2 H2 cs A fp=>LH t _ (C.comp h1 s2 H2 cs A fp) h5;have hE:=λs2 H2 cs A fp=>e5 e _ (C.comp h1 s2 H2 cs A fp) h6;rw[A6 hc];obtain⟨tg,ri,ifs,az⟩:=c;have h0:az=0:=h0;subst h0;exact QB (o:=SO.lst) (ckL GA) C h1 hI h4 (λs2 H2 cs A fp=>Bu (C.comp h1 s2 H2 cs A fp) g _ h2) (λs2 H2 cs A fp=>(hT s2 H2 cs A fp).1) (hT X.s₀ X.H₀ [] 0 []).2 (λs2 H2 cs A fp=>(Q7 rfl (hE s2 H2 cs A fp).pe).m) (NE (hE X.s₀ X.H₀ [] 0 []).m) (D0 (hE X.s₀ X.H₀ [] 0 []).m) rfl (λ_ _ _=>⟨i8,.nil⟩) (λh=>⟨_,h⟩) rfl
 | .tyc t,r,X,k,N,sc,C,h=>by
   replace h:=c7 h;obtain⟨x,hx,h⟩:=h;obtain⟨p,rfl⟩:=AS hx;simp only[Sf,dQ]at h;obtain⟨⟨rfl,h1⟩,h2⟩:=h;exact JC C h1 h2
 | .lrng1 a,r,X,k,N,sc,C,h=>by
   replace h:=c7 h;obtain⟨v,hv,h⟩:=h;replace h:=c7 h;obtain⟨z,hz,h⟩:=h;replace h:=c7 h;obtain⟨u,hu,h⟩:=h;replace h:=c7 h;obtain⟨ra,hra,h⟩:=h;obtain⟨p,q,rfl⟩:=y8 hv;obtain⟨p2,q2,rfl⟩:=y8 hu;simp only[Sf,dQ]at h;obtain⟨⟨⟨⟨⟨e1,e2⟩,h1⟩,h2⟩,h3⟩,h4⟩:=h;rw[A6 hz,A6 hra,e1,e2];rw[e1]at h1;rw[e2]at h2;exact F4 C h1 h2 (e5 a _ C h3) h4
 | .lrng2 a b,r,X,k,N,sc,C,h=>by
   replace h:=c7 h;obtain⟨v,hv,h⟩:=h;replace h:=c7 h;obtain⟨z,hz,h⟩:=h;replace h:=c7 h;obtain⟨u,hu,h⟩:=h;replace h:=c7 h;obtain⟨ra,hra,h⟩:=h;obtain⟨p,q,rfl⟩:=y8 hv;obtain⟨p2,q2,rfl⟩:=y8 hu;simp only[Sf,dQ]at h;obtain⟨⟨⟨⟨⟨⟨⟨e1,e2⟩,h1⟩,h2⟩,h3⟩,h4⟩,h5⟩,h6⟩:=h;rw[A6 hz,Ev hra,e1,e2];rw[e1]at h1;rw[e2]at h2;exact F5 C h1 h2 (e5 a _ C h3) (e5 b _ C h5) h4 h6
 | .srtf a,r,X,k,N,sc,C,h=>by
   replace h:=c7 h;obtain⟨v,hv,h⟩:=h;replace h:=c7 h;obtain⟨ra,hra,h⟩:=h;obtain⟨p,q,rfl⟩:=y8 hv;simp only[Sf,dQ]at h;obtain⟨⟨⟨e1,h1⟩,h3⟩,h4⟩:=h;rw[e1]at h1;rw[A6 hra,e1];exact Gf (Uc (Nat.add_le_add_left (by decide) _) C.un) C h1 (e5 a _ C h3) h4
 | .ninl a b,r,X,k,N,sc,C,h=>by
   replace h:=c7 h;obtain⟨v,hv,h⟩:=h;replace h:=c7 h;obtain⟨rb,hb,h⟩:=h;obtain⟨p,rfl⟩:=E8 hv;simp only[Sf,dQ]at h;obtain⟨⟨⟨h0,h1⟩,h2⟩,h3⟩:=h;rw[h0,A6 hb];have ga:=e5 a _ C h1;have gb:=e5 b _ C h2;have:=C.un;exact Ge (by omega) ga.pe gb.pe ga.m gb.m h3
 | .srtk x lp j y cn js a e,r,X,k,N,sc,C,h=>by
   replace h:=c7 h;obtain⟨⟨f,as,kw⟩,hv,h⟩:=h;replace h:=c7 h;obtain⟨ra,hra,h⟩:=h;replace h:=c7 h;obtain⟨l,hl,h⟩:=h;obtain⟨p,q,rfl⟩:=N2 hv;obtain⟨ka,kv,kp⟩:=kw;obtain⟨an,ap,ekv⟩:=My hl;simp only[Sf,dQ]at h;obtain⟨⟨⟨⟨⟨⟨⟨⟨⟨e1,h1⟩,h2⟩,h3⟩,e2⟩,h4⟩,e3⟩,e4⟩,h5⟩,h6⟩:=h;have ekv':kv=_:=ekv;subst e1;subst e2;subst ekv';subst e3;subst e4;rw[A6 hra];exact Ga C h1 (e5 a _ C h2) h3 h4 h5 λs H f c'=>e5 e _ (C.lam h4 h5 _ s H f c') h6
 | .srtset a,r,X,k,N,sc,C,h=>by
   replace h:=c7 h;obtain⟨v,hv,h⟩:=h;replace h:=c7 h;obtain⟨z,hz,h⟩:=h;replace h:=c7 h;obtain⟨u,hu,h⟩:=h;replace h:=c7 h;obtain⟨ra,hra,h⟩:=h;obtain⟨p,q,rfl⟩:=y8 hv;obtain⟨p2,q2,rfl⟩:=y8 hu;simp only[Sf,dQ]at h;obtain⟨⟨⟨⟨⟨e1,e2⟩,h1⟩,h2⟩,h3⟩,h4⟩:=h;rw[e1]at h1;rw[e2]at h2;rw[A6 hz,A6 hra,e1,e2];exact ED C h1 h2 (e5 a _ C h3) h4
 | .setl a,r,X,k,N,sc,C,h=>by
   replace h:=c7 h;obtain⟨v,hv,h⟩:=h;replace h:=c7 h;obtain⟨ra,hra,h⟩:=h;obtain⟨p,q,rfl⟩:=y8 hv;simp only[Sf,dQ]at h;obtain⟨⟨⟨e1,h1⟩,h3⟩,h4⟩:=h;rw[e1]at h1;rw[A6 hra,e1];exact GZ C h1 (e5 a _ C h3) h4
 | .no,r,X,k,N,sc,C,h => .never
theorem AJ{T:List Str}{Δ:Nat->Sn}:∀(es:Exs) (rs:List Expr) {X:Cx} {k:Nat} {N:List Str} {sc:Ww},Cok T Δ X k N sc->Ar T N sc es rs=true->GoodA X rs (Et Δ es)
 | .nil,rs,X,k,N,sc,C,h=>by
   rw[Ar,U1]at h;subst h;exact J8
 | .cons e es,rs,X,k,N,sc,C,h=>by
   rw[Ar]at h;replace h:=c7 h;obtain⟨x,hx,h⟩:=h;simp only[Sf]at h;rw[AX hx];exact GX (e5 e _ C h.1.1) (AJ es _ C h.2) h.1.2
theorem Rn{T:List Str}{Δ:Nat->Sn}:∀(o:Eo) (r:Option Expr) {X:Cx} {k:Nat} {N:List Str} {sc:Ww},Cok T Δ X k N sc->Ps T N sc o r=true->PO X r (Ky X.K (wEo Δ o).1)/\MonoO (wEo Δ o).1
 | .no,r,X,k,N,sc,C,h=>by
   rw[Ps]at h;rw[Option.isNone_iff_eq_none.mp h];exact⟨Ra,.no⟩
 | .yes e,r,X,k,N,sc,C,h=>by
   rw[Ps]at h;replace h:=c7 h;obtain⟨x,hx,h⟩:=h;subst hx;exact⟨Pw (e5 e _ C h),.yes (e5 e _ C h).m⟩
theorem LH{T:List Str}{Δ:Nat->Sn}:∀(o:Eo) (rs:List Expr) {X:Cx} {k:Nat} {N:List Str} {sc:Ww},Cok T Δ X k N sc->Hd T N sc o rs=true->Ec X rs (liftT X.K (wEo Δ o).2)/\MonoT (wEo Δ o).2
 | .no,rs,X,k,N,sc,C,h=>by
   rw[Hd,U1]at h;subst h;exact⟨LG,λ_ _ _ _ i q=>i _ _ q⟩
 | .yes e,rs,X,k,N,sc,C,h=>by
   rw[Hd]at h;replace h:=c7 h;obtain⟨x,hx,h⟩:=h;rw[A6 hx];exact⟨QA (e5 e _ C h),(e5 e _ C h).mt⟩
theorem Do{T:List Str}{Δ:Nat->Sn}:∀(it:Itb) (tg r:Expr) {X:Cx} {k:Nat} {N:List Str} {sc:Ww},Cok T Δ X k N sc->Pt T N sc it tg r=true->GoodI X tg r (Mw Δ it)
 | .seq e,tg,r,X,k,N,sc,C,h=>by
   exact JE (e5 e _ C h)
 | .rng1 a,tg,r,X,k,N,sc,C,h=>by
   replace h:=c7 h;obtain⟨v,hv,h⟩:=h;replace h:=c7 h;obtain⟨ra,hra,h⟩:=h;obtain⟨p,q,rfl⟩:=y8 hv;simp only[Sf,dQ]at h;obtain⟨⟨⟨e1,h1⟩,h2⟩,h3⟩:=h;rw[e1]at h1;rw[A6 hra,e1];exact Gj C h1 (e5 a _ C h2) h3
 | .rng2 a b,tg,r,X,k,N,sc,C,h=>by
   replace h:=c7 h;obtain⟨v,hv,h⟩:=h;replace h:=c7 h;obtain⟨ra,hra,h⟩:=h;obtain⟨p,q,rfl⟩:=y8 hv;simp only[Sf,dQ]at h;obtain⟨⟨⟨⟨⟨e1,h1⟩,h2⟩,h3⟩,h4⟩,h5⟩:=h;rw[e1]at h1;rw[Ev hra,e1];exact Gk C h1 (e5 a _ C h2) (e5 b _ C h4) h3 h5
 | .enum e,tg,r,X,k,N,sc,C,h=>by
   replace h:((E7 tg).isSome&&(vFn r).any λv=>(l1 v.2).any λa=>decide (v.1=("enumerate":Str))&&glo sc v.1&&j7 T N sc e a&&f9 a)=true:=h;rw[Sf]at h;obtain⟨ht,h⟩:=h;obtain⟨es,he⟩:=UY.mp ht;obtain⟨j,tp,rfl⟩:=Bs he;replace h:=c7 h;obtain⟨v,hv,h⟩:=h;replace h:=c7 h;obtain⟨ra,hra,h⟩:=h;obtain⟨p,q,rfl⟩:=y8 hv;simp only[Sf,dQ]at h;obtain⟨⟨⟨e1,h1⟩,h2⟩,h3⟩:=h;rw[e1]at h1;rw[A6 hra,e1];exact Gi C h1 (e5 e _ C h2) h3
 | .zip i j,tg,r,X,k,N,sc,C,h=>by
   replace h:((E7 tg).isSome&&(vFn r).any λv=>(l2 v.2).any λa=>(Aq a.1).any λy=>(Aq a.2).any λz=>decide (v.1=("zip":Str))&&glo sc v.1&&nmB N sc i y&&nmB N sc j z)=true:=h;rw[Sf]at h;obtain⟨ht,h⟩:=h;obtain⟨es,he⟩:=UY.mp ht;obtain⟨j,tp,rfl⟩:=Bs he;replace h:=c7 h;obtain⟨v,hv,h⟩:=h;replace h:=c7 h;obtain⟨ra,hra,h⟩:=h;replace h:=c7 h;obtain⟨y,hy,h⟩:=h;replace h:=c7 h;obtain⟨z,hz,h⟩:=h;obtain⟨p,q,rfl⟩:=y8 hv;obtain⟨p1,e1⟩:=AS hy;obtain⟨p2,e2⟩:=AS hz;simp only[Sf,dQ]at h;obtain⟨⟨⟨e0,h1⟩,h2⟩,h3⟩:=h;rw[e0]at h1;rw[Ev hra,e0,e1,e2];exact JH C h1 (Gm C h2) (Gm C h3)
end
def D1:Expr->Option Ww
 | .ListComp _ _ s _=>some s
 | .SetComp _ _ s _=>some s
 | .DictComp _ _ _ s _=>some s
 | _=>none
def D2(sc:Ww)(e:Expr)(x:Str)(px:Pos):Bool:=match D1 e with
 | none=>false
 | some s=>sc.names.lookup x == some .local&&px.line == e.pos.line&&!(s.names.any λ(n,k)=>n == x&&(k == .local||k == .cell))
theorem Hs{env:Env}{e:Expr}{x:Str}{px:Pos}{l:Nat}(hk:env.scope.kind = .function):Xa e (some (.Name x px)) l env=pure (D2 env.scope e x px):=by
 have hb:env.blockKind = .function:=by unfold Env.blockKind;rw[hk];rfl
 unfold Xa D2 D1
 cases e<;>first
  | rfl
  | (show(pure _:Sem Bool)=_;rw[hb];rfl)
def LJ:Expr->Bool
 | .Tuple ..=>false
 | _=>true
def EI:Expr->Option (Str×Pos)
 | .Name x p=>some (x,p)
 | _=>none
theorem Dp{r:Expr}{x:Str×Pos}(h:EI r=some x):r = .Name x.1 x.2:=by cases r<;>first | (cases h;rfl) | exact v5 h
def QC:Stmt->Option (List Expr×Expr)
 | .Assign ts e _=>some (ts,e)
 | _=>none
def Ro:Stmt->Option Expr
 | .Expr e _=>some e
 | _=>none
def Rp:Stmt->Option (Expr×List Stmt×List Stmt)
 | .If t a b _=>some (t,a,b)
 | _=>none
def Rq:Stmt->Option (Expr×Expr×List Stmt×List Stmt)
 | .For g i b o _=>some (g,i,b,o)
 | _=>none
def Rr:Stmt->Option (Expr×List Stmt×List Stmt)
 | .While t b o _=>some (t,b,o)
 | _=>none
def Rs:Stmt->Option (Option Expr)
 | .Return e _=>some e
 | _=>none
theorem Ht{r:Stmt}{x:List Expr×Expr}(h:QC r=some x):∃ p,r = .Assign x.1 x.2 p:=by cases r<;>first | (cases h;exact⟨_,rfl⟩) | exact v5 h
theorem NG{r:Stmt}{x:Expr}(h:Ro r=some x):∃ p,r = .Expr x p:=by cases r<;>first | (cases h;exact⟨_,rfl⟩) | exact v5 h
theorem NH{r:Stmt}{x:Expr×List Stmt×List Stmt}(h:Rp r=some x):∃ p,r = .If x.1 x.2.1 x.2.2 p:=by cases r<;>first | (cases h;exact⟨_,rfl⟩) | exact v5 h
theorem NI{r:Stmt}{x:Expr×Expr×List Stmt×List Stmt}(h:Rq r=some x):∃ p,r = .For x.1 x.2.1 x.2.2.1 x.2.2.2 p:=by cases r<;>first | (cases h;exact⟨_,rfl⟩) | exact v5 h
theorem NJ{r:Stmt}{x:Expr×List Stmt×List Stmt}(h:Rr r=some x):∃ p,r = .While x.1 x.2.1 x.2.2 p:=by cases r<;>first | (cases h;exact⟨_,rfl⟩) | exact v5 h
theorem NK{r:Stmt}{x:Option Expr}(h:Rs r=some x):∃ p,r = .Return x p:=by cases r<;>first | (cases h;exact⟨_,rfl⟩) | exact v5 h
def OK(sc:Ww)(rt:Expr):Bool:=(E7 rt).any λts=>(l2 ts).any λnn=>(EI nn.1).any λx=>!(sc.names.lookup x.1 == some .local)
def QD(sc:Ww)(rt re:Expr):Bool:=match EI rt with
 | some x=>!D2 sc re x.1 x.2||isCmp re
 | none=>(E7 rt).isSome&&(LJ re||OK sc rt)
mutual
noncomputable def Rt(T:List Str)(N:List Str)(sc:Ww):Stm->Stmt->Bool
 | .asg t e,r=>(QC r).any λv=>(l1 v.1).any λrt=>Ba N.length N sc t rt&&j7 T N sc e v.2&&f9 rt&&QD sc rt v.2
 | .put o i e,r=>(QC r).any λv=>(l1 v.1).any λrt=>(Pn rt).any λoi=>j7 T N sc o oi.1&&j7 T N sc i oi.2&&j7 T N sc e v.2&&BC oi.2
 | .expr e,r=>(Ro r).any λre=>j7 T N sc e re&&(D1 re).isNone
 | .iff t a b,r=>(Rp r).any λv=>j7 T N sc t v.1&&Bw T N sc a v.2.1&&Bw T N sc b v.2.2
 | .loop g it b,r=>(Rq r).any λv=>Ba N.length N sc g v.1&&Pt T N sc it v.1 v.2.1&&AR v.2.1&&Bw T N sc b v.2.2.1&&v.2.2.2.isEmpty
 | .whl t b,r=>(Rr r).any λv=>j7 T N sc t v.1&&Bw T N sc b v.2.1&&v.2.2.isEmpty
 | .ret e,r=>(Rs r).any λo=>o.any λre=>j7 T N sc e re
 | .no,_=>true
noncomputable def Bw(T:List Str)(N:List Str)(sc:Ww):List Stm->List Stmt->Bool
 | [],r=>r.isEmpty
 | s::ss,r=>(r.head?).any λx=>Rt T N sc s x&&Bw T N sc ss r.tail
end
noncomputable def FK(K:Sd)(as:List Wm)(H:Hp)(D:Ends):EndsS where
 nx:=λρ' S'=>∀ as' H' σ',Go as H as' H'->Ok K as' H' S'->EnvOk K as' H' σ' ρ'->D.nx σ' H'
 rt:=Post K as H D.rt
 bk:=λρ' S'=>∀ as' H' σ',Go as H as' H'->Ok K as' H' S'->EnvOk K as' H' σ' ρ'->D.bk σ' H'
 ct:=λρ' S'=>∀ as' H' σ',Go as H as' H'->Ok K as' H' S'->EnvOk K as' H' σ' ρ'->D.ct σ' H'
noncomputable def liftS(K:Sd)(w:WS):TS:=λD σ H=>∃ as ρ S,Ok K as H S/\EnvOk K as H σ ρ/\w (FK K as H D) ρ S
structure Le(D D':EndsS):Prop where
 nx:∀ ρ S,D.nx ρ S->D'.nx ρ S
 rt:∀ x S,D.rt x S->D'.rt x S
 bk:∀ ρ S,D.bk ρ S->D'.bk ρ S
 ct:∀ ρ S,D.ct ρ S->D'.ct ρ S
def MonoS(w:WS):Prop:=∀ D D' ρ S,Le D D'->w D ρ S->w D' ρ S
theorem MonoS.go{w:WS}(m:MonoS w){D D':EndsS}{ρ:EnvS}{S:Sto}(h:w D ρ S)(l:Le D D'):w D' ρ S:=m D D' ρ S l h
theorem Le.go{K:Sd}{as as':List Wm}{H H':Hp}{D:Ends}(g:Go as H as' H'):Le (FK K as H D) (FK K as' H' D) where
 nx:=λρ S h as2 H2 σ2 g2=>h as2 H2 σ2 (g.trans g2)
 rt:=λx S h=>Post.mono h g
 bk:=λρ S h as2 H2 σ2 g2=>h as2 H2 σ2 (g.trans g2)
 ct:=λρ S h as2 H2 σ2 g2=>h as2 H2 σ2 (g.trans g2)
structure GoodS(X:Cx)(r:Stmt)(w:WS):Prop where
 ps:PS X r (liftS X.K w)
 m:MonoS w
structure GoodSs(X:Cx)(r:List Stmt)(w:WS):Prop where
 ps:PSs X r (liftS X.K w)
 m:MonoS w
theorem AH{X:Cx}{st:Stmt}{t:TS}(t':TS)(h:PS X st t)(imp:∀ D σ H,t' D σ H->t D σ H):PS X st t':=λpins s σ H D I hw=>h pins s σ H D I (imp D σ H hw)
theorem FL{X:Cx}{st:List Stmt}{t:TS}(t':TS)(h:PSs X st t)(imp:∀ D σ H,t' D σ H->t D σ H):PSs X st t':=λpins s σ H D I hw=>h pins s σ H D I (imp D σ H hw)
section
variable{X:Cx}
theorem Gn:GoodSs X [] (λD ρ S=>D.nx ρ S):=⟨FL _ ME λD σ H ⟨as,ρ,S,ok,en,h⟩=>h as H σ (Go.refl _ _) ok en,λD D' ρ S l h=>l.nx _ _ h⟩
theorem FM{s:Stmt}{ss:List Stmt}{w u:WS}(h1:GoodS X s w)(h2:GoodSs X ss u):GoodSs X (s::ss) (λD ρ S=>w {D with nx:=u D} ρ S) where
 ps:=FL _ (Jc h1.ps h2.ps) (by
  rintro D σ H ⟨as,ρ,S,ok,en,h⟩;refine⟨as,ρ,S,ok,en,h1.m.go h ⟨λρ' S' q as' H' σ' g ok' en'=>?_,λ_ _ h=>h,λ_ _ h=>h,λ_ _ h=>h⟩⟩;exact⟨as',ρ',S',ok',en',h2.m _ _ _ _ (Le.go g) q⟩)
 m:=λD D' ρ S l h=>h1.m.go (D:={D with nx:=u D}) h ⟨λρ' S' q=>h2.m _ _ _ _ l q,l.rt,l.bk,l.ct⟩
theorem NL{K:Sd}{g:Tg}{w:WE}(m:Mono w):∀ D σ H,liftS K (λD ρ S=>w ρ S λx S1=>wTg g x ρ λρ'=>D.nx ρ' S1) D σ H->Ft (lift K w) (FA K g) D σ H:=by
 rintro D σ H ⟨as,ρ,S,ok,en,h⟩;refine⟨as,ρ,S,ok,en,m _ _ _ _ (λx S1 q as1 H1 v g1 ok1 rv=>?_) h⟩;exact⟨as1,ρ,S1,x,ok1,en.mono g1.pre (g1.ku ok),rv,y9 g (λρ' q σ' en'=>q as1 H1 σ' g1 ok1 en') q⟩
theorem FN{K:Sd}{i:Nat}{w:WE}(m:Mono w):∀ D σ H,liftS K (λD ρ S=>w ρ S λx S1=>wTg (.nm i) x ρ λρ'=>D.nx ρ' S1) D σ H->Ft (lift K w) (EY i) D σ H:=by
 rintro D σ H ⟨as,ρ,S,ok,en,h⟩;refine⟨as,ρ,S,ok,en,m _ _ _ _ (λx S1 q as1 H1 v g1 ok1 rv=>?_) h⟩;unfold wTg at q;exact q as1 H1 _ g1 ok1 ((en.mono g1.pre (g1.ku ok)).set rv)
theorem FO{g:Tg}{w:WE}(m:Mono w):MonoS (λD ρ S=>w ρ S λx S1=>wTg g x ρ λρ'=>D.nx ρ' S1):=λD D' ρ S l h=>m _ _ _ _ (λx S1 q=>y9 g (λρ' q=>l.nx _ _ q) q) h
theorem QF{K:Sd}{t:WT}{a b:WS}(mt:MonoT t)(ma:MonoS a)(mb:MonoS b):∀ D σ H,liftS K (λD ρ S=>t ρ S λc S1=>if c=true then a D ρ S1 else b D ρ S1) D σ H->Qf (liftT K t) (liftS K a) (liftS K b) D σ H:=by
 rintro D σ H ⟨as,ρ,S,ok,en,h⟩;refine⟨as,ρ,S,ok,en,mt _ _ _ _ (λc S1 q as1 H1 g1 ok1=>?_) h⟩;refine l9 (λq=>?_) (λq=>?_) q
 ·exact⟨as1,ρ,S1,ok1,en.mono g1.pre (g1.ku ok),ma _ _ _ _ (Le.go g1) q⟩
 ·exact⟨as1,ρ,S1,ok1,en.mono g1.pre (g1.ku ok),mb _ _ _ _ (Le.go g1) q⟩
theorem BS{keep:Sto->Prop}{g:Tg}{b:WS}(mb:MonoS b):∀(xs:List SV) {D D':EndsS},Le D D'->∀ ρ S,y7 keep g b D xs ρ S->y7 keep g b D' xs ρ S
 | [],D,D',l,ρ,S,h=>by unfold y7 at h ⊢;exact⟨h.1,l.nx _ _ h.2⟩
 | x::xs,D,D',l,ρ,S,h=>by
   unfold y7 at h ⊢;exact⟨h.1,y9 g (λρ2 q=>mb.go (D:={D with nx:=y7 keep g b D xs,ct:=y7 keep g b D xs,bk:=D.nx}) q ⟨BS mb xs l,l.rt,l.nx,BS mb xs l⟩) h.2⟩
theorem NM{K:Sd}{g:Tg}{i:WI}{b:WS}(mi:MonoI i)(mb:MonoS b):∀ D σ H,liftS K (λD ρ S=>i ρ S λkeep xs S1=>y7 keep g b D xs ρ S1) D σ H->Qm (liftI K i) (FA K g) (liftS K b) D σ H:=by
 rintro D σ H ⟨as,ρ,S,ok,en,h⟩;refine⟨as,ρ,S,ok,en,mi _ _ _ _ (λkeep xs S1 h as1 H1 J g1 ok1 W=>?_) h⟩
 refine⟨λi m σ2 H2=>m=xs.length - i/\i<=xs.length/\∃ as2 ρ2 S2,Go as1 H1 as2 H2/\Ok K as2 H2 S2/\EnvOk K as2 H2 σ2 ρ2/\y7 keep g b (FK K as H D) (xs.drop i) ρ2 S2,
  ⟨xs.length,by simp,U4 _,as1,ρ,S1,Go.refl _ _,ok1,en.mono g1.pre (g1.ku ok),h⟩,?_⟩
 rintro i m σ2 H2 ⟨rfl,hi,as2,ρ2,S2,g2,ok2,en2,h⟩;by_cases hlt:i<xs.length
 ·right;rw[V8 hlt]at h;unfold y7 at h;obtain⟨kp,h⟩:=h;obtain⟨w1,_⟩:=W as2 H2 S2 (g2.gu ok1) ok2 kp;obtain⟨go,yl⟩:=w1 i xs[i] (Si hlt);refine⟨go,λσ' H'=>∃ as2 ρ2 S2,Go as1 H1 as2 H'/\Ok K as2 H' S2/\EnvOk K as2 H' σ' ρ2/\y7 keep g b (FK K as H D) (xs.drop (i+1)) ρ2 S2,λσ' H' z=>⟨xs.length - (i+1),by omega,rfl,hlt,z⟩,λx H3 y3=>?_⟩;obtain⟨g3,ok3,rx⟩:=yl x H3 y3;refine⟨as2,ρ2,S2,_,ok3,en2.mono g3.pre (g3.ku ok2),rx,y9 g (λρ3 q σ3 en3=>?_) h⟩;have g03:=(g1.trans g2).trans g3;refine⟨as2,ρ3,S2,ok3,en3,mb.go q ⟨λρ' S' q as' H' σ' g' ok' en'=>?_,λx S h=>Post.mono h g03,λρ' S' q as' H' σ' g' ok' en'=>q as' H' σ' (g03.trans g') ok' en',λρ' S' q as' H' σ' g' ok' en'=>?_⟩⟩
  ·exact⟨as',ρ',S',(g2.trans g3).trans g',ok',en',q⟩
  ·exact⟨as',ρ',S',(g2.trans g3).trans g',ok',en',q⟩
 ·left;have hi':i=xs.length:=by omega
  subst hi';rw[W9]at h;unfold y7 at h;obtain⟨kp,h⟩:=h;obtain⟨_,w2⟩:=W as2 H2 S2 (g2.gu ok1) ok2 kp;exact⟨w2,h as2 H2 σ2 (g1.trans g2) ok2 en2⟩
theorem FP{t:WT}{b:WS}(mt:MonoT t)(mb:MonoS b):MonoS (Pl t b):=λD D' ρ S l ⟨W,w0,h⟩=>⟨W,w0,λm ρ S w=>mt _ _ _ _ (λc S1 q=>l9 (λq=>mb.go (D:={D with nx:=λρ' S'=>∃ m',m'<m/\W m' ρ' S',ct:=λρ' S'=>∃ m',m'<m/\W m' ρ' S',bk:=D.nx}) q ⟨λ_ _ h=>h,l.rt,l.nx,λ_ _ h=>h⟩) (λq=>l.nx _ _ q) q) (h m ρ S w)⟩
theorem NN{K:Sd}{t:WT}{b:WS}(mt:MonoT t)(mb:MonoS b):∀ D σ H,liftS K (Pl t b) D σ H->Jf (liftT K t) (liftS K b) D σ H:=by
 rintro D σ H ⟨as,ρ,S,ok,en,W,⟨m0,w0⟩,h⟩;refine⟨λm σ1 H1=>∃ as1 ρ1 S1,Go as H as1 H1/\Ok K as1 H1 S1/\EnvOk K as1 H1 σ1 ρ1/\W m ρ1 S1,⟨m0,as,ρ,S,Go.refl _ _,ok,en,w0⟩,?_⟩;rintro m σ1 H1 ⟨as1,ρ1,S1,g1,ok1,en1,w1⟩;refine⟨as1,ρ1,S1,ok1,en1,mt _ _ _ _ (λc S2 q as2 H2 g2 ok2=>?_) (h m ρ1 S1 w1)⟩;refine l9 (λq=>?_) (λq=>q as2 H2 σ1 (g1.trans g2) ok2 (en1.mono g2.pre (g2.ku ok1))) q;refine⟨λσ' H'=>∃ m',m'<m/\∃ as1 ρ1 S1,Go as H as1 H'/\Ok K as1 H' S1/\EnvOk K as1 H' σ' ρ1/\W m' ρ1 S1,λσ' H' z=>z,?_⟩;refine⟨as2,ρ1,S2,ok2,en1.mono g2.pre (g2.ku ok1),mb.go q ⟨λρ' S' ⟨m',hm,w'⟩ as' H' σ' g' ok' en'=>?_,λx S h=>Post.mono h (g1.trans g2),λρ' S' q as' H' σ' g' ok' en'=>q as' H' σ' ((g1.trans g2).trans g') ok' en',λρ' S' ⟨m',hm,w'⟩ as' H' σ' g' ok' en'=>?_⟩⟩
 ·exact⟨m',hm,as',ρ',S',(g1.trans g2).trans g',ok',en',w'⟩
 ·exact⟨m',hm,as',ρ',S',(g1.trans g2).trans g',ok',en',w'⟩
theorem D3{x y v:SV}{S:Sto}{P P':Sto->Prop}(i:∀ S,P S->P' S)(h:Iw x y v S P):Iw x y v S P':=by
 unfold Iw at h ⊢;split at h
 ·obtain⟨xs,j,a,b,c⟩:=h;exact⟨xs,j,a,b,i _ c⟩
 ·exact h.elim
theorem NO{K:Sd}{as:List Wm}{H:Hp}{S:Sto}{x y z:SV}{o i v:V}{Q:Hp->Prop}(ok:Ok K as H S)(ro:Rl K as H o x)(ri:Rl K as H i y)(rv:Rl K as H v z)(h:Iw x y z S λS'=>∀ H',Go as H as H'->Ok K as H' S'->Q H'):Jn o i v H Q:=by
 cases x with
 | loc k=>
   cases y with
   | int n=>
     obtain⟨xs,j,h1,h2,h3⟩:=h;obtain⟨a,vs,rfl,ea,ha,ra⟩:=n4 ok ro h1;rw[rl_int]at ri;subst ri;refine⟨a,vs,n,j,rfl,rfl,ha,by rw[ra.length];exact h2,h3 _ (Go.write (Ss ea)) (ok.write h1 ea (ra.set rv j)).1⟩
   | _=>exact False.elim h
 | _=>exact False.elim h
theorem NP{K:Sd}{o i e:WE}(mo:Mono o)(mi:Mono i)(me:Mono e):∀ D σ H,liftS K (λD ρ S=>e ρ S λv S1=>o ρ S1 λx S2=>i ρ S2 λy S3=>Iw x y v S3 λS4=>D.nx ρ S4) D σ H->Ft (lift K e) (Qj (lift K o) (lift K i) Jn) D σ H:=by
 rintro D σ H ⟨as,ρ,S,ok,en,h⟩;refine⟨as,ρ,S,ok,en,me _ _ _ _ (λz S1 q as1 H1 v g1 ok1 rv=>?_) h⟩;have en1:=en.mono g1.pre (g1.ku ok);refine⟨as1,ρ,S1,ok1,en1,mo _ _ _ _ (λx S2 q as2 H2 u g2 ok2 ru=>?_) q⟩;have en2:=en1.mono g2.pre (g2.ku ok1);refine⟨as2,ρ,S2,ok2,en2,mi _ _ _ _ (λy S3 q as3 H3 t g3 ok3 rt=>?_) q⟩;have en3:=en2.mono g3.pre (g3.ku ok2);refine NO ok3 (Rl.mono g3.pre (g3.ku ok2) x u ru) rt (Rl.mono (g2.trans g3).pre ((g2.trans g3).ku ok1) z v rv) (D3 (λS4 q H4 g4 ok4=>?_) q);exact q as3 H4 σ (((g1.trans g2).trans g3).trans g4) ok4 (en3.mono g4.pre (g4.ku ok3))
end
theorem QG{env:Env}{es:List Expr}{k:Nat}{p:Pos}{e:Expr}{l:Nat}:Xm [.Tuple es k p] e l env=pure false:=by
 unfold Xm Xa;cases e<;>rfl
theorem QH{env:Env}{o i:Expr}{p:Pos}{e:Expr}{l:Nat}:Xm [.Subscript o i p] e l env=pure false:=by
 unfold Xm Xa;cases e<;>rfl
theorem QI{env:Env}{es:List Expr}{k:Nat}{p:Pos}{e:Expr}(h:LJ e=true):XS [.Tuple es k p] e env=pure none:=by
 unfold XS;cases e<;>first | rfl | cases h
theorem NQ{env:Env}{x:Str}{px p:Pos}{t2:Expr}{k:Nat}{e:Expr}(h:(env.scope.names.lookup x == some NameKind.local)=false):XS [.Tuple [.Name x px,t2] k p] e env=pure none:=by
 have kx:(env.kindOf x == some NameKind.local)=false:=h;cases e with
 | Tuple vs k2 p2=>
   unfold XS
   have key:∀ f:Expr->Option Str,f (.Name x px)=none->((List.filterMap f [.Name x px,t2]).length != [Expr.Name x px,t2].length)=true:=λf hf=>by
    rw[VE hf];have:=List.length_filterMap_le f [t2];simp only[Te,WJ]at this ⊢;rw[bne_iff_ne];omega
   dsimp only;split
   ·rfl
   ·split
    ·rfl
    ·rw[key _ (by show(if (env.kindOf x == some NameKind.local&&_)=true then some x else none)=none;rw[kx];rfl),We];rfl
 | _=>rfl
theorem QJ{env:Env}{o i:Expr}{p:Pos}{e:Expr}:XS [.Subscript o i p] e env=pure none:=by
 unfold XS;cases e<;>rfl
theorem FQ{t:WT}{a b:WS}(mt:MonoT t)(ma:MonoS a)(mb:MonoS b):MonoS (λD ρ S=>t ρ S λc S1=>if c=true then a D ρ S1 else b D ρ S1):=λD D' ρ S l h=>mt _ _ _ _ (λc S1 q=>l9 (λq=>ma.go q l) (λq=>mb.go q l) q) h
section
variable{T:List Str}{Δ:Nat->Sn}{X:Cx}{N:List Str}{sc:Ww}
theorem OL{env:Env}{e:Expr}(h:f9 e=true):(XI [e] env).map (·.2)=[assign e env]:=by cases e<;>first | rfl | cases h
theorem Gp{env:Env}{o i:Expr}{p:Pos}(h:BC i=true):∀ v,assign (.Subscript o i p) env v=(do
 let ov <- holding [v] (eval o env)
 let iv <- holding [v,ov] (eval i env)
 standAt p
 holding [v,ov,iv] (setItem ov iv v)
 release [v,ov,iv] []):=λv=>by cases i<;>first | rfl | cases h
theorem JK{sc:Ww}{re:Expr}{x:Str}{px:Pos}(h:D2 sc re x px=true):sc.names.lookup x=some .local:=by
 unfold D2 at h;cases hi:D1 re with
 | none=>rw[hi]at h;cases h
 | some s=>rw[hi]at h;simp only[Sf,bQ]at h;exact h.1.1
theorem JL(C:Cok T Δ X N.length N sc)(hk:sc.kind = .function){t:Tg}{e:Ex}{rt re:Expr}{pos:Pos}(h1:Ba N.length N sc t rt=true)(h2:j7 T N sc e re=true)(h3:f9 rt=true)(h4:QD sc rt re=true):PS X (.Assign [rt] re pos) (liftS X.K λD ρ S=>(wEx Δ e).1 ρ S λx S1=>wTg t x ρ λρ'=>D.nx ρ' S1):=by
 have ge:=e5 e re C h2;unfold QD at h4;cases hv:EI rt with
 | none=>
   rw[hv]at h4;rw[Sf]at h4;obtain⟨es,hes⟩:=UY.mp h4.1;obtain⟨j,p,rfl⟩:=Bs hes
   have hw:XS [.Tuple es j p] re X.env=pure none:=by
    rcases(Ti _ _).mp h4.2 with z | z
    ·exact QI z
    ·unfold OK at z;replace z:=c7 z;obtain⟨ts,hts,z⟩:=z;replace z:=c7 z;obtain⟨nn,hnn,z⟩:=z;replace z:=c7 z;obtain⟨y,hy,z⟩:=z;rw[hts]at hes;cases hes;rw[Ev hnn,Dp hy];exact NQ (by rw[C.hs];simpa using z)
   exact AH _ (Je ge.pe (Bu C t _ h1) QG hw (OL rfl)) (NL ge.m)
 | some xp=>
   rw[hv]at h4;have e0:=Dp hv;obtain⟨x,px⟩:=xp;subst e0;cases t with
   | tup ts=>rw[Ba]at h1;cases h1
   | nm i=>
     rw[Ba]at h1;have h1:(decide (i<N.length)&&decide (N[i]?=some x)&&loc sc x)=true:=h1;simp only[Sf,dQ]at h1;obtain⟨⟨hi,hx⟩,hl⟩:=h1;unfold loc at hl;simp only[Ti,bQ]at hl;have hND:X.N.Nodup:=by rw[C.hN];exact C.nd
     have hNi:X.N[i]?=some x:=by rw[C.hN];exact hx
     have hloc:Loc X.env.scope x:=by rw[C.hs];exact hl
     have hf:X.fn x=true\/X.env.scope.names.lookup x=some .local:=by
      rw[C.hs];rcases hl with hl | hl
      ·exact .inr hl
      ·exact .inl (C.fn i x hi hx hl)
     have hke:X.env.scope.kind = .function:=by rw[C.hs];exact hk
     cases hsw:D2 sc re x px with
     | false=>exact AH _ (Oq hND hNi hloc ge.pe (by rw[Hs hke,C.hs,hsw]) hf) (FN ge.m)
     | true=>
       have h4:(!D2 sc re x px||isCmp re)=true:=h4;rw[hsw,Wa,WY]at h4;exact AH _ (ge.cg h4 i x px pos hND hNi (by rw[C.hs];exact JK hsw) (by rw[Hs hke,C.hs,hsw])) (FN ge.m)
mutual
theorem LK(C:Cok T Δ X N.length N sc)(hp:Ys (Wp X.prog X.w) X.A X.env X.xe)(nx:∀ e s,¬ X.xe e s)(hk:sc.kind = .function):∀(s:Stm) (r:Stmt),Rt T N sc s r=true->GoodS X r (wSt Δ s)
 | .asg t e,r,h=>by
   replace h:=c7 h;obtain⟨v,hv,h⟩:=h;replace h:=c7 h;obtain⟨rt,hrt,h⟩:=h;obtain⟨pos,rfl⟩:=Ht hv;simp only[Sf]at h;obtain⟨⟨⟨h1,h2⟩,h3⟩,h4⟩:=h;rw[A6 hrt];exact⟨JL C hk h1 h2 h3 h4,FO (e5 e _ C h2).m⟩
 | .put o i e,r,h=>by
   replace h:=c7 h;obtain⟨v,hv,h⟩:=h;replace h:=c7 h;obtain⟨rt,hrt,h⟩:=h;replace h:=c7 h;obtain⟨oi,hoi,h⟩:=h;obtain⟨pos,rfl⟩:=Ht hv;obtain⟨p2,e2⟩:=Hc hoi;simp only[Sf]at h;rw[A6 hrt,e2];have go:=e5 o _ C h.1.1.1;have gi:=e5 i _ C h.1.1.2;have ge:=e5 e _ C h.1.2;refine⟨AH _ (Je ge.pe (Op go.pe gi.pe Jo (Gp h.2)) QH QJ (OL rfl)) (NP go.m gi.m ge.m),?_⟩;exact λD D' ρ S l h=>ge.m _ _ _ _ (λv S1 q=>go.m _ _ _ _ (λx S2 q=>gi.m _ _ _ _ (λy S3 q=>D3 (λS4 q=>l.nx _ _ q) q) q) q) h
 | .expr e,r,h=>by
   replace h:=c7 h;obtain⟨re,hre,h⟩:=h;obtain⟨pos,rfl⟩:=NG hre;simp only[Sf]at h;have ge:=e5 e _ C h.1
   have hs:Xa re none pos.line X.env=pure false:=by
    have:=h.2;unfold Xa;cases re<;>first | rfl | (unfold D1 at this;cases this)
   refine⟨AH _ (MF ge.pe hs) ?_,λD D' ρ S l h=>ge.m _ _ _ _ (λx S1 q=>l.nx _ _ q) h⟩;rintro D σ H ⟨as,ρ,S,ok,en,h⟩;exact⟨as,ρ,S,ok,en,ge.m _ _ _ _ (λx S1 q as1 H1 v g1 ok1 rv=>q as1 H1 σ g1 ok1 (en.mono g1.pre (g1.ku ok))) h⟩
 | .iff t a b,r,h=>by
   replace h:=c7 h;obtain⟨v,hv,h⟩:=h;obtain⟨pos,rfl⟩:=NH hv;simp only[Sf]at h;have gt:=e5 t _ C h.1.1;have ga:=As C hp nx hk a _ h.1.2;have gb:=As C hp nx hk b _ h.2;exact⟨AH _ (Qg gt.pt ga.ps gb.ps) (QF gt.mt ga.m gb.m),FQ gt.mt ga.m gb.m⟩
 | .loop g it b,r,h=>by
   replace h:=c7 h;obtain⟨v,hv,h⟩:=h;obtain⟨pos,rfl⟩:=NI hv;simp only[Sf,U1]at h;obtain⟨⟨⟨⟨h1,h2⟩,h3⟩,h4⟩,h5⟩:=h;rw[h5];have gi:=Do it _ _ C h2;have gb:=As C hp nx hk b _ h4;refine⟨AH _ (Os hp C.calm gi.pi (Bu C g _ h1) gb.ps (Ae h3)) (NM gi.m gb.m),?_⟩;exact λD D' ρ S l h=>gi.m _ _ _ _ (λkeep xs S1 q=>BS gb.m xs l _ _ q) h
 | .whl t b,r,h=>by
   replace h:=c7 h;obtain⟨v,hv,h⟩:=h;obtain⟨pos,rfl⟩:=NJ hv;simp only[Sf,U1]at h;rw[h.2];have gt:=e5 t _ C h.1.1;have gb:=As C hp nx hk b _ h.1.2;exact⟨AH _ (Jg hp gt.pt gb.ps) (NN gt.mt gb.m),FP gt.mt gb.m⟩
 | .ret e,r,h=>by
   replace h:=c7 h;obtain⟨o,ho,h⟩:=h;replace h:=c7 h;obtain⟨re,hre,h⟩:=h;obtain⟨pos,rfl⟩:=NK ho;rw[hre];have ge:=e5 e _ C h;exact⟨AH _ (Ol ge.pe) λD σ H ⟨as,ρ,S,ok,en,h⟩=>⟨as,ρ,S,ok,en,h⟩,λD D' ρ S l h=>ge.m _ _ _ _ l.rt h⟩
 | .no,r,h=>⟨λ_ _ _ _ _ _ h=>let ⟨_,_,_,_,_,z⟩:=h;z.elim,λ_ _ _ _ _ h=>h⟩
theorem As(C:Cok T Δ X N.length N sc)(hp:Ys (Wp X.prog X.w) X.A X.env X.xe)(nx:∀ e s,¬ X.xe e s)(hk:sc.kind = .function):∀(s:List Stm) (r:List Stmt),Bw T N sc s r=true->GoodSs X r (wSs Δ s)
 | [],r,h=>by
   rw[Bw,U1]at h;subst h;exact Gn
 | s::ss,r,h=>by
   rw[Bw]at h;replace h:=c7 h;obtain⟨x,hx,h⟩:=h;rw[Sf]at h;rw[AX hx];have:=FM (LK C hp nx hk s x h.1) (As C hp nx hk ss _ h.2);rw[wSs];exact this
end
end
mutual
theorem c9{Δ:Nat->Sn}(hΔ:∀ f,MonoN (Δ f)):∀(e:Ex),Mono (wEx Δ e).1/\MonoT (wEx Δ e).2
 | .var i=>⟨.var,.tru .var⟩
 | .c x=>⟨.c,.tru .c⟩
 | .op o a b=>have m:Mono _ := .two (s:=sOp o) He (c9 hΔ a).1 (c9 hΔ b).1;⟨m,.tru m⟩
 | .neg a=>have m:Mono _ := .one Cv (c9 hΔ a).1;⟨m,.tru m⟩
 | .cmp o a b=>have m:Mono _ := .two (s:=B0 o) AD (c9 hΔ a).1 (c9 hΔ b).1;⟨m,.bl m⟩
 | .chn o p a b c=>have m:=Ey (o:=o) (p:=p) (c9 hΔ a).1 (c9 hΔ b).1 (c9 hΔ c).1;⟨m,.bl m⟩
 | .and a b=>⟨.and (c9 hΔ a).1 (c9 hΔ b).1,.and (c9 hΔ a).2 (c9 hΔ b).2⟩
 | .or a b=>⟨.or (c9 hΔ a).1 (c9 hΔ b).1,.or (c9 hΔ a).2 (c9 hΔ b).2⟩
 | .not a=>⟨.not (c9 hΔ a).1,.not (c9 hΔ a).2⟩
 | .ife t a b=>⟨.ifE (c9 hΔ t).2 (c9 hΔ a).1 (c9 hΔ b).1,λ_ _ _ _ _ h=>h⟩
 | .tup es=>have m:Mono _ := .n .tup (At hΔ es);⟨m,.tru m⟩
 | .lst es=>have m:Mono _ := .n .lst (At hΔ es);⟨m,.tru m⟩
 | .ix a b=>have m:Mono _ := .two .ix (c9 hΔ a).1 (c9 hΔ b).1;⟨m,.tru m⟩
 | .call f es=>have m:Mono _ := .n (hΔ f) (At hΔ es);⟨m,.tru m⟩
 | .bi b es=>have m:Mono _ := .n (s:=sBi b) .bi (At hΔ es);⟨m,.tru m⟩
 | .mt m' a es=>have m:Mono _:=Mono.mt (m:=m') (c9 hΔ a).1 (At hΔ es);⟨m,.tru m⟩
 | .comp own cn js g it t e=>have m:Mono _:=Mono.cG (k:=own.length) (js:=js) (g:=g) (FR hΔ it) (j5 hΔ t).2 (D0 (c9 hΔ e).1) (b0:=[]) (fin:=Pk SO.lst) (λ_ _ i _ _=>i _ _);⟨m,.tru m⟩
 | .tyc t=>⟨.c,.tru .c⟩
 | .lrng1 a=>have m:=Cw (c9 hΔ a).1;⟨m,.tru m⟩
 | .lrng2 a b=>have m:=Cy (c9 hΔ a).1 (c9 hΔ b).1;⟨m,.tru m⟩
 | .srtf a=>have m:=Dl (c9 hΔ a).1;⟨m,.tru m⟩
 | .ninl a b=>have m:Mono _ := .two BQ (c9 hΔ a).1 (c9 hΔ b).1;⟨m,.bl m⟩
 | .srtk x lp j y cn js a e=>have m:=Di (c9 hΔ a).1;⟨m,.tru m⟩
 | .srtset a=>have m:=CJ (c9 hΔ a).1;⟨m,.tru m⟩
 | .setl a=>have m:=Dh (c9 hΔ a).1;⟨m,.tru m⟩
 | .no=>⟨λ_ _ _ _ _ h=>h,λ_ _ _ _ _ h=>h⟩
theorem At{Δ:Nat->Sn}(hΔ:∀ f,MonoN (Δ f)):∀(es:Exs),MonoA (Et Δ es)
 | .nil => .nil
 | .cons e es => .cons (c9 hΔ e).1 (At hΔ es)
theorem j5{Δ:Nat->Sn}(hΔ:∀ f,MonoN (Δ f)):∀(o:Eo),MonoO (wEo Δ o).1/\MonoT (wEo Δ o).2
 | .no=>⟨.no,λ_ _ _ _ i q=>i _ _ q⟩
 | .yes e=>⟨.yes (c9 hΔ e).1,(c9 hΔ e).2⟩
theorem FR{Δ:Nat->Sn}(hΔ:∀ f,MonoN (Δ f)):∀(it:Itb),MonoI (Mw Δ it)
 | .seq e=>λρ S P P' i h=>(c9 hΔ e).1 _ _ _ _ (λx S1 ⟨xs,e,q⟩=>⟨xs,e,i _ _ _ q⟩) h
 | .rng1 a=>λρ S P P' i h=>(c9 hΔ a).1 _ _ _ _ (λx S1 ⟨j,e,z,q⟩=>⟨j,e,z,i _ _ _ q⟩) h
 | .rng2 a b=>λρ S P P' i h=>(c9 hΔ a).1 _ _ _ _ (λx S1 h=>(c9 hΔ b).1 _ _ _ _ (λy S2 ⟨l,j,e,e2,z,q⟩=>⟨l,j,e,e2,z,i _ _ _ q⟩) h) h
 | .enum e=>λρ S P P' i h=>(c9 hΔ e).1 _ _ _ _ (λx S1 ⟨xs,e,q⟩=>⟨xs,e,i _ _ _ q⟩) h
 | .zip i j=>λρ S P P' i h=>let ⟨x,y,xs,ys,a,b,c,d,e,f,q⟩:=h;⟨x,y,xs,ys,a,b,c,d,e,f,i _ _ _ q⟩
end
mutual
theorem NR{Δ:Nat->Sn}(hΔ:∀ f,MonoN (Δ f)):∀(s:Stm),MonoS (wSt Δ s)
 | .asg t e=>by exact FO (c9 hΔ e).1
 | .put o i e=>by exact λD D' ρ S l h=>(c9 hΔ e).1 _ _ _ _ (λv S1 q=>(c9 hΔ o).1 _ _ _ _ (λx S2 q=>(c9 hΔ i).1 _ _ _ _ (λy S3 q=>D3 (λS4 q=>l.nx _ _ q) q) q) q) h
 | .expr e=>by exact λD D' ρ S l h=>(c9 hΔ e).1 _ _ _ _ (λx S1 q=>l.nx _ _ q) h
 | .iff t a b=>by exact FQ (c9 hΔ t).2 (j6 hΔ a) (j6 hΔ b)
 | .loop g it b=>by exact λD D' ρ S l h=>FR hΔ it _ _ _ _ (λkeep xs S1 q=>BS (j6 hΔ b) xs l _ _ q) h
 | .whl t b=>by exact FP (c9 hΔ t).2 (j6 hΔ b)
 | .ret e=>by exact λD D' ρ S l h=>(c9 hΔ e).1 _ _ _ _ l.rt h
 | .no=>by exact λD D' ρ S l h=>h
theorem j6{Δ:Nat->Sn}(hΔ:∀ f,MonoN (Δ f)):∀(s:List Stm),MonoS (wSs Δ s)
 | []=>by exact λD D' ρ S l h=>l.nx _ _ h
 | s::ss=>by exact λD D' ρ S l h=>(NR hΔ s).go (D:={D with nx:=wSs Δ ss D}) h ⟨λρ' S' q=>(j6 hΔ ss) _ _ _ _ l q,l.rt,l.bk,l.ct⟩
end
theorem NS{P:List Wk->Prop}{n:Nat}(h:∀ a us,us.length=n->P (a::us)):∀ us:List Wk,us.length=n+1->P us
 | a::us,e=>h a us (Nat.succ.inj e)
theorem NT{P:List Wk->Prop}(h:∀ a,P [a]):∀ us:List Wk,us.length=1->P us:=NS λa us e=>VN.mp e▸h a
theorem B1{P:List Wk->Prop}(h:∀ a b,P [a,b]):∀ us:List Wk,us.length=2->P us:=NS λa=>NT (P:=λus=>P (a::us)) (h a)
theorem QK{P:List Wk->Prop}(h:∀ a b c,P [a,b,c]):∀ us:List Wk,us.length=3->P us:=NS λa=>B1 (P:=λus=>P (a::us)) (h a)
theorem Ru{P:List Wk->Prop}(h:∀ a b c d,P [a,b,c,d]):∀ us:List Wk,us.length=4->P us:=NS λa=>QK (P:=λus=>P (a::us)) (h a)
structure Df where
 name:Str
 st:Stmt
 ps:List Str
 N:List Str
 body:List Stm
def A0(Q:QE):EndsS:=⟨λ_ S'=>Q .non S',Q,λ_ _=>False,λ_ _=>False⟩
def LL(n:Nat)(xs:List SV):EnvS:=xs.map some++TM (n - xs.length) none
noncomputable def i9(Δ:Nat->Sn)(D:Df):Sn:=λxs S Q=>xs.length=D.ps.length/\wSs Δ D.body (A0 Q) (LL D.N.length xs) S
noncomputable def W(prog:List Df):Nat->Nat->Sn
 | 0,_=>λ_ _ _=>False
 | d+1,f=>match prog[f]? with
   | some D=>i9 (W prog d) D
   | none=>λ_ _ _=>False
theorem LM{Δ:Nat->Sn}(hΔ:∀ f,MonoN (Δ f))(D:Df):MonoN (i9 Δ D):=λxs S P P' i h=>⟨h.1,(j6 hΔ D.body).go h.2 ⟨λ_ _ q=>i _ _ q,i,λ_ _ q=>q,λ_ _ q=>q⟩⟩
theorem D4{prog:List Df}:∀(d f:Nat),MonoN (W prog d f)
 | 0,f=>λ_ _ _ _ _ h=>h
 | d+1,f=>by
   unfold W;split
   ·exact LM (D4 d) _
   ·exact λ_ _ _ _ _ h=>h
def fnB(N ps:List Str)(sc:Ww):Bool:=decide (sc.kind = .function)&&!sc.isCoroutine&&!sc.isGenerator&&decide N.Nodup&&decide (N.take ps.length=ps)&&ps.all (loc sc)&&sc.names.all (λy=>!decide (y.2 = .free))
theorem QL{N ps:List Str}{sc:Ww}(h:fnB N ps sc=true):FnScope N ps sc:=by
 unfold fnB at h;simp only[Sf,dQ,TQ,T9,decide_eq_false_iff_not]at h;obtain⟨⟨⟨⟨⟨⟨h1,h2⟩,h3⟩,h4⟩,h5⟩,h6⟩,h7⟩:=h;refine⟨h1,h2,h3,h4,h5,λx hx=>?_,h7⟩;have:=h6 x hx;unfold loc at this;simpa using this
noncomputable def NU(T:List Str)(D:Df):Bool:=fnB D.N D.ps (defScope D.st)&&Bw (T++[D.name]) D.N (defScope D.st) D.body (defBody D.st)
structure Bl(mg:Str->Option Wk):Prop where
 bl:∀ b:BI,mg b.name=none
 rng:mg "range"=none
 enm:mg "enumerate"=none
 rvs:mg "reversed"=none
 zip:mg "zip"=none
 sm0:mg "sum"=none
 st0:mg "set"=none
 dc0:mg "dict"=none
 ty:∀ t:TyN,t ≠ .none->mg (Str.ofString t.nm)=none
section
variable{P:Wr}{w:Wt}{K:Sd}{mg:Str->Option Wk}{base:Heap}
theorem JM{as:List Wm}{H:Hp}{N:List Str}{vs:List V}{xs:List SV}(r:RlAll K as H vs xs):EnvOk K as H (L2.start N vs) (LL N.length xs):=by
 unfold L2.start LL;rw[<-r.length];refine⟨by simp[r.length],λi x e=>?_⟩;by_cases hi:i<vs.length
 ·rw[TC (by rw[Se,<-r.length];exact hi),Sm]at e;rw[TC (by simpa using hi),Sm];cases hx:xs[i]? with
  | none=>rw[hx]at e;cases e
  | some y=>
    rw[hx]at e;have:y=x:=by simpa using e
    subst this;obtain⟨v,hv,rv⟩:=r.get hx;exact⟨v,by rw[hv];rfl,rv⟩
 ·rw[Td (by rw[Se,<-r.length];omega),Ua]at e;split at e<;>cases e
theorem LN{T:List Str}{Δ:Nat->Sn}{D:Df}{f:Wm}{fd:XY}{k:Nat}(F:Fun K D.name D.name D.st f fd)(hme:∀ c P,TabK K D.name c P->fd.code = .ref c)(hc:NU T D=true)(B:Bl mg)(hcall:∀ f x,T[f]?=some x->∃ ps,Cal P w K mg base k x ps (spS K (Δ f)))(hΔ:∀ f,MonoN (Δ f)):FnOk P w K mg base CX0 (k+1) f fd D.ps (spS K (i9 Δ D)):=by
 unfold NU at hc;rw[Sf]at hc;have S:=QL hc.1;obtain⟨oc,od,kV,doc,pm,an,cdv,ct,osl,rfl,lk,hcd⟩:=F.ex;refine Qz lk hcd S (λvs H Q E h=>?_) (λA outer s H vs Q E hr h=>?_)
 ·obtain⟨as,S,xs,ok,r,hl,_⟩:=h;rw[r.length];exact hl
 ·have C:Cok (T++[D.name]) Δ (IQ CX0 P w K mg base D.N D.name (defScope D.st) f cdv A outer s H E).nox D.N.length D.N (defScope D.st):={
   hN:=rfl,hs:=rfl,nd:=S.nd,calm:=rfl,fn:=λ_ _ _ _ _=>rfl
   un:=by have:=hr.un;show(A.deeper _).units+102<cLine;omega
   bl:=B.bl,rng:=B.rng,enm:=B.enm,rvs:=B.rvs,zip:=B.zip,sm0:=B.sm0,st0:=B.st0,dc0:=B.dc0,ty:=B.ty,gd:=hr.gd
   me:=λx hx=>by
    have e:D.name=x:=by simpa using hx
    subst e;exact⟨rfl,hme,by have:=hr.dp;show(A.deeper _).depth+2<XX;omega,by have:=hr.un;show(A.deeper _).units+110<cLine;omega⟩
   call:=λg x hl hx=>let ⟨ps,c⟩:=hcall g x (by rwa [TC (by rw[Sl]at hl;exact Nat.lt_of_succ_lt_succ hl)]at hx);⟨k,ps,c,hr⟩
   mono:=hΔ}
  refine⟨_,((As C PassesOwn.never (λ_ _ h=>h) S.kind D.body _ hc.2).ps).nox,?_⟩;obtain⟨as,S,xs,ok,r,hl,h⟩:=h;refine⟨as,_,S,ok,JM r,(j6 hΔ D.body).go h ⟨λρ' S' q as' H' σ' g ok' en'=>q as' H' _ g ok' (rl_non.mpr rfl),λx S' q=>q,λ_ _ q=>q.elim,λ_ _ q=>q.elim⟩⟩
theorem Hu{x:Str}{f:Wm}{od:Option Wm}{sl:Array (Option Wk)}{oc:Wk}{fd:XY}(a:PySem.W.nsIn K Wq x=some (some (.ref f)))(l:K.lookup f=some ⟨oc,od,.func fd,sl⟩):∀ c P,TabK K x c P->fd.code = .ref c:=by
 rintro c P ⟨h,_⟩;unfold PySem.W.tabIn at h;simp only[a,l]at h;split at h
 ·rename_i c2 e;split at h
  ·split at h
   ·cases h;exact e
   ·cases h
  ·cases h
 ·cases h
structure PIn(K:Sd)(mg:Str->Option Wk)(D:Df):Prop where
 ex:∃ f fd,Fun K D.name D.name D.st f fd/\(∀ c P,TabK K D.name c P->fd.code = .ref c)/\mg D.name=some (.ref f)/\PySem.W.keepIn K (.ref f)=true/\Binds K fd D.ps []
theorem Hv{prog:List Df}(hc:prog.all (NU (prog.map (·.name)))=true)(B:Bl mg)(hin:∀ D∈prog,PIn K mg D):∀(d f:Nat) (D:Df),prog[f]?=some D->Cal P w K mg base d D.name D.ps (spS K (W prog d f))
 | 0,f,D,hf=>by
   obtain⟨fa,fd,F,hme,hm,hk,hb⟩:=(hin D (Ss hf)).ex;refine⟨fa,fd,⟨λvs H Q E h=>?_,λA outer s H args us vs Q E hr he hbn hv h=>?_⟩,hm,hk,hb⟩
   ·obtain⟨_,_,_,_,_,z⟩:=h;exact z.elim
   ·obtain⟨_,_,_,_,_,z⟩:=h;exact z.elim
 | d+1,f,D,hf=>by
   obtain⟨fa,fd,F,hme,hm,hk,hb⟩:=(hin D (Ss hf)).ex;have h1:=T9.mp hc D (Ss hf)
   have:=LN (Δ:=W prog d) (P:=P) (w:=w) (base:=base) (k:=d) F hme h1 B (λg x hx=>by
    rw[Sm]at hx;cases hg:prog[g]? with
    | none=>rw[hg]at hx;cases hx
    | some D'=>
      rw[hg]at hx;have:D'.name=x:=by simpa using hx
      subst this;exact⟨D'.ps,Hv hc B hin d g D' hg⟩) (D4 d)
   have e:W prog (d+1) f=i9 (W prog d) D:=by rw[W,hf]
   rw[e];exact⟨fa,fd,this,hm,hk,hb⟩
theorem NV{prog:List Df}{d f:Nat}{H:Hp}{a:Wm}{ns:List Int}{ts:List Wm}{tl:List (Str×Pos)}(main:W prog d f [.ro (ns.map SV.int)] (tl.map λp => .tbl p.1 p.2) λx _=>x = .bl true)(nd:ts.Nodup)(hl:ts.length=tl.length)(hk:∀(i:Nat) P p,ts[i]?=some P->tl[i]?=some p->∃ c,TabK K p.1 c P)(hO:HU ts H)(hS:SqL K H a (ns.map V.int)):spS K (W prog d f) [.ref a] H (λv _=>v = .bl true) λ_ _ _=>False:=by
 have hz:FzL K H a (ns.map V.int):=by
  rcases hS with(h | ⟨o,h⟩) | h
  ·rcases hO.2 a with z | ⟨o,xs,z⟩ | z
   ·rw[h]at z;cases z
   ·rw[h]at z;cases z
   ·have z:=hO.1 a z;rw[h]at z;cases z
  ·exact .inl ⟨o,h⟩
  ·exact .inr h
 refine⟨ts,_,_,⟨by rw[Se,hl],nd,λi o P e eP=>?_⟩,.cons (rl_ro.mpr ⟨a,_,rfl,hz,RlAll.ints⟩) .nil,D4 d f _ _ _ _ (λx S' e as' H' v g ok r=>?_) main⟩
 ·rw[Sm]at e;obtain⟨p,e1,e2⟩:=TU.mp e;obtain⟨c,hc⟩:=hk i P p eP e1;rw[<-e2];exact⟨c,#[],hO.1 P (Ss eP),hc,trivial,.inl rfl⟩
 ·subst e;exact rl_bl.mp r
end
theorem c8{k:Nat}{S:Sto}{xs:List SV}(h:S[k]?=some (.lst xs)):w9 (.loc k) S=some xs:=by simp only[w9,h]
theorem FS{k:Nat}{S:Sto}{ms:List Int}(h:S[k]?=some (.iset ms)):BZ (.loc k) S=some ms:=by simp only[BZ,h]
theorem LO{k:Nat}{S:Sto}{xs:List SV}(h:S[k]?=some (.lst xs)):BZ (.loc k) S=none:=by simp only[BZ,h]
theorem EJ{k:Nat}{S:Sto}{xs:List SV}(h:S[k]?=some (.lst xs)):tyS (.loc k) S=some .list:=by simp only[tyS,h]
theorem ifT{b:Bool}{A B:Prop}(h:b=true)(a:A):if b=true then A else B:=by rw[iP h];exact a
theorem ifF{b:Bool}{A B:Prop}(h:b=false)(a:B):if b=true then A else B:=by rw[iG (by rw[h];decide)];exact a
theorem ifD{c A B:Prop}[Decidable c](h1:c->A)(h2:¬ c->B):if decide c=true then A else B:=by
 by_cases h:c
 ·rw[iP (decide_eq_true h)];exact h1 h
 ·rw[iG (by simpa using h)];exact h2 h
theorem ifB{b:Bool}{A B:Prop}(h1:b=true->A)(h2:b=false->B):if b=true then A else B:=by
 cases b with
 | true=>rw[iP rfl];exact h1 rfl
 | false=>rw[iG (by decide)];exact h2 rfl
theorem B2{S:Sto}{k:Nat}{o u:SO}(h:S[k]?=some o):(S.set k u)[k]?=some u:=UD ((gM h).1)
theorem BG{S:Sto}{k j:Nat}{u:SO}(h:k≠j):(S.set k u)[j]?=S[j]?:=UX h
theorem e8{S:Sto}{o:SO}:(S++[o])[S.length]?=some o:=Tb
theorem f8{S:Sto}{o u:SO}{k:Nat}(h:S[k]?=some u):(S++[o])[k]?=some u:=by
 rw[TC ((gM h).1)];exact h
theorem FT{S:Sto}{o:SO}{k:Nat}(h:S[k]?=some o):k<S.length:=(gM h).1
structure TapeS(S:Sto)(t:Nat):Prop where
 ex:∃ a b:Int,S[t]?=some (.lst [.int a,.int b])/\0<=a/\0<=b/\b<2147483647
structure On(t:Nat)(S S':Sto):Prop where
 len:S.length<=S'.length
 keep:∀ k o,k≠t->S[k]?=some o->S'[k]?=some o
theorem On.refl(t:Nat)(S:Sto):On t S S:=⟨Sw _,λ_ _ _ h=>h⟩
theorem On.trans{t:Nat}{S S' S'':Sto}(a:On t S S')(b:On t S' S''):On t S S'':=⟨Th a.len b.len,λk o n h=>b.keep k o n (a.keep k o n h)⟩
theorem On.push{t:Nat}{S S':Sto}{o:SO}(a:On t S S'):On t S (S'++[o]):=⟨by rw[Sl];have:=a.len;omega,λk u n h=>f8 (a.keep k u n h)⟩
theorem On.tape{t:Nat}{S S':Sto}{o:SO}(a:On t S S'):On t S (S'.set t o):=⟨by rw[UE];exact a.len,λk u n h=>by rw[BG (Ne.symm n)];exact a.keep k u n h⟩
theorem On.new{t k:Nat}{S S':Sto}{o:SO}(a:On t S S')(h:S.length<=k):On t S (S'.set k o):=⟨by rw[UE];exact a.len,λj u n hj=>by
 rw[BG (λz=>by have:=FT hj;omega)];exact a.keep j u n hj⟩
theorem TapeS.push{S:Sto}{t:Nat}{o:SO}(h:TapeS S t):TapeS (S++[o]) t:=let ⟨a,b,e,z⟩:=h.ex;⟨a,b,f8 e,z⟩
theorem TapeS.other{S:Sto}{t k:Nat}{o:SO}(h:TapeS S t)(n:k≠t):TapeS (S.set k o) t:=let ⟨a,b,e,z⟩:=h.ex;⟨a,b,by rw[BG n];exact e,z⟩
theorem TapeS.lt{S:Sto}{t:Nat}(h:TapeS S t):t<S.length:=let ⟨_,_,e,_⟩:=h.ex;FT e
theorem AE{keep:Sto->Prop}{g:Tg}{b:WS}{D:EndsS}(mb:MonoS b)(I:Nat->EnvS->Sto->Prop){xs:List SV}{ρ:EnvS}{S:Sto}(h0:I 0 ρ S)(hk:∀ i ρ S,I i ρ S->keep S)
 (hs:∀ i x ρ S,xs[i]?=some x->I i ρ S->wTg g x ρ λρ2=>b {D with nx:=I (i+1),ct:=I (i+1),bk:=D.nx} ρ2 S) (hd:∀ ρ S,I xs.length ρ S->D.nx ρ S):y7 keep g b D xs ρ S:=by
 have go:∀(ys:List SV) (i:Nat) (ρ:EnvS) (S:Sto),xs.drop i=ys->i<=xs.length->I i ρ S->y7 keep g b D ys ρ S:=by
  intro ys
  induction ys with
  | nil=>
    intro i ρ S e hi h
    have:i=xs.length:=by
     have:=congrArg Uu e;rw[VH,WJ]at this;omega
    subst this;unfold y7;exact⟨hk _ _ _ h,hd _ _ h⟩
  | cons y ys ih=>
    intro i ρ S e hi h
    have hy:xs[i]?=some y:=by
     rw[<-WK,e];rfl
    have hlt:=(gM hy).1;have e2:xs.drop (i+1)=ys:=by rw[<-WW,e];rfl
    unfold y7;refine⟨hk _ _ _ h,y9 g (λρ2 q=>?_) (hs i y ρ S hy h)⟩;exact mb.go (D:={D with nx:=I (i+1),ct:=I (i+1),bk:=D.nx}) q ⟨λρ' S' z=>ih (i+1) ρ' S' e2 hlt z,λ_ _ z=>z,λ_ _ z=>z,λρ' S' z=>ih (i+1) ρ' S' e2 hlt z⟩
 exact go xs 0 ρ S rfl (U4 _) h0
theorem AY{keep:Sto->Prop}{g:Tg}{b:WS}{D:EndsS}(mb:MonoS b)(I:Nat->EnvS->Sto->Prop){xs:List SV}{ρ:EnvS}{S:Sto}(h0:I 0 ρ S)(hk:∀ i ρ S,I i ρ S->keep S)
 (hs:∀ i x ρ S (E:EndsS),(∀ ρ S,I (i+1) ρ S->E.nx ρ S)->(∀ y S,D.rt y S->E.rt y S)->xs[i]?=some x->I i ρ S->wTg g x ρ λρ2=>b E ρ2 S) (hd:∀ ρ S,I xs.length ρ S->D.nx ρ S):y7 keep g b D xs ρ S:=
 AE mb I h0 hk (λi x ρ S hx hI=>hs i x ρ S {D with nx:=I (i+1),ct:=I (i+1),bk:=D.nx} (λ_ _ h=>h) (λ_ _ h=>h) hx hI) hd
theorem Gq{β:Type}{keep:Sto->Prop}{g:Tg}{t:WT}{em:WM β}{ρ:EnvS}{Q:β->Sto->Prop}(mt:MonoT t)(me:FI em)(I:Nat->β->Sto->Prop){xs:List SV}{a:β}{S:Sto}(h0:I 0 a S)(hk:∀ i ys S,I i ys S->keep S)
 (hs:∀ i x ys S,xs[i]?=some x->I i ys S->wTg g x ρ λρ2=>t ρ2 S λb S1=>if b=true then em ρ2 ys S1 (I (i+1)) else I (i+1) ys S1) (hd:∀ ys S,I xs.length ys S->Q ys S):wTG keep g t em ρ Q xs a S:=by
 have go:∀(zs:List SV) (i:Nat) (ys:β) (S:Sto),xs.drop i=zs->i<=xs.length->I i ys S->wTG keep g t em ρ Q zs ys S:=by
  intro zs
  induction zs with
  | nil=>
    intro i ys S e' hi h;obtain rfl:i=xs.length:=VX hi (List.drop_eq_nil_iff.mp e');exact⟨hk _ _ _ h,hd _ _ h⟩
  | cons y zs ih=>
    intro i ys S e' hi h;have hy:xs[i]?=some y:=by rw[<-WK,e'];rfl
    have hlt:=(gM hy).1;have e2:xs.drop (i+1)=zs:=by rw[<-WW,e'];rfl
    exact⟨hk _ _ _ h,y9 g (λρ2 q=>mt _ _ _ _ (λb S1 q=>l9 (λq=>me _ _ _ _ _ (λv S2 q=>ih (i+1) _ S2 e2 hlt q) q) (λq=>ih (i+1) _ S1 e2 hlt q) q) q) (hs i y ys S hy h)⟩
 exact go xs 0 a S rfl (U4 _) h0
theorem g8{keep:Sto->Prop}{g:Tg}{t:WT}{e:WE}{ρ:EnvS}{Q:List SV->Sto->Prop}(mt:MonoT t)(me:Mono e)(I:Nat->List SV->Sto->Prop){xs:List SV}{S:Sto}(h0:I 0 [] S)(hk:∀ i ys S,I i ys S->keep S)
 (hs:∀ i x ys S,xs[i]?=some x->I i ys S->wTg g x ρ λρ2=>t ρ2 S λb S1=>if b=true then e ρ2 S1 λy S2=>ys.length<big/\I (i+1) (ys++[y]) S2 else I (i+1) ys S1) (hd:∀ ys S,I xs.length ys S->Q ys S):Kk keep g t e ρ Q xs [] S:=Gq mt (D0 me) I h0 hk hs hd
theorem n8{lo hi:Int}{i:Nat}{x:SV}(h:(Ap lo hi)[i]?=some x):x = .int (lo+i)/\lo+i<hi:=by
 unfold Ap at h
 have hi':i<(hi - lo).toNat:=by
  have:=(gM h).1;simpa using this
 rw[Sm,UZ hi']at h;exact⟨(oj h).symm,by omega⟩
theorem m7{lo hi:Int}:(Ap lo hi).length=(hi - lo).toNat:=by unfold Ap;simp
def pairS(e:Nat×Nat):SV := .tup [.int e.1,.int e.2]
def OM:List Stm:=[(.asg (.nm 2) (.c (.int 0))),(.iff (.cmp .Lt (.var 1) (.bi .len (.cons (.var 0) .nil))) [(.asg (.nm 2) (.ix (.var 0) (.var 1)))] []),(.asg (.nm 3) (.op .Mult (.bi .abs (.cons (.var 2) .nil)) (.bi .int (.cons (.cmp .GtE (.bi .abs (.cons (.var 2) .nil)) (.op .Pow (.c (.int 10)) (.c (.int 18)))) .nil)))),(.ret (.lst (.cons (.var 3) (.cons (.op .Mod (.op .Mult (.op .Mod (.op .Add (.op .Add (.var 2) (.op .Mult (.c (.int 7919)) (.var 1))) (.c (.int 1))) (.c (.int 2147483647))) (.c (.int 48271))) (.c (.int 2147483647))) .nil))))]
noncomputable def ON:List Stm:=[(.iff (.cmp .Gt (.ix (.var 0) (.c (.int 0))) (.c (.int 0))) [(.asg (.nm 2) (.op .Mod (.ix (.var 0) (.c (.int 0))) (.var 1))),(.put (.var 0) (.c (.int 0)) (.op .FloorDiv (.ix (.var 0) (.c (.int 0))) (.var 1))),(.ret (.var 2))] []),(.put (.var 0) (.c (.int 1)) (.op .Mod (.op .Add (.op .Mult (.ix (.var 0) (.c (.int 1))) (.c (.int 48271))) (.c (.int 12345))) (.c (.int 2147483647)))),(.asg (.nm 3) (.op .Mod (.op .Mult (.ix (.var 0) (.c (.int 1))) (.op .Add (.op .Mod (.ix (.var 0) (.c (.int 1))) (.c (.int 1009))) (.c (.int 3)))) (.c (.int 2147483629)))),(.ret (.op .Mod (.op .Mod (.op .Mult (.var 3) (.op .Add (.op .Mod (.var 3) (.c (.int 997))) (.c (.int 5)))) (.c (.int 998244353))) (.var 1)))]
def w6(s:Sn):Prop:=∀{t:Nat} {m:Int} {S:Sto} {Q:QE},TapeS S t->0<m->m<1073741824->(∀(r:Int) (S':Sto),0<=r->r<m->TapeS S' t->On t S S'->S'.length=S.length->Q (.int r) S')->s [.loc t,.int m] S Q
def LP(s:Sn):Prop:=∀{ns:List Int} {k:Nat} {S:Sto} {Q:QE},ns.length<=63->k<=1000->(∀ a b:Int,0<=a->0<=b->b<2147483647->Q (.loc S.length) (S++[.lst [.int a,.int b]]))->s [.ro (ns.map SV.int),.int k] S Q
theorem b01(b:Bool):-(2 ^ 64)<(if b=true then (1:Int) else 0)/\(if b=true then (1:Int) else 0)<2 ^ 64:=by cases b<;>decide
theorem b00(b:Bool):0<=(if b=true then (1:Int) else 0):=by cases b<;>decide
theorem NW{Δ:Nat->Sn}{D:Df}(hb:D.body=ON)(hN:D.N.length=4)(hp:D.ps.length=2):w6 (i9 Δ D):=by
 intro t m S Q T h0 h1 q;obtain⟨a,b,hS,ha,hb0,hb1⟩:=T.ex;unfold i9;rw[hb,hN];refine⟨hp.symm,?_⟩;have go:∀ r a' b':Int,0<=r->r<m->0<=a'->0<=b'->b'<2147483647->Q (.int r) (S.set t (.lst [.int a',.int b'])):=λr a' b' r0 r1 a0 b0 b1=>q r _ r0 r1 ⟨a',b',B2 hS,a0,b0,b1⟩ (On.refl t S).tape (by rw[UE]);refine⟨_,rfl,_,_,c8 hS,rfl,_,rfl,ifD (λh=>?_) (λh=>?_)⟩
 ·refine⟨_,rfl,_,_,c8 hS,rfl,_,rfl,h0,?_⟩;refine⟨_,rfl,_,_,c8 hS,rfl,_,rfl,⟨h0,h1⟩,_,rfl,_,_,hS,rfl,_,rfl,?_⟩;exact go _ _ _ (UW _ (by omega)) (UI _ h0) (Int.ediv_nonneg ha (by omega)) hb0 hb1
 ·refine⟨_,rfl,_,_,c8 hS,rfl,.inr (by decide),show(0:Int)<2147483647 by decide,_,rfl,_,_,hS,rfl,?_⟩;have e0:0<=(b * 48271+12345) % 2147483647:=UW _ (by decide);have e1:(b * 48271+12345) % 2147483647<2147483647:=UI _ (by decide);have hS1:(S.set t (.lst [.int a,.int ((b * 48271+12345) % 2147483647)]))[t]?=some (.lst [.int a,.int ((b * 48271+12345) % 2147483647)]):=B2 hS;refine⟨_,rfl,_,_,c8 hS1,rfl,_,rfl,_,_,c8 hS1,rfl,show(0:Int)<1009 by decide,.inl ⟨by omega,by omega⟩,show(0:Int)<2147483629 by decide,?_⟩;have f0:0<=((b * 48271+12345) % 2147483647 * ((b * 48271+12345) % 2147483647 % 1009+3)) % 2147483629:=UW _ (by decide);have f1:((b * 48271+12345) % 2147483647 * ((b * 48271+12345) % 2147483647 % 1009+3)) % 2147483629<2147483629:=UI _ (by decide);refine⟨_,rfl,_,rfl,show(0:Int)<997 by decide,.inl ⟨by omega,by omega⟩,show(0:Int)<998244353 by decide,_,rfl,h0,?_⟩;exact go _ _ _ (UW _ (by omega)) (UI _ h0) ha e0 e1
theorem NX{Δ:Nat->Sn}{D:Df}(hb:D.body=OM)(hN:D.N.length=4)(hp:D.ps.length=2):LP (i9 Δ D):=by
 intro ns k S Q hl hk q;unfold i9;rw[hb,hN];refine⟨hp.symm,?_⟩
 have fin:∀ c:Int,wSs Δ [(.asg (.nm 3) (.op .Mult (.bi .abs (.cons (.var 2) .nil)) (.bi .int (.cons (.cmp .GtE (.bi .abs (.cons (.var 2) .nil)) (.op .Pow (.c (.int 10)) (.c (.int 18)))) .nil)))),(.ret (.lst (.cons (.var 3) (.cons (.op .Mod (.op .Mult (.op .Mod (.op .Add (.op .Add (.var 2) (.op .Mult (.c (.int 7919)) (.var 1))) (.c (.int 1))) (.c (.int 2147483647))) (.c (.int 48271))) (.c (.int 2147483647))) .nil))))] (A0 Q) [some (.ro (ns.map SV.int)),some (.int k),some (.int c),none] S:=λc=>by
  refine⟨_,rfl,_,rfl,⟨by decide,by decide,by decide⟩,.inr (b01 _),?_⟩;refine⟨_,rfl,_,rfl,_,rfl,.inl ⟨by decide,by decide⟩,show(0:Int)<2147483647 by decide,.inr ⟨by decide,by decide⟩,show(0:Int)<2147483647 by decide,by show 2<=big;decide,?_⟩;refine q _ _ (Int.mul_nonneg (by split<;>omega) (b00 _)) (UW _ (by decide)) (UI _ (by decide))
 refine⟨_,rfl,_,rfl,_,rfl,_,rfl,ifD (λh=>?_) (λh=>fin 0)⟩
 have hk':k<ns.length:=by
  have:((ns.map SV.int).length:Int)=ns.length:=by rw[Se]
  omega
 refine⟨_,rfl,_,rfl,_,_,rfl,j9 (v := .int ns[k]) (by rw[Sm,Si hk'];rfl),?_⟩;exact fin _
def q1(kd:Nat):Stm:=(.asg (.nm 2) (.call kd (.cons (.var 0) (.cons (.c (.int 8)) .nil))))
def q2(kd:Nat):Stm:=(.asg (.nm 3) (.ix (.lst (.cons (.call kd (.cons (.var 0) (.cons (.c (.int 7)) .nil))) (.cons (.op .Add (.c (.int 7)) (.call kd (.cons (.var 0) (.cons (.c (.int 6)) .nil)))) .nil))) (.bi .int (.cons (.var 1) .nil))))
def q3(kd:Nat):Stm:=(.asg (.nm 4) (.lst .nil))
def q4(kd:Nat):Stm:=(.iff (.and (.cmp .Lt (.var 2) (.c (.int 3))) (.cmp .Gt (.var 3) (.c (.int 1)))) [(.loop (.nm 5) (.rng1 (.call kd (.cons (.var 0) (.cons (.op .Add (.op .Mult (.c (.int 2)) (.var 3)) (.c (.int 1))) .nil)))) [(.asg (.nm 6) (.call kd (.cons (.var 0) (.cons (.var 3) .nil)))),(.expr (.mt .append (.var 4) (.cons (.tup (.cons (.var 6) (.cons (.op .Mod (.op .Add (.op .Add (.var 6) (.c (.int 1))) (.call kd (.cons (.var 0) (.cons (.op .Sub (.var 3) (.c (.int 1))) .nil)))) (.var 3)) .nil))) .nil)))])] [])
def q5(kd:Nat):Stm:=(.iff (.and (.cmp .Eq (.var 2) (.c (.int 3))) (.cmp .Gt (.var 3) (.c (.int 2)))) [(.asg (.nm 4) (.op .Add (.comp ["_law_k"] ["_law_many"] [3] (.nm 0) (.rng1 (.var 3)) .no (.tup (.cons (.var 0) (.cons (.op .Mod (.op .Add (.var 0) (.c (.int 1))) (.var 1)) .nil)))) (.lst (.cons (.tup (.cons (.c (.int 0)) (.cons (.op .Add (.call kd (.cons (.var 0) (.cons (.op .Sub (.var 3) (.c (.int 1))) .nil))) (.c (.int 1))) .nil))) .nil))))] [])
def q6(kd:Nat):Stm:=(.iff (.and (.cmp .Eq (.var 2) (.c (.int 4))) (.cmp .Gt (.var 3) (.c (.int 1)))) [(.asg (.nm 4) (.comp ["_law_k"] [] [] (.nm 0) (.rng2 (.c (.int 1)) (.var 3)) .no (.tup (.cons (.c (.int 0)) (.cons (.var 0) .nil)))))] [])
def q7(kd:Nat):Stm:=(.iff (.cmp .Eq (.var 2) (.c (.int 5))) [(.asg (.nm 3) (.bi .min (.cons (.var 3) (.cons (.op .Add (.c (.int 5)) (.bi .int (.cons (.var 1) .nil))) .nil)))),(.loop (.nm 7) (.rng1 (.var 3)) [(.expr (.mt .extend (.var 4) (.cons (.comp ["_law_j"] ["_law_k"] [7] (.nm 0) (.rng1 (.var 7)) .no (.tup (.cons (.var 0) (.cons (.var 1) .nil)))) .nil)))])] [])
def q8(kd:Nat):Stm:=(.iff (.cmp .Eq (.var 2) (.c (.int 6))) [(.asg (.nm 8) (.op .Add (.c (.int 1)) (.op .FloorDiv (.var 3) (.c (.int 2))))),(.loop (.nm 7) (.rng1 (.var 8)) [(.expr (.mt .extend (.var 4) (.cons (.comp ["_law_j"] ["_law_tape_here","_law_k"] [0,7] (.nm 0) (.rng2 (.var 8) (.var 3)) (.yes (.cmp .Gt (.call kd (.cons (.var 1) (.cons (.c (.int 3)) .nil))) (.c (.int 0)))) (.tup (.cons (.var 2) (.cons (.var 0) .nil)))) .nil)))])] [])
def q9(kd:Nat):Stm:=(.iff (.cmp .Eq (.var 2) (.c (.int 7))) [(.asg (.nm 3) (.op .Add (.c (.int 3)) (.op .FloorDiv (.var 3) (.c (.int 3))))),(.loop (.nm 7) (.rng1 (.c (.int 3))) [(.expr (.mt .extend (.var 4) (.cons (.op .Mult (.lst (.cons (.tup (.cons (.var 7) (.cons (.op .Mod (.op .Add (.var 7) (.c (.int 1))) (.c (.int 3))) .nil))) .nil)) (.op .Add (.c (.int 1)) (.call kd (.cons (.var 0) (.cons (.c (.int 3)) .nil))))) .nil)))])] [])
def q10(kd:Nat):Stm:=(.ret (.tup (.cons (.var 3) (.cons (.var 4) .nil))))
def q7l(kd:Nat):Stm:=(.loop (.nm 7) (.rng1 (.var 3)) [(.expr (.mt .extend (.var 4) (.cons (.comp ["_law_j"] ["_law_k"] [7] (.nm 0) (.rng1 (.var 7)) .no (.tup (.cons (.var 0) (.cons (.var 1) .nil)))) .nil)))])
def q8l(kd:Nat):Stm:=(.loop (.nm 7) (.rng1 (.var 8)) [(.expr (.mt .extend (.var 4) (.cons (.comp ["_law_j"] ["_law_tape_here","_law_k"] [0,7] (.nm 0) (.rng2 (.var 8) (.var 3)) (.yes (.cmp .Gt (.call kd (.cons (.var 1) (.cons (.c (.int 3)) .nil))) (.c (.int 0)))) (.tup (.cons (.var 2) (.cons (.var 0) .nil)))) .nil)))])
def q9l(kd:Nat):Stm:=(.loop (.nm 7) (.rng1 (.c (.int 3))) [(.expr (.mt .extend (.var 4) (.cons (.op .Mult (.lst (.cons (.tup (.cons (.var 7) (.cons (.op .Mod (.op .Add (.var 7) (.c (.int 1))) (.c (.int 3))) .nil))) .nil)) (.op .Add (.c (.int 1)) (.call kd (.cons (.var 0) (.cons (.c (.int 3)) .nil))))) .nil)))])
def LQ(kd:Nat):List Stm:=[q1 kd,q2 kd,q3 kd,q4 kd,q5 kd,q6 kd,q7 kd,q8 kd,q9 kd,q10 kd]
structure Prs(n:Nat)(es:EE):Prop where
 en:∀ e∈es,e.1<n/\e.2<n/\e.1≠e.2
 len:es.length<=36
 few:n<=12
def D5(c:Bool->Bool)(s:Sn):Prop:=∀{t:Nat} {g:Bool} {S:Sto} {Q:QE},TapeS S t->(∀(n:Nat) (es:EE) (l:Nat) (S':Sto),Prs n es->(c g=true->n<=6/\es.length<=12)->S'[l]?=some (.lst (es.map pairS))->S.length<=l->TapeS S' t->On t S S'->Q (.tup [.int n,.loc l]) S')->s [.loc t,.bl g] S Q
structure Ah(t:Nat)(S0 S:Sto)(l:Nat)(es:EE):Prop where
 tape:TapeS S t
 on:On t S0 S
 at':S[l]?=some (.lst (es.map pairS))
 new:S0.length<=l
 t0:t<S0.length
theorem Ah.ne{t l:Nat}{S0 S:Sto}{es:EE}(h:Ah t S0 S l es):l≠t:=by have:=h.new;have:=h.t0;omega
theorem Ah.draw{t l:Nat}{S0 S S':Sto}{es:EE}(h:Ah t S0 S l es)(T:TapeS S' t)(O:On t S S'):Ah t S0 S' l es:=⟨T,h.on.trans O,O.keep _ _ h.ne h.at',h.new,h.t0⟩
theorem Ah.push{t l:Nat}{S0 S:Sto}{es:EE}{o:SO}(h:Ah t S0 S l es):Ah t S0 (S++[o]) l es:=⟨h.tape.push,h.on.push,f8 h.at',h.new,h.t0⟩
theorem Ah.put{t l:Nat}{S0 S:Sto}{es fs:EE}(h:Ah t S0 S l es):Ah t S0 (S.set l (.lst (fs.map pairS))) l fs:=⟨h.tape.other h.ne,h.on.new h.new,B2 h.at',h.new,h.t0⟩
theorem FU(es:EE)(e:Nat×Nat):es.map pairS++[.tup [.int e.1,.int e.2]]=(es++[e]).map pairS:=by rw[Sz];rfl
section
variable{Δ:Nat->Sn}{kd:Nat}
theorem ST(hΔ:∀ f,MonoN (Δ f))(hd:w6 (Δ kd)){t l n:Nat}{way:Int}{S0 S:Sto}{D:EndsS}{g:SV}{o5 o6 o7 o8:Option SV}{c:Prop}(hc:c->n<=6)(A:Ah t S0 S l [])(hn:n<=12)
 (q:∀(es:EE) (S':Sto) (o5 o6:Option SV),Prs n es->(c->n<=6/\es.length<=12)->Ah t S0 S' l es->D.nx [some (.loc t),some g,some (.int way),some (.int n),some (.loc l),o5,o6,o7,o8] S'):
 wSt Δ (q4 kd) D [some (.loc t),some g,some (.int way),some (.int n),some (.loc l),o5,o6,o7,o8] S:=by
 have stay:=q [] S o5 o6 ⟨(λ_ h=>nomatch h),by simp,hn⟩ (λz=>⟨hc z,by simp⟩) A;refine⟨_,rfl,_,rfl,ifD (λh1=>?_) (λh1=>ifF rfl stay)⟩;refine⟨_,rfl,_,rfl,ifD (λh2=>?_) (λh2=>stay)⟩;have h2:1<n:=by omega
 refine⟨_,rfl,_,rfl,.inl ⟨by decide,by decide⟩,hd A.tape (by omega) (by omega) λr S1 r0 r1 T1 O1 _=>⟨r,rfl,⟨by omega,by omega⟩,?_⟩⟩;have A1:=A.draw T1 O1
 refine AE (j6 hΔ _) (λi ρ S2=>∃(es:EE) (o5 o6:Option SV),ρ=[some (.loc t),some g,some (.int way),some (.int n),some (.loc l),o5,o6,o7,o8]/\Ah t S0 S2 l es/\(∀ e∈es,e.1<n/\e.2<n/\e.1≠e.2)/\es.length=i)
  ⟨[],o5,o6,rfl,A1,(λ_ h=>nomatch h),rfl⟩ (λ_ _ _ _=>trivial) ?_ ?_
 ·rintro i x ρ S2 hx ⟨es,p5,p6,rfl,A2,he,hl⟩;obtain⟨rfl,hi⟩:=n8 hx;refine⟨_,rfl,_,rfl,hd A2.tape (by omega) (by omega) λa S3 a0 a1 T3 O3 _=>?_⟩;have A3:=A2.draw T3 O3;refine⟨_,rfl,⟨l,_,rfl,A3.at'⟩,?_⟩;refine⟨_,rfl,_,rfl,_,rfl,_,rfl,hd A3.tape (by omega) (by omega) λb S4 b0 b1 T4 O4 _=>?_⟩;have A4:=A3.draw T4 O4;refine⟨_,rfl,show(0:Int)<n by omega,by show 2<=big;decide,⟨_,A4.at',by rw[Se];show es.length<100000;omega,?_⟩⟩;have e1:((a.toNat:Nat):Int)=a:=Uk a0;have m0:0<=(a+1+b) % n:=UW _ (by omega);have m1:(a+1+b) % n<n:=UI _ (by omega);have e2:(((a+1+b) % n).toNat:Int)=(a+1+b) % n:=Uk m0
  have hne:a≠(a+1+b) % n:=by
   by_cases hb:a+1+b<n
   ·rw[W0 (by omega) hb];omega
   ·rw[<-Int.sub_emod_right,W0 (by omega) (by omega)];omega
  have ea:=FU es (a.toNat,((a+1+b) % n).toNat);simp only[e1,e2]at ea;refine⟨es++[(a.toNat,((a+1+b) % n).toNat)],_,_,rfl,?_,λe h=>?_,by rw[Sl,hl];rfl⟩
  ·have:=A4.put (fs:=es++[(a.toNat,((a+1+b) % n).toNat)]);rw[<-ea]at this;exact this
  ·rcases TK.mp h with h | h
   ·exact he e h
   ·rw[Sv.mp h];exact⟨by show a.toNat<n;omega,by show((a+1+b) % n).toNat<n;omega,by show a.toNat≠((a+1+b) % n).toNat;omega⟩
 ·rintro ρ S2 ⟨es,p5,p6,rfl,A2,he,hl⟩;rw[m7]at hl;exact q es S2 p5 p6 ⟨he,by omega,hn⟩ (λz=>by have:=hc z;omega) A2
abbrev PQ(c:Prop)(t:Nat)(g:SV)(way:Int)(S0:Sto)(D:EndsS):Prop:=∀(n:Nat) (es:EE) (l:Nat) (S':Sto) (o5 o6 o7 o8:Option SV),Prs n es->(c->n<=6/\es.length<=12)->Ah t S0 S' l es->D.nx [some (.loc t),some g,some (.int way),some (.int n),some (.loc l),o5,o6,o7,o8] S'
theorem EK{n:Nat}(h:n<=12):Prs n []:=⟨(λ_ h=>nomatch h),by simp,h⟩
theorem SU(hΔ:∀ f,MonoN (Δ f))(hd:w6 (Δ kd)){t l n:Nat}{S0 S:Sto}{D:EndsS}{g:SV}{o5 o6 o7 o8:Option SV}{c:Prop}(hc:c->n<=6)(A:Ah t S0 S l [])(hn:n<=12)(q:PQ c t g 3 S0 D):
 wSt Δ (q5 kd) D [some (.loc t),some g,some (.int 3),some (.int n),some (.loc l),o5,o6,o7,o8] S:=by
 have stay:=q n [] l S o5 o6 o7 o8 (EK hn) (λz=>⟨hc z,by simp⟩) A;refine⟨_,rfl,_,rfl,ifT rfl ?_⟩;refine⟨_,rfl,_,rfl,ifD (λh2=>?_) (λh2=>stay)⟩;have h2:2<n:=by omega
 refine⟨_,rfl,n,rfl,⟨by omega,by omega⟩,?_⟩;refine g8 (j5 hΔ _).2 (c9 hΔ _).1 (λi ys S2=>S2=S/\ys=((So i).map λj=>(j,(j+1) % n)).map pairS) ⟨rfl,rfl⟩ (λ_ _ _ _=>trivial) ?_ ?_
 ·rintro i x ys S2 hx ⟨rfl,rfl⟩;obtain⟨rfl,hi⟩:=n8 hx;refine⟨_,rfl,_,rfl,_,rfl,show(0:Int)<n by omega,by show 2<=big;decide,by simp;show i<100000;omega,rfl,?_⟩;rw[Ud,Sz,Sz];simp[pairS]
 ·rintro ys S2 ⟨rfl,rfl⟩;rw[m7];refine⟨_,rfl,_,rfl,hd (A.push (o := .lst (((So ((n:Int) - 0).toNat).map λj=>(j,(j+1) % n)).map pairS))).tape (by omega) (by omega) λr S3 r0 r1 T3 O3 L3=>?_⟩;have A3:=(A.push (o := .lst (((So ((n:Int) - 0).toNat).map λj=>(j,(j+1) % n)).map pairS))).draw T3 O3;refine⟨by show 2<=big;decide,by show 1<=big;decide,?_⟩;have hS:=A.t0;have hon:=A.on.len;have at1:S3[S2.length]?=some (.lst (((So ((n:Int) - 0).toNat).map λj=>(j,(j+1) % n)).map pairS)):=O3.keep _ _ (by omega) e8;refine⟨_,_,f8 at1,e8,by simp;show _<=100000;omega,?_⟩;have en:((n:Int) - 0).toNat=n:=by omega
  rw[en];have e1:((r.toNat:Nat):Int)=r:=Uk r0;have ea:=FU ((So n).map λj=>(j,(j+1) % n)) (0,r.toNat+1);have e2:((r.toNat+1:Nat):Int)=r+1:=by omega
  simp only[e2]at ea;refine q n ((So n).map (λj=>(j,(j+1) % n))++[(0,r.toNat+1)]) _ _ _ _ _ _ ⟨λe h=>?_,by simp;omega,hn⟩ (λz=>⟨hc z,by have:=hc z;simp;omega⟩) ⟨A3.tape.push.push,A3.on.push.push,?_,?_,A.t0⟩
  ·rcases TK.mp h with h | h
   ·obtain⟨j,hj,rfl⟩:=TR.mp h;have hj:=TH.mp hj;refine⟨hj,WU _ (by omega),?_⟩;by_cases hz:j+1<n
    ·show j≠(j+1) % n;rw[Nat.mod_eq_of_lt hz];omega
    ·have:j+1=n:=by omega
     show j≠(j+1) % n;rw[this,Nat.mod_self];omega
   ·rw[Sv.mp h];exact⟨by show 0<n;omega,by show r.toNat+1<n;omega,by show 0≠r.toNat+1;omega⟩
  ·rw[<-ea];exact e8
  ·rw[Sl];have:=A3.on.len;omega
theorem SW(hΔ:∀ f,MonoN (Δ f)){t l n:Nat}{S0 S:Sto}{D:EndsS}{g:SV}{o5 o6 o7 o8:Option SV}{c:Prop}(hc:c->n<=6)(A:Ah t S0 S l [])(hn:n<=12)(q:PQ c t g 4 S0 D):
 wSt Δ (q6 kd) D [some (.loc t),some g,some (.int 4),some (.int n),some (.loc l),o5,o6,o7,o8] S:=by
 have stay:=q n [] l S o5 o6 o7 o8 (EK hn) (λz=>⟨hc z,by simp⟩) A;refine⟨_,rfl,_,rfl,ifT rfl ?_⟩;refine⟨_,rfl,_,rfl,ifD (λh2=>?_) (λh2=>stay)⟩;have h2:1<n:=by omega
 refine⟨_,rfl,1,n,rfl,rfl,⟨by decide,by decide,by omega,by omega⟩,?_⟩;refine g8 (j5 hΔ _).2 (c9 hΔ _).1 (λi ys S2=>S2=S/\ys=((So i).map λj=>(0,j+1)).map pairS) ⟨rfl,rfl⟩ (λ_ _ _ _=>trivial) ?_ ?_
 ·rintro i x ys S2 hx ⟨rfl,rfl⟩;obtain⟨rfl,hi⟩:=n8 hx;refine⟨_,rfl,by show 2<=big;decide,by simp;show i<100000;omega,rfl,?_⟩;rw[Ud,Sz,Sz];simp[pairS,Int.add_comm]
 ·rintro ys S2 ⟨rfl,rfl⟩;rw[m7];refine q n _ _ _ _ _ _ _ ⟨λe h=>?_,by simp;omega,hn⟩ (λz=>⟨hc z,by have:=hc z;simp;omega⟩) ⟨A.tape.push,A.on.push,e8,A.on.len,A.t0⟩;obtain⟨j,hj,rfl⟩:=TR.mp h;have hj:=TH.mp hj;exact⟨by show 0<n;omega,by show j+1<n;omega,by show 0≠j+1;omega⟩
theorem Ah.ext{t l j:Nat}{S0 S:Sto}{es fs:EE}(h:Ah t S0 S l es)(hj:S[j]?=some (.lst (fs.map pairS))):Ah t S0 (S.set l (.lst (es.map pairS++fs.map pairS))) l (es++fs):=by
 rw[<-Sz];exact h.put
theorem SX(hΔ:∀ f,MonoN (Δ f)){t l n:Nat}{b:Bool}{S0 S:Sto}{D:EndsS}{o5 o6 o7 o8:Option SV}{c:Prop}(hc:c->n<=6/\b=false)(A:Ah t S0 S l [])(hn:n<=12)(q:PQ c t (.bl b) 5 S0 D):
 wSt Δ (q7 kd) D [some (.loc t),some (.bl b),some (.int 5),some (.int n),some (.loc l),o5,o6,o7,o8] S:=by
 refine⟨_,rfl,_,rfl,ifT rfl ?_⟩
 obtain⟨m,em,hm,hm5⟩:∃ m:Nat,(if (5+(if b=true then (1:Int) else 0))<n then (5+(if b=true then (1:Int) else 0)) else (n:Int))=m/\m<=6/\(b=false->m<=5):=by
  cases b
  ·by_cases h:(5:Int)<n
   ·exact⟨5,by simp[h],by omega,by omega⟩
   ·exact⟨n,by simp[h],by omega,by omega⟩
  ·by_cases h:(6:Int)<n
   ·exact⟨6,by simp[h],by omega,nofun⟩
   ·exact⟨n,by simp[h],by omega,nofun⟩
 suffices key:∀ z:Int,z=m->wSs Δ [q7l kd] D [some (.loc t),some (.bl b),some (.int 5),some (.int z),some (.loc l),o5,o6,o7,o8] S from ⟨_,rfl,_,rfl,key _ em⟩
 rintro _ rfl;refine⟨_,rfl,m,rfl,⟨by omega,by omega⟩,?_⟩
 refine AE (j6 hΔ _) (λi ρ S2=>∃(es:EE) (o7:Option SV),ρ=[some (.loc t),some (.bl b),some (.int 5),some (.int m),some (.loc l),o5,o6,o7,o8]/\Ah t S0 S2 l es/\(∀ e∈es,e.1<e.2/\e.2<i)/\es.length * 2<=i * i)
  ⟨[],o7,rfl,A,(λ_ h=>nomatch h),by simp⟩ (λ_ _ _ _=>trivial) ?_ ?_
 ·rintro i x ρ S2 hx ⟨es,p7,rfl,A2,he,hl⟩;obtain⟨rfl,hi⟩:=n8 hx;refine⟨_,rfl,⟨l,_,rfl,A2.at'⟩,_,rfl,0+(i:Int),rfl,⟨by omega,by omega⟩,?_⟩;refine g8 (j5 hΔ _).2 (c9 hΔ _).1 (λj ys S3=>S3=S2/\ys=((So j).map λj=>(j,i)).map pairS) ⟨rfl,rfl⟩ (λ_ _ _ _=>trivial) ?_ ?_
  ·rintro j x ys S3 hx ⟨rfl,rfl⟩;obtain⟨rfl,hj⟩:=n8 hx;refine⟨_,rfl,_,rfl,by show 2<=big;decide,by simp;show j<100000;omega,rfl,?_⟩;rw[Ud,Sz,Sz];simp[pairS]
  ·rintro ys S3 ⟨rfl,rfl⟩;rw[m7];have en:(0+(i:Int) - 0).toNat=i:=by omega
   rw[en];have A3:=A2.push (o := .lst (((So i).map λj=>(j,i)).map pairS));have i6:i * i<=6 * 6:=Uh (by omega) (by omega);have i7:(i+1) * (i+1)=i * i+i+(i+1):=by rw[Vn,Nat.mul_succ]
   refine⟨_,_,A3.at',e8,by simp;show _<=100000;omega,?_⟩;refine⟨es++(So i).map (λj=>(j,i)),_,rfl,A3.ext (j:=S3.length) e8,λe h=>?_,by simp;omega⟩;rcases TK.mp h with h | h
   ·have:=he e h;omega
   ·obtain⟨j,hj,rfl⟩:=TR.mp h;have hj:=TH.mp hj;exact⟨hj,by show i<i+1;omega⟩
 ·rintro ρ S2 ⟨es,p7,rfl,A2,he,hl⟩;rw[m7,show((m:Int) - 0).toNat=m by omega]at he hl;have i6:m * m<=6 * 6:=Uh (by omega) (by omega);refine q m es l S2 _ _ _ _ ⟨λe h=>?_,by omega,by omega⟩ (λz=>?_) A2
  rotate_left
  ·have m5:=hm5 (hc z).2;have:m * m<=5 * 5:=Uh m5 m5;omega
  have:=he e h;omega
theorem SY(hΔ:∀ f,MonoN (Δ f))(hd:w6 (Δ kd)){t l n:Nat}{S0 S:Sto}{D:EndsS}{g:SV}{o5 o6 o7 o8:Option SV}{c:Prop}(hc:c->n<=6)(A:Ah t S0 S l [])(hn:n<=12)(q:PQ c t g 6 S0 D):
 wSt Δ (q8 kd) D [some (.loc t),some g,some (.int 6),some (.int n),some (.loc l),o5,o6,o7,o8] S:=by
 refine⟨_,rfl,_,rfl,ifT rfl ?_⟩;obtain⟨s,es',hs⟩:∃ s:Nat,1+(n:Int) / 2=s/\s=1+n / 2:=⟨1+n / 2,by omega,rfl⟩
 suffices key:∀ z:Int,z=s->wSs Δ [q8l kd] D [some (.loc t),some g,some (.int 6),some (.int n),some (.loc l),o5,o6,o7,some (.int z)] S from ⟨_,rfl,⟨by decide,by decide⟩,key _ es'⟩
 rintro _ rfl;refine⟨_,rfl,s,rfl,⟨by omega,by omega⟩,?_⟩
 refine AE (j6 hΔ _) (λi ρ S2=>∃(es:EE) (o7:Option SV),ρ=[some (.loc t),some g,some (.int 6),some (.int n),some (.loc l),o5,o6,o7,some (.int s)]/\Ah t S0 S2 l es/\(∀ e∈es,e.1<i/\s<=e.2/\e.2<n)/\es.length<=i * (n - s))
  ⟨[],o7,rfl,A,(λ_ h=>nomatch h),by simp⟩ (λ_ _ _ _=>trivial) ?_ ?_
 ·rintro i x ρ S2 hx ⟨es,p7,rfl,A2,he,hl⟩;obtain⟨rfl,hi⟩:=n8 hx;refine⟨_,rfl,⟨l,_,rfl,A2.at'⟩,_,rfl,_,rfl,s,n,rfl,rfl,⟨by omega,by omega,by omega,by omega⟩,?_⟩;refine g8 (j5 hΔ _).2 (c9 hΔ _).1 (λj ys S3=>Ah t S0 S3 l es/\∃ fs:EE,ys=fs.map pairS/\(∀ e∈fs,e.1=i/\s<=e.2/\e.2<n)/\fs.length<=j) ⟨A2,[],rfl,(λ_ h=>nomatch h),Sw _⟩ (λ_ _ _ _=>trivial) ?_ ?_
  ·rintro j x ys S3 hx ⟨A3,fs,rfl,hf,fl⟩;obtain⟨rfl,hj⟩:=n8 hx;refine⟨_,rfl,hd A3.tape (by decide) (by decide) λr S4 r0 r1 T4 O4 _=>⟨_,rfl,?_⟩⟩;have A4:=A3.draw T4 O4;refine ifD (λ_=>?_) (λ_=>⟨A4,fs,rfl,hf,by omega⟩);refine⟨_,rfl,_,rfl,by show 2<=big;decide,by rw[Se];show _<100000;omega,A4,fs++[(i,s+j)],?_,λe h=>?_,by simp;omega⟩
   ·rw[Sz];simp[pairS]
   ·rcases TK.mp h with h | h
    ·exact hf e h
    ·rw[Sv.mp h];exact⟨rfl,by show s<=s+j;omega,by show s+j<n;omega⟩
  ·rintro ys S3 ⟨A3,fs,rfl,hf,fl⟩;rw[m7]at fl;have A4:=A3.push (o := .lst (fs.map pairS));have hx6:i * (n - s)<=6 * 12:=Uh (by omega) (by omega);refine⟨_,_,A4.at',e8,by simp;show _<=100000;omega,?_⟩;refine⟨es++fs,_,rfl,A4.ext (j:=S3.length) e8,λe h=>?_,?_⟩
   ·rcases TK.mp h with h | h
    ·have:=he e h;exact⟨by omega,this.2⟩
    ·have:=hf e h;exact⟨by omega,this.2⟩
   ·rw[Sl,Vn];omega
 ·rintro ρ S2 ⟨es,p7,rfl,A2,he,hl⟩;rw[m7]at he hl;have e0:((s:Int) - 0).toNat=s:=by omega
  rw[e0]at he hl;have h35:s * (n - s)<=7 * 5:=Uh (by omega) (by omega);refine q n es l S2 _ _ _ _ ⟨λe h=>?_,by omega,hn⟩ (λz=>⟨hc z,?_⟩) A2
  rotate_left
  ·have:=hc z;have:s * (n - s)<=4 * 2:=Uh (by omega) (by omega);omega
  have:=he e h;omega
theorem SZ(hΔ:∀ f,MonoN (Δ f))(hd:w6 (Δ kd)){t l n:Nat}{S0 S:Sto}{D:EndsS}{g:SV}{o5 o6 o7 o8:Option SV}{c:Prop}(hc:c->n<=6)(A:Ah t S0 S l [])(hn:n<=12)(q:PQ c t g 7 S0 D):
 wSt Δ (q9 kd) D [some (.loc t),some g,some (.int 7),some (.int n),some (.loc l),o5,o6,o7,o8] S:=by
 refine⟨_,rfl,_,rfl,ifT rfl ?_⟩;obtain⟨m,em,hm⟩:∃ m:Nat,3+(n:Int) / 3=m/\m=3+n / 3:=⟨3+n / 3,by omega,rfl⟩
 suffices key:∀ z:Int,z=m->wSs Δ [q9l kd] D [some (.loc t),some g,some (.int 7),some (.int z),some (.loc l),o5,o6,o7,o8] S from ⟨_,rfl,⟨by decide,by decide⟩,key _ em⟩
 rintro _ rfl;refine⟨3,rfl,⟨by decide,by decide⟩,?_⟩
 refine AE (j6 hΔ _) (λi ρ S2=>∃(es:EE) (o7:Option SV),ρ=[some (.loc t),some g,some (.int 7),some (.int m),some (.loc l),o5,o6,o7,o8]/\Ah t S0 S2 l es/\(∀ e∈es,e.1<3/\e.2<3/\e.1≠e.2)/\es.length<=i * 3)
  ⟨[],o7,rfl,A,(λ_ h=>nomatch h),by simp⟩ (λ_ _ _ _=>trivial) ?_ ?_
 ·rintro i x ρ S2 hx ⟨es,p7,rfl,A2,he,hl⟩;obtain⟨rfl,hi⟩:=n8 hx;refine⟨_,rfl,⟨l,_,rfl,A2.at'⟩,_,rfl,_,rfl,show(0:Int)<3 by decide,by show 2<=big;decide,by show 1<=big;decide,?_⟩;have A3:=A2.push (o := .lst [.tup [.int (0+(i:Int)),.int ((0+(i:Int)+1) % 3)]]);refine⟨_,rfl,hd A3.tape (by decide) (by decide) λr S4 r0 r1 T4 O4 L4=>?_⟩;have A4:=A3.draw T4 O4;have ht:=A2.t0;have hlen:=A2.on.len;have at1:S4[S2.length]?=some (.lst [.tup [.int (0+(i:Int)),.int ((0+(i:Int)+1) % 3)]]):=O4.keep _ _ (by omega) e8;refine⟨_,at1,⟨by omega,by omega⟩,by simp;show _<=100000;omega,?_⟩
  have e1:(TM (1+r).toNat [SV.tup [.int (0+(i:Int)),.int ((0+(i:Int)+1) % 3)]]).flatten=(TM (1+r).toNat (i,(i+1) % 3)).map pairS:=by
   induction (1+r).toNat with
   | zero=>rfl
   | succ k ih=>rw[Tj,UL,ih,Tj];simp[pairS]
  rw[e1];have A5:=A4.push (o := .lst ((TM (1+r).toNat (i,(i+1) % 3)).map pairS));refine⟨_,_,A5.at',e8,by simp;show _<=100000;omega,?_⟩;refine⟨es++TM (1+r).toNat (i,(i+1) % 3),_,rfl,A5.ext (j:=S4.length) e8,λe h=>?_,by simp;omega⟩;rcases TK.mp h with h | h
  ·exact he e h
  ·rw[List.eq_of_mem_replicate h];exact⟨by show i<3;omega,by show(i+1) % 3<3;omega,by show i≠(i+1) % 3;omega⟩
 ·rintro ρ S2 ⟨es,p7,rfl,A2,he,hl⟩;rw[m7]at hl;refine q m es l S2 _ _ _ _ ⟨λe h=>?_,by omega,by omega⟩ (λz=>by have:=hc z;omega) A2;have:=he e h;omega
theorem Rv{t l:Nat}{way n:Int}{S:Sto}{D:EndsS}{g:SV}{o5 o6 o7 o8:Option SV}(h:¬ way<3)(q:D.nx [some (.loc t),some g,some (.int way),some (.int n),some (.loc l),o5,o6,o7,o8] S):wSt Δ (q4 kd) D [some (.loc t),some g,some (.int way),some (.int n),some (.loc l),o5,o6,o7,o8] S:=⟨_,rfl,_,rfl,ifD (λz=>absurd z h) (λ_=>ifF rfl q)⟩
theorem FV{t l:Nat}{way n:Int}{S:Sto}{D:EndsS}{g:SV}{o5 o6 o7 o8:Option SV}(h:¬ way=3)(q:D.nx [some (.loc t),some g,some (.int way),some (.int n),some (.loc l),o5,o6,o7,o8] S):wSt Δ (q5 kd) D [some (.loc t),some g,some (.int way),some (.int n),some (.loc l),o5,o6,o7,o8] S:=⟨_,rfl,_,rfl,ifD (λz=>absurd z h) (λ_=>ifF rfl q)⟩
theorem FW{t l:Nat}{way n:Int}{S:Sto}{D:EndsS}{g:SV}{o5 o6 o7 o8:Option SV}(h:¬ way=4)(q:D.nx [some (.loc t),some g,some (.int way),some (.int n),some (.loc l),o5,o6,o7,o8] S):wSt Δ (q6 kd) D [some (.loc t),some g,some (.int way),some (.int n),some (.loc l),o5,o6,o7,o8] S:=⟨_,rfl,_,rfl,ifD (λz=>absurd z h) (λ_=>ifF rfl q)⟩
theorem FX{t l:Nat}{way n:Int}{S:Sto}{D:EndsS}{g:SV}{o5 o6 o7 o8:Option SV}(h:¬ way=5)(q:D.nx [some (.loc t),some g,some (.int way),some (.int n),some (.loc l),o5,o6,o7,o8] S):wSt Δ (q7 kd) D [some (.loc t),some g,some (.int way),some (.int n),some (.loc l),o5,o6,o7,o8] S:=⟨_,rfl,_,rfl,ifD (λz=>absurd z h) (λ_=>q)⟩
theorem FY{t l:Nat}{way n:Int}{S:Sto}{D:EndsS}{g:SV}{o5 o6 o7 o8:Option SV}(h:¬ way=6)(q:D.nx [some (.loc t),some g,some (.int way),some (.int n),some (.loc l),o5,o6,o7,o8] S):wSt Δ (q8 kd) D [some (.loc t),some g,some (.int way),some (.int n),some (.loc l),o5,o6,o7,o8] S:=⟨_,rfl,_,rfl,ifD (λz=>absurd z h) (λ_=>q)⟩
theorem FZ{t l:Nat}{way n:Int}{S:Sto}{D:EndsS}{g:SV}{o5 o6 o7 o8:Option SV}(h:¬ way=7)(q:D.nx [some (.loc t),some g,some (.int way),some (.int n),some (.loc l),o5,o6,o7,o8] S):wSt Δ (q9 kd) D [some (.loc t),some g,some (.int way),some (.int n),some (.loc l),o5,o6,o7,o8] S:=⟨_,rfl,_,rfl,ifD (λz=>absurd z h) (λ_=>q)⟩
theorem NY(hΔ:∀ f,MonoN (Δ f))(hd:w6 (Δ kd)){t l n:Nat}{b:Bool}{w:Int}{S0 S:Sto}{Q:QE}(w0:0<=w)(w1:w<8)(hc:b=false->n<=6)(A:Ah t S0 S l [])(hn:n<=12)
 (q:∀(n:Nat) (es:EE) (l:Nat) (S':Sto),Prs n es->(b=false->n<=6/\es.length<=12)->Ah t S0 S' l es->Q (.tup [.int n,.loc l]) S'):
 wSs Δ [q4 kd,q5 kd,q6 kd,q7 kd,q8 kd,q9 kd,q10 kd] (A0 Q) [some (.loc t),some (.bl b),some (.int w),some (.int n),some (.loc l),none,none,none,none] S:=by
 have fin:∀(n:Nat) (es:EE) (l:Nat) (S':Sto) (o5 o6 o7 o8:Option SV),Prs n es->(b=false->n<=6/\es.length<=12)->Ah t S0 S' l es->wSs Δ [q10 kd] (A0 Q) [some (.loc t),some (.bl b),some (.int w),some (.int n),some (.loc l),o5,o6,o7,o8] S':=λn es l S' o5 o6 o7 o8 P C A'=>⟨_,rfl,_,rfl,by show 2<=big;decide,q n es l S' P C A'⟩
 have nil:=EK hn;by_cases h:w<3
 ·exact ST hΔ hd hc A hn λes S' o5 o6 P C A'=>FV (by omega) (FW (kd:=kd) (by omega) (FX (kd:=kd) (by omega) (FY (by omega) (FZ (by omega) (fin n es l S' _ _ _ _ P C A')))))
 refine Rv h ?_;have:w=3\/w=4\/w=5\/w=6\/w=7:=by omega
 rcases this with rfl | rfl | rfl | rfl | rfl
 ·exact SU hΔ hd hc A hn λn es l S' o5 o6 o7 o8 P C A'=>FW (kd:=kd) (by omega) (FX (kd:=kd) (by omega) (FY (by omega) (FZ (by omega) (fin n es l S' _ _ _ _ P C A'))))
 ·exact FV (by omega) (SW (kd:=kd) hΔ hc A hn λn es l S' o5 o6 o7 o8 P C A'=>FX (kd:=kd) (by omega) (FY (by omega) (FZ (by omega) (fin n es l S' _ _ _ _ P C A'))))
 ·exact FV (by omega) (FW (kd:=kd) (by omega) (SX (kd:=kd) hΔ (λz=>⟨hc z,z⟩) A hn λn es l S' o5 o6 o7 o8 P C A'=>FY (by omega) (FZ (by omega) (fin n es l S' _ _ _ _ P C A'))))
 ·exact FV (by omega) (FW (kd:=kd) (by omega) (FX (kd:=kd) (by omega) (SY hΔ hd hc A hn λn es l S' o5 o6 o7 o8 P C A'=>FZ (by omega) (fin n es l S' _ _ _ _ P C A'))))
 ·exact FV (by omega) (FW (kd:=kd) (by omega) (FX (kd:=kd) (by omega) (FY (by omega) (SZ hΔ hd hc A hn λn es l S' o5 o6 o7 o8 P C A'=>fin n es l S' _ _ _ _ P C A'))))
theorem JN(hΔ:∀ f,MonoN (Δ f))(hd:w6 (Δ kd)){D:Df}(hb:D.body=LQ kd)(hN:D.N.length=9)(hp:D.ps.length=2):D5 (!·) (i9 Δ D):=by
 intro t g S Q T q;unfold i9;rw[hb,hN];refine⟨hp.symm,?_⟩;have t0:=T.lt;refine⟨_,rfl,hd T (by decide) (by decide) λw S1 w0 w1 T1 O1 _=>?_⟩;refine⟨_,rfl,hd T1 (by decide) (by decide) λr1 S2 a0 a1 T2 O2 _=>⟨_,rfl,hd T2 (by decide) (by decide) λr2 S3 b0 b1 T3 O3 _=>⟨by show 2<=big;decide,_,rfl,_,(if g=true then .int (7+r2) else .int r1),c8 e8,?_⟩⟩⟩;have O:=((O1.trans O2).trans O3).push (o := .lst [.int r1,.int (7+r2)])
 have key:∀(z:Int) (n:Nat),z=n->n<=12->(g=false->n<=6)->wSs Δ [q3 kd,q4 kd,q5 kd,q6 kd,q7 kd,q8 kd,q9 kd,q10 kd] (A0 Q) [some (.loc t),some (.bl g),some (.int w),some (.int z),none,none,none,none,none] (S3++[SO.lst [.int r1,.int (7+r2)]]):=by
  rintro _ n rfl hn hc;refine⟨by show 0<=big;decide,?_⟩;have A:Ah t S ((S3++[SO.lst [.int r1,.int (7+r2)]])++[SO.lst []]) (S3++[SO.lst [.int r1,.int (7+r2)]]).length []:=⟨T3.push.push,O.push,e8,O.len,t0⟩
  have r:=NY (b:=g) hΔ hd w0 w1 hc A hn (Q:=Q) λn es l S' P C A=>q n es l S' P (λz=>C (by simpa using z)) A.at' A.new A.tape A.on;exact r
 cases g with
 | false=>exact⟨rfl,key r1 r1.toNat (by omega) (by omega) (λ_=>by omega)⟩
 | true=>exact⟨rfl,key (7+r2) (7+r2).toNat (by omega) (by omega) nofun⟩
end
def u1(kd kp:Nat):Stm:=(.asg (.tup (.cons (.nm 2) (.cons (.nm 3) .nil))) (.call kp (.cons (.var 0) (.cons (.var 1) .nil))))
def u2(kd kp:Nat):Stm:=(.iff (.cmp .Eq (.var 3) (.lst .nil)) [(.asg (.tup (.cons (.nm 2) (.cons (.nm 3) .nil))) (.call kp (.cons (.var 0) (.cons (.var 1) .nil))))] [])
def u3(kd kp:Nat):Stm:=(.iff (.and (.cmp .NotEq (.var 3) (.lst .nil)) (.cmp .Eq (.call kd (.cons (.var 0) (.cons (.c (.int 4)) .nil))) (.c (.int 0)))) [(.asg (.nm 3) (.op .Add (.var 3) (.comp ["_law_turn"] ["_law_pairs","_law_tape_here"] [3,0] (.nm 0) (.rng1 (.op .Add (.c (.int 1)) (.call kd (.cons (.var 0) (.cons (.c (.int 3)) .nil))))) .no (.ix (.var 1) (.call kd (.cons (.var 2) (.cons (.bi .len (.cons (.var 1) .nil)) .nil)))))))] [])
def u4(kd kp:Nat):Stm:=(.asg (.nm 4) (.lst .nil))
def u5(kd kp:Nat):Stm:=(.loop (.tup (.cons (.nm 5) (.cons (.nm 6) .nil))) (.seq (.var 3)) [(.expr (.mt .insert (.var 4) (.cons (.call kd (.cons (.var 0) (.cons (.op .Add (.bi .len (.cons (.var 4) .nil)) (.c (.int 1))) .nil))) (.cons (.tup (.cons (.bi .min (.cons (.var 5) (.cons (.var 6) .nil))) (.cons (.bi .max (.cons (.var 5) (.cons (.var 6) .nil))) .nil))) .nil))))])
def u6(kd kp:Nat):Stm:=(.ret (.tup (.cons (.var 2) (.cons (.bi .tuple (.cons (.var 4) .nil)) .nil))))
def Rw(kd kp:Nat):List Stm:=[u1 kd kp,u2 kd kp,u3 kd kp,u4 kd kp,u5 kd kp,u6 kd kp]
def j3(n:Nat)(es:EE):SV := .tup [.int n,.tup (es.map pairS)]
structure Web(n:Nat)(es:EE):Prop where
 en:∀ e∈es,e.1<e.2/\e.2<n
 len:es.length<=39
 few:n<=12
def OO(s:Sn):Prop:=∀{t:Nat} {g:Bool} {S:Sto} {Q:QE},TapeS S t->(∀(n:Nat) (es:EE) (S':Sto),Web n es->TapeS S' t->On t S S'->Q (j3 n es) S')->s [.loc t,.bl g] S Q
def WebKSp(c:Bool->Bool)(s:Sn):Prop:=∀{t:Nat} {g:Bool} {S:Sto} {Q:QE},TapeS S t->(∀(n:Nat) (es:EE) (S':Sto),Web n es->(c g=true->n<=6/\es.length<=15)->TapeS S' t->On t S S'->Q (j3 n es) S')->s [.loc t,.bl g] S Q
theorem WebKSp.sp{c:Bool->Bool}{s:Sn}(h:WebKSp c s):OO s:=λT q=>h T λn es S' W _ t o=>q n es S' W t o
theorem Fb{xs:List SV}:DN xs []=xs.isEmpty:=by cases xs<;>rfl
section
variable{Δ:Nat->Sn}{kd kp:Nat}
theorem D6(hΔ:∀ f,MonoN (Δ f))(hd:w6 (Δ kd)){t n l:Nat}{g:SV}{S0 S:Sto}{es:EE}{Q:QE}{o4 o5 o6:Option SV}(he:∀ e∈es,e.1<n/\e.2<n/\e.1≠e.2)(hl:es.length<=39)(hn:n<=12)(A:Ah t S0 S l es)
 (q:∀(fs:EE) (S':Sto),Web n fs->fs.length<=es.length->TapeS S' t->On t S0 S'->Q (j3 n fs) S'):wSs Δ [u4 kd kp,u5 kd kp,u6 kd kp] (A0 Q) [some (.loc t),some g,some (.int n),some (.loc l),o4,o5,o6] S:=by
 refine⟨by show 0<=big;decide,?_⟩;have hlt:=FT A.at';have htl:=A.tape.lt;refine⟨_,rfl,_,c8 A.push.at',?_⟩
 refine AE (j6 hΔ _) (λi ρ S2=>∃(fs:EE) (o5 o6:Option SV),ρ=[some (.loc t),some g,some (.int n),some (.loc l),some (.loc S.length),o5,o6]/\Ah t S0 S2 S.length fs/\S2[l]?=some (.lst (es.map pairS))/\(∀ e∈fs,e.1<e.2/\e.2<n)/\fs.length=i)
  ⟨[],o5,o6,rfl,⟨A.tape.push,A.on.push,e8,A.on.len,A.t0⟩,A.push.at',(λ_ h=>nomatch h),rfl⟩ (λi ρ S2 h=>?_) ?_ ?_
 ·obtain⟨fs,_,_,_,_,h2,_⟩:=h;exact h2.trans A.push.at'.symm
 ·rintro i x ρ S2 hx ⟨fs,p5,p6,rfl,A2,h2,hf,fl⟩;rw[Sm]at hx;cases hei:es[i]? with
  | none=>rw[hei]at hx;cases hx
  | some e=>
    rw[hei]at hx;have hx:pairS e=x:=oj hx;subst hx;have hil:=(gM hei).1;have hee:=he e (Ss hei);refine⟨_,rfl,⟨_,_,rfl,A2.at'⟩,_,rfl,_,rfl,_,c8 A2.at',hd A2.tape (by omega) (by rw[Se];omega) λr S3 r0 r1 T3 O3 _=>?_⟩;have A3:=A2.draw T3 O3;rw[Se]at r1;refine⟨_,rfl,_,rfl,_,rfl,_,rfl,by show 2<=big;decide,?_⟩;refine⟨_,A3.at',⟨r0,by rw[Se];omega⟩,by rw[Se];show _<100000;omega,?_⟩
    have key:∀(a b:Nat) (z1 z2:Int),z1=a->z2=b->a<b->b<n->∃(fs':EE) (o5 o6:Option SV),([some (.loc t),some g,some (.int n),some (.loc l),some (.loc S.length),some (.int e.1),some (.int e.2)]:EnvS)=[some (.loc t),some g,some (.int n),some (.loc l),some (.loc S.length),o5,o6]/\Ah t S0 (S3.set S.length (.lst ((fs.map pairS).take r.toNat ++ .tup [.int z1,.int z2]::(fs.map pairS).drop r.toNat))) S.length fs'/\(S3.set S.length (.lst ((fs.map pairS).take r.toNat ++ .tup [.int z1,.int z2]::(fs.map pairS).drop r.toNat)))[l]?=some (.lst (es.map pairS))/\(∀ e∈fs',e.1<e.2/\e.2<n)/\fs'.length=i+1:=by
     rintro a b _ _ rfl rfl hab hbn
     have e1:(fs.map pairS).take r.toNat++SV.tup [.int a,.int b]::(fs.map pairS).drop r.toNat=(fs.take r.toNat++(a,b)::fs.drop r.toNat).map pairS:=by
      rw[Sz,TY,List.map_take,List.map_drop];rfl
     rw[e1];refine⟨_,_,_,rfl,A3.put,?_,λe' h=>?_,?_⟩
     ·rw[BG (by omega)];exact O3.keep _ _ A.ne h2
     ·rcases TK.mp h with h | h
      ·exact hf e' (List.mem_of_mem_take h)
      ·rcases T7.mp h with h | h
       ·rw[h];exact⟨hab,hbn⟩
       ·exact hf e' (List.mem_of_mem_drop h)
     ·rw[Sl,Te,Tn,VH];omega
    by_cases hc:e.1<e.2
    ·exact key e.1 e.2 _ _ (by rw[iG (by omega)]) (by rw[iP (by omega)]) hc hee.2.1
    ·exact key e.2 e.1 _ _ (by rw[iP (by omega)]) (by rw[iG (by omega)]) (by omega) hee.1
 ·rintro ρ S2 ⟨fs,p5,p6,rfl,A2,h2,hf,fl⟩;rw[Se]at fl;exact⟨_,rfl,_,rfl,_,c8 A2.at',by show 2<=big;decide,q fs S2 ⟨hf,by omega,hn⟩ (by omega) A2.tape A2.on⟩
theorem Fc(hΔ:∀ f,MonoN (Δ f))(hd:w6 (Δ kd)){t n l:Nat}{g:SV}{S0 S:Sto}{es:EE}{Q:QE}{o4 o5 o6:Option SV}(P:Prs n es)(A:Ah t S0 S l es)
 (q:∀(fs:EE) (S':Sto),Web n fs->fs.length<=es.length+3->TapeS S' t->On t S0 S'->Q (j3 n fs) S'):wSs Δ [u3 kd kp,u4 kd kp,u5 kd kp,u6 kd kp] (A0 Q) [some (.loc t),some g,some (.int n),some (.loc l),o4,o5,o6] S:=by
 refine⟨_,rfl,by show 0<=big;decide,?_⟩;have A1:=A.push (o:=SO.lst []);refine⟨_,_,A1.at',e8,.inr (.inr rfl),_,rfl,?_⟩;rw[Fb];refine ifB (λh1=>?_) (λh1=>ifF rfl (D6 hΔ hd P.en (by have:=P.len;omega) P.few A1 λfs S' W L=>q fs S' W (by omega)))
 have hpos:0<es.length:=by
  cases es with
  | nil=>cases h1
  | cons _ _=>simp
 refine⟨_,rfl,hd A1.tape (by decide) (by decide) λr S2 r0 r1 T2 O2 _=>⟨_,rfl,?_⟩⟩;have A2:=A1.draw T2 O2;refine ifD (λ_=>?_) (λ_=>D6 hΔ hd P.en (by have:=P.len;omega) P.few A2 λfs S' W L=>q fs S' W (by omega));refine⟨_,rfl,_,rfl,hd A2.tape (by decide) (by decide) λr3 S3 a0 a1 T3 O3 _=>⟨_,rfl,⟨by omega,by omega⟩,?_⟩⟩;have A3:=A2.draw T3 O3;refine g8 (j5 hΔ _).2 (c9 hΔ _).1 (λi ys S4=>Ah t S0 S4 l es/\∃ fs:EE,ys=fs.map pairS/\(∀ e∈fs,e∈es)/\fs.length=i) ⟨A3,[],rfl,(λ_ h=>nomatch h),rfl⟩ (λ_ _ _ _=>trivial) ?_ ?_
 ·rintro i x ys S4 hx ⟨A4,fs,rfl,hf,fl⟩;obtain⟨rfl,hi⟩:=n8 hx;refine⟨_,rfl,_,rfl,_,rfl,_,c8 A4.at',hd A4.tape (by rw[Se];omega) (by rw[Se];have:=P.len;omega) λr5 S5 b0 b1 T5 O5 _=>?_⟩;have A5:=A4.draw T5 O5;rw[Se]at b1;have hr:r5.toNat<es.length:=by omega
  refine⟨_,pairS es[r5.toNat],c8 A5.at',?_,by rw[Se];show _<100000;omega,A5,fs++[es[r5.toNat]],?_,λe h=>?_,by simp[fl]⟩
  ·have:=j9 (xs:=es.map pairS) (j:=r5.toNat) (v:=pairS es[r5.toNat]) (by rw[Sm,Si hr];rfl)
   rwa [Uk b0]at this
  ·rw[Sz];rfl
  ·rcases TK.mp h with h | h
   ·exact hf e h
   ·rw[Sv.mp h];exact U0 hr
 ·rintro ys S4 ⟨A4,fs,rfl,hf,fl⟩;rw[m7]at fl;have A5:=A4.push (o := .lst (fs.map pairS));have hPl:=P.len;refine⟨_,_,A5.at',e8,by simp;show _<=100000;omega,?_⟩;rw[<-Sz];refine D6 hΔ hd (es:=es++fs) (λe h=>?_) (by rw[Sl];omega) P.few ⟨A5.tape.push,A5.on.push,e8,?_,A.t0⟩ λfs' S' W L=>q fs' S' W (by rw[Sl]at L;omega)
  ·rcases TK.mp h with h | h
   ·exact P.en e h
   ·exact P.en e (hf e h)
  ·have:=A5.on.len;exact this
theorem NZ{c:Bool->Bool}(hΔ:∀ f,MonoN (Δ f))(hd:w6 (Δ kd))(hp:D5 c (Δ kp)){D:Df}(hb:D.body=Rw kd kp)(hN:D.N.length=7)(hps:D.ps.length=2):WebKSp c (i9 Δ D):=by
 intro t g S Q T q;unfold i9;rw[hb,hN];refine⟨hps.symm,?_⟩;have t0:=T.lt;refine⟨_,rfl,_,rfl,hp T λn es l S1 P C h1 hl T1 O1=>?_⟩;have A1:Ah t S S1 l es:=⟨T1,O1,h1,hl,t0⟩
 refine⟨_,rfl,by show 0<=big;decide,?_⟩;have A2:=A1.push (o:=SO.lst []);refine⟨_,_,A2.at',e8,.inr (.inr rfl),_,rfl,?_⟩;rw[Fb];refine ifB (λ_=>?_) (λ_=>Fc hΔ hd P A2 λfs S' W L T' O'=>q n fs S' W (λz=>by have:=C z;omega) T' O');refine⟨_,rfl,_,rfl,hp A2.tape λn es l S3 P3 C h3 hl3 T3 O3=>?_⟩;exact Fc hΔ hd P3 ⟨T3,A2.on.trans O3,h3,by have:=A2.on.len;omega,t0⟩ λfs S' W L T' O'=>q n fs S' W (λz=>by have:=C z;omega) T' O'
end
def LR:List Stm:=[(.ret (.and (.bi .isi (.cons (.var 0) (.cons (.tyc .int) .nil))) (.not (.bi .isi (.cons (.var 0) (.cons (.tyc .bool) .nil))))))]
def Dq(k:Nat):List Stm:=[(.ret (.and (.call k (.cons (.var 1) .nil)) (.chn .LtE .Lt (.c (.int 0)) (.var 1) (.ix (.var 0) (.c (.int 0))))))]
def Hw(k:Nat):List Stm:=[(.ret (.and (.call k (.cons (.var 1) .nil)) (.chn .LtE .Lt (.c (.int 0)) (.var 1) (.bi .len (.cons (.ix (.var 0) (.c (.int 1))) .nil)))))]
def EL(k:Nat):List Stm:=[(.iff (.not (.call k (.cons (.var 0) (.cons (.var 1) .nil)))) [.no] [])]
def Hx(k:Nat):List Stm:=[(.expr (.call k (.cons (.var 0) (.cons (.var 1) .nil)))),(.ret (.comp ["tie","ends"] ["place"] [1] (.tup (.cons (.nm 0) (.cons (.nm 1) .nil))) (.enum (.ix (.var 0) (.c (.int 1)))) (.yes (.cmp .In (.var 2) (.var 1))) (.var 0)))]
def CY(s:Sn):Prop:=∀{i:Int} {S:Sto} {Q:QE},Q (.bl true) S->s [.int i] S Q
def Bh(s:Sn):Prop:=∀{n p:Nat} {es:EE} {S:Sto} {Q:QE},p<n->Q (.bl true) S->s [j3 n es,.int p] S Q
def D7(s:Sn):Prop:=∀{n j:Nat} {es:EE} {S:Sto} {Q:QE},j<es.length->Q (.bl true) S->s [j3 n es,.int j] S Q
def B3(s:Sn):Prop:=∀{n p:Nat} {es:EE} {S:Sto} {Q:QE},p<n->Q .non S->s [j3 n es,.int p] S Q
def Bi(s:Sn):Prop:=∀{n j:Nat} {es:EE} {S:Sto} {Q:QE},j<es.length->Q .non S->s [j3 n es,.int j] S Q
def B4(es:EE)(p:Nat)(i:Nat):List Nat:=(So i).filter λj=>match es[j]? with | some e=>decide (e.1=p)||decide (e.2=p) | none=>false
def natS(xs:List Nat):List SV:=xs.map λ(i:Nat)=>SV.int i
def D8(s:Sn):Prop:=∀{n p:Nat} {es:EE} {S:Sto} {Q:QE},es.length<=5000->p<n->Q (.loc S.length) (S++[.lst (natS (B4 es p es.length))])->s [j3 n es,.int p] S Q
section
variable{Δ:Nat->Sn}
theorem LS{D:Df}(hb:D.body=LR)(hN:D.N.length=1)(hp:D.ps.length=1):CY (i9 Δ D):=by
 intro i S Q q;unfold i9;rw[hb,hN];exact⟨hp.symm,_,rfl,_,nofun,rfl,_,rfl,ifT rfl ⟨_,rfl,_,nofun,rfl,_,rfl,q⟩⟩
theorem Fd{k:Nat}(h0:CY (Δ k)){D:Df}(hb:D.body=Dq k)(hN:D.N.length=2)(hp:D.ps.length=2):Bh (i9 Δ D):=by
 intro n p es S Q h q;unfold i9;rw[hb,hN];refine⟨hp.symm,_,rfl,h0 ⟨_,rfl,ifT rfl ⟨_,rfl,_,rfl,ifT (decide_eq_true (Vk p)) ⟨_,rfl,_,_,rfl,rfl,?_⟩⟩⟩⟩;show Q (.bl (decide ((p:Int)<n))) S;rw[decide_eq_true (by omega)];exact q
theorem JO{k:Nat}(h0:CY (Δ k)){D:Df}(hb:D.body=Hw k)(hN:D.N.length=2)(hp:D.ps.length=2):D7 (i9 Δ D):=by
 intro n p es S Q h q;unfold i9;rw[hb,hN];refine⟨hp.symm,_,rfl,h0 ⟨_,rfl,ifT rfl ⟨_,rfl,_,rfl,ifT (decide_eq_true (Vk p)) ⟨_,rfl,_,_,rfl,rfl,_,rfl,?_⟩⟩⟩⟩;show Q (.bl (decide ((p:Int)<(es.map pairS).length))) S;rw[decide_eq_true (by rw[Se];omega)];exact q
theorem DP{k:Nat}(h0:Bh (Δ k)){D:Df}(hb:D.body=EL k)(hN:D.N.length=2)(hp:D.ps.length=2):B3 (i9 Δ D):=by
 intro n p es S Q h q;unfold i9;rw[hb,hN];exact⟨hp.symm,_,rfl,_,rfl,h0 h ⟨_,rfl,ifF rfl q⟩⟩
theorem Fe{k:Nat}(h0:D7 (Δ k)){D:Df}(hb:D.body=EL k)(hN:D.N.length=2)(hp:D.ps.length=2):Bi (i9 Δ D):=by
 intro n p es S Q h q;unfold i9;rw[hb,hN];exact⟨hp.symm,_,rfl,_,rfl,h0 h ⟨_,rfl,ifF rfl q⟩⟩
theorem Gr{xs:List SV}{i:Nat}{x:SV}(h:(BA xs)[i]?=some x):∃ y,xs[i]?=some y/\x = .tup [.int i,y]:=by
 unfold BA at h;rw[Ur]at h;cases hy:xs[i]? with
 | none=>rw[hy]at h;revert h;cases(So xs.length)[i]?<;>exact nofun
 | some y=>
   have hi:=(gM hy).1;rw[hy,UZ hi]at h;exact⟨y,rfl,(oj h).symm⟩
theorem EM{xs:List SV}:(BA xs).length=xs.length:=by unfold BA;simp
theorem D9{es:EE}{i:Nat}{x:SV}(h:(es.map pairS)[i]?=some x):∃ e,es[i]?=some e/\x=pairS e:=by
 rw[Sm]at h;cases he:es[i]? with
 | none=>rw[he]at h;cases h
 | some e=>rw[he]at h;exact⟨e,rfl,(oj h).symm⟩
theorem EN(p:Nat)(e:Nat×Nat):inS (.int p) [.int e.1,.int e.2]=(decide (e.1=p)||decide (e.2=p)):=by
 have k:∀ a:Nat,((a:Int) == (p:Int))=decide (a=p):=λa=>by
  rw[Ta];simp[Tt]
 unfold inS;simp only[UC,List.any_nil,Vf,eqF,k]
theorem BH(es:EE)(p i:Nat){e:Nat×Nat}(h:es[i]?=some e):B4 es p (i+1)=B4 es p i++if (decide (e.1=p)||decide (e.2=p))=true then [i] else []:=by
 unfold B4;rw[Ud,UU]
 congr 1
 rw[US,h];rfl
theorem Gs(es:EE)(p i:Nat):(B4 es p i).length<=i:=by
 have:=U2 (λj=>match es[j]? with | some e=>decide (e.1=p)||decide (e.2=p) | none=>false) (So i);rw[U5]at this;exact this
theorem JP{k:Nat}(hΔ:∀ f,MonoN (Δ f))(h0:B3 (Δ k)){D:Df}(hb:D.body=Hx k)(hN:D.N.length=2)(hp:D.ps.length=2):D8 (i9 Δ D):=by
 intro n p es S Q hl h q;unfold i9;rw[hb,hN];refine⟨hp.symm,_,rfl,_,rfl,h0 h ⟨_,rfl,_,_,rfl,rfl,_,rfl,?_⟩⟩;refine g8 (j5 hΔ _).2 (c9 hΔ _).1 (λi ys S'=>S'=S/\ys=natS (B4 es p i)) ⟨rfl,rfl⟩ (λ_ _ _ _=>trivial) ?_ ?_
 ·rintro i x ys S' hx ⟨rfl,rfl⟩;obtain⟨y,hy,rfl⟩:=Gr hx;obtain⟨e,he,rfl⟩:=D9 hy;have hi:=(gM he).1;have ht:=Gs es p i;refine⟨_,rfl,_,rfl,rfl,_,rfl,rfl,_,rfl,?_⟩;show if inS (.int p) [.int e.1,.int e.2]=true then _ else _
  rw[EN];refine ifB (λh=>?_) (λh=>?_)
  ·refine⟨_,rfl,by show(natS _).length<100000;unfold natS;rw[Se];omega,rfl,?_⟩;rw[BH es p i he,iP h];unfold natS;rw[Sz];rfl
  ·refine⟨rfl,?_⟩;rw[BH es p i he,iG (by rw[h];decide),Tx]
 ·rintro ys S' ⟨rfl,rfl⟩;rw[EM,Se];exact q
end
theorem g7{xs:List Nat}:(natS xs).length=xs.length:=by unfold natS;rw[Se]
theorem v6{xs:List Nat}{i x:Nat}(h:xs[i]?=some x):(natS xs)[i]?=some (.int x):=by unfold natS;rw[Sm,h];rfl
theorem t6{xs ys:List Nat}:natS (xs++ys)=natS xs++natS ys:=by unfold natS;rw[Sz]
theorem Na(m:Nat):Ap 0 (m:Int)=natS (So m):=by
 unfold Ap natS;simp
def y1:Stm:=(.iff (.cmp .Is (.var 1) (.c .non)) [(.ret (.cmp .Is (.var 0) (.c .non)))] [])
def y5:Stm:=(.ret (.and (.bi .isi (.cons (.var 0) (.cons (.tyc .int) .nil))) (.and (.not (.bi .isi (.cons (.var 0) (.cons (.tyc .bool) .nil)))) (.cmp .Eq (.var 0) (.var 1)))))
section
variable{Δ:Nat->Sn}{k:Nat}{D:Df}
theorem QM(n:Nat):blS (TM n (.bl true))=some (TM n true):=by
 induction n with
 | zero=>rfl
 | succ n ih=>rw[Tj,Tj];simp[blS,ih]
end
def CG:Option Nat->SV
 | some j => .int j
 | none => .non
def optsS(xs:List (Option Nat)):List SV:=xs.map CG
theorem Ff{xs:List (Option Nat)}{i:Nat}{x:Option Nat}(h:xs[i]?=some x):(optsS xs)[i]?=some (CG x):=by unfold optsS;rw[Sm,h];rfl
structure Gw(S S':Sto):Prop where
 len:S.length<=S'.length
 keep:∀(k:Nat) (o:SO),S[k]?=some o->S'[k]?=some o
theorem Gw.refl(S:Sto):Gw S S:=⟨Sw _,λ_ _ h=>h⟩
theorem Gw.push{S S':Sto}{o:SO}(h:Gw S S'):Gw S (S'++[o]):=⟨by rw[Sl];have:=h.len;omega,λk u z=>f8 (h.keep k u z)⟩
theorem Gw.put{S S':Sto}{o:SO}{k:Nat}(h:Gw S S')(hk:S.length<=k):Gw S (S'.set k o):=⟨by rw[UE];exact h.len,λj u z=>by
 rw[BG (λe=>by have:=FT z;omega)];exact h.keep j u z⟩
theorem Gw.trans{S S' S'':Sto}(a:Gw S S')(b:Gw S' S''):Gw S S'':=⟨Th a.len b.len,λk o h=>b.keep k o (a.keep k o h)⟩
theorem AK{xs:List (Option Nat)}:(optsS xs).length=xs.length:=by unfold optsS;rw[Se]
def g1':Stm:=(.asg (.nm 1) (.lrng1 (.ix (.var 0) (.c (.int 0)))))
def g2':Stm:=(.loop (.tup (.cons (.nm 2) (.cons (.nm 3) .nil))) (.seq (.ix (.var 0) (.c (.int 1)))) [(.asg (.nm 4) (.bi .min (.cons (.ix (.var 1) (.var 2)) (.cons (.ix (.var 1) (.var 3)) .nil)))),(.asg (.nm 5) (.bi .max (.cons (.ix (.var 1) (.var 2)) (.cons (.ix (.var 1) (.var 3)) .nil)))),(.asg (.nm 1) (.comp ["first"] ["high","low"] [5,4] (.nm 0) (.seq (.var 1)) .no (.ife (.cmp .Eq (.var 0) (.var 1)) (.var 2) (.var 0))))])
def g3':Stm:=(.ret (.comp ["first"] ["least","web"] [1,0] (.nm 0) (.rng1 (.ix (.var 0) (.c (.int 0)))) (.yes (.cmp .Eq (.ix (.var 1) (.var 0)) (.var 0))) (.comp ["place"] ["least","first"] [1,0] (.nm 0) (.rng1 (.ix (.var 2) (.c (.int 0)))) (.yes (.cmp .Eq (.ix (.var 1) (.var 0)) (.var 2))) (.var 0))))
def LU:List Stm:=[g1',g2',g3']
def DQ(a b x:Nat):Nat:=if x=max a b then min a b else x
theorem Nb(a b:Nat):(if (b:Int)<a then (b:Int) else a)=((min a b:Nat):Int):=by split<;>omega
theorem Nc(a b:Nat):(if (b:Int)>a then (b:Int) else a)=((max a b:Nat):Int):=by split<;>omega
def gc':Stm:=(.asg (.nm 1) (.comp ["first"] ["high","low"] [5,4] (.nm 0) (.seq (.var 1)) .no (.ife (.cmp .Eq (.var 0) (.var 1)) (.var 2) (.var 0))))
theorem LV{Δ:Nat->Sn}(hΔ:∀ f,MonoN (Δ f)){D:EndsS}{a b k:Nat}{z1 z2:Int}{w o2 o3:Option SV}{ms:List Nat}{S:Sto}(e1:z1=((min a b:Nat):Int))(e2:z2=((max a b:Nat):Int))(hl:ms.length<=1000)(hk:S[k]?=some (.lst (natS ms)))
 (q:D.nx [w,some (.loc S.length),o2,o3,some (.int z1),some (.int z2)] (S++[.lst (natS (ms.map (DQ a b)))])):wSs Δ [gc'] D [w,some (.loc k),o2,o3,some (.int z1),some (.int z2)] S:=by
 subst e1 e2;refine⟨_,rfl,_,c8 hk,?_⟩;refine g8 (j5 hΔ _).2 (c9 hΔ _).1 (λj ys S2=>S2=S/\ys=natS ((ms.take j).map (DQ a b))) ⟨rfl,rfl⟩ (λ_ _ _ h=>by rw[h.1];exact rfl) ?_ ?_
 ·rintro j y ys S2 hy ⟨rfl,rfl⟩;have hj:j<ms.length:=by have:=(gM hy).1;rwa [g7]at this
  rw[v6 (Si hj)]at hy;have hy:=oj hy;subst hy
  have fin:∀ z:Int,z=DQ a b ms[j]->(natS ((ms.take j).map (DQ a b))).length<big/\S2=S2/\natS ((ms.take j).map (DQ a b))++[.int z]=natS ((ms.take (j+1)).map (DQ a b)):=by
   rintro _ rfl;refine⟨by rw[g7,Se,Tn];show _<100000;omega,rfl,?_⟩;rw[Tz,Si hj,Sz,t6];rfl
  refine⟨_,rfl,_,rfl,_,rfl,ifD (λh=>⟨_,rfl,fin _ ?_⟩) (λh=>⟨_,rfl,fin _ ?_⟩)⟩
  ·have h:ms[j]=max a b:=Tt.mp h;unfold DQ;rw[iP h]
  ·have h:¬ ms[j]=max a b:=λz=>h (congrArg _ z);unfold DQ;rw[iG h]
 ·rintro ys S2 ⟨rfl,rfl⟩;rw[g7,Tp];exact q
end Rf
namespace Hue
def lowO(ms:List Nat)(e:Nat×Nat):Nat:=min (ms.getD e.1 0) (ms.getD e.2 0)
def highO(ms:List Nat)(e:Nat×Nat):Nat:=max (ms.getD e.1 0) (ms.getD e.2 0)
def bring(ms:List Nat)(e:Nat×Nat):List Nat:=ms.map λx=>if x=highO ms e then lowO ms e else x
def Bx(n:Nat)(es:EE):List Nat:=es.foldl bring (So n)
structure Mk(n:Nat)(ms:List Nat):Prop where
 len:ms.length=n
 le:∀ i (h:i<ms.length),ms[i]<=i
 fix:∀ i (h:i<ms.length),ms[ms[i]]?=some ms[i]
theorem Fg(n:Nat):Mk n (So n):=⟨by simp,λi h=>by simp,λi h=>by
 have hi:i<n:=by simpa using h
 simp[UZ,hi]⟩
theorem LW{n:Nat}{ms:List Nat}(M:Mk n ms){e:Nat×Nat}(h1:e.1<n)(h2:e.2<n):Mk n (bring ms e):=by
 have l1:e.1<ms.length:=by rw[M.len];exact h1
 have l2:e.2<ms.length:=by rw[M.len];exact h2
 have g1:ms.getD e.1 0=ms[e.1]:=by simp[UA,l1]
 have g2:ms.getD e.2 0=ms[e.2]:=by simp[UA,l2]
 have fl:ms[lowO ms e]?=some (lowO ms e):=by
  unfold lowO;rw[g1,g2];rcases Wf ms[e.1] ms[e.2] with z | z
  ·rw[WL z];exact M.fix _ l1
  ·rw[WB z];exact M.fix _ l2
 have hlh:lowO ms e<=highO ms e:=by unfold lowO highO;omega
 have at':∀ i (h:i<(bring ms e).length),(bring ms e)[i]=if ms[i]'(by simpa[bring] using h)=highO ms e then lowO ms e else ms[i]'(by simpa[bring] using h):=λi h=>by simp[bring]
 refine⟨by rw[bring,Se,M.len],λi h=>?_,λi h=>?_⟩
 ·rw[at' i h];have hi:i<ms.length:=by simpa[bring] using h
  have:=M.le i hi;split
  ·rename_i q;omega
  ·exact this
 ·have hi:i<ms.length:=by simpa[bring] using h
  have key:∀ v,ms[v]?=some v->(v≠highO ms e\/v=lowO ms e)->(bring ms e)[v]?=some v:=by
   intro v hv q;unfold bring;rw[Sm,hv];show some (if v=highO ms e then lowO ms e else v)=some v;rcases q with q | q
   ·rw[iG q]
   ·split
    ·rw[<-q]
    ·rfl
  rw[at' i h];split
  ·exact key _ fl (.inr rfl)
  ·rename_i q;exact key _ (M.fix i hi) (.inl q)
theorem DA{n:Nat}:∀{es:EE} {ms:List Nat},Mk n ms->(∀ e∈es,e.1<n/\e.2<n)->Mk n (es.foldl bring ms)
 | [],_,M,_=>M
 | e::es,ms,M,h=>DA (es:=es) (ms:=bring ms e) (LW M (h e (TJ ..)).1 (h e (TJ ..)).2) λf hf=>h f (T8 _ hf)
def Cl(es:EE)(C:Nat->Prop):Prop:=∀ e∈es,C e.1↔C e.2
theorem BJ{ms:List Nat}{e:Nat×Nat}{p:Nat}(h:p<ms.length):(bring ms e).getD p 0=if ms.getD p 0=highO ms e then lowO ms e else ms.getD p 0:=by
 unfold bring;simp[UA,h]
theorem BT{ms:List Nat}{e:Nat×Nat}:(bring ms e).length=ms.length:=by simp[bring]
theorem Fh(ms:List Nat)(e:Nat×Nat):(lowO ms e=ms.getD e.1 0/\highO ms e=ms.getD e.2 0)\/(lowO ms e=ms.getD e.2 0/\highO ms e=ms.getD e.1 0):=by
 unfold lowO highO;rcases Wf (ms.getD e.1 0) (ms.getD e.2 0) with z | z
 ·exact .inl ⟨WL z,Nat.max_eq_right z⟩
 ·exact .inr ⟨WB z,Nat.max_eq_left z⟩
theorem Fi{n:Nat}{C:Nat->Prop}:∀{es:EE} {ms:List Nat},ms.length=n->(∀ e∈es,e.1<n/\e.2<n)->Cl es C->(∀ p,p<n->(C p↔C (ms.getD p 0)))->∀ p,p<n->(C p↔C ((es.foldl bring ms).getD p 0))
 | [],_,_,_,_,h=>h
 | e::es,ms,hl,hn,hc,h=>by
   refine Fi (es:=es) (ms:=bring ms e) (by rw[BT,hl]) (λf hf=>hn f (T8 _ hf)) (λf hf=>hc f (T8 _ hf)) λp hp=>?_;have he:=hn e (TJ ..);have c1:=h e.1 he.1;have c2:=h e.2 he.2;have c0:=hc e (TJ ..);have hp0:=h p hp;rw[BJ (by omega)];split
   ·rename_i z;rw[z]at hp0;rcases Fh ms e with⟨a,b⟩ | ⟨a,b⟩
    ·rw[a];rw[b]at hp0;exact hp0.trans (c2.symm.trans (c0.symm.trans c1))
    ·rw[a];rw[b]at hp0;exact hp0.trans (c1.symm.trans (c0.trans c2))
   ·exact hp0
theorem LX{n:Nat}{es:EE}{C:Nat->Prop}(hn:∀ e∈es,e.1<n/\e.2<n)(hc:Cl es C){p:Nat}(hp:p<n):C p↔C ((Bx n es).getD p 0):=by
 refine Fi (ms:=So n) (by simp) hn hc (λq hq=>?_) p hp;simp[UA,hq]
theorem Fj{n:Nat}{a b:Nat}:∀{es:EE} {ms:List Nat},ms.length=n->a<n->b<n->ms.getD a 0=ms.getD b 0->(es.foldl bring ms).getD a 0=(es.foldl bring ms).getD b 0
 | [],_,_,_,_,h=>h
 | e::es,ms,hl,ha,hb,h=>by
   refine Fj (es:=es) (ms:=bring ms e) (by rw[BT,hl]) ha hb ?_;rw[BJ (by omega),BJ (by omega),h]
theorem Dr{n:Nat}:∀{es:EE} {ms:List Nat},ms.length=n->(∀ e∈es,e.1<n/\e.2<n)->∀ e∈es,(es.foldl bring ms).getD e.1 0=(es.foldl bring ms).getD e.2 0
 | f::es,ms,hl,hn,e,he=>by
   rcases T7.mp he with rfl | he
   ·have hb:=hn e (TJ ..);refine Fj (es:=es) (ms:=bring ms e) (by rw[BT,hl]) hb.1 hb.2 ?_;rw[BJ (by omega),BJ (by omega)];rcases Fh ms e with⟨a,b⟩ | ⟨a,b⟩
    ·rw[a,b];simp
    ·rw[a,b];simp
   ·exact Dr (es:=es) (ms:=bring ms f) (by rw[BT,hl]) (λg hg=>hn g (T8 _ hg)) e he
theorem Gv{n:Nat}{es:EE}(hn:∀ e∈es,e.1<n/\e.2<n):∀ e∈es,(Bx n es).getD e.1 0=(Bx n es).getD e.2 0:=Dr (by simp) hn
end Hue
namespace Rf
open PySem L2
def p4(es:EE)(t:Nat):Nat×Nat:=es.getD t (0,0)
theorem EO{es:EE}{t:Nat}(h:t<es.length):es[t]?=some (p4 es t):=by
 unfold p4;rw[Sy,Si h];rfl
section
variable{Δ:Nat->Sn}
theorem j4{D:EndsS}{ρ:EnvS}{S:Sto}(h:D.nx ρ S):wSs Δ [] D ρ S:=h
end
end Rf
namespace Hue
def mk(n:Nat)(es:EE)(p:Nat):Nat:=(Bx n es).getD p 0
section
variable{n:Nat}{es:EE}(hn:∀ e∈es,e.1<n/\e.2<n)
include hn
theorem Rx{p:Nat}(hp:p<n):mk n es p<=p:=by
 have M:Mk n (Bx n es):=DA (Fg n) hn;have hpm:p<(Bx n es).length:=by rw[M.len];exact hp
 have:=M.le p hpm;unfold mk;simpa[UA,hpm] using this
theorem mk_lt{p:Nat}(hp:p<n):mk n es p<n:=Uc (Rx hn hp) hp
theorem mk_mk{p:Nat}(hp:p<n):mk n es (mk n es p)=mk n es p:=by
 have M:Mk n (Bx n es):=DA (Fg n) hn;have hpm:p<(Bx n es).length:=by rw[M.len];exact hp
 have:=M.fix p hpm;have e:mk n es p=(Bx n es)[p]:=by unfold mk;simp[UA,hpm]
 rw[e];unfold mk;rw[Sy,this];rfl
theorem OP{C:Nat->Prop}(hc:Cl es C){p:Nat}(hp:p<n):C p↔C (mk n es p):=LX hn hc hp
theorem mk_ends:∀ e∈es,mk n es e.1=mk n es e.2:=Gv hn
theorem mk_same{C:Nat->Prop}(hc:Cl es C){p q:Nat}(hp:p<n)(hq:q<n)(h:mk n es p=mk n es q):C p↔C q:=by
 rw[OP hn hc hp,h];exact(OP hn hc hq).symm
end
end Hue
namespace Rf
open PySem L2
theorem JQ{ms:List Nat}{e:Nat×Nat}{a b:Nat}(ha:ms[e.1]?=some a)(hb:ms[e.2]?=some b):Hue.bring ms e=ms.map (DQ a b):=by
 have g1:ms.getD e.1 0=a:=by rw[Sy,ha];rfl
 have g2:ms.getD e.2 0=b:=by rw[Sy,hb];rfl
 unfold Hue.bring Hue.highO Hue.lowO;rw[g1,g2];rfl
def OQ(k:Nat):List Stm:=[(.loop (.nm 2) (.seq (.var 1)) [(.expr (.call k (.cons (.var 0) (.cons (.var 2) .nil))))]),(.ret (.tup (.cons (.ix (.var 0) (.c (.int 0))) (.cons (.bi .tuple (.cons (.comp ["tie"] ["web"] [0] (.nm 0) (.seq (.var 1)) .no (.ix (.ix (.var 1) (.c (.int 1))) (.var 0))) .nil)) .nil))))]
def Gx(s:Sn):Prop:=∀{n k:Nat} {es:EE} {js:List Nat} {S:Sto} {Q:QE},S[k]?=some (.lst (natS js))->js.length<=1000->(∀ j∈js,j<es.length)->(∀(S':Sto),Gw S S'->Q (j3 n (js.map λj=>es.getD j (0,0))) S')->s [j3 n es,.loc k] S Q
theorem AI{xs:List Nat}{i:Nat}{x:SV}(h:(natS xs)[i]?=some x):∃ j,xs[i]?=some j/\x = .int j:=by
 unfold natS at h;rw[Sm]at h;cases hx:xs[i]? with
 | none=>rw[hx]at h;cases h
 | some j=>rw[hx]at h;exact⟨j,rfl,(oj h).symm⟩
theorem Nd{Δ:Nat->Sn}(hΔ:∀ f,MonoN (Δ f)){kc:Nat}(hc:Bi (Δ kc)){D:Df}(hb:D.body=OQ kc)(hN:D.N.length=3)(hp:D.ps.length=2):Gx (i9 Δ D):=by
 intro n k es js S Q hk hl hj q;unfold i9;rw[hb,hN];refine⟨hp.symm,_,rfl,_,c8 hk,?_⟩;refine AE (j6 hΔ _) (λi ρ S'=>∃ o,ρ=[some (j3 n es),some (.loc k),o]/\S'=S) ⟨none,rfl,rfl⟩ (λ_ _ _ ⟨_,_,h⟩=>by rw[h];exact rfl) ?_ ?_
 ·rintro i x ρ S' hx ⟨o,rfl,rfl⟩;obtain⟨j,hji,rfl⟩:=AI hx;exact⟨_,rfl,_,rfl,hc (hj j (Ss hji)) ⟨_,rfl,rfl⟩⟩
 ·rintro ρ S' ⟨o,rfl,rfl⟩;refine⟨_,rfl,_,_,rfl,rfl,_,rfl,_,c8 hk,?_⟩;refine g8 (j5 hΔ _).2 (c9 hΔ _).1 (λi ys S2=>S2=S'/\ys=((js.take i).map λj=>es.getD j (0,0)).map pairS) ⟨rfl,rfl⟩ (λ_ _ _ h=>by rw[h.1];exact rfl) ?_ ?_
  ·rintro i x ys S2 hx ⟨rfl,rfl⟩;obtain⟨j,hji,rfl⟩:=AI hx;have hjl:=hj j (Ss hji);have hil:=(gM hji).1;have he:=Si hjl;refine⟨_,rfl,_,_,rfl,rfl,_,rfl,_,pairS es[j],rfl,j9 (by rw[Sm,he];rfl),?_⟩;refine⟨by rw[Se,Se,Tn];show _<100000;omega,rfl,?_⟩;rw[Tz,hji,Sz,Sz]
   congr 1
   show[pairS es[j]]=[pairS (es.getD j (0,0))]
   rw[Sy,he];rfl
  ·rintro ys S2 ⟨rfl,rfl⟩;rw[g7,Tp];exact⟨_,c8 e8,by show 2<=big;decide,q _ (Gw.refl S2).push⟩
end Rf
namespace Hue
end Hue
namespace Rf
open PySem L2
theorem By(P:Nat->Bool)(i:Nat):(So (i+1)).filter P=(So i).filter P++if P i=true then [i] else []:=by
 rw[Ud,UU,US];cases P i<;>rfl
theorem v9(P:Nat->Bool)(i:Nat):((So i).filter P).length<=i:=by
 have:=U2 P (So i)
 rwa [U5]at this
def t7(m:Nat->Nat)(n:Nat):List Nat:=(So n).filter λf=>decide (m f=f)
def B6(m:Nat->Nat)(n f:Nat):List Nat:=(So n).filter λt=>decide (m t=f)
structure Cls(S:Sto)(l:Nat)(ls:List Nat)(cs:List (List Nat)):Prop where
 top:S[l]?=some (.lst (ls.map SV.loc))
 len:ls.length=cs.length
 row:∀(i k:Nat) (c:List Nat),ls[i]?=some k->cs[i]?=some c->S[k]?=some (.lst (natS c))
def Gy(m:Nat->Nat)(n:Nat):List (List Nat):=(t7 m n).map (B6 m n)
def DB(s:Sn):Prop:=∀{n:Nat} {es:EE} {S:Sto} {Q:QE},(∀ e∈es,e.1<e.2/\e.2<n)->es.length<=1000->n<=1000->
 (∀(l:Nat) (ls:List Nat) (S':Sto),Gw S S'->S.length<=l->Cls S' l ls (Gy (Hue.mk n es) n)->ls.Pairwise (·<·)->(∀ k∈ls,S.length<=k/\k<l)->Q (.loc l) S')->s [j3 n es] S Q
theorem LY{α:Type}{xs:List α}{a b:α}{j:Nat}(h:(xs++[a])[j]?=some b):(j=xs.length/\b=a)\/xs[j]?=some b:=by
 rcases Vp j xs.length with z | z
 ·rw[TC z]at h;exact .inr h
 ·have e:j=xs.length:=by
   have:=(gM h).1;rw[Sl,UF]at this;omega
  subst e;rw[Td (Sw _),Nat.sub_self]at h;cases h;exact .inl ⟨rfl,rfl⟩
structure RwsTo(S0 S:Sto)(ls:List Nat)(cs:List (List Nat)):Prop where
 len:ls.length=cs.length
 row:∀(i k:Nat) (c:List Nat),ls[i]?=some k->cs[i]?=some c->S[k]?=some (.lst (natS c))
 up:ls.Pairwise (·<·)
 new:∀ k∈ls,S0.length<=k/\k<S.length
theorem RwsTo.nil(S0 S:Sto):RwsTo S0 S [] []:=⟨rfl,λi k c h=>by simp at h,.nil,λ_ h=>nomatch h⟩
theorem RwsTo.push{S0 S:Sto}{ls:List Nat}{cs:List (List Nat)}(h:RwsTo S0 S ls cs)(hS:S0.length<=S.length)(c:List Nat):RwsTo S0 (S++[.lst (natS c)]) (ls++[S.length]) (cs++[c]):=by
 refine⟨by rw[Sl,Sl,h.len];rfl,λi k c' h1 h2=>?_,?_,λk hk=>?_⟩
 ·rcases LY h1 with⟨e1,rfl⟩ | h1
  ·rcases LY h2 with⟨_,rfl⟩ | h2
   ·exact e8
   ·have:=(gM h2).1;have:=h.len;omega
  ·rcases LY h2 with⟨e,_⟩ | h2
   ·have:=(gM h1).1;have:=h.len;omega
   ·exact f8 (h.row i k c' h1 h2)
 ·rw[Va];exact⟨h.up,by simp,λa ha b hb=>by rw[Sv.mp hb];exact(h.new a ha).2⟩
 ·rw[Sl,UF];rcases TK.mp hk with hk | hk
  ·have:=h.new k hk;omega
  ·rw[Sv.mp hk];omega
theorem Gz{Δ:Nat->Sn}(hΔ:∀ f,MonoN (Δ f)){n k:Nat}{es:EE}{S0 S:Sto}{Q:QE}{ms:List Nat}{o2 o3 o4 o5:Option SV}(hn:n<=1000)(hm:ms.length=n)(G:Gw S0 S)(hk:S[k]?=some (.lst (natS ms)))
 (q:∀(l:Nat) (ls:List Nat) (S':Sto),Gw S0 S'->S0.length<=l->Cls S' l ls (Gy (λp=>ms.getD p 0) n)->ls.Pairwise (·<·)->(∀ k∈ls,S0.length<=k/\k<l)->Q (.loc l) S'):wSs Δ [g3'] (A0 Q) [some (j3 n es),some (.loc k),o2,o3,o4,o5] S:=by
 refine⟨_,rfl,_,_,rfl,rfl,_,rfl,⟨by omega,by omega⟩,?_⟩;refine g8 (j5 hΔ _).2 (c9 hΔ _).1 (λi ys S'=>Gw S S'/\∃ ls:List Nat,ys=ls.map SV.loc/\RwsTo S0 S' ls ((t7 (λp=>ms.getD p 0) i).map (B6 (λp=>ms.getD p 0) n))) ⟨Gw.refl S,[],rfl,RwsTo.nil S0 S⟩ (λ_ _ _ _=>trivial) ?_ ?_
 ·rintro i x ys S' hx ⟨G',ls,rfl,R⟩;obtain⟨rfl,hi⟩:=n8 hx;rw[Uo]at hi ⊢;have hil:i<ms.length:=by rw[hm];omega
  have hmi:=Si hil;have hg:ms.getD i 0=ms[i]:=by rw[Sy,hmi];rfl
  have hs:t7 (λp=>ms.getD p 0) (i+1)=t7 (λp=>ms.getD p 0) i++if ms[i]=i then [i] else []:=by
   unfold t7;rw[By];simp only[hg,dQ]
  have hle:ls.length<=i:=by rw[R.len,Se];exact v9 _ _
  refine⟨_,rfl,_,rfl,_,_,c8 (G'.keep _ _ hk),j9 (v6 hmi),_,rfl,_,rfl,ifD (λh=>?_) (λh=>?_)⟩
  ·have h:ms[i]=i:=Tt.mp h;rw[iP h]at hs;refine⟨_,rfl,_,_,rfl,rfl,_,rfl,⟨by omega,by omega⟩,?_⟩;refine g8 (j5 hΔ _).2 (c9 hΔ _).1 (λj zs S2=>S2=S'/\zs=natS (B6 (λp=>ms.getD p 0) j i)) ⟨rfl,rfl⟩ (λ_ _ _ _=>trivial) ?_ ?_
   ·rintro j y zs S2 hy ⟨rfl,rfl⟩;obtain⟨rfl,hj⟩:=n8 hy;rw[Uo]at hj ⊢;have hjl:j<ms.length:=by rw[hm];omega
    have hmj:=Si hjl;have hgj:ms.getD j 0=ms[j]:=by rw[Sy,hmj];rfl
    have hc:B6 (λp=>ms.getD p 0) (j+1) i=B6 (λp=>ms.getD p 0) j i++if ms[j]=i then [j] else []:=by
     unfold B6;rw[By];simp only[hgj,dQ]
    have hcl:(B6 (λp=>ms.getD p 0) j i).length<=j:=v9 _ _;refine⟨_,rfl,_,rfl,_,_,c8 (G'.keep _ _ hk),j9 (v6 hmj),_,rfl,_,rfl,ifD (λh=>?_) (λh=>⟨rfl,?_⟩)⟩
    ·have h:ms[j]=i:=Tt.mp h;rw[iP h]at hc;exact⟨_,rfl,by rw[g7];show _<100000;omega,rfl,by rw[hc,t6];rfl⟩
    ·have h:¬ ms[j]=i:=λz=>h (congrArg _ z);rw[iG h,Tx]at hc;rw[hc]
   ·rintro zs S2 ⟨rfl,rfl⟩;rw[m7];refine⟨by rw[Se];show _<100000;omega,G'.push,ls++[S2.length],by rw[Sz];rfl,?_⟩;rw[hs,Sz];exact R.push (Th G.len G'.len) _
  ·have h:¬ ms[i]=i:=λz=>h (congrArg _ z);rw[iG h,Tx]at hs;exact⟨G',ls,rfl,by rw[hs];exact R⟩
 ·rintro ys S' ⟨G',ls,rfl,R⟩;rw[m7]at R;exact q _ ls _ (G.trans G').push (G.trans G').len ⟨e8,R.len,λi k c a b=>f8 (R.row i k c a b)⟩ R.up R.new
theorem JR{Δ:Nat->Sn}(hΔ:∀ f,MonoN (Δ f)){D:Df}(hb:D.body=LU)(hN:D.N.length=6)(hp:D.ps.length=1):DB (i9 Δ D):=by
 intro n es S Q hen hel hn q;unfold i9;rw[hb,hN];refine⟨hp.symm,_,rfl,_,_,rfl,rfl,_,rfl,⟨by omega,by omega⟩,?_⟩;rw[Na];refine⟨_,rfl,_,_,rfl,rfl,_,rfl,?_⟩
 refine AE (j6 hΔ _) (λi ρ S'=>∃(ms:List Nat) (k:Nat) (o2 o3 o4 o5:Option SV),ρ=[some (j3 n es),some (.loc k),o2,o3,o4,o5]/\ms=(es.take i).foldl Hue.bring (So n)/\ms.length=n/\Gw S S'/\S'[k]?=some (.lst (natS ms)))
  ⟨So n,S.length,none,none,none,none,rfl,rfl,U5,(Gw.refl S).push,e8⟩ (λ_ _ _ _=>trivial) ?_ ?_
 ·rintro i x ρ S' hx ⟨ms,k,o2,o3,o4,o5,rfl,e0,hm,G,hk⟩;obtain⟨e,he,rfl⟩:=D9 hx;have hee:=hen e (Ss he);have h1:=Si (show e.1<ms.length by rw[hm];omega);have h2:=Si (show e.2<ms.length by rw[hm];omega);generalize ms[e.1]'(by rw[hm];omega)=a at *;generalize ms[e.2]'(by rw[hm];omega)=b at *
  have e1:ms.map (DQ a b)=(es.take (i+1)).foldl Hue.bring (So n):=by
   rw[<-JQ h1 h2,Tz,he,List.foldl_append,<-e0];rfl
  refine⟨_,rfl,_,rfl,_,_,c8 hk,j9 (v6 h1),_,rfl,_,rfl,_,_,c8 hk,j9 (v6 h2),⟨_,rfl,_,rfl,_,_,c8 hk,j9 (v6 h1),_,rfl,_,rfl,_,_,c8 hk,j9 (v6 h2),LV hΔ (Nb a b) (Nc a b) (by rw[hm];exact hn) hk ?_⟩⟩;exact⟨_,_,_,_,_,_,rfl,e1,by rw[Se,hm],G.push,e8⟩
 ·rintro ρ S' ⟨ms,k,o2,o3,o4,o5,rfl,e0,hm,G,hk⟩;rw[Se,Tp]at e0;exact Gz hΔ hn hm G hk λl ls S2 h1 h0 h2 h3 h4=>q l ls S2 h1 h0 (by rw[e0]at h2;exact h2) h3 h4
section
variable{n:Nat}{es:EE}{sd:Nat->Nat}{P0:List (Option Nat)}{starts:List Nat}{cm:Cm}
def AZ(es:EE)(p:Nat):Nat:=(B4 es p es.length).length
end
theorem Bz:∀(xs:List Nat),Cq (natS xs)=some (xs.map λ(i:Nat)=>(i:Int))
 | []=>rfl
 | x::xs=>by
   show(Cq (natS xs)).map (((x:Nat):Int)::·)=_;rw[Bz xs];rfl
section
variable{Δ:Nat->Sn}
def LZ(kt:Nat):List Stm:=[(.ret (.bi .len (.cons (.call kt (.cons (.var 0) (.cons (.var 1) .nil))) .nil)))]
def EQ(s:Sn):Prop:=∀{n p:Nat} {es:EE} {S:Sto} {Q:QE},es.length<=5000->p<n->(∀ S',Gw S S'->Q (.int (AZ es p)) S')->s [j3 n es,.int p] S Q
theorem Li{kt:Nat}(ht:D8 (Δ kt)){D:Df}(hb:D.body=LZ kt)(hN:D.N.length=2)(hp:D.ps.length=2):EQ (i9 Δ D):=by
 intro n p es S Q hel hpn q;unfold i9;rw[hb,hN];refine⟨hp.symm,_,rfl,_,rfl,ht hel hpn ⟨_,c8 e8,?_⟩⟩;have:=q _ ((Gw.refl S).push (o:=SO.lst (natS (B4 es p es.length))));rw[g7];exact this
end
end Rf
namespace Hue
end Hue
namespace Rf
open PySem L2
section
variable{Δ:Nat->Sn}
theorem DC(hΔ:∀ f,MonoN (Δ f)){e:Ex}{keep:Sto->Prop}{g:Tg}{ρ:EnvS}{Q:List SV->Sto->Prop}(f:Nat->Bool){xs:List SV}{S:Sto}(hl:xs.length<=1000)(hk:∀ S',Gw S S'->keep S')
 (hs:∀(i:Nat) (x:SV) (S':Sto),xs[i]?=some x->Gw S S'->wTg g x ρ λρ2=>(wEx Δ e).1 ρ2 S' λy S2=>y = .bl (f i)/\Gw S S2)
 (q:∀ S',Gw S S'->Q ((So xs.length).map λi => .bl (f i)) S'):Kk keep g (wEo Δ .no).2 (wEx Δ e).1 ρ Q xs [] S:=by
 refine g8 (j5 hΔ _).2 (c9 hΔ _).1 (λi ys S'=>Gw S S'/\ys=(So i).map λi => .bl (f i)) ⟨Gw.refl S,rfl⟩ (λ_ _ _ h=>hk _ h.1) ?_ ?_
 ·rintro i x ys S' hx ⟨G,rfl⟩;have hi:=(gM hx).1;refine y9 g (λρ2 h=>?_) (hs i x S' hx G);refine(c9 hΔ e).1 _ _ _ _ (λy S2 h=>⟨by rw[Se,U5];show _<100000;omega,h.2,?_⟩) h;rw[h.1,Ud,Sz];rfl
 ·rintro ys S' ⟨G,rfl⟩;exact q S' G
end
theorem HA(ns:List Int):(AO ns).Nodup:=by
 have go:∀(l:List Int) (n:Nat),(AO (l.take n)).Nodup:=λl n=>by
  induction n with
  | zero=>exact WX
  | succ n ih=>
    rw[Tz];cases h:l[n]? with
    | none=>rw[Option.toList_none,Tx];exact ih
    | some i=>
      rw[Option.toList_some,JJ];unfold PyProof.Rows.step_dedup;split
      ·exact ih
      ·rename_i z;refine Ug.mpr ⟨ih,by simp,λa ha b hb y=>?_⟩;rw[Sv.mp hb]at y;subst y;exact z (by simpa using ha)
 have:=go ns ns.length
 rwa [Tp]at this
section
variable{Δ:Nat->Sn}
def OR:List Stm:=[(.ret (.or (.cmp .In (.ix (.ix (.ix (.var 0) (.c (.int 1))) (.var 1)) (.c (.int 0))) (.ix (.ix (.var 0) (.c (.int 1))) (.var 2))) (.cmp .In (.ix (.ix (.ix (.var 0) (.c (.int 1))) (.var 1)) (.c (.int 1))) (.ix (.ix (.var 0) (.c (.int 1))) (.var 2)))))]
def Shr(es:EE)(t u:Nat):Prop:=∃ p,(p=(p4 es t).1\/p=(p4 es t).2)/\(p=(p4 es u).1\/p=(p4 es u).2)
def DD(s:Sn):Prop:=∀{n t u:Nat} {es:EE} {S:Sto} {Q:QE},t<es.length->u<es.length->(∀ v:Bool,(v=true↔Shr es t u)->Q (.bl v) S)->s [j3 n es,.int t,.int u] S Q
theorem Lj{D:Df}(hb:D.body=OR)(hN:D.N.length=3)(hp:D.ps.length=3):DD (i9 Δ D):=by
 intro n t u es S Q ht hu q;unfold i9;rw[hb,hN];have h1:atI (es.map pairS) (t:Int)=some (pairS (p4 es t)):=j9 (by rw[Sm,EO ht];rfl);have h2:atI (es.map pairS) (u:Int)=some (pairS (p4 es u)):=j9 (by rw[Sm,EO hu];rfl);refine⟨hp.symm,_,rfl,_,_,rfl,rfl,_,rfl,_,_,rfl,h1,_,.int ((p4 es t).1:Nat),rfl,rfl,_,rfl,_,_,rfl,rfl,_,rfl,_,_,rfl,h2,rfl,_,rfl,rfl,_,rfl,?_⟩;show if inS (.int (p4 es t).1) [.int (p4 es u).1,.int (p4 es u).2]=true then _ else _
 rw[EN];refine ifB (λz=>q true ⟨λ_=>?_,λ_=>rfl⟩) (λz=>?_)
 ·refine⟨(p4 es t).1,.inl rfl,?_⟩;simp only[Ti,dQ]at z;exact z.imp Eq.symm Eq.symm
 ·refine⟨_,rfl,_,_,rfl,rfl,_,rfl,_,_,rfl,h1,_,.int ((p4 es t).2:Nat),rfl,rfl,_,rfl,_,_,rfl,rfl,_,rfl,_,_,rfl,h2,rfl,_,rfl,rfl,?_⟩;show Q (.bl (inS (.int (p4 es t).2) [.int (p4 es u).1,.int (p4 es u).2])) S;rw[EN];refine q _ ⟨λz=>⟨(p4 es t).2,.inr rfl,?_⟩,?_⟩
  ·simp only[Ti,dQ]at z;exact z.imp Eq.symm Eq.symm
  ·rintro⟨p,rfl | rfl,h⟩
   ·simp only[Bool.or_eq_false_iff,decide_eq_false_iff_not]at z;exact absurd (h.imp Eq.symm Eq.symm) (not_or.mpr z)
   ·simp only[Ti,dQ];exact h.imp Eq.symm Eq.symm
theorem Gw.on{t:Nat}{S S':Sto}(G:Gw S S'):On t S S':=⟨G.len,λk o _ h=>G.keep k o h⟩
theorem Gw.tape{t:Nat}{S S':Sto}(G:Gw S S')(T:TapeS S t):TapeS S' t:=let ⟨a,b,h,c⟩:=T.ex;⟨a,b,G.keep _ _ h,c⟩
end
section
variable{Δ:Nat->Sn}
def Hy:List Stm:=[(.iff (.cmp .Eq (.var 0) (.var 1)) [.no] [])]
def DE(s:Sn):Prop:=∀{a b:Nat} {S:Sto} {Q:QE},a≠b->Q .non S->s [.int (a:Nat),.int (b:Nat)] S Q
theorem JS{D:Df}(hb:D.body=Hy)(hN:D.N.length=2)(hp:D.ps.length=2):DE (i9 Δ D):=by
 intro a b S Q ab q;unfold i9;rw[hb,hN];refine⟨hp.symm,_,rfl,_,rfl,_,rfl,?_⟩;exact ifF (decide_eq_false λz=>ab (Tt.mp z)) q
theorem Lk(cs:List Nat)(h:Nat):(cs.map λ(i:Nat)=>(i:Int)).count (h:Int)=cs.count h:=by
 rw[Wi,List.countP_map,Wi];refine List.countP_congr λx _=>?_;show(((x:Nat):Int) == (h:Int))=true↔(x == h)=true;rw[bQ,bQ];exact Tt
end
noncomputable def ym1(k:Nat):Stm:=(.iff (.bi .isi (.cons (.var 1) (.cons (.tup (.cons (.tyc .list) (.cons (.tyc .tuple) .nil))) .nil))) [(.iff (.or (.cmp .NotEq (.bi .isi (.cons (.var 0) (.cons (.tyc .list) .nil))) (.bi .isi (.cons (.var 1) (.cons (.tyc .list) .nil)))) (.cmp .NotEq (.bi .isi (.cons (.var 0) (.cons (.tyc .tuple) .nil))) (.bi .isi (.cons (.var 1) (.cons (.tyc .tuple) .nil))))) [(.ret (.c (.bl false)))] []),(.ret (.and (.cmp .Eq (.bi .len (.cons (.var 0) .nil)) (.bi .len (.cons (.var 1) .nil))) (.bi .all (.cons (.comp ["_law_one","_law_other"] [] [] (.tup (.cons (.nm 0) (.cons (.nm 1) .nil))) (.zip 0 1) .no (.call k (.cons (.var 0) (.cons (.var 1) .nil)))) .nil))))] [])
def Fk(s:Sn)(S:Sto)(x y:SV):Prop:=∀(S1:Sto) (Q:QE),Gw S S1->(∀ S2,Gw S S2->Gw S1 S2->Q (.bl true) S2)->s [x,y] S1 Q
theorem Ds{α β:Type}{f:α->β}{l:List α}(nd:l.Nodup)(inj:∀ a∈l,∀ b∈l,f a=f b->a=b):(l.map f).Nodup:=by
 rw[List.Nodup,Tu];exact List.Pairwise.imp_of_mem (λ{a b} ha hb ne e=>ne (inj a ha b hb e)) nd
section
variable{Δ:Nat->Sn}
noncomputable def Sa(kd:Nat):Stm:=(.asg (.nm 3) (.ix (.lst (.cons (.lst (.cons (.c (.int 0)) (.cons (.c (.int 1)) (.cons (.c (.int 2)) (.cons (.c (.int 3)) (.cons (.c (.int 4)) (.cons (.c (.int 5)) .nil))))))) (.cons (.lst (.cons (.c (.int 0)) (.cons (.c (.int 1)) (.cons (.c (.int 7)) (.cons (.c (.int 40)) .nil))))) (.cons (.lst (.cons (.c (.int 2)) (.cons (.c (.int 0)) (.cons (.c (.int 1)) (.cons (.c (.int 5)) (.cons (.c (.int 9)) .nil)))))) (.cons (.lst (.cons (.c (.int 99)) (.cons (.c (.int 3)) (.cons (.c (.int 0)) (.cons (.c (.int 11)) (.cons (.c (.int 4)) (.cons (.c (.int 2)) .nil))))))) .nil))))) (.call kd (.cons (.var 0) (.cons (.c (.int 4)) .nil)))))
def ih6(km:Nat):Stm:=(.asg (.nm 6) (.comp ["_law_k"] ["_law_web_here","_law_tie","_law_found"] [1,5,4] (.nm 0) (.rng1 (.var 5)) (.yes (.call km (.cons (.var 1) (.cons (.var 0) (.cons (.var 2) .nil))))) (.ix (.var 3) (.var 0))))
def ih7:Stm:=(.asg (.nm 7) (.comp ["_law_hue"] ["_law_taken"] [6] (.nm 0) (.seq (.op .Add (.var 3) (.lrng2 (.c (.int 100)) (.op .Add (.op .Add (.c (.int 100)) (.bi .len (.cons (.var 6) .nil))) (.c (.int 1)))))) (.yes (.cmp .NotIn (.var 0) (.var 1))) (.var 0)))
def ih8(kd:Nat):Stm:=(.asg (.nm 8) (.ix (.var 7) (.call kd (.cons (.var 0) (.cons (.bi .min (.cons (.c (.int 2)) (.cons (.bi .len (.cons (.var 7) .nil)) .nil))) .nil)))))
def ih9(kd:Nat):Stm:=(.expr (.mt .append (.var 4) (.cons (.ix (.lst (.cons (.var 8) (.cons (.c .non) .nil))) (.bi .int (.cons (.and (.var 2) (.cmp .Eq (.call kd (.cons (.var 0) (.cons (.c (.int 4)) .nil))) (.c (.int 0)))) .nil))) .nil)))
noncomputable def OS(kd km:Nat):List Stm:=[Sa kd,(.asg (.nm 4) (.lst .nil)),(.loop (.nm 5) (.rng1 (.bi .len (.cons (.ix (.var 1) (.c (.int 1))) .nil))) [ih6 km,ih7,ih8 kd,ih9 kd]),(.ret (.var 4))]
def someL:Nat->List Nat
 | 0=>[0,1,2,3,4,5] | 1=>[0,1,7,40] | 2=>[2,0,1,5,9] | _=>[99,3,0,11,4,2]
theorem Nf(r:Nat):(someL r).length<=6/\∀ h∈someL r,h<200:=by
 unfold someL;split<;>exact⟨by decide,by decide⟩
theorem Ll(lo k:Nat):Ap lo (lo+k:Nat)=natS ((So k).map (lo+·)):=by
 unfold Ap natS;rw[show(((lo+k:Nat):Int) - (lo:Nat)).toNat=k by omega,TX];refine UP λi _=>?_;show SV.int ((lo:Int)+i)=SV.int ((lo+i:Nat):Int);rw[Int.natCast_add]
end
structure Rows0(g:Nat->Nat)(ts:List Nat)(R:List (List Nat)):Prop where
 ne:∀ r∈R,r≠[]
 up:∀ r∈R,r.Pairwise (·<·)
 cov:∀ t∈ts,∃ r∈R,t∈r
 mem:∀ r∈R,∀ t∈r,t∈ts/\∀ u,u∈r↔u∈ts/\g u=g t
 nd:(R.map λr=>r.headD 0).Nodup
structure Rows(g:Nat->Nat)(ts:List Nat)(R:List (List Nat)):Prop extends Rows0 g ts R where
 hd:(R.map λr=>r.headD 0).Pairwise (·<=·)
theorem Lm{r s:List Nat}(hr:r.Pairwise (·<·))(hs:s.Pairwise (·<·))(h:∀ u,u∈r↔u∈s):r=s:=
 List.Perm.eq_of_pairwise (le:=λa b:Nat=>a<=b) (λ_ _ _ _ a b=>VX a b) (hr.imp U7) (hs.imp U7) ((V5 (hr.imp Sx) (hs.imp Sx)).mpr h)
theorem Rows0.sub{g:Nat->Nat}{ts:List Nat}{R R':List (List Nat)}(a:Rows0 g ts R)(b:Rows0 g ts R'):∀ r∈R,r∈R':=λr hr=>by
 obtain⟨t,ht⟩:=V9 r (a.ne r hr);obtain⟨t1,m1⟩:=a.mem r hr t ht;obtain⟨s,hs,hts⟩:=b.cov t t1;have m2:=(b.mem s hs t hts).2;rw[Lm (a.up r hr) (b.up s hs) λu=>(m1 u).trans (m2 u).symm];exact hs
theorem BU{r:List Nat}(h:r≠[]):r.headD 0∈r:=by
 cases r with
 | nil=>exact absurd rfl h
 | cons x r=>exact TJ
theorem Rows.uniq{g:Nat->Nat}{ts:List Nat}{R R':List (List Nat)}(a:Rows g ts R)(b:Rows g ts R'):R=R':=by
 have na:R.Nodup:=(Tu.mp a.nd).imp λh z=>h (by rw[z]);have nb:R'.Nodup:=(Tu.mp b.nd).imp λh z=>h (by rw[z]);refine List.Perm.eq_of_pairwise (le:=λr s:List Nat=>r.headD 0<=s.headD 0) (λr s hr hs h1 h2=>?_) (Tu.mp a.hd) (Tu.mp b.hd) ((V5 na nb).mpr λr=>⟨a.toRows0.sub b.toRows0 r,b.toRows0.sub a.toRows0 r⟩);have hs':=b.toRows0.sub a.toRows0 s hs;have e:=VX h1 h2;have m1:=(a.mem r hr _ (BU (a.ne r hr))).2;have m2:=(a.mem s hs' _ (BU (a.ne s hs'))).2;rw[e]at m1;exact Lm (a.up r hr) (a.up s hs') λu=>(m1 u).trans (m2 u).symm
theorem Rows0.sort{g:Nat->Nat}{ts:List Nat}{R R':List (List Nat)}(a:Rows0 g ts R)(p:R'.Perm R)(h:(R'.map λr=>r.headD 0).Pairwise (·<=·)):Rows g ts R':=
 ⟨⟨λr hr=>a.ne r (p.mem_iff.mp hr),λr hr=>a.up r (p.mem_iff.mp hr),λt ht=>let ⟨r,hr,z⟩:=a.cov t ht;⟨r,p.mem_iff.mpr hr,z⟩,λr hr=>a.mem r (p.mem_iff.mp hr),(p.map _).nodup_iff.mpr a.nd⟩,h⟩
def wbT(es:EE)(ts:List Nat):EE:=ts.map λt=>es.getD t (0,0)
def grp(n:Nat)(es:EE)(ts:List Nat)(t:Nat):Nat:=Hue.mk n (wbT es ts) (es.getD t (0,0)).1
theorem CK{es:EE}{n:Nat}(hen:∀ e∈es,e.1<e.2/\e.2<n){t:Nat}(ht:t<es.length):(es.getD t (0,0)).1<(es.getD t (0,0)).2/\(es.getD t (0,0)).2<n:=by
 rw[Sy,Si ht];exact hen _ (U0 ht)
theorem Fl{es:EE}{n:Nat}(hen:∀ e∈es,e.1<e.2/\e.2<n){ts:List Nat}(hts:∀ t∈ts,t<es.length):∀ e∈wbT es ts,e.1<e.2/\e.2<n:=λe he=>by
 obtain⟨t,ht,rfl⟩:=TR.mp he;exact CK hen (hts t ht)
theorem hn2{es:EE}{n:Nat}(h:∀ e∈es,e.1<e.2/\e.2<n):∀ e∈es,e.1<n/\e.2<n:=λe he=>⟨VP (h e he).1 (h e he).2,(h e he).2⟩
theorem Fm{E:EE}{e:Nat×Nat}{n p q:Nat}(hE:∀ e∈E,e.1<n/\e.2<n)(he:e.1<n/\e.2<n)(hp:p<n)(hq:q<n):
 Hue.mk n (E++[e]) p=Hue.mk n (E++[e]) q↔Hue.mk n E p=Hue.mk n E q\/((Hue.mk n E p=Hue.mk n E e.1\/Hue.mk n E p=Hue.mk n E e.2)/\(Hue.mk n E q=Hue.mk n E e.1\/Hue.mk n E q=Hue.mk n E e.2)):=by
 have hE':∀ x∈E++[e],x.1<n/\x.2<n:=λx hx=>(TK.mp hx).elim (hE x) λz=>by rw[Sv.mp z];exact he
 have more:∀{x y:Nat},x<n->y<n->Hue.mk n E x=Hue.mk n E y->Hue.mk n (E++[e]) x=Hue.mk n (E++[e]) y:=λ{x y} hx hy h=>
  ((Hue.mk_same hE (C:=λz=>Hue.mk n (E++[e]) z=Hue.mk n (E++[e]) x) (λd hd=>by dsimp only;rw[Hue.mk_ends hE' d (UJ _ hd)]) hx hy h).mp rfl).symm
 have me:=Hue.mk_ends hE' e (TF _ (.head _));constructor
 ·intro h;refine(Hue.mk_same hE' (C:=λz=>Hue.mk n E p=Hue.mk n E z\/((Hue.mk n E p=Hue.mk n E e.1\/Hue.mk n E p=Hue.mk n E e.2)/\(Hue.mk n E z=Hue.mk n E e.1\/Hue.mk n E z=Hue.mk n E e.2))) (λd hd=>?_) hp hq h).mp (.inl rfl);rcases TK.mp hd with hd | hd
  ·dsimp only;rw[Hue.mk_ends hE d hd]
  ·rw[Sv.mp hd];constructor
   ·rintro(z | z)
    ·exact .inr ⟨.inl z,.inr rfl⟩
    ·exact .inr ⟨z.1,.inr rfl⟩
   ·rintro(z | z)
    ·exact .inr ⟨.inr z,.inl rfl⟩
    ·exact .inr ⟨z.1,.inl rfl⟩
 ·have one:∀{x:Nat},x<n->(Hue.mk n E x=Hue.mk n E e.1\/Hue.mk n E x=Hue.mk n E e.2)->Hue.mk n (E++[e]) x=Hue.mk n (E++[e]) e.1:=λ{x} hx h=>h.elim (more hx he.1) λz=>(more hx he.2 z).trans me.symm;rintro(h | ⟨h1,h2⟩)
  ·exact more hp hq h
  ·rw[one hp h1,one hq h2]
section
variable{es:EE}{n:Nat}{ts:List Nat}(hen:∀ e∈es,e.1<e.2/\e.2<n)(hts:∀ t∈ts,t<es.length)
include hen hts
theorem BK{t:Nat}(ht:t∈ts):Hue.mk n (wbT es ts) (es.getD t (0,0)).2=grp n es ts t:=(Hue.mk_ends (hn2 (Fl hen hts)) _ (TZ ht)).symm
theorem Ln{p t:Nat}(hp:p<n)(ht:t∈ts)(h:Hue.mk n (wbT es ts) p=grp n es ts t):∃ u∈ts,((es.getD u (0,0)).1=p\/(es.getD u (0,0)).2=p)/\grp n es ts u=grp n es ts t:=by
 have hw:=hn2 (Fl hen hts);have e0:=CK hen (hts t ht);by_cases z:∃ u∈ts,(es.getD u (0,0)).1=p\/(es.getD u (0,0)).2=p
 ·obtain⟨u,hu,hz⟩:=z;refine⟨u,hu,hz,?_⟩;rcases hz with hz | hz
  ·rw[<-h,<-hz];rfl
  ·rw[<-BK hen hts hu,hz,h]
 ·exfalso
  have cl:Hue.Cl (wbT es ts) λq=>q=p:=λe he=>by
   obtain⟨u,hu,rfl⟩:=TR.mp he;exact⟨λa=>absurd ⟨u,hu,.inl a⟩ z,λa=>absurd ⟨u,hu,.inr a⟩ z⟩
  have:=(Hue.mk_same hw cl (p:=(es.getD t (0,0)).1) (q:=p) (by omega) hp h.symm).mpr rfl;exact z ⟨t,ht,.inl this⟩
theorem Dt{t:Nat}{R:List (List Nat)}{nr:List Nat->Bool}{J:List Nat}(I:Rows0 (grp n es ts) ts R)(ht:t<es.length)(hup:∀ u∈ts,u<t)(hn:∀ r∈R,(nr r=true↔∃ u∈r,Shr es t u))(hJ:J.Perm (t::(R.filter nr).flatten))(sJ:J.Pairwise (·<=·)):
 Rows0 (grp n es (ts++[t])) (ts++[t]) ((R.filter λr=>!nr r)++[J]):=by
 have hw:=hn2 (Fl hen hts);have e0:=CK hen ht;have lt1:∀ u∈ts,(es.getD u (0,0)).1<n:=λu hu=>by have:=CK hen (hts u hu);omega
 have hG:∀ u,u∈ts->∀ v,v∈ts->(grp n es (ts++[t]) u=grp n es (ts++[t]) v↔grp n es ts u=grp n es ts v\/((grp n es ts u=Hue.mk n (wbT es ts) (es.getD t (0,0)).1\/grp n es ts u=Hue.mk n (wbT es ts) (es.getD t (0,0)).2)/\(grp n es ts v=Hue.mk n (wbT es ts) (es.getD t (0,0)).1\/grp n es ts v=Hue.mk n (wbT es ts) (es.getD t (0,0)).2))):=λu hu v hv=>by
  have e:wbT es (ts++[t])=wbT es ts++[es.getD t (0,0)]:=by unfold wbT;rw[Sz];rfl
  unfold grp;rw[e];exact Fm hw ⟨by omega,by omega⟩ (lt1 u hu) (lt1 v hv)
 have hT:∀ u,u∈ts->(grp n es (ts++[t]) u=grp n es (ts++[t]) t↔(grp n es ts u=Hue.mk n (wbT es ts) (es.getD t (0,0)).1\/grp n es ts u=Hue.mk n (wbT es ts) (es.getD t (0,0)).2)):=λu hu=>by
  have e:wbT es (ts++[t])=wbT es ts++[es.getD t (0,0)]:=by unfold wbT;rw[Sz];rfl
  unfold grp;rw[e];refine(Fm hw ⟨by omega,by omega⟩ (lt1 u hu) (by omega)).trans ⟨λh=>h.elim .inl λh=>h.1,λh => .inr ⟨h,.inl rfl⟩⟩
 have near:∀ r∈R,∀ u∈r,(nr r=true↔(grp n es ts u=Hue.mk n (wbT es ts) (es.getD t (0,0)).1\/grp n es ts u=Hue.mk n (wbT es ts) (es.getD t (0,0)).2)):=λr hr u hu=>by
  rw[hn r hr];obtain⟨u1,um⟩:=I.mem r hr u hu;constructor
  ·rintro⟨v,hv,p,h1,h2⟩;obtain⟨v1,ve⟩:=(um v).mp hv
   have gv:grp n es ts v=Hue.mk n (wbT es ts) p:=by
    rcases h2 with h2 | h2
    ·rw[h2];rfl
    ·rw[h2];exact(BK hen hts v1).symm
   rw[<-ve,gv];rcases h1 with h1 | h1
   ·exact .inl (by rw[h1];rfl)
   ·exact .inr (by rw[h1];rfl)
  ·rintro(h | h)
   ·obtain⟨v,hv,hz,hg⟩:=Ln hen hts (p:=(es.getD t (0,0)).1) (by omega) u1 h.symm;exact⟨v,(um v).mpr ⟨hv,hg⟩,_,.inl rfl,hz.imp Eq.symm Eq.symm⟩
   ·obtain⟨v,hv,hz,hg⟩:=Ln hen hts (p:=(es.getD t (0,0)).2) (by omega) u1 h.symm;exact⟨v,(um v).mpr ⟨hv,hg⟩,_,.inr rfl,hz.imp Eq.symm Eq.symm⟩
 have tn:t∉ts:=λz=>UQ _ (hup t z)
 have inJ:∀ u,u∈J↔u=t\/(u∈ts/\(grp n es ts u=Hue.mk n (wbT es ts) (es.getD t (0,0)).1\/grp n es ts u=Hue.mk n (wbT es ts) (es.getD t (0,0)).2)):=λu=>by
  rw[hJ.mem_iff,T7,WC];refine or_congr Iff.rfl ⟨λ⟨r,hr,hu⟩=>?_,λ⟨h1,h2⟩=>?_⟩
  ·obtain⟨hr,hz⟩:=TL.mp hr;exact⟨(I.mem r hr u hu).1,(near r hr u hu).mp hz⟩
  ·obtain⟨r,hr,hu⟩:=I.cov u h1;exact⟨r,TL.mpr ⟨hr,(near r hr u hu).mpr h2⟩,hu⟩
 have far:∀ r∈R.filter (λr=>!nr r),r∈R/\∀ u∈r,¬ (grp n es ts u=Hue.mk n (wbT es ts) (es.getD t (0,0)).1\/grp n es ts u=Hue.mk n (wbT es ts) (es.getD t (0,0)).2):=λr hr=>by
  obtain⟨hr,hz⟩:=TL.mp hr;refine⟨hr,λu hu z=>?_⟩;rw[(near r hr u hu).mpr z]at hz;cases hz
 have ndJ:J.Nodup:=by
  refine hJ.nodup_iff.mpr (UV.mpr ⟨λz=>?_,?_⟩)
  ·obtain⟨r,hr,hu⟩:=WC.mp z;exact tn (I.mem r (TL.mp hr).1 t hu).1
  ·refine List.pairwise_flatten.mpr ⟨λr hr=>(I.up r (TL.mp hr).1).imp Sx,?_⟩;refine List.Pairwise.filter _ ?_;refine List.Pairwise.imp_of_mem ?_ (Tu.mp I.nd);intro r s hr hs hne u hu v hv z;subst z;have m1:=(I.mem r hr u hu).2;have m2:=(I.mem s hs u hv).2;exact hne (by rw[Lm (I.up r hr) (I.up s hs) λw=>(m1 w).trans (m2 w).symm])
 refine⟨λr hr=>?_,λr hr=>?_,λu hu=>?_,λr hr u hu=>?_,?_⟩
 ·rcases TK.mp hr with hr | hr
  ·exact I.ne r (far r hr).1
  ·rw[Sv.mp hr];exact λz=>by have:=(inJ t).mpr (.inl rfl);rw[z]at this;cases this
 ·rcases TK.mp hr with hr | hr
  ·exact I.up r (far r hr).1
  ·rw[Sv.mp hr];exact List.Pairwise.imp₂ (λa b h1 h2=>Vi h1 h2) sJ ndJ
 ·by_cases z:u∈J
  ·exact⟨J,TF _ (.head _),z⟩
  ·rcases TK.mp hu with hu | hu
   ·obtain⟨r,hr,hru⟩:=I.cov u hu;refine⟨r,UJ _ (TL.mpr ⟨hr,?_⟩),hru⟩;cases hz:nr r with
    | false=>rfl
    | true=>exact absurd ((inJ u).mpr (.inr ⟨hu,(near r hr u hru).mp hz⟩)) z
   ·exact absurd ((inJ u).mpr (.inl (Sv.mp hu))) z
 ·rcases TK.mp hr with hr | hr
  ·obtain⟨hr,hf⟩:=far r hr;obtain⟨u1,um⟩:=I.mem r hr u hu;refine⟨UJ _ u1,λv=>(um v).trans ⟨λ⟨a,b⟩=>⟨UJ _ a,(hG v a u u1).mpr (.inl b)⟩,λ⟨a,b⟩=>?_⟩⟩;rcases TK.mp a with a | a
   ·exact⟨a,((hG v a u u1).mp b).elim id λz=>absurd z.2 (hf u hu)⟩
   ·rw[Sv.mp a]at b;exact absurd ((hT u u1).mp b.symm) (hf u hu)
  ·rw[Sv.mp hr]at hu ⊢
   have gt:∀ v,v∈J↔v∈ts++[t]/\grp n es (ts++[t]) v=grp n es (ts++[t]) t:=λv=>by
    rw[inJ,TK,Sv];constructor
    ·rintro(h | ⟨h1,h2⟩)
     ·exact⟨.inr h,by rw[h]⟩
     ·exact⟨.inl h1,(hT v h1).mpr h2⟩
    ·rintro⟨h1 | h1,h2⟩
     ·exact .inr ⟨h1,(hT v h1).mp h2⟩
     ·exact .inl h1
   have hu':=(gt u).mp hu;exact⟨hu'.1,λv=>by rw[hu'.2];exact gt v⟩
 ·rw[Sz,Ug];refine⟨I.nd.sublist (List.Sublist.map _ List.filter_sublist),by simp,λa ha b hb=>?_⟩;obtain⟨r,hr,rfl⟩:=TR.mp ha;obtain⟨hr,hf⟩:=far r hr;have hh:=BU (I.ne r hr);have e:b=J.headD 0:=by simpa using hb
  rw[e];intro z;have hJn:J≠[]:=λz=>by have:=(inJ t).mpr (.inl rfl);rw[z]at this;cases this
  have hj:=BU hJn;rw[<-z]at hj;rcases(inJ _).mp hj with y | ⟨_,y⟩
  ·exact tn (y▸(I.mem r hr _ hh).1)
  ·exact hf _ hh y
end
def m9(n:Nat)(es:EE)(ts:List Nat)(f:Nat):List Nat:=ts.filter λt=>decide (grp n es ts t=f)
def Fn(n:Nat)(es:EE)(ts:List Nat):List (List Nat):=((t7 (Hue.mk n (wbT es ts)) n).map (m9 n es ts)).filter λr=>!r.isEmpty
def u9(es:EE)(r:List Nat):List Nat:=r.flatMap λt=>[(p4 es t).1,(p4 es t).2]
def CL(es:EE)(r:List Nat):Bool:=(u9 es r).all λp=>decide ((u9 es r).count p=2)
def tAt(es:EE)(p t:Nat):Bool:=decide ((p4 es t).1=p)||decide ((p4 es t).2=p)
theorem row_mem{n:Nat}{es:EE}{ts:List Nat}{f t:Nat}:t∈m9 n es ts f↔t∈ts/\grp n es ts t=f:=by unfold m9;rw[TL,dQ]
theorem DF{es:EE}{p:Nat}:∀{r:List Nat},(∀ t∈r,(p4 es t).1<(p4 es t).2)->(u9 es r).count p=(r.filter (tAt es p)).length
 | [],_=>rfl
 | t::r,h=>by
   have ih:=DF (p:=p) (r:=r) λu hu=>h u (T8 _ hu);have h0:=h t TJ;have e:u9 es (t::r)=(p4 es t).1::(p4 es t).2::u9 es r:=rfl;rw[e,VW,VW,ih,US];unfold tAt;by_cases a:(p4 es t).1=p
   ·have b:¬ (p4 es t).2=p:=λz=>by omega
    simp[a,b]
   ·by_cases b:(p4 es t).2=p
    ·simp[a,b]
    ·simp[a,b]
theorem held_mem{es:EE}{r:List Nat}{p:Nat}:p∈u9 es r↔∃ t∈r,(p4 es t).1=p\/(p4 es t).2=p:=by
 unfold u9;rw[List.mem_flatMap];exact exists_congr λt=>and_congr Iff.rfl (by simp[eq_comm])
theorem Du{E:EE}{p:Nat}:∀ i,i<=E.length->(B4 E p i).length=((E.take i).filter λe=>decide (e.1=p)||decide (e.2=p)).length
 | 0,_=>rfl
 | i+1,h=>by
   have he:=Si (show i<E.length from h);rw[BH E p i he,Sl,Du i (Vo h),Tz,he,UU,Sl]
   congr 1
   show _=(Vd _ [E[i]]).length;rw[US];split<;>rfl
theorem QN{es:EE}{ts:List Nat}{p:Nat}:AZ (wbT es ts) p=(ts.filter (tAt es p)).length:=by
 unfold AZ;rw[Du _ (Sw _),Tp];unfold wbT;rw[Ux,Se];rfl
section
variable{es:EE}{n:Nat}{ts:List Nat}(hen:∀ e∈es,e.1<e.2/\e.2<n)(hts:∀ t∈ts,t<es.length)
include hen hts
theorem JT(up:ts.Pairwise (·<·)):Rows0 (grp n es ts) ts (Fn n es ts):=by
 have hw:=hn2 (Fl hen hts)
 have m0:∀{r:List Nat},r∈Fn n es ts->∃ f,f∈t7 (Hue.mk n (wbT es ts)) n/\r=m9 n es ts f/\r≠[]:=λ{r} hr=>by
  obtain⟨h1,h2⟩:=TL.mp hr;obtain⟨f,hf,e⟩:=TR.mp h1;exact⟨f,hf,e.symm,λz=>by rw[z]at h2;cases h2⟩
 refine⟨λr hr=>(m0 hr).choose_spec.2.2,λr hr=>?_,λt ht=>?_,λr hr t ht=>?_,?_⟩
 ·obtain⟨f,_,rfl,_⟩:=m0 hr;exact up.filter _
 ·have e0:=CK hen (hts t ht);have mem:=row_mem.mpr (⟨ht,rfl⟩:t∈ts/\grp n es ts t=grp n es ts t);refine⟨m9 n es ts (grp n es ts t),TL.mpr ⟨TZ (TL.mpr ⟨TH.mpr (Hue.mk_lt hw (by omega)),decide_eq_true (Hue.mk_mk hw (by omega))⟩),?_⟩,mem⟩;cases h:m9 n es ts (grp n es ts t) with
  | nil=>rw[h]at mem;cases mem
  | cons _ _=>rfl
 ·obtain⟨f,_,rfl,_⟩:=m0 hr;obtain⟨a,b⟩:=row_mem.mp ht;exact⟨a,λu=>by rw[b];exact row_mem⟩
 ·have nr:(t7 (Hue.mk n (wbT es ts)) n).Nodup:=WD.filter _;unfold Fn;rw[Ux];rw[TX];refine Tu.mpr ((nr.filter _).imp_of_mem ?_);intro f f' hf hf' hne z
  have one:∀{g:Nat},g∈(t7 (Hue.mk n (wbT es ts)) n).filter ((λr=>!r.isEmpty)∘m9 n es ts)->grp n es ts ((m9 n es ts g).headD 0)=g:=λ{g} hg=>by
   have h2:(!(m9 n es ts g).isEmpty)=true:=(TL.mp hg).2;have h3:m9 n es ts g≠[]:=λz=>by rw[z]at h2;cases h2
   exact(row_mem.mp (BU h3)).2
  have z':(m9 n es ts f).headD 0=(m9 n es ts f').headD 0:=z;exact hne (by rw[<-one hf,<-one hf',z'])
theorem Lo{f:Nat}(hne:m9 n es ts f≠[]):(∀ p∈B6 (Hue.mk n (wbT es ts)) n f,AZ (wbT es ts) p=2)↔CL es (m9 n es ts f)=true:=by
 have lt:∀ t∈m9 n es ts f,(p4 es t).1<(p4 es t).2:=λt ht=>(CK hen (hts t (row_mem.mp ht).1)).1
 have cnt:∀ p,Hue.mk n (wbT es ts) p=f->AZ (wbT es ts) p=(u9 es (m9 n es ts f)).count p:=λp hp=>by
  rw[QN,DF lt];unfold m9;rw[List.filter_filter]
  congr 1
  refine VD λt ht=>?_;by_cases z:tAt es p t=true
  ·have:grp n es ts t=f:=by
    unfold tAt at z;rw[Ti,dQ,dQ]at z;rcases z with z | z
    ·rw[<-hp,<-z];rfl
    ·rw[<-BK hen hts ht,<-hp,<-z];rfl
   rw[z,this];simp
  ·rw[Bool.eq_false_iff.mpr z];rfl
 have mark:∀ p∈u9 es (m9 n es ts f),p<n/\Hue.mk n (wbT es ts) p=f:=λp hp=>by
  obtain⟨t,ht,z⟩:=held_mem.mp hp;obtain⟨t1,t2⟩:=row_mem.mp ht;have e0:=CK hen (hts t t1);rcases z with z | z
  ·rw[<-z];exact⟨by show(es.getD t (0,0)).1<n;omega,t2⟩
  ·rw[<-z];exact⟨e0.2,(BK hen hts t1).trans t2⟩
 unfold CL;rw[T9];constructor
 ·intro h p hp;obtain⟨p1,p2⟩:=mark p hp;rw[dQ,<-cnt p p2];exact h p (TL.mpr ⟨TH.mpr p1,decide_eq_true p2⟩)
 ·intro h p hp;obtain⟨p1,p2⟩:=TL.mp hp;have p2:Hue.mk n (wbT es ts) p=f:=of_decide_eq_true p2;obtain⟨t,ht⟩:=V9 _ hne;obtain⟨t1,t2⟩:=row_mem.mp ht;obtain⟨u,hu,hz,hg⟩:=Ln hen hts (TH.mp p1) t1 (p2.trans t2.symm);rw[cnt p p2];exact of_decide_eq_true (h p (held_mem.mpr ⟨u,row_mem.mpr ⟨hu,hg.trans t2⟩,hz⟩))
end
theorem ER{α:Type}{d:α}(P:α->Bool):∀ l:List α,((So l.length).filter λi=>P (l.getD i d)).map (λi=>l.getD i d)=l.filter P:=λl=>by
 have e:(So l.length).map (λi=>l.getD i d)=l:=by
  apply VI
  ·simp
  ·intro i h1 h2;simp[Si h2]
 conv=>rhs;rw[<-e,Ux]
 rfl
def inL(A:List Nat)(E:EE):List Nat:=(So E.length).filter λi=>decide ((E.getD i (0,0)).1∈A)&&decide ((E.getD i (0,0)).2∈A)
section
variable{es:EE}{n:Nat}{ts:List Nat}(hen:∀ e∈es,e.1<e.2/\e.2<n)(hts:∀ t∈ts,t<es.length)
include hen hts
theorem QO(f:Nat):(inL (B6 (Hue.mk n (wbT es ts)) n f) (wbT es ts)).map (λi=>ts.getD i 0)=m9 n es ts f:=by
 have wl:(wbT es ts).length=ts.length:=Se _;unfold inL m9;rw[wl,<-ER (d:=0) (λt=>decide (grp n es ts t=f)) ts]
 congr 1
 refine VD λi hi=>?_;have hi:=TH.mp hi;have g0:ts.getD i 0=ts[i]:=by rw[Sy,Si hi];rfl
 have g1:(wbT es ts).getD i (0,0)=es.getD ts[i] (0,0):=by
  rw[Sy];unfold wbT;rw[Sm,Si hi];rfl
 have m:=U0 hi;have e0:=CK hen (hts _ m);rw[g0,g1]
 have c:∀ p,p<n->(p∈B6 (Hue.mk n (wbT es ts)) n f↔Hue.mk n (wbT es ts) p=f):=λp hp=>by
  unfold B6;rw[TL,TH,dQ];exact and_iff_right hp
 rw[Ta,Sf,dQ,dQ,dQ,c _ (by omega),c _ (by omega),BK hen hts m];exact⟨λh=>h.1,λh=>⟨h,h⟩⟩
end
section
variable{Δ:Nat->Sn}
def Lp:List Stm:=[(.asg (.nm 2) (.setl (.var 1))),(.ret (.comp ["tie","one","other"] ["among"] [2] (.tup (.cons (.nm 0) (.cons (.tup (.cons (.nm 1) (.cons (.nm 2) .nil))) .nil))) (.enum (.ix (.var 0) (.c (.int 1)))) (.yes (.and (.cmp .In (.var 1) (.var 3)) (.cmp .In (.var 2) (.var 3)))) (.var 0)))]
def CZ(s:Sn):Prop:=∀{n k:Nat} {es:EE} {A:List Nat} {S:Sto} {Q:QE},S[k]?=some (.lst (natS A))->es.length<=1000->A.length<=900->(∀(l:Nat) (S':Sto),Gw S S'->S.length<=l->S'[l]?=some (.lst (natS (inL A es)))->Q (.loc l) S')->s [j3 n es,.loc k] S Q
theorem DG(A:List Nat):natS A=(A.map λ(a:Nat)=>(a:Int)).map SV.int:=by unfold natS;rw[TX];rfl
theorem Fo(A:List Nat)(a:Nat):decide ((a:Int)∈AO (A.map λ(a:Nat)=>(a:Int)))=decide (a∈A):=by
 rw[decide_eq_decide];refine(An _ _).trans ?_;rw[TR];exact⟨λ⟨x,hx,e⟩=>by rw[<-Tt.mp e];exact hx,λh=>⟨a,h,rfl⟩⟩
theorem Lq{A:List Nat}{es:EE}{i:Nat}{e:Nat×Nat}(h:es[i]?=some e):((So (i+1)).filter λi=>decide ((es.getD i (0,0)).1∈A)&&decide ((es.getD i (0,0)).2∈A))=((So i).filter λi=>decide ((es.getD i (0,0)).1∈A)&&decide ((es.getD i (0,0)).2∈A))++if (decide (e.1∈A)&&decide (e.2∈A))=true then [i] else []:=by
 rw[By];have:es.getD i (0,0)=e:=by rw[Sy,h];rfl
 rw[this]
theorem Lr(hΔ:∀ f,MonoN (Δ f)){D:Df}(hb:D.body=Lp)(hN:D.N.length=3)(hp:D.ps.length=2):CZ (i9 Δ D):=by
 intro n k es A S Q hk hl hA q;unfold i9;rw[hb,hN];refine⟨hp.symm,_,rfl,_,_,c8 hk,Bz A,by rw[Se];exact hA,_,rfl,_,_,rfl,rfl,_,rfl,?_⟩;have hs:(S++[SO.iset (AO (A.map λ(a:Nat)=>(a:Int)))])[S.length]?=some (.iset (AO (A.map λ(a:Nat)=>(a:Int)))):=e8;have G1:Gw S (S++[SO.iset (AO (A.map λ(a:Nat)=>(a:Int)))]):=(Gw.refl S).push;have ln:=G1.len;dsimp only[List.set];generalize S.length=m at *;generalize S++[SO.iset (AO (A.map λ(a:Nat)=>(a:Int)))]=S1 at *;refine g8 (j5 hΔ _).2 (c9 hΔ _).1 (λi ys S'=>S'=S1/\ys=natS ((So i).filter λi=>decide ((es.getD i (0,0)).1∈A)&&decide ((es.getD i (0,0)).2∈A))) ⟨rfl,rfl⟩ (λ_ _ _ _=>trivial) ?_ ?_
 ·rintro i x ys S' hx ⟨rfl,rfl⟩;obtain⟨y,hy',rfl⟩:=Gr hx;obtain⟨e,he,rfl⟩:=D9 hy';have hi:=(gM he).1;have fl:=v9 (λi=>decide ((es.getD i (0,0)).1∈A)&&decide ((es.getD i (0,0)).2∈A)) i;have fs:=Lq (A:=A) he;refine⟨_,rfl,_,rfl,?_⟩;show match BZ (.loc m) S' with | some ms=>_ | none=>_
  rw[FS hs];refine⟨_,rfl,rfl,_,rfl,?_⟩;show if decide ((e.1:Int)∈AO (A.map λ(a:Nat)=>(a:Int)))=true then _ else _
  rw[Fo];refine ifD (λz1=>⟨_,rfl,_,rfl,?_⟩) (λz1=>ifF rfl ⟨rfl,by rw[fs,decide_eq_false z1,WN];simp⟩);show match BZ (.loc m) S' with | some ms=>_ | none=>_
  rw[FS hs];refine⟨_,rfl,rfl,_,rfl,?_⟩;show if decide ((e.2:Int)∈AO (A.map λ(a:Nat)=>(a:Int)))=true then _ else _
  rw[Fo];refine ifD (λz2=>⟨_,rfl,by rw[g7];show _<100000;omega,rfl,by rw[fs,decide_eq_true z1,decide_eq_true z2,t6];rfl⟩) (λz2=>⟨rfl,by rw[fs,decide_eq_false z2,VY];simp⟩)
 ·rintro ys S' ⟨rfl,rfl⟩;rw[EM,Se];exact q _ _ G1.push ln e8
def OT(kc:Nat):List Stm:=[(.ret (.ife (.bi .all (.cons (.comp ["place"] ["web"] [0] (.nm 0) (.seq (.var 1)) .no (.cmp .Eq (.call kc (.cons (.var 1) (.cons (.var 0) .nil))) (.c (.int 2)))) .nil)) (.c (.str "ring")) (.c (.str "open"))))]
def Hz(b:Bool):Str:=if b=true then "ring" else "open"
def ES(s:Sn):Prop:=∀{n k:Nat} {es:EE} {A:List Nat} {S:Sto} {Q:QE},S[k]?=some (.lst (natS A))->es.length<=1000->A.length<=900->(∀ p∈A,p<n)->(∀ S',Gw S S'->Q (.str (Hz (decide (∀ p∈A,AZ es p=2)))) S')->s [j3 n es,.loc k] S Q
theorem Ng(hΔ:∀ f,MonoN (Δ f)){kc:Nat}(hc:EQ (Δ kc)){D:Df}(hb:D.body=OT kc)(hN:D.N.length=2)(hp:D.ps.length=2):ES (i9 Δ D):=by
 intro n k es A S Q hk hl hA hAn q;unfold i9;rw[hb,hN];refine⟨hp.symm,_,rfl,_,c8 hk,?_⟩;refine DC hΔ (λi=>decide (AZ es (A.getD i 0)=2)) (by rw[g7];omega) (λS' G=>by show S'[k]?=S[k]?;rw[hk,G.keep _ _ hk]) (λi x S' hx G=>?_) λS' G=>?_
 ·obtain⟨p,hpi,rfl⟩:=AI hx;have g:A.getD i 0=p:=by rw[Sy,hpi];rfl
  refine⟨_,rfl,_,rfl,hc (by omega) (hAn p (Ss hpi)) λS2 G2=>⟨?_,G.trans G2⟩⟩;rw[g];show SV.bl (decide (((AZ es p:Nat):Int)=((2:Nat):Int)))=_
  congr 1
  rw[decide_eq_decide];exact Tt
 ·rw[g7];have e:∀ l:List Nat,(l.map λi=>SV.bl (decide (AZ es (A.getD i 0)=2)))=(l.map λi=>decide (AZ es (A.getD i 0)=2)).map SV.bl:=λl=>by rw[TX];rfl
  have bls:∀ bs:List Bool,blS (bs.map SV.bl)=some bs:=λbs=>by
   induction bs with
   | nil=>rfl
   | cons b bs ih=>show(blS (bs.map SV.bl)).map (b::·)=_;rw[ih];rfl
  rw[e];refine⟨_,_,nofun,c8 e8,bls _,_,rfl,?_⟩
  have v:(((So A.length).map λi=>decide (AZ es (A.getD i 0)=2)).all id)=decide (∀ p∈A,AZ es p=2):=by
   rw[Ta,dQ,T9];constructor
   ·intro h p hp;obtain⟨i,hi⟩:=UB hp;have:=h _ (TZ (TH.mpr (gM hi).1));rw[id,dQ,Sy,hi]at this;exact this
   ·intro h b hb;obtain⟨i,hi,rfl⟩:=TR.mp hb;have hi:=TH.mp hi;rw[id,dQ,Sy,Si hi];exact h _ (U0 hi)
  rw[v];have qq:=q _ (G.push (o:=SO.lst (((So A.length).map λi=>decide (AZ es (A.getD i 0)=2)).map SV.bl)));unfold Hz at qq;exact ifB (λz=>by rw[iP z]at qq;exact qq) λz=>by rw[iG (by rw[z];decide)]at qq;exact qq
end
def y0(cs:List (Option Nat))(a b:Nat):List Nat:=(So cs.length).filter λt=>decide (cs.getD t none=some a)||decide (cs.getD t none=some b)
theorem Ls(cs:List (Option Nat))(a b:Nat):y0 cs a b=y0 cs b a:=VD λ_ _=>Bool.or_comm _ _
theorem Lu{cs:List (Option Nat)}{a b:Nat}:∀ t∈y0 cs a b,t<cs.length:=λt ht=>TH.mp (TL.mp ht).1
theorem QP(cs:List (Option Nat))(a b:Nat):(y0 cs a b).Pairwise (·<·):=VQ.filter _
def itemS(es:EE)(p:Nat×List Nat):SV := .tup [.str (Hz (CL es p.2)),.loc p.1]
structure RowsAt(S:Sto)(l:Nat)(es:EE)(qs:List (Nat×List Nat)):Prop where
 top:S[l]?=some (.lst (qs.map (itemS es)))
 row:∀ q∈qs,S[q.1]?=some (.lst (natS q.2))
section
variable{Δ:Nat->Sn}
def ro1(ku:Nat):Stm:=(.expr (.call ku (.cons (.var 2) (.cons (.var 3) .nil))))
def ro2:Stm:=(.asg (.nm 4) (.comp ["tie","hue"] ["one","other"] [2,3] (.tup (.cons (.nm 0) (.cons (.nm 1) .nil))) (.enum (.var 1)) (.yes (.cmp .In (.var 1) (.tup (.cons (.var 2) (.cons (.var 3) .nil))))) (.var 0)))
def roA(kw:Nat):Stm:=(.asg (.nm 8) (.comp ["at"] ["ties"] [4] (.nm 0) (.seq (.call kw (.cons (.var 5) (.cons (.var 7) .nil)))) .no (.ix (.var 1) (.var 0))))
def roB(kd:Nat):Stm:=(.iff (.var 8) [(.expr (.mt .append (.var 6) (.cons (.tup (.cons (.call kd (.cons (.var 5) (.cons (.var 7) .nil))) (.cons (.var 8) .nil))) .nil)))] [])
def ro5(kp kw kd:Nat):Stm:=(.loop (.nm 7) (.seq (.call kp (.cons (.var 5) .nil))) [roA kw,roB kd])
def ro6(nm:Str)(lp:Pos):Stm:=(.ret (.srtk nm lp 0 "told" [] [] (.var 6) (.ix (.ix (.var 0) (.c (.int 1))) (.c (.int 0)))))
def IA(nm:Str)(lp:Pos)(ku ko kp kw kd:Nat):List Stm:=[ro1 ku,ro2,(.asg (.nm 5) (.call ko (.cons (.var 0) (.cons (.var 4) .nil)))),(.asg (.nm 6) (.lst .nil)),ro5 kp kw kd,ro6 nm lp]
theorem Fp{cs:List (Option Nat)}{a b i:Nat}{c:Option Nat}(h:cs[i]?=some c):((So (i+1)).filter λt=>decide (cs.getD t none=some a)||decide (cs.getD t none=some b))=((So i).filter λt=>decide (cs.getD t none=some a)||decide (cs.getD t none=some b))++if (decide (c=some a)||decide (c=some b))=true then [i] else []:=by
 rw[By];have:cs.getD i none=c:=by rw[Sy,h];rfl
 rw[this]
theorem QQ(c:Option Nat)(a b:Nat):inS (CG c) [.int (a:Nat),.int (b:Nat)]=(decide (c=some a)||decide (c=some b)):=by
 cases c with
 | none=>rfl
 | some j=>
   show((decide ((a:Int)=(j:Int)))||(decide ((b:Int)=(j:Int))||false))=_;rw[Vf]
   congr 1<;>rw[decide_eq_decide,Tt]<;>exact⟨λh=>by rw[h],λh=>(oj h).symm⟩
theorem QR(hΔ:∀ f,MonoN (Δ f)){nm:Str}{lp:Pos}{n lf:Nat}{g:Nat->Nat}{ts:List Nat}{es:EE}{qs:List (Nat×List Nat)}{S:Sto}{Q:QE}{o0 o1 o2 o3 o4 o5 o7 o8:Option SV}(ht:S[0]?=some (.tbl nm lp))(h:RowsAt S lf es qs)(R:Rows0 g ts (qs.map (·.2)))(hl:qs.length<64)
 (q:∀(qs':List (Nat×List Nat)) (S':Sto),Gw S S'->qs'.Perm qs->RowsAt S' S.length es qs'->Rows g ts (qs'.map (·.2))->Q (.loc S.length) S'):
 wSs Δ [ro6 nm lp] (A0 Q) [o0,o1,o2,o3,o4,o5,some (.loc lf),o7,o8] S:=by
 refine⟨_,rfl,lf,qs.map (itemS es),qs.map (λp=>((p.2.headD 0:Nat):Int)),rfl,h.top,by rw[Se];exact hl,ht,by rw[Se,Se],λi y z hy hz=>?_,λys pm pw=>?_⟩
 ·rw[Sm]at hy hz;obtain⟨p,hp,rfl⟩:=TU.mp hy;rw[hp]at hz;cases hz;have hm:=Ss hp;have hne:=R.ne _ (TZ (f:=λq:Nat×List Nat=>q.2) hm)
  have h0:(natS p.2)[0]?=some (.int ((p.2.headD 0:Nat):Int)):=by
   cases e:p.2 with
   | nil=>exact absurd e hne
   | cons x r=>rfl
  exact⟨_,rfl,_,_,rfl,rfl,_,_,c8 (h.row p hm),j9 (j:=0) h0,rfl,rfl⟩
 ·have zz:(qs.map λp=>((p.2.headD 0:Nat):Int)).zip (qs.map (itemS es))=qs.map λp=>(((p.2.headD 0:Nat):Int),itemS es p):=by rw[Wc]
  rw[zz]at pm
  have pd:∀ l:List (Nat×List Nat),Paired (λ(p:Nat×List Nat) (o:Int×SV)=>o=(((p.2.headD 0:Nat):Int),itemS es p)) l (l.map λp=>(((p.2.headD 0:Nat):Int),itemS es p)):=λl=>by
   induction l with
   | nil=>exact .nil
   | cons x l ih=>exact .cons rfl ih
  obtain⟨qs',rp,pq⟩:=BO pm (pd qs)
  have back:∀{l:List (Nat×List Nat)} {o:List (Int×SV)},Paired (λ(p:Nat×List Nat) (o:Int×SV)=>o=(((p.2.headD 0:Nat):Int),itemS es p)) l o->o=l.map λp=>(((p.2.headD 0:Nat):Int),itemS es p):=λ{l o} r=>by
   induction r with
   | nil=>rfl
   | cons h _ ih=>rw[h,ih];rfl
  have ey:=back rp;subst ey;rw[TX]at pw ⊢;refine q qs' _ (Gw.refl S).push pq ⟨e8,λp hp=>f8 (h.row p (pq.mem_iff.mp hp))⟩ (R.sort (pq.map _) ?_);rw[TX];rw[Tu]at pw ⊢;exact pw.imp λh=>Wg.mp h
def BL(n:Nat)(es:EE)(ts:List Nat)(i:Nat):List (List Nat):=(((t7 (Hue.mk n (wbT es ts)) n).take i).map (m9 n es ts)).filter λr=>!r.isEmpty
theorem JU{n:Nat}{es:EE}{ts:List Nat}{i f:Nat}(h:(t7 (Hue.mk n (wbT es ts)) n)[i]?=some f):BL n es ts (i+1)=BL n es ts i++if (m9 n es ts f).isEmpty=true then [] else [m9 n es ts f]:=by
 unfold BL;rw[Tz,h,Sz,UU]
 congr 1
 show Vd _ [m9 n es ts f]=_;rw[US];cases(m9 n es ts f).isEmpty<;>rfl
theorem Lv{n:Nat}{es:EE}{ts:List Nat}:BL n es ts (t7 (Hue.mk n (wbT es ts)) n).length=Fn n es ts:=by unfold BL Fn;rw[Tp]
theorem Lw(hΔ:∀ f,MonoN (Δ f)){kw kd:Nat}(hw:CZ (Δ kw))(hd:ES (Δ kd)){E:EndsS}{n lt lf lr f:Nat}{es:EE}{ts:List Nat}{S:Sto}{xs:List SV}{o0 o1 o2 o3 o8:Option SV}(hen:∀ e∈es,e.1<e.2/\e.2<n)(hts:∀ t∈ts,t<es.length)(n9:n<=900)(tl:ts.length<=60)(ht:S[lt]?=some (.lst (natS ts)))(hf:S[lf]?=some (.lst xs))(hx:xs.length<=1000)(hr:S[lr]?=some (.lst (natS (B6 (Hue.mk n (wbT es ts)) n f))))
 (q0:∀(o8:Option SV) (S':Sto),Gw S S'->m9 n es ts f=[]->E.nx [o0,o1,o2,o3,some (.loc lt),some (j3 n (wbT es ts)),some (.loc lf),some (.loc lr),o8] S')
 (q1:∀(o8:Option SV) (k:Nat) (S1 S':Sto),Gw S S1->S.length<=k->S1[k]?=some (.lst (natS (m9 n es ts f)))->m9 n es ts f≠[]->S'=S1.set lf (.lst (xs++[itemS es (k,m9 n es ts f)]))->E.nx [o0,o1,o2,o3,some (.loc lt),some (j3 n (wbT es ts)),some (.loc lf),some (.loc lr),o8] S'):
 wSs Δ [roA kw,roB kd] E [o0,o1,o2,o3,some (.loc lt),some (j3 n (wbT es ts)),some (.loc lf),some (.loc lr),o8] S:=by
 have wl:(wbT es ts).length=ts.length:=Se _;have cl:(B6 (Hue.mk n (wbT es ts)) n f).length<=n:=v9 _ _;have er:=QO hen hts f;refine⟨_,rfl,_,rfl,hw hr (by omega) (by omega) λl S1 G1 l0 h1=>⟨_,c8 h1,?_⟩⟩;have ht1:=G1.keep _ _ ht;have il:∀ i∈inL (B6 (Hue.mk n (wbT es ts)) n f) (wbT es ts),i<ts.length:=λi hi=>by rw[<-wl];exact TH.mp (TL.mp hi).1
 have ill:(inL (B6 (Hue.mk n (wbT es ts)) n f) (wbT es ts)).length<=ts.length:=by rw[<-wl];exact v9 _ _
 refine g8 (j5 hΔ _).2 (c9 hΔ _).1 (λi ys S'=>S'=S1/\ys=natS (((inL (B6 (Hue.mk n (wbT es ts)) n f) (wbT es ts)).take i).map λi=>ts.getD i 0)) ⟨rfl,rfl⟩ (λ_ _ _ z=>by rw[z.1];exact rfl) ?_ ?_
 ·rintro i x ys S' hx ⟨rfl,rfl⟩;obtain⟨j,hj,rfl⟩:=AI hx;have jl:=il j (Ss hj);have ij:=(gM hj).1;have hj':=Si jl;refine⟨_,rfl,_,rfl,_,_,c8 ht1,j9 (v6 hj'),by rw[g7,Se,Tn];show _<100000;omega,rfl,?_⟩;rw[Tz,hj,Sz,t6];show _=_++natS [ts.getD j 0];rw[Sy,hj'];rfl
 ·rintro ys S' ⟨rfl,rfl⟩;rw[g7,Tp,er];have h8:(S'++[SO.lst (natS (m9 n es ts f))])[S'.length]?=some (SO.lst (natS (m9 n es ts f))):=e8;have G2:Gw S (S'++[SO.lst (natS (m9 n es ts f))]):=G1.push;have l8:S.length<=S'.length:=G1.len;show wSs Δ [roB kd] E [o0,o1,o2,o3,some (.loc lt),some (j3 n (wbT es ts)),some (.loc lf),some (.loc lr),some (.loc S'.length)] (S'++[SO.lst (natS (m9 n es ts f))]);generalize S'.length=k8 at *;generalize S'++[SO.lst (natS (m9 n es ts f))]=S2 at *;refine⟨_,rfl,(!(natS (m9 n es ts f)).isEmpty),by show(match S2[k8]? with | some (.lst xs)=>_ | _=>none)=_;rw[h8],?_⟩;refine ifB (λz=>?_) (λz=>j4 (q0 _ _ G2 ?_))
  ·have hne:m9 n es ts f≠[]:=λy=>by rw[y]at z;cases z
   refine⟨_,rfl,⟨_,_,rfl,G2.keep _ _ hf⟩,_,rfl,_,rfl,hd (G2.keep _ _ hr) (by omega) (by omega) (λp hp=>TH.mp (TL.mp hp).1) λS3 G3=>⟨_,rfl,by show 2<=100000;decide,_,G3.keep _ _ (G2.keep _ _ hf),by show _<100000;omega,j4 (Δ:=Δ) (j4 (Δ:=Δ) (q1 _ k8 S3 _ (G2.trans G3) l8 (G3.keep _ _ h8) hne ?_))⟩⟩
   have w:(decide (∀ p∈B6 (Hue.mk n (wbT es ts)) n f,AZ (wbT es ts) p=2))=CL es (m9 n es ts f):=by
    rw[Ta,dQ];exact Lo hen hts hne
   rw[w];rfl
  ·cases h:m9 n es ts f with
   | nil=>rfl
   | cons _ _=>rw[h]at z;cases z
end
theorem Au{g:Nat->Nat}{ts:List Nat}{R:List (List Nat)}(h:Rows0 g ts R):R.length<=ts.length:=by
 have:=List.Nodup.length_le_of_subset (l₁:=R.map λr=>r.headD 0) (l₂:=ts) h.nd λx hx=>by
  obtain⟨r,hr,rfl⟩:=TR.mp hx;exact(h.mem r hr _ (BU (h.ne r hr))).1
 rwa [Se]at this
section
variable{Δ:Nat->Sn}
def Fq(nm:Str)(lp:Pos)(s:Sn):Prop:=∀{n lh a b:Nat} {es:EE} {cs:List (Option Nat)} {S:Sto} {Q:QE},(∀ e∈es,e.1<e.2/\e.2<n)->n<=900->es.length<=60->cs.length=es.length->a≠b->S[0]?=some (.tbl nm lp)->S[lh]?=some (.lst (optsS cs))->
 (∀(l:Nat) (qs:List (Nat×List Nat)) (S':Sto),Gw S S'->S.length<=l->RowsAt S' l es qs->(∀ q∈qs,S.length<=q.1/\q.1<l)->Rows (grp n es (y0 cs a b)) (y0 cs a b) (qs.map (·.2))->Q (.loc l) S')->s [j3 n es,.loc lh,.int (a:Nat),.int (b:Nat)] S Q
theorem JV(hΔ:∀ f,MonoN (Δ f)){nm:Str}{lp:Pos}{ku ko kp kw kd:Nat}(hku:DE (Δ ku))(hko:Gx (Δ ko))(hkp:DB (Δ kp))(hkw:CZ (Δ kw))(hkd:ES (Δ kd)){D:Df}(hb:D.body=IA nm lp ku ko kp kw kd)(hN:D.N.length=9)(hp:D.ps.length=4):Fq nm lp (i9 Δ D):=by
 intro n lh a b es cs S Q hen n9 e6 cl ab ht hl q;unfold i9;rw[hb,hN];refine⟨hp.symm,_,rfl,_,rfl,hku ab ?_⟩;show wSs Δ (ro2::_) (A0 Q) [some (j3 n es),some (.loc lh),some (.int (a:Nat)),some (.int (b:Nat)),none,none,none,none,none] S;refine⟨_,rfl,_,c8 hl,?_⟩;refine g8 (j5 hΔ _).2 (c9 hΔ _).1 (λi ys S'=>S'=S/\ys=natS ((So i).filter λt=>decide (cs.getD t none=some a)||decide (cs.getD t none=some b))) ⟨rfl,rfl⟩ (λ_ _ _ z=>by rw[z.1];exact rfl) ?_ ?_
 ·rintro i x ys S' hx ⟨rfl,rfl⟩;obtain⟨y,hy,rfl⟩:=Gr hx;have hy':(cs.map CG)[i]?=some y:=hy;rw[Sm]at hy';obtain⟨c,hc,rfl⟩:=TU.mp hy';have fs:=Fp (a:=a) (b:=b) hc;have fl:=v9 (λt=>decide (cs.getD t none=some a)||decide (cs.getD t none=some b)) i;have il:=(gM hc).1;refine⟨_,rfl,_,rfl,_,rfl,by show 2<=100000;decide,by cases c<;>rfl,_,rfl,rfl,_,rfl,?_⟩;show if inS (CG c) [.int (a:Nat),.int (b:Nat)]=true then _ else _
  rw[QQ];refine ifB (λz=>?_) (λz=>⟨rfl,?_⟩)
  ·rw[iP z]at fs;exact⟨_,rfl,by rw[g7];show _<100000;omega,rfl,by rw[fs,t6];rfl⟩
  ·rw[iG (by rw[z];decide),Tx]at fs;rw[fs]
 ·rintro ys S' ⟨rfl,rfl⟩;rw[EM,show(optsS cs).length=cs.length from Se _];have tl:(y0 cs a b).length<=60:=by have:=v9 (λt=>decide (cs.getD t none=some a)||decide (cs.getD t none=some b)) cs.length;unfold y0;omega
  have tlt:∀ t∈y0 cs a b,t<es.length:=λt h=>by rw[<-cl];exact Lu t h
  have hw:=Fl hen tlt;have wl:(wbT es (y0 cs a b)).length=(y0 cs a b).length:=Se _;show wSs Δ (_::_) (A0 Q) [some (j3 n es),some (.loc lh),some (.int (a:Nat)),some (.int (b:Nat)),some (.loc S'.length),none,none,none,none] (S'++[.lst (natS (y0 cs a b))]);have h4:(S'++[SO.lst (natS (y0 cs a b))])[S'.length]?=some (SO.lst (natS (y0 cs a b))):=e8;have G1:Gw S' (S'++[SO.lst (natS (y0 cs a b))]):=(Gw.refl S').push;refine⟨_,rfl,_,rfl,hko h4 (by omega) tlt λS2 G2=>?_⟩;have h4:=G2.keep _ _ h4;have G12:=G1.trans G2;have lt:=(gM h4).1;show wSs Δ (_::_) (A0 Q) [some (j3 n es),some (.loc lh),some (.int (a:Nat)),some (.int (b:Nat)),some (.loc S'.length),some (j3 n (wbT es (y0 cs a b))),none,none,none] S2;generalize hts:y0 cs a b=ts at *;generalize el4:S'.length=l4 at *;refine⟨by show 0<=100000;decide,?_⟩;show wSs Δ (_::_) (A0 Q) [some (j3 n es),some (.loc lh),some (.int (a:Nat)),some (.int (b:Nat)),some (.loc l4),some (j3 n (wbT es ts)),some (.loc S2.length),none,none] (S2++[.lst []]);have hf:(S2++[SO.lst []])[S2.length]?=some (SO.lst []):=e8;have G3:=G12.push (o:=SO.lst []);have h4:=f8 (o:=SO.lst []) h4;have l3:(S2++[SO.lst []]).length=S2.length+1:=by simp
  have fl:=G12.len;generalize S2.length=lf at *;generalize S2++[SO.lst []]=S3 at *;refine⟨_,rfl,hkp hw (by omega) (by omega) λlp' ls S4 G4 l0 C pw bd=>⟨_,c8 C.top,?_⟩⟩;have h4:=G4.keep _ _ h4;have hf:=G4.keep _ _ hf;have G34:=G3.trans G4;have l44:l4≠lf:=by omega
  have rl:(t7 (Hue.mk n (wbT es ts)) n).length<=n:=v9 _ _
  have pl:∀ i,(BL n es ts i).length<=n:=λi=>by
   have:=U2 (λr:List Nat=>!r.isEmpty) (((t7 (Hue.mk n (wbT es ts)) n).take i).map (m9 n es ts));rw[Se,Tn]at this;unfold BL;omega
  have lsl:ls.length=(t7 (Hue.mk n (wbT es ts)) n).length:=by rw[C.len];exact Se _
  refine AY (j6 hΔ _) (λi ρ S5=>∃(o7 o8:Option SV) (qs:List (Nat×List Nat)),ρ=[some (j3 n es),some (.loc lh),some (.int (a:Nat)),some (.int (b:Nat)),some (.loc l4),some (j3 n (wbT es ts)),some (.loc lf),o7,o8]/\On lf S4 S5/\S5[lf]?=some (.lst (qs.map (itemS es)))/\(∀ p∈qs,lf<p.1/\S5[p.1]?=some (.lst (natS p.2)))/\qs.map (·.2)=BL n es ts i) ⟨_,_,[],rfl,On.refl _ _,hf,(λ_ h=>nomatch h),rfl⟩ (λ_ _ S5 z=>?_) ?_ ?_
  ·obtain⟨_,_,_,_,O,_⟩:=z;show S5[lp']?=S4[lp']?;rw[C.top];exact O.keep _ _ (by omega) C.top
  ·rintro i x ρ S5 E hE _ hx ⟨o7,o8,qs,rfl,O,hq,hr,ep⟩;rw[Sm]at hx;obtain⟨k,hk,rfl⟩:=TU.mp hx;have il:=(gM hk).1;have hfr:=Si (show i<(t7 (Hue.mk n (wbT es ts)) n).length by omega);generalize (t7 (Hue.mk n (wbT es ts)) n)[i]'(by omega)=f at *;have hc:=C.row i k (B6 (Hue.mk n (wbT es ts)) n f) hk (by unfold Gy;rw[Sm,hfr];rfl);have kb:=bd k (Ss hk);have es':=JU (es:=es) (ts:=ts) hfr;have ql:qs.length<=n:=by have:=pl i;rw[<-ep,Se]at this;exact this
   have lf5:=(gM hq).1;refine Lw hΔ hkw hkd hen tlt n9 tl (O.keep _ _ l44 h4) hq (by rw[Se];omega) (O.keep _ _ (by omega) hc) (λo8 S6 G6 e=>?_) (λo8 k8 S6 S7 G6 kk hk8 ne e7=>?_)
   ·refine hE _ _ ⟨_,_,qs,rfl,O.trans G6.on,G6.keep _ _ hq,λp hp=>⟨(hr p hp).1,G6.keep _ _ (hr p hp).2⟩,?_⟩;rw[es',e,ep];simp
   ·subst e7;refine hE _ _ ⟨_,_,qs++[(k8,m9 n es ts f)],rfl,(O.trans G6.on).tape,?_,λp hp=>?_,?_⟩
    ·rw[B2 (G6.keep _ _ hq),Sz];rfl
    ·rcases TK.mp hp with hp | hp
     ·have:=hr p hp;exact⟨this.1,by rw[BG (by omega)];exact G6.keep _ _ this.2⟩
     ·rw[Sv.mp hp];exact⟨by show lf<k8;omega,by rw[BG (by omega)];exact hk8⟩
    ·rw[Sz,ep,es',iG];rfl;cases h:m9 n es ts f with
     | nil=>exact absurd h ne
     | cons _ _=>simp
  ·rintro ρ S5 ⟨o7,o8,qs,rfl,O,hq,hr,ep⟩;rw[Se,lsl,Lv]at ep;have up:ts.Pairwise (·<·):=by rw[<-hts];exact QP cs a b
   have P:=JT hen tlt up;rw[<-ep]at P;have few:=Au P;rw[Se]at few;have G5:Gw S' S5:=⟨Th G34.len O.len,λk o h=>O.keep _ _ (by have:=(gM h).1;omega) (G34.keep _ _ h)⟩
   refine QR (n:=0) hΔ (G5.keep _ _ ht) ⟨hq,λp hp=>(hr p hp).2⟩ P (by omega) λqs' S6 G6 pm RA R=>?_;refine q _ qs' S6 (G5.trans G6) (by have:=G5.len;omega) RA (λp hp=>?_) R;have:=hr p (pm.mem_iff.mp hp);exact⟨by omega,(gM this.2).1⟩
end
open Classical in
noncomputable def nrB(es:EE)(t:Nat)(r:List Nat):Bool:=((So r.length).map λj=>decide (Shr es t (r.getD j 0))).any id
open Classical in
theorem QS{es:EE}{t:Nat}{r:List Nat}:nrB es t r=true↔∃ u∈r,Shr es t u:=by
 unfold nrB;rw[UH];constructor
 ·rintro⟨b,hb,hz⟩;obtain⟨j,hj,rfl⟩:=TR.mp hb;have hj:=TH.mp hj;rw[id,dQ,Sy,Si hj]at hz;exact⟨_,U0 hj,hz⟩
 ·rintro⟨u,hu,hz⟩;obtain⟨j,hj⟩:=UB hu;refine⟨_,TZ (TH.mpr (gM hj).1),?_⟩;rw[id,dQ,Sy,hj];exact hz
structure RwAt(S:Sto)(l:Nat)(ps:List (Nat×List Nat)):Prop where
 top:S[l]?=some (.lst (ps.map λp=>SV.loc p.1))
 row:∀ p∈ps,S[p.1]?=some (.lst (natS p.2))
theorem RwAt.gw{S S':Sto}{l:Nat}{ps:List (Nat×List Nat)}(h:RwAt S l ps)(G:Gw S S'):RwAt S' l ps:=⟨G.keep _ _ h.top,λp hp=>G.keep _ _ (h.row p hp)⟩
theorem Fr{α:Type}{P:α->Bool}{l:List α}{i:Nat}{x:α}(h:l[i]?=some x):(l.take (i+1)).filter P=(l.take i).filter P++if P x=true then [x] else []:=by
 rw[Tz,h,UU]
 congr 1
 show Vd P [x]=_;rw[US];rfl
theorem IB(A:List Nat):∃ J:List Nat,(srt (A.map λ(a:Nat)=>(a:Int))).map SV.int=natS J/\J.Perm A/\J.Pairwise (·<=·):=by
 refine⟨(srt (A.map λ(a:Nat)=>(a:Int))).map Us,?_,?_,?_⟩
 ·unfold natS;rw[TX];refine UP λi hi=>?_;obtain⟨a,_,rfl⟩:=TR.mp ((AN _).mem_iff.mp hi);rfl
 ·have:=(AN (A.map λ(a:Nat)=>(a:Int))).map Us;rw[TX]at this;have e:(Us∘λ(a:Nat)=>(a:Int))=id:=rfl
  rwa [e,Vc]at this
 ·exact Tu.mpr ((Jw _).imp λh=>Int.toNat_le_toNat h)
theorem IC:∀ bs:List Bool,blS (bs.map SV.bl)=some bs:=λbs=>by
 induction bs with
 | nil=>rfl
 | cons b bs ih=>show(blS (bs.map SV.bl)).map (b::·)=_;rw[ih];rfl
theorem Lx(c:Option Nat)(a:Nat):scS (CG c) (.int (a:Nat))=some (decide (c=some a)):=by
 cases c with
 | none=>rfl
 | some j=>
   show some (decide ((j:Int)=(a:Int)))=_
   congr 1
   rw[decide_eq_decide,Tt];exact⟨λh=>by rw[h],λh=>oj h⟩
section
variable{Δ:Nat->Sn}
def lr6(km:Nat):Stm:=(.asg (.nm 6) (.comp ["_law_row"] ["_law_web_here","_law_tie"] [0,5] (.nm 0) (.seq (.var 4)) (.yes (.bi .any (.cons (.comp ["_law_further"] ["_law_web_here","_law_tie"] [1,2] (.nm 0) (.seq (.var 0)) .no (.call km (.cons (.var 1) (.cons (.var 2) (.cons (.var 0) .nil))))) .nil))) (.var 0)))
def lr7:Stm:=(.asg (.nm 7) (.lst (.cons (.var 5) .nil)))
def lr8:Stm:=(.loop (.nm 8) (.seq (.var 6)) [(.asg (.nm 7) (.op .Add (.var 7) (.var 8)))])
def lr4:Stm:=(.asg (.nm 4) (.op .Add (.comp ["_law_row"] ["_law_near"] [6] (.nm 0) (.seq (.var 4)) (.yes (.ninl (.var 0) (.var 1))) (.var 0)) (.lst (.cons (.bi .sorted (.cons (.var 7) .nil)) .nil))))
def lrI(km:Nat):Stm:=(.iff (.or (.cmp .Eq (.ix (.var 1) (.var 5)) (.var 2)) (.cmp .Eq (.ix (.var 1) (.var 5)) (.var 3))) [lr6 km,lr7,lr8,lr4] [])
def Ly(km:Nat):List Stm:=[(.asg (.nm 4) (.lst .nil)),(.loop (.nm 5) (.rng1 (.bi .len (.cons (.ix (.var 0) (.c (.int 1))) .nil))) [lrI km]),(.ret (.srtf (.var 4)))]
open Classical in
theorem QT(hΔ:∀ f,MonoN (Δ f)){km:Nat}(hmt:DD (Δ km)){E:EndsS}{rest:List Stm}{n t l4:Nat}{es:EE}{ps:List (Nat×List Nat)}{S:Sto}{o1 o2 o3 o6 o7 o8:Option SV}(R:RwAt S l4 ps)(ht:t<es.length)(hu:∀ p∈ps,∀ u∈p.2,u<es.length)(pl:ps.length<=1000)(rl:∀ p∈ps,p.2.length<=1000)
 (q:∀(l6:Nat) (S':Sto),Gw S S'->S'[l6]?=some (.lst ((ps.filter λp=>nrB es t p.2).map λp=>SV.loc p.1))->wSs Δ rest E [some (j3 n es),o1,o2,o3,some (.loc l4),some (.int (t:Nat)),some (.loc l6),o7,o8] S'):
 wSs Δ (lr6 km::rest) E [some (j3 n es),o1,o2,o3,some (.loc l4),some (.int (t:Nat)),o6,o7,o8] S:=by
 refine⟨_,rfl,_,c8 R.top,?_⟩;refine g8 (j5 hΔ _).2 (c9 hΔ _).1 (λi ys S'=>Gw S S'/\ys=((ps.take i).filter λp=>nrB es t p.2).map λp=>SV.loc p.1) ⟨Gw.refl S,rfl⟩ (λ_ _ S' z=>by show S'[l4]?=S[l4]?;rw[R.top];exact z.1.keep _ _ R.top) ?_ ?_
 ·rintro i x ys S' hx ⟨G,rfl⟩;rw[Sm]at hx;obtain⟨p,hp,rfl⟩:=TU.mp hx;have hm:=Ss hp;have hr:=G.keep _ _ (R.row p hm);have fs:=Fr (P:=λp:Nat×List Nat=>nrB es t p.2) hp;have fl:=U2 (λp:Nat×List Nat=>nrB es t p.2) (ps.take i);rw[Tn]at fl;refine⟨_,rfl,_,c8 hr,?_⟩;refine DC hΔ (λj=>@decide (Shr es t (p.2.getD j 0)) (Classical.propDecidable _)) (by rw[g7];exact rl p hm) (λS2 G2=>by show S2[p.1]?=S'[p.1]?;rw[hr,G2.keep _ _ hr]) (λj x S2 hx G2=>?_) λS2 G2=>?_
  ·obtain⟨u,hj,rfl⟩:=AI hx;have g:p.2.getD j 0=u:=by rw[Sy,hj];rfl
   refine⟨_,rfl,_,rfl,_,rfl,hmt ht (hu p hm u (Ss hj)) λv hv=>⟨?_,G2⟩⟩;rw[g]
   congr 1
   rw[Ta,hv,dQ]
  ·rw[g7];have e:((So p.2.length).map λi=>SV.bl (@decide (Shr es t (p.2.getD i 0)) (Classical.propDecidable _)))=((So p.2.length).map λi=>@decide (Shr es t (p.2.getD i 0)) (Classical.propDecidable _)).map SV.bl:=by rw[TX];rfl
   rw[e];refine⟨_,_,nofun,c8 e8,IC _,_,rfl,?_⟩;show if nrB es t p.2=true then _ else _
   have G3:=(G.trans G2).push (o:=SO.lst (((So p.2.length).map λi=>@decide (Shr es t (p.2.getD i 0)) (Classical.propDecidable _)).map SV.bl));refine ifB (λz=>?_) (λz=>?_)
   ·rw[iP z]at fs;exact⟨_,rfl,by rw[Se];show _<100000;omega,G3,by rw[fs,Sz];rfl⟩
   ·rw[iG (by rw[z];decide),Tx]at fs;exact⟨G3,by rw[fs]⟩
 ·rintro ys S' ⟨G,rfl⟩;rw[Se,Tp];exact q _ _ G.push e8
theorem Nh(hΔ:∀ f,MonoN (Δ f)){E:EndsS}{rest:List Stm}{t l6:Nat}{ps:List (Nat×List Nat)}{S:Sto}{o0 o1 o2 o3 o4 o7 o8:Option SV}(R:RwAt S l6 ps)(pl:((ps.map (·.2)).flatten).length<=1000)
 (q:∀(l7:Nat) (o8:Option SV) (S':Sto),Gw S S'->S'[l7]?=some (.lst (natS (t::(ps.map (·.2)).flatten)))->wSs Δ rest E [o0,o1,o2,o3,o4,some (.int (t:Nat)),some (.loc l6),some (.loc l7),o8] S'):
 wSs Δ (lr7::lr8::rest) E [o0,o1,o2,o3,o4,some (.int (t:Nat)),some (.loc l6),o7,o8] S:=by
 refine⟨_,rfl,by show 1<=100000;decide,?_⟩;show wSs Δ (lr8::rest) E [o0,o1,o2,o3,o4,some (.int (t:Nat)),some (.loc l6),some (.loc S.length),o8] (S++[.lst [.int (t:Nat)]]);have G1:Gw S (S++[SO.lst [.int (t:Nat)]]):=(Gw.refl S).push;have h7:(S++[SO.lst [.int (t:Nat)]])[S.length]?=some (SO.lst [.int (t:Nat)]):=e8;have hl6:=G1.keep _ _ R.top
 have tk:∀ i,(((ps.take i).map (·.2)).flatten).length<=1000:=λi=>by
  have:=congrArg (λl=>(l.map (·.2)).flatten.length) (List.take_append_drop i ps);simp only[Sz,Uz,Sl]at this;omega
 refine⟨_,rfl,_,c8 hl6,?_⟩;refine AY (j6 hΔ _) (λi ρ S'=>∃(l7:Nat) (o8:Option SV),ρ=[o0,o1,o2,o3,o4,some (.int (t:Nat)),some (.loc l6),some (.loc l7),o8]/\Gw S S'/\S'[l7]?=some (.lst (natS (t::((ps.take i).map (·.2)).flatten)))) ⟨_,_,rfl,G1,h7⟩ (λ_ _ S' z=>?_) ?_ ?_
 ·obtain⟨_,_,_,G,_⟩:=z;show S'[l6]?=(S++[SO.lst [.int (t:Nat)]])[l6]?;rw[hl6];exact G.keep _ _ R.top
 ·rintro i x ρ S' E' hE _ hx ⟨l7,o8,rfl,G,h7⟩;rw[Sm]at hx;obtain⟨p,hp,rfl⟩:=TU.mp hx;have hm:=Ss hp;have t1:=tk (i+1);rw[Tz,hp,Sz,Uz,Sl]at t1;have e1:([p].map (·.2)).flatten=p.2:=Tx _;have t1:(((ps.take i).map (·.2)).flatten).length+p.2.length<=1000:=by rw[<-e1];exact t1
  refine⟨_,rfl,_,rfl,_,_,h7,G.keep _ _ (R.row p hm),by rw[g7,g7,Te];show _<=100000;omega,j4 (Δ:=Δ) (hE _ _ ⟨_,_,rfl,G.push,?_⟩)⟩;rw[Tz,hp,Sz,Uz];show _=some (SO.lst (natS ((t::((ps.take i).map (·.2)).flatten)++([p].map (·.2)).flatten)));rw[e1,t6];exact e8
 ·rintro ρ S' ⟨l7,o8,rfl,G,h7⟩;rw[Se,Tp]at h7;exact q _ _ _ G h7
def DH(S:Sto)(k:Nat):List Int:=match S[k]? with | some (.lst xs)=>(Cq xs).getD [] | _=>[]
theorem C0{S:Sto}{k:Nat}{A:List Nat}(h:S[k]?=some (.lst (natS A))):DH S k=A.map λ(a:Nat)=>(a:Int):=by
 unfold DH;rw[h];show(Cq (natS A)).getD []=_;rw[Bz];rfl
theorem Ni{A B:List Nat}(h:(A.map λ(a:Nat)=>(a:Int))=B.map λ(a:Nat)=>(a:Int)):A=B:=by
 have:=congrArg (Vx Us) h;rw[TX,TX]at this;have e:(Us∘λ(a:Nat)=>(a:Int))=id:=rfl
 rwa [e,Vc,Vc]at this
theorem QU(hΔ:∀ f,MonoN (Δ f)){E:EndsS}{l4 l6 l7:Nat}{es:EE}{t:Nat}{ps:List (Nat×List Nat)}{A:List Nat}{S:Sto}{o0 o1 o2 o3 o5 o8:Option SV}(R:RwAt S l4 ps)(h6:S[l6]?=some (.lst ((ps.filter λp=>nrB es t p.2).map λp=>SV.loc p.1)))(h7:S[l7]?=some (.lst (natS A)))(pl:ps.length<=1000)(al:A.length<64)
 (q:∀(l:Nat) (k:Nat) (J:List Nat) (S':Sto),Gw S S'->J.Perm A->J.Pairwise (·<=·)->RwAt S' l ((ps.filter λp=>!nrB es t p.2)++[(k,J)])->E.nx [o0,o1,o2,o3,some (.loc l),o5,some (.loc l6),some (.loc l7),o8] S'):
 wSs Δ [lr4] E [o0,o1,o2,o3,some (.loc l4),o5,some (.loc l6),some (.loc l7),o8] S:=by
 refine⟨_,rfl,_,c8 R.top,?_⟩;refine g8 (j5 hΔ _).2 (c9 hΔ _).1 (λi ys S'=>S'=S/\ys=((ps.take i).filter λp=>!nrB es t p.2).map λp=>SV.loc p.1) ⟨rfl,rfl⟩ (λ_ _ S' z=>by rw[z.1];exact rfl) ?_ ?_
 ·rintro i x ys S' hx ⟨rfl,rfl⟩;rw[Sm]at hx;obtain⟨p,hp,rfl⟩:=TU.mp hx;have hm:=Ss hp;have hr:=R.row p hm;have fs:=Fr (P:=λp:Nat×List Nat=>!nrB es t p.2) hp;have fl:=U2 (λp:Nat×List Nat=>!nrB es t p.2) (ps.take i);rw[Tn]at fl;have e:((ps.filter λp=>nrB es t p.2).map (·.1)).map SV.loc=(ps.filter λp=>nrB es t p.2).map λp=>SV.loc p.1:=by rw[TX];rfl
  have nin:(!(((ps.filter λp=>nrB es t p.2).map (·.1)).any λm=>decide (DH S' m=DH S' p.1)))=!nrB es t p.2:=by
   congr 1
   rw[Ta,UH];constructor
   ·rintro⟨m,hm',hz⟩;obtain⟨p',hp',rfl⟩:=TR.mp hm';obtain⟨hp',hn⟩:=TL.mp hp';have hz:=of_decide_eq_true hz;rw[C0 (R.row p' hp'),C0 hr]at hz;rw[<-Ni hz];exact hn
   ·intro hn;exact⟨p.1,TZ (TL.mpr ⟨hm,hn⟩),decide_eq_true rfl⟩
  refine⟨_,rfl,_,rfl,p.1,l6,(ps.filter λp=>nrB es t p.2).map (·.1),DH S',rfl,rfl,?_,by rw[e];exact h6,λm hm'=>?_,?_⟩
  ·rw[C0 hr,<-DG];exact hr
  ·obtain⟨p',hp',rfl⟩:=TR.mp hm';have:=R.row p' (TL.mp hp').1;rw[C0 this,<-DG];exact this
  ·rw[nin];refine⟨_,rfl,?_⟩;refine ifB (λz=>?_) (λz=>?_)
   ·rw[iP z]at fs;exact⟨_,rfl,by rw[Se];show _<100000;omega,rfl,by rw[fs,Sz];rfl⟩
   ·rw[iG (by rw[z];decide),Tx]at fs;exact⟨rfl,by rw[fs]⟩
 ·rintro ys S' ⟨rfl,rfl⟩;rw[Se,Tp];obtain⟨J,eJ,pJ,sJ⟩:=IB A;have fl:=U2 (λp:Nat×List Nat=>!nrB es t p.2) ps;refine⟨_,rfl,_,_,nofun,c8 (f8 h7),Bz A,by rw[Se];omega,?_⟩;rw[eJ];refine⟨by show 1<=100000;decide,_,_,f8 (f8 e8),e8,by rw[Se];show _+1<=100000;omega,j4 (Δ:=Δ) (q _ (S'++[SO.lst ((ps.filter λp=>!nrB es t p.2).map λp=>SV.loc p.1)]).length J _ (((Gw.refl S').push.push.push).push) pJ sJ ⟨?_,λp hp=>?_⟩)⟩
  ·rw[Sz];exact e8
  ·rcases TK.mp hp with hp | hp
   ·exact f8 (f8 (f8 (f8 (R.row p (TL.mp hp).1))))
   ·rw[Sv.mp hp];exact f8 (f8 e8)
end
section
variable{Δ:Nat->Sn}
def Av(cs:List (Option Nat))(a b i:Nat):List Nat:=(So i).filter λt=>decide (cs.getD t none=some a)||decide (cs.getD t none=some b)
theorem Ca{g:Nat->Nat}{ts:List Nat}{R:List (List Nat)}(h:Rows0 g ts R){r:List Nat}(hr:r∈R):r.length<=ts.length:=
 List.Nodup.length_le_of_subset ((h.up r hr).imp Sx) λu hu=>(h.mem r hr u hu).1
theorem QV(hΔ:∀ f,MonoN (Δ f)){km:Nat}(hmt:DD (Δ km)){E:EndsS}{n lh l4 a b i:Nat}{es:EE}{cs:List (Option Nat)}{ps:List (Nat×List Nat)}{S:Sto}{o6 o7 o8:Option SV}(hen:∀ e∈es,e.1<e.2/\e.2<n)(e6:es.length<=60)(cl:cs.length=es.length)(hl:S[lh]?=some (.lst (optsS cs)))(hi:i<es.length)(R:RwAt S l4 ps)(I:Rows0 (grp n es (Av cs a b i)) (Av cs a b i) (ps.map (·.2)))
 (q:∀(l:Nat) (ps':List (Nat×List Nat)) (o6 o7 o8:Option SV) (S':Sto),Gw S S'->RwAt S' l ps'->Rows0 (grp n es (Av cs a b (i+1))) (Av cs a b (i+1)) (ps'.map (·.2))->E.nx [some (j3 n es),some (.loc lh),some (.int (a:Nat)),some (.int (b:Nat)),some (.loc l),some (.int (i:Nat)),o6,o7,o8] S'):
 wSs Δ [lrI km] E [some (j3 n es),some (.loc lh),some (.int (a:Nat)),some (.int (b:Nat)),some (.loc l4),some (.int (i:Nat)),o6,o7,o8] S:=by
 have hc:=Si (show i<cs.length by omega);generalize cs[i]'(by omega)=c at *;have fs:Av cs a b (i+1)=Av cs a b i++if (decide (c=some a)||decide (c=some b))=true then [i] else []:=Fp hc
 have ax:atI (optsS cs) (i:Int)=some (CG c):=j9 (Ff hc);have tlt:∀ t∈Av cs a b i,t<i:=λt ht=>TH.mp (TL.mp ht).1;have hts:∀ t∈Av cs a b i,t<es.length:=λt ht=>VP (tlt t ht) hi;have tl:(Av cs a b i).length<=i:=v9 _ _;have few:=Au I;rw[Se]at few
 have hit:(decide (c=some a)||decide (c=some b))=true->wSs Δ [lr6 km,lr7,lr8,lr4] {E with nx:=wSs Δ [] E} [some (j3 n es),some (.loc lh),some (.int (a:Nat)),some (.int (b:Nat)),some (.loc l4),some (.int (i:Nat)),o6,o7,o8] S:=by
  intro z;rw[iP z]at fs;have fm:∀ P:List Nat->Bool,(ps.map (·.2)).filter P=(ps.filter λp=>P p.2).map (·.2):=λP=>by rw[Ux];rfl
  have hn:∀ r∈ps.map (·.2),(nrB es i r=true↔∃ u∈r,Shr es i u):=λr _=>QS;obtain⟨J0,_,p0,s0⟩:=IB (i::((ps.filter λp=>nrB es i p.2).map (·.2)).flatten)
  have al:(i::((ps.filter λp=>nrB es i p.2).map (·.2)).flatten).length<=61:=by
   have I0:=Dt hen hts (nr:=nrB es i) (J:=J0) I hi tlt hn (by rw[fm];exact p0) s0;have:=Ca I0 (TF _ (.head _));rw[Sl,p0.length_eq]at this;have e1:[i].length=1:=rfl;omega
  rw[Te]at al;refine QT hΔ hmt R hi (λp hp u hu=>hts u (I.mem _ (TZ (f:=λp:Nat×List Nat=>p.2) hp) u hu).1) (by omega) (λp hp=>by have:=Ca I (TZ (f:=λp:Nat×List Nat=>p.2) hp);omega) λl6 S1 G1 h6=>?_;refine Nh hΔ (ps:=ps.filter λp=>nrB es i p.2) ⟨h6,λp hp=>G1.keep _ _ (R.row p (TL.mp hp).1)⟩ (by omega) λl7 o8 S2 G2 h7=>?_;refine QU hΔ ((R.gw G1).gw G2) (G2.keep _ _ h6) h7 (by omega) (by rw[Te];omega) λl k J S3 G3 pJ sJ R3=>j4 (Δ:=Δ) ?_;refine q l _ _ _ _ S3 ((G1.trans G2).trans G3) R3 ?_;have I1:=Dt hen hts (nr:=nrB es i) (J:=J) I hi tlt hn (by rw[fm];exact pJ) sJ;rw[fs,Sz];rw[fm]at I1;exact I1
 refine⟨_,rfl,_,rfl,_,_,c8 hl,ax,_,rfl,?_⟩;show(match scS (CG c) (.int (a:Nat)) with | some b=>_ | none=>_);rw[Lx];refine⟨_,rfl,?_⟩;by_cases z1:c=some a
 ·rw[decide_eq_true z1];exact hit (by rw[decide_eq_true z1];rfl)
 ·rw[decide_eq_false z1];refine⟨_,rfl,_,rfl,_,_,c8 hl,ax,_,rfl,?_⟩;show(match scS (CG c) (.int (b:Nat)) with | some b=>_ | none=>_);rw[Lx];refine⟨_,rfl,?_⟩;refine ifD (λz2=>hit (by rw[decide_eq_true z2,Bool.or_true])) (λz2=>j4 (Δ:=Δ) (j4 (Δ:=Δ) (q l4 ps _ _ _ S (Gw.refl S) R ?_)));rw[decide_eq_false z1,decide_eq_false z2]at fs;rw[fs];show Rows0 (grp n es (Av cs a b i++[])) (Av cs a b i++[]) _;rw[Tx];exact I
def ID(s:Sn):Prop:=∀{n lh a b:Nat} {es:EE} {cs:List (Option Nat)} {S:Sto} {Q:QE},(∀ e∈es,e.1<e.2/\e.2<n)->es.length<=60->cs.length=es.length->S[lh]?=some (.lst (optsS cs))->
 (∀(l:Nat) (ps:List (Nat×List Nat)) (S':Sto),Gw S S'->S.length<=l->RwAt S' l ps->Rows (grp n es (y0 cs a b)) (y0 cs a b) (ps.map (·.2))->Q (.loc l) S')->s [j3 n es,.loc lh,.int (a:Nat),.int (b:Nat)] S Q
theorem Lz(hΔ:∀ f,MonoN (Δ f)){km:Nat}(hmt:DD (Δ km)){D:Df}(hb:D.body=Ly km)(hN:D.N.length=9)(hp:D.ps.length=4):ID (i9 Δ D):=by
 intro n lh a b es cs S Q hen e6 cl hl q;unfold i9;rw[hb,hN];refine⟨hp.symm,by show 0<=100000;decide,_,rfl,_,_,rfl,rfl,_,rfl,_,rfl,⟨by omega,by rw[Se];omega⟩,?_⟩;refine AY (j6 hΔ _) (λi ρ S'=>∃(l4:Nat) (o5 o6 o7 o8:Option SV) (ps:List (Nat×List Nat)),ρ=[some (j3 n es),some (.loc lh),some (.int (a:Nat)),some (.int (b:Nat)),some (.loc l4),o5,o6,o7,o8]/\Gw S S'/\RwAt S' l4 ps/\Rows0 (grp n es (Av cs a b i)) (Av cs a b i) (ps.map (·.2))) ⟨S.length,_,_,_,_,[],rfl,(Gw.refl S).push,⟨e8,λ_ h=>nomatch h⟩,⟨(λ_ h=>nomatch h),(λ_ h=>nomatch h),(λ_ h=>nomatch h),(λ_ h=>nomatch h),WX⟩⟩ (λ_ _ _ _=>trivial) ?_ ?_
 ·rintro i x ρ S' E hE _ hx ⟨l4,o5,o6,o7,o8,ps,rfl,G,R,I⟩;have il:=(gM hx).1;obtain⟨rfl,_⟩:=n8 hx;rw[Uo];rw[m7,Se]at il;exact QV hΔ hmt hen e6 cl (G.keep _ _ hl) (by omega) R I λl ps' o6 o7 o8 S2 G2 R2 I2=>hE _ _ ⟨l,_,_,_,_,ps',rfl,G.trans G2,R2,I2⟩
 ·rintro ρ S' ⟨l4,o5,o6,o7,o8,ps,rfl,G,R,I⟩;rw[m7,Se,show(((es.length:Nat):Int) - 0).toNat=cs.length by omega]at I;have I:Rows0 (grp n es (y0 cs a b)) (y0 cs a b) (ps.map (·.2)):=I;have few:=Au I;rw[Se]at few;have tl:(y0 cs a b).length<=60:=by have:=v9 (λt=>decide (cs.getD t none=some a)||decide (cs.getD t none=some b)) cs.length;unfold y0;omega
  have hd:∀ p∈ps,DH S' p.1=p.2.map λ(a:Nat)=>(a:Int):=λp hp=>C0 (R.row p hp)
  have hh:∀ p∈ps,(DH S' p.1).headD 0=((p.2.headD 0:Nat):Int):=λp hp=>by
   rw[hd p hp];cases p.2<;>rfl
  refine⟨_,rfl,l4,ps.map (·.1),λk=>(DH S' k).headD 0,rfl,by rw[TX];exact R.top,λl hl'=>?_,?_,by rw[Se];omega,λls' pm pw=>?_⟩
  ·obtain⟨p,hp,rfl⟩:=TR.mp hl';have:=R.row p hp;have ne:=I.ne _ (TZ (f:=λp:Nat×List Nat=>p.2) hp);dsimp only;rw[hh p hp];cases e:p.2 with
   | nil=>exact absurd e ne
   | cons u r=>rw[e]at this;exact⟨natS r,this⟩
  ·rw[TX]
   have e:(ps.map ((λk=>(DH S' k).headD 0)∘λp:Nat×List Nat=>p.1))=((ps.map (·.2)).map λr=>r.headD 0).map λ(u:Nat)=>(u:Int):=by
    rw[TX,TX];exact UP λp hp=>hh p hp
   rw[e];exact Ds I.nd λa _ b _ e=>Tt.mp e
  ·have pd:∀ l:List (Nat×List Nat),Paired (λ(p:Nat×List Nat) (k:Nat)=>k=p.1) l (l.map (·.1)):=λl=>by
    induction l with
    | nil=>exact .nil
    | cons x l ih=>exact .cons rfl ih
   obtain⟨ps',rp,pq⟩:=BO pm (pd ps)
   have back:∀{l:List (Nat×List Nat)} {o:List Nat},Paired (λ(p:Nat×List Nat) (k:Nat)=>k=p.1) l o->o=l.map (·.1):=λ{l o} r=>by
    induction r with
    | nil=>rfl
    | cons h _ ih=>rw[h,ih];rfl
   have ey:=back rp;subst ey;refine q _ ps' _ G.push G.len ⟨by rw[e8,TX];rfl,λp hp=>f8 (R.row p (pq.mem_iff.mp hp))⟩ (I.sort (pq.map _) ?_);rw[TX]at pw ⊢;rw[Tu]at pw ⊢;refine pw.imp_of_mem λ{p p'} hp hp' h=>?_;have h:(DH S' p.1).headD 0<=(DH S' p'.1).headD 0:=h;rw[hh p (pq.mem_iff.mp hp),hh p' (pq.mem_iff.mp hp')]at h;exact Wg.mp h
def M0:List Stm:=[(.asg (.nm 2) (.lst .nil)),(.loop (.nm 3) (.seq (.var 1)) [(.expr (.mt .extT (.var 2) (.cons (.ix (.ix (.var 0) (.c (.int 1))) (.var 3)) .nil)))]),(.ret (.ix (.lst (.cons (.c (.str "open")) (.cons (.c (.str "ring")) .nil))) (.bi .int (.cons (.bi .all (.cons (.comp ["_law_place"] ["_law_held"] [2] (.nm 0) (.seq (.var 2)) .no (.cmp .Eq (.mt .count (.var 1) (.cons (.var 0) .nil)) (.c (.int 2)))) .nil)) .nil))))]
def IE(s:Sn):Prop:=∀{n l:Nat} {es:EE} {r:List Nat} {S:Sto} {Q:QE},S[l]?=some (.lst (natS r))->r.length<=100->(∀ t∈r,t<es.length)->(∀ S',Gw S S'->Q (.str (Hz (CL es r))) S')->s [j3 n es,.loc l] S Q
theorem DI(es:EE):∀ r:List Nat,(u9 es r).length=2 * r.length
 | []=>rfl
 | t::r=>by
   have e:u9 es (t::r)=(p4 es t).1::(p4 es t).2::u9 es r:=rfl;rw[e,Te,Te,DI es r,Te];omega
theorem M1(hΔ:∀ f,MonoN (Δ f)){D:Df}(hb:D.body=M0)(hN:D.N.length=4)(hp:D.ps.length=2):IE (i9 Δ D):=by
 intro n l es r S Q hl rl hr q;unfold i9;rw[hb,hN];refine⟨hp.symm,by show 0<=100000;decide,_,rfl,_,c8 (f8 hl),?_⟩;have ll:=FT hl;refine AY (j6 hΔ _) (λi ρ S'=>∃ o3,ρ=[some (j3 n es),some (.loc l),some (.loc S.length),o3]/\Gw S S'/\S'[S.length]?=some (.lst (natS (u9 es (r.take i))))) ⟨_,rfl,(Gw.refl S).push,e8⟩ (λ_ _ S' z=>?_) ?_ ?_
 ·obtain⟨_,_,G,_⟩:=z;show S'[l]?=(S++[SO.lst []])[l]?;rw[f8 hl];exact G.keep _ _ hl
 ·rintro i x ρ S' E hE _ hx ⟨o3,rfl,G,h2⟩;obtain⟨t,ht,rfl⟩:=AI hx;have il:=(gM ht).1;have he:=EO (hr t (Ss ht));refine⟨_,rfl,⟨_,_,rfl,h2⟩,_,rfl,_,_,rfl,rfl,_,rfl,_,pairS (p4 es t),rfl,j9 (by rw[Sm,he];rfl),?_⟩;refine⟨_,[SV.int (p4 es t).1,SV.int (p4 es t).2],rfl,h2,?_,j4 (Δ:=Δ) (hE _ _ ⟨_,rfl,G.put (Sw _),?_⟩)⟩
  ·rw[g7,DI,Tn];show _+2<=100000;omega
  ·rw[B2 h2,Tz,ht]
   congr 2
   show _=natS (List.flatMap _ (r.take i++[t]));rw[List.flatMap_append,t6];rfl
 ·rintro ρ S' ⟨o3,rfl,G,h2⟩;rw[g7,Tp]at h2;have hln:=DI es r;have a1:=f8 (o:=SO.lst [SV.str "open",.str "ring"]) h2;have a0:(S'++[SO.lst [SV.str "open",.str "ring"]])[S'.length]?=some (SO.lst [SV.str "open",.str "ring"]):=e8;have G1:=G.push (o:=SO.lst [SV.str "open",.str "ring"]);refine⟨by show 2<=100000;decide,?_⟩;generalize S'++[SO.lst [SV.str "open",.str "ring"]]=S1 at *;refine⟨_,rfl,_,c8 a1,?_⟩;refine DC hΔ (λi=>decide ((u9 es r).count ((u9 es r).getD i 0)=2)) (by rw[g7];omega) (λS2 G2=>by show S2[S.length]?=S1[S.length]?;rw[a1,G2.keep _ _ a1]) (λi x S2 hx G2=>?_) λS2 G2=>?_
  ·obtain⟨p,hpi,rfl⟩:=AI hx;have g:(u9 es r).getD i 0=p:=by rw[Sy,hpi];rfl
   have a2:=G2.keep _ _ a1;rw[DG]at a2;refine⟨_,rfl,⟨_,_,rfl,a2⟩,_,rfl,_,a2,?_,G2⟩;rw[Lk,g];show SV.bl (decide (((((u9 es r).count p:Nat)):Int)=((2:Nat):Int)))=_
   congr 1
   rw[decide_eq_decide];exact Tt
  ·rw[g7];have e:∀ l:List Nat,(l.map λi=>SV.bl (decide ((u9 es r).count ((u9 es r).getD i 0)=2)))=(l.map λi=>decide ((u9 es r).count ((u9 es r).getD i 0)=2)).map SV.bl:=λl=>by rw[TX];rfl
   rw[e];refine⟨_,_,nofun,c8 e8,IC _,?_⟩
   have v:(((So (u9 es r).length).map λi=>decide ((u9 es r).count ((u9 es r).getD i 0)=2)).all id)=CL es r:=by
    unfold CL;rw[Ta,T9,T9];constructor
    ·intro h p hp;obtain⟨i,hi⟩:=UB hp;have:=h _ (TZ (TH.mpr (gM hi).1));rw[id,Sy,hi]at this;exact this
    ·intro h b hb;obtain⟨i,hi,rfl⟩:=TR.mp hb;have hi:=TH.mp hi;rw[id,Sy,Si hi];exact h _ (U0 hi)
   rw[v];have G3:=(G1.trans G2).push (o:=SO.lst (((So (u9 es r).length).map λi=>decide ((u9 es r).count ((u9 es r).getD i 0)=2)).map SV.bl));have a3:=f8 (o:=SO.lst (((So (u9 es r).length).map λi=>decide ((u9 es r).count ((u9 es r).getD i 0)=2)).map SV.bl)) (G2.keep _ _ a0);generalize S2++[SO.lst (((So (u9 es r).length).map λi=>decide ((u9 es r).count ((u9 es r).getD i 0)=2)).map SV.bl)]=S3 at *;cases hz:CL es r with
   | false=>exact⟨_,SV.str "open",c8 a3,rfl,by have:=q S3 G3;rw[hz]at this;exact this⟩
   | true=>exact⟨_,SV.str "ring",c8 a3,rfl,by have:=q S3 G3;rw[hz]at this;exact this⟩
theorem Dv{xs ys:List (Option Nat)}:optsS (xs++ys)=optsS xs++optsS ys:=Sz
theorem CH(tk:List (Option Nat)):(optsS tk).all AC=true:=by
 unfold optsS;rw[Vy,T9];intro c _;cases c<;>rfl
theorem Nj(c:Nat)(tk:List (Option Nat)):inS (.int (c:Nat)) (optsS tk)=decide (some c∈tk):=by
 unfold inS optsS;rw[VR,Ta,UH,dQ];constructor
 ·rintro⟨d,hd,z⟩;cases d with
  | none=>cases z
  | some j=>
    have z:decide ((j:Int)=(c:Int))=true:=z;rw[dQ,Tt]at z;rw[<-z];exact hd
 ·intro h;exact⟨_,h,by show decide ((c:Int)=(c:Int))=true;exact decide_eq_true rfl⟩
def ET(s:Sn):Prop:=∀{t n:Nat} {es:EE} {S:Sto} {Q:QE},TapeS S t->es.length<=60->(∀(l:Nat) (cs:List (Option Nat)) (S':Sto),TapeS S' t->On t S S'->S.length<=l->S'[l]?=some (.lst (optsS cs))->cs.length=es.length->(∀ c,some c∈cs->c<200)->Q (.loc l) S')->s [.loc t,j3 n es,.bl true] S Q
structure LhO(t lf ls r:Nat)(es:EE)(S0 S:Sto)(cs:List (Option Nat)):Prop where
 T:TapeS S t
 O:On t S0 S
 f0:S0.length<=lf
 sf:ls<lf
 s0:S0.length<=ls
 hf:S[lf]?=some (.lst (optsS cs))
 hs:S[ls]?=some (.lst (natS (someL r)))
 lt:∀ c,some c∈cs->c<200
def ffO(r:Nat)(tk:List (Option Nat)):List Nat:=(someL r++(So (tk.length+1)).map (100+·)).filter λh=>!decide (some h∈tk)
theorem Nk(r:Nat)(tk:List (Option Nat)):0<(ffO r tk).length:=by
 rcases Vj (ffO r tk).length with z | z
 ·have z:=VN.mp z;unfold ffO at z;rw[List.filter_eq_nil_iff]at z
  have:=List.Nodup.length_le_of_subset (l₁:=(So (tk.length+1)).map λi=>some (100+i)) (l₂:=tk) (Ds WD λa _ b _ e=>by have:=oj e;omega) λh hh=>by
   obtain⟨i,hi,rfl⟩:=TR.mp hh;have:=z (100+i) (TF _ (TZ hi));simpa using this
  rw[Se,U5]at this;omega
 ·exact z
theorem HB(hΔ:∀ f,MonoN (Δ f)){kd km:Nat}(hd:w6 (Δ kd))(hm:DD (Δ km)){E:EndsS}{t lf ls r n i:Nat}{es:EE}{S0 S:Sto}{cs:List (Option Nat)}{o6 o7 o8:Option SV}(I:LhO t lf ls r es S0 S cs)(hi:cs.length=i)(il:i<es.length)(e6:es.length<=60)(t0:t<S0.length)
 (q:∀(o6 o7 o8:Option SV) (c:Option Nat) (S':Sto),LhO t lf ls r es S0 S' (cs++[c])->E.nx [some (.loc t),some (j3 n es),some (.bl true),some (.loc ls),some (.loc lf),some (.int (i:Nat)),o6,o7,o8] S'):
 wSs Δ [ih6 km,ih7,ih8 kd,ih9 kd] E [some (.loc t),some (j3 n es),some (.bl true),some (.loc ls),some (.loc lf),some (.int (i:Nat)),o6,o7,o8] S:=by
 refine⟨_,rfl,_,rfl,⟨by omega,by omega⟩,?_⟩;refine g8 (j5 hΔ _).2 (c9 hΔ _).1 (λj ys S'=>S'=S/\∃ tk:List (Option Nat),ys=optsS tk/\tk.length<=j) ⟨rfl,[],rfl,Sw _⟩ (λ_ _ _ _=>trivial) ?_ ?_
 ·rintro j x ys S' hx ⟨rfl,tk,rfl,tl⟩;obtain⟨rfl,hj⟩:=n8 hx;rw[Uo]at hj ⊢;have hj:j<i:=by omega
  refine⟨_,rfl,_,rfl,_,rfl,hm (by omega) il λv hv=>⟨_,rfl,?_⟩⟩;refine ifB (λz=>?_) (λz=>⟨rfl,tk,rfl,by omega⟩);have hc:=Si (show j<cs.length by omega);exact⟨_,rfl,_,rfl,_,_,c8 I.hf,j9 (Ff hc),by rw[AK];show _<100000;omega,rfl,tk++[cs[j]'(by omega)],by rw[Dv];rfl,by rw[Sl];simp;omega⟩
 ·rintro ys S' ⟨rfl,tk,rfl,tl⟩;rw[m7,show((i:Int) - 0).toNat=i by omega]at tl;have T1:=I.T.push (o:=SO.lst (optsS tk));have O1:=I.O.push (o:=SO.lst (optsS tk));have hf1:=f8 (o:=SO.lst (optsS tk)) I.hf;have hs1:=f8 (o:=SO.lst (optsS tk)) I.hs;have h6:(S'++[SO.lst (optsS tk)])[S'.length]?=some (SO.lst (optsS tk)):=e8;show wSs Δ [ih7,ih8 kd,ih9 kd] E [some (.loc t),some (j3 n es),some (.bl true),some (.loc ls),some (.loc lf),some (.int (i:Nat)),some (.loc S'.length),o7,o8] (S'++[.lst (optsS tk)]);generalize S'.length=k6 at *;generalize S'++[SO.lst (optsS tk)]=S1 at *;have tl6:tk.length<=60:=by omega
  have sok:=Nf r
  have er:Ap 100 (100+((optsS tk).length:Int)+1)=natS ((So (tk.length+1)).map (100+·)):=by
   rw[AK,<-Ll 100 (tk.length+1)]
   congr 1
  refine⟨_,rfl,_,rfl,_,c8 h6,_,_,rfl,rfl,⟨by omega,by omega,by rw[AK];omega,by rw[AK];omega⟩,?_⟩;rw[er];refine⟨_,_,f8 hs1,e8,by rw[g7,g7,Se,U5];show _<=100000;omega,_,c8 e8,?_⟩;rw[<-t6];have T2:=(T1.push (o:=SO.lst (natS ((So (tk.length+1)).map (100+·))))).push (o:=SO.lst (natS (someL r++(So (tk.length+1)).map (100+·))));have O2:=(O1.push (o:=SO.lst (natS ((So (tk.length+1)).map (100+·))))).push (o:=SO.lst (natS (someL r++(So (tk.length+1)).map (100+·))));have hf2:=f8 (o:=SO.lst (natS (someL r++(So (tk.length+1)).map (100+·)))) (f8 (o:=SO.lst (natS ((So (tk.length+1)).map (100+·)))) hf1);have hs2:=f8 (o:=SO.lst (natS (someL r++(So (tk.length+1)).map (100+·)))) (f8 (o:=SO.lst (natS ((So (tk.length+1)).map (100+·)))) hs1);have h62:=f8 (o:=SO.lst (natS (someL r++(So (tk.length+1)).map (100+·)))) (f8 (o:=SO.lst (natS ((So (tk.length+1)).map (100+·)))) h6);generalize (S1++[SO.lst (natS ((So (tk.length+1)).map (100+·)))]).length=kk at *;generalize (S1++[SO.lst (natS ((So (tk.length+1)).map (100+·)))])++[SO.lst (natS (someL r++(So (tk.length+1)).map (100+·)))]=S2 at *;refine g8 (j5 hΔ _).2 (c9 hΔ _).1 (λj ys S'=>S'=S2/\ys=natS (((someL r++(So (tk.length+1)).map (100+·)).take j).filter λh=>!decide (some h∈tk))) ⟨rfl,rfl⟩ (λ_ _ S' z=>by rw[z.1];exact rfl) ?_ ?_
  ·rintro j y ys S' hy ⟨rfl,rfl⟩;obtain⟨c,hc,rfl⟩:=AI hy;have jl:=(gM hc).1;rw[Sl,Se,U5]at jl
   have tk':((someL r++(So (tk.length+1)).map (100+·)).take (j+1)).filter (λh=>!decide (some h∈tk))=((someL r++(So (tk.length+1)).map (100+·)).take j).filter (λh=>!decide (some h∈tk))++if (!decide (some c∈tk))=true then [c] else []:=by
    rw[Tz,hc,UU]
    congr 1
    show Vd _ [c]=_;rw[US];rfl
   have fl:=U2 (λh=>!decide (some h∈tk)) ((someL r++(So (tk.length+1)).map (100+·)).take j);rw[Tn]at fl;refine⟨_,rfl,_,rfl,?_⟩;show match BZ (.loc k6) S' with | some ms=>_ | none=>_
   rw[LO h62];refine⟨rfl,_,c8 h62,CH _,_,rfl,?_⟩;show if (!inS (.int (c:Nat)) (optsS tk))=true then _ else _
   rw[Nj];refine ifB (λz=>?_) (λz=>⟨rfl,?_⟩)
   ·rw[iP z]at tk';exact⟨_,rfl,by rw[g7];show _<100000;omega,rfl,by rw[tk',t6];rfl⟩
   ·rw[iG (by rw[z];decide),Tx]at tk';rw[tk']
  ·rintro ys S' ⟨rfl,rfl⟩;rw[g7,Tp];have fp:0<(ffO r tk).length:=Nk r tk;show wSs Δ [ih8 kd,ih9 kd] E [some (.loc t),some (j3 n es),some (.bl true),some (.loc ls),some (.loc lf),some (.int (i:Nat)),some (.loc k6),some (.loc S'.length),o8] (S'++[.lst (natS (ffO r tk))]);have T3:=T2.push (o:=SO.lst (natS (ffO r tk)));have O3:=O2.push (o:=SO.lst (natS (ffO r tk)));have hf3:=f8 (o:=SO.lst (natS (ffO r tk))) hf2;have hs3:=f8 (o:=SO.lst (natS (ffO r tk))) hs2;have h7:(S'++[SO.lst (natS (ffO r tk))])[S'.length]?=some (SO.lst (natS (ffO r tk))):=e8;have tlt:t<S'.length:=T2.lt;have f0:=I.f0;have s0:=I.s0;have sf:=I.sf;generalize S'.length=k7 at *;generalize S'++[SO.lst (natS (ffO r tk))]=S3 at *
   have mn:∃ m:Nat,(if (((natS (ffO r tk)).length:Nat):Int)<2 then (((natS (ffO r tk)).length:Nat):Int) else 2)=(m:Int)/\0<m/\m<=(ffO r tk).length:=by
    rw[g7];exact⟨min 2 (ffO r tk).length,by split<;>omega,by omega,by omega⟩
   obtain⟨m,em,m0,m1⟩:=mn;refine⟨_,rfl,_,rfl,_,rfl,_,c8 h7,?_⟩;show Δ kd [.loc t,.int (if (((natS (ffO r tk)).length:Nat):Int)<2 then (((natS (ffO r tk)).length:Nat):Int) else 2)] S3 _;rw[em]
   have fl:(ffO r tk).length<=100:=by
    unfold ffO;have:=U2 (λh=>!decide (some h∈tk)) (someL r++(So (tk.length+1)).map (100+·));rw[Sl,Se,U5]at this;omega
   refine hd T3 (by omega) (by omega) λz S4 z0 z1 T4 O4 _=>?_;have fz:=Si (show z.toNat<(ffO r tk).length by omega);generalize (ffO r tk)[z.toNat]'(by omega)=c at *;have h74:=O4.keep _ _ (by omega) h7;have hf4:=O4.keep _ _ (by omega) hf3;have hs4:=O4.keep _ _ (by omega) hs3
   have az:atI (natS (ffO r tk)) z=some (.int (c:Nat)):=by
    rw[show z=((z.toNat:Nat):Int) by omega];exact j9 (v6 fz)
   refine⟨_,_,c8 h74,az,?_⟩;have cm:=Ss fz;unfold ffO at cm;rw[TL,TQ,decide_eq_false_iff_not]at cm
   have c2:c<200:=by
    rcases TK.mp cm.1 with y | y
    ·exact sok.2 c y
    ·obtain⟨d,hd',rfl⟩:=TR.mp y;have:=TH.mp hd';omega
   refine⟨_,rfl,⟨_,_,rfl,hf4⟩,_,rfl,by show 2<=100000;decide,_,rfl,_,rfl,?_⟩;have hf5:=f8 (o:=SO.lst [SV.int (c:Nat),SV.non]) hf4;have hs5:=f8 (o:=SO.lst [SV.int (c:Nat),SV.non]) hs4;have h5:(S4++[SO.lst [SV.int (c:Nat),SV.non]])[S4.length]?=some (SO.lst [SV.int (c:Nat),SV.non]):=e8;have tlt4:=T4.lt;have hl5:=(gM hf4).1;have T5:=T4.push (o:=SO.lst [SV.int (c:Nat),SV.non]);have O5:=(O3.trans O4).push (o:=SO.lst [SV.int (c:Nat),SV.non]);generalize S4.length=k4 at *;generalize S4++[SO.lst [SV.int (c:Nat),SV.non]]=S5 at *;refine ifT rfl ⟨_,rfl,hd T5 (by decide) (by decide) λw S6 w0 w1 T6 O6 _=>?_⟩;have hf6:=O6.keep _ _ (by omega) hf5;have hs6:=O6.keep _ _ (by omega) hs5;have h6':=O6.keep _ _ (by omega) h5
   have fin:∀ c':Option Nat,(∀ d,some d=c'->d<200)->E.nx [some (.loc t),some (j3 n es),some (.bl true),some (.loc ls),some (.loc lf),some (.int (i:Nat)),some (.loc k6),some (.loc k7),some (.int (c:Nat))] (S6.set lf (.lst (optsS cs++[CG c']))):=λc' hc'=>by
    refine q _ _ _ c' _ ⟨T6.other (by omega),(O5.trans O6).new f0,f0,sf,s0,?_,by rw[BG (by omega)];exact hs6,λh hh=>?_⟩
    ·rw[B2 hf6,Dv];rfl
    ·rcases TK.mp hh with hh | hh
     ·exact I.lt h hh
     ·exact hc' h (Sv.mp hh)
   have lc:(optsS cs).length<100000:=by rw[AK];omega
   have cc:∀ d,some d=some c->d<200:=λd e=>by cases e;exact c2
   have w4:w=0\/w=1\/w=2\/w=3:=by omega
   rcases w4 with rfl | rfl | rfl | rfl
   ·exact⟨_,SV.non,c8 h6',rfl,_,hf6,lc,j4 (Δ:=Δ) (fin none λd e=>nomatch e)⟩
   ·exact⟨_,SV.int (c:Nat),c8 h6',rfl,_,hf6,lc,j4 (Δ:=Δ) (fin (some c) cc)⟩
   ·exact⟨_,SV.int (c:Nat),c8 h6',rfl,_,hf6,lc,j4 (Δ:=Δ) (fin (some c) cc)⟩
   ·exact⟨_,SV.int (c:Nat),c8 h6',rfl,_,hf6,lc,j4 (Δ:=Δ) (fin (some c) cc)⟩
theorem M2(hΔ:∀ f,MonoN (Δ f)){kd km:Nat}(hd:w6 (Δ kd))(hm:DD (Δ km)){D:Df}(hb:D.body=OS kd km)(hN:D.N.length=9)(hp:D.ps.length=3):ET (i9 Δ D):=by
 intro t n es S Q T e6 q;have tl:=T.lt;unfold i9;rw[hb,hN];have b6:∀ k,k<=10->k<=big:=λk h=>by show k<=100000;omega
 refine⟨hp.symm,b6 _ (by simp),b6 _ (by simp),b6 _ (by simp),b6 _ (by simp),b6 _ (by simp),?_⟩;generalize e0:SO.lst [SV.int 0,.int 1,.int 2,.int 3,.int 4,.int 5]=u0;generalize e1:SO.lst [SV.int 0,.int 1,.int 7,.int 40]=u1;generalize e2:SO.lst [SV.int 2,.int 0,.int 1,.int 5,.int 9]=u2;generalize e3:SO.lst [SV.int 99,.int 3,.int 0,.int 11,.int 4,.int 2]=u3;have h0:(S++[u0])[S.length]?=some u0:=e8;have h1:((S++[u0])++[u1])[(S++[u0]).length]?=some u1:=e8;have h2:(((S++[u0])++[u1])++[u2])[((S++[u0])++[u1]).length]?=some u2:=e8;have h3:((((S++[u0])++[u1])++[u2])++[u3])[(((S++[u0])++[u1])++[u2]).length]?=some u3:=e8;have h0:=f8 (o:=u3) (f8 (o:=u2) (f8 (o:=u1) h0));have h1:=f8 (o:=u3) (f8 (o:=u2) h1);have h2:=f8 (o:=u3) h2;have l1:(S++[u0]).length=S.length+1:=by simp
 have l2:((S++[u0])++[u1]).length=S.length+2:=by simp
 have l3:(((S++[u0])++[u1])++[u2]).length=S.length+3:=by simp
 rw[l1]at h1;rw[l2]at h2;rw[l3]at h3;rw[l1,l2,l3];have T4:=(((T.push (o:=u0)).push (o:=u1)).push (o:=u2)).push (o:=u3);have O4:=((((On.refl t S).push (o:=u0)).push (o:=u1)).push (o:=u2)).push (o:=u3);have l4:((((S++[u0])++[u1])++[u2])++[u3]).length=S.length+4:=by simp
 generalize (((S++[u0])++[u1])++[u2])++[u3]=S4 at *;refine⟨_,rfl,hd T4.push (by decide) (by decide) λz S5 z0 z1 T5 O5 _=>?_⟩;have O5':=O4.trans ((On.refl t S4).push.trans O5);have h4:(S4++[SO.lst [SV.loc S.length,.loc (S.length+1),.loc (S.length+2),.loc (S.length+3)]])[S4.length]?=some (SO.lst [SV.loc S.length,.loc (S.length+1),.loc (S.length+2),.loc (S.length+3)]):=e8;have h4:=O5.keep _ _ (by omega) h4;have h0:=O5.keep _ _ (by omega) (f8 h0);have h1:=O5.keep _ _ (by omega) (f8 h1);have h2:=O5.keep _ _ (by omega) (f8 h2);have h3:=O5.keep _ _ (by omega) (f8 h3)
 have key:∀(r ls:Nat),S5[ls]?=some (.lst (natS (someL r)))->S.length<=ls->wSs Δ [(.asg (.nm 4) (.lst .nil)),(.loop (.nm 5) (.rng1 (.bi .len (.cons (.ix (.var 1) (.c (.int 1))) .nil))) [ih6 km,ih7,ih8 kd,ih9 kd]),(.ret (.var 4))] (A0 Q) [some (.loc t),some (j3 n es),some (.bl true),some (.loc ls),none,none,none,none,none] S5:=by
  intro r ls hl sl;have lsl:=(gM hl).1;refine⟨by show 0<=100000;decide,_,rfl,_,_,rfl,rfl,_,rfl,_,rfl,⟨by omega,by rw[Se];omega⟩,?_⟩;refine AY (j6 hΔ _) (λi ρ S'=>∃(o5 o6 o7 o8:Option SV) (cs:List (Option Nat)),ρ=[some (.loc t),some (j3 n es),some (.bl true),some (.loc ls),some (.loc S5.length),o5,o6,o7,o8]/\cs.length=i/\LhO t S5.length ls r es S S' cs) ⟨_,_,_,_,[],rfl,rfl,T5.push,O5'.push,O5'.len,lsl,sl,e8,f8 hl,(λ_ h=>nomatch h)⟩ (λ_ _ _ _=>trivial) ?_ ?_
  ·rintro i x ρ S' E hE _ hx ⟨o5,o6,o7,o8,cs,rfl,hi,I⟩;have il:=(gM hx).1;obtain⟨rfl,_⟩:=n8 hx;rw[Uo];rw[m7,Se]at il;exact HB hΔ hd hm I hi (by omega) e6 tl λo6 o7 o8 c S' I'=>hE _ _ ⟨_,_,_,_,cs++[c],rfl,by rw[Sl,hi];rfl,I'⟩
  ·rintro ρ S' ⟨o5,o6,o7,o8,cs,rfl,hi,I⟩;rw[m7,Se]at hi;have hi:cs.length=es.length:=by omega
   exact⟨_,rfl,q _ cs S' I.T I.O I.f0 I.hf hi I.lt⟩
 have z4:z=0\/z=1\/z=2\/z=3:=by omega
 rcases z4 with rfl | rfl | rfl | rfl
 ·exact⟨_,_,c8 h4,rfl,key 0 _ (by rw[h0,<-e0];rfl) (by omega)⟩
 ·exact⟨_,_,c8 h4,rfl,key 1 _ (by rw[h1,<-e1];rfl) (by omega)⟩
 ·exact⟨_,_,c8 h4,rfl,key 2 _ (by rw[h2,<-e2];rfl) (by omega)⟩
 ·exact⟨_,_,c8 h4,rfl,key 3 _ (by rw[h3,<-e3];rfl) (by omega)⟩
def M3(kw kd kh:Nat):List Stm:=[(.asg (.nm 2) (.call kw (.cons (.var 0) (.cons (.cmp .Eq (.call kd (.cons (.var 0) (.cons (.c (.int 8)) .nil))) (.c (.int 0))) .nil)))),(.ret (.tup (.cons (.var 2) (.cons (.call kh (.cons (.var 0) (.cons (.var 2) (.cons (.var 1) .nil)))) .nil))))]
def IF(s:Sn):Prop:=∀{t:Nat} {S:Sto} {Q:QE},TapeS S t->(∀(n l:Nat) (es:EE) (cs:List (Option Nat)) (S':Sto),Web n es->TapeS S' t->On t S S'->S.length<=l->S'[l]?=some (.lst (optsS cs))->cs.length=es.length->(∀ c,some c∈cs->c<200)->Q (.tup [j3 n es,.loc l]) S')->s [.loc t,.bl true] S Q
theorem M4(hΔ:∀ f,MonoN (Δ f)){kw kd kh:Nat}(hw:OO (Δ kw))(hd:w6 (Δ kd))(hh:ET (Δ kh)){D:Df}(hb:D.body=M3 kw kd kh)(hN:D.N.length=3)(hp:D.ps.length=2):IF (i9 Δ D):=by
 intro t S Q T q;unfold i9;rw[hb,hN];refine⟨hp.symm,_,rfl,_,rfl,hd T (by decide) (by decide) λr S1 r0 r1 T1 O1 _=>hw T1 λn es S2 W T2 O2=>?_⟩;refine⟨_,rfl,_,rfl,_,rfl,_,rfl,hh T2 (by have:=W.len;omega) λl cs S3 T3 O3 l0 h3 cl lt=>⟨by show 2<=100000;decide,q n l es cs S3 W T3 ((O1.trans O2).trans O3) (by have:=(O1.trans O2).len;omega) h3 cl lt⟩⟩
def OU(kd:Nat):List Stm:=[(.asg (.nm 2) (.srtset (.op .Add (.comp ["_law_hue"] [] [] (.nm 0) (.seq (.var 1)) (.yes (.cmp .IsNot (.var 0) (.c .non))) (.var 0)) (.lst (.cons (.c (.int 0)) (.cons (.c (.int 150)) .nil)))))),(.asg (.nm 3) (.call kd (.cons (.var 0) (.cons (.bi .len (.cons (.var 2) .nil)) .nil)))),(.ret (.tup (.cons (.ix (.var 2) (.var 3)) (.cons (.ix (.var 2) (.op .Mod (.op .Add (.op .Add (.var 3) (.c (.int 1))) (.call kd (.cons (.var 0) (.cons (.op .Sub (.bi .len (.cons (.var 2) .nil)) (.c (.int 1))) .nil)))) (.bi .len (.cons (.var 2) .nil)))) .nil))))]
def M5(s:Sn):Prop:=∀{t l:Nat} {cs:List (Option Nat)} {S:Sto} {Q:QE},TapeS S t->l≠t->S[l]?=some (.lst (optsS cs))->cs.length<=60->(∀(a b:Nat) (S':Sto),TapeS S' t->On t S S'->Q (.tup [.int (a:Nat),.int (b:Nat)]) S')->s [.loc t,.loc l] S Q
theorem M6(A:List Nat):∃ L:List Nat,(srt (AO ((A++[0,150]).map λ(a:Nat)=>(a:Int)))).map SV.int=natS L/\2<=L.length/\L.length<=A.length+2:=by
 refine⟨(srt (AO ((A++[0,150]).map λ(a:Nat)=>(a:Int)))).map Us,?_,?_,?_⟩
 ·unfold natS;rw[TX];refine UP λi hi=>?_;obtain⟨a,_,rfl⟩:=TR.mp ((An _ _).mp ((AN _).mem_iff.mp hi));rfl
 ·rw[Se,(AN _).length_eq]
  have:=List.Nodup.length_le_of_subset (l₁:=[(0:Int),150]) (l₂:=AO ((A++[0,150]).map λ(a:Nat)=>(a:Int))) (by decide) λx hx=>by
   refine(An _ _).mpr ?_;rw[Sz];exact TF _ hx
  exact this
 ·rw[Se,(AN _).length_eq];have sub:∀(ns:List Int) (a:Int),a∈AO ns->a∈ns:=λns a ha=>(An ns a).mp ha;have:=List.Nodup.length_le_of_subset (HA _) (sub ((A++[0,150]).map λ(a:Nat)=>(a:Int)));rw[Se,Sl]at this;exact this
theorem Nl(hΔ:∀ f,MonoN (Δ f)){kd:Nat}(hd:w6 (Δ kd)){D:Df}(hb:D.body=OU kd)(hN:D.N.length=4)(hp:D.ps.length=2):M5 (i9 Δ D):=by
 intro t l cs S Q T lt hl cl q;unfold i9;rw[hb,hN];refine⟨hp.symm,_,rfl,_,c8 hl,?_⟩;refine g8 (j5 hΔ _).2 (c9 hΔ _).1 (λi ys S'=>S'=S/\∃ A:List Nat,ys=natS A/\A.length<=i) ⟨rfl,[],rfl,Sw _⟩ (λ_ _ S' z=>by rw[z.1];exact rfl) ?_ ?_
 ·rintro i x ys S' hx ⟨rfl,A,rfl,al⟩;have hx':(cs.map CG)[i]?=some x:=hx;rw[Sm]at hx';obtain⟨c,hc,rfl⟩:=TU.mp hx';have il:=(gM hc).1;cases c with
  | none=>exact⟨_,rfl,.inl ⟨rfl,_,rfl,ifF rfl ⟨rfl,A,rfl,by omega⟩⟩⟩
  | some c=>exact⟨_,rfl,.inl ⟨rfl,_,rfl,ifT rfl ⟨_,rfl,by rw[g7];show _<100000;omega,rfl,A++[c],by rw[t6];rfl,by rw[Sl];simp;omega⟩⟩⟩
 ·rintro ys S' ⟨rfl,A,rfl,al⟩;rw[AK]at al;obtain⟨L,eL,l2,lL⟩:=M6 A;have ea:natS A++[SV.int 0,SV.int 150]=natS (A++[0,150]):=by rw[t6];rfl
  refine⟨by show 2<=100000;decide,_,_,f8 e8,e8,by rw[g7];show _+2<=100000;omega,_,_,c8 e8,by rw[ea];exact Bz _,by rw[Se,Sl];have:[0,150].length=2:=rfl;omega,?_⟩;rw[eL];have T1:=(((T.push (o:=SO.lst (natS A))).push (o:=SO.lst [SV.int 0,SV.int 150])).push (o:=SO.lst (natS A++[SV.int 0,SV.int 150]))).push (o:=SO.lst (natS L));have O1:=((((On.refl t S').push (o:=SO.lst (natS A))).push (o:=SO.lst [SV.int 0,SV.int 150])).push (o:=SO.lst (natS A++[SV.int 0,SV.int 150]))).push (o:=SO.lst (natS L));have h2:((((S'++[SO.lst (natS A)])++[SO.lst [SV.int 0,SV.int 150]])++[SO.lst (natS A++[SV.int 0,SV.int 150])])++[SO.lst (natS L)])[(((S'++[SO.lst (natS A)])++[SO.lst [SV.int 0,SV.int 150]])++[SO.lst (natS A++[SV.int 0,SV.int 150])]).length]?=some (SO.lst (natS L)):=e8;have tk:t<(((S'++[SO.lst (natS A)])++[SO.lst [SV.int 0,SV.int 150]])++[SO.lst (natS A++[SV.int 0,SV.int 150])]).length:=(((T.push (o:=SO.lst (natS A))).push (o:=SO.lst [SV.int 0,SV.int 150])).push (o:=SO.lst (natS A++[SV.int 0,SV.int 150]))).lt;generalize (((S'++[SO.lst (natS A)])++[SO.lst [SV.int 0,SV.int 150]])++[SO.lst (natS A++[SV.int 0,SV.int 150])]).length=k2 at *;generalize (((S'++[SO.lst (natS A)])++[SO.lst [SV.int 0,SV.int 150]])++[SO.lst (natS A++[SV.int 0,SV.int 150])])++[SO.lst (natS L)]=S1 at *;refine⟨_,rfl,_,rfl,_,c8 h2,?_⟩;show Δ kd [.loc t,.int (((natS L).length:Nat):Int)] S1 _;rw[g7];refine hd T1 (by omega) (by omega) λr S2 r0 r1 T2 O2 _=>?_;have h2:=O2.keep _ _ (by omega) h2
  have get:∀ z:Int,0<=z->z<(L.length:Int)->∃ a:Nat,atI (natS L) z=some (.int (a:Nat)):=λz z0 z1=>by
   have zl:z.toNat<L.length:=by omega
   have hz:=Si zl;generalize L[z.toNat]'zl=a at *;refine⟨a,?_⟩;rw[show z=((z.toNat:Nat):Int) by omega];exact j9 (v6 hz)
  obtain⟨a,ha⟩:=get r r0 r1;refine⟨_,rfl,_,rfl,_,_,c8 h2,ha,_,rfl,_,rfl,_,rfl,_,rfl,_,c8 h2,?_⟩;show Δ kd [.loc t,.int ((((natS L).length:Nat):Int) - 1)] S2 _;rw[g7];refine hd T2 (by omega) (by omega) λr2 S3 r20 r21 T3 O3 _=>?_;have h2:=O3.keep _ _ (by omega) h2;refine⟨_,rfl,_,c8 h2,by rw[g7];show(0:Int)<_;omega,?_⟩;rw[g7];have lp:(0:Int)<(L.length:Int):=by omega
  obtain⟨b,hb'⟩:=get ((r+1+r2) % (L.length:Int)) (UW _ (by omega)) (UI _ lp);exact⟨_,_,c8 h2,hb',by show 2<=100000;decide,q a b S3 T3 ((O1.trans O2).trans O3)⟩
end
def zs3:Stm:=(.iff (.or (.bi .isi (.cons (.var 1) (.cons (.tyc .bool) .nil))) (.bi .isi (.cons (.var 1) (.cons (.tyc .str) .nil)))) [(.ret (.and (.cmp .Eq (.bi .isi (.cons (.var 0) (.cons (.tyc .bool) .nil))) (.bi .isi (.cons (.var 1) (.cons (.tyc .bool) .nil)))) (.cmp .Eq (.var 0) (.var 1))))] [])
noncomputable def EU(k:Nat):List Stm:=[y1,ym1 k,zs3,y5]
section
variable{Δ:Nat->Sn}{k:Nat}{D:Df}
theorem M7(hb:D.body=EU k)(hN:D.N.length=2)(hp:D.ps.length=2){S:Sto}{a:Int}:Fk (i9 Δ D) S (.int a) (.int a):=by
 intro S1 Q h q;unfold i9;rw[hb,hN];refine⟨hp.symm,_,rfl,.inl ⟨rfl,_,rfl,ifF rfl (j4 ?_)⟩⟩;refine⟨_,rfl,by show 2<=big;decide,_,[.list,.tuple],by decide,rfl,rfl,_,rfl,ifF rfl (j4 ?_)⟩;refine⟨_,rfl,_,nofun,rfl,_,rfl,ifF rfl ⟨_,rfl,_,nofun,rfl,_,rfl,ifF rfl (j4 ?_)⟩⟩;refine⟨_,rfl,_,nofun,rfl,_,rfl,ifT rfl ⟨_,rfl,_,nofun,rfl,_,rfl,_,rfl,ifT rfl ⟨_,rfl,_,rfl,?_⟩⟩⟩;have:=q S1 h (Gw.refl _);rw[show true=decide (a=a) from (decide_eq_true rfl).symm]at this;exact this
theorem M8(hb:D.body=EU k)(hN:D.N.length=2)(hp:D.ps.length=2){S:Sto}{a:Str}:Fk (i9 Δ D) S (.str a) (.str a):=by
 intro S1 Q h q;unfold i9;rw[hb,hN];refine⟨hp.symm,_,rfl,.inl ⟨rfl,_,rfl,ifF rfl (j4 ?_)⟩⟩;refine⟨_,rfl,by show 2<=big;decide,_,[.list,.tuple],by decide,rfl,rfl,_,rfl,ifF rfl (j4 ?_)⟩;refine⟨_,rfl,_,nofun,rfl,_,rfl,ifF rfl ⟨_,rfl,_,nofun,rfl,_,rfl,ifT rfl ?_⟩⟩;refine⟨_,rfl,_,nofun,rfl,_,rfl,_,nofun,rfl,_,rfl,ifT rfl ⟨_,rfl,_,rfl,?_⟩⟩;have:=q S1 h (Gw.refl _);rw[show true=decide (a=a) from (decide_eq_true rfl).symm]at this;exact this
theorem DJ(hΔ:∀ f,MonoN (Δ f))(hb:D.body=EU k)(hN:D.N.length=2)(hp:D.ps.length=2){S:Sto}{x y:SV}{xs ys:List SV}{c:TyN}(hc:c = .list\/c = .tuple)(hn:En y=false)
 (hx:∀ S1,Gw S S1->tyS x S1=some c) (hy:∀ S1,Gw S S1->tyS y S1=some c) (sx:∀ S1,Gw S S1->w9 x S1=some xs) (sy:∀ S1,Gw S S1->w9 y S1=some ys) (ht:E5 x=E5 y) (hl:xs.length=ys.length) (hs:xs.length<=2000)
 (keep:∀ S1 S2,Gw S S1->Gw S1 S2->AQ x S1 S2/\AQ y S1 S2) (it:∀(i:Nat) (u v:SV),xs[i]?=some u->ys[i]?=some v->Fk (Δ k) S u v):Fk (i9 Δ D) S x y:=by
 intro S1 Q h q;unfold i9;rw[hb,hN];refine⟨hp.symm,_,rfl,.inl ⟨rfl,_,rfl,?_⟩⟩;show if En y=true then _ else _
 refine ifF hn (j4 ?_);refine⟨_,rfl,by show 2<=big;decide,c,[.list,.tuple],by decide,hy _ h,rfl,_,rfl,ifT (by rcases hc with rfl | rfl<;>rfl) ?_⟩;refine⟨_,rfl,c,nofun,hx _ h,_,rfl,c,nofun,hy _ h,_,rfl,ifF ?_ ⟨_,rfl,c,nofun,hx _ h,_,rfl,c,nofun,hy _ h,_,rfl,ifF ?_ ?_⟩⟩
 ·rcases hc with rfl | rfl<;>rfl
 ·rcases hc with rfl | rfl<;>rfl
 refine⟨_,rfl,_,sx _ h,_,rfl,_,sy _ h,_,rfl,ifT (decide_eq_true (by rw[hl])) ?_⟩;refine⟨_,_,_,_,rfl,rfl,sx _ h,sy _ h,ht,hl,?_⟩;refine g8 (j5 hΔ _).2 (c9 hΔ _).1 (λi ws S'=>Gw S1 S'/\ws=TM i (.bl true)) ⟨Gw.refl _,rfl⟩ ?_ ?_ ?_
 ·rintro i ws S' ⟨G,_⟩;exact keep S1 S' h G
 ·rintro i z ws S' hz ⟨G,rfl⟩;obtain⟨u,v,hu,hv,rfl⟩:=EG hz;have hi:=(gM hu).1;refine⟨_,rfl,_,rfl,it i u v hu hv _ _ (h.trans G) λS2 h2 G2=>⟨by rw[Ue];show _<100000;omega,G.trans G2,?_⟩⟩;rw[List.replicate_succ']
 ·rintro ws S' ⟨G,rfl⟩;refine⟨_,_,nofun,c8 e8,QM _,?_⟩;rw[show ∀ n,(TM n true).all id=true from λn=>by simp];exact q _ (h.trans G).push G.push
end
end Rf
namespace Hue
open PySem L2 Rf
def La:Stm:=(.asg (.tup (.cons (.nm 7) (.cons (.nm 8) .nil))) (.call 23 (.cons (.var 2) (.cons (.var 4) .nil))))
def Lb:Stm:=(.asg (.nm 9) (.comp ["_law_row"] ["_law_web_here"] [3] (.nm 0) (.seq (.call 19 (.cons (.var 3) (.cons (.var 4) (.cons (.var 7) (.cons (.var 8) .nil)))))) .no (.tup (.cons (.call 20 (.cons (.var 1) (.cons (.var 0) .nil))) (.cons (.var 0) .nil)))))
def Lc:Stm:=(.asg (.nm 10) (.call 12 (.cons (.var 3) (.cons (.var 4) (.cons (.var 7) (.cons (.var 8) .nil))))))
def Ld:Stm:=(.iff (.not (.call 21 (.cons (.var 10) (.cons (.var 9) .nil)))) [(.ret (.c (.bl false)))] [])
def Le:Stm:=(.loop (.tup (.cons (.nm 11) (.cons (.nm 12) .nil))) (.seq (.var 10)) [(.expr (.mt .append (.var 12) (.cons (.neg (.c (.int 1))) .nil)))])
def Lf:Stm:=(.expr (.mt .append (.var 10) (.cons (.c .non) .nil)))
def Lg:Stm:=(.iff (.not (.call 21 (.cons (.call 12 (.cons (.var 3) (.cons (.var 4) (.cons (.var 8) (.cons (.var 7) .nil))))) (.cons (.var 9) .nil)))) [(.ret (.c (.bl false)))] [])
def Lh:Stm:=(.iff (.cmp .NotEq (.var 7) (.var 8)) [Lb,Lc,Ld,Le,Lf,Lg] [])
def top(i:Nat):Stmt:=PySem.Challenge.pw_huedties_k14_all_rows_of_two_hues.main.body.getD i (.Pass ⟨0,0,0,0⟩)
def b0:List Stm:=LR
def d0:Df:=⟨"is_number",top 6,["thing"],["thing"],b0⟩
def b1:List Stm:=Dq 0
def d1:Df:=⟨"has_place",top 8,["web","place"],["web","place"],b1⟩
def b2:List Stm:=Hw 0
def d2:Df:=⟨"has_tie",top 9,["web","tie"],["web","tie"],b2⟩
def b3:List Stm:=EL 1
def d3:Df:=⟨"check_place",top 10,["web","place"],["web","place"],b3⟩
def b4:List Stm:=EL 2
def d4:Df:=⟨"check_tie",top 11,["web","tie"],["web","tie"],b4⟩
def b5:List Stm:=Hx 3
def d5:Df:=⟨"ties_at",top 12,["web","place"],["web","place"],b5⟩
def b6:List Stm:=LZ 5
def d6:Df:=⟨"count_at",top 13,["web","place"],["web","place"],b6⟩
def b7:List Stm:=LU
def d7:Df:=⟨"parts",top 14,["web"],["web","least","one","other","low","high"],b7⟩
def b8:List Stm:=OQ 4
def d8:Df:=⟨"only",top 15,["web","ties"],["web","ties","tie"],b8⟩
def b9:List Stm:=Lp
def d9:Df:=⟨"within",top 16,["web","places"],["web","places","among"],b9⟩
def b10:List Stm:=Hy
def d10:Df:=⟨"check_unlike",top 18,["one","other"],["one","other"],b10⟩
def b11:List Stm:=OT 6
def d11:Df:=⟨"word_of",top 19,["web","places"],["web","places"],b11⟩
def b12:List Stm:=IA "rows_of" ⟨58,29,58,52⟩ 10 8 7 9 11
def d12:Df:=⟨"rows_of",top 20,["web","hueing","one","other"],["web","hueing","one","other","ties","both","found","places","row"],b12⟩
def b13:List Stm:=OM
def d13:Df:=⟨"_law_tape",top 22,["_law_script","_law_k"],["_law_script","_law_k","_law_cell","_law_digits"],b13⟩
noncomputable def b14:List Stm:=ON
noncomputable def d14:Df:=⟨"_law_draw",top 23,["_law_tape_here","_law_many"],["_law_tape_here","_law_many","_law_found","_law_once"],b14⟩
def b15:List Stm:=LQ 14
def d15:Df:=⟨"_law_pairs_by",top 24,["_law_tape_here","_law_great"],["_law_tape_here","_law_great","_law_way","_law_many","_law_found","_law_turn","_law_one","_law_k","_law_sides"],b15⟩
def b16:List Stm:=Rw 14 15
def d16:Df:=⟨"_law_web",top 25,["_law_tape_here","_law_great"],["_law_tape_here","_law_great","_law_many","_law_pairs","_law_ties","_law_one","_law_other"],b16⟩
def b17:List Stm:=OR
def d17:Df:=⟨"_law_meet",top 26,["_law_web_here","_law_one","_law_other"],["_law_web_here","_law_one","_law_other"],b17⟩
noncomputable def b18:List Stm:=OS 14 17
noncomputable def d18:Df:=⟨"_law_hueing",top 27,["_law_tape_here","_law_web_here","_law_bare"],["_law_tape_here","_law_web_here","_law_bare","_law_some","_law_found","_law_tie","_law_taken","_law_free","_law_hue"],b18⟩
def b19:List Stm:=Ly 17
def d19:Df:=⟨"_law_rows",top 28,["_law_web_here","_law_hueing_here","_law_one","_law_other"],["_law_web_here","_law_hueing_here","_law_one","_law_other","_law_rows_here","_law_tie","_law_near","_law_joined","_law_row"],b19⟩
def b20:List Stm:=M0
def d20:Df:=⟨"_law_word",top 29,["_law_web_here","_law_row"],["_law_web_here","_law_row","_law_held","_law_tie"],b20⟩
noncomputable def b21:List Stm:=EU 21
noncomputable def d21:Df:=⟨"_law_same",top 30,["_law_found","_law_due"],["_law_found","_law_due"],b21⟩
def b22:List Stm:=M3 16 14 18
def d22:Df:=⟨"_law_case",top 31,["_law_tape_here","_law_bare"],["_law_tape_here","_law_bare","_law_web_here"],b22⟩
def b23:List Stm:=OU 14
def d23:Df:=⟨"_law_two",top 32,["_law_tape_here","_law_hueing_here"],["_law_tape_here","_law_hueing_here","_law_some","_law_at"],b23⟩
def b24:List Stm:=[(.loop (.nm 1) (.rng1 (.op .Add (.c (.int 1)) (.bi .min (.cons (.c (.int 9)) (.cons (.bi .len (.cons (.var 0) .nil)) .nil))))) [(.asg (.nm 2) (.call 13 (.cons (.var 0) (.cons (.var 1) .nil)))),(.asg (.tup (.cons (.nm 3) (.cons (.nm 4) .nil))) (.call 22 (.cons (.var 2) (.cons (.c (.bl true)) .nil)))),(.asg (.nm 5) (.bi .list (.cons (.var 4) .nil))),(.loop (.nm 6) (.rng1 (.c (.int 3))) [La,Lh]),(.iff (.cmp .NotEq (.var 4) (.var 5)) [(.ret (.c (.bl false)))] [])]),(.ret (.c (.bl true)))]
def d24:Df:=⟨"law",top 33,["_law_script"],["_law_script","_law_k","_law_tape_here","_law_web_here","_law_hueing_here","_law_kept","_law_turn","_law_one","_law_other","_law_due","_law_found","_law_word_here","_law_row"],b24⟩
noncomputable def prog:List Df:=[d0,d1,d2,d3,d4,d5,d6,d7,d8,d9,d10,d11,d12,d13,d14,d15,d16,d17,d18,d19,d20,d21,d22,d23,d24]
theorem Fs:prog.all (NU (prog.map (·.name)))=true:=by decide +kernel
theorem hW(d:Nat):∀ f,MonoN (W prog d f):=D4 d
theorem s0(d:Nat):CY (W prog (d+1) 0):=LS (Δ:=W prog d) (D:=d0) rfl rfl rfl
theorem s1(d:Nat):Bh (W prog (d+2) 1):=Fd (Δ:=W prog (d+1)) (D:=d1) (s0 d) rfl rfl rfl
theorem s2(d:Nat):D7 (W prog (d+2) 2):=JO (Δ:=W prog (d+1)) (D:=d2) (s0 d) rfl rfl rfl
theorem s3(d:Nat):B3 (W prog (d+3) 3):=DP (Δ:=W prog (d+2)) (D:=d3) (s1 d) rfl rfl rfl
theorem s4(d:Nat):Bi (W prog (d+3) 4):=Fe (Δ:=W prog (d+2)) (D:=d4) (s2 d) rfl rfl rfl
theorem s5(d:Nat):D8 (W prog (d+4) 5):=JP (Δ:=W prog (d+3)) (D:=d5) (hW _) (s3 d) rfl rfl rfl
theorem s6(d:Nat):EQ (W prog (d+5) 6):=Li (Δ:=W prog (d+4)) (D:=d6) (s5 d) rfl rfl rfl
theorem s7(d:Nat):DB (W prog (d+1) 7):=JR (Δ:=W prog d) (D:=d7) (hW _) rfl rfl rfl
theorem s8(d:Nat):Gx (W prog (d+4) 8):=Nd (Δ:=W prog (d+3)) (D:=d8) (hW _) (s4 d) rfl rfl rfl
theorem s9(d:Nat):CZ (W prog (d+1) 9):=Lr (Δ:=W prog d) (D:=d9) (hW _) rfl rfl rfl
theorem s10(d:Nat):DE (W prog (d+1) 10):=JS (Δ:=W prog d) (D:=d10) rfl rfl rfl
theorem s11(d:Nat):ES (W prog (d+6) 11):=Ng (Δ:=W prog (d+5)) (D:=d11) (hW _) (s6 d) rfl rfl rfl
theorem s12(d:Nat):Fq "rows_of" ⟨58,29,58,52⟩ (W prog (d+7) 12):=JV (Δ:=W prog (d+6)) (D:=d12) (hW _) (s10 (d+5)) (s8 (d+2)) (s7 (d+5)) (s9 (d+5)) (s11 d) rfl rfl rfl
theorem s13(d:Nat):LP (W prog (d+1) 13):=NX (Δ:=W prog d) (D:=d13) rfl rfl rfl
theorem s14(d:Nat):w6 (W prog (d+1) 14):=NW (Δ:=W prog d) (D:=d14) rfl rfl rfl
theorem s15(d:Nat):D5 (!·) (W prog (d+2) 15):=JN (Δ:=W prog (d+1)) (D:=d15) (hW _) (s14 d) rfl rfl rfl
theorem s16(d:Nat):WebKSp (!·) (W prog (d+3) 16):=NZ (Δ:=W prog (d+2)) (D:=d16) (hW _) (s14 (d+1)) (s15 d) rfl rfl rfl
theorem s17(d:Nat):DD (W prog (d+1) 17):=Lj (Δ:=W prog d) (D:=d17) rfl rfl rfl
theorem s18(d:Nat):ET (W prog (d+2) 18):=M2 (Δ:=W prog (d+1)) (D:=d18) (hW _) (s14 d) (s17 d) rfl rfl rfl
theorem s19(d:Nat):ID (W prog (d+2) 19):=Lz (Δ:=W prog (d+1)) (D:=d19) (hW _) (s17 d) rfl rfl rfl
theorem s20(d:Nat):IE (W prog (d+1) 20):=M1 (Δ:=W prog d) (D:=d20) (hW _) rfl rfl rfl
theorem s22(d:Nat):IF (W prog (d+4) 22):=M4 (Δ:=W prog (d+3)) (D:=d22) (hW _) (WebKSp.sp (c:=(!·)) (s16 d)) (s14 (d+2)) (s18 (d+1)) rfl rfl rfl
theorem s23(d:Nat):M5 (W prog (d+2) 23):=Nl (Δ:=W prog (d+1)) (D:=d23) (hW _) (s14 d) rfl rfl rfl
theorem s21(d:Nat){S:Sto}{k l:Nat}{es:EE}{ps qs:List (Nat×List Nat)}(h1:RowsAt S k es ps)(h2:RowsAt S l es qs)(e:ps.map (·.2)=qs.map (·.2))(pl:ps.length<=60)(rl:∀ p∈ps,p.2.length<=60):Fk (W prog (d+4) 21) S (.loc k) (.loc l):=by
 have len:ps.length=qs.length:=by have:=congrArg Uu e;rwa [Se,Se]at this
 have ls:∀{a b:Nat} {xs ys:List SV},S[a]?=some (.lst xs)->S[b]?=some (.lst ys)->∀ S1 S2,Gw S S1->Gw S1 S2->AQ (.loc a) S1 S2/\AQ (.loc b) S1 S2:=λ{a b xs ys} ha hb S1 S2 G G2=>⟨by show S2[a]?=S1[a]?;rw[G.keep _ _ ha,G2.keep _ _ (G.keep _ _ ha)],by show S2[b]?=S1[b]?;rw[G.keep _ _ hb,G2.keep _ _ (G.keep _ _ hb)]⟩
 show Fk (i9 (W prog (d+3)) d21) S _ _;refine DJ (k:=21) (hW _) rfl rfl rfl (c := .list) (.inl rfl) rfl (λS1 G=>EJ (G.keep _ _ h1.top)) (λS1 G=>EJ (G.keep _ _ h2.top)) (λS1 G=>c8 (G.keep _ _ h1.top)) (λS1 G=>c8 (G.keep _ _ h2.top)) rfl (by rw[Se,Se];exact len) (by rw[Se];omega) (ls h1.top h2.top) λi u v hu hv=>?_;rw[Sm]at hu hv;obtain⟨p,hp,rfl⟩:=TU.mp hu;obtain⟨q,hq,rfl⟩:=TU.mp hv
 have e2:p.2=q.2:=by
  have:=congrArg (λl=>l[i]?) e;rw[Sm,Sm,hp,hq]at this;exact oj this
 have mp:=Ss hp;have hr:=h1.row p mp;have hr2:=h2.row q (Ss hq);have r6:=rl p mp;unfold itemS;rw[<-e2]at hr2 ⊢;show Fk (i9 (W prog (d+2)) d21) S _ _;refine DJ (k:=21) (hW _) rfl rfl rfl (c := .tuple) (.inr rfl) rfl (λ_ _=>rfl) (λ_ _=>rfl) (λ_ _=>rfl) (λ_ _=>rfl) rfl rfl (by show 2<=2000;decide) (λ_ _ _ _=>⟨trivial,trivial⟩) λi u v hu hv=>?_
 match i,hu,hv with
 | 0,hu,hv=>
   cases hu;cases hv;exact M8 (Δ:=W prog (d+1)) (D:=d21) (k:=21) rfl rfl rfl
 | 1,hu,hv=>
   cases hu;cases hv;show Fk (i9 (W prog (d+1)) d21) S _ _;refine DJ (k:=21) (hW _) rfl rfl rfl (c := .list) (.inl rfl) rfl (λS1 G=>EJ (G.keep _ _ hr)) (λS1 G=>EJ (G.keep _ _ hr2)) (λS1 G=>c8 (G.keep _ _ hr)) (λS1 G=>c8 (G.keep _ _ hr2)) rfl rfl (by rw[g7];omega) (ls hr hr2) λj u v hu hv=>?_;rw[hu]at hv;cases hv;obtain⟨a,_,rfl⟩:=AI hu;exact M7 (Δ:=W prog d) (D:=d21) (k:=21) rfl rfl rfl
 | (j+2),hu,hv=>simp at hu
theorem Nm:∀ c:Option Nat,eqF (CG c) (CG c)=true
 | none=>rfl
 | some j=>decide_eq_true (rfl:(j:Int)=(j:Int))
theorem JW(cs:List (Option Nat)):DN (optsS cs) (optsS cs)=true:=by
 unfold DN optsS;simp only[beq_self_eq_true,WZ];rw[T9];intro p hp;rw[Wc]at hp;obtain⟨c,_,rfl⟩:=TR.mp hp;exact Nm c
structure LI(t lh lk:Nat)(cs:List (Option Nat))(S:Sto):Prop where
 T:TapeS S t
 t0:0<t
 tl:t<lh
 lt:lh<lk
 tb:S[0]?=some (.tbl "rows_of" ⟨58,29,58,52⟩)
 hh:S[lh]?=some (.lst (optsS cs))
 hk:S[lk]?=some (.lst (optsS cs))
theorem LI.gw{t lh lk:Nat}{cs:List (Option Nat)}{S S':Sto}(I:LI t lh lk cs S)(G:Gw S S'):LI t lh lk cs S':=⟨G.tape I.T,I.t0,I.tl,I.lt,G.keep _ _ I.tb,G.keep _ _ I.hh,G.keep _ _ I.hk⟩
theorem LI.on{t lh lk:Nat}{cs:List (Option Nat)}{S S':Sto}(I:LI t lh lk cs S)(T:TapeS S' t)(O:On t S S'):LI t lh lk cs S':=⟨T,I.t0,I.tl,I.lt,O.keep _ _ (by have:=I.t0;omega) I.tb,O.keep _ _ (by have:=I.tl;omega) I.hh,O.keep _ _ (by have:=I.tl;have:=I.lt;omega) I.hk⟩
theorem QW{E:EndsS}{rest:List Stm}{n t lh lk a b:Nat}{es:EE}{cs:List (Option Nat)}{S:Sto}{o0 o1 o2 o5 o6 o9 o10 o11 o12:Option SV}(Wb:Web n es)(cl:cs.length=es.length)(I:LI t lh lk cs S)
 (q:∀(ld:Nat) (ps:List (Nat×List Nat)) (S':Sto),Gw S S'->RowsAt S' ld es ps->Rows (grp n es (y0 cs a b)) (y0 cs a b) (ps.map (·.2))->wSs (W prog 8) rest E [o0,o1,o2,some (j3 n es),some (.loc lh),o5,o6,some (.int (a:Nat)),some (.int (b:Nat)),some (.loc ld),o10,o11,o12] S'):
 wSs (W prog 8) (Lb::rest) E [o0,o1,o2,some (j3 n es),some (.loc lh),o5,o6,some (.int (a:Nat)),some (.int (b:Nat)),o9,o10,o11,o12] S:=by
 have e6:=Wb.len;have tlt:∀ t∈y0 cs a b,t<es.length:=λt h=>by rw[<-cl];exact Lu t h
 have tl:(y0 cs a b).length<=39:=by have:=v9 (λt=>decide (cs.getD t none=some a)||decide (cs.getD t none=some b)) cs.length;unfold y0;omega
 refine⟨_,rfl,_,rfl,_,rfl,_,rfl,s19 6 Wb.en (by omega) cl I.hh λl ps S1 G1 l0 R1 R=>⟨_,c8 R1.top,?_⟩⟩;have few:=Au R.toRows0;rw[Se]at few;refine g8 (j5 (hW _) _).2 (c9 (hW _) _).1 (λi ys S'=>Gw S1 S'/\ys=(ps.take i).map (itemS es)) ⟨Gw.refl _,rfl⟩ (λ_ _ S' z=>by show S'[l]?=S1[l]?;rw[R1.top];exact z.1.keep _ _ R1.top) ?_ ?_
 ·rintro i x ys S' hx ⟨G,rfl⟩;rw[Sm]at hx;obtain⟨p,hp,rfl⟩:=TU.mp hx;have hm:=Ss hp;have hR:=TZ (f:=λp:Nat×List Nat=>p.2) hm;have rl:=Ca R.toRows0 hR;refine⟨_,rfl,_,rfl,s20 7 (G.keep _ _ (R1.row p hm)) (by omega) (λu hu=>tlt u (R.mem _ hR u hu).1) λS2 G2=>⟨_,rfl,by show 2<=100000;decide,by rw[Se,Tn];show _<100000;omega,G.trans G2,?_⟩⟩;rw[Tz,hp,Sz];rfl
 ·rintro ys S' ⟨G,rfl⟩;rw[Se,Tp];exact q S'.length ps _ (G1.trans G).push ⟨e8,λp hp=>f8 (G.keep _ _ (R1.row p hp))⟩ R
theorem LI.kp{t lh lk N:Nat}{cs:List (Option Nat)}{S S':Sto}(I:LI t lh lk cs S)(hN:lk<N)(k:∀ k o,k<N->S[k]?=some o->S'[k]?=some o):LI t lh lk cs S':=by
 have h1:=I.t0;have h2:=I.tl;have h3:=I.lt;obtain⟨a,b,h,c⟩:=I.T.ex;exact⟨⟨a,b,k _ _ (by omega) h,c⟩,h1,h2,h3,k _ _ (by omega) I.tb,k _ _ (by omega) I.hh,k _ _ hN I.hk⟩
theorem M9{E:EndsS}{n t lh lk:Nat}{es:EE}{cs:List (Option Nat)}{S:Sto}{o0 o1 o6 o7 o8 o9 o10 o11 o12:Option SV}(Wb:Web n es)(cl:cs.length=es.length)(I:LI t lh lk cs S)
 (q:∀(o7 o8 o9 o10 o11 o12:Option SV) (S':Sto),LI t lh lk cs S'->E.nx [o0,o1,some (.loc t),some (j3 n es),some (.loc lh),some (.loc lk),o6,o7,o8,o9,o10,o11,o12] S'):
 wSs (W prog 8) [La,Lh] E [o0,o1,some (.loc t),some (j3 n es),some (.loc lh),some (.loc lk),o6,o7,o8,o9,o10,o11,o12] S:=by
 have e6:=Wb.len;have n6:=Wb.few;refine⟨_,rfl,_,rfl,s23 6 I.T (by have:=I.tl;omega) I.hh (by omega) λa b S1 T1 O1=>?_⟩;show wSs (W prog 8) [Lh] E [o0,o1,some (.loc t),some (j3 n es),some (.loc lh),some (.loc lk),o6,some (.int (a:Nat)),some (.int (b:Nat)),o9,o10,o11,o12] S1;have I1:=I.on T1 O1;refine⟨_,rfl,_,rfl,_,rfl,?_⟩;refine ifB (λz=>?_) (λz=>j4 (Δ:=W prog 8) (j4 (Δ:=W prog 8) (q _ _ _ _ _ _ S1 I1)));have ab:a≠b:=λe=>by subst e;simp at z
 have tl:∀ a b,(y0 cs a b).length<=39:=λa b=>by have:=v9 (λt=>decide (cs.getD t none=some a)||decide (cs.getD t none=some b)) cs.length;unfold y0;omega
 refine QW Wb cl I1 λld ps S2 G2 RA R=>?_;have I2:=I1.gw G2;have few:=Au R.toRows0;rw[Se]at few;have tl1:=tl a b
 have rws:∀{qs:List (Nat×List Nat)},qs.map (·.2)=ps.map (·.2)->qs.length<=60/\∀ p∈qs,p.2.length<=60:=λ{qs} e=>by
  constructor
  ·have:=congrArg Uu e;rw[Se,Se]at this;omega
  ·intro p hp;have:=Ca R.toRows0 (e▸TZ (f:=λp:Nat×List Nat=>p.2) hp);omega
 refine⟨_,rfl,_,rfl,_,rfl,_,rfl,s12 1 Wb.en (by omega) (by omega) cl ab I2.tb I2.hh λlf qs S3 G3 l0 RB nb R'=>?_⟩;have eq1:=R'.uniq R;obtain⟨q6,r6⟩:=rws eq1;have RA3:RowsAt S3 ld es ps:=⟨G3.keep _ _ RA.top,λp hp=>G3.keep _ _ (RA.row p hp)⟩
 dsimp only[List.set];refine⟨_,rfl,_,rfl,s21 4 RB RA3 eq1 q6 r6 _ _ (Gw.refl _) λS4 G4 _=>⟨_,rfl,ifF rfl (j4 ?_)⟩⟩;have hf:=G4.keep _ _ RB.top;have rb:∀ p∈qs,S4[p.1]?=some (.lst (natS p.2)):=λp hp=>G4.keep _ _ (RB.row p hp);have lk2:=(gM I2.hk).1;refine⟨_,rfl,_,c8 hf,?_⟩;refine AY (j6 (hW _) _) (λi ρ S'=>∃ o11 o12,ρ=[o0,o1,some (.loc t),some (j3 n es),some (.loc lh),some (.loc lk),o6,some (.int (a:Nat)),some (.int (b:Nat)),some (.loc ld),some (.loc lf),o11,o12]/\(∀ k o,(k<S2.length\/k=lf)->S4[k]?=some o->S'[k]?=some o)/\∀ p∈qs,∃ xs,S'[p.1]?=some (.lst xs)/\xs.length<=60+i) ⟨_,_,rfl,λ_ _ _ h=>h,λp hp=>⟨_,rb p hp,by rw[g7];exact Th (r6 p hp) (To _ _)⟩⟩ (λ_ _ S' z=>?_) ?_ ?_
 ·obtain⟨_,_,_,k,_⟩:=z;show S'[lf]?=S4[lf]?;rw[hf];exact k _ _ (.inr rfl) hf
 ·rintro i x ρ S' E' hE _ hx ⟨o11,o12,rfl,k,hr⟩;have il:=(gM hx).1;rw[Se]at il;rw[Sm]at hx;obtain⟨p,hp,rfl⟩:=TU.mp hx;have hm:=Ss hp;have np:=nb p hm;obtain⟨xs,h1,h2⟩:=hr p hm;refine⟨_,rfl,⟨_,_,rfl,h1⟩,_,h1,by show _<100000;omega,j4 (Δ:=W prog 8) (hE _ _ ⟨_,_,rfl,λj o hj h=>?_,λp' hp'=>?_⟩)⟩
  ·rw[BG (by omega)];exact k j o hj h
  ·by_cases e:p'.1=p.1
   ·exact⟨_,by rw[e];exact B2 h1,by rw[Sl];show xs.length+1<=_;omega⟩
   ·obtain⟨ys,h3,h4⟩:=hr p' hp';exact⟨ys,by rw[BG (Ne.symm e)];exact h3,by omega⟩
 ·rintro ρ S5 ⟨o11,o12,rfl,k,hr⟩;have h5:=k _ _ (.inr rfl) hf;refine⟨_,rfl,⟨_,_,rfl,h5⟩,_,h5,by rw[Se];show _<100000;omega,?_⟩
  have k6:∀ j o,j<S2.length->S2[j]?=some o->(S5.set lf (.lst (qs.map (itemS es)++[.non])))[j]?=some o:=λj o hj h=>by
   rw[BG (by omega)];exact k j o (.inl hj) (G4.keep _ _ (G3.keep _ _ h))
  generalize S5.set lf (.lst (qs.map (itemS es)++[.non]))=S6 at *;have I6:=I2.kp lk2 k6;have RA6:RowsAt S6 ld es ps:=⟨k6 _ _ (gM RA.top).1 RA.top,λp hp=>k6 _ _ (gM (RA.row p hp)).1 (RA.row p hp)⟩
  refine⟨_,rfl,_,rfl,_,rfl,_,rfl,s12 1 Wb.en (by omega) (by omega) cl (Ne.symm ab) I6.tb I6.hh λlf2 qs2 S7 G7 _ RC _ R2=>⟨_,rfl,?_⟩⟩;rw[Ls cs b a]at R2;have eq2:=R2.uniq R;obtain⟨q7,r7⟩:=rws eq2;have RA7:RowsAt S7 ld es ps:=⟨G7.keep _ _ RA6.top,λp hp=>G7.keep _ _ (RA6.row p hp)⟩
  exact s21 4 RC RA7 eq2 q7 r7 _ _ (Gw.refl _) λS8 G8 _=>⟨_,rfl,ifF rfl (j4 (Δ:=W prog 8) (j4 (Δ:=W prog 8) (j4 (Δ:=W prog 8) (q _ _ _ _ _ _ S8 (I6.gw (G7.trans G8))))))⟩
theorem law_main(ns:List Int)(h:ns.length<=63):W prog 9 24 [.ro (ns.map SV.int)] [.tbl "rows_of" ⟨58,29,58,52⟩] λx _=>x = .bl true:=by
 show i9 (W prog 8) d24 _ _ _
 have hj:∃ m:Nat,1+(if ((ns.map SV.int).length:Int)<(9:Int) then ((ns.map SV.int).length:Int) else 9)=(m:Int)/\m<=10:=by
  rw[Se];generalize ns.length=k;refine⟨1+min k 9,?_,by omega⟩;split<;>omega
 obtain⟨m,hm,hm4⟩:=hj;refine⟨rfl,_,rfl,_,rfl,m,congrArg SV.int hm,⟨by omega,by omega⟩,?_⟩;refine AY (j6 (hW _) _) (λi ρ S'=>(∃ o1 o2 o3 o4 o5 o6 o7 o8 o9 o10 o11 o12,ρ=[some (.ro (ns.map SV.int)),o1,o2,o3,o4,o5,o6,o7,o8,o9,o10,o11,o12])/\S'[0]?=some (.tbl "rows_of" ⟨58,29,58,52⟩)) ⟨⟨_,_,_,_,_,_,_,_,_,_,_,_,rfl⟩,rfl⟩ (λ_ _ _ _=>trivial) ?_ ?_
 ·rintro i x ρ S E hE _ hx ⟨⟨o1,o2,o3,o4,o5,o6,o7,o8,o9,o10,o11,o12,rfl⟩,tb⟩;obtain⟨rfl,hi⟩:=n8 hx;rw[Uo]at hi ⊢;refine⟨_,rfl,_,rfl,s13 7 h (by omega) λa b ha hb hb2=>?_⟩;have T1:TapeS (S++[SO.lst [.int a,.int b]]) S.length:=⟨a,b,e8,ha,hb,hb2⟩
  have t0:=(gM tb).1;have tb:=f8 (o:=SO.lst [.int a,.int b]) tb;have l1:(S++[SO.lst [.int a,.int b]]).length=S.length+1:=by simp
  generalize S.length=t at *;generalize S++[SO.lst [.int a,.int b]]=S1 at *;refine⟨_,rfl,s22 4 T1 λn lh es cs S2 Wb T2 O2 l0 h2 cl lt=>?_⟩;show wSs (W prog 8) (_::_) E [some (.ro (ns.map SV.int)),some (.int (i:Nat)),some (.loc t),some (j3 n es),some (.loc lh),o5,o6,o7,o8,o9,o10,o11,o12] S2;refine⟨_,rfl,_,c8 h2,?_⟩;show wSs (W prog 8) (_::_) E [some (.ro (ns.map SV.int)),some (.int (i:Nat)),some (.loc t),some (j3 n es),some (.loc lh),some (.loc S2.length),o6,o7,o8,o9,o10,o11,o12] (S2++[.lst (optsS cs)]);have I:LI t lh S2.length cs (S2++[SO.lst (optsS cs)]):=⟨T2.push,by omega,by omega,(gM h2).1,f8 (O2.keep _ _ (by omega) tb),f8 h2,e8⟩
  generalize S2.length=lk at *;generalize S2++[SO.lst (optsS cs)]=S3 at *;refine⟨_,rfl,⟨by decide,by decide⟩,?_⟩;refine AY (j6 (hW _) _) (λj ρ S'=>(∃ o6 o7 o8 o9 o10 o11 o12,ρ=[some (.ro (ns.map SV.int)),some (.int (i:Nat)),some (.loc t),some (j3 n es),some (.loc lh),some (.loc lk),o6,o7,o8,o9,o10,o11,o12])/\LI t lh lk cs S') ⟨⟨_,_,_,_,_,_,_,rfl⟩,I⟩ (λ_ _ _ _=>trivial) ?_ ?_
  ·rintro j y ρ S4 E' hE' _ hy ⟨⟨o6,o7,o8,o9,o10,o11,o12,rfl⟩,I4⟩;exact M9 Wb cl I4 λo7 o8 o9 o10 o11 o12 S' I'=>hE' _ _ ⟨⟨_,_,_,_,_,_,_,rfl⟩,I'⟩
  ·rintro ρ S4 ⟨⟨o6,o7,o8,o9,o10,o11,o12,rfl⟩,I4⟩;exact⟨_,rfl,_,rfl,_,_,I4.hh,I4.hk,.inl ⟨CH _,CH _⟩,_,rfl,ifF (by rw[JW];rfl) (j4 (Δ:=W prog 8) (j4 (Δ:=W prog 8) (hE _ _ ⟨⟨_,_,_,_,_,_,_,_,_,_,_,_,rfl⟩,I4.tb⟩)))⟩
 ·rintro ρ S ⟨⟨o1,o2,o3,o4,o5,o6,o7,o8,o9,o10,o11,o12,rfl⟩,_⟩;exact rfl
end Hue
namespace PySem.W.Fast
theorem tw10592982908620326758:True:=⟨⟩
theorem tw11260935852749057977:True:=⟨⟩
theorem tw8846142464993340368:True:=⟨⟩
theorem tw14407744231998113771:True:=⟨⟩
theorem tw10471738661008307484:True:=⟨⟩
end PySem.W.Fast
namespace Hue
open PySem L2 Rf
noncomputable def A7(K:Sd)(nm:Str)(i:Nat):Prop:=∃(f:Wm) (od an:Option Wm) (sl:Array (Option Wk)) (oc kV dc pm cd ct:Wk),PySem.W.nsIn K Wq nm=some (some (.ref f))/\K.lookup f=some ⟨oc,od,.func (PySem.W.fnOf nm nm (defArgs (top i)) (defBody (top i)) (defScope (top i)) .none kV dc pm an cd ct),sl⟩/\PySem.W.codeIn K cd nm=true/\PySem.W.keepIn K (.ref f)=true
theorem lnkK_mk{K:Sd}{nm:Str}{i:Nat}{f:Wm}{od an:Option Wm}{sl:Array (Option Wk)}{oc kV dc pm cd ct:Wk}(a:PySem.W.nsIn K Wq nm=some (some (.ref f)))(l:K.lookup f=some ⟨oc,od,.func (PySem.W.fnOf nm nm (defArgs (top i)) (defBody (top i)) (defScope (top i)) .none kV dc pm an cd ct),sl⟩)(c:PySem.W.codeIn K cd nm=true)(k:PySem.W.keepIn K (.ref f)=true):A7 K nm i:=⟨f,od,an,sl,oc,kV,dc,pm,cd,ct,a,l,c,k⟩
theorem j8{K:Sd}{h:Heap}{mg:Str->Option Wk}(X:K.In h)(G:h.Ns Wq mg)(D:Df){i:Nat}(x:A7 K D.name i)(e:D.st=top i)(b:∀(kV doc pm:Wk) (an:Option Wm) (cdv ct:Wk) (us:List Wk),us.length=D.ps.length->Y6 (PySem.W.fnOf D.name D.name (defArgs (top i)) (defBody (top i)) (defScope (top i)) .none kV doc pm an cdv ct) ⟨us,[]⟩=pure (D.ps.zip us)):PIn K mg D:=by
 obtain⟨_,_,_,_,_,_,_,_,_,_,a,l,c,k⟩:=x;exact⟨_,_,e▸G9 (st:=top i) l c k,Hu a l,PySem.W.mg_of X G a,k,(G9 (st:=top i) l c k).binds (ps:=D.ps) b⟩
theorem p8{P:Df->Prop}{D:Df}{l:List Df}(a:P D)(b:∀ x∈l,P x):∀ x∈D::l,P x:=List.forall_mem_cons.mpr ⟨a,b⟩
theorem all_mk{l:PySem.W.OpenLaw}{w:Wt}{K:Sd}{h:Heap}{mg:Str->Option Wk}{fa:Wm}(X:K.In h)(G:h.Ns Wq mg)(hfa:mg "law"=some (.ref fa))
 (x0:A7 K "is_number" 6)
 (x1:A7 K "has_place" 8)
 (x2:A7 K "has_tie" 9)
 (x3:A7 K "check_place" 10)
 (x4:A7 K "check_tie" 11)
 (x5:A7 K "ties_at" 12)
 (x6:A7 K "count_at" 13)
 (x7:A7 K "parts" 14)
 (x8:A7 K "only" 15)
 (x9:A7 K "within" 16)
 (x10:A7 K "check_unlike" 18)
 (x11:A7 K "word_of" 19)
 (x12:A7 K "rows_of" 20)
 (x13:A7 K "_law_tape" 22)
 (x14:A7 K "_law_draw" 23)
 (x15:A7 K "_law_pairs_by" 24)
 (x16:A7 K "_law_web" 25)
 (x17:A7 K "_law_meet" 26)
 (x18:A7 K "_law_hueing" 27)
 (x19:A7 K "_law_rows" 28)
 (x20:A7 K "_law_word" 29)
 (x21:A7 K "_law_same" 30)
 (x22:A7 K "_law_case" 31)
 (x23:A7 K "_law_two" 32)
 (x24:A7 K "law" 33)
 (z0:PySem.W.nsIn K Wq "len"=some none)
 (z1:PySem.W.nsIn K Wq "abs"=some none)
 (z2:PySem.W.nsIn K Wq "min"=some none)
 (z3:PySem.W.nsIn K Wq "max"=some none)
 (z4:PySem.W.nsIn K Wq "int"=some none)
 (z5:PySem.W.nsIn K Wq "list"=some none)
 (z6:PySem.W.nsIn K Wq "tuple"=some none)
 (z7:PySem.W.nsIn K Wq "all"=some none)
 (z8:PySem.W.nsIn K Wq "any"=some none)
 (z9:PySem.W.nsIn K Wq "sorted"=some none)
 (z10:PySem.W.nsIn K Wq "isinstance"=some none)
 (z11:PySem.W.nsIn K Wq "str"=some none)
 (z12:PySem.W.nsIn K Wq "range"=some none)
 (z13:PySem.W.nsIn K Wq "enumerate"=some none)
 (z14:PySem.W.nsIn K Wq "zip"=some none)
 (z15:PySem.W.nsIn K Wq "set"=some none)
 (z16:PySem.W.nsIn K Wq "bool"=some none)
 (z17:PySem.W.nsIn K Wq "dict"=some none)
 (z18:PySem.W.nsIn K Wq "reversed"=some none)
 (z19:PySem.W.nsIn K Wq "repr"=some none)
 (z20:PySem.W.nsIn K Wq "sum"=some none)
 : ∃ fd:XY,(∀(s:Wl) (v:Wk),BindsTo s fd ⟨[v],[]⟩ [("_law_script",v)])/\∀ base:Heap,K.In base->base.Ns Wq mg->FnOk l.prog w K mg base CX0 9 fa fd ["_law_script"] (spS K (W prog 9 24)):=by
 have y:=x24;obtain⟨f24,od24,an24,sl24,oc24,kV24,dc24,pm24,cd24,ct24,a24,l24,c24,k24⟩:=x24;have e:=hfa.symm.trans (PySem.W.mg_of X G a24);cases e
 have B:Bl mg:=by
  refine⟨λb=>?_,TB X G z12,TB X G z13,TB X G z18,TB X G z14,TB X G z20,TB X G z15,TB X G z17,λt ht=>?_⟩
  ·cases b with
   | len=>exact TB X G z0
   | abs=>exact TB X G z1
   | min=>exact TB X G z2
   | max=>exact TB X G z3
   | int=>exact TB X G z4
   | list=>exact TB X G z5
   | tuple=>exact TB X G z6
   | all=>exact TB X G z7
   | any=>exact TB X G z8
   | sorted=>exact TB X G z9
   | isi=>exact TB X G z10
   | str=>exact TB X G z11
   | repr=>exact TB X G z19
  ·cases t with
   | int=>exact TB X G z4
   | bool=>exact TB X G z16
   | str=>exact TB X G z11
   | list=>exact TB X G z5
   | tuple=>exact TB X G z6
   | none=>exact absurd rfl ht
 have hin:∀ D∈prog,PIn K mg D:=p8 (j8 X G d0 x0 rfl λ_ _ _ _ _ _=>NT λ_=>rfl) (p8 (j8 X G d1 x1 rfl λ_ _ _ _ _ _=>B1 λ_ _=>rfl) (p8 (j8 X G d2 x2 rfl λ_ _ _ _ _ _=>B1 λ_ _=>rfl) (p8 (j8 X G d3 x3 rfl λ_ _ _ _ _ _=>B1 λ_ _=>rfl) (p8 (j8 X G d4 x4 rfl λ_ _ _ _ _ _=>B1 λ_ _=>rfl) (p8 (j8 X G d5 x5 rfl λ_ _ _ _ _ _=>B1 λ_ _=>rfl) (p8 (j8 X G d6 x6 rfl λ_ _ _ _ _ _=>B1 λ_ _=>rfl) (p8 (j8 X G d7 x7 rfl λ_ _ _ _ _ _=>NT λ_=>rfl) (p8 (j8 X G d8 x8 rfl λ_ _ _ _ _ _=>B1 λ_ _=>rfl) (p8 (j8 X G d9 x9 rfl λ_ _ _ _ _ _=>B1 λ_ _=>rfl) (p8 (j8 X G d10 x10 rfl λ_ _ _ _ _ _=>B1 λ_ _=>rfl) (p8 (j8 X G d11 x11 rfl λ_ _ _ _ _ _=>B1 λ_ _=>rfl) (p8 (j8 X G d12 x12 rfl λ_ _ _ _ _ _=>Ru λ_ _ _ _=>rfl) (p8 (j8 X G d13 x13 rfl λ_ _ _ _ _ _=>B1 λ_ _=>rfl) (p8 (j8 X G d14 x14 rfl λ_ _ _ _ _ _=>B1 λ_ _=>rfl) (p8 (j8 X G d15 x15 rfl λ_ _ _ _ _ _=>B1 λ_ _=>rfl) (p8 (j8 X G d16 x16 rfl λ_ _ _ _ _ _=>B1 λ_ _=>rfl) (p8 (j8 X G d17 x17 rfl λ_ _ _ _ _ _=>QK λ_ _ _=>rfl) (p8 (j8 X G d18 x18 rfl λ_ _ _ _ _ _=>QK λ_ _ _=>rfl) (p8 (j8 X G d19 x19 rfl λ_ _ _ _ _ _=>Ru λ_ _ _ _=>rfl) (p8 (j8 X G d20 x20 rfl λ_ _ _ _ _ _=>B1 λ_ _=>rfl) (p8 (j8 X G d21 x21 rfl λ_ _ _ _ _ _=>B1 λ_ _=>rfl) (p8 (j8 X G d22 x22 rfl λ_ _ _ _ _ _=>B1 λ_ _=>rfl) (p8 (j8 X G d23 x23 rfl λ_ _ _ _ _ _=>B1 λ_ _=>rfl) (p8 (j8 X G d24 y rfl λ_ _ _ _ _ _=>NT λ_=>rfl) (λ_ h=>nomatch h)))))))))))))))))))))))));refine⟨PySem.W.fnOf "law" "law" (defArgs (top 33)) (defBody (top 33)) (defScope (top 33)) .none kV24 dc24 pm24 an24 cd24 ct24,λs v => .of_eq rfl,λbase _ _=>?_⟩
 exact LN (P:=l.prog) (w:=w) (base:=base) (k:=8) (Δ:=W prog 8) (D:=d24) (G9 (st:=top 33) l24 c24 k24) (Hu a24 l24) (T9.mp Fs d24 (Ss (show prog[24]?=some d24 from rfl))) B (λg x hx=>by
  rw[Sm]at hx;cases hg:prog[g]? with
  | none=>rw[hg]at hx;cases hx
  | some D'=>
    rw[hg]at hx;have:D'.name=x:=by simpa using hx
    subst this;exact⟨D'.ps,Hv Fs B hin 8 g D' hg⟩) (D4 8)
theorem tabK_mk{K:Sd}{nm:Str}{i:Nat}{f c:Wm}{od an:Option Wm}{sl:Array (Option Wk)}{oc kV dc pm ct:Wk}(_:PySem.W.nsIn K Wq nm=some (some (.ref f)))(_:K.lookup f=some ⟨oc,od,.func (PySem.W.fnOf nm nm (defArgs (top i)) (defBody (top i)) (defScope (top i)) .none kV dc pm an (.ref c) ct),sl⟩)(t:PySem.W.tabIn K nm=some (c,139))(h:PySem.W.codeHdIn K c 139=true):∃ c,TabK K nm c 139:=⟨c,t,h⟩
theorem walkL{l:PySem.W.OpenLaw}{q:Wr}{loose:List Str}{XP:(Str->Option Wk)->Heap->Prop}{YP:Wt->Heap->Prop}{d:DefRec}{K:Params->Sd}(hn:l.most=some 63)(hdf:d.params.defaults=[])
 (hY:∀(w:Wt) (h:Heap),YP w h->(K w.params).In h/\∀ T∈[139],h.get? T=some (PySem.W.tabObj #[])) (hT:∀ w:Wt,(K w.params).lookup 139=none/\∃ c,TabK (K w.params) "rows_of" c 139)
 (F:∀(w:Wt) (mg:Str->Option Wk) (fa:Wm) (h:Heap),(K w.params).In h->h.Ns Wq mg->mg d.name=some (.ref fa)->
   ∃ fd:XY,(∀(s:Wl) (u:Wk),BindsTo s fd ⟨[u],[]⟩ [("_law_script",u)])/\∀ base:Heap,(K w.params).In base->base.Ns Wq mg->FnOk l.prog w (K w.params) mg base CX0 9 fa fd ["_law_script"] (spS (K w.params) (W prog 9 24))):
 PySem.W.WalkO q loose XP YP l.row.toRowW d [] (λf vs=>PySem.call f vs):=
 L2.walk_ofT (n:=63) (k:=9) (x:="_law_script") (ts:=[139]) (sp:=λw=>spS (K w.params) (W prog 9 24)) hn (by decide) hdf ⟨rfl,by decide,by decide,rfl⟩ hY (λw T hz=>by
  cases Sv.mp hz;obtain⟨a,c,b⟩:=hT w;exact⟨a,c,b.2⟩) F λw _ a ns hl hO hS=>NV (tl:=[("rows_of",⟨58,29,58,52⟩)]) (law_main ns hl) (by decide) rfl (λi P p e1 e2=>by
  match i,e1,e2 with
  | 0,e1,e2=>cases e1;cases e2;exact(hT w).2
  | (i+1),e1,e2=>simp at e1) hO hS
end Hue
open PySem PySem.W PyProof.Rows
set_option maxRecDepth 100000 in
set_option maxHeartbeats 0 in
theorem PySem.Challenge.cw_huedties_k14_all_rows_of_two_hues_holds : PySem.Challenge.rw_huedties_k14_all_rows_of_two_hues.Holds := by
 w_on;o_law;k_head;(case hw=>w_witness2)
 k_fill
 refine Hue.walkL (l:=PySem.Challenge.rw_huedties_k14_all_rows_of_two_hues) rfl rfl (λw h Y=>⟨PySem.W.km_in_of Y,PySem.W.km_tabs_of Y⟩) ?T ?F
 case T=>
  intro w;exact⟨by kernel_rfl,Hue.tabK_mk (i:=20) (by k_is) (by k_is) (by kernel_rfl) (by kernel_rfl)⟩
 case F=>
  intro w mg fa h KX G hmg;refine' Hue.all_mk KX G hmg ?_ ?_ ?_ ?_ ?_ ?_ ?_ ?_ ?_ ?_ ?_ ?_ ?_ ?_ ?_ ?_ ?_ ?_ ?_ ?_ ?_ ?_ ?_ ?_ ?_ ?_ ?_ ?_ ?_ ?_ ?_ ?_ ?_ ?_ ?_ ?_ ?_ ?_ ?_ ?_ ?_ ?_ ?_ ?_ ?_ ?_
  all_goals first | exact Hue.lnkK_mk (by k_is) (by k_is) (by k_is) (by k_is) | k_is
