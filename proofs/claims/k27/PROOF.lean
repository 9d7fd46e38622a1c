import PyProof.Rows.All
import Wide.All
import OpenK.AllK
import PySem.Challenge.RW_huedties_k27_pairings_shown
set_option Elab.async false
set_option linter.all false
set_option maxRecDepth 100000
open PySem.W renaming Frag->W5,mg_none_of->Wj
open Bool renaming and_eq_true->W6,false_ne_true->WK,not_eq_true'->We,or_eq_true->Wv,eq_iff_iff->X4,or_false->Ya,or_eq_false_iff->Yp,false_eq_true->Yx,not_eq_true->ZG,and_false->ZM,false_or->ZR
open List renaming length_append->W7,length_map->W8,mem_singleton->W9,getElem?_eq_getElem->WB,mem_of_getElem?->WC,size_toArray->WG,mem_append->WH,mem_cons_of_mem->WL,replicate->WM,range->WN,getElem?_map->WQ,mem_cons->WV,mem_cons_self->WW,getElem?_append_left->WX,mem_append_right->WY,mem_append_left->Wa,length_set->Wc,map_append->Wd,getElem?_concat_length->Wf,all_eq_true->Wg,length_singleton->Wh,mem_map->Wi,getElem?_set_self->Wk,prefix_refl->Wl,map_cons->Wo,length_take->Wp,getElem?_of_mem->Wq,getD_eq_getElem?_getD->Wr,mem_range->Wt,getElem_mem->Ww,getElem?_set_ne->Wx,drop_eq_getElem_cons->Wz,replicate_succ->X0,getElem?_append_right->X6,pairwise_iff_getElem->X7,length_cons->X8,take_length->X9,length_drop->XD,take_succ->XE,isEmpty_iff->XF,nodup_append->XJ,getElem?_replicate->XM,prefix_append->XO,any_eq_true->XR,flatten_cons->XT,getElem?_take_of_lt->XU,all_cons->XW,mem_filter->XX,append_nil->XZ,length_nil->Xa,lookup_cons->Xb,mem_iff_getElem->Xc,drop_length->Xd,any_cons->Xe,map_map->Xg,length_range->Xh,nodup_cons->Xi,mem_of_mem_take->Xk,pairwise_map->Xl,find?_cons->Xn,range_succ->Xo,filter_cons->Xr,pairwise_cons->Xs,length_filter_le->Xu,of_mem_zip->Xv,reverse_cons->Xw,filterMap_cons->Xz,length->Y0,take_append_of_le_length->Y1,filter_append->Y2,head?_drop->Y5,getElem?_eq_none->Y7,nodup_nil->Y9,tail_drop->YA,mem_of_mem_drop->YB,getD->YC,getElem_map->YD,getElem?_range->YE,map_take->YF,eraseIdxIfInBounds_toArray->YH,length_replicate->YI,eq_nil_of_length_eq_zero->YM,dropLast_concat->YN,map_congr_left->YQ,getElem_of_mem->YR,mem_filterMap->YT,length_eraseIdx_of_lt->YU,mapM_cons->YV,append_assoc->YX,set_comm->YY,filterMap_cons_some->YZ,length_erase_of_mem->Yb,length_eq_zero_iff->Ye,mapM->Yf,pairwise_lt_range->Yg,find?_cons_of_pos->Yh,find?_cons_of_neg->Yi,length_pos_of_mem->Yj,dropLast_eq_take->Yl,getElem?_zipWith->Ym,countP_le_length->Yn,lookup->Yo,take_left->Yr,length_eraseIdx->Ys,cons->Yt,length_reverse->Yu,eraseDups_cons->Yv,map_drop->Yw,filterMap_nil->Yz,getElem_drop->Z3,any_map->Z7,any_nil->Z8,foldl_append->ZA,nodup_range->ZF,mem_flatMap->ZH,head?_cons->ZJ,foldl->ZL,set->ZQ,map_id''->ZS,map_nil->ZU,all_map->ZZ,map_set->Za,map_id->Zf
open PySem.Heap renaming get?_push_of_some->WD,lt_size->WR,get?_push_size->WU,SameBut->Wy,get?_update_self->XC,size_push->XN,get?_update_other->XQ,size_update->ZE,ExtBut->ZI,IsSliceOf->ZK,DictOf->Ze
open Nat renaming le_refl->WJ,ne_of_lt->WZ,le_trans->Ws,lt_of_lt_of_le->Wu,zero_le->XA,le_of_lt->XY,lt_irrefl->Xp,lt_succ_of_lt->Xx,not_lt_zero->Y4,le_succ->Y8,lt_of_le_of_lt->YG,lt_succ_self->YK,succ_lt_succ->YL,mul_le_mul_right->YO,min_eq_left->Yk,ne_of_gt->Z1,succ_mul->Z2,lt_trichotomy->Z5,lt_of_succ_le->Z6,le_add_right->ZC,not_lt_of_gt->ZD,mod_lt->ZO,mul_le_mul->ZP,le_of_eq->ZV,lt_or_ge->ZW,lt_trans->ZX,zero_add->ZY,succ_pos->Zb
open Int renaming natCast_inj->X5,toNat_of_nonneg->XH,toNat_natCast->Xf,eq_ofNat_of_zero_le->Xm,emod_lt_of_pos->Xt,zero_add->Y3,emod_nonneg->Y6,toNat->YS,natCast_nonneg->YW,emod_eq_of_lt->Z9
open Option renaming isSome_iff_exists->XB,isNone_iff_eq_none->XS,map_some->Xj,isSome->Xq,isSome_map->Xy,getD_some->YJ,getD_none->Yc,bind_some->Yd,isSome_some->Yy,toList_none->Z0,none->Zd
open Array renaming length_toList->XG,getElem?_toList->XI,getElem_toList->Yq,toList_push->Z4,getD->ZN,toList->ZT
open PySem renaming wpAny_bind->Zg,Value->Zh,wpAny_pure->Zi,Shared->Zj,Addr->Zk,wpAny->Zl,model->Zm,sizeLine->Zn,Program->Zo,starEach->Zp,World->Zq,mainGlobals->Zr,bootBuiltins->Zs,wpAny_newObj_type->Zt,Scope->Zu,foldedSetIterable->Zv,compareOp->Zw,Around->Zx,wpAny_truthy_bool->Zy,wpAny_holding->Zz,wpAny_standAt->A00,wpAny_comprehension_free->A01,wpAny_mono->A02,wpAny_call_entry->A03,wpAny_Call_Name_kw->A04,wpAny_callSpecial?_slot->A05,swappedStores->A06,SetTable->A07,swapsWith->A08,NameKind->A09,cellsFrom->A0a,scanBound->A0b,assignEach->A0c,wpAny_setField->A0f,wpAny_passesOwn->A0g,codeAny_builtin->A0h,codeAny_mono->A0i,wpAny_setState_of->A0j,wpAny_rule->A0k,wpAny_askSetting->A0m,wpAny_pyIter_tuple->A0n,FuncData->A0o,swapsWithSole->A0p,sysModules->A0q,binaryOp->A0r,Comprehension->A0t,letOwnedTupleGo->A0u,codeAny_of_tree->A0v,call_meets->A0w,tupleKind_room_in1->A0x,wpAny_field->A0y,sliceBounds->A0z,wpAny_assign_Name->A0A,bindName->A0B,wpAny_bindName->A0C,newFunctionEnv->A0D,wpAny_pyIter_enum->A0E,wpAny_pyIter_list->A0F,exec_Assign_Name_used->A0G,behindInMarks->A0H,assignInOrder->A0I,plainId_quiet->A0J,compEnvC->A0K,wpAny_setEntries_of->A0L,wpAny_typeOf->A0M,wpAny_seqItems->A0N,firstArgMember->A0O,wpAny_letOwnedTupleGo_enum->A0P,constantsAlone->A0R,fits_of_scanBound->A0T,wpAny_getItem_list_slice->A0V,attributeBase->A0W,foldedForSure->A0X,Operator->A0Y,compPost->A0Z,wpAny_pyNext_enum_itemD->A10,pickOrder->A11,codeAny_compStart_list->A13,wpAny_pyNext_enum_endD->A14,wpAny_execs_nil->A15,pushCells_keeps->A16,wpAny_ite_split->A17,wpAny_updateSeq->A18,wpAny_isTrue_Compare1->A19,weight_type_call_type->A1a,builtinLookup_eq_fast->A1b,GenState->A1c,sizeLine_eq->A1d,subscripted->A1e,fitsIndex_both->A1f,relayAll->A1g,codeAny_call_builtin->A1h,wpAny_runValue->A1i,unsupported->A1j,tupleKind->A1k,evalPart_none->A1m,comprehension->A1n,builtinsNs->A1o,intKind_is->A1r,wpAny_sequenceKey->A1t,seqIndex_neg->A1u,wpAny_storeSet_of->A1v,setField->A1w,wpAny_pyIter_slot->A1x,PassesOwn->A1y,pushCells->A1z,check_set_init_1->A1A,wpAny_isInstance->A1B,compStart->A1C,seqIndex_of->A1D,wpAny_of_eq->A1E,exec_Assign_arm->A1F,wpAny_specialOf->A1G,typeLookup_type->A1H,theWindowsPlace->A1I,wpAny_Name->A1J,wpAny_Compare1->A1K,recursionLimit->A1L,wpAny_call->A1M,typeLookup->A1O,typeIs_int->A1P,isSubtype_type->A1Q,entryFor_alias->A1R,setsByText->A1S,wpAny_fieldsOf->A1T,lastMarks->A1U,seqIndex?->A1V,DictEntry->A1W,noteFrame->A1X,drawOrder->A1Y
open PyProof.Rows renaming assignInOrder_cons->A0e,step_dedup->A0l,firstMet->A0s,firstMet_length_le->A0Q,assignInOrder_nil->A0S,subscriptTail->A0U,subscriptTail_builtinR->A12,entry_tuple_getitem->A1l,args_tuple_getitem->A1p,Subscript_->A1q,unpackItems_tuple->A1s,slicePart_none->A1N
abbrev EE:=List (Nat×Nat)
theorem gM{α:Type}{l:List α}{i:Nat}{a:α}(h:l[i]?=some a):∃h:i<l.length,l[i]=a:=List.getElem?_eq_some_iff.mp h
theorem oj{α:Type}{a b:α}(h:some a=some b):a=b:=Option.some.inj h
theorem dQ{p:Prop}[Decidable p]:(decide p=true)=p:=decide_eq_true_eq
theorem iG{c:Prop}{h:Decidable c}(k:¬c){α:Sort u}{t e:α}:ite c t e=e:=if_neg k
theorem iP{c:Prop}{h:Decidable c}(k:c){α:Sort u}{t e:α}:ite c t e=t:=if_pos k
theorem bQ{α:Type u}[BEq α][LawfulBEq α]{a b:α}:a==b↔a=b:=beq_iff_eq
namespace L2
open PySem PySem.Spec PyProof.Rows
abbrev Key:=Sum Int Str
def Cc:Key->Zh->Bool
 | .inl k,v=>Value.isInt k v
 | .inr x,v=>Value.isStrOf x v
def VY(w:Zq):Key->Int
 | .inl k=>hashInt k
 | .inr x=>hashStr w x
theorem v4:∀{k:Key} {v:Zh},Cc k v=true->(∃ i t,k=Sum.inl i/\v=Value.int i t)\/(∃ x t,k=Sum.inr x/\v=Value.str x t)
 | .inl i,v,h=>by
   obtain⟨t,e⟩:=Value.isInt_shape (k:=i) (v:=v) h;exact .inl ⟨i,t,rfl,e⟩
 | .inr x,v,h=>by
   obtain⟨t,e⟩:=Value.isStrOf_shape (x:=x) (v:=v) h;exact .inr ⟨x,t,rfl,e⟩
theorem KR(i:Int)(t:Tok):Cc (.inl i) (.int i t)=true:=by simp[Cc,Value.isInt]
theorem KS(x:Str)(t:Tok):Cc (.inr x) (.str x t)=true:=by simp[Cc,Value.isStrOf]
theorem Rm(a b:Int):decide ((Sum.inl a:Key)=Sum.inl b)=(a == b):=by
 by_cases e:a=b
 ·subst e;simp
 ·have h:¬ (Sum.inl a:Key)=Sum.inl b:=λq=>e (Sum.inl.inj q);rw[decide_eq_false h];exact(beq_eq_false_iff_ne.mpr e).symm
theorem Rn(a b:Str):decide ((Sum.inr a:Key)=Sum.inr b)=decide (a=b):=by
 by_cases e:a=b
 ·subst e;simp
 ·have h:¬ (Sum.inr a:Key)=Sum.inr b:=λq=>e (Sum.inr.inj q);rw[decide_eq_false h,decide_eq_false e]
theorem Ro(a:Int)(b:Str):decide ((Sum.inl a:Key)=Sum.inr b)=false:=decide_eq_false (λq=>nomatch q)
theorem Rp(a:Str)(b:Int):decide ((Sum.inr a:Key)=Sum.inl b)=false:=decide_eq_false (λq=>nomatch q)
noncomputable def m8(prog:Zo)(w:Zq):PySem.KeyKind prog w Key where
 is:=Cc
 hash:=VY w
 inj:=λv a b ha hb=>by
  rcases v4 ha with⟨i,t,rfl,rfl⟩ | ⟨x,t,rfl,rfl⟩
  ·rcases v4 hb with⟨j,u,rfl,e⟩ | ⟨y,u,rfl,e⟩
   ·injection e with e1 _;rw[e1]
   ·exact nomatch e
  ·rcases v4 hb with⟨j,u,rfl,e⟩ | ⟨y,u,rfl,e⟩
   ·exact nomatch e
   ·injection e with e1 _;rw[e1]
 byValue:=λk v h=>by
   rcases v4 h with⟨i,t,rfl,rfl⟩ | ⟨x,t,rfl,rfl⟩<;>rfl
 pyHash:=λhv h=>by
  rcases v4 hv with⟨i,t,rfl,rfl⟩ | ⟨x,t,rfl,rfl⟩
  ·exact wpAny_pyHash_int h
  ·exact wpAny_pyHash_str h
 eqBool:=λhu hv h=>by
  rcases v4 hu with⟨i,t,rfl,rfl⟩ | ⟨x,t,rfl,rfl⟩
  ·rcases v4 hv with⟨j,u,rfl,rfl⟩ | ⟨y,u,rfl,rfl⟩
   ·rw[Rm]at h;exact wpAny_eqBool_int h
   ·rw[Ro]at h;exact SeqAt.EqAt.int_str i t y u _ _ _ _ h
  ·rcases v4 hv with⟨j,u,rfl,rfl⟩ | ⟨y,u,rfl,rfl⟩
   ·rw[Rp]at h;exact SeqAt.EqAt.str_int x t j u _ _ _ _ h
   ·rw[Rn]at h;exact wpAny_eqBool_str h
 «strs»:=λk x t v h=>by
  rcases v4 h with⟨i,u,rfl,e⟩ | ⟨y,u,rfl,e⟩
  ·exact nomatch e
  ·injection e with e1 _;subst e1;cases v<;>rfl
theorem Hv(prog:Zo)(w:Zq)(k:Key)(v:Zh):(m8 prog w).is k v=Cc k v:=rfl
theorem Ft(prog:Zo)(w:Zq)(i:Int)(t:Tok):(m8 prog w).is (.inl i) (.int i t)=true:=KR i t
theorem Fu(prog:Zo)(w:Zq)(x:Str)(t:Tok):(m8 prog w).is (.inr x) (.str x t)=true:=KS x t
inductive V where
 | non | bl (b:Bool) | int (i:Int) | str (x:Str) | byt (b:Array UInt8) | flt (b:UInt64) | ref (a:Zk) | ty (n:String)
 deriving DecidableEq
noncomputable def RelV:V->Zh->Prop
 | .non,u=>u=Value.none
 | .bl b,u=>u=Value.bool b
 | .int i,u=>∃ t,u=Value.int i t
 | .str x,u=>∃ t,u=Value.str x t
 | .byt b,u=>∃ t,u=Value.bytes b t
 | .flt b,u=>∃ t,u=Value.float b t
 | .ref a,u=>u=Value.ref a
 | .ty n,u=>u=Value.type n
noncomputable abbrev Vals:List V->List Zh->Prop:=Paired RelV
theorem Vals.length{xs:List V}{us:List Zh}(r:Vals xs us):xs.length=us.length:=Paired.length r
theorem Vals.get:∀{xs:List V} {us:List Zh} {i:Nat} {x:V},Vals xs us->xs[i]?=some x->∃ u,us[i]?=some u/\RelV x u
 | _,_,_,_,.nil,e=>by simp at e
 | _,_,0,_,.cons r _,e=>by simp at e;subst e;exact⟨_,rfl,r⟩
 | _,_,i+1,x,.cons _ t,e=>by
   obtain⟨u,h1,h2⟩:=Vals.get (i:=i) (x:=x) t (by simpa using e);exact⟨u,by simpa using h1,h2⟩
theorem Vals.set{x:V}{u:Zh}(r:RelV x u):∀{xs:List V} {us:List Zh} (i:Nat),Vals xs us->Vals (xs.set i x) (us.set i u)
 | _,_,_,.nil => .nil
 | _,_,0,.cons _ t => .cons r t
 | _,_,i+1,.cons q t => .cons q (Vals.set r i t)
theorem Vals.append:∀{xs ys:List V} {us ws:List Zh},Vals xs us->Vals ys ws->Vals (xs++ys) (us++ws)
 | _,_,_,_,.nil,s=>s
 | _,_,_,_,.cons r t,s => .cons r (Vals.append t s)
theorem Vals.take:∀{xs:List V} {us:List Zh} (n:Nat),Vals xs us->Vals (xs.take n) (us.take n)
 | _,_,0,_ => .nil
 | _,_,_+1,.nil => .nil
 | _,_,n+1,.cons r t => .cons r (Vals.take n t)
theorem Vals.drop:∀{xs:List V} {us:List Zh} (n:Nat),Vals xs us->Vals (xs.drop n) (us.drop n)
 | _,_,0,r=>r
 | _,_,_+1,.nil => .nil
 | _,_,n+1,.cons _ t=>Vals.drop n t
noncomputable def RelO:Option V->Option Zh->Prop
 | some v,some u=>RelV v u
 | none,none=>True
 | _,_=>False
noncomputable def KV{κ:Type}:List (κ×V)->List (κ×Zh)->Prop:=Paired λ(p:κ×V) (q:κ×Zh)=>p.1=q.1/\RelV p.2 q.2
def kV:Key->V
 | .inl i => .int i
 | .inr x => .str x
inductive HO where
 | lst (xs:List V)
 | tup (xs:List V)
 | dK (kvs:List (Key×V)) | dT (kvs:List (List Key×V))
 | set (S:Int->Bool) (n:Nat)
 | ins (C dx:Zk) (fs:List (Str×V))
 | own (x:Zk)
 | xd (fs:List (Str×V))
 | met (f x:Zk)
 | rng (lo hi:Int)
 | frz (o:Obj) (u:HO)
 | tbl (ps:Array Zh)
 | ext (φ:Heap->Prop)
abbrev Hp:=Zk->Option HO
def upd(H:Hp)(a:Zk)(o:HO):Hp:=λb=>if b=a then some o else H b
theorem f9{H:Hp}{a:Zk}{o:HO}:upd H a o a=some o:=by unfold upd;rw[iP rfl]
theorem upd_ne{H:Hp}{a b:Zk}{o:HO}(h:b≠a):upd H a o b=H b:=by unfold upd;rw[iG h]
theorem Qx{H:Hp}{a b:Zk}{o u:HO}(h:H a=some o)(h':H b=some u)(d:o≠u):a≠b:=by
 intro e;subst e;rw[h]at h';exact d (oj h')
theorem f8{H:Hp}{a b:Zk}{o:HO}(h:H a=some o)(h':H b=none):a≠b:=by
 intro e;subst e;rw[h]at h';cases h'
section
variable(P:Zo)(w:Zq)
noncomputable def ObjOk(H:Hp)(h:Heap)(a:Zk):HO->Prop
 | .lst xs=>xs.length<=Zn/\∃(its:List Zh) (n:Nat),Vals xs its/\h.get? a=some {cls := .type "list",data := .seq its.toArray n}
 | .tup xs=>xs.length<=Zn/\∃ its:List Zh,Vals xs its/\IsTup h a its.toArray
 | .dK kvs=>kvs.length<=Zn/\(a == A0q)=false/\∃ vs,KV kvs vs/\h.DictOf (m8 P w) a vs
 | .dT kvs=>kvs.length<=Zn/\(a == A0q)=false/\∃ xs:List (List Key×Zk×Zh),
    Paired (λ(p:List Key×V) (q:List Key×Zk×Zh)=>p.1=q.1/\H q.2.1=some (.tup (p.1.map kV))/\RelV p.2 q.2.2) kvs xs/\
    ∃ o es ep,h.get? a=some o/\o.ExactDict/\o.data = .dict es ep/\es.toList=xs.map (entryOfKey (A1k (m8 P w)))/\(xs.map (·.1)).Nodup
 | .set S n=>h.SetOf (intKind P w) a S n
 | .ins C dx fs=>H dx=some (.own a)/\fs.length<=1000/\dx≠a/\h.get? a=some (PySem.W.instObj C dx)/\
    ∃ mA,h.Ns1 dx mA/\(∀ f,RelO (fs.lookup f) (mA f))/\PySem.Within mA (fs.map (·.1))
 | .own _=>∃ o,h.get? a=some o
 | .xd fs=>∃ mA,h.Ns1 a mA/\∀ f,RelO (fs.lookup f) (mA f)
 | .rng lo hi=>∃ t u v,h.get? a=some {cls := .type "range",data := .fields #[.int lo t,.int hi u,.int 1 v]}
 | .frz o u=>h.get? a=some o/\ObjOk H h a u
 | .tbl ps=>h.get? a=some {cls := .none,data := .fields ps}
 | .met f x=>h.get? a=some (PySem.W.methodObj (.ref f) (.ref x))
 | .ext φ=>φ h/\(∃ o,h.get? a=some o)/\∀ h1 h2:Heap,φ h1->(∀ o,h1.get? a=some o->h2.get? a=some o)->φ h2
noncomputable def HOk(H:Hp)(h:Heap):Prop:=∀ a o,H a=some o->ObjOk P w H h a o
end
section
variable{P:Zo}{w:Zq}{H H':Hp}{h h':Heap}{a:Zk}{o:HO}
theorem ObjOk.lt(x:ObjOk P w H h a o):a<h.objs.size:=by
 cases o with
 | lst xs=>obtain⟨_,_,_,_,e⟩:=x;exact WR e
 | tup xs=>obtain⟨_,_,_,p⟩:=x;exact p.lt
 | dK kvs=>obtain⟨_,_,_,_,o,_,_,e,_⟩:=x;exact WR e
 | dT kvs=>obtain⟨_,_,_,_,o,_,_,e,_⟩:=x;exact WR e
 | set S n=>obtain⟨o,_,_,_,e,_⟩:=x;exact WR e
 | ins C dx fs=>obtain⟨_,_,_,e,_⟩:=x;exact WR e
 | own y=>obtain⟨_,e⟩:=x;exact WR e
 | xd fs=>obtain⟨_,⟨_,_,_,e,_⟩,_⟩:=x;exact WR e
 | rng lo hi=>obtain⟨_,_,_,e⟩:=x;exact WR e
 | frz ob u=>obtain⟨e,_⟩:=x;exact WR e
 | tbl ps=>exact WR (show h.get? a=some _ from x)
 | met f y=>exact WR (show h.get? a=some _ from x)
 | ext φ=>obtain⟨_,⟨_,e⟩,_⟩:=x;exact WR e
theorem Paired.mapP{α β:Type}{F G:α->β->Prop}:∀{l₁:List α} {l₂:List β},Paired F l₁ l₂->(∀ a b,F a b->G a b)->Paired G l₁ l₂
 | _,_,.nil,_ => .nil
 | _,_,.cons r t,f => .cons (f _ _ r) (Paired.mapP t f)
theorem ObjOk.stay(x:ObjOk P w H h a o)(k:∀ b u,(b=a\/H b=some (.own a))->h.get? b=some u->h'.get? b=some u)
 (ho:∀ b,H b=some (.own a)->H' b=some (.own a)) (ht:∀ b xs,H b=some (.tup xs)->H' b=some (.tup xs)):ObjOk P w H' h' a o:=by
 induction o with
 | lst xs=>obtain⟨z,its,n,r,e⟩:=x;exact⟨z,its,n,r,k _ _ (.inl rfl) e⟩
 | tup xs=>obtain⟨z,its,r,ob,e,c⟩:=x;exact⟨z,its,r,ob,k _ _ (.inl rfl) e,c⟩
 | dK kvs=>obtain⟨z,y,vs,r,ob,es,ep,e,c⟩:=x;exact⟨z,y,vs,r,ob,es,ep,k _ _ (.inl rfl) e,c⟩
 | dT kvs=>
   obtain⟨z,y,xs,r,ob,es,ep,e,c⟩:=x;exact⟨z,y,xs,Paired.mapP r λp q z=>⟨z.1,ht _ _ z.2.1,z.2.2⟩,ob,es,ep,k _ _ (.inl rfl) e,c⟩
 | set S n=>obtain⟨ob,es,ep,t,e,c⟩:=x;exact⟨ob,es,ep,t,k _ _ (.inl rfl) e,c⟩
 | ins C dx fs=>
   obtain⟨d,z,ne,e,mA,⟨od,es,ep,e2,c⟩,r⟩:=x;exact⟨ho _ d,z,ne,k _ _ (.inl rfl) e,mA,⟨od,es,ep,k _ _ (.inr d) e2,c⟩,r⟩
 | own y=>obtain⟨ob,e⟩:=x;exact⟨ob,k _ _ (.inl rfl) e⟩
 | xd fs=>obtain⟨mA,⟨od,es,ep,e,c⟩,r⟩:=x;exact⟨mA,⟨od,es,ep,k _ _ (.inl rfl) e,c⟩,r⟩
 | rng lo hi=>obtain⟨t,u,v,e⟩:=x;exact⟨t,u,v,k _ _ (.inl rfl) e⟩
 | frz ob u ih=>obtain⟨e,q⟩:=x;exact⟨k _ _ (.inl rfl) e,ih q⟩
 | tbl ps=>
   have e:h.get? a=some {cls := .none,data := .fields ps}:=x;show h'.get? a=some {cls := .none,data := .fields ps};exact k a _ (.inl rfl) e
 | met f y=>
   have e:h.get? a=some (PySem.W.methodObj (.ref f) (.ref y)):=x;show h'.get? a=some (PySem.W.methodObj (.ref f) (.ref y));exact k a _ (.inl rfl) e
 | ext φ=>obtain⟨p,⟨o,e⟩,st⟩:=x;exact⟨st _ _ p λo q=>k _ _ (.inl rfl) q,⟨o,k _ _ (.inl rfl) e⟩,st⟩
theorem HOk.lt(x:HOk P w H h)(e:H a=some o):a<h.objs.size:=(x a o e).lt
theorem HOk.fresh(x:HOk P w H h)(e:h.objs.size<=a):H a=none:=by
 cases q:H a with
 | none=>rfl
 | some u=>exact absurd (Wu (x.lt q) e) (Xp _)
theorem HOk.kept(x:HOk P w H h)(k:∀ b u,h.get? b=some u->h'.get? b=some u):HOk P w H h':=λa o e=>
 (x a o e).stay (λb u _ q=>k b u q) (λ_ q=>q) λ_ _ q=>q
theorem HOk.laid(x:HOk P w H h)(k:∀ b u,h.get? b=some u->h'.get? b=some u)(hp:h.objs.size<=a)(new:ObjOk P w (upd H a o) h' a o):HOk P w (upd H a o) h':=λb u e=>by
 have hn:=x.fresh hp;by_cases hb:b=a
 ·subst hb;rw[f9]at e;cases e;exact new
 ·rw[upd_ne hb]at e;exact(x b u e).stay (λc v _ q=>k c v q) (λc q=>by rw[upd_ne (f8 q hn)];exact q) λc xs q=>by rw[upd_ne (f8 q hn)];exact q
end
def Rd(H:Hp)(a:Zk)(u:HO):Prop:=H a=some u\/∃ o,H a=some (.frz o u)
theorem Rd.ok{P:Zo}{w:Zq}{H:Hp}{h:Heap}{a:Zk}{u:HO}(r:Rd H a u)(x:HOk P w H h):ObjOk P w H h a u:=by
 rcases r with r | ⟨o,r⟩
 ·exact x a u r
 ·obtain⟨_,q⟩:=x a _ r;exact q
noncomputable def Mut:Option HO->Prop
 | some (.lst _)=>True
 | some (.dK _)=>True
 | some (.dT _)=>True
 | some (.set _ _)=>True
 | some (.ins _ _ _)=>True
 | some (.ext _)=>True
 | _=>False
section
variable{P:Zo}{w:Zq}{H:Hp}{h h':Heap}{x e:Zk}{o':HO}
theorem HOk.write(ok:HOk P w H h)(mu:Mut (H x))(he:e=x\/H e=some (.own x))(k:∀ b u,b≠e->h.get? b=some u->h'.get? b=some u)(heo:∃ u,h'.get? e=some u)
 (new:ObjOk P w (upd H x o') h' x o'):HOk P w (upd H x o') h':=λb u q=>by
 have nown:∀ c y,H c=some (.own y)->c≠x:=λc y r z=>by subst z;rw[r]at mu;exact mu
 have ntup:∀ c xs,H c=some (.tup xs)->c≠x:=λc xs r z=>by subst z;rw[r]at mu;exact mu
 by_cases hb:b=x
 ·subst hb;rw[f9]at q;cases q;exact new
 ·rw[upd_ne hb]at q;by_cases hbe:b=e
  ·have q':H b=some (.own x):=by
    rcases he with z | z
    ·exact absurd (hbe.trans z) hb
    ·rw[hbe];exact z
   rw[q]at q';cases q';obtain⟨v,hv⟩:=heo;exact⟨v,by rw[hbe];exact hv⟩
  ·refine(ok b u q).stay (λc v hc r=>k c v ?_ r) (λc r=>by rw[upd_ne (nown c b r)];exact r) λc xs r=>by rw[upd_ne (ntup c xs r)];exact r
   rcases hc with rfl | hc
   ·exact hbe
   ·rintro rfl;rcases he with z | z
    ·exact nown c b hc z
    ·rw[hc]at z;cases z;exact hb rfl
end
structure Un(fs ex:List Zk)(H H':Hp)(h h':Heap):Prop where
 keep:∀ b o,h.get? b=some o->H b=none->b∉fs->b∉ex->h'.get? b=some o
 slot:∀ b o,h.get? b=some o->H b=none->b∈fs->b∉ex->∃ sl,h'.get? b=some {o with slots:=sl}
 free:∀ b o,h.get? b=some o->H b=none->b∉ex->H' b=none
 there:∀ b o,h.get? b=some o->b∉ex->∃ o',h'.get? b=some o'
 tups:∀ b xs,H b=some (.tup xs)->H' b=some (.tup xs)
 frzs:∀ b o u,H b=some (.frz o (.lst u))->H' b=some (.frz o (.lst u))
 tbls:∀ b ps,H b=some (.tbl ps)->∃ more,H' b=some (.tbl (ps++more))
section
variable{fs fs' ex ex':List Zk}{H H1 H2:Hp}{h h1 h2 h':Heap}{a x e:Zk}{o:HO}
theorem Un.any(u:Un fs ex H H1 h h1){b:Zk}{ob:Obj}(q:h.get? b=some ob)(n:H b=none)(hx:b∉ex):∃ sl,h1.get? b=some {ob with slots:=sl}:=by
 by_cases hb:b∈fs
 ·exact u.slot b ob q n hb hx
 ·exact⟨ob.slots,u.keep b ob q n hb hx⟩
theorem Un.kept(k:∀ b u,h.get? b=some u->h'.get? b=some u):Un fs ex H H h h':=
 ⟨λb ob q _ _ _=>k b ob q,λb ob q _ _ _=>⟨ob.slots,k b ob q⟩,λ_ _ _ n _=>n,λb ob q _=>⟨ob,k b ob q⟩,λ_ _ q=>q,λ_ _ _ q=>q,λ_ ps q=>⟨#[],by rw[q];simp⟩⟩
theorem Un.refl:Un fs ex H H h h:=Un.kept λ_ _ q=>q
theorem Un.laid(k:∀ b u,h.get? b=some u->h'.get? b=some u)(hp:h.objs.size<=a)(hn:H a=none):Un fs ex H (upd H a o) h h' where
 keep:=λb u q _ _ _=>k b u q
 slot:=λb u q _ _ _=>⟨u.slots,k b u q⟩
 free:=λb u q n _=>by rw[upd_ne (WZ (Wu (WR q) hp))];exact n
 there:=λb u q _=>⟨u,k b u q⟩
 tups:=λb xs q=>by rw[upd_ne (f8 q hn)];exact q
 frzs:=λb u xs q=>by rw[upd_ne (f8 q hn)];exact q
 tbls:=λb ps q=>⟨#[],by rw[upd_ne (f8 q hn),q];simp⟩
theorem Un.write(mu:Mut (H x))(he:e=x\/H e=some (.own x))(k:∀ b u,b≠e->h.get? b=some u->h'.get? b=some u)(heo:∃ u,h'.get? e=some u):Un fs ex H (upd H x o) h h':=by
 have hx:∀ b,H b=none->b≠x:=λb n z=>by subst z;rw[n]at mu;exact mu
 have hb:∀ b,H b=none->b≠e:=λb n z=>by
  subst z;rcases he with r | r
  ·exact hx b n r
  ·rw[n]at r;cases r
 have hm:∀ b u,H b=some u->¬ Mut (some u)->b≠x:=λb u q nm z=>by subst z;rw[q]at mu;exact nm mu
 refine⟨λb u q n _ _=>k b u (hb b n) q,λb u q n _ _=>⟨u.slots,k b u (hb b n) q⟩,λb u q n _=>by rw[upd_ne (hx b n)];exact n,λb u q _=>?_,
  λb xs q=>by rw[upd_ne (hm b _ q λz=>z)];exact q,λb u xs q=>by rw[upd_ne (hm b _ q λz=>z)];exact q,λb ps q=>⟨#[],by rw[upd_ne (hm b _ q λz=>z),q];simp⟩⟩
 by_cases hbe:b=e
 ·subst hbe;exact heo
 ·exact⟨u,k b u hbe q⟩
theorem Un.mono(u:Un fs ex H H1 h h1)(hs:∀ b∈fs,b∈fs')(hx:∀ b∈ex,b∈ex'):Un fs' ex' H H1 h h1:=
 ⟨λb ob q n hb he=>u.keep b ob q n (λz=>hb (hs b z)) λz=>he (hx b z),λ_ _ q n _ he=>u.any q n λz=>he (hx _ z),λb ob q n he=>u.free b ob q n λz=>he (hx b z),λb ob q he=>u.there b ob q λz=>he (hx b z),u.tups,u.frzs,u.tbls⟩
end
def trk(h:Heap)(H:Hp):List Zk:=(WN h.objs.size).filter λa=>(H a).isSome
noncomputable def FC(h:Heap)(H:Hp):Heap:=PySem.W.hideAll h (trk h H)
theorem KU(h:Heap)(H:Hp):(FC h H).objs.size=h.objs.size:=PySem.W.hideAll_size _ _
theorem M5{h:Heap}{H:Hp}{b:Zk}{o:Obj}(e:h.get? b=some o)(n:H b=none):(FC h H).get? b=some o:=
 PySem.W.hideAll_get _ e λhm=>by
  have q:(H b).isSome=true:=(XX.mp hm).2;rw[n]at q;simp at q
theorem Og{h:Heap}{H:Hp}{b:Zk}{o:Obj}(e:(FC h H).get? b=some o):h.get? b=some o/\H b=none:=by
 have e':h.get? b=some o:=PySem.W.of_hideAll (trk h H) e;refine⟨e',?_⟩;cases q:H b with
 | none=>rfl
 | some x=>
   have hm:b∈trk h H:=XX.mpr ⟨Wt.mpr (WR e'),by simp[q]⟩;have z:(FC h H).get? b=none:=PySem.W.hideAll_none (trk h H) hm;rw[z]at e;cases e
structure Mod(K:W5)(mg:Str->Option Zh)(base:Heap):Prop where
 kin:K.In base
 glob:base.Ns Zr mg
 blt:∃ mb,base.Ns A1o mb/\∀ x:Str,x≠"__name__"->mb x=Zs x
 nolimit:base.NoLimit
structure Cx where
 prog:Zo
 w:Zq
 K:W5
 mg:Str->Option Zh
 base:Heap
 A:Zx
 N:List Str
 s₀:Zj
 H₀:Hp
 env:Env
 outer:List Env
 stack:List Env
 ex:List Zk
 fn:Str->Bool
 calm:Bool
 pn:List (Zk×Obj)
 xe:Zh->Zj->Prop
def frs(l:List Env):List Zk:=l.filterMap (·.frame)
abbrev Cx.fs(X:Cx):List Zk:=frs X.outer
noncomputable def Vis(sc:Zu)(x:Str):Prop:=sc.names.lookup x=some .local\/sc.names.lookup x=some .cell\/sc.names.lookup x=some .free
noncomputable def Loc(sc:Zu)(x:Str):Prop:=sc.names.lookup x=some .local\/sc.names.lookup x=some .cell
noncomputable def Look(env:Env)(h:Heap)(m:Str->Option Zh)(x:Str)(u:Zh):Prop:=
 (env.kindOf x=some .local/\m x=some u)\/((env.kindOf x=some .cell\/env.kindOf x=some .free)/\∃ c,env.cells.lookup x=some c/\h.IsCell c (some u))
structure Cx.Ok(X:Cx):Prop where
 mod:Mod X.K X.mg X.base
 kind:X.env.scope.kind = .function
 glob:X.env.globals=Zr
 blt:X.env.builtins=A1o
 above:X.s₀.heap.objs.size<=X.env.locals
 inj:∀ x y c,X.env.cells.lookup x=some c->X.env.cells.lookup y=some c->x=y
 has:∀ x,(X.env.kindOf x=some .cell\/X.env.kindOf x=some .free)->∃ c,X.env.cells.lookup x=some c
 cab:∀ x c,X.fn x=true->X.env.cells.lookup x=some c->X.s₀.heap.objs.size<=c
 hd:X.calm=true->X.A.handled=none
 frames:X.A.frames=some X.stack
 stk:X.stack=X.outer\/(X.stack=X.env::X.outer/\X.env.frame=some X.env.locals)
 exf:∀ b∈X.ex,b≠X.env.locals/\∀ x c,X.env.cells.lookup x=some c->c≠b
 bs:∀ b o,X.base.get? b=some o->X.s₀.heap.get? b=some o/\X.H₀ b=none
 bsz:X.base.objs.size<=X.s₀.heap.objs.size
 noex:∀ b o,X.base.get? b=some o->b∉X.ex
 exfs:∀ b∈X.ex,b∉X.fs
 funs:X.s₀.heap.FunFrames X.base X.outer
 frf:∀ b∈X.fs,X.H₀ b=none
structure Inv(X:Cx)(pq:List (Zk×Obj))(σ:List (Option V))(H:Hp)(s:Zj):Prop where
 ok:X.Ok
 os:s.os=X.s₀.os
 bare:AllBare s.gens
 base:Un X.fs X.ex X.H₀ H X.s₀.heap s.heap
 loc:∃ m,s.heap.Ns X.env.locals m/\∀(i:Nat) (x:Str) (v:V),X.N[i]?=some x->σ[i]?=some (some v)->Vis X.env.scope x->∃ u,RelV v u/\Look X.env s.heap m x u
 cell:∀ x c,X.env.cells.lookup x=some c->∃ v,s.heap.IsCell c v
 free:H X.env.locals=none
 freeC:∀ x c,X.env.cells.lookup x=some c->H c=none
 pin:∀ p∈X.pn++pq,s.heap.get? p.1=some p.2/\H p.1=none/\p.1≠X.env.locals/\p.1∉X.fs/\∀ v,p.2.data ≠ .cell v
 hok:HOk X.prog X.w H s.heap
 len:σ.length=X.N.length
section
variable{X:Cx}{pq:List (Zk×Obj)}{σ:List (Option V)}{H H':Hp}{s:Zj}{h':Heap}
theorem Cx.Ok.nofr(ok:X.Ok){b:Zk}{o:Obj}(e:X.base.get? b=some o):b∉X.fs:=λhb=>by
 have:=(ok.funs.mem hb).1;rw[e]at this;cases this
theorem Inv.bs(I:Inv X pq σ H s):∀ b o,X.base.get? b=some o->s.heap.get? b=some o/\H b=none:=λb o e=>
 ⟨I.base.keep b o (I.ok.bs b o e).1 (I.ok.bs b o e).2 (I.ok.nofr e) (I.ok.noex b o e),I.base.free b o (I.ok.bs b o e).1 (I.ok.bs b o e).2 (I.ok.noex b o e)⟩
theorem Inv.bk(I:Inv X pq σ H s):∀ b o,X.base.get? b=some o->s.heap.get? b=some o:=λb o e=>(I.bs b o e).1
theorem Inv.mod(I:Inv X pq σ H s):Mod X.K X.mg X.base:=I.ok.mod
theorem Inv.kIn(I:Inv X pq σ H s):X.K.In s.heap:=I.ok.mod.kin.keeps I.bk
theorem Inv.fr(I:Inv X pq σ H s):∃ m,Fr X.base X.env.locals s.heap m:=
 let ⟨m,hn,_⟩:=I.loc
 ⟨m,hn,I.bk,Ws I.ok.bsz I.ok.above⟩
theorem Inv.lt(I:Inv X pq σ H s):X.env.locals<s.heap.objs.size:=let ⟨_,hn,_⟩:=I.loc;hn.lt
theorem Inv.sz(I:Inv X pq σ H s):X.s₀.heap.objs.size<=s.heap.objs.size:=Ws I.ok.above (XY I.lt)
theorem Inv.nofs(I:Inv X pq σ H s){a:Zk}(h:s.heap.objs.size<=a):a∉X.fs:=λhb=>by
 obtain⟨_,o,ho,_⟩:=I.ok.funs.mem hb;exact absurd (Wu (WR ho) (Ws I.sz h)) (Xp _)
theorem Inv.cne(I:Inv X pq σ H s):∀ x c,X.env.cells.lookup x=some c->c≠X.env.locals:=λx c e z=>by
 obtain⟨v,o,ho,hd⟩:=I.cell x c e;obtain⟨m,⟨o',es,ep,ho',hd',_⟩,_⟩:=I.loc;rw[z,ho']at ho;cases ho;rw[hd']at hd;cases hd
theorem Inv.funs(I:Inv X pq σ H s):s.heap.FunFrames X.base X.outer:=by
 have all:∀(l:List Env),(∀ b∈frs l,b∈X.fs)->X.s₀.heap.FunFrames X.base l->s.heap.FunFrames X.base l:=by
  intro l
  induction l with
  | nil=>intro _ _;trivial
  | cons env r ih=>
    intro hs hl;obtain⟨hk,⟨L,o,hf,hn,ho,hd⟩,hr⟩:=hl;have hL:L∈X.fs:=hs L (by unfold frs;rw[Xz,hf];exact WW);obtain⟨sl,e⟩:=I.base.slot L o ho (I.ok.frf L hL) hL λz=>I.ok.exfs L z hL;exact⟨hk,⟨L,_,hf,hn,e,hd⟩,ih (λb hb=>hs b (by unfold frs;rw[Xz,hf];exact WL _ hb)) hr⟩
 exact all X.outer (λ_ hb=>hb) I.ok.funs
theorem Inv.stack(I:Inv X pq σ H s):s.heap.FunFrames X.base X.stack:=by
 rcases I.ok.stk with e | ⟨e,hf⟩
 ·rw[e];exact I.funs
 ·rw[e];obtain⟨m,hn,_⟩:=I.loc;refine .cons (by rw[I.ok.kind];decide) hf hn ?_ I.funs;exact Heap.get?_none_of_le (Ws I.ok.bsz I.ok.above)
theorem Inv.stkSub(I:Inv X pq σ H s):∀ b∈frs X.stack,b∈X.env.locals::X.fs:=λb hb=>by
 rcases I.ok.stk with e | ⟨e,hf⟩
 ·rw[e]at hb;exact WL _ hb
 ·rw[e]at hb;unfold frs at hb;rw[Xz,hf]at hb;exact hb
theorem Inv.stkFree(I:Inv X pq σ H s):∀ b∈frs X.stack,H b=none:=λb hb=>by
 rcases WV.mp (I.stkSub b hb) with e | hb
 ·rw[e];exact I.free
 ·obtain⟨_,o,ho,_⟩:=I.ok.funs.mem hb;exact I.base.free b o ho (I.ok.frf b hb) λz=>I.ok.exfs b z hb
theorem Inv.step{g':Array A1c}{t':Nat}{d':Drawn}{ch:List Zk}(I:Inv X pq σ H s)
 (hch:∀ b∈ch,(b∈X.ex\/X.s₀.heap.objs.size<=b)/\b≠X.env.locals/\(∀ x c,X.env.cells.lookup x=some c->c≠b)/\∀ p∈X.pn++pq,p.1≠b)
 (keep:∀ b o,b≠X.env.locals->b∉X.fs->b∉ch->s.heap.get? b=some o->H b=none->h'.get? b=some o)
 (slot:∀ b o,b≠X.env.locals->b∈X.fs->b∉ch->s.heap.get? b=some o->H b=none->∃ sl,h'.get? b=some {o with slots:=sl}) (free:∀ b o,b∉ch->s.heap.get? b=some o->H b=none->H' b=none)
 (there:∀ b o,b∉ch->s.heap.get? b=some o->∃ o',h'.get? b=some o')
 (tups:∀ b xs,H b=some (.tup xs)->H' b=some (.tup xs)) (frzs:∀ b o u,H b=some (.frz o (.lst u))->H' b=some (.frz o (.lst u))) (tbls:∀ b ps,H b=some (.tbl ps)->∃ more,H' b=some (.tbl (ps++more)))
 (ns:∀ m,s.heap.Ns X.env.locals m->h'.Ns X.env.locals m) (hok:HOk X.prog X.w H' h') (hg:AllBare g'):
 Inv X pq σ H' {s with heap:=h',gens:=g',drawn:=d',toks:=t'}:=by
 have neL:∀ b o,X.s₀.heap.get? b=some o->b≠X.env.locals:=λb o e=>WZ (Wu (WR e) I.ok.above)
 have neC:∀ b o,X.s₀.heap.get? b=some o->b∉X.ex->b∉ch:=λb o e hx hb=>by
  rcases(hch b hb).1 with z | z
  ·exact hx z
  ·exact absurd (Wu (WR e) z) (Xp _)
 have cellK:∀ x c,X.env.cells.lookup x=some c->∀ v,s.heap.IsCell c v->h'.IsCell c v:=λx c e v ⟨o,ho,hd⟩=>by
  have nch:c∉ch:=λz=>(hch c z).2.2.1 x c e rfl;by_cases hc:c∈X.fs
  ·obtain⟨sl,q⟩:=slot c o (I.cne x c e) hc nch ho (I.freeC x c e);exact⟨_,q,hd⟩
  ·exact⟨o,keep c o (I.cne x c e) hc nch ho (I.freeC x c e),hd⟩
 refine⟨I.ok,I.os,hg,⟨λb o e n hb hx=>?_,λb o e n hb hx=>?_,λb o e n hx=>?_,λb o e hx=>?_,λb xs e=>tups b xs (I.base.tups b xs e),λb o xs e=>frzs b o xs (I.base.frzs b o xs e),λb ps e=>?_⟩,?_,λx c e=>?_,?_,λx c e=>?_,λp hp=>?_,hok,I.len⟩
 ·exact keep b o (neL b o e) hb (neC b o e hx) (I.base.keep b o e n hb hx) (I.base.free b o e n hx)
 ·obtain⟨sl,e1⟩:=I.base.slot b o e n hb hx;obtain⟨sl',e2⟩:=slot b _ (neL b o e) hb (neC b o e hx) e1 (I.base.free b o e n hx);exact⟨sl',e2⟩
 ·obtain⟨o',e1⟩:=I.base.there b o e hx;exact free b o' (neC b o e hx) e1 (I.base.free b o e n hx)
 ·obtain⟨o',e1⟩:=I.base.there b o e hx;exact there b o' (neC b o e hx) e1
 ·obtain⟨m1,e1⟩:=I.base.tbls b ps e;obtain⟨m2,e2⟩:=tbls b _ e1;exact⟨m1++m2,by rw[e2,Array.append_assoc]⟩
 ·obtain⟨m,hn,hl⟩:=I.loc;refine⟨m,ns m hn,λi x v e1 e2 e3=>?_⟩;obtain⟨u,r,l⟩:=hl i x v e1 e2 e3;refine⟨u,r,?_⟩;rcases l with l | ⟨k,c,e,z⟩
  ·exact .inl l
  ·exact .inr ⟨k,c,e,cellK x c e _ z⟩
 ·obtain⟨v,z⟩:=I.cell x c e;exact⟨v,cellK x c e v z⟩
 ·obtain⟨m,⟨o,_,_,ho,_⟩,_⟩:=I.loc;exact free _ o (λz=>(hch _ z).2.1 rfl) ho I.free
 ·obtain⟨v,o,ho,hd⟩:=I.cell x c e;exact free c o (λz=>(hch c z).2.2.1 x c e rfl) ho (I.freeC x c e)
 ·obtain⟨e,n,ne,nf,d⟩:=I.pin p hp;have nch:p.1∉ch:=λz=>(hch p.1 z).2.2.2 p hp rfl;exact⟨keep p.1 p.2 ne nf nch e n,free p.1 p.2 nch e n,ne,nf,d⟩
theorem Inv.un{t':Nat}(I:Inv X pq σ H s)(u:Un X.fs [] H H' s.heap h')(hok:HOk X.prog X.w H' h'):Inv X pq σ H' {s with heap:=h',toks:=t'}:=by
 obtain⟨m,⟨o,es,ep,ho,r⟩,_⟩:=id I.loc;obtain⟨sl,hL⟩:=u.any ho I.free (by simp)
 exact I.step (g':=s.gens) (d':=s.drawn) (ch:=[]) (λ_ z=>nomatch z) (λb o _ hb _ e n=>u.keep b o e n hb (by simp)) (λb o _ hb _ e n=>u.slot b o e n hb (by simp)) (λb o _ e n=>u.free b o e n (by simp)) (λb o _ e=>u.there b o e (by simp)) u.tups u.frzs u.tbls (λm' hm=>by
  obtain⟨o',es',ep',ho',r'⟩:=hm;rw[ho]at ho';cases ho';exact⟨_,es',ep',hL,r'⟩) hok I.bare
theorem Inv.call{g':Array A1c}{t':Nat}{d':Drawn}{ch:List Zk}(I:Inv X pq σ H s)(u:Un (frs X.stack) ch H H' s.heap h')(hok:HOk X.prog X.w H' h')(hg:AllBare g')
 (hch:∀ b∈ch,(b∈X.ex\/X.s₀.heap.objs.size<=b)/\b≠X.env.locals/\(∀ x c,X.env.cells.lookup x=some c->c≠b)/\∀ p∈X.pn++pq,p.1≠b):
 Inv X pq σ H' {s with heap:=h',gens:=g',drawn:=d',toks:=t'}:=by
 obtain⟨m,⟨o,es,ep,ho,r⟩,_⟩:=id I.loc;obtain⟨sl,hL⟩:=u.any ho I.free λz=>(hch _ z).2.1 rfl
 exact I.step (ch:=ch) hch (λb o hL hb hc e n=>u.keep b o e n (λz=>(WV.mp (I.stkSub b z)).elim hL hb) hc) (λb o _ _ hc e n=>u.any e n hc) (λb o hc e n=>u.free b o e n hc) (λb o hc e=>u.there b o e hc) u.tups u.frzs u.tbls (λm' hm=>by
  obtain⟨o',es',ep',ho',r'⟩:=hm;rw[ho]at ho';cases ho';exact⟨_,es',ep',hL,r'⟩) hok hg
theorem Inv.turned{t':Nat}{it:Zk}(I:Inv X pq σ H s)(k:∀ b o,b≠it->s.heap.get? b=some o->h'.get? b=some o)(hn:H it=none)(hL:it≠X.env.locals)
 (h1:it∈X.ex\/X.s₀.heap.objs.size<=it) (h2:∀ x c,X.env.cells.lookup x=some c->c≠it) (h3:∀ p∈X.pn++pq,p.1≠it):Inv X pq σ H {s with heap:=h',toks:=t'}:=by
 have nit:∀ b u,H b=some u->b≠it:=λb u e z=>by rw[z,hn]at e;cases e
 refine I.step (g':=s.gens) (d':=s.drawn) (ch:=[it]) (λb hb=>?_) (λb o _ _ hc e _=>k b o (λz=>hc (by simp[z])) e) (λb o _ _ hc e _=>⟨o.slots,k b o (λz=>hc (by simp[z])) e⟩) (λ_ _ _ _ n=>n)
  (λb o hc e=>⟨o,k b o (λz=>hc (by simp[z])) e⟩) (λ_ _ e=>e) (λ_ _ _ e=>e) (λb ps e=>⟨#[],by rw[e];simp⟩) (λm hm=>?_) (λb u e=>?_) I.bare
 ·have e:b=it:=by simpa using hb
  subst e;exact⟨h1,hL,h2,h3⟩
 ·obtain⟨o,es,ep,ho,r⟩:=hm;exact⟨o,es,ep,k _ o (Ne.symm hL) ho,r⟩
 ·refine(I.hok b u e).stay (λc v hc q=>k c v ?_ q) (λ_ q=>q) λ_ _ q=>q;rcases hc with z | z
  ·rw[z];exact nit b u e
  ·exact nit c _ z
theorem Inv.tok(I:Inv X pq σ H s)(t:Nat):Inv X pq σ H {s with toks:=t}:=I.un (h':=s.heap) (t':=t) Un.refl I.hok
theorem Inv.kept{t':Nat}(I:Inv X pq σ H s)(k:∀ b u,s.heap.get? b=some u->h'.get? b=some u):Inv X pq σ H {s with heap:=h',toks:=t'}:=I.un (Un.kept k) (I.hok.kept k)
theorem Inv.laid{a:Zk}{o:HO}{t':Nat}(I:Inv X pq σ H s)(k:∀ b u,s.heap.get? b=some u->h'.get? b=some u)(hp:s.heap.objs.size<=a)(new:ObjOk X.prog X.w (upd H a o) h' a o):
 Inv X pq σ (upd H a o) {s with heap:=h',toks:=t'}:=I.un (Un.laid k hp (I.hok.fresh hp)) (I.hok.laid k hp new)
theorem Inv.write{x e:Zk}{o:HO}{t':Nat}(I:Inv X pq σ H s)(mu:Mut (H x))(he:e=x\/H e=some (.own x))(k:∀ b u,b≠e->s.heap.get? b=some u->h'.get? b=some u)(heo:∃ u,h'.get? e=some u)
 (new:ObjOk X.prog X.w (upd H x o) h' x o):Inv X pq σ (upd H x o) {s with heap:=h',toks:=t'}:=I.un (Un.write mu he k heo) (I.hok.write mu he k heo new)
theorem Inv.weak{σ':List (Option V)}(I:Inv X pq σ H s)(hl:σ'.length=σ.length)(w:∀(i:Nat) v,σ'[i]?=some (some v)->σ[i]?=some (some v)):Inv X pq σ' H s:=
 ⟨I.ok,I.os,I.bare,I.base,let ⟨m,hn,hl'⟩:=I.loc;⟨m,hn,λi x v e1 e2 e3=>hl' i x v e1 (w i v e2) e3⟩,I.cell,I.free,I.freeC,I.pin,I.hok,hl.trans I.len⟩
theorem Inv.pins_of{pq':List (Zk×Obj)}(I:Inv X pq σ H s)(h:∀ p∈pq',s.heap.get? p.1=some p.2/\H p.1=none/\p.1≠X.env.locals/\p.1∉X.fs/\∀ v,p.2.data ≠ .cell v):Inv X pq' σ H s:=
 ⟨I.ok,I.os,I.bare,I.base,I.loc,I.cell,I.free,I.freeC,λp hp=>(WH.mp hp).elim (λz=>I.pin p (Wa _ z)) (h p),I.hok,I.len⟩
theorem Fv{N:List Str}(hN:N.Nodup){i j:Nat}{x:Str}(a:N[i]?=some x)(b:N[j]?=some x):i=j:=by
 obtain⟨h1,e1⟩:=gM a;obtain⟨h2,e2⟩:=gM b;exact(List.getElem_inj hN).mp (e1.trans e2.symm)
theorem CB{M:Model}{A:Zx}{E:Zh->Zj->Prop}{i:Nat}{x:Str}{v:V}{u:Zh}{Q:Unit->Zj->Prop}(I:Inv X pq σ H s)(hN:X.N.Nodup)(hi:X.N[i]?=some x)(hx:Loc X.env.scope x)(r:RelV v u)
 (h:∀ s',Inv X pq (σ.set i (some v)) H s'->(∃ a,Wy a s.heap s'.heap/\(a=X.env.locals\/X.env.cells.lookup x=some a))->Q () s') (hf:X.fn x=true\/X.env.scope.names.lookup x=some .local:=by first | exact .inl rfl | exact .inr rfl | assumption):Zl M A (storeName X.env x u) Q E s:=by
 obtain⟨m,hn,hl⟩:=id I.loc;have hcls:(X.env.scope.kind == .class||(X.env.scope.kind == .module&&X.env.locals != X.env.globals))=false:=by rw[I.ok.kind];rfl
 have hiσ:i<σ.length:=by rw[I.len];exact(gM hi).1
 have cne:=I.cne
 have tracked:∀{a:Zk} {h':Heap},(∃ o,s.heap.get? a=some o/\H a=none)->Wy a s.heap h'->HOk X.prog X.w H h':=λ{a h'} ha hs b ob e=>by
  obtain⟨_,_,hfree⟩:=ha;refine(I.hok b ob e).stay (λc w' hc q=>(hs.2 c ?_).trans q) (λ_ q=>q) λ_ _ q=>q;rintro rfl;rcases hc with rfl | hc
  ·rw[hfree]at e;cases e
  ·rw[hfree]at hc;cases hc
 rcases hx with hk | hk
 ·refine wpAny_storeName_local hk hn (λh' hn' hs=>?_) hcls;obtain⟨oL,_,_,hoL,_⟩:=id hn;refine h _ ⟨I.ok,I.os,I.bare,⟨λb o e n hb hx=>?_,λb o e n hb hx=>?_,I.base.free,λb o e hx=>?_,I.base.tups,I.base.frzs,I.base.tbls⟩,⟨_,hn',λj y v' e1 e2 e3=>?_⟩,λy c e=>?_,I.free,I.freeC,λp hp=>?_,tracked ⟨oL,hoL,I.free⟩ hs,by simpa using I.len⟩ ⟨_,hs,.inl rfl⟩
  ·exact(hs.2 b (WZ (Wu (WR e) I.ok.above))).trans (I.base.keep b o e n hb hx)
  ·obtain⟨sl,e1⟩:=I.base.slot b o e n hb hx;exact⟨sl,(hs.2 b (WZ (Wu (WR e) I.ok.above))).trans e1⟩
  ·obtain⟨o',e1⟩:=I.base.there b o e hx;exact⟨o',(hs.2 b (WZ (Wu (WR e) I.ok.above))).trans e1⟩
  ·by_cases hj:j=i
   ·subst hj;rw[hi]at e1;cases e1;rw[Wk hiσ]at e2;cases e2;exact⟨u,r,.inl ⟨hk,by simp⟩⟩
   ·rw[Wx (Ne.symm hj)]at e2;obtain⟨u',r',q⟩:=hl j y v' e1 e2 e3;refine⟨u',r',?_⟩;rcases q with⟨k,e⟩ | ⟨k,c,e,z⟩
    ·refine .inl ⟨k,?_⟩;have:y≠x:=λe=>hj (Fv hN e1 (e▸hi));simp[this,e]
    ·exact .inr ⟨k,c,e,z.sameBut hs (cne y c e)⟩
  ·obtain⟨w',z⟩:=I.cell y c e;exact⟨w',z.sameBut hs (cne y c e)⟩
  ·obtain⟨e,n,ne,nf,d⟩:=I.pin p hp;exact⟨(hs.2 p.1 ne).trans e,n,ne,nf,d⟩
 ·have hfn:X.fn x=true:=by
   rcases hf with z | z
   ·exact z
   ·rw[z]at hk;cases hk
  obtain⟨c,hc⟩:=I.ok.has x (.inl hk);obtain⟨w',z⟩:=I.cell x c hc;refine wpAny_storeName_cell I.ok.kind hk hc z (λh' hc' hs=>?_);obtain⟨oc,hoc,hocd⟩:=id z;refine h {s with heap:=h'} ⟨I.ok,I.os,I.bare,⟨λb o e n hb hx=>?_,λb o e n hb hx=>?_,I.base.free,λb o e hx=>?_,I.base.tups,I.base.frzs,I.base.tbls⟩,⟨m,hn.sameBut hs (Ne.symm (cne x c hc)),λj y v' e1 e2 e3=>?_⟩,λy c' e=>?_,I.free,I.freeC,λp hp=>?_,tracked ⟨oc,hoc,I.freeC x c hc⟩ hs,by simpa using I.len⟩ ⟨c,hs,.inr hc⟩
  ·exact(hs.2 b (WZ (Wu (WR e) (I.ok.cab x c hfn hc)))).trans (I.base.keep b o e n hb hx)
  ·obtain⟨sl,e1⟩:=I.base.slot b o e n hb hx;exact⟨sl,(hs.2 b (WZ (Wu (WR e) (I.ok.cab x c hfn hc)))).trans e1⟩
  ·obtain⟨o',e1⟩:=I.base.there b o e hx;exact⟨o',(hs.2 b (WZ (Wu (WR e) (I.ok.cab x c hfn hc)))).trans e1⟩
  ·by_cases hj:j=i
   ·subst hj;rw[hi]at e1;cases e1;rw[Wk hiσ]at e2;cases e2;exact⟨u,r,.inr ⟨.inl hk,c,hc,hc'⟩⟩
   ·rw[Wx (Ne.symm hj)]at e2;obtain⟨u',r',q⟩:=hl j y v' e1 e2 e3;refine⟨u',r',?_⟩;rcases q with q | ⟨k,c',e,z'⟩
    ·exact .inl q
    ·refine .inr ⟨k,c',e,z'.sameBut hs ?_⟩;rintro rfl;exact hj (Fv hN e1 (I.ok.inj _ _ _ e hc▸hi))
  ·by_cases hcc:c'=c
   ·subst hcc;exact⟨_,hc'⟩
   ·obtain⟨w2,z2⟩:=I.cell y c' e;exact⟨w2,z2.sameBut hs hcc⟩
  ·obtain⟨e,n,ne,nf,d⟩:=I.pin p hp;refine⟨(hs.2 p.1 ?_).trans e,n,ne,nf,d⟩;intro q;rw[q,hoc]at e;have q':oc=p.2:=oj e;exact d w' (by rw[<-q'];exact hocd)
theorem B0{M:Model}{A:Zx}{E:Zh->Zj->Prop}{i:Nat}{x:Str}{v:V}{u:Zh}{Q:Unit->Zj->Prop}(I:Inv X pq σ H s)(hN:X.N.Nodup)(hi:X.N[i]?=some x)(hx:Loc X.env.scope x)(r:RelV v u)
 (h:∀ s',Inv X pq (σ.set i (some v)) H s'->Q () s') (hf:X.fn x=true\/X.env.scope.names.lookup x=some .local:=by first | exact .inl rfl | exact .inr rfl | assumption):Zl M A (storeName X.env x u) Q E s:=
 CB I hN hi hx r (λs' I' _=>h s' I') hf
theorem Inv.call'{s':Zj}{ch:List Zk}(I:Inv X pq σ H s)(ho:s'.os=s.os)(u:Un (frs X.stack) ch H H' s.heap s'.heap)(hok:HOk X.prog X.w H' s'.heap)(hg:AllBare s'.gens)
 (hch:∀ b∈ch,(b∈X.ex\/X.s₀.heap.objs.size<=b)/\b≠X.env.locals/\(∀ x c,X.env.cells.lookup x=some c->c≠b)/\∀ p∈X.pn++pq,p.1≠b):Inv X pq σ H' s':=by
 obtain⟨h',g',d',t',o'⟩:=s';have e:o'=s.os:=ho;subst e;exact I.call (g':=g') (t':=t') (d':=d') u hok hg hch
end
abbrev XK:=Zh->Option Zk->Hp->Prop
abbrev St:=List (Option V)
abbrev VK:=V->Hp->Prop
abbrev TE:=St->Hp->VK->Prop
abbrev TT:=St->Hp->(Bool->Hp->Prop)->Prop
abbrev TA:=St->Hp->(List V->Hp->Prop)->Prop
structure Ends where
 nx:St->Hp->Prop
 rt:VK
 bk:St->Hp->Prop:=λ_ _=>False
 ct:St->Hp->Prop:=λ_ _=>False
abbrev TS:=Ends->St->Hp->Prop
noncomputable def EP(X:Cx)(pq:List (Zk×Obj))(σ:St)(Q:VK)(u:Zh)(s':Zj):Prop:=∃ v H',Inv X pq σ H' s'/\RelV v u/\Q v H'
noncomputable def TP(X:Cx)(pq:List (Zk×Obj))(σ:St)(Q:Bool->Hp->Prop)(b:Bool)(s':Zj):Prop:=∃ H',Inv X pq σ H' s'/\Q b H'
noncomputable def AP(X:Cx)(pq:List (Zk×Obj))(σ:St)(Q:List V->Hp->Prop)(us:List Zh)(s':Zj):Prop:=∃ vs H',Inv X pq σ H' s'/\Vals vs us/\Q vs H'
noncomputable def SP(X:Cx)(pq:List (Zk×Obj))(D:Ends)(f:Flow)(s':Zj):Prop:=
 match f with
 | .next=>∃ σ' H',Inv X pq σ' H' s'/\D.nx σ' H'
 | .brk=>∃ σ' H',Inv X pq σ' H' s'/\D.bk σ' H'
 | .cont=>∃ σ' H',Inv X pq σ' H' s'/\D.ct σ' H'
 | .ret u=>∃ v σ' H',Inv X pq σ' H' s'/\RelV v u/\D.rt v H'
noncomputable def PE(X:Cx)(e:Expr)(t:TE):Prop:=
 ∀(pq:List (Zk×Obj)) (s:Zj) (σ:St) (H:Hp) (Q:VK),Inv X pq σ H s->t σ H Q->Zl (Zm X.prog X.w) X.A (eval e X.env) (EP X pq σ Q) X.xe s
noncomputable def PT(X:Cx)(e:Expr)(t:TT):Prop:=
 ∀(pq:List (Zk×Obj)) (s:Zj) (σ:St) (H:Hp) (Q:Bool->Hp->Prop),Inv X pq σ H s->t σ H Q->Zl (Zm X.prog X.w) X.A (isTrue e X.env (eval e X.env)) (TP X pq σ Q) X.xe s
noncomputable def PW(X:Cx)(e:Expr)(t:TT):Prop:=
 ∀(whole:Sem Zh) (pq:List (Zk×Obj)) (s:Zj) (σ:St) (H:Hp) (Q:Bool->Hp->Prop),Inv X pq σ H s->t σ H Q->Zl (Zm X.prog X.w) X.A (isTrue e X.env whole) (TP X pq σ Q) X.xe s
theorem PW.pt{X:Cx}{e:Expr}{t:TT}(h:PW X e t):PT X e t:=h _
noncomputable def PA(X:Cx)(es:List Expr)(t:TA):Prop:=
 ∀(pos:Pos) (pq:List (Zk×Obj)) (s:Zj) (σ:St) (H:Hp) (Q:List V->Hp->Prop),Inv X pq σ H s->t σ H Q->Zl (Zm X.prog X.w) X.A (spliced (backTo pos (Zp es X.env))) (AP X pq σ Q) X.xe s
noncomputable def PS(X:Cx)(st:Stmt)(t:TS):Prop:=
 ∀(pq:List (Zk×Obj)) (s:Zj) (σ:St) (H:Hp) (D:Ends),Inv X pq σ H s->t D σ H->Zl (Zm X.prog X.w) X.A (exec st X.env) (SP X pq D) X.xe s
noncomputable def PSs(X:Cx)(st:List Stmt)(t:TS):Prop:=
 ∀(pq:List (Zk×Obj)) (s:Zj) (σ:St) (H:Hp) (D:Ends),Inv X pq σ H s->t D σ H->Zl (Zm X.prog X.w) X.A (execs st X.env) (SP X pq D) X.xe s
theorem thn{α:Type}{t:Sem α}{Q Q':α->Zj->Prop}{M:Model}{A:Zx}{E:Zh->Zj->Prop}{s:Zj}(h:Zl M A t Q E s)(hQ:∀ a s,Q a s->Q' a s):Zl M A t Q' E s:=A02 h hQ λ_ _ x=>x
section
variable{X:Cx}
def Oh(i:Nat):TE:=λσ H Q=>∃ v,σ[i]?=some (some v)/\Q v H
def tC(v:V):TE:=λ_ H Q=>Q v H
theorem Rq{i:Nat}{x:Str}{pos:Pos}(hN:X.N[i]?=some x)(hv:Vis X.env.scope x)(hd:(x == ("__debug__":Str))=false:=by decide)(hcd:(x == ("__classdict__":Str))=false:=by decide):PE X (.Name x pos) (Oh i):=by
 intro pq s σ H Q I h;obtain⟨v,e,h⟩:=h;obtain⟨m,hn,hl⟩:=I.loc;obtain⟨u,r,l⟩:=hl i x v hN e hv;have fin:EP X pq σ Q u s:=⟨v,H,I,r,h⟩
 rcases l with⟨hk,hm⟩ | ⟨hk,c,hc,hcell⟩
 ·exact A1J (wpAny_loadName_local I.ok.kind hk hn hm fin) hd
 ·rcases hk with hk | hk
  ·exact A1J (wpAny_loadName_cell I.ok.kind hk hc hcell fin) hd
  ·exact A1J (wpAny_loadName_free I.ok.kind hk hc hcell fin hcd) hd
theorem M6{i j pos}:PE X (.Constant (.int i) j pos) (tC (.int i)):=λ_ _ _ H _ I h=>wpAny_Constant_int ⟨.int i,H,I.tok _,⟨_,rfl⟩,h⟩
theorem U1{b j pos}:PE X (.Constant (.bool b) j pos) (tC (.bl b)):=λ_ _ _ H _ I h=>Constant_bool ⟨.bl b,H,I,rfl,h⟩
theorem Rr{j pos}:PE X (.Constant .none j pos) (tC .non):=λ_ _ _ H _ I h=>Constant_none ⟨.non,H,I,rfl,h⟩
theorem Rs{x j pos}:PE X (.Constant (.str x) j pos) (tC (.str x)):=λ_ _ _ H _ I h=>Calls.Constant_str ⟨.str x,H,I.tok _,⟨_,rfl⟩,h⟩
def Gl(X:Cx)(x:Str):Prop:=X.env.kindOf x=some .globalImplicit
theorem Oi{E:Zh->Zj->Prop}{pq:List (Zk×Obj)}{s:Zj}{σ:St}{H:Hp}{x:Str}{u:Zh}{pos:Pos}{Q:Zh->Zj->Prop}(I:Inv X pq σ H s)(hg:Gl X x)(hm:X.mg x=some u)(h:Q u s)
 (hd:(x == ("__debug__":Str))=false:=by decide):Zl (Zm X.prog X.w) X.A (eval (.Name x pos) X.env) Q E s:=
 Calls.Name_function_global I.ok.kind hg (Calls.loadGlobal_global (by rw[I.ok.glob];exact I.mod.glob.keeps I.bk) hm h) hd
theorem B5{E:Zh->Zj->Prop}{pq:List (Zk×Obj)}{s:Zj}{σ:St}{H:Hp}{x:Str}{u:Zh}{pos:Pos}{Q:Zh->Zj->Prop}(I:Inv X pq σ H s)(hg:Gl X x)(hm:X.mg x=none)(hv:Zs x=some u)(h:Q u s)
 (hn:x≠"__name__":=by decide) (hd:(x == ("__debug__":Str))=false:=by decide):Zl (Zm X.prog X.w) X.A (eval (.Name x pos) X.env) Q E s:=by
 obtain⟨mb,h1,h2⟩:=I.mod.blt;exact Calls.Name_function_global I.ok.kind hg (Calls.loadGlobal_builtin (by rw[I.ok.glob];exact I.mod.glob.keeps I.bk) hm (by rw[I.ok.blt];exact h1.keeps I.bk) ((h2 x hn).trans hv) h) hd
theorem Oj{x:Str}{v:V}{u:Zh}{pos:Pos}(hg:Gl X x)(hm:X.mg x=none)(hv:Zs x=some u)(r:RelV v u)(hn:x≠"__name__":=by decide)(hd:(x == ("__debug__":Str))=false:=by decide):PE X (.Name x pos) (tC v):=
 λ_ _ _ H _ I h=>B5 I hg hm hv ⟨v,H,I,r,h⟩ hn hd
variable{a b:Expr}{ta tb:TE}{pos:Pos}
noncomputable def PC(X:Cx)(op:CmpOp)(a b:Expr)(t:TE):Prop:=
 ∀(pq:List (Zk×Obj)) (s:Zj) (σ:St) (H:Hp) (Q:VK),Inv X pq σ H s->t σ H Q->
  Zl (Zm X.prog X.w) X.A (eval a X.env) (λv s₁=>Zl (Zm X.prog X.w) X.A (eval b X.env) (λu s₂=>Zl (Zm X.prog X.w) X.A (Zw op v u) (EP X pq σ Q) X.xe s₂) X.xe s₁) X.xe s
def tB(t:TE):TT:=λσ H Q=>t σ H λx H1=>∃ c,x = .bl c/\Q c H1
theorem M7{op:CmpOp}{t:TE}(h:PC X op a b t)(h1:A0H op b=false:=by first | exact nobehind _ (by decide) (by decide) | rfl):PE X (.Compare a [op] [b] pos) t:=λpq s σ H Q I hw=>A1K (h pq s σ H Q I hw) h1
theorem M8{op:CmpOp}{t:TE}(h:PC X op a b t)(h1:A0H op b=false:=by first | exact nobehind _ (by decide) (by decide) | rfl):PT X (.Compare a [op] [b] pos) (tB t):=by
 intro pq s σ H Q I hw;refine A19 (thn (h pq s σ H _ I hw) λv s1 h1=>thn h1 λu s2 h2=>thn h2 λc s3 ⟨x,H1,I1,r1,q1⟩=>?_) h1;obtain⟨d,rfl,q⟩:=q1;cases r1;exact Zy ⟨H1,I1,q⟩
variable{tA tB':TT}{rest:List Expr}
noncomputable def U2(t u:TT):TT:=λσ H Q=>t σ H λc H1=>if c=true then u σ H1 Q else Q false H1
def tOr(t u:TT):TT:=λσ H Q=>t σ H λc H1=>if c=true then Q true H1 else u σ H1 Q
def U3(t:TT):TT:=λσ H Q=>t σ H λc H1=>Q (!c) H1
theorem Ol(ha:PT X a tA):PW X (.BoolOp .And [a] pos) tA:=by
 intro wh pq s σ H Q I h;refine isTrue_and (thn (ha pq s σ H Q I h) λc s1 e=>?_);cases c with
 | true=>exact isTrue_and_nil e
 | false=>exact e
theorem Ru(ha:PT X a tA):PW X (.BoolOp .Or [a] pos) tA:=by
 intro wh pq s σ H Q I h;refine isTrue_or (thn (ha pq s σ H Q I h) λc s1 e=>?_);cases c with
 | false=>exact isTrue_or_nil e
 | true=>exact e
theorem M9(ha:PT X a tA)(hb:PW X (.BoolOp .And (b::rest) pos) tB'):PW X (.BoolOp .And (a::b::rest) pos) (U2 tA tB'):=by
 intro wh pq s σ H Q I h;refine isTrue_and (thn (ha pq s σ H _ I h) λc s1 ⟨H1,I1,q1⟩=>?_);cases c with
 | true=>exact hb wh pq s1 σ H1 Q I1 q1
 | false=>exact⟨H1,I1,q1⟩
theorem Qy(ha:PT X a tA)(hb:PW X (.BoolOp .Or (b::rest) pos) tB'):PW X (.BoolOp .Or (a::b::rest) pos) (tOr tA tB'):=by
 intro wh pq s σ H Q I h;refine isTrue_or (thn (ha pq s σ H _ I h) λc s1 ⟨H1,I1,q1⟩=>?_);cases c with
 | true=>exact⟨H1,I1,q1⟩
 | false=>exact hb wh pq s1 σ H1 Q I1 q1
theorem Rv(ha:PT X a tA):PT X (.UnaryOp .Not a pos) (U3 tA):=by
 intro pq s σ H Q I h;exact isTrue_not (ha pq s σ H (λc H1=>Q (!c) H1) I h)
noncomputable def Qz(ta tb:TE):TE:=λσ H Q=>ta σ H λx H1=>∃ c,x = .bl c/\if c=true then tb σ H1 Q else Q (.bl false) H1
noncomputable def U4(ta tb:TE):TE:=λσ H Q=>ta σ H λx H1=>∃ c,x = .bl c/\if c=true then Q (.bl true) H1 else tb σ H1 Q
def R0(ta:TE):TE:=λσ H Q=>ta σ H λx H1=>∃ c,x = .bl c/\Q (.bl (!c)) H1
theorem MA{op}{t:TE}(h:PE X a t):PE X (.BoolOp op [a] pos) t:=λpq s σ H Q I hw=>BoolOp_one (h pq s σ H Q I hw)
theorem MB(ha:PE X a ta)(hb:PE X (.BoolOp .And (b::rest) pos) tb):PE X (.BoolOp .And (a::b::rest) pos) (Qz ta tb):=by
 intro pq s σ H Q I h;refine BoolOp_and (thn (ha pq s σ H _ I h) λv s1 ⟨x,H1,I1,r1,q1⟩=>?_);obtain⟨c,rfl,q1⟩:=q1;cases r1;refine Zy ?_;cases c with
 | true=>exact hb pq s1 σ H1 Q I1 q1
 | false=>exact⟨.bl false,H1,I1,rfl,q1⟩
theorem R1(ha:PE X a ta)(hb:PE X (.BoolOp .Or (b::rest) pos) tb):PE X (.BoolOp .Or (a::b::rest) pos) (U4 ta tb):=by
 intro pq s σ H Q I h;refine BoolOp_or (thn (ha pq s σ H _ I h) λv s1 ⟨x,H1,I1,r1,q1⟩=>?_);obtain⟨c,rfl,q1⟩:=q1;cases r1;refine Zy ?_;cases c with
 | false=>exact hb pq s1 σ H1 Q I1 q1
 | true=>exact⟨.bl true,H1,I1,rfl,q1⟩
theorem Rx(ha:PE X a ta):PE X (.UnaryOp .Not a pos) (R0 ta):=by
 intro pq s σ H Q I h;refine UnaryOp_ (thn (ha pq s σ H _ I h) λv s1 ⟨x,H1,I1,r1,q1⟩=>?_);obtain⟨c,rfl,q1⟩:=q1;cases r1;exact not_of (Zy ⟨.bl (!c),H1,I1,rfl,q1⟩)
noncomputable def tIf(t:TT)(ta tb:TE):TE:=λσ H Q=>t σ H λc H1=>if c=true then ta σ H1 Q else tb σ H1 Q
theorem MC{c:Expr}(hc:PT X c tA)(ha:PE X a ta)(hb:PE X b tb):PE X (.IfExp c a b pos) (tIf tA ta tb):=by
 intro pq s σ H Q I h;refine wpAny_IfExp (thn (hc pq s σ H _ I h) λd s1 ⟨H1,I1,q1⟩=>?_);cases d with
 | true=>exact ha pq s1 σ H1 Q I1 q1
 | false=>exact hb pq s1 σ H1 Q I1 q1
end
noncomputable def SqL(K:W5)(H:Hp)(a:Zk)(xs:List V):Prop:=
 Rd H a (.lst xs)\/
  ∃(o:Obj) (its:Array Zh) (n:Nat),K.lookup a=some o/\o.cls = .type "list"/\o.dict=none/\o.data = .seq its n/\its.size<=Zn/\Vals xs its.toList
noncomputable def SqT(K:W5)(H:Hp)(a:Zk)(xs:List V):Prop:=
 Rd H a (.tup xs)\/
  ∃(o:Obj) (its:Array Zh) (n:Nat),K.lookup a=some o/\o.cls = .type "tuple"/\o.data = .seq its n/\its.size<=Zn/\Vals xs its.toList
noncomputable def VZ:Zh->Option V
 | .none=>some .non
 | .bool b=>some (.bl b)
 | .int i _=>some (.int i)
 | .str x _=>some (.str x)
 | .bytes b _=>some (.byt b)
 | .float b _=>some (.flt b)
 | .ref a=>some (.ref a)
 | .type n=>some (.ty n)
 | _=>none
theorem RelV.abs{x:V}{u:Zh}(r:RelV x u):VZ u=some x:=by
 cases x with
 | non=>cases r;rfl
 | bl _=>cases r;rfl
 | int _=>obtain⟨t,rfl⟩:=r;rfl
 | str _=>obtain⟨t,rfl⟩:=r;rfl
 | byt _=>obtain⟨t,rfl⟩:=r;rfl
 | flt _=>obtain⟨t,rfl⟩:=r;rfl
 | ref _=>cases r;rfl
 | ty _=>cases r;rfl
theorem RelV.inj{x y:V}{u:Zh}(r:RelV x u)(q:RelV y u):x=y:=oj (r.abs.symm.trans q.abs)
theorem Vals.inj:∀{xs ys:List V} {us:List Zh},Vals xs us->Vals ys us->xs=ys
 | _,_,_,.nil,.nil=>rfl
 | _,_,_,.cons r t,.cons r' t'=>by rw[r.inj r',Vals.inj t t']
section
variable{X:Cx}{pq:List (Zk×Obj)}{σ:St}{H:Hp}{s:Zj}{a:Zk}{xs ys:List V}
theorem SqL.of{K:W5}(h:H a=some (.lst xs)):SqL K H a xs := .inl (.inl h)
theorem SqT.of{K:W5}(h:H a=some (.tup xs)):SqT K H a xs := .inl (.inl h)
theorem Inv.list(I:Inv X pq σ H s)(h:SqL X.K H a xs):∃ its:List Zh,Vals xs its/\PlainL s.heap a its.toArray/\xs.length<=Zn:=by
 rcases h with h | ⟨o,its,n,hk,hc,hd,hs,hz,r⟩
 ·obtain⟨z,its,n,r,e⟩:=h.ok I.hok;exact⟨its,r,⟨_,n,e,rfl,rfl,rfl⟩,z⟩
 ·refine⟨its.toList,r,⟨o,n,I.kIn a o hk,hc,hd,by simpa using hs⟩,?_⟩;have e:=r.length;simp only[XG]at e;omega
theorem Inv.tuple(I:Inv X pq σ H s)(h:SqT X.K H a xs):∃ its:List Zh,Vals xs its/\IsTup s.heap a its.toArray/\xs.length<=Zn:=by
 rcases h with h | ⟨o,its,n,hk,hc,hs,hz,r⟩
 ·obtain⟨z,its,r,p⟩:=h.ok I.hok;exact⟨its,r,p,z⟩
 ·refine⟨its.toList,r,⟨o,I.kIn a o hk,hc,n,by simpa using hs⟩,?_⟩;have e:=r.length;simp only[XG]at e;omega
theorem Inv.list_inj(I:Inv X pq σ H s)(h:SqL X.K H a xs)(h':SqL X.K H a ys):xs=ys:=by
 obtain⟨its,r,⟨o,n,e,_,_,d⟩,_⟩:=I.list h;obtain⟨its',r',⟨o',n',e',_,_,d'⟩,_⟩:=I.list h';rw[e]at e';cases e';rw[d]at d';injection d' with d1 _;have:its=its':=by simpa using congrArg ZT d1
 subst this;exact r.inj r'
theorem Inv.tuple_inj(I:Inv X pq σ H s)(h:SqT X.K H a xs)(h':SqT X.K H a ys):xs=ys:=by
 obtain⟨its,r,⟨o,e,_,n,d⟩,_⟩:=I.tuple h;obtain⟨its',r',⟨o',e',_,n',d'⟩,_⟩:=I.tuple h';rw[e]at e';cases e';rw[d]at d';injection d' with d1 _;have:its=its':=by simpa using congrArg ZT d1
 subst this;exact r.inj r'
end
abbrev Cx.wish(X:Cx)(E:Zh->Zj->Prop):Cx:={X with xe:=E}
abbrev Cx.nox(X:Cx):Cx:=X.wish λ_ _=>False
theorem Cx.Ok.wish{X:Cx}(ok:X.Ok)(E:Zh->Zj->Prop):(X.wish E).Ok:=
 ⟨ok.mod,ok.kind,ok.glob,ok.blt,ok.above,ok.inj,ok.has,ok.cab,ok.hd,ok.frames,ok.stk,ok.exf,ok.bs,ok.bsz,ok.noex,ok.exfs,ok.funs,ok.frf⟩
theorem Cx.Ok.unwish{X:Cx}{E:Zh->Zj->Prop}(ok:(X.wish E).Ok):X.Ok:=
 ⟨ok.mod,ok.kind,ok.glob,ok.blt,ok.above,ok.inj,ok.has,ok.cab,ok.hd,ok.frames,ok.stk,ok.exf,ok.bs,ok.bsz,ok.noex,ok.exfs,ok.funs,ok.frf⟩
section
variable{X:Cx}{pq:List (Zk×Obj)}{σ:St}{H:Hp}{s:Zj}{E:Zh->Zj->Prop}
theorem Inv.wish(I:Inv X pq σ H s)(E:Zh->Zj->Prop):Inv (X.wish E) pq σ H s:=⟨I.ok.wish E,I.os,I.bare,I.base,I.loc,I.cell,I.free,I.freeC,I.pin,I.hok,I.len⟩
theorem Inv.unwish(I:Inv (X.wish E) pq σ H s):Inv X pq σ H s:=⟨I.ok.unwish,I.os,I.bare,I.base,I.loc,I.cell,I.free,I.freeC,I.pin,I.hok,I.len⟩
theorem SP.unwish{D:Ends}{f:Flow}{s':Zj}(h:SP (X.wish E) pq D f s'):SP X pq D f s':=by
 cases f with
 | next=>obtain⟨σ',H',I,q⟩:=h;exact⟨σ',H',I.unwish,q⟩
 | brk=>obtain⟨σ',H',I,q⟩:=h;exact⟨σ',H',I.unwish,q⟩
 | cont=>obtain⟨σ',H',I,q⟩:=h;exact⟨σ',H',I.unwish,q⟩
 | ret u=>obtain⟨v,σ',H',I,r,q⟩:=h;exact⟨v,σ',H',I.unwish,r,q⟩
theorem PSs.nox{st:List Stmt}{t:TS}(h:PSs X.nox st t):PSs X st t:=λpq s σ H D I hw=>
 A02 (h pq s σ H D (I.wish _) hw) (λ_ _ q=>q.unwish) λ_ _ z=>False.elim z
end
section
variable{X:Cx}{st:Stmt}{rest:List Stmt}{t u:TS}{e:Expr}{te:TE}{pos:Pos}
def U5:TS:=λD σ H=>D.nx σ H
def Va(t u:TS):TS:=λD σ H=>t {D with nx:=u D} σ H
theorem Om:PSs X [] U5:=λ_ _ σ H _ I h=>A15 ⟨σ,H,I,h⟩
theorem MD(h1:PS X st t)(h2:PSs X rest u):PSs X (st::rest) (Va t u):=by
 intro pq s σ H D I h;refine wpAny_execs_cons (thn (h1 pq s σ H {D with nx:=u D} I h) λf s1 q=>?_);cases f with
 | next=>
   obtain⟨σ',H',I',q⟩:=q;exact h2 pq s1 σ' H' D I' q
 | ret v=>exact q
 | brk=>exact q
 | cont=>exact q
theorem Inv.quiet{pq:List (Zk×Obj)}{σ:St}{H:Hp}{s:Zj}(I:Inv X pq σ H s):interactive X.env=false:=by simp[interactive,I.ok.kind]
def U6(te:TE):TS:=λD σ H=>te σ H λ_ H1=>D.nx σ H1
theorem Oo(he:PE X e te)(hs:A08 e none pos.line X.env=pure false:=by rfl):PS X (.Expr e pos) (U6 te):=by
 intro pq s σ H D I h;exact wpAny_Expr_any (thn (he pq s σ H _ I h) λv s1 ⟨x,H1,I1,r1,q1⟩=>⟨σ,H1,I1,q1⟩) I.quiet hs
def Vb(te:TE):TS:=λD σ H=>te σ H D.rt
theorem Ry(he:PE X e te):PS X (.Return (some e) pos) (Vb te):=by
 intro pq s σ H D I h;exact wpAny_Return_some (thn (he pq s σ H _ I h) λv s1 ⟨x,H1,I1,r1,q1⟩=>⟨x,σ,H1,I1,r1,q1⟩)
def U7:TS:=λD _ H=>D.rt .non H
theorem Op:PS X (.Return none pos) U7:=λ_ _ σ H _ I h=>wpAny_Return_none ⟨.non,σ,H,I,rfl,h⟩
noncomputable def U8(c:TT)(t u:TS):TS:=λD σ H=>c σ H λb H1=>if b=true then t D σ H1 else u D σ H1
theorem U9{c:Expr}{a b:List Stmt}{tc:TT}(hc:PT X c tc)(ha:PSs X a t)(hb:PSs X b u):PS X (.If c a b pos) (U8 tc t u):=by
 intro pq s σ H D I h;refine wpAny_If (thn (hc pq s σ H _ I h) λd s1 ⟨H1,I1,q1⟩=>?_);cases d with
 | true=>exact ha pq s1 σ H1 D I1 q1
 | false=>exact hb pq s1 σ H1 D I1 q1
end
abbrev TG:=V->St->Hp->(St->Hp->Prop)->Prop
abbrev TGs:=List V->St->Hp->(St->Hp->Prop)->Prop
noncomputable def PG(X:Cx)(target:Expr)(t:TG):Prop:=
 ∀(pq:List (Zk×Obj)) (s:Zj) (σ:St) (H:Hp) (v:V) (u:Zh) (Q:St->Hp->Prop),Inv X pq σ H s->RelV v u->t v σ H Q->
  Zl (Zm X.prog X.w) X.A (assign target X.env u) (λ_ s'=>∃ σ' H',Inv X pq σ' H' s'/\Q σ' H') X.xe s
noncomputable def PGs(X:Cx)(ts:List Expr)(t:TGs):Prop:=
 ∀(pq:List (Zk×Obj)) (s:Zj) (σ:St) (H:Hp) (vs:List V) (us:List Zh) (Q:St->Hp->Prop),Inv X pq σ H s->Vals vs us->t vs σ H Q->
  Zl (Zm X.prog X.w) X.A (A0I ((A0c ts X.env).map (·.2)) us) (λ_ s'=>∃ σ' H',Inv X pq σ' H' s'/\Q σ' H') X.xe s
abbrev Rz:=V->V->V->Hp->(Hp->Prop)->Prop
noncomputable def UA(X:Cx)(t:Rz):Prop:=
 ∀(pq:List (Zk×Obj)) (s:Zj) (σ:St) (H:Hp) (o i v:V) (ov iv u:Zh) (Q:Hp->Prop),Inv X pq σ H s->RelV o ov->RelV i iv->RelV v u->t o i v H Q->
  Zl (Zm X.prog X.w) X.A (setItem ov iv u) (λ_ s'=>∃ H',Inv X pq σ H' s'/\Q H') X.xe s
section
variable{X:Cx}{pos:Pos}
def Eb(i:Nat):TG:=λv σ H Q=>Q (σ.set i (some v)) H
theorem Oq{i:Nat}{x:Str}(hN:X.N.Nodup)(hi:X.N[i]?=some x)(hx:Loc X.env.scope x)(hf:X.fn x=true\/X.env.scope.names.lookup x=some .local:=by first | exact .inl rfl | exact .inr rfl | assumption):PG X (.Name x pos) (Eb i):=by
 intro pq s σ H v u Q I r h;exact A0A (B0 I hN hi hx r (λs' I'=>⟨_,H,I',h⟩) hf)
def Vc:TGs:=λvs σ H Q=>vs=[]/\Q σ H
noncomputable def UB(t:TG)(u:TGs):TGs:=λvs σ H Q=>∃ v r,vs=v::r/\t v σ H λσ' H'=>u r σ' H' Q
theorem Os:PGs X [] Vc:=by
 intro pq s σ H vs us Q I r h;obtain⟨e,h⟩:=h;subst e;cases r;exact A0S ⟨σ,H,I,h⟩
theorem ME{e:Expr}{es:List Expr}{t:TG}{u:TGs}(h1:PG X e t)(h2:PGs X es u)
 (hs:(A0c (e::es) X.env).map (·.2)=assign e X.env::(A0c es X.env).map (·.2):=by rfl):PGs X (e::es) (UB t u):=by
 intro pq s σ H vs us Q I r h;obtain⟨v,vr,e1,h⟩:=h;subst e1;cases r with
 | cons r rr=>
   rw[hs];refine A0e (thn (h1 pq s σ H _ _ _ I r h) λ_ s1 ⟨σ1,H1,I1,q1⟩=>?_);exact h2 pq s1 σ1 H1 _ _ Q I1 rr q1
noncomputable def Vd(K:W5)(n:Nat)(t:TGs):TG:=λv σ H Q=>∃ a xs,v = .ref a/\SqT K H a xs/\xs.length=n/\t xs σ H Q
theorem SA{es:List Expr}{k:Nat}{t:TGs}{n:Nat}(hc:X.calm=true)(h:PGs X es t)
 (hn:(A0c es X.env).length=n:=by rfl) (hst:(A0c es X.env).findIdx? (·.1)=none:=by rfl):PG X (.Tuple es k pos) (Vd X.K n t):=by
 intro pq s σ H v u Q I r hw;obtain⟨a,xs,e1,hq,hl,hw⟩:=hw;subst e1;cases r;obtain⟨its,rv,ht,hz⟩:=I.tuple hq;refine assign_Tuple_tuple (I.ok.hd hc) ht (by simp[hn,<-hl,rv.length]) hst λh' hx=>?_;have I1:Inv X pq σ H {s with heap:=h'}:=I.kept (t':=s.toks) λb o e=>hx b o (WZ (WR e)) e;exact h pq _ σ H xs _ Q I1 (by simpa using rv) hw
noncomputable def UC(to ti:TE)(t:Rz):TG:=λv σ H Q=>to σ H λo H1=>ti σ H1 λi H2=>t o i v H2 λH3=>Q σ H3
theorem SB{o i:Expr}{to ti:TE}{t:Rz}(ho:PE X o to)(hi:PE X i ti)(hs:UA X t)
 (ha:∀ v,assign (.Subscript o i pos) X.env v=(do
   let ov <- holding [v] (eval o X.env)
   let iv <- holding [v,ov] (eval i X.env)
   standAt pos
   holding [v,ov,iv] (setItem ov iv v)
   release [v,ov,iv] []):=by intro _;rfl):PG X (.Subscript o i pos) (UC to ti t):=by
 intro pq s σ H v u Q I r h;rw[ha];refine Zg (Zz (thn (ho pq s σ H _ I h) λov s1 ⟨x,H1,I1,r1,q1⟩=>?_));refine Zg (Zz (thn (hi pq s1 σ H1 _ I1 q1) λiv s2 ⟨y,H2,I2,r2,q2⟩=>?_));refine Zg (A00 (Zg (Zz (thn (hs pq s2 σ H2 x y v ov iv u _ I2 r1 r2 r q2) λ_ s3 ⟨H3,I3,q3⟩=>?_))));exact wpAny_release ⟨σ,H3,I3,q3⟩
def Fw(te:TE)(g:TG):TS:=λD σ H=>te σ H λx H1=>g x σ H1 D.nx
theorem MF{tg e:Expr}{te:TE}{g:TG}(he:PE X e te)(hg:PG X tg g)(hs:A0p [tg] e pos.line X.env=pure false:=by rfl)(hw:A06 [tg] e X.env=pure none:=by rfl)
 (h1:(A0c [tg] X.env).map (·.2)=[assign tg X.env]:=by rfl):PS X (.Assign [tg] e pos) (Fw te g):=by
 intro pq s σ H D I h;refine wpAny_Assign_stores (thn (he pq s σ H _ I h) λv s1 ⟨x,H1,I1,r1,q1⟩=>?_) hs hw;rw[h1];exact thn (hg pq s1 σ H1 x v _ I1 r1 q1) λ_ s2 q=>q
theorem SC{i:Nat}{x:Str}{e:Expr}{te:TE}{pos':Pos}(hN:X.N.Nodup)(hi:X.N[i]?=some x)(hx:Loc X.env.scope x)(he:PE X e te)(hs:A08 e (some (.Name x pos')) pos.line X.env=pure false:=by rfl)(hf:X.fn x=true\/X.env.scope.names.lookup x=some .local:=by first | exact .inl rfl | exact .inr rfl | assumption):
 PS X (.Assign [.Name x pos'] e pos) (Fw te (Eb i)):=by
 intro pq s σ H D I h;refine wpAny_Assign_Name (thn (he pq s σ H _ I h) λv s1 ⟨y,H1,I1,r1,q1⟩=>?_) hs;exact B0 I1 hN hi hx r1 (λs2 I2=>⟨_,H1,I2,q1⟩) hf
noncomputable def UD(i j:Nat)(ta:TA):TS:=λD σ H=>ta σ H λvs H1=>∃ v w,vs=[v,w]/\D.nx ((σ.set i (some v)).set j (some w)) H1
theorem SD{i j:Nat}{x y:Str}{a b:Expr}{ta:TA}{px py pt:Pos}{kt k2 pt2}(hc:X.calm=true)(hN:X.N.Nodup)(hi:X.N[i]?=some x)(hj:X.N[j]?=some y)(hij:i≠j)
 (hx:X.env.scope.names.lookup x=some .local) (hy:X.env.scope.names.lookup y=some .local) (ha:PA X [a,b] ta)
 (hw:A06 [.Tuple [.Name x px,.Name y py] kt pt] (.Tuple [a,b] k2 pt2) X.env=pure (some [x,y]))
 (hs:A0p [.Tuple [.Name x px,.Name y py] kt pt] (.Tuple [a,b] k2 pt2) pos.line X.env=pure false:=by rfl):
 PS X (.Assign [.Tuple [.Name x px,.Name y py] kt pt] (.Tuple [a,b] k2 pt2) pos) (UD i j ta):=by
 intro pq s σ H D I h;rw[A1F];refine Zg (A00 ?_);rw[hs];refine Zg (Zi ?_);rw[iG (by decide)];refine Zg (Tuple_ (thn (ha _ pq s σ H _ I h) λus s1 ⟨vs,H1,I1,r1,q1⟩=>?_));obtain⟨v,w,e1,q1⟩:=q1;subst e1
 obtain⟨u1,u2,rfl,rv,rw'⟩:∃ u1 u2,us=[u1,u2]/\RelV v u1/\RelV w u2:=by
  cases r1 with
  | cons p q=>
    cases q with
    | cons p' q'=>
      cases q';exact⟨_,_,rfl,p,p'⟩
 refine Zt ?_ (by show 2<=Zn;decide);have I2:Inv X pq σ H1 {s1 with heap:=s1.heap.push {cls := .type "tuple",data := .seq [u1,u2].toArray}}:=I1.kept (t':=s1.toks) λb o e=>WD _ e;rw[hw];refine Zg (Zi ?_);show Zl (Zm X.prog X.w) X.A (do rule "assign.swapped-stores";let items <- unpackItems (.ref s1.heap.objs.size) 2 none;A0I [λv=>A0B X.env y v,λv=>A0B X.env x v] items.reverse;pure Flow.next) _ _ _;refine Zg (A0k (Zg (A1s (items:=#[u1,u2]) (I.ok.hd hc) (IsTup.new s1.heap _) λh' hx'=>?_)));have I3:=I2.kept (h':=h') (t':=s1.toks) λb o e=>hx' b o (WZ (WR e)) e;show Zl _ _ (A0I [λv=>A0B X.env y v,λv=>A0B X.env x v] [u2,u1] >>= λ_=>pure Flow.next) _ _ _;refine Zg (A0e (A0C (B0 I3 hN hj (.inl hy) rw' (λs2 I4=>?_) (.inr hy))));refine A0e (A0C (B0 I4 hN hi (.inl hx) rv (λs3 I5=>A0S (Zi ?_)) (.inr hx)));rw[YY _ _ (Ne.symm hij)]at I5;exact⟨_,H1,I5,q1⟩
noncomputable def MG(c:TT)(tb:TS):TS:=λD σ H=>∃ W:Nat->St->Hp->Prop,(∃ m,W m σ H)/\∀ m σ H,W m σ H->
 c σ H λb H1=>if b=true then ∃ N:St->Hp->Prop,(∀ σ' H',N σ' H'->∃ m',m'<m/\W m' σ' H')/\tb {D with nx:=N,ct:=N,bk:=D.nx} σ H1 else D.nx σ H1
theorem MH{c:Expr}{body:List Stmt}{tc:TT}{tb:TS}(hp:A1y (Zm X.prog X.w) X.A X.env X.xe)(hc:PT X c tc)(hb:PSs X body tb):PS X (.While c body [] pos) (MG tc tb):=by
 intro pq s σ H D I h;obtain⟨W,⟨m0,w0⟩,turn⟩:=h;refine wpAny_While (codeAny_whileLoop (λn s'=>∃ σ' H',Inv X pq σ' H' s'/\W n σ' H') ?_ m0 ⟨σ,H,I,w0⟩);rintro n s1 ⟨σ1,H1,I1,w1⟩;refine A0g hp (thn (hc pq s1 σ1 H1 _ I1 (turn n σ1 H1 w1)) λb s2 ⟨H2,I2,q2⟩=>?_);cases b with
 | true=>
   obtain⟨N,hN,q2⟩:=q2;rw[iP rfl];refine A0g hp (thn (hb pq s2 σ1 H2 _ I2 q2) λf s3 q3=>?_);cases f with
   | next=>
     obtain⟨σ3,H3,I3,n3⟩:=q3;obtain⟨m',hm,w3⟩:=hN σ3 H3 n3;exact⟨m',hm,σ3,H3,I3,w3⟩
   | cont=>
     obtain⟨σ3,H3,I3,n3⟩:=q3;obtain⟨m',hm,w3⟩:=hN σ3 H3 n3;exact⟨m',hm,σ3,H3,I3,w3⟩
   | brk=>exact q3
   | ret v=>exact q3
 | false=>
   rw[iG WK];exact A15 ⟨σ1,H2,I2,q2⟩
end
structure It where
 go:Nat->Hp->Prop
 yld:Nat->Hp->V->Hp->Prop
 stop:Nat->Hp->Prop
noncomputable def FpOk(X:Cx)(pq:List (Zk×Obj))(H:Hp)(b:Zk):Prop:=
 H b=none/\b≠X.env.locals/\b∉X.fs/\(b∈X.ex\/X.s₀.heap.objs.size<=b)/\(∀ x c,X.env.cells.lookup x=some c->c≠b)/\∀ p∈X.pn++pq,p.1≠b
theorem Inv.fpOk{X:Cx}{pq:List (Zk×Obj)}{σ:St}{H H':Hp}{s:Zj}{b:Zk}(I:Inv X pq σ H s)(hb:s.heap.objs.size<=b)(hn:H' b=none):FpOk X pq H' b:=by
 refine⟨hn,Z1 (Wu I.lt hb),I.nofs hb,.inr (Ws I.sz hb),λx c e z=>?_,λp hp z=>?_⟩
 ·obtain⟨v,q⟩:=I.cell x c e;exact absurd (Wu q.lt (by rw[z];exact hb)) (Xp _)
 ·exact absurd (Wu (WR (I.pin p hp).1) (by rw[z];exact hb)) (Xp _)
structure Turn(P:Zo)(w:Zq)(K:W5)(tg:Expr)(J:It)(fp:List Zk)(it:Zk)(tn:Nat->Heap->Prop):Prop where
 mem:it∈fp
 obj:∀ i h,tn i h->∀ b∈fp,∃ o,h.get? b=some o/\∀ v,o.data ≠ .cell v
 keep:∀ i h h',tn i h->(∀ b∈fp,∀ o,h.get? b=some o->h'.get? b=some o)->tn i h'
 item:∀(X:Cx),X.prog=P->X.w=w->X.K=K->X.calm=true->∀(i:Nat) (pq:List (Zk×Obj)) (s:Zj) (σ:St) (H:Hp) (E:Zh->Zj->Prop),Inv X pq σ H s->(∀ b∈fp,FpOk X pq H b)->tn i s.heap->J.go i H->
  Zl (Zm P w) X.A (pyNext (.ref it)) (λr s1=>∃ u,r=some u/\
   Zl (Zm P w) X.A (A0u tg (.ref it) u) (λ_ s2=>∃ x H',Inv X pq σ H' s2/\RelV x u/\J.yld i H x H'/\tn (i+1) s2.heap/\∀ b∈fp,H' b=none) E s1) E s
 done:∀(X:Cx),X.prog=P->X.w=w->X.K=K->X.calm=true->∀(i:Nat) (pq:List (Zk×Obj)) (s:Zj) (σ:St) (H:Hp) (E:Zh->Zj->Prop),Inv X pq σ H s->(∀ b∈fp,FpOk X pq H b)->tn i s.heap->J.stop i H->
   Zl (Zm P w) X.A (pyNext (.ref it)) (λr s1=>r=none/\Inv X pq σ H s1) E s
 self:∀(A:Zx) (i:Nat) (s:Zj) (Q:Zh->Zj->Prop) (E:Zh->Zj->Prop),tn i s.heap->Q (.ref it) s->Zl (Zm P w) A (pyIter (.ref it)) Q E s
abbrev TI:=St->Hp->(It->Hp->Prop)->Prop
noncomputable def PIE(X:Cx)(pq:List (Zk×Obj))(σ:St)(tg:Expr)(R:It->Hp->Prop)(itv:Zh)(s2:Zj):Prop:=
 ∃(it:Zk) (fp:List Zk) (tn:Nat->Heap->Prop) (J:It) (H':Hp),itv = .ref it/\Inv X pq σ H' s2/\Turn X.prog X.w X.K tg J fp it tn/\tn 0 s2.heap/\(∀ b∈fp,FpOk X pq H' b)/\R J H'
noncomputable def PI(X:Cx)(tg iter:Expr)(wi:TI):Prop:=
 ∀(pq:List (Zk×Obj)) (s:Zj) (σ:St) (H:Hp) (R:It->Hp->Prop),Inv X pq σ H s->wi σ H R->
  Zl (Zm X.prog X.w) X.A (eval iter X.env) (λv s1=>Zl (Zm X.prog X.w) X.A (pyIter v) (PIE X pq σ tg R) X.xe s1) X.xe s
theorem JJ{M:Model}{A:Zx}{E:Zh->Zj->Prop}{s:Zj}{tg:Expr}{it:Zk}{u:Zh}{o:Obj}{n:String}{vs:Array Zh}{Q:Unit->Zj->Prop}(ho:s.heap.get? it=some o)(hc:o.cls = .type n)(hd:o.data = .fields vs)
 (hn:["enumerate","zip","dict_itemiterator","dict_reverseitemiterator","odict_iterator","itertools.zip_longest","itertools.pairwise"].contains n=false) (hQ:Q () s):Zl M A (A0u tg (.ref it) u) Q E s:=by
 unfold A0u
 cases tg<;>first
  | exact Zi hQ
  | (cases u<;>first
      | exact Zi hQ
      | (refine Zg (wpAny_load ho ?_)
         rw[hc,hd];show Zl M A (if (["enumerate","zip","dict_itemiterator","dict_reverseitemiterator","odict_iterator","itertools.zip_longest","itertools.pairwise"].contains n&&vs[0]? == some (rawInt _))=true then _ else _) Q E s;rw[iG (by intro h;rw[hn,Bool.false_and]at h;cases h)];exact Zi hQ))
noncomputable def Itl(K:W5)(a:Zk):It:=
 ⟨λi H=>∃ xs x,SqL K H a xs/\xs[i]?=some x,λi H x H'=>H'=H/\∀ xs,SqL K H a xs->xs[i]?=some x,λi H=>∃ xs,SqL K H a xs/\xs.length<=i⟩
noncomputable def Itt(K:W5)(a:Zk):It:=
 ⟨λi H=>∃ xs x,SqT K H a xs/\xs[i]?=some x,λi H x H'=>H'=H/\∀ xs,SqT K H a xs->xs[i]?=some x,λi H=>∃ xs,SqT K H a xs/\xs.length<=i⟩
noncomputable def Itr(lo:Int)(n:Nat):It:=⟨λi _=>i<n,λi H x H'=>H'=H/\x = .int (lo+i),λi _=>n<=i⟩
theorem KW{P:Zo}{w:Zq}{K:W5}{tg:Expr}(a it:Zk):Turn P w K tg (Itl K a) [it] it (λi h=>h.IsListIter it a i) where
 mem:=by simp
 obj:=λi h st b hb=>by
  have e:b=it:=by simpa using hb
  subst e;obtain⟨o,e,c,d⟩:=st;exact⟨o,e,λv z=>by rw[d]at z;cases z⟩
 keep:=λi h h' st k=>st.at λo e=>k it (by simp) o e
 item:=by
  intro X hP hw hK hc i pq s σ H E I hf st hg;subst hP hw hK;obtain⟨xs,x,hq,hx⟩:=hg;obtain⟨its,rv,p,hz⟩:=I.list hq;obtain⟨u,hu,ru⟩:=rv.get hx;obtain⟨f0,f1,f2,f3,f4,f5⟩:=hf it (by simp);refine wpAny_pyNext_list_item st p.isList (x:=u) (by simpa using hu) λh' st' sb=>?_;have I1:Inv X pq σ H {s with heap:=h'}:=I.turned (t':=s.toks) (λb o hb e=>(sb.2 b hb).trans e) f0 f1 f3 f4 f5;obtain⟨o,e,c,d⟩:=id st';exact⟨u,rfl,JJ (s:={s with heap:=h'}) e c d (by decide) ⟨x,H,I1,ru,⟨rfl,λys hy=>by rw[I.list_inj hy hq];exact hx⟩,st',λb hb=>(hf b hb).1⟩⟩
 done:=by
   intro X hP hw hK hc i pq s σ H E I hf st hg;subst hP hw hK;obtain⟨xs,hq,hx⟩:=hg;obtain⟨its,rv,p,hz⟩:=I.list hq;obtain⟨f0,f1,f2,f3,f4,f5⟩:=hf it (by simp);have hl:=rv.length;exact wpAny_pyNext_list_end (I.ok.hd hc) st p.isList (by simp;omega) λh' eb=>⟨rfl,I.turned (t':=s.toks) (λb o hb e=>eb b o hb e) f0 f1 f3 f4 f5⟩
 self:=λ_ _ _ _ _ st h=>wpAny_pyIter_listiter st h
theorem Hw{P:Zo}{w:Zq}{K:W5}{tg:Expr}(a it:Zk):Turn P w K tg (Itt K a) [it] it (λi h=>h.IsTupleIter it a i) where
 mem:=by simp
 obj:=λi h st b hb=>by
  have e:b=it:=by simpa using hb
  subst e;obtain⟨o,e,c,d⟩:=st;exact⟨o,e,λv z=>by rw[d]at z;cases z⟩
 keep:=λi h h' st k=>st.at λo e=>k it (by simp) o e
 item:=by
  intro X hP hw hK hc i pq s σ H E I hf st hg;subst hP hw hK;obtain⟨xs,x,hq,hx⟩:=hg;obtain⟨its,rv,p,hz⟩:=I.tuple hq;obtain⟨u,hu,ru⟩:=rv.get hx;obtain⟨f0,f1,f2,f3,f4,f5⟩:=hf it (by simp);refine wpAny_pyNext_tuple_item st (show s.heap.IsTuple a its.toArray from p) (x:=u) (by simpa using hu) λh' st' sb=>?_;have I1:Inv X pq σ H {s with heap:=h'}:=I.turned (t':=s.toks) (λb o hb e=>(sb.2 b hb).trans e) f0 f1 f3 f4 f5;obtain⟨o,e,c,d⟩:=id st';exact⟨u,rfl,JJ (s:={s with heap:=h'}) e c d (by decide) ⟨x,H,I1,ru,⟨rfl,λys hy=>by rw[I.tuple_inj hy hq];exact hx⟩,st',λb hb=>(hf b hb).1⟩⟩
 done:=by
   intro X hP hw hK hc i pq s σ H E I hf st hg;subst hP hw hK;obtain⟨xs,hq,hx⟩:=hg;obtain⟨its,rv,p,hz⟩:=I.tuple hq;obtain⟨f0,f1,f2,f3,f4,f5⟩:=hf it (by simp);have hl:=rv.length;exact wpAny_pyNext_tuple_end (I.ok.hd hc) st (show s.heap.IsTuple a its.toArray from p) (by simp;omega) λh' eb=>⟨rfl,I.turned (t':=s.toks) (λb o hb e=>eb b o hb e) f0 f1 f3 f4 f5⟩
 self:=λ_ _ _ _ _ st h=>wpAny_pyIter_tupleiter st h
theorem Hx{P:Zo}{w:Zq}{K:W5}{tg:Expr}(it:Zk)(lo:Int)(n:Nat):Turn P w K tg (Itr lo n) [it] it (λi h=>IsRangeIter h it (lo+(i:Nat) * 1) ((n:Int) - (i:Nat)) 1) where
 mem:=by simp
 obj:=λi h st b hb=>by
  have e:b=it:=by simpa using hb
  subst e
  exact⟨_,st,λv z=>by
   have z':Data.fields _=Data.cell v:=z;cases z'⟩
 keep:=λi h h' st k=>k it (by simp) _ st
 item:=by
  intro X hP hw hK hc i pq s σ H E I hf st hg;subst hP hw hK;obtain⟨f0,f1,f2,f3,f4,f5⟩:=hf it (by simp);have W:=Walks.range (prog:=X.prog) (w:=X.w) (I.ok.hd hc) it lo 1 n;refine W.item i s _ _ hg st λv h' tk hv st' kk=>?_;obtain⟨t,rfl⟩:=hv;have I1:Inv X pq σ H {s with heap:=h',toks:=tk}:=I.turned (λb o hb e=>kk b o (by simpa using hb) e) f0 f1 f3 f4 f5;refine⟨_,rfl,JJ (s:={s with heap:=h',toks:=tk}) (n:="range_iterator") st' rfl rfl (by decide) ⟨.int (lo+i),H,I1,⟨t,?_⟩,⟨rfl,rfl⟩,st',λb hb=>(hf b hb).1⟩⟩;rw[Int.mul_one]
 done:=by
   intro X hP hw hK hc i pq s σ H E I hf st hg;subst hP hw hK;obtain⟨f0,f1,f2,f3,f4,f5⟩:=hf it (by simp);exact wpAny_pyNext_range_end (I.ok.hd hc) st (by have:n<=i:=hg;omega) λh' eb=>⟨rfl,I.turned (t':=s.toks) (λb o hb e=>eb b o hb e) f0 f1 f3 f4 f5⟩
 self:=λ_ _ _ _ _ st h=>wpAny_pyIter_rangeiter st h
section
variable{X:Cx}{tg:Expr}
theorem Fx{pq:List (Zk×Obj)}{σ:St}{H:Hp}{s:Zj}{R:It->Hp->Prop}{E:Zh->Zj->Prop}{lo hi:Int}{t u v:Tok}{tk:Nat}(I:Inv X pq σ H s)(h1:-(2 ^ 62)<=lo)(h2:lo<2 ^ 62)(h3:-(2 ^ 62)<=hi)(h4:hi<2 ^ 62)
 (q:R (Itr lo (hi - lo).toNat) H):Zl (Zm X.prog X.w) X.A (pyIter (.ref s.heap.objs.size)) (PIE X pq σ tg R) E {s with heap:=s.heap.push {cls := .type "range",data := .fields #[.int lo t,.int hi u,.int 1 v]},toks:=tk}:=by
 refine wpAny_pyIter_range (IsRange.new ..) (small_one h1 h2 h3 h4) ?_;have I1:Inv X pq σ H {s with heap:=s.heap.push {cls := .type "range",data := .fields #[.int lo t,.int hi u,.int 1 v]},toks:=tk}:=I.kept λb o e=>WD _ e
 refine⟨(s.heap.push {cls := .type "range",data := .fields #[.int lo t,.int hi u,.int 1 v]}).objs.size,[(s.heap.push {cls := .type "range",data := .fields #[.int lo t,.int hi u,.int 1 v]}).objs.size],_,_,H,rfl,
  I1.kept (t':=tk) λb o e=>WD _ e,Hx _ lo (hi - lo).toNat,?_,λb hb=>?_,q⟩
 ·have e1:lo+((0:Nat):Int) * 1=lo:=by simp
  have e2:(((hi - lo).toNat:Nat):Int) - ((0:Nat):Int)=Builtin.Range.rangeSize lo hi 1:=by rw[rangeSize_one];split<;>omega
  show IsRangeIter _ _ (lo+((0:Nat):Int) * 1) ((((hi - lo).toNat:Nat):Int) - ((0:Nat):Int)) 1;rw[e1,e2];exact WU _ rfl
 ·have e:b=(s.heap.push {cls := .type "range",data := .fields #[.int lo t,.int hi u,.int 1 v]}).objs.size:=by simpa using hb
  subst e;exact I1.fpOk (WJ _) (I1.hok.fresh (WJ _))
noncomputable def UE(ta:TA):TI:=λσ H R=>ta σ H λvs H1=>∃ j:Int,vs=[.int j] /\ -(2 ^ 62)<=j/\j<2 ^ 62/\R (Itr 0 j.toNat) H1
noncomputable def UF(ta:TA):TI:=λσ H R=>ta σ H λvs H1=>∃ i j:Int,vs=[.int i,.int j]/\(-(2 ^ 62)<=i/\i<2 ^ 62 /\ -(2 ^ 62)<=j/\j<2 ^ 62)/\R (Itr i (j - i).toNat) H1
theorem KY{a:Expr}{ta:TA}{p pos:Pos}(hg:Gl X "range")(hm:X.mg "range"=none)(ha:PA X [a] ta)(hs:Zp [a] X.env=[(false,eval a X.env)]:=by rfl):PI X tg (.Call (.Name "range" p) [a] [] pos) (UE ta):=by
 intro pq s σ H R I h;refine Call_ (B5 I hg hm boot_range (PyProof.Rows.callWith_type1 (thn (ha pos pq s σ H _ I h) λus s1 ⟨vs,H1,I1,r1,q1⟩=>?_) hs rfl));obtain⟨j,e,q1,q2,q⟩:=q1;subst e;cases r1 with
 | cons r rr=>
   cases rr;obtain⟨t,rfl⟩:=r;exact call_range_1 (Fx I1 (by omega) (by omega) q1 q2 (by simpa using q))
theorem KZ{a b:Expr}{ta:TA}{p pos:Pos}(hg:Gl X "range")(hm:X.mg "range"=none)(ha:PA X [a,b] ta)(hs:Zp [a,b] X.env=[(false,eval a X.env),(false,eval b X.env)]:=by rfl)(hs2:Zp [b] X.env=[(false,eval b X.env)]:=by rfl):
 PI X tg (.Call (.Name "range" p) [a,b] [] pos) (UF ta):=by
 intro pq s σ H R I h;refine Call_ (B5 I hg hm boot_range (PyProof.Rows.callWith_type1 (thn (ha pos pq s σ H _ I h) λus s1 ⟨vs,H1,I1,r1,q1⟩=>?_) (by rw[hs,hs2]) (by rw[hs2];rfl)));obtain⟨i,j,e,⟨q1,q2,q3,q4⟩,q⟩:=q1;subst e;cases r1 with
 | cons r rr=>
   cases rr with
   | cons r' rr=>
     cases rr;obtain⟨t,rfl⟩:=r;obtain⟨t',rfl⟩:=r';exact call_range_2 (Fx I1 q1 q2 q3 q4 q)
noncomputable def UG(wi:TI)(g:TG)(tb:TS):TS:=λD σ H=>wi σ H λJ H1=>∃ W:Nat->Nat->St->Hp->Prop,(∃ m,W 0 m σ H1)/\∀ i m σ H,W i m σ H->
 (J.stop i H/\D.nx σ H)\/(J.go i H/\∃ N:St->Hp->Prop,(∀ σ' H',N σ' H'->∃ m',m'<m/\W (i+1) m' σ' H')/\∀ x H',J.yld i H x H'->g x σ H' λσ2 H2=>tb {D with nx:=N,ct:=N,bk:=D.nx} σ2 H2)
noncomputable def Bq(fp:List Zk)(h:Heap):List (Zk×Obj):=fp.filterMap λb=>(h.get? b).map λo=>(b,o)
theorem AW{fp:List Zk}{h:Heap}{b:Zk}{o:Obj}(hb:b∈fp)(e:h.get? b=some o):(b,o)∈Bq fp h:=YT.mpr ⟨b,hb,by rw[e];rfl⟩
theorem Ka{fp:List Zk}{h:Heap}{p:Zk×Obj}(hp:p∈Bq fp h):p.1∈fp/\h.get? p.1=some p.2:=by
 obtain⟨b,hb,e⟩:=YT.mp hp;cases q:h.get? b with
 | none=>rw[q]at e;cases e
 | some o=>
   rw[q]at e;have e':(b,o)=p:=oj e;subst e';exact⟨hb,q⟩
theorem Inv.pinned{pq:List (Zk×Obj)}{σ:St}{H:Hp}{s:Zj}{fp:List Zk}(I:Inv X pq σ H s)(hf:∀ b∈fp,FpOk X pq H b)(ho:∀ b∈fp,∃ o,s.heap.get? b=some o/\∀ v,o.data ≠ .cell v):Inv X (pq++Bq fp s.heap) σ H s:=
 I.pins_of λp hp=>(WH.mp hp).elim (λz=>I.pin p (WY _ z)) λz=>by
  obtain⟨hb,e⟩:=Ka z;obtain⟨f0,f1,f2,_⟩:=hf p.1 hb;obtain⟨o,e',d⟩:=ho p.1 hb;rw[e]at e';cases e';exact⟨e,f0,f1,f2,d⟩
theorem Inv.unpinned{pq pl:List (Zk×Obj)}{σ:St}{H:Hp}{s:Zj}(I:Inv X (pq++pl) σ H s):Inv X pq σ H s:=I.pins_of λp hp=>I.pin p (WY _ (Wa _ hp))
theorem SE{iter:Expr}{body:List Stmt}{wi:TI}{g:TG}{tb:TS}{pos:Pos}(hp:A1y (Zm X.prog X.w) X.A X.env X.xe)(hc:X.calm=true)(hi:PI X tg iter wi)(hg:PG X tg g)(hb:PSs X body tb)
 (hs:∀ x,Zv iter X.env x=pure x:=by intro _;rfl):PS X (.For tg iter body [] pos) (UG wi g tb):=by
 intro pq s σ H D I h;refine wpAny_For (thn (hi pq s σ H _ I h) λv s1 h1=>thn h1 λitv s2 h2=>?_) hs;obtain⟨it,fp,tn,J,H2,e,I2,T,st2,f2,W,⟨m0,w0⟩,turn⟩:=h2;subst e;have stat:∀{H':Hp},(∀ b∈fp,H' b=none)->∀ b∈fp,FpOk X pq H' b:=λhn b hb=>⟨hn b hb,(f2 b hb).2⟩
 refine codeAny_forLoop_any (λn s'=>∃ i σ' H',Inv X pq σ' H' s'/\tn i s'.heap/\(∀ b∈fp,H' b=none)/\W i n σ' H') ?_ m0 ⟨0,σ,H2,I2,st2,λb hb=>(f2 b hb).1,w0⟩;rintro n s3 ⟨i,σ3,H3,I3,st3,fr3,w3⟩;rcases turn i n σ3 H3 w3 with⟨stop,qn⟩ | ⟨go,N,hN,step⟩
 ·refine A0g hp (thn (T.done X rfl rfl rfl hc i pq s3 σ3 H3 X.xe I3 (stat fr3) st3 stop) λr s4 ⟨hr,I4⟩=>?_);subst hr;exact A15 ⟨σ3,H3,I4,qn⟩
 ·refine A0g hp (thn (T.item X rfl rfl rfl hc i pq s3 σ3 H3 X.xe I3 (stat fr3) st3 go) λr s4 ⟨u,hr,h4⟩=>?_);subst hr;refine A0g hp (thn h4 λ_ s5 ⟨x,H5,I5,r5,y5,st5,fr5⟩=>?_);have I5':=I5.pinned (stat fr5) (T.obj _ _ st5);refine A0g hp (thn (hg _ s5 σ3 H5 x u _ I5' r5 (step x H5 y5)) λ_ s6 ⟨σ6,H6,I6,q6⟩=>?_);refine A0g hp (thn (hb _ s6 σ6 H6 _ I6 q6) λf s7 q7=>?_)
  have again:∀{σ7:St} {H7:Hp},Inv X (pq++Bq fp s5.heap) σ7 H7 s7->N σ7 H7->∃ m,m<n/\∃ i σ' H',Inv X pq σ' H' s7/\tn i s7.heap/\(∀ b∈fp,H' b=none)/\W i m σ' H':=λ{σ7 H7} I7 n7=>by
   obtain⟨m',hm,w7⟩:=hN σ7 H7 n7;refine⟨m',hm,i+1,σ7,H7,I7.unpinned,T.keep _ _ _ st5 λb hb o e=>(I7.pin (b,o) (WY _ (WY _ (AW hb e)))).1,λb hb=>?_,w7⟩;obtain⟨o,e,d⟩:=T.obj _ _ st5 b hb;exact(I7.pin (b,o) (WY _ (WY _ (AW hb e)))).2.1
  cases f with
  | next=>obtain⟨σ7,H7,I7,n7⟩:=q7;exact again I7 n7
  | cont=>obtain⟨σ7,H7,I7,n7⟩:=q7;exact again I7 n7
  | brk=>obtain⟨σ7,H7,I7,q7⟩:=q7;exact⟨σ7,H7,I7.unpinned,q7⟩
  | ret v=>obtain⟨x7,σ7,H7,I7,r7,q7⟩:=q7;exact⟨x7,σ7,H7,I7.unpinned,r7,q7⟩
end
abbrev R2:=V->V->Hp->VK->Prop
noncomputable def OpR(X:Cx)(f:Zh->Zh->Sem Zh)(r:R2):Prop:=
 ∀(pq:List (Zk×Obj)) (s:Zj) (σ:St) (H:Hp) (x y:V) (v u:Zh) (Q:VK),Inv X pq σ H s->RelV x v->RelV y u->r x y H Q->
  Zl (Zm X.prog X.w) X.A (f v u) (EP X pq σ Q) X.xe s
noncomputable def UnR(X:Cx)(f:Zh->Sem Zh)(r:V->Hp->VK->Prop):Prop:=
 ∀(pq:List (Zk×Obj)) (s:Zj) (σ:St) (H:Hp) (x:V) (v:Zh) (Q:VK),Inv X pq σ H s->RelV x v->r x H Q->
  Zl (Zm X.prog X.w) X.A (f v) (EP X pq σ Q) X.xe s
noncomputable def CallR(X:Cx)(f:Zh)(r:List V->Hp->VK->Prop):Prop:=
 ∀(pq:List (Zk×Obj)) (s:Zj) (σ:St) (H:Hp) (xs:List V) (us:List Zh) (Q:VK),Inv X pq σ H s->Vals xs us->r xs H Q->
  Zl (Zm X.prog X.w) X.A (call f us) (EP X pq σ Q) X.xe s
noncomputable def Ve(X:Cx)(r:V->Hp->(Bool->Hp->Prop)->Prop):Prop:=
 ∀(pq:List (Zk×Obj)) (s:Zj) (σ:St) (H:Hp) (x:V) (v:Zh) (Q:Bool->Hp->Prop),Inv X pq σ H s->RelV x v->r x H Q->
  Zl (Zm X.prog X.w) X.A (truthy v) (TP X pq σ Q) X.xe s
noncomputable def tOp(r:R2)(ta tb:TE):TE:=λσ H Q=>ta σ H λx H1=>tb σ H1 λy H2=>r x y H2 Q
def tUn(r:V->Hp->VK->Prop)(ta:TE):TE:=λσ H Q=>ta σ H λx H1=>r x H1 Q
noncomputable def rI(C:Int->Int->Prop)(g:Int->Int->V):R2:=λx y H Q=>∃ i j,x = .int i/\y = .int j/\C i j/\Q (g i j) H
def rI0(g:Int->Int->V):R2:=λx y H Q=>∃ i j,x = .int i/\y = .int j/\Q (g i j) H
def rU(g:Int->V):V->Hp->VK->Prop:=λx H Q=>∃ i,x = .int i/\Q (g i) H
section
variable{X:Cx}{a b c:Expr}{ta tb tc:TE}{pos:Pos}
theorem SF(ha:PE X a ta)(hb:PE X b tb){pq:List (Zk×Obj)}{s:Zj}{σ:St}{H:Hp}{R:V->V->Hp->Prop}(I:Inv X pq σ H s)
 (h:ta σ H λx H1=>tb σ H1 λy H2=>R x y H2) {Q:Zh->Zj->Prop} {f:Zh->Zh->Sem Zh}
 (hf:∀ v u s2 x y H2,Inv X pq σ H2 s2->RelV x v->RelV y u->R x y H2->Zl (Zm X.prog X.w) X.A (f v u) Q X.xe s2):
 Zl (Zm X.prog X.w) X.A (eval a X.env) (λv s₁=>Zl (Zm X.prog X.w) X.A (eval b X.env) (λu s₂=>Zl (Zm X.prog X.w) X.A (f v u) Q X.xe s₂) X.xe s₁) X.xe s:=by
 refine thn (ha pq s σ H _ I h) λv s1 ⟨x,H1,I1,r1,q1⟩=>?_;refine thn (hb pq s1 σ H1 _ I1 q1) λu s2 ⟨y,H2,I2,r2,q2⟩=>?_;exact hf v u s2 x y H2 I2 r1 r2 q2
theorem UH{op:A0Y}{r:R2}(ho:OpR X (A0r op) r)(ha:PE X a ta)(hb:PE X b tb):PE X (.BinOp a op b pos) (tOp r ta tb):=by
 intro pq s σ H Q I h;exact wpAny_BinOp (SF ha hb I h λv u s2 x y H2 I2 rx ry q=>ho pq s2 σ H2 x y v u Q I2 rx ry q)
theorem R6{op:UnaryOp}{r:V->Hp->VK->Prop}(ho:UnR X (unaryOp op) r)(ha:PE X a ta):PE X (.UnaryOp op a pos) (tUn r ta):=by
 intro pq s σ H Q I h;exact UnaryOp_ (thn (ha pq s σ H _ I h) λv s1 ⟨x,H1,I1,r1,q1⟩=>ho pq s1 σ H1 x v Q I1 r1 q1)
theorem opI{f:Zh->Zh->Sem Zh}{C:Int->Int->Prop}{g:Int->Int->Int}
 (rule:∀(i j:Int) (t u:Tok) (s:Zj) (Q:Zh->Zj->Prop) (E:Zh->Zj->Prop),C i j->Q (.int (g i j) s.toks) {s with toks:=s.toks+1}->Zl (Zm X.prog X.w) X.A (f (.int i t) (.int j u)) Q E s):
 OpR X f (rI C λi j => .int (g i j)):=by
 intro pq s σ H x y v u Q I rx ry h;obtain⟨i,j,rfl,rfl,hc,q⟩:=h;obtain⟨t,rfl⟩:=rx;obtain⟨t',rfl⟩:=ry;exact rule i j t t' s _ _ hc ⟨.int (g i j),H,I.tok _,⟨_,rfl⟩,q⟩
theorem UI{f:Zh->Zh->Sem Zh}{g:Int->Int->Int}
 (rule:∀(i j:Int) (t u:Tok) (s:Zj) (Q:Zh->Zj->Prop) (E:Zh->Zj->Prop),Q (.int (g i j) s.toks) {s with toks:=s.toks+1}->Zl (Zm X.prog X.w) X.A (f (.int i t) (.int j u)) Q E s):
 OpR X f (rI0 λi j => .int (g i j)):=by
 intro pq s σ H x y v u Q I rx ry h;obtain⟨i,j,rfl,rfl,q⟩:=h;obtain⟨t,rfl⟩:=rx;obtain⟨t',rfl⟩:=ry;exact rule i j t t' s _ _ ⟨.int (g i j),H,I.tok _,⟨_,rfl⟩,q⟩
theorem Ot{f:Zh->Zh->Sem Zh}{g:Int->Int->Bool}
 (rule:∀(i j:Int) (t u:Tok) (s:Zj) (Q:Zh->Zj->Prop) (E:Zh->Zj->Prop),Q (.bool (g i j)) s->Zl (Zm X.prog X.w) X.A (f (.int i t) (.int j u)) Q E s):
 OpR X f (rI0 λi j => .bl (g i j)):=by
 intro pq s σ H x y v u Q I rx ry h;obtain⟨i,j,rfl,rfl,q⟩:=h;obtain⟨t,rfl⟩:=rx;obtain⟨t',rfl⟩:=ry;exact rule i j t t' s _ _ ⟨.bl (g i j),H,I,rfl,q⟩
def UJ(i j:Int):Prop:=0<j/\j<1073741824
def UK(i j:Int):Prop:=0<=j/\j<=1000000/\i.natAbs<2 ^ 64
def CMul(i j:Int):Prop:=(-(2 ^ 64)<i/\i<2 ^ 64)\/(-(2 ^ 64)<j/\j<2 ^ 64)
theorem CMul.ok{i j:Int}(h:CMul i j):IntMulOk i j:=by
 rcases h with⟨h1,h2⟩ | ⟨h1,h2⟩
 ·exact .of_left (intBits_le_64 h1 h2)
 ·exact .of_right (intBits_le_64 h1 h2)
theorem op_add:OpR X (A0r .Add) (rI0 λi j => .int (i+j)):=UI λ_ _ _ _ _ _ _ q=>add_int q
theorem SG:OpR X (A0r .Sub) (rI0 λi j => .int (i - j)):=UI λ_ _ _ _ _ _ _ q=>sub_int q
theorem op_mul:OpR X (A0r .Mult) (rI CMul λi j => .int (i * j)):=opI λ_ _ _ _ _ _ _ hc q=>mul_int q hc.ok
theorem Ou:OpR X (A0r .FloorDiv) (rI UJ λi j => .int (i / j)):=opI λi j _ _ _ _ _ hc q=>by
 have h1:(0:Int)<j:=hc.1;have h2:j<1073741824:=hc.2;exact floordiv_int (by omega) (by rw[Int.fdiv_eq_ediv_of_nonneg i (by omega)];exact q) (.inl (PyProof.noPylong_small (by omega)))
theorem SH:OpR X (A0r .Mod) (rI (λ_ j=>0<j) λi j => .int (i % j)):=opI λi j _ _ _ _ _ hc q=>by
 have h1:(0:Int)<j:=hc;exact mod_int' (by omega) (by rw[Int.fmod_eq_emod_of_nonneg i (by omega)];exact q)
theorem SJ:OpR X (A0r .Pow) (rI UK λi j => .int (i ^ j.toNat)):=opI λ_ _ _ _ _ _ _ hc q=>pow_int_small hc.1 hc.2.1 hc.2.2 q
theorem unI{f:Zh->Sem Zh}{g:Int->Int}
 (rule:∀(i:Int) (t:Tok) (s:Zj) (Q:Zh->Zj->Prop) (E:Zh->Zj->Prop),Q (.int (g i) s.toks) {s with toks:=s.toks+1}->Zl (Zm X.prog X.w) X.A (f (.int i t)) Q E s):
 UnR X f (rU λi => .int (g i)):=by
 intro pq s σ H x v Q I rx h;obtain⟨i,rfl,q⟩:=h;obtain⟨t,rfl⟩:=rx;exact rule i t s _ _ ⟨.int (g i),H,I.tok _,⟨_,rfl⟩,q⟩
theorem MI:UnR X (unaryOp .USub) (rU λi => .int (-i)):=unI λ_ _ _ _ _ q=>neg_int q
end
noncomputable def SK:V->V->Bool
 | .non,.non=>true | .non,.int _=>true | .int _,.non=>true | .non,.bl _=>true | .bl _,.non=>true | .non,.str _=>true | .str _,.non=>true
 | .int _,.int _=>true | .bl _,.bl _=>true | .str _,.str _=>true | .byt _,.byt _=>true
 | .int _,.str _=>true | .str _,.int _=>true | .bl _,.str _=>true | .str _,.bl _=>true
 | _,_=>false
noncomputable def rEq:R2:=λx y H Q=>SK x y=true/\Q (.bl (decide (x=y))) H
noncomputable def rNe:R2:=λx y H Q=>SK x y=true/\Q (.bl (!decide (x=y))) H
theorem JK{i j:Int}:decide (V.int i=V.int j)=(i == j):=by
 rw[X4];simp
theorem MJ{i j:Bool}:decide (V.bl i=V.bl j)=(i == j):=by
 rw[X4];simp
theorem JL{i j:Str}:decide (V.str i=V.str j)=(i == j):=by
 rw[X4];simp
theorem JM{i j:Array UInt8}:decide (V.byt i=V.byt j)=(i.toList == j.toList):=by
 rw[X4];cases i;cases j;simp
section
variable{X:Cx}{a b c:Expr}{ta tb tc:TE}{pos:Pos}
theorem j8{pq:List (Zk×Obj)}{σ:St}{H:Hp}{s:Zj}{Q:VK}{k k':Bool}(I:Inv X pq σ H s)(q:Q (.bl k) H)(e:k=k'):EP X pq σ Q (.bool k') s:=by
 subst e;exact⟨.bl k,H,I,rfl,q⟩
theorem op_eq:OpR X (Zw .Eq) rEq:=by
 intro pq s σ H x y v u Q I rx ry h;obtain⟨hs,q⟩:=h;cases x with
 | non=>
   cases rx;cases y with
   | non=>cases ry;exact PySem.EqNone.eq_none_none (j8 I q (by simp))
   | bl j=>cases ry;exact PySem.EqNone.eq_none_bool (j8 I q (by simp))
   | int j=>obtain⟨t',rfl⟩:=ry;exact PySem.EqNone.eq_none_int (j8 I q (by simp))
   | str j=>obtain⟨t',rfl⟩:=ry;exact PySem.EqNone.eq_none_str (j8 I q (by simp))
   | _=>exact absurd (show false=true from hs) WK
 | bl i=>
   cases rx;cases y with
   | non=>cases ry;exact PySem.EqNone.eq_bool_none (j8 I q (by simp))
   | bl j=>cases ry;exact eq_bool (j8 I q MJ)
   | str j=>obtain⟨t',rfl⟩:=ry;exact PySem.EqMixed.eq_bool_str (j8 I q (by simp))
   | _=>exact absurd (show false=true from hs) WK
 | int i=>
   obtain⟨t,rfl⟩:=rx;cases y with
   | non=>cases ry;exact PySem.EqNone.eq_int_none (j8 I q (by simp))
   | int j=>obtain⟨t',rfl⟩:=ry;exact eq_int (j8 I q JK)
   | str j=>obtain⟨t',rfl⟩:=ry;exact PySem.EqMixed.eq_int_str (j8 I q (by simp))
   | _=>exact absurd (show false=true from hs) WK
 | str i=>
   obtain⟨t,rfl⟩:=rx;cases y with
   | non=>cases ry;exact PySem.EqNone.eq_str_none (j8 I q (by simp))
   | bl j=>cases ry;exact PySem.EqMixed.eq_str_bool (j8 I q (by simp))
   | int j=>obtain⟨t',rfl⟩:=ry;exact PySem.EqMixed.eq_str_int (j8 I q (by simp))
   | str j=>obtain⟨t',rfl⟩:=ry;exact eq_str (j8 I q JL)
   | _=>exact absurd (show false=true from hs) WK
 | byt i=>
   obtain⟨t,rfl⟩:=rx;cases y with
   | byt j=>obtain⟨t',rfl⟩:=ry;exact PySem.W.eq_bytes (j8 I q JM)
   | _=>exact absurd (show false=true from hs) WK
 | _=>cases y<;>exact absurd (show false=true from hs) WK
theorem op_ne:OpR X (Zw .NotEq) rNe:=by
 intro pq s σ H x y v u Q I rx ry h;obtain⟨hs,q⟩:=h;cases x with
 | non=>
   cases rx;cases y with
   | non=>cases ry;exact PySem.EqNone.ne_none_none (j8 I q (by simp))
   | bl j=>cases ry;exact PySem.EqNone.ne_none_bool (j8 I q (by simp))
   | int j=>obtain⟨t',rfl⟩:=ry;exact PySem.EqNone.ne_none_int (j8 I q (by simp))
   | str j=>obtain⟨t',rfl⟩:=ry;exact PySem.EqNone.ne_none_str (j8 I q (by simp))
   | _=>exact absurd (show false=true from hs) WK
 | bl i=>
   cases rx;cases y with
   | non=>cases ry;exact PySem.EqNone.ne_bool_none (j8 I q (by simp))
   | bl j=>cases ry;exact ne_bool (j8 I q (congrArg not MJ))
   | str j=>obtain⟨t',rfl⟩:=ry;exact PySem.EqMixed.ne_bool_str (j8 I q (by simp))
   | _=>exact absurd (show false=true from hs) WK
 | int i=>
   obtain⟨t,rfl⟩:=rx;cases y with
   | non=>cases ry;exact PySem.EqNone.ne_int_none (j8 I q (by simp))
   | int j=>obtain⟨t',rfl⟩:=ry;exact ne_int (j8 I q (congrArg not JK))
   | str j=>obtain⟨t',rfl⟩:=ry;exact PySem.EqMixed.ne_int_str (j8 I q (by simp))
   | _=>exact absurd (show false=true from hs) WK
 | str i=>
   obtain⟨t,rfl⟩:=rx;cases y with
   | non=>cases ry;exact PySem.EqNone.ne_str_none (j8 I q (by simp))
   | bl j=>cases ry;exact PySem.EqMixed.ne_str_bool (j8 I q (by simp))
   | int j=>obtain⟨t',rfl⟩:=ry;exact PySem.EqMixed.ne_str_int (j8 I q (by simp))
   | str j=>obtain⟨t',rfl⟩:=ry;exact ne_str (j8 I q (congrArg not JL))
   | _=>exact absurd (show false=true from hs) WK
 | byt i=>
   obtain⟨t,rfl⟩:=rx;cases y with
   | byt j=>obtain⟨t',rfl⟩:=ry;exact PySem.W.ne_bytes (j8 I q (congrArg not JM))
   | _=>exact absurd (show false=true from hs) WK
 | _=>cases y<;>exact absurd (show false=true from hs) WK
theorem UL:OpR X (Zw .Lt) (rI0 λi j => .bl (decide (i<j))):=Ot λ_ _ _ _ _ _ _ q=>lt_int q
theorem UM:OpR X (Zw .LtE) (rI0 λi j => .bl (decide (i<=j))):=Ot λ_ _ _ _ _ _ _ q=>le_int q
theorem UN:OpR X (Zw .Gt) (rI0 λi j => .bl (decide (j<i))):=Ot λ_ _ _ _ _ _ _ q=>gt_int q
theorem UO:OpR X (Zw .GtE) (rI0 λi j => .bl (decide (j<=i))):=Ot λ_ _ _ _ _ _ _ q=>ge_int q
theorem SL:OpR X (Zw .Is) (λx y H Q=>y = .non/\Q (.bl (decide (x = .non))) H):=by
 intro pq s σ H x y v u Q I rx ry h;obtain⟨rfl,q⟩:=h;cases ry;refine is_none_gen (j8 I q ?_)
 cases x<;>first
  | (cases rx;rfl)
  | (obtain⟨t,rfl⟩:=rx;rfl)
theorem op_notN:OpR X (Zw .IsNot) (λx y H Q=>y = .non/\Q (.bl (!decide (x = .non))) H):=by
 intro pq s σ H x y v u Q I rx ry h;obtain⟨rfl,q⟩:=h;cases ry;refine isnot_none_gen (j8 I q ?_)
 cases x<;>first
  | (cases rx;rfl)
  | (obtain⟨t,rfl⟩:=rx;rfl)
theorem OpR.or{f:Zh->Zh->Sem Zh}{r r':R2}(h:OpR X f r)(h':OpR X f r'):OpR X f (λx y H Q=>r x y H Q\/r' x y H Q):=by
 intro pq s σ H x y v u Q I rx ry q;rcases q with q | q
 ·exact h pq s σ H x y v u Q I rx ry q
 ·exact h' pq s σ H x y v u Q I rx ry q
theorem JN{op:CmpOp}{r:R2}(ho:OpR X (Zw op) r)(ha:PE X a ta)(hb:PE X b tb)(hm:A0H op b=false):PE X (.Compare a [op] [b] pos) (tOp r ta tb):=by
 intro pq s σ H Q I h;exact A1K (SF ha hb I h λv u s2 x y H2 I2 rx ry q=>ho pq s2 σ H2 x y v u Q I2 rx ry q) hm
def R7(t:TE):TT:=λσ H Q=>t σ H λx H'=>∃ k,x = .bl k/\Q k H'
theorem JO{op:CmpOp}{r:R2}(ho:OpR X (Zw op) r)(ha:PE X a ta)(hb:PE X b tb)(hm:A0H op b=false):PT X (.Compare a [op] [b] pos) (R7 (tOp r ta tb)):=by
 intro pq s σ H Q I h
 refine A19 (thn (ha pq s σ H _ I h) λv s1 ⟨x,H1,I1,r1,q1⟩=>thn (hb pq s1 σ H1 _ I1 q1) λu s2 ⟨y,H2,I2,r2,q2⟩=>
  thn (ho pq s2 σ H2 x y v u _ I2 r1 r2 q2) λc s3 ⟨z,H3,I3,r3,k,e,q3⟩=>?_) hm
 subst e;cases r3;exact Zy ⟨H3,I3,q3⟩
noncomputable def Hy(r r':R2)(ta tb tc:TE):TE:=λσ H Q=>ta σ H λx H1=>tb σ H1 λy H2=>r x y H2 λz H3=>∃ k,z = .bl k/\
 (if k=true then tc σ H3 λw' H4=>r' y w' H4 Q else Q (.bl false) H3)
theorem MK{op op':CmpOp}{r r':R2}(ho:OpR X (Zw op) r)(ho':OpR X (Zw op') r')(ha:PE X a ta)(hb:PE X b tb)(hc:PE X c tc)
 (hm:A1U [op,op'] [b,c]=false:=by with_unfolding_all rfl):PE X (.Compare a [op,op'] [b,c] pos) (Hy r r' ta tb tc):=by
 intro pq s σ H Q I h
 refine Compare_chain (thn (ha pq s σ H _ I h) λv s1 ⟨x,H1,I1,r1,q1⟩=>chain_link (thn (hb pq s1 σ H1 _ I1 q1) λu s2 ⟨y,H2,I2,r2,q2⟩=>
  thn (ho pq s2 σ H2 x y v u _ I2 r1 r2 q2) λd s3 ⟨z,H3,I3,r3,k,e,q3⟩=>?_)) hm
 subst e;cases r3;refine Zy ?_;cases k with
 | false=>exact ite_ff ⟨.bl false,H3,I3,rfl,q3⟩
 | true=>exact ite_tt (chain_last (thn (hc pq s3 σ H3 _ I3 q3) λw' s4 ⟨z',H4,I4,r4,q4⟩=>ho' pq s4 σ H4 y z' u w' Q I4 r2 r4 q4))
theorem ML{op op':CmpOp}{r r':R2}(ho:OpR X (Zw op) r)(ho':OpR X (Zw op') r')(ha:PE X a ta)(hb:PE X b tb)(hc:PE X c tc)
 (hm:A1U [op,op'] [b,c]=false:=by with_unfolding_all rfl):PT X (.Compare a [op,op'] [b,c] pos) (R7 (Hy r r' ta tb tc)):=by
 intro pq s σ H Q I h
 refine isTrue_chain (thn (ha pq s σ H _ I h) λv s1 ⟨x,H1,I1,r1,q1⟩=>test_link (thn (hb pq s1 σ H1 _ I1 q1) λu s2 ⟨y,H2,I2,r2,q2⟩=>
  thn (ho pq s2 σ H2 x y v u _ I2 r1 r2 q2) λd s3 ⟨z,H3,I3,r3,k,e,q3⟩=>?_)) hm
 subst e;cases r3;refine Zy ?_;cases k with
 | false=>
   obtain⟨k',e',q'⟩:=q3;cases e';exact ite_ff ⟨H3,I3,q'⟩
 | true=>
   refine ite_tt (test_last (thn (hc pq s3 σ H3 _ I3 q3) λw' s4 ⟨z',H4,I4,r4,q4⟩=>thn (ho' pq s4 σ H4 y z' u w' _ I4 r2 r4 q4) λd' s5 ⟨z2,H5,I5,r5,k2,e2,q5⟩=>?_));subst e2;cases r5;exact Zy ⟨H5,I5,q5⟩
noncomputable def Ov(K:W5)(x:V)(H:Hp)(k:Bool):Prop:=
 match x with
 | .non=>k=false
 | .bl b=>k=b
 | .int i=>k=(i != 0)
 | .str y=>y.length<=Zn/\k=((y.length:Int) != 0)
 | .byt y=>y.size<=Zn/\k=((y.size:Int) != 0)
 | .ref p=>(∃ xs,SqL K H p xs/\k=!xs.isEmpty)\/(∃ xs,SqT K H p xs/\k=!xs.isEmpty)\/∃ kvs,H p=some (.dK kvs)/\k=!kvs.isEmpty
 | _=>False
theorem Hz{κ:Type}{kvs:List (κ×V)}{vs:List (κ×Zh)}(r:KV kvs vs):(!vs.isEmpty)=!kvs.isEmpty:=by
 cases r<;>rfl
theorem De{xs:List V}{its:List Zh}(r:Vals xs its):(!its.toArray.isEmpty)=!xs.isEmpty:=by
 cases r<;>simp
theorem Cz:(Zn:Nat)<2 ^ 63:=by rw[A1d];decide
theorem SM:Ve X (λx H Q=>∃ k,Ov X.K x H k/\Q k H):=by
 intro pq s σ H x v Q I rx h;obtain⟨k,e,q⟩:=h;have hl:=Cz;have hs:Zn=16777216:=A1d;cases x with
 | non=>
   cases rx;have e':k=false:=e;subst e';exact truthy_none ⟨H,I,q⟩
 | bl b=>
   cases rx;have e':k=b:=e;subst e';exact Zy ⟨H,I,q⟩
 | int i=>
   obtain⟨t,rfl⟩:=rx;have e':k=(i != 0):=e;subst e';exact PySem.P.truthy_int ⟨H,I,q⟩
 | str y=>
   obtain⟨t,rfl⟩:=rx;obtain⟨hy,e'⟩:y.length<=Zn/\k=((y.length:Int) != 0):=e;subst e';exact PySem.P.truthy_str (by omega) ⟨H,I.tok _,q⟩
 | byt y=>
   obtain⟨t,rfl⟩:=rx;obtain⟨hy,e'⟩:y.size<=Zn/\k=((y.size:Int) != 0):=e;subst e';exact PySem.W.truthy_bytes (by omega) ⟨H,I.tok _,q⟩
 | ref p=>
   cases rx;have e':(∃ xs,SqL X.K H p xs/\k=!xs.isEmpty)\/(∃ xs,SqT X.K H p xs/\k=!xs.isEmpty)\/∃ kvs,H p=some (.dK kvs)/\k=!kvs.isEmpty:=e;rcases e' with⟨xs,hx,e'⟩ | ⟨xs,hx,e'⟩ | ⟨kvs,hx,e'⟩
   ·subst e';obtain⟨its,r,pl,hz⟩:=I.list hx;have hlen:=r.length;exact wpAny_truthy_list pl.isList (by simp only[WG];omega) ⟨H,I.tok _,by rw[De r];exact q⟩
   ·subst e';obtain⟨its,r,pl,hz⟩:=I.tuple hx;have hlen:=r.length;exact truthy_tuple pl (by simp only[WG];omega) ⟨H,I.tok _,by rw[De r];exact q⟩
   ·subst e';obtain⟨hz,hS,vs,r,m⟩:kvs.length<=Zn/\(p == A0q)=false/\∃ vs,KV kvs vs/\s.heap.DictOf (m8 X.prog X.w) p vs:=I.hok p _ hx;have hlen:kvs.length=vs.length:=Paired.length r;exact wpAny_truthy_dict hS m (by omega) ⟨H,I.tok _,by rw[Hz r];exact q⟩
 | _=>exact(show False from e).elim
theorem MM(ha:PE X a ta)(he:∀ whole,isTrue a X.env whole=(do let v <- whole;standAt a.pos;holding [v] (truthy v))):
 PT X a (λσ H Q=>ta σ H λx H'=>∃ k,Ov X.K x H' k/\Q k H'):=by
 intro pq s σ H Q I h;exact isTrue_plain (thn (ha pq s σ H _ I h) λv s1 ⟨x,H1,I1,r1,q1⟩=>SM pq s1 σ H1 x v Q I1 r1 q1) (he _)
theorem Bj{x:V}{us:List Zh}(r:Vals [x] us):∃ u,us=[u]/\RelV x u:=by
 cases r with
 | cons r1 r2=>cases r2;exact⟨_,rfl,r1⟩
theorem R8{x y:V}{us:List Zh}(r:Vals [x,y] us):∃ u w',us=[u,w']/\RelV x u/\RelV y w':=by
 cases r with
 | cons r1 r2=>
   cases r2 with
   | cons r3 r4=>cases r4;exact⟨_,_,rfl,r1,r3⟩
theorem MN:CallR X (.builtin "abs") (λxs H Q=>∃ i,xs=[.int i]/\Q (.int (if i<0 then -i else i)) H):=by
 intro pq s σ H xs us Q I r h;obtain⟨i,rfl,q⟩:=h;obtain⟨u,rfl,t,rfl⟩:=Bj r;exact call_abs_int λu tk=>⟨.int (if i<0 then -i else i),H,I.tok _,⟨_,rfl⟩,q⟩
theorem Kb(hc:X.calm=true):CallR X (.builtin "max") (λxs H Q=>∃ i j,xs=[.int i,.int j]/\Q (.int (if j>i then j else i)) H):=by
 intro pq s σ H xs us Q I r h;obtain⟨i,j,rfl,q⟩:=h;obtain⟨u,w',rfl,⟨t,rfl⟩,⟨t',rfl⟩⟩:=R8 r;refine max_two_ints (I.ok.hd hc) λh' tk k=>⟨_,H,I.kept k,?_,q⟩
 by_cases hj:j>i
 ·rw[iP hj,iP hj];exact⟨_,rfl⟩
 ·rw[iG hj,iG hj];exact⟨_,rfl⟩
theorem Kc(hc:X.calm=true):CallR X (.builtin "min") (λxs H Q=>∃ i j,xs=[.int i,.int j]/\Q (.int (if j<i then j else i)) H):=by
 intro pq s σ H xs us Q I r h;obtain⟨i,j,rfl,q⟩:=h;obtain⟨u,w',rfl,⟨t,rfl⟩,⟨t',rfl⟩⟩:=R8 r;refine min_two_ints (I.ok.hd hc) λh' tk k=>⟨_,H,I.kept k,?_,q⟩
 by_cases hj:j<i
 ·rw[iP hj,iP hj];exact⟨_,rfl⟩
 ·rw[iG hj,iG hj];exact⟨_,rfl⟩
theorem Kd:CallR X (.type "int") (λxs H Q=>(∃ i,xs=[.int i]/\Q (.int i) H)\/∃ k,xs=[.bl k]/\Q (.int (if k then 1 else 0)) H):=by
 intro pq s σ H xs us Q I r h;rcases h with⟨i,rfl,q⟩ | ⟨k,rfl,q⟩
 ·obtain⟨u,rfl,t,rfl⟩:=Bj r;exact call_int_int ⟨.int i,H,I,⟨_,rfl⟩,q⟩
 ·obtain⟨u,rfl,r1⟩:=Bj r;cases r1;exact call_int_bool ⟨.int (if k then 1 else 0),H,I.tok _,⟨_,rfl⟩,q⟩
end
structure ObjM(h:Heap)(x dx C:Zk)(mA:Str->Option Zh):Prop where
 obj:h.get? x=some (PySem.W.instObj C dx)
 ns:h.Ns1 dx mA
 ne:dx≠x
theorem Ke{h:Heap}{dx:Zk}{mA:Str->Option Zh}(n:h.Ns1 dx mA):∃ od,h.get? dx=some od/\∀ name,PySem.W.lookIn name od=some (mA name):=by
 obtain⟨o,es,ep,ho,hd,hk,_,hm⟩:=n;refine⟨o,ho,λname=>?_⟩;have e:=hm name;unfold nsFind findBy at e;rw[<-Array.find?_toList]at e;unfold PySem.W.lookIn;rw[hd];dsimp only;split
 ·rename_i y q;rw[q]at e;exact congrArg some e
 ·rename_i q;rw[q]at e
  have a:es.toList.any (·.refKey)=false:=by
   rw[List.any_eq_false];intro y hy;obtain⟨z,t,hkey⟩:=hk y (Array.mem_toList_iff.mp hy);simp[DictEntry.refKey,hkey]
  have a':¬ es.toList.any (·.refKey)=true:=by rw[a];exact WK
  rw[iG a'];exact congrArg some e
theorem ObjM.look{h:Heap}{x dx C:Zk}{mA:Str->Option Zh}(I:ObjM h x dx C mA):∃ od,PySem.W.InstAt h x (PySem.W.instObj C dx) C (some od)/\∀ name,PySem.W.lookIn name od=some (mA name):=
 let ⟨od,ho,hl⟩:=Ke I.ns
 ⟨od,⟨I.obj,rfl,rfl,ho⟩,hl⟩
theorem RelO.some_of{v:V}{o:Option Zh}(r:RelO (some v) o):∃ u,o=some u/\RelV v u:=by
 cases o with
 | none=>exact(show False from r).elim
 | some u=>exact⟨u,rfl,r⟩
section
variable{P:Zo}{w:Zq}{H H':Hp}{h h':Heap}{a C dx:Zk}{fs fs':List (Str×V)}
theorem JP(hok:HOk P w H h)(e:H a=some (.ins C dx fs)):∃ mA,ObjM h a dx C mA/\(∀ f,RelO (fs.lookup f) (mA f))/\PySem.Within mA (fs.map (·.1))/\fs.length<=1000/\H dx=some (.own a):=by
 obtain⟨d,z,ne,ob,mA,n,r,q⟩:=(show ObjOk P w H h a (.ins C dx fs) from hok a _ e)
 exact⟨mA,⟨ob,n,ne⟩,r,q,z,d⟩
end
structure Cls(K:W5)(C:Zk):Prop where
 pg:PySem.W.plainGet K C Str.empty=true
 hd:PySem.W.hasDictIn K C=true
 po:PySem.W.plainOver K C=true
 sa:PySem.W.findIn K (.ref C) "__setattr__"=some (some (.builtin "object.__setattr__"))
theorem Cls.get{K:W5}{C:Zk}(c:Cls K C)(f:Str):PySem.W.plainGet K C f=true:=c.pg
section
variable{X:Cx}{pq:List (Zk×Obj)}{σ:St}{H:Hp}{s:Zj}{A:Zx}{E:Zh->Zj->Prop}{Q:Zh->Zj->Prop}{c:Zh}{b:Bool}
inductive TyOf(K:W5)(H:Hp):V->Zh->Prop where
 | non:TyOf K H .non (.type "NoneType")
 | bl (x:Bool):TyOf K H (.bl x) (.type "bool")
 | int (i:Int):TyOf K H (.int i) (.type "int")
 | str (x:Str):TyOf K H (.str x) (.type "str")
 | flt (x:UInt64):TyOf K H (.flt x) (.type "float")
 | lst {a:Zk} {xs:List V} (e:H a=some (.lst xs)):TyOf K H (.ref a) (.type "list")
 | frz {a:Zk} {o:Obj} {xs:List V} (e:H a=some (.frz o (.lst xs))):TyOf K H (.ref a) (.type "list")
 | tup {a:Zk} {xs:List V} (e:H a=some (.tup xs)):TyOf K H (.ref a) (.type "tuple")
 | dK {a:Zk} {kvs:List (Key×V)} (e:H a=some (.dK kvs)):TyOf K H (.ref a) (.type "dict")
 | dT {a:Zk} {kvs:List (List Key×V)} (e:H a=some (.dT kvs)):TyOf K H (.ref a) (.type "dict")
 | ins {a C dx:Zk} {fs:List (Str×V)} (e:H a=some (.ins C dx fs)) (cl:Cls K C) (ha:PySem.W.findIn K (.ref C) "__class__"=some (some (.builtin "object.__class__")))
    (hn:PySem.W.specialIn K (.builtin "object.__class__") "__get__"=some (some (.builtin "getset_descriptor.__get__"))) (htk:PySem.W.takesIn K (.builtin "object.__class__")=some true)
    (hm:PySem.W.mroIn K C (.type "object")=some true):TyOf K H (.ref a) (.ref C)
theorem Kf{x:V}{u t:Zh}(I:Inv X pq σ H s)(rx:RelV x u)(ty:TyOf X.K H x t)(e:PySem.W.kitOne X.K t c=some b)(h:∀ tk,Q (.bool b) {s with toks:=tk}):
 Zl (Zm X.prog X.w) A (call (.builtin "isinstance") [u,c]) Q E s:=by
 cases ty with
 | non=>cases(show u=Value.none from rx);exact PySem.W.kia_one PySem.W.kitx_none I.kIn True.intro e (λz=>nomatch z) h
 | bl y=>cases(show u=Value.bool y from rx);exact PySem.W.kia_one PySem.W.kitx_bool I.kIn True.intro e (λz=>nomatch z) h
 | int i=>obtain⟨t,q⟩:=(show ∃ t,u=Value.int i t from rx);cases q;exact PySem.W.kia_one PySem.W.kitx_int I.kIn True.intro e (λz=>nomatch z) h
 | str y=>obtain⟨t,q⟩:=(show ∃ t,u=Value.str y t from rx);cases q;exact PySem.W.kia_one PySem.W.kitx_str I.kIn True.intro e (λz=>nomatch z) h
 | flt y=>obtain⟨t,q⟩:=(show ∃ t,u=Value.float y t from rx);cases q;exact PySem.W.kia_one PySem.W.kitx_float I.kIn True.intro e (λz=>nomatch z) h
 | @lst a xs ea=>
   cases(show u=Value.ref a from rx);obtain⟨_,_,n,_,h1⟩:=(show ObjOk X.prog X.w H s.heap a (.lst xs) from I.hok a _ ea)
   exact PySem.W.kia_one PySem.W.kitx_list I.kIn ⟨_,h1,rfl⟩ e (λz=>nomatch z) h
 | @frz a ob xs ea=>
   cases(show u=Value.ref a from rx);obtain⟨_,_,_,n,_,h1⟩:=(show ObjOk X.prog X.w H s.heap a (.frz ob (.lst xs)) from I.hok a _ ea)
   exact PySem.W.kia_one PySem.W.kitx_list I.kIn ⟨_,h1,rfl⟩ e (λz=>nomatch z) h
 | @tup a xs ea=>
   cases(show u=Value.ref a from rx);obtain⟨_,_,_,p⟩:=(show ObjOk X.prog X.w H s.heap a (.tup xs) from I.hok a _ ea)
   obtain⟨o,h1,h2,_⟩:=p;exact PySem.W.kia_one PySem.W.kitx_tuple I.kIn ⟨o,h1,h2⟩ e (λz=>nomatch z) h
 | @dK a kvs ea=>
   cases(show u=Value.ref a from rx);obtain⟨_,_,vs,_,p⟩:=(show ObjOk X.prog X.w H s.heap a (.dK kvs) from I.hok a _ ea)
   obtain⟨o,es,ep,h1,h2,_⟩:=p;exact PySem.W.kia_one PySem.W.kitx_dict I.kIn ⟨o,h1,h2.1⟩ e (λz=>nomatch z) h
 | @dT a kvs ea=>
   cases(show u=Value.ref a from rx);obtain⟨_,_,xs,_,o,es,ep,h1,h2,_⟩:=(show ObjOk X.prog X.w H s.heap a (.dT kvs) from I.hok a _ ea)
   exact PySem.W.kia_one PySem.W.kitx_dict I.kIn ⟨o,h1,h2.1⟩ e (λz=>nomatch z) h
 | @ins a C dx fs ea cl ha hn htk hm=>
   cases(show u=Value.ref a from rx);obtain⟨mA,O,_⟩:=JP I.hok ea;obtain⟨od,J,_⟩:=O.look;exact PySem.W.kia_one (PySem.W.kitx_own (cl.get _) cl.hd ha hn htk hm) I.kIn J e (λz=>nomatch z) h
end
structure Room(k:Nat)(A:Zx):Prop where
 hd:A.handled=none
 dp:A.depth+3 * k+5<A1L
 un:A.units+16 * k+200<cLine
 gd:A.guards=some []
theorem Room.mono{j k:Nat}{A:Zx}(r:Room k A)(h:j<=k):Room j A:=⟨r.hd,by have:=r.dp;omega,by have:=r.un;omega,r.gd⟩
theorem Room.deeper{k:Nat}{A:Zx}(r:Room (k+1) A)(env:Env):Room k (A.deeper env):=
 ⟨r.hd,by have:=r.dp;show A.depth+1+3 * k+5<_;omega,by have:=r.un;show A.units+3+16 * k+200<_;omega,r.gd⟩
theorem Room.depth{k:Nat}{A:Zx}(r:Room k A):A.depth<A1L:=by have:=r.dp;omega
def SN:TA:=λ_ H Q=>Q [] H
noncomputable def Dg(ta:TE)(tr:TA):TA:=λσ H Q=>ta σ H λx H1=>tr σ H1 λxs H2=>Q (x::xs) H2
section
variable{X:Cx}{e:Expr}{es:List Expr}{te:TE}{t:TA}{pos:Pos}
theorem Br:PA X [] SN:=λ_ _ _ _ H Q I h=>Calls.spliced_nil ⟨[],H,I,.nil,h⟩
theorem AF(ha:PE X e te)(hr:PA X es t)(hs:Zp (e::es) X.env=(false,eval e X.env)::Zp es X.env:=by rfl):PA X (e::es) (Dg te t):=by
 intro pos pq s σ H Q I h;rw[hs];show Zl _ _ (spliced ((false,eval e X.env)::backTo pos (Zp es X.env))) _ _ s;refine Calls.spliced_cons (thn (ha pq s σ H _ I h) λu s1 ⟨x,H1,I1,r1,q1⟩=>?_);exact thn (hr pos pq s1 σ H1 _ I1 q1) λus s2 ⟨xs,H2,I2,r2,q2⟩=>⟨x::xs,H2,I2,.cons r1 r2,q2⟩
noncomputable def UP(t:TA):TE:=λσ H Q=>t σ H λxs H1=>xs.length<=Zn/\∀ p,H1 p=none->Q (.ref p) (upd H1 p (.tup xs))
noncomputable def UQ(t:TA):TE:=λσ H Q=>t σ H λxs H1=>xs.length<=Zn/\∀ p,H1 p=none->Q (.ref p) (upd H1 p (.lst xs))
theorem SQ{x1}(h:PA X es t):PE X (.Tuple es x1 pos) (UP t):=by
 intro pq s σ H Q I hq;refine wpAny_Tuple_spliced (thn (h pos pq s σ H _ I hq) λus s1 ⟨xs,H1,I1,r,z,q⟩=>⟨by rw[<-r.length];exact z,?_⟩);have hf:H1 s1.heap.objs.size=none:=I1.hok.fresh (WJ _);refine⟨.ref s1.heap.objs.size,upd H1 s1.heap.objs.size (.tup xs),I1.laid (t':=s1.toks) (λb u e=>WD _ e) (WJ _) ?_,rfl,q _ hf⟩;exact⟨z,us,r,⟨_,WU _ rfl,rfl,_,rfl⟩⟩
theorem SR(h:PA X es t):PE X (.List es pos) (UQ t):=by
 intro pq s σ H Q I hq;refine wpAny_List_spliced (thn (h pos pq s σ H _ I hq) λus s1 ⟨xs,H1,I1,r,z,q⟩=>⟨by rw[<-r.length];exact z,?_⟩);have hf:H1 s1.heap.objs.size=none:=I1.hok.fresh (WJ _);refine⟨.ref s1.heap.objs.size,upd H1 s1.heap.objs.size (.lst xs),I1.laid (t':=s1.toks) (λb u e=>WD _ e) (WJ _) ?_,rfl,q _ hf⟩;exact⟨z,us,0,r,WU _ rfl⟩
end
abbrev Sp:=List V->Hp->VK->XK->Prop
abbrev CXT:=List Env->Hp->Zj->XK->Zh->Zj->Prop
structure Env0(P:Zo)(w:Zq)(K:W5)(mg:Str->Option Zh)(base:Heap)(A:Zx)(outer:List Env)(s:Zj)(H:Hp):Prop where
 frames:A.frames=some outer
 mod:Mod K mg base
 bs:∀ b o,base.get? b=some o->s.heap.get? b=some o/\H b=none
 bsz:base.objs.size<=s.heap.objs.size
 funs:s.heap.FunFrames base outer
 frf:∀ b∈frs outer,H b=none
 hok:HOk P w H s.heap
 bare:AllBare s.gens
noncomputable def CE(outer:List Env)(P:Zo)(w:Zq)(H:Hp)(s:Zj)(Q:VK)(u:Zh)(s':Zj):Prop:=
 ∃ v H',s'.os=s.os/\AllBare s'.gens/\Un (frs outer) [] H H' s.heap s'.heap/\HOk P w H' s'.heap/\RelV v u/\Q v H'
noncomputable def CR(CX:CXT)(outer:List Env)(P:Zo)(w:Zq)(H:Hp)(s:Zj)(Q:VK)(E:XK)(r:Result)(s':Zj):Prop:=
 match r with
 | .ok (.ret u)=>CE outer P w H s Q u s'
 | .ok _=>False
 | .error e=>CX outer H s E e s'
structure FnOk(P:Zo)(w:Zq)(K:W5)(mg:Str->Option Zh)(base:Heap)(CX:CXT)(k:Nat)(f:Zk)(fd:A0o)(ps:List Str)(sp:Sp):Prop where
 len:∀ vs H Q E,sp vs H Q E->vs.length=ps.length
 run:∀(A:Zx) (outer:List Env) (s:Zj) (H:Hp) (args:Args) (us:List Zh) (vs:List V) (Q:VK) (E:XK),Room k A->Env0 P w K mg base A outer s H->BindsTo s fd args (ps.zip us)->Vals vs us->sp vs H Q E->
  codeAny (Zm P w) A (.call (.ref f) args) (CR CX outer P w H s Q E) s
theorem FnOk.mono{P:Zo}{w:Zq}{K:W5}{mg:Str->Option Zh}{base:Heap}{CX:CXT}{j k:Nat}{f:Zk}{fd:A0o}{ps:List Str}{sp:Sp}(F:FnOk P w K mg base CX j f fd ps sp)(h:j<=k):
 FnOk P w K mg base CX k f fd ps sp:=⟨F.len,λA outer s H args us vs Q E hr=>F.run A outer s H args us vs Q E (hr.mono h)⟩
section
variable{X:Cx}{pq:List (Zk×Obj)}{σ:St}{H:Hp}{s s':Zj}
theorem Inv.env0(I:Inv X pq σ H s):Env0 X.prog X.w X.K X.mg X.base X.A X.stack s H:=
 ⟨I.ok.frames,I.ok.mod,I.bs,Ws I.ok.bsz I.sz,I.stack,I.stkFree,I.hok,I.bare⟩
theorem Inv.after{Q:VK}{u:Zh}(I:Inv X pq σ H s)(h:CE X.stack X.prog X.w H s Q u s'):EP X pq σ Q u s':=by
 obtain⟨v,H',os,bare,un,hok,r,q⟩:=h;obtain⟨hh,g,d,t,os'⟩:=s';obtain rfl:os'=s.os:=os;exact⟨v,H',I.call (h':=hh) (g':=g) (d':=d) (t':=t) (ch:=[]) un hok bare (λb z=>absurd z (by simp)),r,q⟩
end
noncomputable def R9(sp:Sp)(dvs:List V)(E:XK)(t:TA):TE:=λσ H Q=>t σ H λvs H1=>sp (vs++dvs) H1 Q E
noncomputable def Binds(K:W5)(fd:A0o)(ps:List Str)(ds:List Zh):Prop:=
 ∀(s:Zj) (us:List Zh),K.In s.heap->(us++ds).length=ps.length->BindsTo s fd ⟨us,[]⟩ (ps.zip (us++ds))
theorem Binds.all{K:W5}{fd:A0o}{ps:List Str}(h:∀ us:List Zh,us.length=ps.length->bindArgs fd ⟨us,[]⟩=pure (ps.zip us)):Binds K fd ps []:=λs us _ hl=>by
 rw[XZ]at hl ⊢;exact .of_eq (h us hl)
noncomputable def I0(CX:CXT)(X:Cx)(E:XK):Prop:=∀(pq:List (Zk×Obj)) (σ:St) (H:Hp) (s:Zj) (e:Zh) (s':Zj),Inv X pq σ H s->CX X.stack H s E e s'->X.xe e s'
section
variable{X:Cx}{CX:CXT}{k:Nat}{f C:Zk}{fd:A0o}{ps:List Str}{sp:Sp}{dvs:List V}{ds:List Zh}{E:XK}{x m:Str}{p pos apos:Pos}{e o:Expr}{es:List Expr}{ta:TE}{t:TA}
theorem SS{pq:List (Zk×Obj)}{σ:St}{H:Hp}{s:Zj}{Q:VK}{us:List Zh}{vs:List V}(F:FnOk X.prog X.w X.K X.mg X.base CX k f fd ps sp)(hr:Room k X.A)(hb:Binds X.K fd ps ds)(hd:Vals dvs ds)(hx:I0 CX X E)
 (I:Inv X pq σ H s) (r:Vals vs us) (h:sp (vs++dvs) H Q E):Zl (Zm X.prog X.w) X.A (call (.ref f) us) (EP X pq σ Q) X.xe s:=by
 have r2:Vals (vs++dvs) (us++ds):=r.append hd;have hl:(us++ds).length=ps.length:=by rw[<-r2.length];exact F.len _ _ _ _ h
 refine A1M (A0i (F.run X.A X.stack s H ⟨us,[]⟩ (us++ds) (vs++dvs) Q E hr I.env0 (hb s us I.kIn hl) r2 h) λr s' hq=>?_);cases r with
 | error e=>exact hx pq σ H s e s' I hq
 | ok fl=>
   cases fl with
   | ret u=>exact I.after hq
   | next=>exact False.elim hq
   | brk=>exact False.elim hq
   | cont=>exact False.elim hq
theorem Ow(F:FnOk X.prog X.w X.K X.mg X.base CX k f fd ps sp)(hr:Room k X.A)(hg:Gl X x)(hm:X.mg x=some (.ref f))(hk:PySem.W.keepIn X.K (.ref f)=true)(hb:Binds X.K fd ps ds)(hd:Vals dvs ds)(hx:I0 CX X E)
 (ha:PA X (e::es) t) (hdb:(x == ("__debug__":Str))=false:=by decide) (he:Zp (e::es) X.env=(false,eval e X.env)::Zp es X.env:=by rfl) (hpl:(backTo pos (Zp es X.env)).any (·.1)=false:=by rfl):
 PE X (.Call (.Name x p) (e::es) [] pos) (R9 sp dvs E t):=by
 intro pq s σ H Q I h;refine A04 (Oi I hg hm ?_ hdb);refine PySem.W.callWith_K (h₀:=X.base) I.ok.mod.kin hk (thn (ha pos pq s σ H _ I h) λus s1 ⟨vs,H1,I1,r,q⟩=>⟨I1.kIn,?_⟩) he hpl;exact SS F hr hb hd hx I1 r q
end
structure FnScope(N P:List Str)(sc:Zu):Prop where
 kind:sc.kind = .function
 co:sc.isCoroutine=false
 gen:sc.isGenerator=false
 nd:N.Nodup
 pre:N.take P.length=P
 par:∀ x∈P,sc.names.lookup x=some .local\/sc.names.lookup x=some .cell
 nofree:∀ y∈sc.names,y.2 ≠ .free
theorem Ec{kindOf:Str->Option A09}{x:Str}:∀{binds:List (Str×Zh)} {m:Str->Option Zh},(∀ v,(x,v)∉binds)->bindL kindOf binds m x=m x
 | [],_,_=>rfl
 | (n,v)::r,m,h=>by
   unfold bindL;rw[Ec λw hw=>h w (WL _ hw)];split
   ·have:x≠n:=by rintro rfl;exact h v WW
    simp[this]
   ·rfl
theorem Ed{kindOf:Str->Option A09}{x:Str}:∀{binds:List (Str×Zh)} {m:Str->Option Zh},(∀ v,(x,v)∉binds)->bindC kindOf binds m x=m x
 | [],_,_=>rfl
 | (n,v)::r,m,h=>by
   unfold bindC;rw[Ed λw hw=>h w (WL _ hw)];split
   ·rfl
   ·have:x≠n:=by rintro rfl;exact h v WW
    simp[this]
theorem Ee{kindOf:Str->Option A09}{x:Str}{v:Zh}:∀{P:List Str} {vs:List Zh} {i:Nat} {m:Str->Option Zh},P.Nodup->P[i]?=some x->vs[i]?=some v->kindOf x=some .local->
 bindL kindOf (P.zip vs) m x=some v
 | [],_,_,_,_,h,_,_=>by simp at h
 | _::_,[],_,_,_,_,h,_=>by simp at h
 | p::P,w::vs,0,m,nd,h1,h2,hk=>by
   simp at h1 h2;subst h1;subst h2;show bindL kindOf ((p,w)::P.zip vs) m p=_;unfold bindL;rw[Ec λv hv=>(Xi.mp nd).1 (Xv hv).1,iP hk];simp
 | p::P,w::vs,i+1,m,nd,h1,h2,hk=>by
   show bindL kindOf ((p,w)::P.zip vs) m x=_;unfold bindL;exact Ee (i:=i) (Xi.mp nd).2 (by simpa using h1) (by simpa using h2) hk
theorem Ef{kindOf:Str->Option A09}{x:Str}{v:Zh}:∀{P:List Str} {vs:List Zh} {i:Nat} {m:Str->Option Zh},P.Nodup->P[i]?=some x->vs[i]?=some v->kindOf x≠some .local->
 bindC kindOf (P.zip vs) m x=some v
 | [],_,_,_,_,h,_,_=>by simp at h
 | _::_,[],_,_,_,_,h,_=>by simp at h
 | p::P,w::vs,0,m,nd,h1,h2,hk=>by
   simp at h1 h2;subst h1;subst h2;show bindC kindOf ((p,w)::P.zip vs) m p=_;unfold bindC;rw[Ed λv hv=>(Xi.mp nd).1 (Xv hv).1,iG hk];simp
 | p::P,w::vs,i+1,m,nd,h1,h2,hk=>by
   show bindC kindOf ((p,w)::P.zip vs) m x=_;unfold bindC;exact Ef (i:=i) (Xi.mp nd).2 (by simpa using h1) (by simpa using h2) hk
noncomputable def start(N:List Str)(vs:List V):St:=vs.map some++WM (N.length - vs.length) none
noncomputable def IA(CX:CXT)(P:Zo)(w:Zq)(K:W5)(mg:Str->Option Zh)(base:Heap)(N:List Str)(qual:Str)(scope:Zu)(f:Zk)(cd:Zh)(A:Zx)(outer:List Env)(s:Zj)(H:Hp)(E:XK):Cx where
 prog:=P
 w:=w
 K:=K
 mg:=mg
 base:=base
 A:=A.deeper (envOfC qual scope s.heap.objs.size f cd)
 N:=N
 s₀:=s
 H₀:=H
 env:=envOfC qual scope s.heap.objs.size f cd
 outer:=outer
 stack:=envOfC qual scope s.heap.objs.size f cd::outer
 ex:=[]
 calm:=true
 fn:=λ_=>true
 pn:=[]
 xe:=λe s'=>Zl (Zm P w) (A.deeper (envOfC qual scope s.heap.objs.size f cd)) (leaving (envOfC qual scope s.heap.objs.size f cd) e) (λ_ s''=>CX outer H s E e s'') (λe' s''=>CX outer H s E e' s'') s'
theorem Fy{sc:Zu}{n:Nat}{x:Str}(h:sc.names.lookup x=some .cell):∃ c,(A0a n sc.names []).lookup x=some c:=by
 have q:=PySem.W.cellsFrom_some sc.names n [] (.inl h);exact XB.mp q
theorem Kg{CX:CXT}{P:Zo}{w:Zq}{K:W5}{mg:Str->Option Zh}{base:Heap}{N ps:List Str}{qual:Str}{scope:Zu}{f:Zk}{cd:Zh}{A:Zx}{outer:List Env}{s s1:Zj}{H:Hp}{E:XK}{us:List Zh}{vs:List V}
 (S:FnScope N ps scope) (hd:A.handled=none) (e0:Env0 P w K mg base A outer s H) (hl:vs.length=ps.length) (r:Vals vs us)
 (x:InCallC s s.heap.objs.size (bindL (envOfC qual scope s.heap.objs.size f cd).kindOf (ps.zip us) λ_=>none) (A0a (s.heap.objs.size+1) scope.names []) (bindC (envOfC qual scope s.heap.objs.size f cd).kindOf (ps.zip us) λ_=>none) s1):
 Inv (IA CX P w K mg base N qual scope f cd A outer s H E) [] (start N vs) H s1:=by
 have hpl:ps.length<=N.length:=by have:=congrArg Y0 S.pre;rw[Wp]at this;omega
 obtain⟨h1,tk,rfl,hk⟩:=x.done;have noA:∀ b:Zk,b∉(IA CX P w K mg base N qual scope f cd A outer s H E).ex:=λb z=>absurd (show b∈([]:List Zk) from z) (by simp)
 refine⟨⟨e0.mod,S.kind,rfl,rfl,WJ _,λy z c h1 h2=>?_,λy hy=>?_,λy c _ h=>?_,λ_=>hd,Around.frames_deeper e0.frames,.inr ⟨rfl,rfl⟩,λb z=>absurd z (noA b),e0.bs,e0.bsz,λb _ _=>noA b,λb z=>absurd z (noA b),e0.funs,e0.frf⟩,
  rfl,e0.bare,Un.kept hk,⟨_,x.toInCall.ns,λi y v h1 h2 h3=>?_⟩,λy c h=>⟨_,x.cell y c h⟩,e0.hok.fresh (WJ _),λy c h=>?_,λp hp=>absurd (show p∈([]:List (Zk×Obj)) from hp) (by simp),e0.hok.kept hk,?_⟩
 ·exact name_of_addr x.apart (PySem.mem_of_lookup h1) (PySem.mem_of_lookup h2)
 ·have hy:scope.names.lookup y=some .cell\/scope.names.lookup y=some .free:=hy;rcases hy with hy | hy
  ·exact Fy hy
  ·exact absurd rfl (S.nofree _ (PySem.mem_of_lookup hy))
 ·exact XY (x.above y c (PySem.mem_of_lookup h))
 ·have hi:i<vs.length:=by
   unfold start at h2;by_cases hi:i<vs.length
   ·exact hi
   ·rw[X6 (by simpa using hi)]at h2;rw[XM]at h2;split at h2<;>cases h2
  have ha:vs[i]?=some v:=by
   unfold start at h2;rw[WX (by simpa using hi),WQ]at h2;cases e:vs[i]? with
   | none=>rw[e]at h2;cases h2
   | some a=>rw[e]at h2;cases h2;rfl
  obtain⟨u,hu,rv⟩:=r.get ha
  have hp:ps[i]?=some y:=by
   rw[<-S.pre,XU (by omega)];exact h1
  have ndP:ps.Nodup:=by rw[<-S.pre];exact S.nd.sublist (List.take_sublist _ _)
  refine⟨u,rv,?_⟩;rcases S.par y (WC hp) with k | k
  ·exact .inl ⟨k,Ee ndP hp hu k⟩
  ·obtain⟨c,e⟩:=Fy (n:=s.heap.objs.size+1) k;refine .inr ⟨.inl k,c,e,?_⟩;have q:=x.cell y c e;rw[Ef ndP hp hu (by show scope.names.lookup y≠_;rw[k];decide)]at q;exact q
 ·exact e0.hok.fresh (XY (x.above y c (PySem.mem_of_lookup h)))
 ·unfold start;show _=N.length;rw[W7,W8,YI];omega
theorem UR{CX:CXT}{P:Zo}{w:Zq}{K:W5}{mg:Str->Option Zh}{base:Heap}{k:Nat}{f:Zk}{name qual:Str}{params:Arguments}{body:List Stmt}{scope:Zu}{dV kV doc pm cdv ct oc:Zh}{an od:Option Zk}
 {osl:Array (Option Zh)} {N ps:List Str} {sp:Sp} (lk:K.lookup f=some ⟨oc,od,.func (PySem.W.fnOf name qual params body scope dV kV doc pm an cdv ct),osl⟩) (hcd:PySem.W.codeIn K cdv qual=true) (S:FnScope N ps scope)
 (len:∀ vs H Q E,sp vs H Q E->vs.length=ps.length)
 (hbody:∀(A:Zx) (outer:List Env) (s:Zj) (H:Hp) (vs:List V) (Q:VK) (E:XK),Room k (A.deeper (envOfC qual scope s.heap.objs.size f cdv))->sp vs H Q E->
   ∃ t,PSs (IA CX P w K mg base N qual scope f cdv A outer s H E) body t/\t {nx:=λ_ H'=>Q .non H',rt:=Q} (start N vs) H):
 FnOk P w K mg base CX (k+1) f (PySem.W.fnOf name qual params body scope dV kV doc pm an cdv ct) ps sp:=by
 refine⟨len,λA outer s H args us vs Q E hr e0 hb r hsp=>?_⟩;have hl:=len _ _ _ _ hsp;have KX:K.In s.heap:=e0.mod.kin.keeps λb o e=>(e0.bs b o e).1;have lim:s.heap.NoLimit:=e0.mod.nolimit.keeps λb o e=>(e0.bs b o e).1
 have hkind:∀ y∈ps.zip us,scope.names.lookup y.1=some .local\/(scope.names.lookup y.1=some .cell/\((A0a (s.heap.objs.size+1) scope.names []).lookup y.1).isSome=true):=λ⟨n,v⟩ hy=>by
  rcases S.par n (Xv hy).1 with q | q
  ·exact .inl q
  ·exact .inr ⟨q,PySem.W.cellsFrom_some _ _ _ (.inl q)⟩
 refine codeAny_call_function hr.depth (KX _ _ lk) rfl S.co S.gen rfl (PySem.W.codeRec_of KX hcd) (hb _ _ _ _ ?_);refine wpAny_newFunctionEnv_cells S.kind hkind λenv he s1 x=>?_;subst he;refine⟨lim.keeps x.toInCall.keep,codeAny_func ?_⟩;obtain⟨t,ht,hq⟩:=hbody A outer s H vs Q E (hr.deeper _) hsp;have I:Inv (IA CX P w K mg base N qual scope f cdv A outer s H E) [] (start N vs) H s1:=Kg S hr.hd e0 hl r x;refine A02 (ht [] s1 (start N vs) H _ I hq) (λfl s' hs=>?_) λe s' hs=>hs
 have fin:∀{σ':St} {H':Hp} {v:V} {u:Zh},Inv (IA CX P w K mg base N qual scope f cdv A outer s H E) [] σ' H' s'->RelV v u->Q v H'->CE outer P w H s Q u s':=
  λ{σ' H' v u} J rv q=>⟨v,H',J.os,J.bare,J.base,J.hok,rv,q⟩
 cases fl with
 | ret u=>
   obtain⟨v,σ',H',J,rv,q⟩:=hs;exact fin J rv q
 | next=>
   obtain⟨σ',H',J,q⟩:=hs;exact fin (v:=V.non) (u:=Value.none) J rfl q
 | brk=>
   obtain⟨_,_,_,q⟩:=hs;exact False.elim q
 | cont=>
   obtain⟨_,_,_,q⟩:=hs;exact False.elim q
section
variable{X:Cx}{x:Str}{p pos:Pos}{e:Expr}{es:List Expr}{t:TA}{id T:String}{r:List V->Hp->VK->Prop}
def tCB(r:List V->Hp->VK->Prop)(t:TA):TE:=λσ H Q=>t σ H λvs H1=>r vs H1 Q
theorem Af(hc:CallR X (.builtin id) r)(hg:Gl X x)(hm:X.mg x=none)(hv:Zs x=some (.builtin id))(ha:PA X (e::es) t)(hn:x≠"__name__":=by decide)(hdb:(x == ("__debug__":Str))=false:=by decide)
 (he:Zp (e::es) X.env=(false,eval e X.env)::Zp es X.env:=by rfl) (hpl:(backTo pos (Zp es X.env)).any (·.1)=false:=by rfl):PE X (.Call (.Name x p) (e::es) [] pos) (tCB r t):=by
 intro pq s σ H Q I h;refine A04 (B5 I hg hm hv ?_ hn hdb);exact PyProof.Rows.callWith_builtin1 (thn (ha pos pq s σ H _ I h) λus s1 ⟨vs,H1,I1,r1,q1⟩=>hc pq s1 σ H1 vs us Q I1 r1 q1) he hpl
theorem Av(hc:CallR X (.type T) r)(hg:Gl X x)(hm:X.mg x=none)(hv:Zs x=some (.type T))(ha:PA X (e::es) t)(hn:x≠"__name__":=by decide)(hdb:(x == ("__debug__":Str))=false:=by decide)
 (he:Zp (e::es) X.env=(false,eval e X.env)::Zp es X.env:=by rfl) (hpl:(backTo pos (Zp es X.env)).any (·.1)=false:=by rfl):PE X (.Call (.Name x p) (e::es) [] pos) (tCB r t):=by
 intro pq s σ H Q I h;refine A04 (B5 I hg hm hv ?_ hn hdb);exact PyProof.Rows.callWith_type1 (thn (ha pos pq s σ H _ I h) λus s1 ⟨vs,H1,I1,r1,q1⟩=>hc pq s1 σ H1 vs us Q I1 r1 q1) he hpl
end
end L2
namespace HT
open PySem PyProof.Rows
section
variable{prog:Zo}{w:Zq}{A:Zx}{E:Zh->Zj->Prop}{s:Zj}
noncomputable def sIx(n d:Nat):Option Int->Nat
 | none=>d
 | some v=>if v<0 then (v+(n:Int)).toNat else min v.toNat n
theorem sIx_none(n d:Nat):sIx n d none=d:=rfl
theorem sIx_nat(n d k:Nat):sIx n d (some (k:Int))=min k n:=by
 show(if (k:Int)<0 then ((k:Int)+(n:Int)).toNat else min (k:Int).toNat n)=min k n;rw[iG (by omega),Xf]
theorem ST(n d:Nat)(hd:d<=n)(o:Option Int):sIx n d o<=n:=by
 cases o with
 | none=>exact hd
 | some v=>
   show(if v<0 then (v+(n:Int)).toNat else min v.toNat n)<=n;by_cases hv:v<0
   ·rw[iP hv];omega
   ·rw[iG hv];exact Nat.min_le_right _ _
theorem JQ(v:Int)(n d:Nat):(if v<0 then max (v+(n:Int)) 0 else min v (n:Int))=((sIx n d (some v):Nat):Int):=by
 show(if v<0 then max (v+(n:Int)) 0 else min v (n:Int))=(((if v<0 then (v+(n:Int)).toNat else min v.toNat n):Nat):Int)
 by_cases hv:v<0
 ·simp only[iP hv];omega
 ·simp only[iG hv];omega
theorem IB(lo hi:Option Int)(n:Nat):Builtin.Slice.sliceAdjust lo hi 1 (n:Int)=(((sIx n 0 lo:Nat):Int),((sIx n n hi:Nat):Int)):=by
 have h1:¬ ((1:Int)<0):=by omega
 unfold Builtin.Slice.sliceAdjust;simp only[h1,if_false];refine Prod.ext ?_ ?_
 ·cases lo with
  | none=>rfl
  | some v=>exact JQ v n 0
 ·cases hi with
  | none=>rfl
  | some v=>exact JQ v n n
theorem IC(i j:Nat):Builtin.Slice.slicePlaces (i:Int) (j:Int) 1=j - i:=by
 unfold Builtin.Slice.slicePlaces;have h1:(1:Int)>0:=by omega
 simp only[h1,if_true,Int.ediv_one];split<;>omega
theorem Dh{v:Zh}{o:Option Int}{Q:Option Int->Zj->Prop}(p:IsPart v o)(h:Q o s):Zl (Zm prog w) A (Builtin.Slice.slicePartIndex v) Q E s:=by
 cases p with
 | none=>exact A1N h
 | int i t=>exact slicePart_int h
theorem BO{sl:Zk}{vl vu:Zh}{lo hi:Option Int}{n:Nat}{Q:Int×Int×Nat->Zj->Prop}(hs:s.heap.IsSliceOf sl vl vu .none)(pl:IsPart vl lo)(pu:IsPart vu hi)
 (h:Q (((sIx n 0 lo:Nat):Int),1,sIx n n hi - sIx n 0 lo) s):Zl (Zm prog w) A (Builtin.Slice.sliceApplied (.ref sl) (pure (n:Int))) Q E s:=by
 obtain⟨os,hos,hcs,hds⟩:=id hs;unfold Builtin.Slice.sliceApplied Builtin.Slice.sliceFields;refine Zg (Zg (A0y hos hds (x:=vl) rfl (Zg (A0y hos hds (x:=vu) rfl (Zg (A0y hos hds (x := .none) rfl (Zi ?_)))))));refine Zg (A1N ?_);show Zl _ _ (if ((1:Int) == 0)=true then _ else _) _ _ s;rw[iG (by decide)];refine Zg (Dh pl (Zg (Dh pu (Zg (Zi ?_)))));show Zl _ _ (match Builtin.Slice.sliceAdjust lo hi 1 (n:Int) with | (lo,hi)=>pure (lo,(1:Int),Builtin.Slice.slicePlaces lo hi 1)) _ _ s;rw[IB lo hi n];show Zl _ _ (pure (((sIx n 0 lo:Nat):Int),(1:Int),Builtin.Slice.slicePlaces ((sIx n 0 lo:Nat):Int) ((sIx n n hi:Nat):Int) 1)) _ _ s;rw[IC];exact Zi h
theorem MO(xs:Array Zh)(i k:Nat):((WN k).filterMap λ(m:Nat)=>xs[((i:Int)+(m:Int) * 1).toNat]?).toArray=((xs.toList.drop i).take k).toArray:=by
 have e:(λ(m:Nat)=>xs[((i:Int)+(m:Int) * 1).toNat]?)=λm=>xs[i+m]?:=by
  funext m
  have:((i:Int)+(m:Int) * 1).toNat=i+m:=by omega
  rw[this]
 rw[e];have:=pick_run xs i k;rw[List.filterMap_map]at this;have e2:((λx=>xs[x]?)∘λx=>i+x)=λm=>xs[i+m]?:=rfl;rw[e2]at this;rw[this]
theorem getItem_tuple_cut{t sl:Zk}{items:Array Zh}{vl vu:Zh}{lo hi:Option Int}{Q:Zh->Zj->Prop}(ht:IsTup s.heap t items)(hs:s.heap.IsSliceOf sl vl vu .none)(pl:IsPart vl lo)(pu:IsPart vu hi)
 (hw:¬ (sIx items.size 0 lo=0/\sIx items.size items.size hi=items.size))
 (h:Q (.ref s.heap.objs.size) {s with heap:=s.heap.push {cls := .type "tuple",data := .seq ((items.toList.drop (sIx items.size 0 lo)).take (sIx items.size items.size hi - sIx items.size 0 lo)).toArray}})
 (hsz:items.size<=Zn):Zl (Zm prog w) A (getItem (.ref t) (.ref sl)) Q E s:=by
 have htake:sizeOk (.seq ((items.toList.drop (sIx items.size 0 lo)).take (sIx items.size items.size hi - sIx items.size 0 lo)).toArray):=by
  show((items.toList.drop (sIx items.size 0 lo)).take (sIx items.size items.size hi - sIx items.size 0 lo)).toArray.size<=Zn;rw[WG,Wp,XD,XG];omega
 have hj:sIx items.size items.size hi<=items.size:=ST _ _ (WJ _) hi;obtain⟨os,hos,hcs,hds⟩:=id hs;have hTs:s.TypeIs (.ref sl) "slice":=⟨os,hos,hcs⟩
 unfold getItem
 try with_reducible refine Zz ?_
 first | refine Zg (Zi ?_) | skip
 refine Zg (A1t ht.typeIs (by decide) ?_)
 refine Zg (A05 (name:=Str.ofString "__getitem__") ht.typeIs PyProof.Rows.slot_tuple_getitem
  (A03 PyProof.Rows.slot_tuple_getitem ht.typeIs A1l ?_ (A1p _ _)))
 show Zl _ _ (Builtin.Tuple.tupleItemsOf (.ref t) >>= _) _ _ s;refine Zg (tupleItemsOf_ ht ?_);refine Zg (A0M hTs ?_);rw[iP (by decide)];refine Zg (BO hs pl pu ?_)
 have hno:¬ ((((sIx items.size 0 lo:Nat):Int) == 0&&(1:Int) == 1&&(sIx items.size items.size hi - sIx items.size 0 lo) == items.size)=true):=by
  intro q;rw[W6,W6]at q;have q1:((sIx items.size 0 lo:Nat):Int)=0:=eq_of_beq q.1.1;have q2:sIx items.size items.size hi - sIx items.size 0 lo=items.size:=eq_of_beq q.2;exact hw ⟨by omega,by omega⟩
 show Zl _ _ (if (((sIx items.size 0 lo:Nat):Int) == 0&&(1:Int) == 1&&(sIx items.size items.size hi - sIx items.size 0 lo) == items.size)=true then _ else _) _ _ s;rw[iG hno,MO]
 first
  | exact Zg (m:=Builtin.Tuple.tupleExact _) (Zt (Zi ⟨_,rfl,Zi h⟩) htake)
  | exact Zg (m:=Builtin.Tuple.tupleExact _) (Zt (Zg (Zi (Zi ⟨_,rfl,Zi h⟩))) htake)
  | exact Zg (Zg (m:=Builtin.Tuple.tupleExact _) (Zt (Zi (Zi ⟨_,rfl,Zi h⟩)) htake))
  | exact Zg (Zg (m:=Builtin.Tuple.tupleExact _) (Zt (Zi ⟨_,rfl,Zi h⟩) htake))
end
end HT
namespace L2
open PySem PySem.Spec PyProof.Rows
abbrev TO:=St->Hp->(Option Int->Hp->Prop)->Prop
noncomputable def PO(X:Cx)(e:Option Expr)(t:TO):Prop:=
 ∀(pq:List (Zk×Obj)) (s:Zj) (σ:St) (H:Hp) (Q:Option Int->Hp->Prop),Inv X pq σ H s->t σ H Q->
  Zl (Zm X.prog X.w) X.A (evalPart e X.env) (λu s'=>∃ o H',Inv X pq σ H' s'/\IsPart u o/\Q o H') X.xe s
def Ox:TO:=λ_ H Q=>Q none H
def US(t:TE):TO:=λσ H Q=>t σ H λx H1=>∃ i,x = .int i/\Q (some i) H1
section
variable{X:Cx}{e:Expr}{te:TE}{lo hi:Option Expr}{tl th:TO}{pos p2:Pos}
theorem Oy:PO X none Ox:=by
 intro pq s σ H Q I h;rw[A1m];exact Zi ⟨none,H,I,.none,h⟩
theorem JR(h:PE X e te):PO X (some e) (US te):=by
 intro pq s σ H Q I hw;rw[evalPart_some];refine thn (h pq s σ H _ I hw) λu s1 ⟨x,H1,I1,r1,q1⟩=>?_;obtain⟨i,rfl,q⟩:=q1;obtain⟨t,rfl⟩:=r1;exact⟨some i,H1,I1,.int i t,q⟩
noncomputable def SlR(X:Cx)(r:V->Option Int->Option Int->Hp->VK->Prop):Prop:=
 ∀(pq:List (Zk×Obj)) (s:Zj) (σ:St) (H:Hp) (x:V) (v vl vu:Zh) (lo hi:Option Int) (sl:Zk) (Q:VK),Inv X pq σ H s->RelV x v->s.heap.IsSliceOf sl vl vu .none->IsPart vl lo->IsPart vu hi->r x lo hi H Q->
  ∃ T id,A1O (.type T) "__getitem__"=pure (some (.builtin id))/\s.TypeIs v T/\Zl (Zm X.prog X.w) X.A (getItem v (.ref sl)) (EP X pq σ Q) X.xe s
theorem SlR.or{r r':V->Option Int->Option Int->Hp->VK->Prop}(h:SlR X r)(h':SlR X r'):SlR X (λx lo hi H Q=>r x lo hi H Q\/r' x lo hi H Q):=by
 intro pq s σ H x v vl vu lo hi sl Q I rx hs pl pu q;rcases q with q | q
 ·exact h pq s σ H x v vl vu lo hi sl Q I rx hs pl pu q
 ·exact h' pq s σ H x v vl vu lo hi sl Q I rx hs pl pu q
noncomputable def tSl(r:V->Option Int->Option Int->Hp->VK->Prop)(te:TE)(tl th:TO):TE:=λσ H Q=>te σ H λx H1=>tl σ H1 λl H2=>th σ H2 λu H3=>r x l u H3 Q
theorem MP{r:V->Option Int->Option Int->Hp->VK->Prop}(hr:SlR X r)(he:PE X e te)(hl:PO X lo tl)(hu:PO X hi th):PE X (.Subscript e (.Slice lo hi none p2) pos) (tSl r te tl th):=by
 intro pq s σ H Q I h;refine A1q (thn (he pq s σ H _ I h) λv s1 ⟨x,H1,I1,r1,q1⟩=>?_);refine wpAny_Slice (thn (hl pq s1 σ H1 _ I1 q1) λvl s2 ⟨l,H2,I2,pl,q2⟩=>thn (hu pq s2 σ H2 _ I2 q2) λvu s3 ⟨u,H3,I3,pu,q3⟩=>?_);rw[A1m];refine Zi ?_;have I4:Inv X pq σ H3 {s3 with heap:=s3.heap.push {cls := .type "slice",data := .fields #[vl,vu,.none]}}:=I3.kept (t':=s3.toks) λb ob q=>WD _ q;obtain⟨T,id,hT,ht,hg⟩:=hr pq {s3 with heap:=s3.heap.push {cls := .type "slice",data := .fields #[vl,vu,.none]}} σ H3 x v vl vu l u s3.heap.objs.size Q I4 r1 (ZK.new ..) pl pu q3;show Zl (Zm X.prog X.w) X.A (A0U e (.Slice lo hi none p2) v (.ref s3.heap.objs.size)) (EP X pq σ Q) X.xe {s3 with heap:=s3.heap.push {cls := .type "slice",data := .fields #[vl,vu,.none]}};exact tail_any (ops:=[.ref s3.heap.objs.size,v]) ht hT hg (by with_unfolding_all rfl)
noncomputable def Fz(xs:List V)(lo hi:Option Int):List V:=(xs.drop (HT.sIx xs.length 0 lo)).take (HT.sIx xs.length xs.length hi - HT.sIx xs.length 0 lo)
theorem DH(xs:List V)(lo hi:Option Int):(Fz xs lo hi).length<=xs.length:=by
 unfold Fz;rw[Wp,XD];omega
noncomputable def UT(K:W5):V->Option Int->Option Int->Hp->VK->Prop:=λx lo hi H Q=>∃ a xs,x = .ref a/\SqT K H a xs/\
 ¬ (HT.sIx xs.length 0 lo=0/\HT.sIx xs.length xs.length hi=xs.length)/\∀ p,H p=none->Q (.ref p) (upd H p (.tup (Fz xs lo hi)))
theorem sl_tup:SlR X (UT X.K):=by
 intro pq s σ H x v vl vu lo hi sl Q I rx hs pl pu h;obtain⟨a,xs,rfl,hx,hw,q⟩:=h;cases rx;obtain⟨its,r,ht,hz⟩:=I.tuple hx;have hlen:its.toArray.size=xs.length:=by rw[WG];exact r.length.symm
 refine⟨"tuple",_,PyProof.Rows.slot_tuple_getitem.lookup,ht.typeIs,?_⟩;refine HT.getItem_tuple_cut ht hs pl pu (by rw[hlen];exact hw) ?_ (by rw[hlen];exact hz);rw[hlen];refine⟨.ref s.heap.objs.size,_,I.laid (t':=s.toks) (o := .tup (Fz xs lo hi)) (λb ob q=>WD _ q) (WJ _) ?_,rfl,q _ (I.hok.fresh (WJ _))⟩;exact⟨Ws (DH xs lo hi) hz,_,(r.drop (HT.sIx xs.length 0 lo)).take (HT.sIx xs.length xs.length hi - HT.sIx xs.length 0 lo),IsTup.new _ _⟩
end
noncomputable def ixN(n:Nat)(i:Int):Option Nat:=if 0<=i then (if i<n then some i.toNat else none) else if -(n:Int)<=i then some (i+n).toNat else none
noncomputable def atI{α:Type}(xs:List α)(i:Int):Option α:=(ixN xs.length i).bind λj=>xs[j]?
theorem JS{n:Nat}{i:Int}{j:Nat}(h:ixN n i=some j):A1V i n=some j/\j<n /\ -(n:Int)<=i/\i<n:=by
 unfold ixN at h;by_cases h0:0<=i
 ·rw[iP h0]at h;by_cases h1:i<n
  ·rw[iP h1]at h;have e:i.toNat=j:=oj h;exact⟨by rw[A1D h0 h1,e],by omega,by omega,h1⟩
  ·rw[iG h1]at h;cases h
 ·rw[iG h0]at h;by_cases h1:-(n:Int)<=i
  ·rw[iP h1]at h;have e:(i+n).toNat=j:=oj h;exact⟨by rw[A1u (by omega) h1,e],by omega,h1,by omega⟩
  ·rw[iG h1]at h;cases h
theorem JT{α:Type}{xs:List α}{i:Int}{v:α}(h:atI xs i=some v):∃ j,A1V i xs.length=some j/\xs[j]?=some v/\j<xs.length /\ -(xs.length:Int)<=i/\i<xs.length:=by
 unfold atI at h;cases e:ixN xs.length i with
 | none=>rw[e]at h;cases h
 | some j=>
   rw[e]at h;obtain⟨h1,h2,h3,h4⟩:=JS e;exact⟨j,h1,h,h2,h3,h4⟩
theorem i5{α:Type}{xs:List α}{j:Nat}{v:α}(h:xs[j]?=some v):atI xs (j:Int)=some v:=by
 have hj:j<xs.length:=(gM h).1
 have e:ixN xs.length (j:Int)=some j:=by
  unfold ixN;rw[iP (by omega),iP (by omega)];simp
 unfold atI;rw[e];exact h
def JU(b:Expr):Prop:=∀ o i,A1e b false o i=operate [o,i] (getItem o i)
noncomputable def IxR(X:Cx)(r:R2):Prop:=
 ∀(value slice:Expr) (pq:List (Zk×Obj)) (s:Zj) (σ:St) (H:Hp) (x y:V) (v u:Zh) (Q:VK),Inv X pq σ H s->RelV x v->RelV y u->r x y H Q->
  A1e slice false v u=operate [v,u] (getItem v u)->Zl (Zm X.prog X.w) X.A (A0U value slice v u) (EP X pq σ Q) X.xe s
noncomputable def MtR(X:Cx)(id:String)(r:V->List V->Hp->VK->Prop):Prop:=
 ∀(pq:List (Zk×Obj)) (s:Zj) (σ:St) (H:Hp) (x:V) (xs:List V) (v:Zh) (us:List Zh) (Q:VK),Inv X pq σ H s->RelV x v->Vals xs us->r x xs H Q->
  Zl (Zm X.prog X.w) X.A (call (.builtin id) (v::us)) (EP X pq σ Q) X.xe s
section
variable{X:Cx}{a b:Expr}{ta tb:TE}{pos:Pos}
theorem IxR.or{r r':R2}(h:IxR X r)(h':IxR X r'):IxR X (λx y H Q=>r x y H Q\/r' x y H Q):=by
 intro value slice pq s σ H x y v u Q I rx ry q hs;rcases q with q | q
 ·exact h value slice pq s σ H x y v u Q I rx ry q hs
 ·exact h' value slice pq s σ H x y v u Q I rx ry q hs
theorem UU{r:R2}(hr:IxR X r)(ha:PE X a ta)(hb:PE X b tb)(hs:JU b):PE X (.Subscript a b pos) (tOp r ta tb):=by
 intro pq s σ H Q I h;exact A1q (SF ha hb I h λv u s2 x y H2 I2 rx ry q=>hr a b pq s2 σ H2 x y v u Q I2 rx ry q (hs _ _))
noncomputable def UV(K:W5):R2:=λx y H Q=>∃ p xs i v,x = .ref p/\y = .int i/\SqL K H p xs/\atI xs i=some v/\Q v H
noncomputable def UW(K:W5):R2:=λx y H Q=>∃ p xs i v,x = .ref p/\y = .int i/\SqT K H p xs/\atI xs i=some v/\Q v H
theorem ix_list:IxR X (UV X.K):=by
 intro value slice pq s σ H x y v u Q I rx ry h hs;obtain⟨p,xs,i,z,rfl,rfl,hq,he,q⟩:=h;cases rx;obtain⟨t,rfl⟩:=ry;obtain⟨its,r,pl,hz⟩:=I.list hq;obtain⟨j,h1,h2,h3,h4,h5⟩:=JT he;obtain⟨w,ew,rw'⟩:=r.get h2;have hl:=r.length;have hn:=Cz;have fin:EP X pq σ Q w s:=⟨z,H,I,rw',q⟩
 by_cases h0:0<=i
 ·have hj:i.toNat=j:=by
   rw[A1D h0 h5]at h1;exact oj h1
  exact item_listR pl.isList h0 (by omega) (by rw[hj];simpa using ew) fin hs
 ·have hj:(i+(its.toArray.size:Int)).toNat=j:=by
   rw[A1u (by omega) h4]at h1;rw[WG,<-hl];exact oj h1
  exact A12 (x:=w) pl.isList.typeIs slot_list_getitem.lookup
   (wpAny_getItem_list_neg (Q:=λr s'=>r=w/\EP X pq σ Q r s') pl.isList (by omega) (by rw[WG]<;>omega) (by omega) (by rw[hj];simpa using ew) ⟨rfl,fin⟩) hs
theorem SU:IxR X (UW X.K):=by
 intro value slice pq s σ H x y v u Q I rx ry h hs;obtain⟨p,xs,i,z,rfl,rfl,hq,he,q⟩:=h;cases rx;obtain⟨t,rfl⟩:=ry;obtain⟨its,r,pl,hz⟩:=I.tuple hq;obtain⟨j,h1,h2,h3,h4,h5⟩:=JT he;obtain⟨w,ew,rw'⟩:=r.get h2;have hl:=r.length;have hn:=Cz;have fin:EP X pq σ Q w s:=⟨z,H,I,rw',q⟩
 exact A12 (x:=w) pl.typeIs slot_tuple_getitem.lookup
  (getItem_tuple (j:=j) (Q:=λr s'=>r=w/\EP X pq σ Q r s') pl (by omega) (by omega) (by rw[WG,<-hl];exact h1) (by simpa using ew) ⟨rfl,fin⟩) hs
theorem ID(its:List Zh)(n j:Nat)(u:Zh):Obj.mapSeq (·.setIfInBounds j u) {cls := .type "list",data := .seq its.toArray n}={cls := .type "list",data := .seq (its.set j u).toArray n}:=by
 simp[Obj.mapSeq]
theorem Inv.lst{pq:List (Zk×Obj)}{σ:St}{H:Hp}{s:Zj}{p:Zk}{xs:List V}(I:Inv X pq σ H s)(h:H p=some (.lst xs)):
 ∃(its:List Zh) (n:Nat),Vals xs its/\s.heap.get? p=some {cls := .type "list",data := .seq its.toArray n}/\xs.length<=Zn:=by
 obtain⟨z,its,n,r,e⟩:=I.hok p _ h;exact⟨its,n,r,e,z⟩
theorem Inv.lstUpd{pq:List (Zk×Obj)}{σ:St}{H:Hp}{s:Zj}{p:Zk}{xs ys:List V}{its its':List Zh}{n n':Nat}{f:Obj->Obj}(I:Inv X pq σ H s)(h:H p=some (.lst xs))
 (ho:s.heap.get? p=some {cls := .type "list",data := .seq its.toArray n}) (hf:f {cls := .type "list",data := .seq its.toArray n}={cls := .type "list",data := .seq its'.toArray n'}) (r:Vals ys its') (hz:ys.length<=Zn) (t:Nat):
 Inv X pq σ (upd H p (.lst ys)) {s with heap:=s.heap.update p f,toks:=t}:=by
 have e:(s.heap.update p f).get? p=some {cls := .type "list",data := .seq its'.toArray n'}:=by
  rw[XC f ho (by rw[hf]<;>rfl),hf]
 refine I.write (x:=p) (e:=p) (by rw[h];trivial) (.inl rfl) (λb u hb q=>(XQ _ _ (Ne.symm hb)).trans q) ⟨_,e⟩ ?_;exact⟨hz,its',n',r,e⟩
noncomputable def MQ:V->V->V->Hp->(Hp->Prop)->Prop:=λo i v H Q=>∃ p xs k j,o = .ref p/\i = .int k/\H p=some (.lst xs)/\ixN xs.length k=some j/\Q (upd H p (.lst (xs.set j v)))
theorem MR:UA X MQ:=by
 intro pq s σ H o i v ov iv u Q I ro ri rv h;obtain⟨p,xs,k,j,rfl,rfl,hp,hj,q⟩:=h;cases ro;obtain⟨t,rfl⟩:=ri;obtain⟨its,n,r,ho,hz⟩:=I.lst hp;obtain⟨h1,h2,h3,h4⟩:=JS hj;have hl:=r.length;have hn:=Cz
 have I':Inv X pq σ (upd H p (.lst (xs.set j v))) {s with heap:=s.heap.update p (Obj.mapSeq (·.setIfInBounds j u))}:=
  I.lstUpd hp ho (ID its n j u) (r.set rv j) (by rw[Wc];exact hz) s.toks
 by_cases h0:0<=k
 ·have hk:k.toNat=j:=by
   rw[A1D h0 h4]at h1;exact oj h1
  exact PySem.W.ki_setAt ho h0 (by omega) (by rw[WG,<-hl];exact h4) (by rw[hk];exact⟨_,I',q⟩)
 ·have hk:(k+(its.toArray.size:Int)).toNat=j:=by
   rw[A1u (by omega) h3]at h1;rw[WG,<-hl];exact oj h1
  exact PySem.W.ki_setBack ho (by omega) (by rw[WG,<-hl];exact h3) (by omega) (by rw[hk];exact⟨_,I',q⟩)
theorem FD(lo hi:Option Int)(n:Nat):(A0z lo hi none n).1=((HT.sIx n 0 lo:Nat):Int)/\(A0z lo hi none n).2.1=((HT.sIx n n hi:Nat):Int)/\(A0z lo hi none n).2.2=1:=by
 refine⟨?_,?_,rfl⟩
 ·cases lo with
  | none=>simp[A0z,HT.sIx]
  | some i=>
    simp only[A0z,HT.sIx,Yc,show(1:Int)>0 by decide,if_true];by_cases h:i<0
    ·simp only[h,if_true]<;>omega
    ·simp only[h,if_false]<;>omega
 ·cases hi with
  | none=>simp[A0z,HT.sIx]
  | some i=>
    simp only[A0z,HT.sIx,Yc,show(1:Int)>0 by decide,if_true];by_cases h:i<0
    ·simp only[h,if_true]<;>omega
    ·simp only[h,if_false]<;>omega
theorem EQ(its:List Zh)(lo hi:Option Int):slicePick its.toArray lo hi none=((its.drop (HT.sIx its.length 0 lo)).take (HT.sIx its.length its.length hi - HT.sIx its.length 0 lo)).toArray:=by
 obtain⟨h1,h2,h3⟩:=FD lo hi its.toArray.size;unfold slicePick;rw[h1,h2,h3];simp only[sliceRange_one,pick_run,WG]<;>rfl
noncomputable def UX(K:W5):V->Option Int->Option Int->Hp->VK->Prop:=λx lo hi H Q=>∃ a xs,x = .ref a/\SqL K H a xs/\∀ p,H p=none->Q (.ref p) (upd H p (.lst (Fz xs lo hi)))
theorem sl_list:SlR X (UX X.K):=by
 intro pq s σ H x v vl vu lo hi sl Q I rx hs pl pu h;obtain⟨a,xs,rfl,hx,q⟩:=h;cases rx;obtain⟨its,r,ht,hz⟩:=I.list hx;have hlen:=r.length;refine⟨"list",_,slot_list_getitem.lookup,ht.isList.typeIs,?_⟩;refine A0V ht.isList hs pl pu .none (by simp) ?_ (by rw[WG]<;>omega);rw[EQ,<-hlen];refine⟨.ref s.heap.objs.size,_,I.laid (t':=s.toks) (o := .lst (Fz xs lo hi)) (λb ob q=>WD _ q) (WJ _) ?_,rfl,q _ (I.hok.fresh (WJ _))⟩;exact⟨Ws (DH xs lo hi) hz,_,0,(r.drop (HT.sIx xs.length 0 lo)).take (HT.sIx xs.length xs.length hi - HT.sIx xs.length 0 lo),WU _ rfl⟩
noncomputable def AU:V->Bool
 | .non=>true
 | .bl _=>true
 | .int _=>true
 | .str _=>true
 | _=>false
noncomputable def eqV:V->V->Bool
 | .non,.non=>true
 | .bl a,.bl b=>a == b
 | .bl a,.int b=>(if a then 1 else 0) == b
 | .int a,.bl b=>a == (if b then 1 else 0)
 | .int a,.int b=>a == b
 | .str a,.str b=>a == b
 | _,_=>false
theorem MS{A:Zx}{s:Zj}{y x:V}{u v:Zh}(ry:RelV y u)(rx:RelV x v)(fy:AU y=true)(fx:AU x=true):SeqAt.EqAt A s u v (eqV y x):=by
 cases y with
 | non=>
   cases ry;cases x with
   | non=>cases rx;exact SeqAt.EqAt.same _
   | bl b=>cases rx;exact SeqAt.EqAt.none_bool b
   | int b=>obtain⟨t,rfl⟩:=rx;exact SeqAt.EqAt.none_int b t
   | str b=>obtain⟨t,rfl⟩:=rx;exact SeqAt.EqAt.none_str b t
   | _=>exact absurd (show false=true from fx) WK
 | bl a=>
   cases ry;cases x with
   | non=>cases rx;exact SeqAt.EqAt.bool_none a
   | bl b=>cases rx;exact SeqAt.EqAt.bool_bool a b
   | int b=>obtain⟨t,rfl⟩:=rx;exact SeqAt.EqAt.bool_int a b t
   | str b=>obtain⟨t,rfl⟩:=rx;exact SeqAt.EqAt.bool_str a b t
   | _=>exact absurd (show false=true from fx) WK
 | int a=>
   obtain⟨t',rfl⟩:=ry;cases x with
   | non=>cases rx;exact SeqAt.EqAt.int_none a t'
   | bl b=>cases rx;exact SeqAt.EqAt.int_bool a t' b
   | int b=>obtain⟨t,rfl⟩:=rx;exact SeqAt.EqAt.int_int a t' b t
   | str b=>obtain⟨t,rfl⟩:=rx;exact SeqAt.EqAt.int_str a t' b t
   | _=>exact absurd (show false=true from fx) WK
 | str a=>
   obtain⟨t',rfl⟩:=ry;cases x with
   | non=>cases rx;exact SeqAt.EqAt.str_none a t'
   | bl b=>cases rx;exact SeqAt.EqAt.str_bool a t' b
   | int b=>obtain⟨t,rfl⟩:=rx;exact SeqAt.EqAt.str_int a t' b t
   | str b=>obtain⟨t,rfl⟩:=rx;exact SeqAt.EqAt.str_str a t' b t
   | _=>exact absurd (show false=true from fx) WK
 | _=>exact absurd (show false=true from fy) WK
noncomputable def eqU(x:V)(u:Zh):Bool:=match u with
 | .none=>eqV .non x
 | .bool b=>eqV (.bl b) x
 | .int i _=>eqV (.int i) x
 | .str z _=>eqV (.str z) x
 | _=>false
theorem MU{x y:V}{u:Zh}(r:RelV y u)(f:AU y=true):eqU x u=eqV y x:=by
 cases y with
 | non=>cases r;rfl
 | bl b=>cases r;rfl
 | int i=>obtain⟨t,rfl⟩:=r;rfl
 | str z=>obtain⟨t,rfl⟩:=r;rfl
 | _=>exact absurd (show false=true from f) WK
theorem Cd{x:V}:∀{xs:List V} {us:List Zh},Vals xs us->xs.all AU=true->us.any (eqU x)=xs.any λy=>eqV y x
 | _,_,.nil,_=>rfl
 | y::xs,u::us,.cons r t,f=>by
   rw[XW,W6]at f;rw[Xe,Xe,MU r f.1,Cd t f.2]
theorem Bs{A:Zx}{s:Zj}{x:V}{v:Zh}(rx:RelV x v)(fx:AU x=true):∀{xs:List V} {us:List Zh},Vals xs us->xs.all AU=true->∀ u∈us,SeqAt.EqAt A s u v (eqU x u)
 | _,_,.nil,_=>λu hu=>by cases hu
 | y::xs,u::us,.cons r t,f=>λu' hu=>by
   rw[XW,W6]at f;rcases WV.mp hu with rfl | hu
   ·rw[MU r f.1];exact MS r rx f.1 fx
   ·exact Bs rx fx t f.2 u' hu
noncomputable def inV(x:V)(xs:List V):Bool:=xs.any λy=>eqV y x
noncomputable def rIn(K:W5)(neg:Bool):R2:=λx y H Q=>∃ p xs,y = .ref p/\(SqL K H p xs\/SqT K H p xs)/\AU x=true/\xs.all AU=true/\Q (.bl (if neg then !inV x xs else inV x xs)) H
theorem Kh:OpR X (Zw .In) (rIn X.K false):=by
 intro pq s σ H x y v u Q I rx ry h;obtain⟨p,xs,rfl,hq,fx,fs,q⟩:=h;cases ry;rcases hq with hq | hq
 ·obtain⟨its,r,pl,hz⟩:=I.list hq;refine SeqAt.in_listAt (eqU x) pl.isList (λw hw=>Bs rx fx r fs w (by simpa using hw)) ⟨.bl _,H,I,rfl,?_⟩;rw[show its.toArray.any (eqU x)=its.any (eqU x) by simp,Cd r fs];exact q
 ·obtain⟨its,r,pl,hz⟩:=I.tuple hq;refine SeqAt.in_tupleAt (eqU x) pl (λw hw=>Bs rx fx r fs w (by simpa using hw)) ⟨.bl _,H,I,rfl,?_⟩;rw[show its.toArray.any (eqU x)=its.any (eqU x) by simp,Cd r fs];exact q
theorem FF:OpR X (Zw .NotIn) (rIn X.K true):=by
 intro pq s σ H x y v u Q I rx ry h;obtain⟨p,xs,rfl,hq,fx,fs,q⟩:=h;cases ry;rcases hq with hq | hq
 ·obtain⟨its,r,pl,hz⟩:=I.list hq;refine SeqAt.notIn_listAt (eqU x) pl.isList (λw hw=>Bs rx fx r fs w (by simpa using hw)) ⟨.bl _,H,I,rfl,?_⟩;rw[show its.toArray.any (eqU x)=its.any (eqU x) by simp,Cd r fs];exact q
 ·obtain⟨its,r,pl,hz⟩:=I.tuple hq;refine SeqAt.notIn_tupleAt (eqU x) pl (λw hw=>Bs rx fx r fs w (by simpa using hw)) ⟨.bl _,H,I,rfl,?_⟩;rw[show its.toArray.any (eqU x)=its.any (eqU x) by simp,Cd r fs];exact q
theorem FG:CallR X (.builtin "len") (λxs H Q=>∃ p ys,xs=[.ref p]/\(SqL X.K H p ys\/SqT X.K H p ys)/\Q (.int ys.length) H):=by
 intro pq s σ H xs us Q I r h;obtain⟨p,ys,rfl,hq,q⟩:=h;obtain⟨u,rfl,rx⟩:=Bj r;cases rx;have hn:=Cz;rcases hq with hq | hq
 ·obtain⟨its,r',pl,hz⟩:=I.list hq;have hlen:=r'.length;exact Calls.call_len_list pl.isList (by simp only[WG]<;>omega) ⟨.int ys.length,H,I.tok _,⟨s.toks+1,by rw[WG,hlen]⟩,q⟩
 ·obtain⟨its,r',pl,hz⟩:=I.tuple hq;have hlen:=r'.length;exact len_tuple pl (by simp only[WG]<;>omega) ⟨.int ys.length,H,I.tok _,⟨s.toks+1,by rw[WG,hlen]⟩,q⟩
theorem CallR.or{f:Zh}{r r':List V->Hp->VK->Prop}(h:CallR X f r)(h':CallR X f r'):CallR X f (λxs H Q=>r xs H Q\/r' xs H Q):=by
 intro pq s σ H xs us Q I rs q;rcases q with q | q
 ·exact h pq s σ H xs us Q I rs q
 ·exact h' pq s σ H xs us Q I rs q
theorem FH:CallR X (.type "list") (λxs H Q=>∃ p ys,xs=[.ref p]/\(SqL X.K H p ys\/SqT X.K H p ys)/\∀ l,H l=none->Q (.ref l) (upd H l (.lst ys))):=by
 intro pq s σ H xs us Q I r h;obtain⟨p,ys,rfl,hq,q⟩:=h;obtain⟨u,rfl,rx⟩:=Bj r;cases rx
 have fin:∀(its:List Zh),Vals ys its->ys.length<=Zn->∀(h':Heap) (c':Nat),(∀ b o',s.heap.get? b=some o'->h'.get? b=some o')->
  h'.get? s.heap.objs.size=some {cls := .type "list",dict:=none,data := .seq its.toArray c',slots:=#[]}->EP X pq σ Q (.ref s.heap.objs.size) {s with heap:=h'}:=λits r' hz h' c' kp e=>
  ⟨.ref s.heap.objs.size,_,I.laid (t':=s.toks) kp (WJ _) (show ObjOk X.prog X.w _ h' _ (.lst ys) from ⟨hz,its,c',r',e⟩),rfl,q _ (I.hok.fresh (WJ _))⟩
 rcases hq with hq | hq
 ·obtain⟨its,r',pl,hz⟩:=I.list hq;have hlen:=r'.length;obtain⟨o,ho,hc,n,hd⟩:=pl.isList;exact call_list_seq p (.inl rfl) ho hc hd (λh' c' kp e=>fin its r' hz h' c' kp e) (by simp only[WG]<;>omega)
 ·obtain⟨its,r',pl,hz⟩:=I.tuple hq;have hlen:=r'.length;obtain⟨o,ho,hc,n,hd⟩:=pl;exact call_list_seq p (.inr rfl) ho hc hd (λh' c' kp e=>fin its r' hz h' c' kp e) (by simp only[WG]<;>omega)
theorem ER:CallR X (.type "tuple") (λxs H Q=>∃ p ys,xs=[.ref p]/\((SqL X.K H p ys/\∀ l,H l=none->Q (.ref l) (upd H l (.tup ys)))\/(SqT X.K H p ys/\Q (.ref p) H))):=by
 intro pq s σ H xs us Q I r h;obtain⟨p,ys,rfl,h⟩:=h;obtain⟨u,rfl,rx⟩:=Bj r;cases rx;rcases h with⟨hq,q⟩ | ⟨hq,q⟩
 ·obtain⟨its,r',pl,hz⟩:=I.list hq;have hlen:=r'.length;refine call_tuple_list pl.isList (λh' kp=>?_) (by simp only[WG]<;>omega);have I1:Inv X pq σ H {s with heap:=h'}:=I.kept (t':=s.toks) kp
  have I2:Inv X pq σ (upd H h'.objs.size (.tup ys)) {s with heap:=h'.push {cls := .type "tuple",data := .seq its.toArray}}:=
   I1.laid (t':=s.toks) (λb o e=>WD _ e) (WJ _) (show ObjOk X.prog X.w _ _ _ (.tup ys) from ⟨hz,its,r',IsTup.new _ _⟩)
  exact⟨.ref h'.objs.size,_,I2,rfl,q _ (I1.hok.fresh (WJ _))⟩
 ·obtain⟨its,r',pl,hz⟩:=I.tuple hq;exact call_tuple_same pl ⟨.ref p,H,I,rfl,q⟩
noncomputable def tyV(K:W5)(T:String)(x:V)(H:Hp):Prop:=match x with
 | .str _=>T="str"
 | .int _=>T="int"
 | .ref p=>(T="list"/\∃ xs,SqL K H p xs)\/(T="tuple"/\∃ o,K.lookup p=some o/\o.cls = .type "tuple"/\o.dict=none)\/
    (T="dict"/\((∃ kvs,H p=some (.dK kvs))\/∃ kvs,H p=some (.dT kvs)))\/(T="set"/\∃ S n,H p=some (.set S n))
 | _=>False
theorem MV{pq:List (Zk×Obj)}{σ:St}{H:Hp}{s:Zj}{T:String}{x:V}{v:Zh}(I:Inv X pq σ H s)(r:RelV x v)(ty:tyV X.K T x H):
 s.TypeIs v T/\∀ a,v = .ref a->∃ ob,s.heap.get? a=some ob/\ob.dict=none:=by
 cases x with
 | str z=>
   obtain⟨t,rfl⟩:=r;cases(show T="str" from ty);exact⟨typeIs_str s z t,λ_ e=>nomatch e⟩
 | int i=>
   obtain⟨t,rfl⟩:=r;cases(show T="int" from ty);exact⟨A1P s i t,λ_ e=>nomatch e⟩
 | ref p=>
   cases r;rcases ty with⟨rfl,xs,hq⟩ | ⟨rfl,o,hk,hc,hd⟩ | ⟨rfl,hk⟩ | ⟨rfl,S,n,hk⟩
   ·obtain⟨its,_,pl,_⟩:=I.list hq;refine⟨pl.isList.typeIs,λa e=>?_⟩;cases e;obtain⟨o,n,e,c,hd,_⟩:=pl;exact⟨o,e,hd⟩
   ·refine⟨⟨o,I.kIn p o hk,hc⟩,λa e=>?_⟩;cases e;exact⟨o,I.kIn _ o hk,hd⟩
   ·have z:∃ o,s.heap.get? p=some o/\o.ExactDict:=by
     rcases hk with⟨kvs,hk⟩ | ⟨kvs,hk⟩
     ·obtain⟨_,_,_,_,o,_,_,e,ex,_⟩:=I.hok p _ hk;exact⟨o,e,ex⟩
     ·obtain⟨_,_,_,_,o,_,_,e,ex,_⟩:=I.hok p _ hk;exact⟨o,e,ex⟩
    obtain⟨o,e,ex⟩:=z;refine⟨⟨o,e,ex.1⟩,λa e2=>?_⟩;cases e2;exact⟨o,e,ex.2.1⟩
   ·obtain⟨o,_,_,_,e,ex,_⟩:=I.hok p _ hk;refine⟨⟨o,e,ex.1⟩,λa e2=>?_⟩;cases e2;exact⟨o,e,ex.2.1⟩
 | _=>exact False.elim ty
noncomputable def SW(K:W5)(T:String)(r:V->List V->Hp->VK->Prop)(to:TE):TE:=λσ H Q=>to σ H λx H1=>tyV K T x H1/\r x [] H1 Q
noncomputable def tBM(K:W5)(T:String)(r:V->List V->Hp->VK->Prop)(to:TE)(t:TA):TE:=λσ H Q=>to σ H λx H1=>tyV K T x H1/\t σ H1 λxs H2=>r x xs H2 Q
variable{o e:Expr}{es:List Expr}{to:TE}{t:TA}{name:Str}{apos cpos:Pos}{T id:String}{r:V->List V->Hp->VK->Prop}
theorem Di(pa:PlainAttrs T)(slot:Slot T name id)(hty:typeOf (.builtin id)=pure (.type "method_descriptor"))(hm:MtR X id r)(ho:PE X o to)
 (hbase:A0W o name X.env (eval o X.env)=eval o X.env:=by rfl) (hline:(apos.endLine == cpos.line)=true:=by rfl):PE X (.Call (.Attribute o name apos) [] [] cpos) (SW X.K T r to):=by
 intro pq s σ H Q I h;refine wpAny_Call_method0_late hbase hline (thn (ho pq s σ H _ I h) λv s1 ⟨x,H1,I1,r1,ty,q1⟩=>?_);obtain⟨h1,h2⟩:=MV I1 r1 ty;exact⟨T,id,pa,slot,hty,h1,h2,Calls.callWith_builtin rfl (PySem.evalArgs_none (hm pq s1 σ H1 x [] v [] Q I1 r1 .nil q1))⟩
theorem GA(pa:PlainAttrs T)(slot:Slot T name id)(hty:typeOf (.builtin id)=pure (.type "method_descriptor"))(hm:MtR X id r)(ho:PE X o to)(ha:PA X (e::es) t)
 (hbase:A0W o name X.env (eval o X.env)=eval o X.env:=by rfl)
 (hfew:((backTo cpos (Zp (e::es) X.env)).all (λx=>!x.1)&&(backToKw cpos (keywordEach [] X.env)).all (λx=>x.1.isSome)
   && decide ((e::es).length+([]:List Keyword).length+(if ([]:List Keyword).isEmpty then 0 else 1)<30))=true:=by rfl)
 (hline:(apos.endLine == cpos.line)=true:=by rfl) (hs:Zp (e::es) X.env=(false,eval e X.env)::Zp es X.env:=by rfl) (hplain:(backTo cpos (Zp es X.env)).any (·.1)=false:=by rfl):
 PE X (.Call (.Attribute o name apos) (e::es) [] cpos) (tBM X.K T r to t):=by
 intro pq s σ H Q I h;refine wpAny_Call_method_late hbase hfew hline rfl (thn (ho pq s σ H _ I h) λv s1 ⟨x,H1,I1,r1,ty,q1⟩=>?_);obtain⟨h1,h2⟩:=MV I1 r1 ty;refine⟨T,id,pa,slot,hty,h1,h2,?_⟩;have hA:=ha cpos pq s1 σ H1 _ I1 q1;rw[hs]at hA ⊢;refine Calls.callWith_builtin (by show(false||(backTo cpos (Zp es X.env)).any (·.1))=false;rw[hplain]<;>rfl) (Calls.evalArgs_plain ?_);exact thn hA λus s2 ⟨vs,H2,I2,r2,q2⟩=>hm pq s2 σ H2 x vs v us Q I2 r1 r2 q2
end
noncomputable def MtM(X:Cx)(id:String)(r:V->List V->Hp->VK->Prop):Prop:=
 ∀(pq:List (Zk×Obj)) (s:Zj) (σ:St) (H:Hp) (x:V) (xs:List V) (v:Zh) (us:List Zh) (Q:VK),Inv X pq σ H s->RelV x v->Vals xs us->r x xs H Q->
  Zl (Zm X.prog X.w) X.A (call (.builtin id) (v::us)) (EP X pq σ Q) X.xe s
theorem Vals.one{x:V}{us:List Zh}(h:Vals [x] us):∃ u,us=[u]/\RelV x u:=by
 cases h with
 | cons r q=>cases q;exact⟨_,rfl,r⟩
theorem Vals.two{x y:V}{us:List Zh}(h:Vals [x,y] us):∃ u v,us=[u,v]/\RelV x u/\RelV y v:=by
 cases h with
 | cons r q=>
   obtain⟨v,rfl,s⟩:=Vals.one q;exact⟨_,v,rfl,r,s⟩
theorem Vals.zero:∀{us:List Zh},Vals [] us->us=[]
 | _,.nil=>rfl
theorem Vals.dropLast{xs:List V}{us:List Zh}(h:Vals xs us):Vals xs.dropLast us.dropLast:=by
 induction h with
 | nil=>exact .nil
 | cons r t ih=>
   cases t with
   | nil=>exact .nil
   | cons q t'=>exact .cons r ih
theorem Vals.eraseIdx:∀{xs:List V} {us:List Zh} (i:Nat),Vals xs us->Vals (xs.eraseIdx i) (us.eraseIdx i)
 | _,_,_,.nil => .nil
 | _,_,0,.cons _ t=>t
 | _,_,i+1,.cons r t => .cons r (Vals.eraseIdx i t)
theorem Vals.reverse{xs:List V}{us:List Zh}(h:Vals xs us):Vals xs.reverse us.reverse:=by
 induction h with
 | nil=>exact .nil
 | cons r t ih=>rw[Xw,Xw];exact Vals.append ih (.cons r .nil)
theorem Vals.rep{xs:List V}{us:List Zh}(h:Vals xs us):∀ k:Nat,Vals (WM k xs).flatten (WM k us).flatten
 | 0 => .nil
 | k+1=>by
   rw[X0,X0,XT,XT];exact Vals.append h (Vals.rep h k)
theorem IF{α:Type}(l:List α):l.eraseIdx (l.length - 1)=l.dropLast:=by
 induction l with
 | nil=>rfl
 | cons a r ih=>
   cases r with
   | nil=>rfl
   | cons b r=>
     have e:(a::b::r).length - 1=((b::r).length - 1)+1:=by
      have h1:(a::b::r).length=r.length+2:=rfl;have h2:(b::r).length=r.length+1:=rfl;omega
     rw[e,List.eraseIdx_cons_succ,ih]
     all_goals rfl
theorem Eg{α:Type}:∀(l:List α) (i:Nat),(l.eraseIdx i).length<=l.length
 | [],_=>WJ _
 | _::_,0=>Y8 _
 | _::r,i+1=>Nat.succ_le_succ (Eg r i)
theorem Eh(its:List Zh):∀(k:Nat) (acc:List Zh),
 ZL (λx1 x2=>x1++x2) acc.toArray (WM k its.toArray)=(acc++(WM k its).flatten).toArray
 | 0,acc=>by simp
 | k+1,acc=>by
   have e:acc.toArray++its.toArray=(acc++its).toArray:=by simp
   have e2:(acc++its)++(WM k its).flatten=acc++(WM (k+1) its).flatten:=by
    rw[X0,XT,YX]
   rw[<-e2,<-Eh its k (acc++its),<-e,X0,List.foldl_cons]
section
variable{X:Cx}{pq:List (Zk×Obj)}{σ:St}{H:Hp}{s:Zj}{l b:Zk}{xs ys zs:List V}
theorem Inv.lset{its its':List Zh}{n:Nat}{f:Array Zh->Array Zh}{t':Nat}(I:Inv X pq σ H s)(hH:H l=some (.lst xs))
 (e:s.heap.get? l=some {cls := .type "list",data := .seq its.toArray n}) (hf:f its.toArray=its'.toArray) (hv:Vals ys its') (hz:ys.length<=Zn):
 Inv X pq σ (upd H l (.lst ys)) {s with heap:=s.heap.update l (Obj.mapSeq f),toks:=t'}:=by
 have q:=PySem.IsL.update e f;rw[hf]at q;refine I.write (x:=l) (e:=l) (by rw[hH];exact trivial) (.inl rfl) (λb' u hb hu=>(XQ s.heap (Obj.mapSeq f) (Ne.symm hb)).trans hu) ⟨_,q⟩ ?_;exact⟨hz,its',_,hv,q⟩
theorem Inv.lnew{its:List Zh}{t':Nat}(I:Inv X pq σ H s)(hv:Vals ys its)(hz:ys.length<=Zn):
 Inv X pq σ (upd H s.heap.objs.size (.lst ys)) {s with heap:=s.heap.push {cls := .type "list",data := .seq its.toArray},toks:=t'}:=
 I.laid (λ_ _ q=>WD _ q) (WJ _) ⟨hz,its,0,hv,WU _ rfl⟩
theorem Inv.fresh(I:Inv X pq σ H s):H s.heap.objs.size=none:=I.hok.fresh (WJ _)
theorem Inv.lstM(I:Inv X pq σ H s)(hH:H l=some (.lst xs)):xs.length<=Zn/\∃(its:List Zh) (n:Nat),Vals xs its/\xs.length=its.length/\s.heap.get? l=some {cls := .type "list",data := .seq its.toArray n}:=by
 obtain⟨z,its,n,r,e⟩:=I.hok l _ hH;exact⟨z,its,n,r,r.length,e⟩
theorem Dj{n:Nat}(h:n<=Zn):Builtin.List.listTooLong n=false:=by
 unfold Builtin.List.listTooLong;exact decide_eq_false (by omega)
end
section
variable{X:Cx}
noncomputable def JV:V->List V->Hp->VK->Prop:=λx vs H Q=>∃ l xs y,x = .ref l/\vs=[y]/\H l=some (.lst xs)/\xs.length<Zn/\Q .non (upd H l (.lst (xs++[y])))
theorem CC:MtM X "list.append" JV:=by
 intro pq s σ H x vs v us Q I rx rv h;obtain⟨l,xs,y,rfl,rfl,hH,hz,q⟩:=h;cases rx;obtain⟨u,rfl,ru⟩:=rv.one;obtain⟨z,its,n,r,hl,e⟩:=I.lstM hH;refine A0w F.slot_list_append ⟨_,e,rfl⟩ F.entry_list_append (F.args_list_append_2 _ _) (PySem.list_append l its.toArray n u (by rw[WG];omega)) ⟨e,?_⟩;refine⟨.non,_,I.lset (its':=its++[u]) hH e (by simp) (r.append (.cons ru .nil)) ?_,rfl,q⟩;rw[W7,Wh];omega
noncomputable def JW:V->List V->Hp->VK->Prop:=λx vs H Q=>∃ l b xs zs,x = .ref l/\vs=[.ref b]/\H l=some (.lst xs)/\H b=some (.lst zs)/\xs.length+zs.length<=Zn/\Q .non (upd H l (.lst (xs++zs)))
theorem Ei:MtM X "list.extend" JW:=by
 intro pq s σ H x vs v us Q I rx rv h;obtain⟨l,b,xs,zs,rfl,rfl,hH,hB,hz,q⟩:=h;cases rx;obtain⟨u,rfl,ru⟩:=rv.one;cases ru;obtain⟨z,its,n,r,hl,e⟩:=I.lstM hH;obtain⟨z2,its2,n2,r2,hl2,e2⟩:=I.lstM hB;have hsz:its.toArray.size+its2.toArray.size<=Zn:=by rw[WG,WG];omega
 have hlong:¬ (!its.toArray.isEmpty&&Builtin.List.listTooLong (its.toArray.size+its2.toArray.size))=true:=by
  rw[Dj hsz,ZM];exact WK
 refine A0w F.slot_list_extend ⟨_,e,rfl⟩ F.entry_list_extend (F.args_list_extend_2 _ _)
  (AutoSeq1.list_extend_list_list_0 l its.toArray n b its2.toArray n2 hlong (by rw[WG];omega) (by omega)) ⟨e,e2,?_⟩
 refine⟨.non,_,I.lset (its':=its++its2) hH e (by simp) (r.append r2) ?_,rfl,q⟩;rw[W7];omega
noncomputable def UY:V->List V->Hp->VK->Prop:=λx vs H Q=>∃ l xs y,x = .ref l/\vs=[]/\H l=some (.lst xs)/\xs[xs.length - 1]?=some y/\Q y (upd H l (.lst xs.dropLast))
theorem MW:MtM X "list.pop" UY:=by
 intro pq s σ H x vs v us Q I rx rv h;obtain⟨l,xs,y,rfl,rfl,hH,hy,q⟩:=h;cases rx;have hus:=rv.zero;subst hus;obtain⟨z,its,n,r,hl,e⟩:=I.lstM hH;obtain⟨u,hu,ru⟩:=r.get hy
 have hy':its.toArray[its.toArray.size - 1]?=some u:=by
  show its.toArray[its.length - 1]?=some u;rw[<-XI,<-hl];exact hu
 refine A0w F.slot_list_pop ⟨_,e,rfl⟩ F.entry_list_pop (F.args_list_pop_1 _) (MeetsSeq.list_pop_last l its.toArray n u hy' (by rw[WG];omega)) ⟨e,?_⟩;refine⟨y,_,I.lset (its':=its.dropLast) hH e ?_ r.dropLast ?_,ru,q⟩
 ·show its.toArray.eraseIdxIfInBounds (its.toArray.size - 1)=its.dropLast.toArray;rw[WG,YH,IF]
 ·rw[List.length_dropLast];omega
noncomputable def MX:V->List V->Hp->VK->Prop:=λx vs H Q=>∃ l xs i k y,x = .ref l/\vs=[.int i]/\H l=some (.lst xs) /\ -(2 ^ 63)<=i/\i<2 ^ 63/\A1V i xs.length=some k/\xs[k]?=some y/\Q y (upd H l (.lst (xs.eraseIdx k)))
theorem GB:MtM X "list.pop" MX:=by
 intro pq s σ H x vs v us Q I rx rv h;obtain⟨l,xs,i,k,y,rfl,rfl,hH,h1,h2,hk,hy,q⟩:=h;cases rx;obtain⟨u,rfl,ru⟩:=rv.one;obtain⟨t,rfl⟩:=ru;obtain⟨z,its,n,r,hl,e⟩:=I.lstM hH;obtain⟨w,hw,rw'⟩:=r.get hy
 refine A0w F.slot_list_pop ⟨_,e,rfl⟩ F.entry_list_pop (F.args_list_pop_2 _ _)
  (MeetsSeq.list_pop_at l its.toArray n i t k w (A1f h1 h2) (by rw[WG,<-hl];exact hk) (by rw[<-XI];exact hw) (by rw[WG];omega)) ⟨e,?_⟩
 refine⟨y,_,I.lset (its':=its.eraseIdx k) hH e ?_ (r.eraseIdx k) ?_,rw',q⟩
 ·show its.toArray.eraseIdxIfInBounds k=(its.eraseIdx k).toArray;rw[YH]
 ·have:=Eg xs k;omega
noncomputable def UZ:R2:=λx y H Q=>∃ l b xs zs,x = .ref l/\y = .ref b/\H l=some (.lst xs)/\H b=some (.lst zs)/\xs.length+zs.length<=Zn/\∀ p,H p=none->Q (.ref p) (upd H p (.lst (xs++zs)))
theorem SX:OpR X (A0r .Add) UZ:=by
 intro pq s σ H x y v u Q I rx ry h;obtain⟨l,b,xs,zs,rfl,rfl,hH,hB,hz,q⟩:=h;cases rx;cases ry;obtain⟨z,its,n,r,hl,e⟩:=I.lstM hH;obtain⟨z2,its2,n2,r2,hl2,e2⟩:=I.lstM hB;refine PySem.P.add_list e e2 ?_ (by rw[WG,WG];omega);have ea:its.toArray++its2.toArray=(its++its2).toArray:=by simp
 rw[ea];exact⟨.ref _,_,I.lnew (t':=s.toks) (r.append r2) (by rw[W7];omega),rfl,q _ I.fresh⟩
noncomputable def Ua:R2:=λx y H Q=>∃ l k xs,x = .ref l/\y = .int k/\H l=some (.lst xs) /\ -(2 ^ 63)<=k/\k<2 ^ 63/\xs.length * k.toNat<=Zn/\
 ∀ p,H p=none->Q (.ref p) (upd H p (.lst (WM k.toNat xs).flatten))
theorem Oz{α:Type}(xs:List α)(k:Nat):(WM k xs).flatten.length=k * xs.length:=by
 induction k with
 | zero=>simp
 | succ k ih=>rw[X0,XT,W7,ih,Z2,Nat.add_comm]
theorem SY:OpR X (A0r .Mult) Ua:=by
 intro pq s σ H x y v u Q I rx ry h;obtain⟨l,k,xs,rfl,rfl,hH,h1,h2,hz,q⟩:=h;cases rx;obtain⟨t,rfl⟩:=ry;obtain⟨z,its,n,r,hl,e⟩:=I.lstM hH;have hlen:its.toArray.size * k.toNat<=Zn:=by rw[WG,<-hl];exact hz
 have hcap:¬ its.toArray.size * k.toNat>(2 ^ 63 - 1) / 8:=by
  have:(Zn:Nat)<=(2 ^ 63 - 1) / 8:=by decide
  omega
 have hfit:¬ (!Builtin.List.listFitsIndex k)=true:=by
  rw[A1f h1 h2];exact WK
 have hlong:¬ Builtin.List.listTooLong (its.toArray.size * k.toNat)=true:=by
  rw[Dj hlen];exact WK
 have hnew:ZL (λx1 x2=>x1++x2) #[] (WM (if its.toArray.isEmpty=true then 0 else k.toNat) its.toArray)=(WM k.toNat its).flatten.toArray:=by
  have f0:∀ m:Nat,ZL (λx1 x2=>x1++x2) #[] (WM m its.toArray)=(WM m its).flatten.toArray:=λm=>by
   have:=Eh its m [];rw[List.nil_append]at this;exact this
  rw[f0];cases its with
  | nil=>simp
  | cons a r'=>rw[iG (by simp)]
 refine wpAny_binaryOp_repeat_ref (T:="list") (U:="int") (by decide) ⟨_,e,rfl⟩ (λs'=>A1P s' k t) noFill_list_mul F.fills_int_mul F.slot_int_rmul repeat_list F.slot_int_index.lookup
  (A0w F.slot_int_rmul (A1P s k t) F.entry_int_rmul (F.args_int_rmul_2 _ _) (int___rmul___int_list k t l its.toArray n)
    ⟨e,rfl,⟨_,e,rfl⟩,A0w F.slot_list_mul ⟨_,e,rfl⟩ F.entry_list_mul (F.args_list_mul_2 _ _) (AutoListH.list___mul___list_int_3 l its.toArray n k t hfit hcap hlong) ⟨e,?_⟩⟩)
 rw[hnew];exact⟨.ref _,_,I.lnew (t':=s.toks) (r.rep k.toNat) (by rw[Oz,Nat.mul_comm];exact hz),rfl,q _ I.fresh⟩
end
end L2
namespace Att
open PySem PySem.W PySem.Calls PyProof.Rows
theorem DQ{P:Params}{h:Heap}:∀(ns:List Int) (vs:List Zh),WellAll P h vs (ns.map WData.int)->IntsAre vs ns:=by
 intro ns
 induction ns with
 | nil=>
   intro vs w;rw[ZU]at w;cases w;exact .nil
 | cons n ns ih=>
   intro vs w;rw[Wo]at w;cases w with
   | cons a b=>
     cases a;exact .cons _ _ (ih _ b)
theorem Ki{l:OpenLaw}{n:Nat}(hn:l.most=some n){P:Params}{h:Heap}{args:List WData}{vals:List Zh}
 (hpre:l.row.toRowW.claim.pre args=true) (hwl:WellAll P h vals args):
 ∃ a vs ns,vals=[Value.ref a]/\args=[WData.list (ns.map WData.int)]/\h.get? a=some {cls := .type "list",data := .seq vs.toArray}/\IntsAre vs ns/\ns.length<=n:=by
 have hsh:WShape.hasAll [] args [.list .int]=true:=(pre_splitW hpre).1;have hc:l.pre.holds [] {args:=args}=true:=(pre_splitW hpre).2;obtain⟨d,r,rfl,h1,h2⟩:=hasAllW_cons hsh;obtain rfl:=hasAllW_nil h2;obtain⟨xs,rfl,h3⟩:=hasW_list h1;obtain⟨ns,rfl⟩:=items_int h3
 have hlen:ns.length<=n:=by
  unfold OpenLaw.pre at hc
  have h4:(WTm.not (.lt (.lit (.int (n:Int))) (.len (.arg 0)))).holds [] {args:=[.list (ns.map .int)]}=true:=by
   have h4:=(holds_andW hc).1;rw[hn]at h4;exact h4
  have h5:=condW_of h4 (w_not (w_lt w_lit (w_len_list (w_arg rfl))));rw[W8]at h5;refine Nat.le_of_not_lt λq=>?_;have q':(n:Int)<((ns.length:Nat):Int):=by omega
  first
   | (rw[decide_eq_true q']at h5;exact absurd h5 (by decide))
   | (simp at h5;omega)
 cases hwl with
 | cons w1 w2=>
   cases w2;cases w1 with
   | list ho hall=>exact⟨_,_,ns,rfl,rfl,ho,DQ ns _ hall,hlen⟩
theorem Kj(l:OpenLaw)(args:List WData):l.row.toRowW.claim.post args (.bool true) args=true:=
 postW_of (r:=l.row.toRowW) (X:=(true == true))
  (show WShape.has [] (.bool true) .bool=true by first | rfl | decide | simp[WShape.has,WShape.arms,WShape.armsAll])
  (show(WTm.eq .res (.lit (.bool true))).value [] {args:=args,res:=some (.bool true),after:=args}=some (.bool (true == true)) from w_eq_bool (w_res rfl) w_lit) rfl
theorem attach_call{l:OpenLaw}{n:Nat}{q:Zo}{loose:List Str}{XP:(Str->Option Zh)->Heap->Prop}{YP:Zq->Heap->Prop}{d:DefRec}
 (hn:l.most=some n) (hdf:d.params.defaults=[])
 (call:∀(w:Zq) (s₀ s₁:Zj) (mg mb:Str->Option Zh) (fa:Zk) (o:Obj) (pm cd doc:Zh) (a:Zk) (vs:List Zh) (ns:List Int),
   Ground q loose [] XP w s₀ mg mb s₁.heap->YP w s₁.heap->
   s₁.heap.get? fa=some o->o.data = .func (docDef d.name d.params d.body d.scope pm cd doc)->s₁.heap.CodeRec cd d.name->mg d.name=some (.ref fa)->
   s₁.heap.get? a=some {cls := .type "list",data := .seq vs.toArray}->IntsAre vs ns->ns.length<=n->s₁.gens=#[]->
   codeAny (Zm l.prog w) callerA (.call (.ref fa) ⟨[.ref a],[]⟩) (λr s'=>r = .ok (.ret (.bool true))/\OldK s₁.heap s'.heap/\s'.os=s₁.os/\AllBare s'.gens) s₁):
 WalkO q loose XP YP l.row.toRowW d [] (λf vs=>PySem.call f vs):=by
 intro w s₀ s₁ mg mb G Y fa o pm cd doc dV kV ho hd hcd hD hmg hg args vals as hpre hlay hrd hwl hlo;obtain rfl:dV = .none:=Dflts.none hD hdf;obtain rfl:kV = .none:=Dflts.noKw hD;obtain⟨a,vs,ns,rfl,rfl,hobj,hints,hlen⟩:=Ki hn hpre hwl;refine enter_call (A0i (call w s₀ s₁ mg mb fa o pm cd doc a vs ns G Y ho (fd_plain hd) hcd hmg hobj hints hlen hg) λr s' hq=>?_);obtain⟨rfl,h2,h3,h4⟩:=hq;exact⟨.inl ⟨.bool true,.bool true,[],rfl,λ_=>rfl,.bool true,Kj l _,λ_=>⟨List.Pairwise.nil,λ_ hm=>(nomatch hm)⟩⟩,h2,h3,h4⟩
end Att
namespace L2
open PySem PySem.Spec PyProof.Rows
theorem Ej:∀{vs:List Zh} {ns:List Int},IntsAre vs ns->Vals (ns.map V.int) vs
 | _,_,.nil => .nil
 | _,_,.cons n t h => .cons ⟨t,rfl⟩ (Ej h)
def P4(H:Hp):Prop:=∀ b,H b=none\/∃ o xs,H b=some (.frz o (.lst xs))
theorem MY{P:Zo}{w:Zq}{K:W5}{mg mb:Str->Option Zh}{CX:CXT}{k:Nat}{fa a:Zk}{fd:A0o}{x:Str}{sp:Sp}{s₁:Zj}{vs:List Zh}{ns:List Int}
 (KX:K.In s₁.heap) (hns:s₁.heap.Ns Zr mg) (hb:s₁.heap.Ns A1o mb) (hbb:∀ x:Str,x≠"__name__"->mb x=Zs x) (hlim:s₁.heap.NoLimit) (hg:s₁.gens=#[])
 (ha:s₁.heap.get? a=some {cls := .type "list",data := .seq vs.toArray}) (hi:IntsAre vs ns) (hl:ns.length<=Zn) (hr:Room k callerA)
 (F:∀ base:Heap,K.In base->base.Ns Zr mg->FnOk P w K mg base CX k fa fd [x] sp) (hbind:∀(s:Zj) (u:Zh),BindsTo s fd ⟨[u],[]⟩ [(x,u)])
 (hsp:∀ H:Hp,P4 H->SqL K H a (ns.map V.int)->sp [.ref a] H (λv _=>v = .bl true) λ_ _ _=>False)
 (hCX:∀ H e s',CX [] H s₁ (λ_ _ _=>False) e s'->False):
 codeAny (Zm P w) callerA (.call (.ref fa) ⟨[.ref a],[]⟩) (λr s'=>r = .ok (.ret (.bool true))/\OldK s₁.heap s'.heap/\s'.os=s₁.os/\AllBare s'.gens) s₁:=by
 have rv:=Ej hi;have lenV:=hi.length
 have core:∀ H:Hp,P4 H->SqL K H a (ns.map V.int)->HOk P w H s₁.heap->(∀ b,H b≠none->b=a)->(H a≠none->K.lookup a=none)->
  codeAny (Zm P w) callerA (.call (.ref fa) ⟨[.ref a],[]⟩) (λr s'=>r = .ok (.ret (.bool true))/\OldK s₁.heap s'.heap/\s'.os=s₁.os/\AllBare s'.gens) s₁:=by
  intro H hO hS hok hA hK;have AA:∀{b:Zk} {o:Obj},s₁.heap.get? b=some o->H b=none->(FC s₁.heap H).get? b=some o:=λe n=>M5 e n
  have noA:∀{b:Zk} {o:Obj} {es:Array A1W} {ep:Nat},s₁.heap.get? b=some o->o.data = .dict es ep->H b=none:=λ{b o es ep} e d=>by
   cases q:H b with
   | none=>rfl
   | some u=>
     have e':b=a:=hA b (by rw[q];simp);subst e';rw[ha]at e;cases e;have d':Data.seq vs.toArray _=Data.dict es ep:=d;cases d'
  have nsK:∀{b:Zk} {m:Str->Option Zh},s₁.heap.Ns b m->(FC s₁.heap H).Ns b m:=λ{b m} ⟨o,es,ep,e,d,r⟩=>⟨o,es,ep,AA e (noA e d),d,r⟩
  have hKb:K.In (FC s₁.heap H):=λb o e=>AA (KX b o e) (by
   cases q:H b with
   | none=>rfl
   | some u=>
     have e':b=a:=hA b (by rw[q];simp);subst e';rw[hK (by rw[q];simp)]at e;cases e)
  have hM:Mod K mg (FC s₁.heap H):=⟨hKb,nsK hns,⟨mb,nsK hb,hbb⟩,let ⟨mc,h1,h2⟩:=hlim;⟨mc,nsK h1,h2⟩⟩
  have e0:Env0 P w K mg (FC s₁.heap H) callerA [] s₁ H:=⟨rfl,hM,λb o e=>Og e,ZV (KU _ _),trivial,λb hb=>absurd (show b∈([]:List Zk) from hb) (by simp),hok,.of_eq hg⟩
  refine A0i ((F _ hKb (nsK hns)).run callerA [] s₁ H ⟨[.ref a],[]⟩ [.ref a] [.ref a] _ _ hr e0 (hbind s₁ (.ref a)) (.cons rfl .nil) (hsp H hO hS)) λr s' h=>?_;cases r with
  | error e=>exact(hCX H e s' h).elim
  | ok fl=>
    cases fl with
    | next=>exact False.elim h
    | brk=>exact False.elim h
    | cont=>exact False.elim h
    | ret u=>
      obtain⟨v,H',os,bare,un,hok',r',q⟩:=h;have q':v = .bl true:=q;subst q';obtain rfl:u=Value.bool true:=r';refine⟨rfl,OldK.of_keep λb o e=>?_,os,bare⟩;cases q:H b with
      | none=>exact un.keep b o e q (by intro z;exact absurd (show b∈([]:List Zk) from z) (by simp)) (by simp)
      | some u=>
        rcases hO b with z | ⟨ob,xs,z⟩
        ·rw[q]at z;cases z
        ·have z2:=un.frzs b ob _ z;obtain⟨e1,_⟩:=hok b _ z;obtain⟨e2,_⟩:=hok' b _ z2;rw[e]at e1;cases e1;exact e2
 cases hk:K.lookup a with
 | some o=>
   have e:=KX a o hk;rw[ha]at e;cases e;refine core (λ_=>none) (λ_ => .inl rfl) (.inr ⟨_,vs.toArray,_,hk,rfl,rfl,rfl,by rw[WG,lenV];exact hl,by simpa using rv⟩) (λb u z=>by have z':(none:Option HO)=some u:=z;cases z') (λb z=>absurd rfl z) λz=>absurd rfl z
 | none=>
   refine core (λb=>if b=a then some (.frz {cls := .type "list",data := .seq vs.toArray} (.lst (ns.map V.int))) else none) (λb=>?_) (.inl (.inr ⟨{cls := .type "list",data := .seq vs.toArray},iP rfl⟩)) (λb u z=>?_) (λb z=>?_) λ_=>hk
   ·by_cases hb:b=a
    ·exact .inr ⟨_,_,iP hb⟩
    ·exact .inl (iG hb)
   ·by_cases hb:b=a
    ·have z':=(iP hb).symm.trans z;cases z';subst hb;exact⟨ha,by rw[W8];exact hl,vs,_,rv,ha⟩
    ·have z':=(iG hb).symm.trans z;cases z'
   ·by_cases hb:b=a
    ·exact hb
    ·exact absurd (iG hb) z
theorem walk_of{l:PySem.W.OpenLaw}{n k:Nat}{q:Zo}{loose:List Str}{XP:(Str->Option Zh)->Heap->Prop}{YP:Zq->Heap->Prop}{d:DefRec}{K:Params->W5}{CX:Zq->CXT}{sp:Zq->Sp}{x:Str}
 (hn:l.most=some n) (hn2:n<=Zn) (hdf:d.params.defaults=[]) (hr:Room k callerA)
 (hY:∀(w:Zq) (h:Heap),YP w h->(K w.params).In h)
 (F:∀(w:Zq) (mg:Str->Option Zh) (fa:Zk) (h:Heap),(K w.params).In h->h.Ns Zr mg->mg d.name=some (.ref fa)->
   ∃ fd:A0o,(∀(s:Zj) (u:Zh),BindsTo s fd ⟨[u],[]⟩ [(x,u)])/\
    ∀ base:Heap,(K w.params).In base->base.Ns Zr mg->FnOk l.prog w (K w.params) mg base (CX w) k fa fd [x] (sp w))
 (hsp:∀(w:Zq) (H:Hp) (a:Zk) (ns:List Int),ns.length<=n->P4 H->SqL (K w.params) H a (ns.map V.int)->sp w [.ref a] H (λv _=>v = .bl true) λ_ _ _=>False)
 (hCX:∀(w:Zq) (H:Hp) (s:Zj) (e:Zh) (s':Zj),CX w [] H s (λ_ _ _=>False) e s'->False):
 PySem.W.WalkO q loose XP YP l.row.toRowW d [] (λf vs=>PySem.call f vs):=by
 refine Att.attach_call hn hdf λw s₀ s₁ mg mb fa o pm cd doc a vs ns G Y ho hd hcd hmg hobj hints hlen hg=>?_;have KX:=hY w _ Y;obtain⟨fd,hb,hF⟩:=F w mg fa _ KX G.T.g hmg;exact MY KX G.T.g G.T.b G.T.builtins G.T.nolimit hg hobj hints (Ws hlen hn2) hr hF hb (λH hO hS=>hsp w H a ns hlen hO hS) λH e s'=>hCX w H s₁ e s'
noncomputable def defArgs(s:Stmt):Arguments:=match s with
 | .FunctionDef _ a _ _ _ _ _ _ _ _=>a
 | _=>{posonlyargs:=[],args:=[],vararg:=none,kwonlyargs:=[],kw_defaults:=[],kwarg:=none,defaults:=[]}
noncomputable def defBody(s:Stmt):List Stmt:=match s with
 | .FunctionDef _ _ b _ _ _ _ _ _ _=>b
 | _=>[]
noncomputable def defScope(s:Stmt):Zu:=match s with
 | .FunctionDef _ _ _ _ _ _ sc _ _ _=>sc
 | _=>{kind := .function,names:=[],isGenerator:=false,isCoroutine:=false}
abbrev CX0:CXT:=λ_ _ _ _ _ _=>False
abbrev E0:XK:=λ_ _ _=>False
theorem Ub{X:Cx}:I0 CX0 X E0:=λ_ _ _ _ _ _ _ h=>h.elim
structure Fun(K:W5)(x qual:Str)(st:Stmt)(f:Zk)(fd:A0o):Prop where
 ex:∃(oc:Zh) (od:Option Zk) (kV doc pm:Zh) (an:Option Zk) (cdv ct:Zh) (osl:Array (Option Zh)),
  fd=PySem.W.fnOf x qual (defArgs st) (defBody st) (defScope st) .none kV doc pm an cdv ct/\K.lookup f=some ⟨oc,od,.func fd,osl⟩/\PySem.W.codeIn K cdv qual=true
 kp:PySem.W.keepIn K (.ref f)=true
section
variable{P:Zo}{w:Zq}{K:W5}{mg:Str->Option Zh}{base:Heap}
theorem Fun.ok{x qual:Str}{st:Stmt}{f:Zk}{fd:A0o}{N ps:List Str}{k:Nat}{sp:Sp}(F:Fun K x qual st f fd)(S:FnScope N ps (defScope st))(len:∀ vs H Q E,sp vs H Q E->vs.length=ps.length)
 (hbody:∀(cdv:Zh) (A:Zx) (outer:List Env) (s:Zj) (H:Hp) (vs:List V) (Q:VK) (E:XK),Room k (A.deeper (envOfC qual (defScope st) s.heap.objs.size f cdv))->sp vs H Q E->
   ∃ t,PSs (IA CX0 P w K mg base N qual (defScope st) f cdv A outer s H E).nox (defBody st) t/\t {nx:=λ_ H'=>Q .non H',rt:=Q} (start N vs) H):FnOk P w K mg base CX0 (k+1) f fd ps sp:=by
 obtain⟨oc,od,kV,doc,pm,an,cdv,ct,osl,rfl,lk,hcd⟩:=F.ex;refine UR lk hcd S len λA outer s H vs Q E hr hsp=>?_;obtain⟨t,h,q⟩:=hbody cdv A outer s H vs Q E hr hsp;exact⟨t,h.nox,q⟩
theorem Fun.binds{x qual:Str}{st:Stmt}{f:Zk}{fd:A0o}{ps:List Str}(F:Fun K x qual st f fd)
 (h:∀(kV doc pm:Zh) (an:Option Zk) (cdv ct:Zh) (us:List Zh),us.length=ps.length->bindArgs (PySem.W.fnOf x qual (defArgs st) (defBody st) (defScope st) .none kV doc pm an cdv ct) ⟨us,[]⟩=pure (ps.zip us)):Binds K fd ps []:=by
 obtain⟨oc,od,kV,doc,pm,an,cdv,ct,osl,rfl,lk,hcd⟩:=F.ex;exact .all (h kV doc pm an cdv ct)
theorem IG{x qual:Str}{st:Stmt}{f:Zk}{oc:Zh}{od an:Option Zk}{osl:Array (Option Zh)}{kV doc pm cdv ct:Zh}(l:K.lookup f=some ⟨oc,od,.func (PySem.W.fnOf x qual (defArgs st) (defBody st) (defScope st) .none kV doc pm an cdv ct),osl⟩)
 (c:PySem.W.codeIn K cdv qual=true) (k:PySem.W.keepIn K (.ref f)=true):Fun K x qual st f (PySem.W.fnOf x qual (defArgs st) (defBody st) (defScope st) .none kV doc pm an cdv ct):=⟨⟨oc,od,kV,doc,pm,an,cdv,ct,osl,rfl,l,c⟩,k⟩
end
theorem Ek{n:Nat}(h:n<=1000):n<Zn:=YG h (by decide)
def Same(H H':Hp):Prop:=∀ b o,H b=some o->H' b=some o
theorem Same.free{H H':Hp}(e:Same H H'){l:Zk}(h:H' l=Zd):H l=Zd:=by
 cases q:H l with
 | none=>rfl
 | some o=>
   rw[e l o q]at h;cases h
theorem Same.seq{K:W5}{H H':Hp}{a:Zk}{xs:List V}(e:Same H H')(h:SqL K H a xs):SqL K H' a xs:=by
 rcases h with(h | ⟨o,h⟩) | h
 ·exact .inl (.inl (e _ _ h))
 ·exact .inl (.inr ⟨o,e _ _ h⟩)
 ·exact .inr h
end L2
set_option maxHeartbeats 4000000
namespace L2
open PySem PySem.Spec PyProof.Rows
section
variable{X:Cx}{pos:Pos}
noncomputable def RA(i j k:Nat)(ta:TA):TS:=λD σ H=>ta σ H λvs H1=>∃ v w u,vs=[v,w,u]/\D.nx (((σ.set i (some v)).set j (some w)).set k (some u)) H1
theorem P5{i j k:Nat}{x y z:Str}{a b c:Expr}{ta:TA}{px py pz pt:Pos}{kt k2 pt2}(hc:X.calm=true)(hN:X.N.Nodup)(hi:X.N[i]?=some x)(hj:X.N[j]?=some y)(hk:X.N[k]?=some z)(hij:i≠j)(hik:i≠k)(hjk:j≠k)
 (hx:X.env.scope.names.lookup x=some .local) (hy:X.env.scope.names.lookup y=some .local) (hz:X.env.scope.names.lookup z=some .local) (ha:PA X [a,b,c] ta)
 (hw:A06 [.Tuple [.Name x px,.Name y py,.Name z pz] kt pt] (.Tuple [a,b,c] k2 pt2) X.env=pure (some [x,y,z]))
 (hs:A0p [.Tuple [.Name x px,.Name y py,.Name z pz] kt pt] (.Tuple [a,b,c] k2 pt2) pos.line X.env=pure false:=by rfl):
 PS X (.Assign [.Tuple [.Name x px,.Name y py,.Name z pz] kt pt] (.Tuple [a,b,c] k2 pt2) pos) (RA i j k ta):=by
 intro pq s σ H D I h;rw[A1F];refine Zg (A00 ?_);rw[hs];refine Zg (Zi ?_);rw[iG (by decide)];refine Zg (Tuple_ (thn (ha _ pq s σ H _ I h) λus s1 ⟨vs,H1,I1,r1,q1⟩=>?_));obtain⟨v,w,u,e1,q1⟩:=q1;subst e1
 obtain⟨u1,u2,u3,rfl,rv,rw',ru⟩:∃ u1 u2 u3,us=[u1,u2,u3]/\RelV v u1/\RelV w u2/\RelV u u3:=by
  cases r1 with
  | cons p q=>
    cases q with
    | cons p' q'=>
      cases q' with
      | cons p'' q''=>
        cases q'';exact⟨_,_,_,rfl,p,p',p''⟩
 refine Zt ?_ (by show 3<=Zn;decide);have I2:Inv X pq σ H1 {s1 with heap:=s1.heap.push {cls := .type "tuple",data := .seq [u1,u2,u3].toArray}}:=I1.kept (t':=s1.toks) λb o e=>WD _ e;rw[hw];refine Zg (Zi ?_);show Zl (Zm X.prog X.w) X.A (do rule "assign.swapped-stores";let items <- unpackItems (.ref s1.heap.objs.size) 3 none;A0I [λv=>A0B X.env z v,λv=>A0B X.env y v,λv=>A0B X.env x v] items.reverse;pure Flow.next) _ _ _;refine Zg (A0k (Zg (A1s (items:=#[u1,u2,u3]) (I.ok.hd hc) (IsTup.new s1.heap _) λh' hx'=>?_)));have I3:=I2.kept (h':=h') (t':=s1.toks) λb o e=>hx' b o (WZ (WR e)) e;show Zl _ _ (A0I [λv=>A0B X.env z v,λv=>A0B X.env y v,λv=>A0B X.env x v] [u3,u2,u1] >>= λ_=>pure Flow.next) _ _ _;refine Zg (A0e (A0C (B0 I3 hN hk (.inl hz) ru (λs2 I4=>?_) (.inr hz))));refine A0e (A0C (B0 I4 hN hj (.inl hy) rw' (λs3 I5=>?_) (.inr hy)));refine A0e (A0C (B0 I5 hN hi (.inl hx) rv (λs4 I6=>A0S (Zi ?_)) (.inr hx)))
 have e:((σ.set k (some u)).set j (some w)).set i (some v)=((σ.set i (some v)).set j (some w)).set k (some u):=by
  rw[YY _ _ (Ne.symm hjk),YY _ _ (Ne.symm hik),YY _ _ (Ne.symm hij)]
 rw[e]at I6;exact⟨_,H1,I6,q1⟩
end
noncomputable def AL(env:Env):List (Str×A09)->List (Str×Zk)->List (Str×Zk)
 | [],acc=>acc
 | (n,k)::r,acc=>if k == .free then AL env r ((n,(env.cells.lookup n).getD 0)::acc) else AL env r acc
theorem m6{env:Env}{scope:Zu}(h:∀ x∈scope.names,x.2 = .free->∃ c,env.cells.lookup x.1=some c):closureFor scope env=pure (AL env scope.names []):=by
 unfold closureFor
 have go:∀(names:List (Str×A09)) (acc:List (Str×Zk)),(∀ x∈names,x.2 = .free->∃ c,env.cells.lookup x.1=some c)->
  (forIn names acc λx r=>match x with
    | (name,kind)=>if (kind == NameKind.free)=true then do let __do_lift <- cellOf env name;pure (ForInStep.yield ((name,__do_lift)::r)) else pure (ForInStep.yield r):Sem (List (Str×Zk)))=pure (AL env names acc):=by
  intro names
  induction names with
  | nil=>intro acc _;rfl
  | cons x r ih=>
    intro acc hx;obtain⟨n,k⟩:=x;rw[List.forIn_cons];have hr:=λy hy=>hx y (WL _ hy);by_cases hk:k = .free
    ·subst hk;obtain⟨c,hc⟩:=hx (n,.free) WW rfl;have hc':env.cells.lookup n=some c:=hc;unfold AL;simp only[beq_self_eq_true,if_true,cellOf,hc',YJ,pure_bind];exact ih _ hr
    ·have hb:(k == NameKind.free)=false:=by simpa using hk
     unfold AL;simp only[hb,Yx,if_false,pure_bind];exact ih _ hr
 have:=go scope.names [] h;simp only[this]
 first | rfl | simp
theorem D0{env:Env}:∀(names:List (Str×A09)) (acc:List (Str×Zk)),(∀ x∈names,x.2 = .free->∃ c,env.cells.lookup x.1=some c)->(∀ p∈acc,env.cells.lookup p.1=some p.2)->
 ∀ p∈AL env names acc,env.cells.lookup p.1=some p.2
 | [],_,_,ha,p,hp=>ha p hp
 | (n,k)::r,acc,h,ha,p,hp=>by
   unfold AL at hp;have hr:=λy hy=>h y (WL _ hy);split at hp
   ·rename_i hk;have hk:k = .free:=by simpa using hk
    obtain⟨c,hc⟩:=h (n,k) WW hk;have hc':env.cells.lookup n=some c:=hc;refine D0 r _ hr (λq hq=>?_) p hp;rcases WV.mp hq with rfl | hq
    ·show env.cells.lookup n=some ((env.cells.lookup n).getD 0);rw[hc'];rfl
    ·exact ha q hq
   ·exact D0 r acc hr ha p hp
theorem D1{env:Env}:∀(names:List (Str×A09)) (acc:List (Str×Zk)),∀ p∈acc,p∈AL env names acc
 | [],_,_,hp=>hp
 | (n,k)::r,acc,p,hp=>by
   unfold AL;split
   ·exact D1 r _ p (WL _ hp)
   ·exact D1 r acc p hp
theorem D2{env:Env}:∀(names:List (Str×A09)) (acc:List (Str×Zk)) (n:Str),(n,NameKind.free)∈names->∃ c,(n,c)∈AL env names acc
 | (m,k)::r,acc,n,hn=>by
   unfold AL;rcases WV.mp hn with e | hn
   ·cases e;simp only[beq_self_eq_true,if_true];exact⟨_,D1 r _ _ WW⟩
   ·split
    ·exact D2 r _ n hn
    ·exact D2 r _ n hn
theorem Bt{env:Env}:∀(names:List (Str×A09)) (acc:List (Str×Zk)),∀ p∈AL env names acc,p∈acc\/(p.1,NameKind.free)∈names
 | [],_,_,hp => .inl hp
 | (n,k)::r,acc,p,hp=>by
   unfold AL at hp;split at hp
   ·rename_i hk;have hk:k = .free:=by simpa using hk
    subst hk;rcases Bt r _ p hp with z | z
    ·rcases WV.mp z with rfl | z
     ·exact .inr WW
     ·exact .inl z
    ·exact .inr (WL _ z)
   ·rcases Bt r _ p hp with z | z
    ·exact .inl z
    ·exact .inr (WL _ z)
theorem Aa:∀(names:List (Str×A09)) (n:Nat) (acc:List (Str×Zk)),∀ p∈A0a n names acc,p∈acc\/(n<=p.2/\(p.1,NameKind.cell)∈names)
 | [],_,_,_,hp => .inl hp
 | (x,k)::r,n,acc,p,hp=>by
   unfold A0a at hp;split at hp
   ·rename_i hk;have hk:k = .cell:=by simpa using hk
    subst hk;rcases Aa r (n+1) _ p hp with z | ⟨z,w⟩
    ·rcases WV.mp z with rfl | z
     ·exact .inr ⟨WJ _,WW⟩
     ·exact .inl z
    ·exact .inr ⟨Nat.le_of_succ_le z,WL _ w⟩
   ·rcases Aa r n acc p hp with z | ⟨z,w⟩
    ·exact .inl z
    ·exact .inr ⟨z,WL _ w⟩
theorem Ab:∀(names:List (Str×A09)) (n:Nat) (acc:List (Str×Zk)),∀ p∈acc,p∈A0a n names acc
 | [],_,_,_,hp=>hp
 | (x,k)::r,n,acc,p,hp=>by
   unfold A0a;split
   ·exact Ab r _ _ p (WL _ hp)
   ·exact Ab r _ _ p hp
theorem BK:∀(names:List (Str×A09)) (n:Nat) (acc:List (Str×Zk)) (x:Str),(x,NameKind.cell)∈names->∃ c,(x,c)∈A0a n names acc
 | (y,k)::r,n,acc,x,hx=>by
   unfold A0a;rcases WV.mp hx with e | hx
   ·cases e;simp only[beq_self_eq_true,if_true];exact⟨_,Ab r _ _ _ WW⟩
   ·split
    ·exact BK r _ _ x hx
    ·exact BK r _ _ x hx
theorem BL:∀(names:List (Str×A09)) (h:Heap) (acc:List (Str×Zk)),∀ p∈A0a h.objs.size names acc,p∈acc\/(A1z h names).IsCell p.2 none
 | [],_,_,_,hp => .inl hp
 | (x,k)::r,h,acc,p,hp=>by
   unfold A0a at hp;unfold A1z;split at hp
   ·rename_i hk;rw[iP hk];have:=BL r (h.push {cls := .type "cell",data := .cell none}) ((x,h.objs.size)::acc) p (by rw[XN];exact hp);rcases this with z | z
    ·rcases WV.mp z with rfl | z
     ·exact .inr ⟨_,A16 _ _ _ _ (WU _ rfl),rfl⟩
     ·exact .inl z
    ·exact .inr z
   ·rename_i hk;rw[iG hk];exact BL r h acc p hp
theorem An:∀(names:List (Str×A09)) (n:Nat) (acc:List (Str×Zk)),(acc.Pairwise λx y=>x.2≠y.2)->(∀ p∈acc,p.2<n)->(A0a n names acc).Pairwise λx y=>x.2≠y.2
 | [],_,_,h,_=>h
 | (x,k)::r,n,acc,h,hl=>by
   unfold A0a;split
   ·refine An r (n+1) _ (Xs.mpr ⟨λy hy e=>?_,h⟩) λp hp=>?_
    ·have h1:=hl y hy;have e':n=y.2:=e;exact absurd h1 (by rw[<-e'];exact Xp _)
    ·rcases WV.mp hp with rfl | hp
     ·exact YK _
     ·exact Xx (hl p hp)
   ·exact An r n acc h hl
theorem Bu{env:Env}(inj:∀ x y c,env.cells.lookup x=some c->env.cells.lookup y=some c->x=y):∀(names:List (Str×A09)) (acc:List (Str×Zk)),(names.map (·.1)).Nodup->
 (∀ x∈names,x.2 = .free->∃ c,env.cells.lookup x.1=some c)->(acc.Pairwise λx y=>x.2≠y.2)->(∀ p∈acc,env.cells.lookup p.1=some p.2/\p.1∉names.map (·.1))->(AL env names acc).Pairwise λx y=>x.2≠y.2
 | [],_,_,_,h,_=>h
 | (n,k)::r,acc,nd,hf,h,ha=>by
   unfold AL;have nd':=Xi.mp nd;have hr:=λy hy=>hf y (WL _ hy);split
   ·rename_i hk;have hk:k = .free:=by simpa using hk
    obtain⟨c,hc⟩:=hf (n,k) WW hk;have hc':env.cells.lookup n=some c:=hc;refine Bu inj r _ nd'.2 hr (Xs.mpr ⟨λy hy e=>?_,h⟩) λp hp=>?_
    ·have e':(env.cells.lookup n).getD 0=y.2:=e;rw[hc']at e';have e2:c=y.2:=e';have q:=(ha y hy).1;have:=inj n y.1 c hc' (by rw[e2];exact q);exact(ha y hy).2 (by rw[<-this];exact WW)
    ·rcases WV.mp hp with rfl | hp
     ·refine⟨?_,nd'.1⟩;show env.cells.lookup n=some ((env.cells.lookup n).getD 0);rw[hc'];rfl
     ·exact⟨(ha p hp).1,λz=>(ha p hp).2 (WL _ z)⟩
   ·exact Bu inj r acc nd'.2 hr h λp hp=>⟨(ha p hp).1,λz=>(ha p hp).2 (WL _ z)⟩
theorem AM{env:Env}:∀(names:List (Str×A09)) (x:Str),
 (names.map λ(n,k)=>if (k == NameKind.free&&env.scope.kind == .function&&env.kindOf n == some .cell) then (n,NameKind.cell) else (n,k)).lookup x=
   (names.lookup x).map λk=>if (k == NameKind.free&&env.scope.kind == .function&&env.kindOf x == some .cell) then NameKind.cell else k
 | [],x=>rfl
 | (n,k)::r,x=>by
   have ih:=AM (env:=env) r x;rw[Wo];show Yo x ((if (k == NameKind.free&&env.scope.kind == .function&&env.kindOf n == some .cell)=true then (n,NameKind.cell) else (n,k))::_)=_;split
   ·rename_i hc;rw[Xb,Xb];cases hx:x == n with
    | false=>exact ih
    | true=>
      have e:x=n:=by simpa using hx
      subst e;simp only[Xj];rw[iP hc]
   ·rename_i hc;rw[Xb,Xb];cases hx:x == n with
    | false=>exact ih
    | true=>
      have e:x=n:=by simpa using hx
      subst e;simp only[Xj];rw[iG hc]
theorem g8{α:Type}:∀{l:List (Str×α)} {n:Str} {c:α},(l.map (·.1)).Nodup->(n,c)∈l->l.lookup n=some c
 | (k,v)::r,n,c,nd,h=>by
   have nd':=Xi.mp nd;rw[Xb];rcases WV.mp h with e | h2
   ·cases e;simp
   ·cases hb:n == k with
    | true=>
      have e:n=k:=by simpa using hb
      exact absurd (Wi.mpr ⟨(n,c),h2,e⟩:k∈r.map (·.1)) nd'.1
    | false=>exact g8 nd'.2 h2
theorem CN{α:Type}:∀{l:List (Str×α)} {n:Str} {c:α},(n,c)∈l->∃ d,l.lookup n=some d
 | (k,v)::r,n,c,h=>by
   rw[Xb];cases hb:n == k with
   | true=>exact⟨v,rfl⟩
   | false=>
     rcases WV.mp h with e | h
     ·cases e;simp at hb
     ·exact CN h
noncomputable abbrev c9(X:Cx)(scope:Zu)(N':List Str)(s2:Zj)(H2:Hp)(cs:List (Str×Zk))(C:Zk)(fp:List Zk):Cx where
 prog:=X.prog
 w:=X.w
 K:=X.K
 mg:=X.mg
 base:=X.base
 A:=X.A
 N:=N'
 s₀:=s2
 H₀:=H2
 env:=A0K scope cs C X.env
 outer:=X.stack
 stack:=X.stack
 ex:=fp
 fn:=λx=>scope.names.lookup x == some .cell
 calm:=X.calm
 pn:=X.pn
 xe:=λ_ _=>False
noncomputable def j9(sc0 sc:Zu)(own cn N:List Str)(js:List Nat):Bool:=
 (decide (sc.kind = .function))&&(sc.names.all λx=>!decide (x.2 = .free)||decide (sc0.names.lookup x.1=some .cell)||decide (sc0.names.lookup x.1=some .free))
 && decide ((sc.names.map (·.1)).Nodup)&&(own.all λx=>decide (sc.names.lookup x=some .local)||decide (sc.names.lookup x=some .cell))&&(cn.all λx=>decide (sc.names.lookup x=some .free))
 && decide ((own++cn).Nodup)&&decide (js.map (λj=>N[j]?)=cn.map some)
noncomputable def Ao(k:Nat)(js:List Nat)(σ:St):St:=WM k none++js.map λj=>(σ[j]?).join
noncomputable def As(X:Cx)(ifs:List Expr)(t:TT):Prop:=
 ∀(pq:List (Zk×Obj)) (s:Zj) (σ:St) (H:Hp) (Q:Bool->Hp->Prop),Inv X pq σ H s->t σ H Q->
  Zl (Zm X.prog X.w) X.A (forIn ifs true λc r=>if r=true then do let ok <- isTrue c X.env (eval c X.env);pure (ForInStep.yield ok) else pure (ForInStep.yield r)) (TP X pq σ Q) X.xe s
theorem MZ{X:Cx}:As X [] (λ_ H Q=>Q true H):=λ_ _ _ H _ I h=>wpAny_tests_nil ⟨H,I,h⟩
theorem Ma{X:Cx}{c:Expr}{t:TT}(h:PT X c t):As X [c] t:=λpq s σ H Q I hw=>wpAny_tests_one (h pq s σ H Q I hw)
theorem Mb{M:Model}{A:Zx}{E:Zh->Zj->Prop}{s:Zj}{scope:Zu}{env:Env}{cl:List (Str×Zk)}{Q:Env->Zj->Prop}
 (h:Q (newEnv scope s.heap.objs.size env.globals (A0a (s.heap.objs.size+1) scope.names cl) env.qual none .none (some env) A1o) {s with heap:=A1z (s.heap.push {cls := .type "dict",data := .dict #[]}) scope.names}):
 Zl M A (A0D scope env.globals cl [] env.qual none .none (some env)) Q E s:=by
 simp only[A0D,Yy,if_true];refine Zg (wpAny_alloc ?_);refine Zg (wpAny_layCells _ (λname kind cells=>by cases hkc:kind == NameKind.cell<;>simp[hkc]) _ _ _ _ ?_);rw[show({s with heap:=s.heap.push {cls := .type "dict",data := .dict #[]}}:Zj).heap.objs.size=s.heap.objs.size+1 from XN ..];refine Zg ?_;rw[List.forIn_nil];exact Zi (Zi h)
structure CForm(prog:Zo)(w:Zq)(A:Zx)(E tg iter:Expr)(ifs:List Expr)(emit:Zh->Env->Sem Unit)(dp:Nat:=0):Prop where
 turn:∀(it:Zh) (D:Zk) (env:Env),compTurn E dp it (.ref D) env=(do
  standAt iter.pos
  match <- pyNext it with
  | none=>pure (.done .next)
  | some v=>
    A0u tg it v
    assign tg env v
    let mut ok:=true
    for c in ifs do
     if ok then ok <- isTrue c env (eval c env)
    if ok then emit (.ref D) env
    again (.compLoop E dp it (.ref D) env))
 und:∀(it acc:Zh) (env:Env),A.under (.compLoop E dp it acc env)=A
 den:∀(it acc:Zh) (env:Env),(Zm prog w).den (.compLoop E dp it acc env)=(compTurn E dp it acc env).onRaise (λx=>do A1X x env;theTreesLotGoes x)
 start:∀{R:Result->Zj->Prop} {s:Zj} {it acc:Zh} {env:Env},codeAny (Zm prog w) A (.compLoop E dp it acc env) R s->Zl (Zm prog w) A (pyIter it) (λit' s'=>codeAny (Zm prog w) A (.compLoop E dp it' acc env) R s') (notedBy (Zm prog w) A env λx s'=>R (.error x) s') s->
  codeAny (Zm prog w) A (.compStart E dp it acc env) R s
theorem CForm.loop{prog:Zo}{w:Zq}{A:Zx}{E tg iter:Expr}{ifs:List Expr}{emit:Zh->Env->Sem Unit}{dp:Nat}(F:CForm prog w A E tg iter ifs emit dp){R:Result->Zj->Prop}{s:Zj}{it:Zh}{D:Zk}{env:Env}(I:Nat->Zj->Prop)
 (turn:∀ n s,I n s->Zl (Zm prog w) A (pyNext it) (λr s₁=>match r with
   | none=>R (.ok .next) s₁
   | some v=>Zl (Zm prog w) A (A0u tg it v) (λ_ s₁'=>Zl (Zm prog w) A (assign tg env v) (λ_ s₂=>
      Zl (Zm prog w) A (forIn ifs true λc r=>if r=true then do let ok <- isTrue c env (eval c env);pure (ForInStep.yield ok) else pure (ForInStep.yield r)) (λok s₃=>
       if ok=true then Zl (Zm prog w) A (emit (.ref D) env) (λ_ s₅=>∃ m,m<n/\I m s₅) (λ_ _=>False) s₃
       else ∃ m,m<n/\I m s₃) (λ_ _=>False) s₂) (λ_ _=>False) s₁') (λ_ _=>False) s₁) (λ_ _=>False) s)
 (n:Nat) (h:I n s):
 codeAny (Zm prog w) A (.compLoop E dp it (.ref D) env) R s:=by
 refine codeAny_loop rfl I (λn s hI=>?_) n h;rw[F.und,F.den];refine wpAny_noted ?_;rw[F.turn];refine Zg (A00 (Zg (A02 (turn n s hI) (λr s₁ h₁=>?_) λ_ _ h'=>False.elim h')));cases r with
 | none=>exact Zi h₁
 | some v=>
   refine Zg (A02 h₁ (λ_ s₁' h₁'=>?_) λ_ _ h'=>False.elim h');refine Zg (A02 h₁' (λ_ s₂ h₂=>Zg (A02 h₂ (λok s₃ h₃=>?_) λ_ _ h'=>False.elim h')) λ_ _ h'=>False.elim h');cases ok with
   | false=>exact Zi ⟨rfl,h₃⟩
   | true=>exact Zg (A02 h₃ (λ_ s₅ h₅=>Zi ⟨rfl,h₅⟩) λ_ _ h'=>False.elim h')
noncomputable def Dk{α:Type}(J:It)(g:TG)(tt:TT)(tem:α->St->Hp->(α->Hp->Prop)->Prop)(σ':St)(Q:Hp->Prop)(W:Nat->Nat->α->Hp->Prop):Prop:=
 ∀ i m a H,W i m a H->(J.stop i H/\Q H)\/(J.go i H/\∃ N:α->Hp->Prop,(∀ a' H',N a' H'->∃ m',m'<m/\W (i+1) m' a' H')/\∀ x H',J.yld i H x H'->g x σ' H' λσ2 H2=>tt σ2 H2 λb H3=>if b=true then tem a σ2 H3 N else N a H3)
noncomputable def RB(elt:Expr)(acc:Zh)(env:Env):Sem Unit:=do
 let x <- eval elt env
 let _ <- call (.builtin "list.append") [acc,x]
theorem IH{prog:Zo}{w:Zq}{A:Zx}{elt tg iter:Expr}{ifs:List Expr}{scope:Zu}{pos:Pos}:CForm prog w A (.ListComp elt [⟨tg,iter,ifs,0⟩] scope pos) tg iter ifs (RB elt) where
 turn:=λ_ _ _=>compTurn_list ..
 und:=λ_ _ _=>rfl
 den:=λ_ _ _=>rfl
 start:=λh0 h=>A13 h0 h
noncomputable def Vf(te:TE)(D:Zk)(ys:List V)(σ:St)(H:Hp)(N:List V->Hp->Prop):Prop:=te σ H λv H4=>H4 D=some (.lst ys)/\ys.length<Zn/\N (ys++[v]) (upd H4 D (.lst (ys++[v])))
noncomputable def RC(J:It)(g:TG)(tt:TT)(te:TE)(D:Zk)(σ':St)(Q:List V->Hp->Prop)(W:Nat->Nat->List V->Hp->Prop):Prop:=
 ∀ i m ys H,W i m ys H->(J.stop i H/\Q ys H)\/(J.go i H/\∃ N:List V->Hp->Prop,(∀ ys' H',N ys' H'->∃ m',m'<m/\W (i+1) m' ys' H')/\∀ x H',J.yld i H x H'->g x σ' H' λσ2 H2=>tt σ2 H2 λb H3=>
  if b=true then te σ2 H3 λv H4=>H4 D=some (.lst ys)/\ys.length<Zn/\N (ys++[v]) (upd H4 D (.lst (ys++[v]))) else N ys H3)
noncomputable def Mc(wi:TI)(g:TG)(tt:TT)(te:TE)(k:Nat)(js:List Nat):TE:=λσ H Q=>wi σ H λJ H1=>∀ D,H1 D=none->
 ∃ W:Nat->Nat->List V->Hp->Prop,(∃ m,W 0 m [] (upd H1 D (.lst [])))/\RC J g tt te D (Ao k js σ) (λ_ H=>Q (.ref D) H) W
section
variable{X:Cx}{pq:List (Zk×Obj)}{σ:St}{H2:Hp}{s2:Zj}{tg elt iter:Expr}{ifs:List Expr}{scope:Zu}{pos:Pos}{own cn:List Str}{js:List Nat}{g:TG}{tt:TT}{te:TE}
theorem Ag{α:Type}{E:Expr}{emit:Zh->Env->Sem Unit}{mk:Sem Zh}{o0:Obj}{u0:HO}{a0:α}{tem:Zk->α->St->Hp->(α->Hp->Prop)->Prop}(F:CForm X.prog X.w X.A E tg iter ifs emit)(hmk:∀{Q:Zh->Zj->Prop},Q (.ref s2.heap.objs.size) {s2 with heap:=s2.heap.push o0}->Zl (Zm X.prog X.w) X.A mk Q X.xe s2)(nf0:o0.isFreed=false)(new0:∀(H:Hp) (h:Heap),h.get? s2.heap.objs.size=some o0->ObjOk X.prog X.w H h s2.heap.objs.size u0)(hok:j9 X.env.scope scope own cn X.N js=true)(hc:X.calm=true)
 (hg:∀ s2 H2 cs C fp,PG (c9 X scope (own++cn) s2 H2 cs C fp) tg g) (ht:∀ s2 H2 cs C fp,As (c9 X scope (own++cn) s2 H2 cs C fp) ifs tt) (hem:∀ D s2 H2 cs C fp pq s σ H (a:α) (N:α->Hp->Prop),Inv (c9 X scope (own++cn) s2 H2 cs C fp) pq σ H s->tem D a σ H N->Zl (Zm X.prog X.w) X.A (emit (.ref D) (A0K scope cs C X.env)) (λ_ s1=>∃ σ1 a1 H1,Inv (c9 X scope (own++cn) s2 H2 cs C fp) pq σ1 H1 s1/\N a1 H1) (λ_ _=>False) s)
 (I2:Inv X pq σ H2 s2) {it:Zk} {fp:List Zk} {tn:Nat->Heap->Prop} {J:It} (T:Turn X.prog X.w X.K tg J fp it tn) (st2:tn 0 s2.heap) (f2:∀ b∈fp,FpOk X pq H2 b)
 {Qe:Hp->Prop} (hW:∃ W:Nat->Nat->α->Hp->Prop,(∃ m,W 0 m a0 (upd H2 s2.heap.objs.size u0))/\Dk J g tt (tem s2.heap.objs.size) (Ao own.length js σ) Qe W)
 {RR:Zh->Zk->Result->Zj->Prop}
 (hRR:∀ C H' s',Inv X pq σ H' s'->FpOk X pq H' C->(∃ m,s'.heap.Ns C m)->Qe H'->RR (.ref s2.heap.objs.size) C (.ok .next) s'):
 Zl (Zm X.prog X.w) X.A mk (λacc s₃=>Zl (Zm X.prog X.w) X.A (A0D scope X.env.globals (AL X.env scope.names []) [] X.env.qual none .none (some X.env)) (λcenv s₄=>
  codeAny (Zm X.prog X.w) X.A (.compStart E 0 (.ref it) acc {cenv with scope:=relabel scope X.env}) (RR acc cenv.locals) s₄) X.xe s₃) X.xe s2:=by
 unfold j9 at hok;simp only[W6,dQ,Wg,Wv,We,decide_eq_false_iff_not]at hok;obtain⟨⟨⟨⟨⟨⟨k1,k2⟩,k3⟩,k4⟩,k5⟩,k6⟩,k7⟩:=hok
 have hfreeK:∀ x∈scope.names,x.2 = .free->X.env.kindOf x.1=some .cell\/X.env.kindOf x.1=some .free:=λx hx hf=>by
  rcases k2 x hx with(z | z) | z
  ·exact absurd hf z
  ·exact .inl z
  ·exact .inr z
 have hfree:∀ x∈scope.names,x.2 = .free->∃ c,X.env.cells.lookup x.1=some c:=λx hx hf=>I2.ok.has x.1 (hfreeK x hx hf);refine hmk (Mb ?_);have hsz3:(s2.heap.push o0).objs.size=s2.heap.objs.size+1:=XN ..;dsimp only;generalize hh3:s2.heap.push o0=h3 at hsz3 ⊢;have old3:∀ b o,s2.heap.get? b=some o->h3.get? b=some o:=λb o e=>hh3▸WD _ e;have hD3:h3.get? s2.heap.objs.size=some o0:=hh3▸WU _ nf0;generalize hcs:A0a (h3.objs.size+1) scope.names (AL X.env scope.names [])=cs;generalize hh4:A1z (h3.push {cls := .type "dict",data := .dict #[]}) scope.names=h4;have old4:∀ b o,h3.get? b=some o->h4.get? b=some o:=λb o e=>hh4▸A16 _ _ b o (WD _ e);have old:∀ b o,s2.heap.get? b=some o->h4.get? b=some o:=λb o e=>old4 b o (old3 b o e);have hD4:h4.get? s2.heap.objs.size=some o0:=old4 _ _ hD3;have hNs:h4.Ns h3.objs.size (λ_=>none):=hh4▸(Heap.Ns.new h3 (.type "dict")).keeps (A16 _ _);generalize hC:h3.objs.size=C at hNs hcs ⊢;have hCD:@Eq Nat C (s2.heap.objs.size+1):=by rw[<-hC];exact hsz3
 have clM:=D0 (env:=X.env) scope.names [] hfree (λp hp=>absurd hp (by simp));have cellLt:∀ x c,X.env.cells.lookup x=some c->@LT.lt Nat _ c s2.heap.objs.size:=λx c e=>by obtain⟨v,z⟩:=I2.cell x c e;exact z.lt
 have apart:cs.Pairwise λx y=>x.2≠y.2:=by
  rw[<-hcs];refine An _ _ _ (Bu I2.ok.inj scope.names [] k3 hfree List.Pairwise.nil λp hp=>absurd hp (by simp)) λp hp=>?_;have:=cellLt _ _ (clM p hp);show @LT.lt Nat _ p.2 (C+1);omega
 have csM:∀ p∈cs,X.env.cells.lookup p.1=some p.2\/(C+1<=p.2/\(p.1,NameKind.cell)∈scope.names/\h4.IsCell p.2 none):=λp hp=>by
  have hp0:=hp;rw[<-hcs]at hp;rcases Aa _ _ _ p hp with z | ⟨z,y⟩
  ·exact .inl (clM p z)
  ·have e:h3.objs.size+1=(h3.push {cls := .type "dict",data := .dict #[]}).objs.size:=by rw[XN]
   have hp':=hp;rw[<-hC,e]at hp';rcases BL _ _ _ p hp' with q | q
   ·exact .inl (clM p q)
   ·exact .inr ⟨z,y,hh4▸q⟩
 have hX:(c9 X scope (own++cn) s2 H2 cs C fp).Ok:=by
  refine⟨I2.ok.mod,k1,I2.ok.glob,I2.ok.blt,by show @LE.le Nat _ s2.heap.objs.size C;omega,λx y c h1 h2=>name_of_addr apart (PySem.mem_of_lookup h1) (PySem.mem_of_lookup h2),λx hx=>?_,λx c hf hx=>?_,I2.ok.hd,I2.ok.frames,.inl rfl,λb hb=>?_,I2.bs,Ws I2.ok.bsz I2.sz,λb o e hb=>?_,λb hb hf=>?_,I2.stack,I2.stkFree⟩
  ·have hx':(relabel scope X.env).names.lookup x=some .cell\/(relabel scope X.env).names.lookup x=some .free:=hx
   have hl:scope.names.lookup x=some .cell\/scope.names.lookup x=some .free:=by
    unfold relabel at hx';dsimp only at hx';rw[AM]at hx';cases e:scope.names.lookup x with
    | none=>rw[e]at hx';simp at hx'
    | some k=>
      rw[e]at hx';cases k<;>simp_all
   have:∃ c,(x,c)∈cs:=by
    rw[<-hcs];rcases hl with hl | hl
    ·exact BK _ _ _ x (PySem.mem_of_lookup hl)
    ·obtain⟨c,hc'⟩:=D2 (env:=X.env) scope.names [] x (PySem.mem_of_lookup hl);exact⟨c,Ab _ _ _ _ hc'⟩
   obtain⟨c,hm⟩:=this;exact CN hm
  ·have hf':scope.names.lookup x=some .cell:=by simpa using hf
   have hm:=PySem.mem_of_lookup (show cs.lookup x=some c from hx);rcases csM _ hm with z | ⟨z,_⟩
   ·
    rw[<-hcs]at hm;rcases Aa _ _ _ _ hm with q | ⟨q,_⟩
    ·rcases Bt (env:=X.env) scope.names [] _ q with q' | q'
     ·exact absurd q' (by simp)
     ·have:=g8 k3 q';have h2:scope.names.lookup x=some .free:=this;rw[hf']at h2;cases h2
    ·show @LE.le Nat _ s2.heap.objs.size c;have q2:@LE.le Nat _ (C+1) c:=q;omega
   ·show @LE.le Nat _ s2.heap.objs.size c;have z2:@LE.le Nat _ (C+1) c:=z;omega
  ·obtain⟨f0,f1,f2',f3,f4,f5⟩:=f2 b hb;obtain⟨o,ho,_⟩:=T.obj 0 _ st2 b hb;have hb2:@LT.lt Nat _ b s2.heap.objs.size:=WR ho;refine⟨?_,λx c e=>?_⟩
   ·show @Ne Nat b C;omega
   ·rcases csM _ (PySem.mem_of_lookup (show cs.lookup x=some c from e)) with z | ⟨z,_⟩
    ·exact f4 x c z
    ·have z2:@LE.le Nat _ (C+1) c:=z;show @Ne Nat c b;omega
  ·obtain⟨f0,f1,f2',f3,f4,f5⟩:=f2 b hb;rcases f3 with z | z
   ·exact I2.ok.noex b o e z
   ·exact absurd (Wu (WR e) (Ws I2.ok.bsz z)) (Xp _)
  ·obtain⟨f0,f1,f2',_⟩:=f2 b hb;rcases WV.mp (I2.stkSub b hf) with z | z
   ·exact f1 z
   ·exact f2' z
 have hDn:H2 s2.heap.objs.size=none:=I2.fresh;have hCn:H2 C=none:=I2.hok.fresh (show @LE.le Nat _ s2.heap.objs.size C by omega)
 have stkNe:∀ b,b≠X.env.locals->b∉X.fs->b∉frs X.stack:=λb h1 h2 hb=>by
  rcases WV.mp (I2.stkSub b hb) with z | z
  ·exact h1 z
  ·exact h2 z
 have I4:Inv (c9 X scope (own++cn) s2 H2 cs C fp) pq (Ao own.length js σ) (upd H2 s2.heap.objs.size u0) {s2 with heap:=h4}:=by
  refine⟨hX,rfl,I2.bare,Un.laid old (WJ _) hDn,⟨λ_=>none,hNs,λi x v e1 e2 e3=>?_⟩,λx c e=>?_,?_,λx c e=>?_,λp hp=>?_,I2.hok.laid old (WJ _) (new0 _ _ hD4),?_⟩
  ·
   have hi:own.length<=i:=by
    rcases ZW i own.length with z | z
    ·exfalso;unfold Ao at e2;rw[WX (by simpa using z),XM,iP z]at e2;cases e2
    ·exact z
   have e1':cn[i - own.length]?=some x:=by
    have:(own++cn)[i]?=some x:=e1;rw[X6 hi]at this;exact this
   have e2':(js.map λj=>(σ[j]?).join)[i - own.length]?=some (some v):=by
    unfold Ao at e2;rw[X6 (by simpa using hi)]at e2;simpa using e2
   rw[WQ]at e2';cases hj:js[i - own.length]? with
   | none=>rw[hj]at e2';cases e2'
   | some j=>
     rw[hj]at e2';have e2'':(σ[j]?).join=some v:=by simpa using e2'
     have hσ:σ[j]?=some (some v):=by
      cases q:σ[j]? with
      | none=>rw[q]at e2'';cases e2''
      | some z=>rw[q]at e2'';simp at e2'';rw[e2'']
     have hNx:X.N[j]?=some x:=by
      have:=congrArg (λl=>l[i - own.length]?) k7;simp only[WQ,hj,e1',Xj]at this;exact oj this
     have hfx:scope.names.lookup x=some .free:=k5 x (WC e1');have hK:=hfreeK (x,.free) (PySem.mem_of_lookup hfx) rfl;have hK':X.env.kindOf x=some .cell\/X.env.kindOf x=some .free:=hK;obtain⟨m,hn,hl⟩:=I2.loc
     have hvis:Vis X.env.scope x:=by
      rcases hK' with z | z
      ·exact .inr (.inl z)
      ·exact .inr (.inr z)
     obtain⟨u,r,l⟩:=hl j x v hNx hσ hvis;refine⟨u,r,.inr ?_⟩;rcases l with⟨l1,_⟩ | ⟨l1,c,l2,l3⟩
     ·rcases hK' with z | z
      ·rw[z]at l1;cases l1
      ·rw[z]at l1;cases l1
     ·have hrl:(A0K scope cs C X.env).kindOf x=some .cell\/(A0K scope cs C X.env).kindOf x=some .free:=by
       show(relabel scope X.env).names.lookup x=_\/(relabel scope X.env).names.lookup x=_;unfold relabel;dsimp only;rw[AM,hfx];simp only[Xj];split
       ·exact .inl rfl
       ·exact .inr rfl
      refine⟨hrl,c,?_,l3.keeps λb o e=>old b o e⟩;show cs.lookup x=some c;obtain⟨c',hc'⟩:=hX.has x hrl;have hc2:cs.lookup x=some c':=hc';rw[hc2];have hm:=PySem.mem_of_lookup hc2
      have:X.env.cells.lookup x=some c':=by
       rcases csM _ hm with z | ⟨_,z,_⟩
       ·exact z
       ·have:=g8 k3 z;have h2:scope.names.lookup x=some .cell:=this;rw[hfx]at h2;cases h2
      rw[l2]at this;exact this.symm
  ·rcases csM _ (PySem.mem_of_lookup (show cs.lookup x=some c from e)) with z | ⟨_,_,z⟩
   ·obtain⟨v,q⟩:=I2.cell _ _ z;exact⟨v,q.keeps λb o e=>old b o e⟩
   ·exact⟨none,z⟩
  ·show upd H2 s2.heap.objs.size u0 C=none;rw[upd_ne (show @Ne Nat C s2.heap.objs.size by omega)];exact hCn
  ·have hne:c≠s2.heap.objs.size/\H2 c=none:=by
    rcases csM _ (PySem.mem_of_lookup (show cs.lookup x=some c from e)) with z | ⟨z,_,_⟩
    ·exact⟨WZ (cellLt _ _ z),I2.freeC _ _ z⟩
    ·have z2:@LE.le Nat _ (C+1) c:=z;exact⟨show @Ne Nat c s2.heap.objs.size by omega,I2.hok.fresh (show @LE.le Nat _ s2.heap.objs.size c by omega)⟩
   rw[upd_ne hne.1];exact hne.2
  ·obtain⟨e,n,ne,nf,d⟩:=I2.pin p hp;have hlt:@LT.lt Nat _ p.1 s2.heap.objs.size:=WR e;refine⟨old _ _ e,?_,?_,stkNe _ ne nf,d⟩
   ·rw[upd_ne (WZ hlt)];exact n
   ·show @Ne Nat p.1 C;omega
  ·show(Ao own.length js σ).length=(own++cn).length;unfold Ao;have hl:=congrArg Y0 k7;simp only[W8]at hl;simp[hl]
 have stat:∀{H':Hp},(∀ b∈fp,H' b=none)->∀ b∈fp,FpOk (c9 X scope (own++cn) s2 H2 cs C fp) pq H' b:=λhn b hb=>by
  obtain⟨f0,f1,f2',f3,f4,f5⟩:=f2 b hb;exact⟨hn b hb,(hX.exf b hb).1,stkNe b f1 f2',.inl hb,λx c e=>(hX.exf b hb).2 x c e,f5⟩
 have back:∀{σ':St} {H':Hp} {s':Zj},Inv (c9 X scope (own++cn) s2 H2 cs C fp) pq σ' H' s'->Inv X pq σ H' s':=λ{σ' H' s'} J'=>
  I2.call' (ch:=fp) J'.os J'.base J'.hok J'.bare λb hb=>by
   obtain⟨f0,f1,f2',f3,f4,f5⟩:=f2 b hb;exact⟨f3,f1,f4,f5⟩
 obtain⟨W,⟨m0,w0⟩,turn⟩:=hW
 have loop:codeAny (Zm X.prog X.w) X.A (.compLoop E 0 (.ref it) (.ref s2.heap.objs.size) (A0K scope cs C X.env)) (RR (.ref s2.heap.objs.size) C) {s2 with heap:=h4}:=by
  refine F.loop (λn s'=>∃ i ys H',Inv (c9 X scope (own++cn) s2 H2 cs C fp) pq (Ao own.length js σ) H' s'/\tn i s'.heap/\(∀ b∈fp,H' b=none)/\W i n ys H') ?_ m0
   ⟨0,a0,_,I4,T.keep _ _ _ st2 λb hb o e=>old b o e,λb hb=>?_,w0⟩
  ·rintro n s3 ⟨i,ys,H3,I3,st3,fr3,w3⟩;rcases turn i n ys H3 w3 with⟨stop,q⟩ | ⟨go,N,hN,step⟩
   ·refine thn (T.done (c9 X scope (own++cn) s2 H2 cs C fp) rfl rfl rfl hc i pq s3 _ H3 _ I3 (stat fr3) st3 stop) λr s4 ⟨hr,I5⟩=>?_;subst hr;obtain⟨m,hn,_⟩:=I5.loc;exact hRR C H3 s4 (back I5) (I2.fpOk (show @LE.le Nat _ s2.heap.objs.size C by omega) I5.free) ⟨m,hn⟩ q
   ·refine thn (T.item (c9 X scope (own++cn) s2 H2 cs C fp) rfl rfl rfl hc i pq s3 _ H3 _ I3 (stat fr3) st3 go) λr s4 ⟨u,hr,h4'⟩=>?_;subst hr;refine thn h4' λ_ s5 ⟨x,H5,I5,r5,y5,st5,fr5⟩=>?_;have I5':=I5.pinned (stat fr5) (T.obj _ _ st5);refine thn (hg s2 H2 cs C fp _ s5 _ H5 x u _ I5' r5 (step x H5 y5)) λ_ s6 ⟨σ6,H6,I6,q6⟩=>?_;refine thn (ht s2 H2 cs C fp _ s6 σ6 H6 _ I6 q6) λb s7 ⟨H7,I7,q7⟩=>?_
    have again:∀{σ8:St} {H8:Hp} {s8:Zj} {ys8:α},Inv (c9 X scope (own++cn) s2 H2 cs C fp) (pq++Bq fp s5.heap) σ8 H8 s8->(∀(j:Nat) v,(Ao own.length js σ)[j]?=some (some v)->σ8[j]?=some (some v))->(∃ m',m'<n/\W (i+1) m' ys8 H8)->
     ∃ m,m<n/\∃ i ys H',Inv (c9 X scope (own++cn) s2 H2 cs C fp) pq (Ao own.length js σ) H' s8/\tn i s8.heap/\(∀ b∈fp,H' b=none)/\W i m ys H':=λ{σ8 H8 s8 ys8} I8 hw8 ⟨m',hm,w8⟩=>by
     refine⟨m',hm,i+1,ys8,H8,I8.unpinned.weak (by rw[I8.len,I4.len]) hw8,T.keep _ _ _ st5 λb hb o e=>(I8.pin (b,o) (WY _ (WY _ (AW hb e)))).1,λb hb=>?_,w8⟩;obtain⟨o,e,d⟩:=T.obj _ _ st5 b hb;exact(I8.pin (b,o) (WY _ (WY _ (AW hb e)))).2.1
    have capK:∀{σ8:St} {H8:Hp} {s8:Zj},Inv (c9 X scope (own++cn) s2 H2 cs C fp) (pq++Bq fp s5.heap) σ8 H8 s8->Inv (c9 X scope (own++cn) s2 H2 cs C fp) (pq++Bq fp s5.heap) (Ao own.length js σ) H8 s8:=λ{σ8 H8 s8} I8=>by
     have IX:=back I8.unpinned;refine⟨I8.ok,I8.os,I8.bare,I8.base,?_,I8.cell,I8.free,I8.freeC,I8.pin,I8.hok,I4.len⟩;obtain⟨m,hn,_⟩:=I8.loc;refine⟨m,hn,λi x v e1 e2 e3=>?_⟩;obtain⟨mx,hnx,hlx⟩:=IX.loc
     have hi:own.length<=i:=by
      rcases ZW i own.length with z | z
      ·exfalso;unfold Ao at e2;rw[WX (by simpa using z),XM,iP z]at e2;cases e2
      ·exact z
     have e1':cn[i - own.length]?=some x:=by
      have:(own++cn)[i]?=some x:=e1;rw[X6 hi]at this;exact this
     have e2':(js.map λj=>(σ[j]?).join)[i - own.length]?=some (some v):=by
      unfold Ao at e2;rw[X6 (by simpa using hi)]at e2;simpa using e2
     rw[WQ]at e2';cases hj:js[i - own.length]? with
     | none=>rw[hj]at e2';cases e2'
     | some j=>
       rw[hj]at e2';have e2'':(σ[j]?).join=some v:=by simpa using e2'
       have hσ:σ[j]?=some (some v):=by
        cases q:σ[j]? with
        | none=>rw[q]at e2'';cases e2''
        | some z=>rw[q]at e2'';simp at e2'';rw[e2'']
       have hNx:X.N[j]?=some x:=by
        have:=congrArg (λl=>l[i - own.length]?) k7;simp only[WQ,hj,e1',Xj]at this;exact oj this
       have hfx:scope.names.lookup x=some .free:=k5 x (WC e1');have hK':X.env.kindOf x=some .cell\/X.env.kindOf x=some .free:=hfreeK (x,.free) (PySem.mem_of_lookup hfx) rfl
       have hvis:Vis X.env.scope x:=by
        rcases hK' with z | z
        ·exact .inr (.inl z)
        ·exact .inr (.inr z)
       obtain⟨u,r,l⟩:=hlx j x v hNx hσ hvis;refine⟨u,r,.inr ?_⟩;rcases l with⟨l1,_⟩ | ⟨l1,c,l2,l3⟩
       ·rcases hK' with z | z
        ·rw[z]at l1;cases l1
        ·rw[z]at l1;cases l1
       ·have hrl:(A0K scope cs C X.env).kindOf x=some .cell\/(A0K scope cs C X.env).kindOf x=some .free:=by
         show(relabel scope X.env).names.lookup x=_\/(relabel scope X.env).names.lookup x=_;unfold relabel;dsimp only;rw[AM,hfx];simp only[Xj];split
         ·exact .inl rfl
         ·exact .inr rfl
        refine⟨hrl,c,?_,l3⟩;show cs.lookup x=some c;obtain⟨c',hc'⟩:=hX.has x hrl;have hc2:cs.lookup x=some c':=hc';rw[hc2];have hm:=PySem.mem_of_lookup hc2
        have:X.env.cells.lookup x=some c':=by
         rcases csM _ hm with z | ⟨_,z,_⟩
         ·exact z
         ·have:=g8 k3 z;have h2:scope.names.lookup x=some .cell:=this;rw[hfx]at h2;cases h2
        rw[l2]at this;exact this.symm
    cases b with
    | false=>
      rw[iG WK];rw[iG WK]at q7;exact again (capK I7) (λ_ _ e=>e) (hN _ _ q7)
    | true=>
      rw[iP rfl];rw[iP rfl]at q7;exact thn (hem _ s2 H2 cs C fp _ s7 σ6 H7 _ _ I7 q7) λ_ s9 ⟨σ9,a9,H9,I9,q9⟩=>again (capK I9) (λ_ _ e=>e) (hN _ _ q9)
  ·obtain⟨f0,_⟩:=f2 b hb;obtain⟨o,ho,_⟩:=T.obj 0 _ st2 b hb;rw[upd_ne (WZ (WR ho))];exact f0
 exact F.start loop (T.self _ 0 _ _ _ (T.keep _ _ _ st2 λb hb o e=>old b o e) loop)
theorem Dl(hok:j9 X.env.scope scope own cn X.N js=true)(hc:X.calm=true)
 (hg:∀ s2 H2 cs C fp,PG (c9 X scope (own++cn) s2 H2 cs C fp) tg g) (ht:∀ s2 H2 cs C fp,As (c9 X scope (own++cn) s2 H2 cs C fp) ifs tt) (he:∀ s2 H2 cs C fp,PE (c9 X scope (own++cn) s2 H2 cs C fp) elt te)
 (I2:Inv X pq σ H2 s2) {it:Zk} {fp:List Zk} {tn:Nat->Heap->Prop} {J:It} (T:Turn X.prog X.w X.K tg J fp it tn) (st2:tn 0 s2.heap) (f2:∀ b∈fp,FpOk X pq H2 b)
 {Qe:Hp->Prop} (hW:∃ W:Nat->Nat->List V->Hp->Prop,(∃ m,W 0 m [] (upd H2 s2.heap.objs.size (.lst [])))/\RC J g tt te s2.heap.objs.size (Ao own.length js σ) (λ_ H=>Qe H) W)
 {RR:Zh->Zk->Result->Zj->Prop}
 (hRR:∀ C H' s',Inv X pq σ H' s'->FpOk X pq H' C->(∃ m,s'.heap.Ns C m)->Qe H'->RR (.ref s2.heap.objs.size) C (.ok .next) s'):
 Zl (Zm X.prog X.w) X.A (newList []) (λacc s₃=>Zl (Zm X.prog X.w) X.A (A0D scope X.env.globals (AL X.env scope.names []) [] X.env.qual none .none (some X.env)) (λcenv s₄=>
  codeAny (Zm X.prog X.w) X.A (.compStart (.ListComp elt [⟨tg,iter,ifs,0⟩] scope pos) 0 (.ref it) acc {cenv with scope:=relabel scope X.env}) (RR acc cenv.locals) s₄) X.xe s₃) X.xe s2:=by
 obtain⟨W,w0,hw⟩:=hW;refine Ag (RR:=RR) (a0:=[]) (o0:={cls := .type "list",dict:=none,data := .seq ([]:List Zh).toArray}) (u0 := .lst []) (tem:=Vf te) IH (λhq=>Zt hq) rfl (λ_ _ hD=>⟨XA _,[],0,.nil,hD⟩) hok hc hg ht (λD s2 H2 cs C fp pq s σ H ys N I h=>?_) I2 T st2 f2 ⟨W,w0,hw⟩ hRR;refine Zg (thn (he s2 H2 cs C fp _ s σ H _ I h) λy s8 ⟨v,H8,I8,r8,hD8,hz8,q8⟩=>?_);refine Zg (thn (CC (X:=c9 X scope (own++cn) s2 H2 cs C fp) _ s8 σ H8 (.ref D) [v] (.ref D) [y] (λ_ H9=>H9=upd H8 D (.lst (ys++[v]))) I8 rfl (.cons r8 .nil) ⟨_,ys,v,rfl,rfl,hD8,hz8,rfl⟩) λ_ s9 ⟨z,H9,I9,r9,e9⟩=>?_);subst e9;exact Zi ⟨_,_,_,I9,q8⟩
theorem P7{wi:TI}(own cn:List Str)(js:List Nat)(hi:PI X tg iter wi)(hg:∀ s2 H2 cs C fp,PG (c9 X scope (own++cn) s2 H2 cs C fp) tg g)(ht:∀ s2 H2 cs C fp,As (c9 X scope (own++cn) s2 H2 cs C fp) ifs tt)
 (he:∀ s2 H2 cs C fp,PE (c9 X scope (own++cn) s2 H2 cs C fp) elt te) (hc:X.calm=true:=by rfl) (hok:j9 X.env.scope scope own cn X.N js=true:=by kernel_rfl)
 (hs:∀ x,Zv iter X.env x=pure x:=by intro _;rfl):PE X (.ListComp elt [⟨tg,iter,ifs,0⟩] scope pos) (Mc wi g tt te own.length js):=by
 intro pq s σ H Q I h;have hok':=hok;unfold j9 at hok';simp only[W6,dQ,Wg,Wv,We,decide_eq_false_iff_not]at hok';obtain⟨⟨⟨⟨⟨⟨k1,k2⟩,k3⟩,k4⟩,k5⟩,k6⟩,k7⟩:=hok'
 have hfree:∀ x∈scope.names,x.2 = .free->∃ c,X.env.cells.lookup x.1=some c:=λx hx hf=>I.ok.has x.1 (by
  rcases k2 x hx with(z | z) | z
  ·exact absurd hf z
  ·exact .inl z
  ·exact .inr z)
 rw[eval_ListComp];refine A01 (use:=none) rfl hs (m6 hfree) k1 (λx hx hl=>?_) (thn (hi pq s σ H _ I h) λv s1 h1=>thn h1 λitv s2 h2=>?_)
 ·have:=g8 k3 (show(x.1,x.2)∈scope.names from hx);rw[this,hl]
 ·obtain⟨it,fp,tn,J,H2,e,I2,T,st2,f2,q⟩:=h2;subst e;refine Dl (RR:=λacc C=>A0Z (Zm X.prog X.w) X.A X.xe none (EP X pq σ Q) acc C) hok hc hg ht he I2 T st2 f2 (q _ I2.fresh) ?_;intro C H' s' I' fC ⟨m,hn⟩ q';obtain⟨f0,f1,f2',f3,f4,f5⟩:=fC;refine⟨m,hn,λh' hs'=>⟨.ref s2.heap.objs.size,H',?_,rfl,q'⟩⟩;exact I'.turned (t':=s'.toks) (λb o hb e=>(hs'.2 b hb).trans e) f0 f1 f3 f4 f5
theorem II{wi:TI}{i:Nat}{x:Str}{px spos:Pos}(own cn:List Str)(js:List Nat)(hN:X.N.Nodup)(hix:X.N[i]?=some x)(hx:X.env.scope.names.lookup x=some .local)(hi:PI X tg iter wi)
 (hg:∀ s2 H2 cs C fp,PG (c9 X scope (own++cn) s2 H2 cs C fp) tg g) (ht:∀ s2 H2 cs C fp,As (c9 X scope (own++cn) s2 H2 cs C fp) ifs tt)
 (he:∀ s2 H2 cs C fp,PE (c9 X scope (own++cn) s2 H2 cs C fp) elt te) (hc:X.calm=true:=by rfl) (hok:j9 X.env.scope scope own cn X.N js=true:=by kernel_rfl)
 (hsw:A08 (.ListComp elt [⟨tg,iter,ifs,0⟩] scope pos) (some (.Name x px)) spos.line X.env=pure true:=by rfl)
 (hs:∀ x,Zv iter X.env x=pure x:=by intro _;rfl):PS X (.Assign [.Name x px] (.ListComp elt [⟨tg,iter,ifs,0⟩] scope pos) spos) (Fw (Mc wi g tt te own.length js) (Eb i)):=by
 intro pq s σ H D I h;have hok':=hok;unfold j9 at hok';simp only[W6,dQ,Wg,Wv,We,decide_eq_false_iff_not]at hok';obtain⟨⟨⟨⟨⟨⟨k1,k2⟩,k3⟩,k4⟩,k5⟩,k6⟩,k7⟩:=hok'
 have hfree:∀ x∈scope.names,x.2 = .free->∃ c,X.env.cells.lookup x.1=some c:=λx hx hf=>I.ok.has x.1 (by
  rcases k2 x hx with(z | z) | z
  ·exact absurd hf z
  ·exact .inl z
  ·exact .inr z)
 rw[A0G _ _ _ _ hsw];refine Zg (A00 (Zg ?_));show Zl _ X.A (do let _ <- A1n (.ListComp elt [⟨tg,iter,ifs,0⟩] scope pos) scope X.env _ (newList []) false (eval iter X.env) (some (assign (.Name x px) X.env))) _ _ s
 refine Zg (A02 (A01 (use:=some (assign (.Name x px) X.env)) (Q:=λ_ s'=>SP X pq D .next s') rfl hs (m6 hfree) k1 (λx hx hl=>?_)
  (thn (hi pq s σ H _ I h) λv s1 h1=>thn h1 λitv s2 h2=>?_)) (λ_ s' hq=>Zi (Zi hq)) λ_ _ e=>e)
 ·have:=g8 k3 (show(x.1,x.2)∈scope.names from hx);rw[this,hl]
 ·obtain⟨it,fp,tn,J,H2,e,I2,T,st2,f2,q⟩:=h2;subst e;refine Dl (RR:=λacc C=>A0Z (Zm X.prog X.w) X.A X.xe (some (assign (.Name x px) X.env)) (λ_ s'=>SP X pq D .next s') acc C) hok hc hg ht he I2 T st2 f2 (q _ I2.fresh) ?_;intro C H' s' I' fC ⟨m,hn⟩ q';obtain⟨f0,f1,f2',f3,f4,f5⟩:=fC;show Zl _ X.A (assign (.Name x px) X.env (.ref s2.heap.objs.size)) _ _ _;refine A0A (CB I' hN hix (.inl hx) (v := .ref s2.heap.objs.size) rfl (λs3 I3 hch=>?_) (.inr hx));obtain⟨a,hsb,ha⟩:=hch
  have hCa:C≠a:=by
   rcases ha with z | z
   ·rw[z];exact f1
   ·exact λe=>f4 x a z e.symm
  refine⟨m,hn.sameBut hsb hCa,λh' hs'=>?_⟩;exact⟨_,H',I3.turned (t':=s3.toks) (λb o hb e=>(hs'.2 b hb).trans e) f0 f1 f3 f4 f5,q'⟩
end
end L2
namespace PySem
open AutoSeq1 (wpAny_loadPart')
section
variable{prog:Zo}{w:Zq}{A:Zx}{E:Zh->Zj->Prop}{s:Zj}
theorem Bn{it l:Zk}{i:Nat}{items}{x:Zh}{Q:Zh->Zj->Prop}(hit:s.heap.IsTupleIter it l i)
 (hl:s.heap.IsTuple l items) (hx:items[i]?=some x)
 (hQ:∀ h',h'.IsTupleIter it l (i+1)->Wy it s.heap h'->Q x {s with heap:=h'}):
 Zl (Zm prog w) A (Builtin.SmallTypes.nextOf (.ref it)) Q E s:=by
 obtain⟨o,ho,hc,hd⟩:=id hit;obtain⟨ol,hol,_,nl,hdl⟩:=hl;unfold Builtin.SmallTypes.nextOf
 refine Zg (A05 (name:=Str.ofString "__next__") hit.typeIs F.slot_tuple_iterator_next
  (A03 F.slot_tuple_iterator_next hit.typeIs F.entry_tuple_iterator_next ?_ (F.args_tuple_iterator_next_1 _)))
 show Zl _ _ (field (.ref it) 0 >>= _) _ _ s;refine Zg (A0y ho hd (x := .ref l) rfl ?_);show Zl _ _ (if (Value.ref l == Value.none)=true then _ else _) _ _ s;rw[iG (show ¬ ((Value.ref l == Value.none)=true) from WK)];show Zl _ _ (field (.ref it) 1 >>= _) _ _ s;refine Zg (A0y ho hd (x := .int i 0) rfl ?_);show Zl _ _ (seqItems? (.ref l) >>= _) _ _ s;refine Zg (A0N hol hdl ?_);simp only[Xf,hx];refine Zg (A0f ho hd (by simp) (Zi ⟨x,rfl,Zi (hQ _ ?_ (Wy.update ..))⟩))
 exact⟨_,XC _ ho (Obj.isFreed_of_fields (Obj.data_mapFields hd _)),(Obj.cls_mapFields ..).trans hc,by
  rw[Obj.data_mapFields hd];simp[rawInt]⟩
theorem Bv{it l:Zk}{i:Nat}{items}{Q:Zh->Zj->Prop}(hh:A.handled=none)
 (hit:s.heap.IsTupleIter it l i) (hl:s.heap.IsTuple l items) (hx:items[i]?=none)
 (hE:∀ h' e,ZI it s.heap h'->(∃ o,h'.get? e=some o/\o.cls = .type "StopIteration")->E (.ref e) {s with heap:=h'}):
 Zl (Zm prog w) A (Builtin.SmallTypes.nextOf (.ref it)) Q E s:=by
 obtain⟨o,ho,hc,hd⟩:=id hit;obtain⟨ol,hol,_,nl,hdl⟩:=hl;unfold Builtin.SmallTypes.nextOf
 refine Zg (A05 (name:=Str.ofString "__next__") hit.typeIs F.slot_tuple_iterator_next
  (A03 F.slot_tuple_iterator_next hit.typeIs F.entry_tuple_iterator_next ?_ (F.args_tuple_iterator_next_1 _)))
 show Zl _ _ (field (.ref it) 0 >>= _) _ _ s;refine Zg (A0y ho hd (x := .ref l) rfl ?_);show Zl _ _ (if (Value.ref l == Value.none)=true then _ else _) _ _ s;rw[iG (show ¬ ((Value.ref l == Value.none)=true) from WK)];show Zl _ _ (field (.ref it) 1 >>= _) _ _ s;refine Zg (A0y ho hd (x := .int i 0) rfl ?_);show Zl _ _ (seqItems? (.ref l) >>= _) _ _ s;refine Zg (A0N hol hdl ?_);simp only[Xf,hx];refine Zg (A0k (Zg (A0f ho hd (by simp) ?_)))
 first
  | refine Zg (wpAny_letGo ?_)
  | skip
 show Zl _ _ (newExc (.type "StopIteration") [] >>= _) _ _ _;refine Zg ?_;simp only[newExc,newTuple];refine Zg (Zt ?_ (by size_fits));refine Zg (m:=A0O _ _) (A1E (a:=Value.none) (by first | rfl | (simp only[A0O];rfl)) ?_);refine Zt ?_ (by size_fits);simp only[raiseNew];refine Zg (wpAny_handled ?_)
 first | rw[show A.in1.handled=none from hh] | rw[hh]
 refine Zg (Zi (wpAny_throw ?_));exact hE _ _ (((Wy.update ..).extBut.push _).push _) ⟨_,WU _ rfl,rfl⟩
end
theorem Bk{prog:Zo}{w:Zq}{A:Zx}(hh:A.handled=none)(it l:Zk)(hne:l≠it)(items:Array Zh):
 Draws prog w A it [it,l] items.size (λi v=>items[i]?=some v) (λi h=>h.IsTupleIter it l i/\h.IsTuple l items) where
 live:=λ_ _ st=>let ⟨o,ho,_⟩:=st.1;⟨o,ho⟩
 frame:=λ_ _ _ st hk=>⟨st.1.at λo e=>hk it (by simp) o e,let ⟨o,ho,r⟩:=st.2;⟨o,hk l (by simp) o ho,r⟩⟩
 item:=λi s Q E hi st hQ=>by
  refine Bn st.1 st.2 (x:=items[i]) (by simp[hi]) λh' hit' hs'=>?_;exact hQ _ h' s.toks (by simp[hi]) ⟨hit',st.2.extBut hs'.extBut hne⟩ hs'
 done:=λs Q E st hE=>Bv hh st.1 st.2 (by simp) hE
theorem CP(l:Zk)(items:Array Zh)(n:Nat)(dct:Option Zk)(sl:Array (Option Zh)):
 Meets (Builtin.«enumerate.__new__» ⟨[.type "enumerate",.ref l],[]⟩) (λ_ R s=>s.heap.get? l=some {cls := .type "tuple",dict:=dct,data := .seq items n,slots:=sl}/\
  R (.ok (.ret (.ref (s.heap.push {cls := .type "tuple_iterator",data := .fields #[.ref l,.int 0 0]}).objs.size)))
   {s with heap:=(s.heap.push {cls := .type "tuple_iterator",data := .fields #[.ref l,.int 0 0]}).push {cls := .type "enumerate",data := .fields #[.none,.bool false,.ref s.heap.objs.size,rawInt 0,.none,.none]}}):=
 .of_wp λprog w A R s h=>by
  obtain⟨hp,g,d,tk,os⟩:=s;obtain⟨hl,h⟩:=h;have hsub:=sub_enumerate;have hL:Heap.IsTuple (Shared.heap ⟨hp,g,d,tk,os⟩) l items:=⟨_,hl,rfl,n,rfl⟩
  wp_walk using wpAny_loadPart' hl
  refine wpAny_stack_any λst=>Zi ?_;split
  ·rename_i c _ _ _ _ _;cases(c == Value.type "enumerate")
   ·wp_walk using wpAny_loadPart' hl,A0n hL
    exact⟨_,rfl,h⟩
   ·wp_walk using wpAny_loadPart' hl,A0n hL
    exact⟨_,rfl,h⟩
  ·wp_walk using wpAny_loadPart' hl,A0n hL
   exact⟨_,rfl,h⟩
section
variable{prog:Zo}{w:Zq}{A:Zx}{E:Zh->Zj->Prop}{s:Zj}
theorem BM{l:Zk}{items:Array Zh}{Q:Zh->Zj->Prop}(hL:s.heap.IsTuple l items)
 (h:∀ h',IsEnum h' (s.heap.objs.size+1) s.heap.objs.size 0 .none->h'.IsTupleIter s.heap.objs.size l 0->h'.objs.size=s.heap.objs.size+2->
   (∀ b o,s.heap.get? b=some o->h'.get? b=some o)->Q (.ref (s.heap.objs.size+1)) {s with heap:=h'}):
 Zl (Zm prog w) A (call (.type "enumerate") [.ref l]) Q E s:=by
 obtain⟨⟨c,dct,dt,sl⟩,hl,hc,n,hd⟩:=hL;replace hc:c = .type "tuple":=hc;replace hd:dt = .seq items n:=hd;subst hc hd
 refine callType_new F.called_enumerate (by decide) (F.typeCall_enumerate_1 _) (F.newCall_enumerate_1 _) (λobj=>F.args_object_init_2 obj _) F.entry_enumerate_new
  (CP l items n dct sl) ⟨hl,?_⟩
 have hz:(s.heap.push {cls := .type "tuple_iterator",data := .fields #[.ref l,.int 0 0]}).objs.size=s.heap.objs.size+1:=XN ..;show _/\_;rw[hz]
 have he:IsEnum ((s.heap.push {cls := .type "tuple_iterator",data := .fields #[.ref l,.int 0 0]}).push
  {cls := .type "enumerate",data := .fields #[.none,.bool false,.ref s.heap.objs.size,rawInt 0,.none,.none]}) (s.heap.objs.size+1) s.heap.objs.size 0 .none:=by
  have:=WU (s.heap.push {cls := .type "tuple_iterator",data := .fields #[.ref l,.int 0 0]})
   (o:={cls := .type "enumerate",data := .fields #[.none,.bool false,.ref s.heap.objs.size,rawInt 0,.none,.none]}) rfl
  rw[hz]at this;exact this
 refine⟨⟨_,he,rfl⟩,h _ he ⟨_,WD _ (WU _ rfl),rfl,rfl⟩ (by rw[XN,hz]) λb o x=>WD _ (WD _ x)⟩
end
end PySem
namespace L2
open PySem PySem.Spec PyProof.Rows
section
variable{X:Cx}{pq:List (Zk×Obj)}{σ:St}{H:Hp}{s:Zj}{h':Heap}
theorem Inv.turnedL{t':Nat}{ch:List Zk}(I:Inv X pq σ H s)(k:∀ b o,b∉ch->s.heap.get? b=some o->h'.get? b=some o)(hf:∀ b∈ch,FpOk X pq H b):Inv X pq σ H {s with heap:=h',toks:=t'}:=by
 have nit:∀ b u,H b=some u->b∉ch:=λb u e z=>by rw[(hf b z).1]at e;cases e
 refine I.step (g':=s.gens) (d':=s.drawn) (ch:=ch) (λb hb=>?_) (λb o _ _ hc e _=>k b o hc e) (λb o _ _ hc e _=>⟨o.slots,k b o hc e⟩) (λ_ _ _ _ n=>n)
  (λb o hc e=>⟨o,k b o hc e⟩) (λ_ _ e=>e) (λ_ _ _ e=>e) (λb ps e=>⟨#[],by rw[e];simp⟩) (λm hm=>?_) (λb u e=>?_) I.bare
 ·obtain⟨f0,f1,f2,f3,f4,f5⟩:=hf b hb;exact⟨f3,f1,f4,f5⟩
 ·obtain⟨o,es,ep,ho,r⟩:=hm;exact⟨o,es,ep,k _ o (λz=>(hf _ z).2.1 rfl) ho,r⟩
 ·refine(I.hok b u e).stay (λc v hc q=>k c v ?_ q) (λ_ q=>q) λ_ _ q=>q;rcases hc with z | z
  ·rw[z];exact nit b u e
  ·exact nit c _ z
theorem Inv.turnLay{t':Nat}{ch:List Zk}{o:HO}(I:Inv X pq σ H s)(k:∀ b u,b∉ch->s.heap.get? b=some u->h'.get? b=some u)(hf:∀ b∈ch,FpOk X pq H b)
 (new:ObjOk X.prog X.w (upd H s.heap.objs.size o) h' s.heap.objs.size o):Inv X pq σ (upd H s.heap.objs.size o) {s with heap:=h',toks:=t'}:=by
 have hT:H s.heap.objs.size=none:=I.fresh;have nit:∀ b u,H b=some u->b∉ch:=λb u e z=>by rw[(hf b z).1]at e;cases e
 have lt:∀ b u,s.heap.get? b=some u->b≠s.heap.objs.size:=λb u e=>WZ (WR e)
 refine I.step (g':=s.gens) (d':=s.drawn) (ch:=ch) (λb hb=>?_) (λb o _ _ hc e _=>k b o hc e) (λb o _ _ hc e _=>⟨o.slots,k b o hc e⟩) (λb u _ e n=>by rw[upd_ne (lt b u e)];exact n)
  (λb o hc e=>⟨o,k b o hc e⟩) (λb xs e=>by rw[upd_ne (f8 e hT)];exact e) (λb u xs e=>by rw[upd_ne (f8 e hT)];exact e) (λb ps e=>⟨#[],by rw[upd_ne (f8 e hT),e];simp⟩) (λm hm=>?_) (λb u e=>?_) I.bare
 ·obtain⟨f0,f1,f2,f3,f4,f5⟩:=hf b hb;exact⟨f3,f1,f4,f5⟩
 ·obtain⟨o,es,ep,ho,r⟩:=hm;exact⟨o,es,ep,k _ o (λz=>(hf _ z).2.1 rfl) ho,r⟩
 ·by_cases hb:b=s.heap.objs.size
  ·subst hb;rw[f9]at e;cases e;exact new
  ·rw[upd_ne hb]at e;refine(I.hok b u e).stay (λc v hc q=>k c v ?_ q) (λc q=>by rw[upd_ne (f8 q hT)];exact q) λc xs q=>by rw[upd_ne (f8 q hT)];exact q
   rcases hc with z | z
   ·rw[z];exact nit b u e
   ·exact nit c _ z
end
noncomputable def SZ(K:W5)(a:Zk):It:=
 ⟨λi H=>∃ xs x,SqL K H a xs/\xs[i]?=some x,λi H x H'=>∃ p v,H p=none/\x = .ref p/\(∀ xs,SqL K H a xs->xs[i]?=some v)/\H'=upd H p (.tup [.int i,v]),λi H=>∃ xs,SqL K H a xs/\xs.length=i⟩
noncomputable def Sd(K:W5)(a:Zk):It:=
 ⟨λi H=>∃ xs x,SqT K H a xs/\xs[i]?=some x,λi H x H'=>∃ p v,H p=none/\x = .ref p/\(∀ xs,SqT K H a xs->xs[i]?=some v)/\H'=upd H p (.tup [.int i,v]),λi H=>∃ xs,SqT K H a xs/\xs.length=i⟩
theorem Md:2<=Zn:=by decide
theorem IJ{P:Zo}{w:Zq}{K:W5}{elts:List Expr}{kx:Nat}{tp:Pos}(a e it:Zk)(hei:e≠it)(hae:a≠e)(hai:a≠it):Turn P w K (.Tuple elts kx tp) (SZ K a) [e,it] e (λi h=>(∃ old,IsEnum h e it i old)/\h.IsListIter it a i) where
 mem:=by simp
 obj:=λi h st b hb=>by
  rcases WV.mp hb with rfl | hb
  ·obtain⟨⟨old,z⟩,_⟩:=st;exact⟨_,z,λv q=>by cases q⟩
  ·have e':b=it:=by simpa using hb
   subst e';obtain⟨o,q,c,d⟩:=st.2;exact⟨o,q,λv z=>by rw[d]at z;cases z⟩
 keep:=λi h h' st k=>⟨let ⟨old,z⟩:=st.1;⟨old,k e (by simp) _ z⟩,st.2.at λo q=>k it (by simp) o q⟩
 item:=by
  intro X hP hw hK hc i pq s σ H E I hf st hg;subst hP hw hK;obtain⟨xs,x,hq,hx⟩:=hg;obtain⟨its,rv,p,hz⟩:=I.list hq;obtain⟨u,hu,ru⟩:=rv.get hx;obtain⟨⟨old,he⟩,hli⟩:=st
  have hil:i<its.toArray.size:=by
   have:=(gM hu).1;simpa using this
  refine A10 (Draws.list (prog:=X.prog) (w:=X.w) (A:=X.A.in1) (show X.A.in1.handled=none from I.ok.hd hc) it a hai its.toArray) he ⟨hli,p.isList⟩ hil hei (by simp[hei,Ne.symm hae]) λy h' tk hy ho hs' hT hsz hk=>?_
  have hyu:y=u:=by
   have:its.toArray[i]?=some u:=by simpa using hu
   rw[this]at hy;exact(oj hy).symm
  subst hyu;refine⟨_,rfl,?_⟩
  have I1:Inv X pq σ (upd H s.heap.objs.size (.tup [.int i,x])) {s with heap:=h',toks:=tk+1}:=
   I.turnLay (ch:=[e,it]) (λb o hb q=>hk b o (λz=>hb (by simp[z])) (λz=>hb (by simp[z])) q) hf ⟨Md,[.int i tk,y],.cons ⟨tk,rfl⟩ (.cons ru .nil),⟨_,hT,rfl,_,rfl⟩⟩
  refine A0P ho λh2 he2 hs2=>?_
  have hfp1:∀ b∈[e,it],FpOk X pq (upd H s.heap.objs.size (.tup [.int i,x])) b:=λb hb=>by
   obtain⟨f0,f1⟩:=hf b hb
   have hbl:b≠s.heap.objs.size:=by
    rcases WV.mp hb with rfl | hb
    ·exact WZ (WR he)
    ·have e':b=it:=by simpa using hb
     subst e';obtain⟨o,q,_⟩:=hli;exact WZ (WR q)
   exact⟨by rw[upd_ne hbl];exact f0,f1⟩
  have I2:Inv X pq σ (upd H s.heap.objs.size (.tup [.int i,x])) {s with heap:=h2,toks:=tk+1}:=
   Inv.turnedL (s:={s with heap:=h',toks:=tk+1}) (t':=tk+1) (ch:=[e,it]) I1 (λb o hb q=>(hs2.2 b (λz=>hb (by simp[z]))).trans q) hfp1
  refine⟨.ref s.heap.objs.size,_,I2,rfl,⟨_,x,I.fresh,rfl,λys hy=>by rw[I.list_inj hy hq];exact hx,rfl⟩,⟨⟨y,by simpa using he2⟩,hs'.1.extBut hs2.extBut (Ne.symm hei)⟩,λb hb=>(hfp1 b hb).1⟩
 done:=by
   intro X hP hw hK hc i pq s σ H E I hf st hg;subst hP hw hK;obtain⟨xs,hq,hx⟩:=hg;obtain⟨its,rv,p,hz⟩:=I.list hq;obtain⟨⟨old,he⟩,hli⟩:=st;have hl:=rv.length;have hn:its.toArray.size=i:=by simp;omega
   refine A14 (Draws.list (prog:=X.prog) (w:=X.w) (A:=X.A.in1) (show X.A.in1.handled=none from I.ok.hd hc) it a hai its.toArray) he (by rw[hn];exact⟨hli,p.isList⟩) λh' eb=>⟨rfl,I.turnedL (t':=s.toks) (ch:=[e,it]) (λb o hb q=>eb b o (λz=>hb (by simp[z])) q) hf⟩
 self:=λ_ _ _ _ _ st h=>let ⟨old,z⟩:=st.1;A0E z h
theorem IK{P:Zo}{w:Zq}{K:W5}{elts:List Expr}{kx:Nat}{tp:Pos}(a e it:Zk)(hei:e≠it)(hae:a≠e)(hai:a≠it):Turn P w K (.Tuple elts kx tp) (Sd K a) [e,it] e (λi h=>(∃ old,IsEnum h e it i old)/\h.IsTupleIter it a i) where
 mem:=by simp
 obj:=λi h st b hb=>by
  rcases WV.mp hb with rfl | hb
  ·obtain⟨⟨old,z⟩,_⟩:=st;exact⟨_,z,λv q=>by cases q⟩
  ·have e':b=it:=by simpa using hb
   subst e';obtain⟨o,q,c,d⟩:=st.2;exact⟨o,q,λv z=>by rw[d]at z;cases z⟩
 keep:=λi h h' st k=>⟨let ⟨old,z⟩:=st.1;⟨old,k e (by simp) _ z⟩,st.2.at λo q=>k it (by simp) o q⟩
 item:=by
  intro X hP hw hK hc i pq s σ H E I hf st hg;subst hP hw hK;obtain⟨xs,x,hq,hx⟩:=hg;obtain⟨its,rv,p,hz⟩:=I.tuple hq;obtain⟨u,hu,ru⟩:=rv.get hx;obtain⟨⟨old,he⟩,hli⟩:=st
  have hil:i<its.toArray.size:=by
   have:=(gM hu).1;simpa using this
  refine A10 (Bk (prog:=X.prog) (w:=X.w) (A:=X.A.in1) (show X.A.in1.handled=none from I.ok.hd hc) it a hai its.toArray) he ⟨hli,p⟩ hil hei (by simp[hei,Ne.symm hae]) λy h' tk hy ho hs' hT hsz hk=>?_
  have hyu:y=u:=by
   have:its.toArray[i]?=some u:=by simpa using hu
   rw[this]at hy;exact(oj hy).symm
  subst hyu;refine⟨_,rfl,?_⟩
  have I1:Inv X pq σ (upd H s.heap.objs.size (.tup [.int i,x])) {s with heap:=h',toks:=tk+1}:=
   I.turnLay (ch:=[e,it]) (λb o hb q=>hk b o (λz=>hb (by simp[z])) (λz=>hb (by simp[z])) q) hf ⟨Md,[.int i tk,y],.cons ⟨tk,rfl⟩ (.cons ru .nil),⟨_,hT,rfl,_,rfl⟩⟩
  refine A0P ho λh2 he2 hs2=>?_
  have hfp1:∀ b∈[e,it],FpOk X pq (upd H s.heap.objs.size (.tup [.int i,x])) b:=λb hb=>by
   obtain⟨f0,f1⟩:=hf b hb
   have hbl:b≠s.heap.objs.size:=by
    rcases WV.mp hb with rfl | hb
    ·exact WZ (WR he)
    ·have e':b=it:=by simpa using hb
     subst e';obtain⟨o,q,_⟩:=hli;exact WZ (WR q)
   exact⟨by rw[upd_ne hbl];exact f0,f1⟩
  have I2:Inv X pq σ (upd H s.heap.objs.size (.tup [.int i,x])) {s with heap:=h2,toks:=tk+1}:=
   Inv.turnedL (s:={s with heap:=h',toks:=tk+1}) (t':=tk+1) (ch:=[e,it]) I1 (λb o hb q=>(hs2.2 b (λz=>hb (by simp[z]))).trans q) hfp1
  refine⟨.ref s.heap.objs.size,_,I2,rfl,⟨_,x,I.fresh,rfl,λys hy=>by rw[I.tuple_inj hy hq];exact hx,rfl⟩,⟨⟨y,by simpa using he2⟩,hs'.1.extBut hs2.extBut (Ne.symm hei)⟩,λb hb=>(hfp1 b hb).1⟩
 done:=by
   intro X hP hw hK hc i pq s σ H E I hf st hg;subst hP hw hK;obtain⟨xs,hq,hx⟩:=hg;obtain⟨its,rv,p,hz⟩:=I.tuple hq;obtain⟨⟨old,he⟩,hli⟩:=st;have hl:=rv.length;have hn:its.toArray.size=i:=by simp;omega
   refine A14 (Bk (prog:=X.prog) (w:=X.w) (A:=X.A.in1) (show X.A.in1.handled=none from I.ok.hd hc) it a hai its.toArray) he (by rw[hn];exact⟨hli,p⟩) λh' eb=>⟨rfl,I.turnedL (t':=s.toks) (ch:=[e,it]) (λb o hb q=>eb b o (λz=>hb (by simp[z])) q) hf⟩
 self:=λ_ _ _ _ _ st h=>let ⟨old,z⟩:=st.1;A0E z h
section
variable{X:Cx}
noncomputable def Uc(K:W5)(ta:TA):TI:=λσ H R=>ta σ H λvs H1=>∃ a,vs=[.ref a]/\(((∃ xs,SqL K H1 a xs)/\R (SZ K a) H1)\/((∃ xs,SqT K H1 a xs)/\R (Sd K a) H1))
theorem Dm:Zs "enumerate"=some (.type "enumerate"):=by decide +kernel
theorem PB{a:Expr}{ta:TA}{p pos:Pos}{elts:List Expr}{kx:Nat}{tp:Pos}(hg:Gl X "enumerate")(hm:X.mg "enumerate"=none)(ha:PA X [a] ta)(hs:Zp [a] X.env=[(false,eval a X.env)]:=by rfl):
 PI X (.Tuple elts kx tp) (.Call (.Name "enumerate" p) [a] [] pos) (Uc X.K ta):=by
 intro pq s σ H R I h;refine Call_ (B5 I hg hm Dm (PyProof.Rows.callWith_type1 (thn (ha pos pq s σ H _ I h) λus s1 ⟨vs,H1,I1,r1,q1⟩=>?_) hs rfl));obtain⟨l,e,q1⟩:=q1;subst e;cases r1 with
 | cons r rr=>
   cases rr;cases r;rcases q1 with⟨⟨xs,hq⟩,q⟩ | ⟨⟨xs,hq⟩,q⟩
   ·obtain⟨its,rv,pl,hz⟩:=I1.list hq;have hlt:@LT.lt Nat _ l s1.heap.objs.size:=by obtain⟨o,n,e,_⟩:=pl;exact WR e
    refine call_enumerate_list pl.isList λh' he hli hsz hk=>?_;refine A0E he ?_;have I2:Inv X pq σ H1 {s1 with heap:=h'}:=I1.kept (t':=s1.toks) hk;refine⟨s1.heap.objs.size+1,[s1.heap.objs.size+1,s1.heap.objs.size],_,_,H1,rfl,I2,IJ l _ s1.heap.objs.size (show @Ne Nat _ _ by omega) (show @Ne Nat _ _ by omega) (show @Ne Nat _ _ by omega),⟨⟨_,he⟩,hli⟩,λb hb=>?_,q⟩
    have hb2:@LE.le Nat _ s1.heap.objs.size b:=by
     rcases WV.mp hb with rfl | hb
     ·exact Y8 _
     ·have e:b=s1.heap.objs.size:=by simpa using hb
      rw[e];exact WJ _
    exact I1.fpOk hb2 (I1.hok.fresh hb2)
   ·obtain⟨its,rv,pl,hz⟩:=I1.tuple hq;have hlt:@LT.lt Nat _ l s1.heap.objs.size:=by obtain⟨o,e,_⟩:=pl;exact WR e
    refine BM (show s1.heap.IsTuple l its.toArray from pl) λh' he hli hsz hk=>?_;refine A0E he ?_;have I2:Inv X pq σ H1 {s1 with heap:=h'}:=I1.kept (t':=s1.toks) hk;refine⟨s1.heap.objs.size+1,[s1.heap.objs.size+1,s1.heap.objs.size],_,_,H1,rfl,I2,IK l _ s1.heap.objs.size (show @Ne Nat _ _ by omega) (show @Ne Nat _ _ by omega) (show @Ne Nat _ _ by omega),⟨⟨_,he⟩,hli⟩,λb hb=>?_,q⟩
    have hb2:@LE.le Nat _ s1.heap.objs.size b:=by
     rcases WV.mp hb with rfl | hb
     ·exact Y8 _
     ·have e:b=s1.heap.objs.size:=by simpa using hb
      rw[e];exact WJ _
    exact I1.fpOk hb2 (I1.hok.fresh hb2)
end
theorem Kk(its:List Zh)(k:Nat)(y:Zh):(its.toArray.extract 0 k).push y++its.toArray.extract k=(its.take k++y::its.drop k).toArray:=by
 apply Array.toList_inj.mp;simp
 first
  | done
  | exact List.take_of_length_le (by simp)
section
variable{X:Cx}
noncomputable def JX:V->List V->Hp->VK->Prop:=λx vs H Q=>∃ l xs i y,x = .ref l/\vs=[.int i,y]/\H l=some (.lst xs)/\0<=i/\i<=xs.length/\xs.length<Zn/\Q .non (upd H l (.lst (xs.take i.toNat++y::xs.drop i.toNat)))
theorem El:MtM X "list.insert" JX:=by
 intro pq s σ H x vs v us Q I rx rv h;obtain⟨l,xs,i,y,rfl,rfl,hH,h0,h1,hz,q⟩:=h;cases rx;obtain⟨u1,u2,rfl,⟨t,rfl⟩,ru⟩:=Vals.two rv;obtain⟨z,its,n,r,hl,e⟩:=I.lstM hH;have hn:=Cz;refine A0w F.slot_list_insert ⟨_,e,rfl⟩ F.entry_list_insert (F.args_list_insert_3 _ _ _) (AutoSeq1.list_insert_list_int_val_1 l its.toArray n i t u2 (by rw[A1f (by omega) (by omega)];exact WK) (by rw[WG];omega)) ⟨e,?_⟩;refine⟨.non,_,I.lset (its':=its.take i.toNat++u2::its.drop i.toNat) hH e ?_ (Vals.append (r.take _) (.cons ru (r.drop _))) ?_,rfl,q⟩
 ·have hk:(if i<0 then (i+(its.toArray.size:Int)).toNat else min i.toNat its.toArray.size)=i.toNat:=by
   rw[iG (by omega),WG];omega
  show(let k:=if i<0 then (i+(its.toArray.size:Int)).toNat else min i.toNat its.toArray.size;(its.toArray.extract 0 k).push u2++its.toArray.extract k)=_;rw[hk];exact Kk its i.toNat u2
 ·rw[W7,Wp,X8,XD];omega
noncomputable def BN(xs ys:List V):Bool:=xs.length == ys.length&&(xs.zip ys).all λp=>eqV p.1 p.2
noncomputable def PD(K:W5)(neg:Bool):R2:=λx y H Q=>∃ a b xs ys,x = .ref a/\y = .ref b/\SqL K H a xs/\SqL K H b ys/\((xs.all AU=true/\ys.all AU=true)\/xs=[]\/ys=[])/\Q (.bl (if neg then !BN xs ys else BN xs ys)) H
theorem Do{xs ys:List V}(hl:xs.length=ys.length):(WN xs.length).all (λj=>eqV (xs.getD j .non) (ys.getD j .non))=BN xs ys:=by
 have e1:BN xs ys=(xs.zip ys).all λp=>eqV p.1 p.2:=by unfold BN;simp[hl]
 rw[e1,X4,Wg,Wg];constructor
 ·intro h p hp;obtain⟨j,hj,e⟩:=Xc.mp hp;have hj1:j<xs.length:=by simp at hj;omega
  have hj2:j<ys.length:=by omega
  have:=h j (Wt.mpr hj1);rw[<-e];simpa[YC,hj1,hj2] using this
 ·intro h j hj;have hj1:j<xs.length:=Wt.mp hj;have hj2:j<ys.length:=by omega
  have:=h (xs[j],ys[j]) (Xc.mpr ⟨j,by simp;omega,by simp⟩);simpa[YC,hj1,hj2] using this
theorem Dp{xs ys:List V}{us ws:List Zh}{A:Zx}{s:Zj}(r1:Vals xs us)(r2:Vals ys ws)(f:(xs.all AU=true/\ys.all AU=true)\/xs=[]\/ys=[]):
 ∀ j (h1:j<us.toArray.size) (h2:j<ws.toArray.size),SeqAt.EqAt A s us.toArray[j] ws.toArray[j] (eqV (xs.getD j .non) (ys.getD j .non)):=by
 intro j h1 h2;have l1:=r1.length;have l2:=r2.length;simp only[WG]at h1 h2;have hj1:j<xs.length:=by omega
 have hj2:j<ys.length:=by omega
 obtain⟨f1,f2⟩:xs.all AU=true/\ys.all AU=true:=by
  rcases f with f | f | f
  ·exact f
  ·subst f;simp at hj1
  ·subst f;simp at hj2
 obtain⟨u,eu,ru⟩:=r1.get (i:=j) (x:=xs[j]) (by simp[hj1]);obtain⟨w',ew,rw'⟩:=r2.get (i:=j) (x:=ys[j]) (by simp[hj2])
 have e1:us.toArray[j]=u:=by
  have:=gM eu;obtain⟨_,q⟩:=this;simpa using q
 have e2:ws.toArray[j]=w':=by
  obtain⟨_,q⟩:=gM ew;simpa using q
 rw[e1,e2];have g1:xs.getD j .non=xs[j]:=by simp[YC,hj1]
 have g2:ys.getD j .non=ys[j]:=by simp[YC,hj2]
 rw[g1,g2];exact MS ru rw' (Wg.mp f1 _ (Ww hj1)) (Wg.mp f2 _ (Ww hj2))
theorem Se(hu:X.A.units<cLine):OpR X (Zw .Eq) (PD X.K false):=by
 intro pq s σ H x y v u Q I rx ry h;obtain⟨a,b,xs,ys,rfl,rfl,h1,h2,f,q⟩:=h;cases rx;cases ry;obtain⟨its1,r1,p1,_⟩:=I.list h1;obtain⟨its2,r2,p2,_⟩:=I.list h2;have l1:=r1.length;have l2:=r2.length;by_cases hl:xs.length=ys.length
 ·refine SeqAt.eq_listAt p1.isList p2.isList (by simp;omega) hu (Dp r1 r2 f) ⟨.bl _,H,I,rfl,?_⟩;rw[WG,<-l1,Do hl];exact q
 ·refine SeqAt.eq_list_lengthsAt p1.isList p2.isList (by simp;omega) hu ⟨.bl false,H,I,rfl,?_⟩;have e:BN xs ys=false:=by unfold BN;simp[hl]
  rw[show(if false=true then !BN xs ys else BN xs ys)=BN xs ys from rfl,e]at q;exact q
theorem Sf(hu:X.A.units<cLine):OpR X (Zw .NotEq) (PD X.K true):=by
 intro pq s σ H x y v u Q I rx ry h;obtain⟨a,b,xs,ys,rfl,rfl,h1,h2,f,q⟩:=h;cases rx;cases ry;obtain⟨its1,r1,p1,_⟩:=I.list h1;obtain⟨its2,r2,p2,_⟩:=I.list h2;have l1:=r1.length;have l2:=r2.length;by_cases hl:xs.length=ys.length
 ·refine(SeqAt.RcNeAt.lists p1.isList p2.isList (by simp;omega) hu (Dp r1 r2 f)) _ _ _ _ ?_;refine⟨.bl _,H,I,rfl,?_⟩;rw[WG,<-l1,Do hl];exact q
 ·refine(SeqAt.RcNeAt.lists_lengths p1.isList p2.isList (by simp;omega) hu) _ _ _ _ ?_;refine⟨.bl true,H,I,rfl,?_⟩;have e:BN xs ys=false:=by unfold BN;simp[hl]
  rw[show(if true=true then !BN xs ys else BN xs ys)=!BN xs ys from rfl,e]at q;exact q
theorem call_isi1:CallR X (.builtin "isinstance") (λxs H Q=>∃ x T t b,xs=[x,.ty T]/\TyOf X.K H x t/\PySem.W.kitOne X.K t (.type T)=some b/\Q (.bl b) H):=by
 intro pq s σ H xs us Q I r h;obtain⟨x,T,t,b,rfl,ty,e,q⟩:=h;obtain⟨u1,u2,rfl,r1,r2⟩:=Vals.two r;cases r2;exact Kf I r1 ty e λtk=>⟨.bl b,H,I.tok tk,rfl,q⟩
theorem IL{pq:List (Zk×Obj)}{σ:St}{H:Hp}{s:Zj}{A:Zx}{E:Zh->Zj->Prop}{Q:Zh->Zj->Prop}{b:Bool}{x:V}{u t:Zh}{tp:Zk}{dd:Option Zk}{its:List Zh}{n:Nat}{sl:Array (Option Zh)}(I:Inv X pq σ H s)(rx:RelV x u)(ty:TyOf X.K H x t)
 (htp:s.heap.get? tp=some ⟨.type "tuple",dd,.seq its.toArray n,sl⟩) (e:PySem.W.kitAny X.K t its=some b) (h:∀ tk,Q (.bool b) {s with toks:=tk}):
 Zl (Zm X.prog X.w) A (call (.builtin "isinstance") [u,.ref tp]) Q E s:=by
 cases ty with
 | non=>cases(show u=Value.none from rx);exact PySem.W.kia_tup PySem.W.kitx_none I.kIn True.intro htp e (λz=>nomatch z) h
 | bl y=>cases(show u=Value.bool y from rx);exact PySem.W.kia_tup PySem.W.kitx_bool I.kIn True.intro htp e (λz=>nomatch z) h
 | int i=>obtain⟨t,q⟩:=(show ∃ t,u=Value.int i t from rx);cases q;exact PySem.W.kia_tup PySem.W.kitx_int I.kIn True.intro htp e (λz=>nomatch z) h
 | str y=>obtain⟨t,q⟩:=(show ∃ t,u=Value.str y t from rx);cases q;exact PySem.W.kia_tup PySem.W.kitx_str I.kIn True.intro htp e (λz=>nomatch z) h
 | flt y=>obtain⟨t,q⟩:=(show ∃ t,u=Value.float y t from rx);cases q;exact PySem.W.kia_tup PySem.W.kitx_float I.kIn True.intro htp e (λz=>nomatch z) h
 | @lst a xs ea=>
   cases(show u=Value.ref a from rx);obtain⟨_,_,n,_,h1⟩:=(show ObjOk X.prog X.w H s.heap a (.lst xs) from I.hok a _ ea)
   exact PySem.W.kia_tup PySem.W.kitx_list I.kIn ⟨_,h1,rfl⟩ htp e (λz=>nomatch z) h
 | @frz a ob xs ea=>
   cases(show u=Value.ref a from rx);obtain⟨_,_,_,n,_,h1⟩:=(show ObjOk X.prog X.w H s.heap a (.frz ob (.lst xs)) from I.hok a _ ea)
   exact PySem.W.kia_tup PySem.W.kitx_list I.kIn ⟨_,h1,rfl⟩ htp e (λz=>nomatch z) h
 | @tup a xs ea=>
   cases(show u=Value.ref a from rx);obtain⟨_,_,_,p⟩:=(show ObjOk X.prog X.w H s.heap a (.tup xs) from I.hok a _ ea)
   obtain⟨o,h1,h2,_⟩:=p;exact PySem.W.kia_tup PySem.W.kitx_tuple I.kIn ⟨o,h1,h2⟩ htp e (λz=>nomatch z) h
 | @dK a kvs ea=>
   cases(show u=Value.ref a from rx);obtain⟨_,_,vs,_,p⟩:=(show ObjOk X.prog X.w H s.heap a (.dK kvs) from I.hok a _ ea)
   obtain⟨o,es,ep,h1,h2,_⟩:=p;exact PySem.W.kia_tup PySem.W.kitx_dict I.kIn ⟨o,h1,h2.1⟩ htp e (λz=>nomatch z) h
 | @dT a kvs ea=>
   cases(show u=Value.ref a from rx);obtain⟨_,_,xs,_,o,es,ep,h1,h2,_⟩:=(show ObjOk X.prog X.w H s.heap a (.dT kvs) from I.hok a _ ea)
   exact PySem.W.kia_tup PySem.W.kitx_dict I.kIn ⟨o,h1,h2.1⟩ htp e (λz=>nomatch z) h
 | @ins a C dx fs ea cl ha hn htk hm=>
   cases(show u=Value.ref a from rx);obtain⟨mA,O,_⟩:=JP I.hok ea;obtain⟨od,J,_⟩:=O.look;exact PySem.W.kia_tup (PySem.W.kitx_own (cl.get _) cl.hd ha hn htk hm) I.kIn J htp e (λz=>nomatch z) h
theorem JY:∀(Ts:List String) {us:List Zh},Vals (Ts.map V.ty) us->us=Ts.map Value.type
 | [],_,.nil=>rfl
 | T::r,_,.cons h t=>by cases h;rw[JY r t];rfl
theorem Kl:CallR X (.builtin "isinstance") (λxs H Q=>∃(x:V) (p:Zk) (Ts:List String) (t:Zh) (b:Bool),xs=[x,.ref p]/\H p=some (.tup (Ts.map V.ty))/\TyOf X.K H x t/\PySem.W.kitAny X.K t (Ts.map Value.type)=some b/\Q (.bl b) H):=by
 intro pq s σ H xs us Q I r h;obtain⟨x,p,Ts,t,b,rfl,hp,ty,e,q⟩:=h;obtain⟨u1,u2,rfl,r1,r2⟩:=Vals.two r;cases r2;obtain⟨_,its,rv,⟨⟨c,dd,dt,sl⟩,h1,h2,n,h3⟩⟩:=(show ObjOk X.prog X.w H s.heap p (.tup (Ts.map V.ty)) from I.hok p _ hp)
 have ei:=JY Ts rv;subst ei;replace h2:c = .type "tuple":=h2;replace h3:dt = .seq (Ts.map Value.type).toArray n:=h3;subst h2 h3;exact IL I r1 ty h1 e λtk=>⟨.bl b,H,I.tok tk,rfl,q⟩
theorem Km(hc:X.calm=true):CallR X (.builtin "all") (λxs H Q=>∃(a:Zk) (bs:List Bool),xs=[.ref a]/\SqL X.K H a (bs.map V.bl)/\Q (.bl (bs.all id)) H):=by
 intro pq s σ H xs us Q I r h;obtain⟨a,bs,rfl,hq,q⟩:=h;obtain⟨u,rfl,ru⟩:=Bj r;cases ru;obtain⟨its,rv,pl,hz⟩:=I.list hq;have hl:=rv.length;rw[W8]at hl;refine call_all_walk (A0F pl.isList ?_);have hlt:a<s.heap.objs.size:=by obtain⟨o,n,e,_⟩:=pl;exact WR e
 refine⟨s.heap.objs.size,_,_,_,_,_,λi=>bs.getD i false,rfl,Walks.list (by exact I.ok.hd hc) s.heap.objs.size a (WZ hlt) its.toArray,⟨⟨_,WU _ rfl,rfl,rfl⟩,pl.isList.push _⟩,?_,λh' tk hk=>?_⟩
 ·intro i v s' Q' E' hv hQ';have hv':its[i]?=some v:=by simpa using hv
  have hi:i<its.length:=(gM hv').1;have hb:(bs.map V.bl)[i]?=some (.bl (bs[i]'(by omega))):=by simp
  obtain⟨u',eu,ru'⟩:=rv.get hb;rw[hv']at eu;cases eu;cases ru';have hg:bs.getD i false=bs[i]'(by omega):=by simp[YC,show i<bs.length by omega]
  have hQ2:Q' (bs.getD i false) s':=hQ';rw[hg]at hQ2;exact Zy hQ2
 ·have I1:Inv X pq σ H {s with heap:=h',toks:=tk}:=I.kept λb o e=>hk b o (by simp;exact WZ (WR e)) (WD _ e);refine⟨.bl _,H,I1,rfl,?_⟩
  have e:(WN its.toArray.size).all (λi=>bs.getD i false)=bs.all id:=by
   rw[WG,<-hl,X4,Wg,Wg];constructor
   ·intro h b hb;obtain⟨j,hj,e⟩:=Xc.mp hb;have:=h j (Wt.mpr hj);simpa[YC,hj,e] using this
   ·intro h j hj;have hj1:j<bs.length:=Wt.mp hj;have:=h bs[j] (Ww hj1);simpa[YC,hj1] using this
  rw[e];exact q
theorem Kn:CallR X (.type "range") (λxs H Q=>∃ b,xs=[.int b]/\∀ p,H p=none->Q (.ref p) (upd H p (.rng 0 b))):=by
 intro pq s σ H xs us Q I r h;obtain⟨b,rfl,q⟩:=h;obtain⟨u1,rfl,⟨t,rfl⟩⟩:=Bj r;refine call_range_1 ⟨.ref s.heap.objs.size,_,I.laid (o := .rng 0 b) (λb o e=>WD _ e) (WJ _) ⟨_,_,_,WU _ rfl⟩,rfl,q _ I.fresh⟩
noncomputable def Ko(lo:Int)(n:Nat):List V:=(WN n).map λ(i:Nat)=>V.int (lo+(i:Int))
theorem GC(lo:Int)(n:Nat):(Ko lo n).length=n:=by unfold Ko;simp
theorem FI(hc:X.calm=true):CallR X (.type "list") (λxs H Q=>∃ p a b,xs=[.ref p]/\H p=some (.rng a b) /\ -(2 ^ 62)<=a/\a<2 ^ 62 /\ -(2 ^ 62)<=b/\b<2 ^ 62/\(b - a).toNat<=100000/\∀ l,H l=none->Q (.ref l) (upd H l (.lst (Ko a (b - a).toNat)))):=by
 intro pq s σ H xs us Q I r h;obtain⟨p,a,b,rfl,hp,h1,h2,h3,h4,h5,q⟩:=h;obtain⟨u,rfl,ru⟩:=Bj r;cases ru;obtain⟨t,u',v,ho⟩:=(show ObjOk X.prog X.w H s.heap p (.rng a b) from I.hok p _ hp)
 have hn:Builtin.Range.rangeSize a b 1=(((b - a).toNat:Nat):Int):=by rw[rangeSize_one];split<;>omega
 refine call_list_range (I.ok.hd hc) (show IsRange s.heap p a b 1 t u' v from ho) (small_one h1 h2 h3 h4) hn (by omega) λh' tk acc c' kp e hi=>?_;have hz:(b - a).toNat<=Zn:=Ws h5 (by decide);refine⟨.ref s.heap.objs.size,_,I.laid kp (WJ _) (show ObjOk X.prog X.w _ h' _ (.lst (Ko a (b - a).toNat)) from ⟨by rw[GC];exact hz,acc.toList,c',?_,by simpa using e⟩),rfl,q _ I.fresh⟩;obtain⟨hs,hv⟩:=hi
 have key:∀(n:Nat) (l:List Zh) (lo:Int),l.length=n->(∀(j:Nat) (v:Zh),l[j]?=some v->∃ t,v=Value.int (lo+(j:Int)) t)->Vals ((WN n).map λ(i:Nat)=>V.int (lo+(i:Int))) l:=by
  intro n
  induction n with
  | zero=>intro l lo hl _;cases l with | nil=>exact .nil | cons _ _=>simp at hl
  | succ n ih=>
    intro l lo hl hv;cases l with
    | nil=>simp at hl
    | cons x r=>
      rw[List.range_succ_eq_map,Wo,Xg];refine .cons ?_ ?_
      ·obtain⟨t,e⟩:=hv 0 x (by simp);exact⟨t,e⟩
      ·have:=ih r (lo+1) (by simpa using hl) λj v hj=>by
        obtain⟨t,e⟩:=hv (j+1) v (by simpa using hj);refine⟨t,?_⟩;rw[e]
        congr 1
        omega
       have e2:((λ(i:Nat)=>V.int (lo+(i:Int)))∘Nat.succ)=λ(i:Nat)=>V.int (lo+1+(i:Int)):=by
        funext i
        show V.int (lo+((i+1:Nat):Int))=V.int (lo+1+(i:Int))
        congr 1
        omega
       rw[e2];exact this
 refine key _ _ a (by simpa using hs) λj v hj=>?_;obtain⟨t,e⟩:=hv j v (by simpa using hj);exact⟨t,by rw[e];congr 1;omega⟩
end
def srt(ns:List Int):List Int:=ns.mergeSort (λa b=>decide (a<=b))
theorem Ai(ns:List Int):(srt ns).Perm ns:=List.mergeSort_perm _ _
theorem IM(ns:List Int):(srt ns).Pairwise (·<=·):=by
 have h:=List.pairwise_mergeSort (le:=λ(a b:Int)=>decide (a<=b)) (λa b c h1 h2=>by simp only[dQ]at *;omega) (λa b=>by simp only[Wv,dQ];omega) ns;exact h.imp λh=>of_decide_eq_true h
theorem IN{ns ns':List Int}(hp:ns'.Perm ns)(hs:ns'.Pairwise (·<=·)):ns'=srt ns:=
 List.Perm.eq_of_pairwise (λ_ _ _ _ a b=>Int.le_antisymm a b) hs (IM ns) (hp.trans (Ai ns).symm)
theorem AN:∀{ns:List Int} {us:List Zh},Vals (ns.map V.int) us->IntsAre us ns
 | [],_,.nil => .nil
 | _::_,_,.cons ⟨_,e⟩ t=>by subst e;exact .cons _ _ (AN t)
theorem CD:∀{ns:List Int} {us:List Zh},IntsAre us ns->Vals (ns.map V.int) us
 | _,_,.nil => .nil
 | _,_,.cons _ _ t => .cons ⟨_,rfl⟩ (CD t)
theorem Me:Zs "sorted"=some (.builtin "sorted"):=by decide +kernel
section
variable{X:Cx}
theorem GD:CallR X (.builtin "sorted") (λxs H Q=>∃ p ns,xs=[.ref p]/\SqL X.K H p (ns.map V.int)/\ns.length<64/\∀ l,H l=none->Q (.ref l) (upd H l (.lst ((srt ns).map V.int)))):=by
 intro pq s σ H xs us Q I r h;obtain⟨p,ns,rfl,hq,h64,q⟩:=h;obtain⟨u,rfl,rx⟩:=Bj r;cases rx;obtain⟨its,r',pl,hz⟩:=I.list hq;have hlen:=r'.length;rw[W8]at hlen;refine sorted_ints pl.isList (AN r') (by omega) λout ns' a1 a2 a3=>?_;obtain⟨e,he⟩:=sortedAll_at s.heap its out;have en:=IN a2 a3;subst en;refine⟨.ref (s.heap.objs.size+1),_,I.laid (t':=s.toks) (λb o h=>sortedAll_old h) (Y8 _) (show ObjOk X.prog X.w _ _ _ (.lst ((srt ns).map V.int)) from ⟨?_,out.toList,e,CD a1,by simpa using he⟩),rfl,q _ (I.hok.fresh (Y8 _))⟩;rw[W8,a2.length_eq];exact Ws (XY h64) (by decide)
end
end L2
set_option maxHeartbeats 1000000
namespace Rf
open PySem L2
inductive TyN where
 | int | bool | str | list | tuple | none
 deriving DecidableEq
noncomputable def TyN.nm:TyN->String
 | .int=>"int" | .bool=>"bool" | .str=>"str" | .list=>"list" | .tuple=>"tuple" | .none=>"NoneType"
inductive SV where
 | non | bl (b:Bool) | int (i:Int) | str (x:Str) | tup (xs:List SV) | loc (k:Nat) | ro (xs:List SV) | ty (t:TyN)
inductive SO where
 | lst (xs:List SV)
 | iset (ms:List Int)
 | dct (kvs:List (Int×SV)) | dcf (o:Obj) (ks:List (Key×V)) (kvs:List (Int×SV))
abbrev Sto:=List SO
abbrev EnvS:=List (Option SV)
noncomputable def FzL(K:W5)(H:Hp)(a:Zk)(vs:List V):Prop:=(∃ o,H a=some (.frz o (.lst vs)))\/
 ∃(o:Obj) (its:Array Zh) (n:Nat),K.lookup a=some o/\o.cls = .type "list"/\o.dict=none/\o.data = .seq its n/\its.size<=Zn/\Vals vs its.toList
theorem FzL.sq{K:W5}{H:Hp}{a:Zk}{vs:List V}(h:FzL K H a vs):SqL K H a vs:=h.imp (λ⟨o,e⟩ => .inr ⟨o,e⟩) id
mutual
noncomputable def Rl(K:W5)(as:List Zk)(H:Hp):V->SV->Prop
 | v,.non=>v = .non
 | v,.bl b=>v = .bl b
 | v,.int i=>v = .int i
 | v,.str x=>v = .str x
 | v,.tup xs=>∃ p vs,v = .ref p/\H p=some (.tup vs)/\RlAll K as H vs xs
 | v,.loc k=>∃ a,as[k]?=some a/\v = .ref a
 | v,.ro xs=>∃ a vs,v = .ref a/\FzL K H a vs/\RlAll K as H vs xs
 | v,.ty t=>v = .ty t.nm
noncomputable def RlAll(K:W5)(as:List Zk)(H:Hp):List V->List SV->Prop
 | vs,[]=>vs=[]
 | vs,x::xs=>∃ v r,vs=v::r/\Rl K as H v x/\RlAll K as H r xs
end
def imm:HO->Bool
 | .tup _=>true
 | .frz _ (.lst _)=>true
 | _=>false
def KeepU(H H':Hp):Prop:=∀ b o,H b=some o->imm o=true->H' b=some o
theorem KeepU.refl(H:Hp):KeepU H H:=λ_ _ h _=>h
theorem KeepU.trans{H H' H'':Hp}(a:KeepU H H')(b:KeepU H' H''):KeepU H H'':=λx o h i=>b x o (a x o h i) i
theorem BP{H:Hp}{p:Zk}{o:HO}(hp:H p=none):KeepU H (upd H p o):=λb u h _=>by
 rw[upd_ne (f8 h hp)];exact h
theorem Aw{H:Hp}{a:Zk}{u o:HO}(h:H a=some u)(i:imm u=false):KeepU H (upd H a o):=λb v hb iv=>by
 rw[upd_ne (Qx hb h (by intro z;rw[z,i]at iv;cases iv))];exact hb
theorem FzL.mono{K:W5}{H H':Hp}{a:Zk}{vs:List V}(k:KeepU H H')(h:FzL K H a vs):FzL K H' a vs:=h.imp (λ⟨o,e⟩=>⟨o,k _ _ e rfl⟩) id
theorem PF{α:Type}{as as':List α}(h:as <+: as'){k:Nat}{a:α}(e:as[k]?=some a):as'[k]?=some a:=by
 obtain⟨t,rfl⟩:=h;rw[WX ((gM e).1)];exact e
mutual
theorem Rl.mono{K:W5}{as as':List Zk}{H H':Hp}(ha:as <+: as')(hH:KeepU H H'):∀(x:SV) (v:V),Rl K as H v x->Rl K as' H' v x
 | .non,v,h=>by unfold Rl at h ⊢;exact h
 | .bl _,v,h=>by unfold Rl at h ⊢;exact h
 | .int _,v,h=>by unfold Rl at h ⊢;exact h
 | .str _,v,h=>by unfold Rl at h ⊢;exact h
 | .tup xs,v,h=>by
   unfold Rl at h ⊢;obtain⟨p,vs,e,hp,h⟩:=h;exact⟨p,vs,e,hH p _ hp rfl,RlAll.mono ha hH xs vs h⟩
 | .ro xs,v,h=>by
   unfold Rl at h ⊢;obtain⟨p,vs,e,hp,h⟩:=h;exact⟨p,vs,e,hp.mono hH,RlAll.mono ha hH xs vs h⟩
 | .ty _,v,h=>by unfold Rl at h ⊢;exact h
 | .loc k,v,h=>by
   unfold Rl at h ⊢;obtain⟨a,e,z⟩:=h;exact⟨a,PF ha e,z⟩
theorem RlAll.mono{K:W5}{as as':List Zk}{H H':Hp}(ha:as <+: as')(hH:KeepU H H'):∀(xs:List SV) (vs:List V),RlAll K as H vs xs->RlAll K as' H' vs xs
 | [],vs,h=>by unfold RlAll at h ⊢;exact h
 | x::xs,vs,h=>by
   unfold RlAll at h ⊢;obtain⟨v,r,e,h1,h2⟩:=h;exact⟨v,r,e,Rl.mono ha hH x v h1,RlAll.mono ha hH xs r h2⟩
end
section
variable{K:W5}{as:List Zk}{H:Hp}
theorem rl_non{v:V}:Rl K as H v .non↔v = .non:=by unfold Rl;exact Iff.rfl
theorem rl_bl{v:V}{b:Bool}:Rl K as H v (.bl b)↔v = .bl b:=by unfold Rl;exact Iff.rfl
theorem rl_int{v:V}{i:Int}:Rl K as H v (.int i)↔v = .int i:=by unfold Rl;exact Iff.rfl
theorem rl_str{v:V}{x:Str}:Rl K as H v (.str x)↔v = .str x:=by unfold Rl;exact Iff.rfl
theorem rl_tup{v:V}{xs:List SV}:Rl K as H v (.tup xs)↔∃ p vs,v = .ref p/\H p=some (.tup vs)/\RlAll K as H vs xs:=by rw[Rl]
theorem rl_loc{v:V}{k:Nat}:Rl K as H v (.loc k)↔∃ a,as[k]?=some a/\v = .ref a:=by unfold Rl;exact Iff.rfl
theorem rl_ro{v:V}{xs:List SV}:Rl K as H v (.ro xs)↔∃ a vs,v = .ref a/\FzL K H a vs/\RlAll K as H vs xs:=by rw[Rl]
theorem rl_ty{v:V}{n:TyN}:Rl K as H v (.ty n)↔v = .ty n.nm:=by unfold Rl;exact Iff.rfl
theorem rla_nil{vs:List V}:RlAll K as H vs []↔vs=[]:=by unfold RlAll;exact Iff.rfl
theorem rla_cons{vs:List V}{x:SV}{xs:List SV}:RlAll K as H vs (x::xs)↔∃ v r,vs=v::r/\Rl K as H v x/\RlAll K as H r xs:=by rw[RlAll]
theorem RlAll.nil:RlAll K as H [] []:=rla_nil.mpr rfl
theorem RlAll.cons{v:V}{x:SV}{vs:List V}{xs:List SV}(h:Rl K as H v x)(t:RlAll K as H vs xs):RlAll K as H (v::vs) (x::xs):=rla_cons.mpr ⟨v,vs,rfl,h,t⟩
theorem RlAll.length:∀{xs:List SV} {vs:List V},RlAll K as H vs xs->vs.length=xs.length
 | [],_,h=>by rw[rla_nil.mp h];rfl
 | x::xs,_,h=>by
   obtain⟨v,r,rfl,_,t⟩:=rla_cons.mp h;simp[t.length]
theorem RlAll.get:∀{xs:List SV} {vs:List V} {i:Nat} {x:SV},RlAll K as H vs xs->xs[i]?=some x->∃ v,vs[i]?=some v/\Rl K as H v x
 | [],_,i,_,_,e=>by simp at e
 | y::xs,_,0,_,h,e=>by
   obtain⟨v,r,rfl,a,_⟩:=rla_cons.mp h;simp at e;subst e;exact⟨v,rfl,a⟩
 | y::xs,_,i+1,_,h,e=>by
   obtain⟨v,r,rfl,_,t⟩:=rla_cons.mp h;simpa using t.get (by simpa using e)
theorem RlAll.append:∀{xs ys:List SV} {vs us:List V},RlAll K as H vs xs->RlAll K as H us ys->RlAll K as H (vs++us) (xs++ys)
 | [],_,_,_,h,h'=>by rw[rla_nil.mp h];exact h'
 | x::xs,_,_,_,h,h'=>by
   obtain⟨v,r,rfl,a,t⟩:=rla_cons.mp h;exact .cons a (t.append h')
theorem RlAll.take:∀{xs:List SV} {vs:List V} (n:Nat),RlAll K as H vs xs->RlAll K as H (vs.take n) (xs.take n)
 | _,_,0,_=>by simpa using RlAll.nil
 | [],_,n+1,h=>by rw[rla_nil.mp h];exact .nil
 | x::xs,_,n+1,h=>by
   obtain⟨v,r,rfl,a,t⟩:=rla_cons.mp h;exact .cons a (t.take n)
theorem RlAll.drop:∀{xs:List SV} {vs:List V} (n:Nat),RlAll K as H vs xs->RlAll K as H (vs.drop n) (xs.drop n)
 | _,_,0,h=>h
 | [],_,n+1,h=>by rw[rla_nil.mp h];exact .nil
 | x::xs,_,n+1,h=>by
   obtain⟨v,r,rfl,a,t⟩:=rla_cons.mp h;exact t.drop n
theorem RlAll.set{x:SV}{v:V}(hx:Rl K as H v x):∀{xs:List SV} {vs:List V} (n:Nat),RlAll K as H vs xs->RlAll K as H (vs.set n v) (xs.set n x)
 | [],_,n,h=>by rw[rla_nil.mp h];exact .nil
 | y::xs,_,0,h=>by
   obtain⟨_,r,rfl,_,t⟩:=rla_cons.mp h;exact .cons hx t
 | y::xs,_,n+1,h=>by
   obtain⟨_,r,rfl,a,t⟩:=rla_cons.mp h;exact .cons a (t.set hx n)
theorem RlAll.rev:∀{xs:List SV} {vs:List V},RlAll K as H vs xs->RlAll K as H vs.reverse xs.reverse
 | [],_,h=>by rw[rla_nil.mp h];exact .nil
 | x::xs,_,h=>by
   obtain⟨v,r,rfl,a,t⟩:=rla_cons.mp h;rw[Xw,Xw];exact t.rev.append (.cons a .nil)
theorem RlAll.ins{x:SV}{v:V}(hx:Rl K as H v x){xs:List SV}{vs:List V}(h:RlAll K as H vs xs)(n:Nat):RlAll K as H (vs.take n++v::vs.drop n) (xs.take n++x::xs.drop n):=(h.take n).append (.cons hx (h.drop n))
theorem RlAll.ints{is:List Int}:RlAll K as H (is.map V.int) (is.map SV.int):=by
 induction is with
 | nil=>exact .nil
 | cons i is ih=>exact .cons (rl_int.mpr rfl) ih
end
noncomputable def RlD(K:W5)(as:List Zk)(H:Hp):List (Key×V)->List (Int×SV)->Prop
 | ks,[]=>ks=[]
 | ks,p::r=>∃ v t,ks=(.inl p.1,v)::t/\Rl K as H v p.2/\RlD K as H t r
theorem RlD.mono{K:W5}{as as':List Zk}{H H':Hp}(ha:as <+: as')(hH:KeepU H H'):∀(kvs:List (Int×SV)) (ks:List (Key×V)),RlD K as H ks kvs->RlD K as' H' ks kvs
 | [],_,h=>h
 | p::r,_,⟨v,t,e,h1,h2⟩=>⟨v,t,e,Rl.mono ha hH p.2 v h1,RlD.mono ha hH r t h2⟩
noncomputable def RlO(K:W5)(as:List Zk)(H:Hp)(a:Zk):SO->Prop
 | .lst xs=>∃ vs,H a=some (.lst vs)/\RlAll K as H vs xs
 | .iset ms=>∃ F,H a=some (.set F ms.length)/\∀ k,F k=decide (k∈ms)
 | .dct kvs=>∃ ks,H a=some (.dK ks)/\RlD K as H ks kvs
 | .dcf o ks kvs=>H a=some (.frz o (.dK ks))/\RlD K as H ks kvs
structure Ok(K:W5)(as:List Zk)(H:Hp)(S:Sto):Prop where
 len:as.length=S.length
 nd:as.Nodup
 obj:∀(k:Nat) (o:SO) (a:Zk),S[k]?=some o->as[k]?=some a->RlO K as H a o
noncomputable def EnvOk(K:W5)(as:List Zk)(H:Hp)(σ:St)(ρ:EnvS):Prop:=σ.length=ρ.length/\∀(i:Nat) (x:SV),ρ[i]?=some (some x)->∃ v,σ[i]?=some (some v)/\Rl K as H v x
theorem EnvOk.mono{K:W5}{as as':List Zk}{H H':Hp}{σ:St}{ρ:EnvS}(h:EnvOk K as H σ ρ)(ha:as <+: as')(hH:KeepU H H'):EnvOk K as' H' σ ρ:=⟨h.1,λi x e=>let ⟨v,a,b⟩:=h.2 i x e;⟨v,a,Rl.mono ha hH x v b⟩⟩
theorem EnvOk.set{K:W5}{as:List Zk}{H:Hp}{σ:St}{ρ:EnvS}(h:EnvOk K as H σ ρ){i:Nat}{v:V}{x:SV}(hx:Rl K as H v x):EnvOk K as H (σ.set i (some v)) (ρ.set i (some x)):=⟨by rw[Wc,Wc];exact h.1,λj y e=>by
 by_cases hij:i=j
 ·subst hij;have hi:i<ρ.length:=by have:=(gM e).1;rwa [Wc]at this
  rw[Wk hi]at e;rw[Wk (by rw[h.1];exact hi)];cases e;exact⟨v,rfl,hx⟩
 ·rw[Wx hij]at e ⊢;exact h.2 j y e⟩
section
variable{K:W5}{as:List Zk}{H:Hp}{S:Sto}
theorem RlO.mono{as':List Zk}{H':Hp}{a:Zk}(ha:as <+: as')(hH:KeepU H H')(e:∀ u,H a=some u->H' a=some u):∀{o:SO},RlO K as H a o->RlO K as' H' a o
 | .lst xs,⟨vs,h1,h2⟩=>⟨vs,e _ h1,RlAll.mono ha hH xs vs h2⟩
 | .iset ms,⟨F,h1,h2⟩=>⟨F,e _ h1,h2⟩
 | .dct kvs,⟨ks,h1,h2⟩=>⟨ks,e _ h1,RlD.mono ha hH kvs ks h2⟩
 | .dcf _ ks kvs,⟨h1,h2⟩=>⟨e _ h1,RlD.mono ha hH kvs ks h2⟩
theorem RlO.some{a:Zk}:∀{o:SO},RlO K as H a o->∃ u,H a=some u/\imm u=false
 | .lst _,⟨_,h,_⟩=>⟨_,h,rfl⟩
 | .iset _,⟨_,h,_⟩=>⟨_,h,rfl⟩
 | .dct _,⟨_,h,_⟩=>⟨_,h,rfl⟩
 | .dcf _ _ _,⟨h,_⟩=>⟨_,h,rfl⟩
theorem Ok.at(h:Ok K as H S){k:Nat}{o:SO}(e:S[k]?=some o):∃ a,as[k]?=some a/\RlO K as H a o:=by
 have hk:k<as.length:=by rw[h.len];exact(gM e).1
 exact⟨as[k],WB hk,h.obj k o _ e (WB hk)⟩
theorem Ok.of(h:Ok K as H S){k:Nat}{a:Zk}(e:as[k]?=some a):∃ o,S[k]?=some o/\RlO K as H a o:=by
 have hk:k<S.length:=by rw[<-h.len];exact(gM e).1
 exact⟨S[k],WB hk,h.obj k _ a (WB hk) e⟩
theorem Ok.new(h:Ok K as H S){p:Zk}{o:HO}(hp:H p=none):Ok K as (upd H p o) S:=⟨h.len,h.nd,λk u a e ea=>by
 have r:=h.obj k u a e ea;obtain⟨z,hz,_⟩:=r.some;exact r.mono (Wl as) (BP hp) λvs hv=>by rw[upd_ne (f8 hz hp)];exact hv⟩
theorem Ok.free(h:Ok K as H S){p:Zk}(hp:H p=none):p∉as:=λhm=>by
 obtain⟨k,hk⟩:=Wq hm;obtain⟨o,_,r⟩:=h.of hk;obtain⟨z,hz,_⟩:=r.some;rw[hp]at hz;cases hz
theorem Ok.pushO(h:Ok K as H S){p:Zk}(hp:H p=none){u:HO}{x:SO}(r:RlO K (as++[p]) (upd H p u) p x):Ok K (as++[p]) (upd H p u) (S++[x]):=by
 have pre:as <+: as++[p]:=XO _ _;refine⟨by rw[W7,W7,h.len];rfl,?_,λk o a e ea=>?_⟩
 ·rw[XJ];refine⟨h.nd,by simp,λa ha b hb=>?_⟩;rw[W9.mp hb];intro z;subst z;exact h.free hp ha
 ·by_cases hk:k<S.length
  ·rw[WX hk]at e;rw[WX (by rw[h.len];exact hk)]at ea;exact((h.new (o:=u) hp).obj k o a e ea).mono pre (KeepU.refl _) λ_ z=>z
  ·have hk':k=S.length:=by
    have:=(gM e).1;rw[W7,Wh]at this;omega
   subst hk';rw[Wf]at e;rw[<-h.len,Wf]at ea;cases e;cases ea;exact r
theorem Ok.push(h:Ok K as H S){p:Zk}(hp:H p=none){vs:List V}{xs:List SV}(r:RlAll K as H vs xs):Ok K (as++[p]) (upd H p (.lst vs)) (S++[.lst xs]):=h.pushO hp ⟨vs,f9,RlAll.mono (XO _ _) (BP hp) xs vs r⟩
theorem Ok.writeO(h:Ok K as H S){k:Nat}{a:Zk}{y x:SO}{u:HO}(e:S[k]?=some y)(ea:as[k]?=some a)(r:KeepU H (upd H a u)->RlO K as (upd H a u) a x):Ok K as (upd H a u) (S.set k x)/\KeepU H (upd H a u):=by
 obtain⟨z,h1,iz⟩:=(h.obj k _ a e ea).some;have ku:KeepU H (upd H a u):=Aw h1 iz;refine⟨⟨by rw[Wc];exact h.len,h.nd,λj o b eo eb=>?_⟩,ku⟩;by_cases hj:k=j
 ·subst hj;rw[Wk ((gM e).1)]at eo;rw[ea]at eb;cases eo;cases eb;exact r ku
 ·rw[Wx hj]at eo
  have hab:b≠a:=λz=>by
   subst z;exact hj ((List.getElem?_inj ((gM ea).1) h.nd).mp (ea.trans eb.symm))
  exact(h.obj j o b eo eb).mono (Wl as) ku λws hw=>by rw[upd_ne hab];exact hw
theorem Ok.write(h:Ok K as H S){k:Nat}{a:Zk}{ys xs:List SV}{vs:List V}(e:S[k]?=some (.lst ys))(ea:as[k]?=some a)(r:RlAll K as H vs xs):Ok K as (upd H a (.lst vs)) (S.set k (.lst xs))/\KeepU H (upd H a (.lst vs)):=h.writeO e ea λku=>⟨vs,f9,RlAll.mono (Wl as) ku xs vs r⟩
end
structure Go(as:List Zk)(H:Hp)(as':List Zk)(H':Hp):Prop where
 pre:as <+: as'
 keep:∀ b o,H b=some o->b∉as->H' b=some o/\b∉as'
theorem Go.refl(as:List Zk)(H:Hp):Go as H as H:=⟨Wl _,λ_ _ h n=>⟨h,n⟩⟩
theorem Go.trans{as as1 as2:List Zk}{H H1 H2:Hp}(a:Go as H as1 H1)(b:Go as1 H1 as2 H2):Go as H as2 H2:=⟨a.pre.trans b.pre,λx o h n=>let ⟨h1,n1⟩:=a.keep x o h n;b.keep x o h1 n1⟩
theorem Go.new{as:List Zk}{H:Hp}{p:Zk}{o:HO}(hp:H p=none):Go as H as (upd H p o):=⟨Wl _,λb u h n=>⟨by rw[upd_ne (f8 h hp)];exact h,n⟩⟩
theorem Go.push{as:List Zk}{H:Hp}{p:Zk}{o:HO}(hp:H p=none):Go as H (as++[p]) (upd H p o):=⟨XO _ _,λb u h n=>⟨by rw[upd_ne (f8 h hp)];exact h,by
 rw[WH,W9];rintro(z | z)
 ·exact n z
 ·exact f8 h hp z⟩⟩
theorem Go.write{as:List Zk}{H:Hp}{a:Zk}{o:HO}(ha:a∈as):Go as H as (upd H a o):=⟨Wl _,λb u h n=>⟨by rw[upd_ne (λz=>n (by rw[z];exact ha))];exact h,n⟩⟩
section
variable{K:W5}{as as':List Zk}{H H':Hp}{S:Sto}
theorem Ok.away(h:Ok K as H S){b:Zk}{o:HO}(e:H b=some o)(i:imm o=true):b∉as:=λhm=>by
 obtain⟨k,hk⟩:=Wq hm;obtain⟨_,_,r⟩:=h.of hk;obtain⟨z,hz,iz⟩:=r.some;rw[e]at hz;cases hz;rw[i]at iz;cases iz
theorem Go.ku(g:Go as H as' H')(ok:Ok K as H S):KeepU H H':=λb o h i=>(g.keep b o h (ok.away h i)).1
theorem Ok.other(h:Ok K as H S){b:Zk}{vs us:List V}(hb:H b=some (.lst vs))(n:b∉as):Ok K as (upd H b (.lst us)) S:=⟨h.len,h.nd,λk o a e ea=>(h.obj k o a e ea).mono (Wl as) (Aw hb rfl) λws hw=>by
 rw[upd_ne (λz=>n (by rw[<-z];exact WC ea))];exact hw⟩
end
end Rf
namespace L2
open PySem PySem.Spec PyProof.Rows
section
variable{κ:Type}[DecidableEq κ]
noncomputable def Be(kvs:List (κ×V))(k:κ):Option V:=(kvs.find? λkv=>decide (kv.1=k)).map (·.2)
noncomputable def BB(kvs:List (κ×V))(k:κ)(v:V):List (κ×V):=
 if (kvs.any λkv=>decide (kv.1=k))=true then kvs.map (λkv=>if kv.1=k then (kv.1,v) else kv) else kvs++[(k,v)]
theorem Dq{p:κ×V}{r:List (κ×V)}{k:κ}(e:p.1=k):Be (p::r) k=some p.2:=by simp[Be,Xn,e]
theorem Dr{p:κ×V}{r:List (κ×V)}{k:κ}(e:¬ p.1=k):Be (p::r) k=Be r k:=by simp[Be,Xn,e]
theorem GF(k:κ):∀ kvs:List (κ×V),(kvs.any λkv=>decide (kv.1=k))=(Be kvs k).isSome
 | []=>rfl
 | p::r=>by
   rw[Xe];by_cases e:p.1=k
   ·simp only[Dq e,decide_eq_true e,Bool.true_or,Yy]
   ·rw[Dr e,decide_eq_false e,ZR];exact GF k r
theorem Bw(kvs:List (κ×V))(k:κ)(v:V):(BB kvs k v).length<=kvs.length+1:=by
 unfold BB;split
 ·rw[W8];omega
 ·rw[W7,X8,Xa];omega
theorem RelO.isSome_eq{o:Option V}{u:Option Zh}(r:RelO o u):o.isSome=u.isSome:=by
 cases o with
 | none=>cases u with
   | none=>rfl
   | some _=>exact(show False from r).elim
 | some _=>cases u with
   | none=>exact(show False from r).elim
   | some _=>rfl
theorem RelO.getD{o:Option V}{u:Option Zh}{d:V}{d':Zh}(r:RelO o u)(rd:RelV d d'):RelV (o.getD d) (u.getD d'):=by
 cases o with
 | none=>cases u with
   | none=>exact rd
   | some _=>exact(show False from r).elim
 | some _=>cases u with
   | none=>exact(show False from r).elim
   | some _=>exact r
theorem KV.val{kvs:List (κ×V)}{vs:List (κ×Zh)}(r:KV kvs vs)(k:κ):RelO (Be kvs k) (valueAt vs k):=by
 unfold KV at r
 induction r with
 | nil=>exact True.intro
 | @cons p q ps qs h t ih=>
   obtain⟨h1,h2⟩:=h;by_cases e:p.1=k
   ·have e':q.1=k:=h1.symm.trans e;have b:valueAt (q::qs) k=some q.2:=by simp[valueAt,Xn,e']
    rw[Dq e,b];exact h2
   ·have e':¬ q.1=k:=λz=>e (h1.trans z);have b:valueAt (q::qs) k=valueAt qs k:=by simp[valueAt,Xn,e']
    rw[Dr e,b];exact ih
theorem KV.any{kvs:List (κ×V)}{vs:List (κ×Zh)}(r:KV kvs vs)(k:κ):(kvs.any λkv=>decide (kv.1=k))=vs.any λkv=>decide (kv.1=k):=by
 unfold KV at r
 induction r with
 | nil=>rfl
 | cons h t ih=>rw[Xe,Xe,ih,h.1]
theorem KV.repl{kvs:List (κ×V)}{vs:List (κ×Zh)}(r:KV kvs vs)(k:κ){y:V}{u:Zh}(ry:RelV y u):
 KV (kvs.map λkv=>if kv.1=k then (kv.1,y) else kv) (vs.map λkv=>if kv.1=k then (kv.1,u) else kv):=by
 unfold KV at r ⊢
 induction r with
 | nil=>exact .nil
 | @cons p q ps qs h t ih=>
   rw[Wo,Wo];refine .cons ?_ ih;obtain⟨h1,h2⟩:=h;by_cases e:p.1=k
   ·rw[iP e,iP (h1.symm.trans e)];exact⟨h1,ry⟩
   ·rw[iG e,iG (λz=>e (h1.trans z))];exact⟨h1,h2⟩
theorem KV.put{kvs:List (κ×V)}{vs:List (κ×Zh)}(r:KV kvs vs)(k:κ){y:V}{u:Zh}(ry:RelV y u):KV (BB kvs k y) (stored vs k u):=by
 unfold BB stored;rw[r.any k];by_cases e:(vs.any λkv=>decide (kv.1=k))=true
 ·rw[iP e,iP e];exact r.repl k ry
 ·rw[iG e,iG e];exact Paired.snoc r ⟨rfl,ry⟩
theorem KV.keys{kvs:List (κ×V)}{vs:List (κ×Zh)}(r:KV kvs vs):kvs.map (·.1)=vs.map (·.1):=by
 unfold KV at r
 induction r with
 | nil=>rfl
 | cons h t ih=>rw[Wo,Wo,ih,h.1]
theorem KV.length{kvs:List (κ×V)}{vs:List (κ×Zh)}(r:KV kvs vs):kvs.length=vs.length:=Paired.length r
end
theorem Em{P:Zo}{w:Zq}{k:Key}{u:Zh}(r:RelV (kV k) u):(m8 P w).is k u=true:=by
 cases k with
 | inl i=>obtain⟨t,e⟩:=(show ∃ t,u=Value.int i t from r);subst e;exact Ft P w i t
 | inr x=>obtain⟨t,e⟩:=(show ∃ t,u=Value.str x t from r);subst e;exact Fu P w x t
theorem En{P:Zo}{w:Zq}:∀{ks:List Key} {us:List Zh},Vals (ks.map kV) us->ItemsAre (m8 P w) ks us
 | [],_,r=>by rw[ZU]at r;cases r;exact .nil
 | k::ks,_,r=>by
   rw[Wo]at r;cases r with
   | cons h t=>exact .cons (Em h) (En t)
noncomputable abbrev KT(H:Hp):List (List Key×V)->List (List Key×Zk×Zh)->Prop:=Paired λp q=>p.1=q.1/\H q.2.1=some (.tup (p.1.map kV))/\RelV p.2 q.2.2
theorem KT.val{H:Hp}{kvs:List (List Key×V)}{xs:List (List Key×Zk×Zh)}(r:KT H kvs xs)(k:List Key):RelO (Be kvs k) ((atKey xs k).map (·.2)):=by
 induction r with
 | nil=>exact True.intro
 | @cons p q ps qs h t ih=>
   obtain⟨h1,_,h2⟩:=h;by_cases e:p.1=k
   ·have e':q.1=k:=h1.symm.trans e;have b:atKey (q::qs) k=some q.2:=by simp[atKey,Xn,e']
    rw[Dq e,b];exact h2
   ·have e':¬ q.1=k:=λz=>e (h1.trans z);have b:atKey (q::qs) k=atKey qs k:=by simp[atKey,Xn,e']
    rw[Dr e,b];exact ih
theorem KT.repl{H:Hp}{kvs:List (List Key×V)}{xs:List (List Key×Zk×Zh)}(r:KT H kvs xs)(k:List Key){y:V}{u:Zh}(ry:RelV y u):
 KT H (kvs.map λkv=>if kv.1=k then (kv.1,y) else kv) (xs.map (putAt k u)):=by
 induction r with
 | nil=>exact .nil
 | @cons p q ps qs h t ih=>
   rw[Wo,Wo];refine .cons ?_ ih;obtain⟨h1,h2,h3⟩:=h;unfold putAt;by_cases e:p.1=k
   ·rw[iP e,iP (h1.symm.trans e)];exact⟨h1,h2,ry⟩
   ·rw[iG e,iG (λz=>e (h1.trans z))];exact⟨h1,h2,h3⟩
theorem KT.put{H:Hp}{kvs:List (List Key×V)}{xs:List (List Key×Zk×Zh)}(r:KT H kvs xs)(k:List Key){b:Zk}{y:V}{u:Zh}(hb:H b=some (.tup (k.map kV)))(ry:RelV y u):
 KT H (BB kvs k y) (storedH xs k b u):=by
 have e:(kvs.any λkv=>decide (kv.1=k))=(atKey xs k).isSome:=by
  rw[GF,(r.val k).isSome_eq,Xy]
 unfold BB storedH;rw[e];by_cases q:(atKey xs k).isSome=true
 ·rw[iP q,iP q];exact r.repl k ry
 ·rw[iG q,iG q];exact Paired.snoc r ⟨rfl,hb,ry⟩
theorem KT.keeps{H H':Hp}{kvs:List (List Key×V)}{xs:List (List Key×Zk×Zh)}(r:KT H kvs xs)(ht:∀ b ys,H b=some (.tup ys)->H' b=some (.tup ys)):KT H' kvs xs:=
 Paired.mapP r λ_ _ z=>⟨z.1,ht _ _ z.2.1,z.2.2⟩
section
variable{P:Zo}{w:Zq}{H:Hp}{h:Heap}{a:Zk}
theorem RD{u:HO}(ok:HOk P w H h)(e:Rd H a u):ObjOk P w H h a u:=e.ok ok
theorem GG{kvs:List (Key×V)}(ok:HOk P w H h)(e:Rd H a (.dK kvs)):kvs.length<=Zn/\(a == A0q)=false/\∃ vs,KV kvs vs/\h.DictOf (m8 P w) a vs:=
 show ObjOk P w H h a (.dK kvs) from RD ok e
theorem RE{kvs:List (Key×V)}(ok:HOk P w H h)(e:H a=some (.dK kvs)):kvs.length<=Zn/\(a == A0q)=false/\∃ vs,KV kvs vs/\h.DictOf (m8 P w) a vs:=GG ok (.inl e)
theorem Ds{ks:List Key}(ok:HOk P w H h)(e:H a=some (.tup (ks.map kV))):(A1k (m8 P w)).is h ks a:=by
 obtain⟨_,its,r,o,h1,h2,n,h3⟩:=(show ObjOk P w H h a (.tup (ks.map kV)) from ok a _ e)
 exact⟨o,its.toArray,n,h1,h2,h3,by simpa using En r⟩
theorem GH{kvs:List (List Key×V)}(ok:HOk P w H h)(e:Rd H a (.dT kvs)):kvs.length<=Zn/\(a == A0q)=false/\
 ∃ xs,KT H kvs xs/\h.DictOfH (A1k (m8 P w)) a xs:=by
 obtain⟨z,y,xs,r,o,es,ep,h1,h2,h3,h4,h5⟩:=(show ObjOk P w H h a (.dT kvs) from RD ok e)
 refine⟨z,y,xs,r,o,es,ep,h1,h2,h3,h4,λx hx=>?_,h5⟩
 have all:∀{l:List (List Key×V)} {m:List (List Key×Zk×Zh)},KT H l m->∀ x∈m,(A1k (m8 P w)).is h x.1 x.2.1:=by
  intro l m q
  induction q with
  | nil=>intro x hx;exact nomatch hx
  | @cons p q ps qs hq t ih=>
    intro x hx;rcases WV.mp hx with e | hx
    ·subst e;exact Ds ok (by rw[<-hq.1];exact hq.2.1)
    ·exact ih x hx
 exact all r x hx
theorem Ud{kvs:List (List Key×V)}(ok:HOk P w H h)(e:H a=some (.dT kvs)):kvs.length<=Zn/\(a == A0q)=false/\
 ∃ xs,KT H kvs xs/\h.DictOfH (A1k (m8 P w)) a xs:=GH ok (.inl e)
end
noncomputable def DGet(H:Hp)(a:Zk)(y:V)(r:Option V):Prop:=
 (∃ kvs k,Rd H a (.dK kvs)/\y=kV k/\r=Be kvs k)\/∃ kvs k b,Rd H a (.dT kvs)/\y = .ref b/\H b=some (.tup (k.map kV))/\r=Be kvs k
noncomputable def DPut(H:Hp)(a:Zk)(y v:V)(H':Hp):Prop:=
 (∃ kvs k,H a=some (.dK kvs)/\y=kV k/\kvs.length<Zn/\H'=upd H a (.dK (BB kvs k v)))\/
 ∃ kvs k b,H a=some (.dT kvs)/\y = .ref b/\H b=some (.tup (k.map kV))/\kvs.length<Zn/\H'=upd H a (.dT (BB kvs k v))
theorem DGet.k{H:Hp}{a:Zk}{kvs:List (Key×V)}{k:Key}(e:H a=some (.dK kvs)):DGet H a (kV k) (Be kvs k) := .inl ⟨kvs,k,.inl e,rfl,rfl⟩
theorem DGet.t{H:Hp}{a b:Zk}{kvs:List (List Key×V)}{k:List Key}(e:H a=some (.dT kvs))(eb:H b=some (.tup (k.map kV))):DGet H a (.ref b) (Be kvs k) := .inr ⟨kvs,k,b,.inl e,rfl,eb,rfl⟩
theorem DPut.k{H:Hp}{a:Zk}{kvs:List (Key×V)}{k:Key}{v:V}(e:H a=some (.dK kvs))(hl:kvs.length<Zn):DPut H a (kV k) v (upd H a (.dK (BB kvs k v))) := .inl ⟨kvs,k,e,rfl,hl,rfl⟩
theorem DPut.t{H:Hp}{a b:Zk}{kvs:List (List Key×V)}{k:List Key}{v:V}(e:H a=some (.dT kvs))(eb:H b=some (.tup (k.map kV)))(hl:kvs.length<Zn):
 DPut H a (.ref b) v (upd H a (.dT (BB kvs k v))) := .inr ⟨kvs,k,b,e,rfl,eb,hl,rfl⟩
section
variable{X:Cx}{pq:List (Zk×Obj)}{σ:St}{H:Hp}{s:Zj}{a:Zk}{y v:V}{u r:Zh}{o:Option V}{A:Zx}{E:Zh->Zj->Prop}
theorem Inv.big(I:Inv X pq σ H s):A0q<s.heap.objs.size:=by
 have h:Zr<s.heap.objs.size:=(I.mod.glob.keeps I.bk).lt;exact ZX (by decide) h
theorem Kq{Q:Zh->Zj->Prop}(hu:A.units+1<cLine)(I:Inv X pq σ H s)(g:DGet H a y (some v))(ry:RelV y u)(h:∀ w' s',Inv X pq σ H s'->RelV v w'->Q w' s'):
 Zl (Zm X.prog X.w) A (getItem (.ref a) u) Q E s:=by
 rcases g with⟨kvs,k,e,ey,l⟩ | ⟨kvs,k,b,e,ey,eb,l⟩
 ·subst ey;obtain⟨z,hd,vs,rel,dd⟩:=GG I.hok e;obtain⟨w',hw,rw'⟩:=RelO.some_of (v:=v) (o:=valueAt vs k) (by rw[l];exact rel.val k);exact wpAny_getItem_of (Em ry) dd.mapOf hw (h w' _ (I.tok _) rw')
 ·subst ey;cases(show u=Value.ref b from ry);obtain⟨z,hd,xs,rel,dd⟩:=GH I.hok e;obtain⟨w',hw,rw'⟩:=RelO.some_of (v:=v) (o:=(atKey xs k).map (·.2)) (by rw[l];exact rel.val k);obtain⟨p,hp,hp2⟩:=Option.map_eq_some_iff.mp hw;refine wpAny_getItem_heap (A0x hu) (Ds I.hok eb) dd hp ?_;rw[hp2];exact h w' _ (I.tok _) rw'
theorem Vg{Q:Zh->Zj->Prop}(hu:A.units+1<cLine)(I:Inv X pq σ H s)(g:DGet H a y o)(ry:RelV y u)(h:∀ s',Inv X pq σ H s'->Q (.bool o.isSome) s'):
 Zl (Zm X.prog X.w) A (Zw .In u (.ref a)) Q E s:=by
 rcases g with⟨kvs,k,e,ey,l⟩ | ⟨kvs,k,b,e,ey,eb,l⟩
 ·subst ey;obtain⟨z,hd,vs,rel,dd⟩:=GG I.hok e;refine wpAny_in_of (Em ry) hd dd.mapOf ?_;rw[<-(rel.val k).isSome_eq,<-l];exact h _ (I.tok _)
 ·subst ey;cases(show u=Value.ref b from ry);obtain⟨z,hd,xs,rel,dd⟩:=GH I.hok e;refine wpAny_in_heap (A0x hu) (Ds I.hok eb) hd dd ?_;have q:=(rel.val k).isSome_eq;rw[Xy]at q;rw[<-q,<-l];exact h _ (I.tok _)
theorem PH{Q:Zh->Zj->Prop}(hu:A.units+1<cLine)(I:Inv X pq σ H s)(g:DGet H a y o)(ry:RelV y u)(h:∀ s',Inv X pq σ H s'->Q (.bool (!o.isSome)) s'):
 Zl (Zm X.prog X.w) A (Zw .NotIn u (.ref a)) Q E s:=by
 rcases g with⟨kvs,k,e,ey,l⟩ | ⟨kvs,k,b,e,ey,eb,l⟩
 ·subst ey;obtain⟨z,hd,vs,rel,dd⟩:=GG I.hok e;refine wpAny_notIn_of (Em ry) hd dd.mapOf ?_;rw[<-(rel.val k).isSome_eq,<-l];exact h _ (I.tok _)
 ·subst ey;cases(show u=Value.ref b from ry);obtain⟨z,hd,xs,rel,dd⟩:=GH I.hok e;refine wpAny_notIn_heap (A0x hu) (Ds I.hok eb) hd dd ?_;have q:=(rel.val k).isSome_eq;rw[Xy]at q;rw[<-q,<-l];exact h _ (I.tok _)
theorem FJ{h':Heap}{t':Nat}{ob:HO}(I:Inv X pq σ H s)(mu:Mut (H a))(hs:Wy a s.heap h')(he:∃ q,h'.get? a=some q)(new:ObjOk X.prog X.w (upd H a ob) h' a ob):
 Inv X pq σ (upd H a ob) {s with heap:=h',toks:=t'}:=
 I.write (x:=a) (e:=a) mu (.inl rfl) (λb q hb z=>(hs.2 b hb).trans z) he new
theorem FK{P:Zo}{w:Zq}{H':Hp}{h':Heap}{kvs:List (Key×V)}{vs:List (Key×Zh)}(z:kvs.length<=Zn)(hd:(a == A0q)=false)(rel:KV kvs vs)(dd:h'.DictOf (m8 P w) a vs):
 ObjOk P w H' h' a (.dK kvs):=⟨z,hd,vs,rel,dd⟩
theorem Kr{H':Hp}{Q:Unit->Zj->Prop}(hu:A.units+1<cLine)(I:Inv X pq σ H s)(g:DPut H a y v H')(ry:RelV y u)(rv:RelV v r)(h:∀ s',Inv X pq σ H' s'->Q () s'):
 Zl (Zm X.prog X.w) A (setItem (.ref a) u r) Q E s:=by
 rcases g with⟨kvs,k,e,ey,l,eH⟩ | ⟨kvs,k,b,e,ey,eb,l,eH⟩
 ·subst ey eH;obtain⟨z,hd,vs,rel,dd⟩:=RE I.hok e;have hz:vs.length<=Zn:=by rw[<-rel.length];exact z
  have hl:(BB kvs k v).length<=Zn:=by have:=Bw kvs k v;omega
  refine wpAny_setItem_pairs (hsz:=hz) (Em ry) dd λh' dd' hs=>h _ ?_;have he:∃ q,h'.get? a=some q:=let ⟨q,_,_,hq,_⟩:=dd';⟨q,hq⟩
  exact FJ I (by rw[e];exact True.intro) hs he (FK hl hd (rel.put k rv) dd')
 ·subst ey eH;cases(show u=Value.ref b from ry);obtain⟨z,hd,xs,rel,dd⟩:=Ud I.hok e;have hz:xs.length<=Zn:=by rw[<-Paired.length rel];exact z
  have hl:(BB kvs k v).length<=Zn:=by have:=Bw kvs k v;omega
  refine wpAny_setItem_heap (hsz:=hz) (A0x hu) (Ds I.hok eb) dd λh' dd' hs=>h _ ?_;obtain⟨q,es,ep,hq,h2,h3,h4,_,h5⟩:=dd';refine FJ I (by rw[e];exact True.intro) hs ⟨q,hq⟩ ⟨hl,hd,_,(rel.put k eb rv).keeps λc ys ec=>?_,q,es,ep,hq,h2,h3,h4,h5⟩;rw[upd_ne (Qx ec e (λz=>nomatch z))];exact ec
end
def Ue(i:Expr):Prop:=∀ ov iv,A1e i false ov iv=operate [ov,iv] (getItem ov iv)
theorem PJ{prog:Zo}{w:Zq}{A:Zx}{E:Zh->Zj->Prop}{s:Zj}{env:Env}{value slice:Expr}{pos:Pos}{T id:String}{Q:Zh->Zj->Prop}
 (hl:A1O (.type T) "__getitem__"=pure (some (.builtin id))) (hs:Ue slice)
 (h:Zl (Zm prog w) A (eval value env) (λo s₁=>Zl (Zm prog w) A (eval slice env) (λi s₂=>s₂.TypeIs o T/\Zl (Zm prog w) A (getItem o i) Q E s₂) E s₁) E s):
 Zl (Zm prog w) A (eval (.Subscript value slice pos) env) Q E s:=by
 refine A1q (A02 h (λo s₁ h₁=>A02 h₁ (λi s₂ h₂=>?_) λ_ _ x=>x) λ_ _ x=>x);obtain⟨hT,h₂⟩:=h₂;unfold A0U;refine Zg ?_;rw[getitemInPython_of_ne hT.not_modules];refine Zg (A1G hT hl ?_)
 have fin:Zl (Zm prog w) A (A1e slice false o i) (λr s₃=>Zl (Zm prog w) A (letTemporaryGo value o r >>= λ_=>pure r) Q E s₃) E s₂:=by
  rw[hs o i];exact wpAny_operating (A02 h₂ (λr s₃ h₃=>Zg (wpAny_letTemporaryGo (Zi h₃))) λ_ _ x=>x)
 first
  | exact Zi (Zg fin)
  | exact Zg (Zi (Zg fin))
  | exact Zg fin
theorem GI{X:Cx}{pq:List (Zk×Obj)}{σ:St}{H:Hp}{s:Zj}{a:Zk}{y:V}{o:Option V}(I:Inv X pq σ H s)(g:DGet H a y o):s.TypeIs (.ref a) "dict":=by
 rcases g with⟨kvs,k,e,_,_⟩ | ⟨kvs,k,b,e,_,_,_⟩
 ·obtain⟨_,_,vs,_,dd⟩:=GG I.hok e;exact dd.typeIs
 ·obtain⟨_,_,xs,_,dd⟩:=GH I.hok e;exact dd.typeIs
noncomputable def Uf(td ty:TE):TE:=λσ H Q=>td σ H λx H1=>ty σ H1 λy H2=>∃ a v,x = .ref a/\DGet H2 a y (some v)/\Q v H2
noncomputable def Vh(ty td:TE):TE:=λσ H Q=>ty σ H λy H1=>td σ H1 λx H2=>∃ a o,x = .ref a/\DGet H2 a y o/\Q (.bl o.isSome) H2
noncomputable def PK(ty td:TE):TE:=λσ H Q=>ty σ H λy H1=>td σ H1 λx H2=>∃ a o,x = .ref a/\DGet H2 a y o/\Q (.bl (!o.isSome)) H2
section
variable{X:Cx}{o i e value:Expr}{pos pos' tpos:Pos}{td ty tv:TE}
theorem PL(hu:X.A.units+1<cLine)(ho:PE X o td)(hi:PE X i ty)(hs:Ue i):PE X (.Subscript o i pos) (Uf td ty):=by
 intro pq s σ H Q I h;refine PJ PySem.F.slot_dict_getitem.lookup hs (thn (ho pq s σ H _ I h) λu s1 ⟨x,H1,I1,rx,q1⟩=>thn (hi pq s1 σ H1 _ I1 q1) λiv s2 ⟨y,H2,I2,ry,a,v,ex,g,q2⟩=>?_);subst ex;obtain rfl:u=Value.ref a:=rx;exact⟨GI I2 g,Kq hu I2 g ry λw' s3 I3 rw'=>⟨v,H2,I3,rw',q2⟩⟩
theorem Mf(hu:X.A.units+1<cLine)(hi:PE X i ty)(ho:PE X o td):PC X .In i o (Vh ty td):=by
 intro pq s σ H Q I h;refine thn (hi pq s σ H _ I h) λiv s1 ⟨y,H1,I1,ry,q1⟩=>thn (ho pq s1 σ H1 _ I1 q1) λu s2 ⟨x,H2,I2,rx,a,ov,ex,g,q2⟩=>?_;subst ex;obtain rfl:u=Value.ref a:=rx;exact Vg hu I2 g ry λs3 I3=>⟨.bl ov.isSome,H2,I3,rfl,q2⟩
theorem Ep(hu:X.A.units+1<cLine)(hi:PE X i ty)(ho:PE X o td):PC X .NotIn i o (PK ty td):=by
 intro pq s σ H Q I h;refine thn (hi pq s σ H _ I h) λiv s1 ⟨y,H1,I1,ry,q1⟩=>thn (ho pq s1 σ H1 _ I1 q1) λu s2 ⟨x,H2,I2,rx,a,ov,ex,g,q2⟩=>?_;subst ex;obtain rfl:u=Value.ref a:=rx;exact PH hu I2 g ry λs3 I3=>⟨.bl (!ov.isSome),H2,I3,rfl,q2⟩
end
mutual
noncomputable def Dat(H:Hp):V->PyData->Prop
 | x,.none=>x = .non
 | x,.bool b=>x = .bl b
 | x,.int i=>x = .int i
 | x,.str s=>x = .str s
 | x,.list ds=>∃ a xs,x = .ref a/\H a=some (.lst xs)/\DatAll H xs ds
 | x,.tuple ds=>∃ a xs,x = .ref a/\H a=some (.tup xs)/\DatAll H xs ds
 | _,.dict _=>False
noncomputable def DatAll(H:Hp):List V->List PyData->Prop
 | [],[]=>True
 | x::xs,d::ds=>Dat H x d/\DatAll H xs ds
 | [],_::_=>False
 | _::_,[]=>False
end
mutual
theorem Dat.mono{H H':Hp}(k:∀ b o,H b=some o->H' b=some o):∀(x:V) (d:PyData),Dat H x d->Dat H' x d
 | _,.none,h=>by unfold Dat at h ⊢;exact h
 | _,.bool _,h=>by unfold Dat at h ⊢;exact h
 | _,.int _,h=>by unfold Dat at h ⊢;exact h
 | _,.str _,h=>by unfold Dat at h ⊢;exact h
 | x,.list ds,h=>by
   unfold Dat at h ⊢;obtain⟨a,xs,e,h1,h2⟩:=h;exact⟨a,xs,e,k _ _ h1,DatAll.mono k xs ds h2⟩
 | x,.tuple ds,h=>by
   unfold Dat at h ⊢;obtain⟨a,xs,e,h1,h2⟩:=h;exact⟨a,xs,e,k _ _ h1,DatAll.mono k xs ds h2⟩
 | _,.dict _,h=>by unfold Dat at h;exact h.elim
theorem DatAll.mono{H H':Hp}(k:∀ b o,H b=some o->H' b=some o):∀(xs:List V) (ds:List PyData),DatAll H xs ds->DatAll H' xs ds
 | [],[],_=>by unfold DatAll;trivial
 | x::xs,d::ds,h=>by
   unfold DatAll at h ⊢;exact⟨Dat.mono k x d h.1,DatAll.mono k xs ds h.2⟩
 | [],_::_,h=>by unfold DatAll at h;exact h.elim
 | _::_,[],h=>by unfold DatAll at h;exact h.elim
end
theorem DatAll.length{H:Hp}:∀{xs:List V} {ds:List PyData},DatAll H xs ds->xs.length=ds.length
 | [],[],_=>rfl
 | x::xs,d::ds,h=>by unfold DatAll at h;simp[DatAll.length h.2]
 | [],_::_,h=>by unfold DatAll at h;exact h.elim
 | _::_,[],h=>by unfold DatAll at h;exact h.elim
section
variable{X:Cx}{pq:List (Zk×Obj)}{σ:St}{H:Hp}{s:Zj}
mutual
theorem Inv.reads(I:Inv X pq σ H s):∀(x:V) (d:PyData) (v:Zh),Dat H x d->RelV x v->∃ as,Reads s.heap v d as
 | _,.none,_,h,r=>by unfold Dat at h;subst h;cases r;exact⟨_,.none⟩
 | _,.bool _,_,h,r=>by unfold Dat at h;subst h;cases r;exact⟨_,.bool _⟩
 | _,.int _,_,h,r=>by unfold Dat at h;subst h;obtain⟨t,rfl⟩:=r;exact⟨_,.int _ _⟩
 | _,.str _,_,h,r=>by unfold Dat at h;subst h;obtain⟨t,rfl⟩:=r;exact⟨_,.str _ _⟩
 | x,.list ds,v,h,r=>by
   unfold Dat at h;obtain⟨a,xs,rfl,h1,h2⟩:=h;cases r;obtain⟨its,rv,pl,_⟩:=I.list (SqL.of h1);obtain⟨o,n,ho,hc,_,hd⟩:=pl;obtain⟨as,ra⟩:=Inv.readsAll I xs ds its h2 rv;exact⟨_,.list ho hc hd (by simpa using ra)⟩
 | x,.tuple ds,v,h,r=>by
   unfold Dat at h;obtain⟨a,xs,rfl,h1,h2⟩:=h;cases r;obtain⟨its,rv,pl,_⟩:=I.tuple (SqT.of h1);obtain⟨o,ho,hc,n,hd⟩:=pl;obtain⟨as,ra⟩:=Inv.readsAll I xs ds its h2 rv;exact⟨_,.tuple ho hc hd (by simpa using ra)⟩
 | _,.dict _,_,h,_=>by unfold Dat at h;exact h.elim
theorem Inv.readsAll(I:Inv X pq σ H s):∀(xs:List V) (ds:List PyData) (vs:List Zh),DatAll H xs ds->Vals xs vs->∃ as,ReadsAll s.heap vs ds as
 | [],[],_,_,r=>by cases r;exact⟨_,.nil⟩
 | x::xs,d::ds,_,h,r=>by
   unfold DatAll at h;cases r with
   | cons r1 r2=>
     obtain⟨as,ra⟩:=Inv.reads I x d _ h.1 r1;obtain⟨bs,rb⟩:=Inv.readsAll I xs ds _ h.2 r2;exact⟨_,.cons ra rb⟩
 | [],_::_,_,h,_=>by unfold DatAll at h;exact h.elim
 | _::_,[],_,h,_=>by unfold DatAll at h;exact h.elim
end
end
mutual
theorem Dat.noDict{H:Hp}:∀(x:V) (d:PyData),Dat H x d->d.hasDict=false
 | _,.none,_=>by simp only[PyData.hasDict]
 | _,.bool _,_=>by simp only[PyData.hasDict]
 | _,.int _,_=>by simp only[PyData.hasDict]
 | _,.str _,_=>by simp only[PyData.hasDict]
 | x,.list ds,h=>by
   unfold Dat at h;obtain⟨a,xs,e,h1,h2⟩:=h;simp only[PyData.hasDict];exact DatAll.noDict xs ds h2
 | x,.tuple ds,h=>by
   unfold Dat at h;obtain⟨a,xs,e,h1,h2⟩:=h;simp only[PyData.hasDict];exact DatAll.noDict xs ds h2
 | _,.dict _,h=>by unfold Dat at h;exact h.elim
theorem DatAll.noDict{H:Hp}:∀(xs:List V) (ds:List PyData),DatAll H xs ds->PyData.hasDictAll ds=false
 | [],[],_=>by simp only[PyData.hasDictAll]
 | x::xs,d::ds,h=>by
   unfold DatAll at h;simp only[PyData.hasDictAll,Yp];exact⟨Dat.noDict x d h.1,DatAll.noDict xs ds h.2⟩
 | [],_::_,h=>by unfold DatAll at h;exact h.elim
 | _::_,[],h=>by unfold DatAll at h;exact h.elim
end
def PM:PyData->Str
 | .str x=>x
 | d=>d.shown
section
variable{X:Cx}
structure Fit(d:PyData):Prop where
 sh:d.showable=true
 sz:d.shown.length<=Zn
 dp:d.depth<=40
theorem Ks(hg:X.A.guards=some [])(hu:X.A.units+100<cLine):CallR X (.type "str") (λxs H Q=>∃ x d,xs=[x]/\Dat H x d/\Fit d/\Q (.str (PM d)) H):=by
 intro pq s σ H xs us Q I r h;obtain⟨x,d,rfl,hd,f,q⟩:=h;obtain⟨u,rfl,ru⟩:=Bj r
 have refs:∀ a,u = .ref a->(∀ z,d ≠ .str z)->Zl (Zm X.prog X.w) X.A (call (.type "str") [u]) (EP X pq σ Q) X.xe s:=λa e hn=>by
  subst e;obtain⟨as,rd⟩:=I.reads x d _ hd ru;refine str_of_reads rd f.sh (PyData.noDict_hsm (Dat.noDict x d hd)) hg (by have:=f.dp;omega) (λ_ _ e=>e) (λh' u tk hk=>?_) f.sz;refine⟨.str d.shown,H,I.kept (t':=tk) hk,⟨_,rfl⟩,?_⟩
  have e:PM d=d.shown:=by
   cases d with
   | str z=>exact absurd rfl (hn z)
   | _=>rfl
  rw[<-e];exact q
 cases d with
 | none=>unfold Dat at hd;subst hd;cases ru;exact P.str_of_none ⟨.str "None",H,I.tok _,⟨_,rfl⟩,q⟩
 | bool b=>unfold Dat at hd;subst hd;cases ru;exact P.str_of_bool ⟨.str (if b then "True" else "False"),H,I.tok _,⟨_,rfl⟩,by cases b<;>exact q⟩
 | int i=>unfold Dat at hd;subst hd;obtain⟨t,rfl⟩:=ru;exact P.str_of_int (by have:=f.sh;simpa[PyData.showable] using this) ⟨.str (toString i),H,I.tok _,⟨_,rfl⟩,q⟩
 | str z=>unfold Dat at hd;subst hd;obtain⟨t,rfl⟩:=ru;exact P.str_of_str ⟨.str z,H,I,⟨_,rfl⟩,q⟩
 | list ds=>
   have hd':=hd;unfold Dat at hd';obtain⟨a,xs,rfl,_⟩:=hd';exact refs a ru (λz e=>nomatch e)
 | tuple ds=>
   have hd':=hd;unfold Dat at hd';obtain⟨a,xs,rfl,_⟩:=hd';exact refs a ru (λz e=>nomatch e)
 | dict _=>unfold Dat at hd;exact hd.elim
end
section
variable{X:Cx}{a b:Expr}{ta:TE}{pos:Pos}
theorem Kt:OpR X (Zw .IsNot) (λx y H Q=>∃ c d,x = .bl c/\y = .bl d/\Q (.bl (c != d)) H):=by
 intro pq s σ H x y v u Q I rx ry h;obtain⟨c,d,rfl,rfl,q⟩:=h;cases rx;cases ry;exact isnot_bool ⟨.bl (c != d),H,I,rfl,q⟩
end
section
variable{prog:Zo}{w:Zq}{A:Zx}{E:Zh->Zj->Prop}{s:Zj}
open HT in
theorem ES{t sl:Zk}{items:Array Zh}{vl vu:Zh}{lo hi:Option Int}{Q:Zh->Zj->Prop}(ht:IsTup s.heap t items)(hs:s.heap.IsSliceOf sl vl vu .none)(pl:IsPart vl lo)(pu:IsPart vu hi)
 (hw:sIx items.size 0 lo=0/\sIx items.size items.size hi=items.size) (h:Q (.ref t) s):Zl (Zm prog w) A (getItem (.ref t) (.ref sl)) Q E s:=by
 obtain⟨os,hos,hcs,hds⟩:=id hs;have hTs:s.TypeIs (.ref sl) "slice":=⟨os,hos,hcs⟩
 unfold getItem
 try with_reducible refine Zz ?_
 first | refine Zg (Zi ?_) | skip
 refine Zg (A1t ht.typeIs (by decide) ?_)
 refine Zg (A05 (name:=Str.ofString "__getitem__") ht.typeIs PyProof.Rows.slot_tuple_getitem
  (A03 PyProof.Rows.slot_tuple_getitem ht.typeIs A1l ?_ (A1p _ _)))
 show Zl _ _ (Builtin.Tuple.tupleItemsOf (.ref t) >>= _) _ _ s;refine Zg (tupleItemsOf_ ht ?_);refine Zg (A0M hTs ?_);rw[iP (by decide)];refine Zg (BO hs pl pu ?_)
 have hyes:(((sIx items.size 0 lo:Nat):Int) == 0&&(1:Int) == 1&&(sIx items.size items.size hi - sIx items.size 0 lo) == items.size)=true:=by
  rw[hw.1,hw.2];simp
 show Zl _ _ (if (((sIx items.size 0 lo:Nat):Int) == 0&&(1:Int) == 1&&(sIx items.size items.size hi - sIx items.size 0 lo) == items.size)=true then _ else _) _ _ s;rw[iP hyes];unfold Builtin.Tuple.tupleIsExact;refine Zg (Zg (A0M ht.typeIs (Zi ?_)));rw[iP (by decide)];exact Zg (A0k (Zi ⟨_,rfl,Zi h⟩))
end
section
variable{X:Cx}
noncomputable def Ug(K:W5):V->Option Int->Option Int->Hp->VK->Prop:=λx lo hi H Q=>∃ a xs,x = .ref a/\SqT K H a xs/\(HT.sIx xs.length 0 lo=0/\HT.sIx xs.length xs.length hi=xs.length)/\Q (.ref a) H
theorem PN:SlR X (Ug X.K):=by
 intro pq s σ H x v vl vu lo hi sl Q I rx hs pl pu h;obtain⟨a,xs,rfl,hx,hw,q⟩:=h;cases rx;obtain⟨its,r,ht,hz⟩:=I.tuple hx;have hlen:its.toArray.size=xs.length:=by rw[WG];exact r.length.symm
 exact⟨"tuple",_,PyProof.Rows.slot_tuple_getitem.lookup,ht.typeIs,ES ht hs pl pu (by rw[hlen];exact hw) ⟨.ref a,H,I,rfl,q⟩⟩
end
theorem b_set:Zs "set"=some (.type "set"):=by decide +kernel
theorem Sg:Zs "len"=some (.builtin "len"):=by decide +kernel
section
variable{X:Cx}
noncomputable def PP(K:W5)(te:TE):TE:=λσ H Q=>te σ H λx H1=>∃(p:Zk) (ns:List Int),x = .ref p/\SqL K H1 p (ns.map V.int)/\ns.length+1<A0b/\Q (.int (A0s (λi=>ns.getD i 0) ns.length).length) H1
theorem Ku{e:Expr}{te:TE}{p1 p2 pos1 pos2:Pos}(hc:X.calm=true)(hl:Gl X "len")(hml:X.mg "len"=none)(hs:Gl X "set")(hms:X.mg "set"=none)(he:PE X e te)
 (h1:Zp [e] X.env=(false,eval e X.env)::Zp [] X.env:=by rfl)
 (h2:Zp [.Call (.Name "set" p2) [e] [] pos2] X.env=(false,eval (.Call (.Name "set" p2) [e] [] pos2) X.env)::Zp [] X.env:=by rfl)
 (h3:(backTo pos1 (Zp [] X.env)).any (·.1)=false:=by rfl) (h4:(backTo pos2 (Zp [] X.env)).any (·.1)=false:=by rfl):
 PE X (.Call (.Name "len" p1) [.Call (.Name "set" p2) [e] [] pos2] [] pos1) (PP X.K te):=by
 intro pq s σ H Q I h;refine A04 (B5 I hl hml Sg ?_ (by decide) (by decide));refine PyProof.Rows.callWith_builtin1 ?_ h2 h3;rw[h2];show Zl _ _ (spliced ((false,eval (.Call (.Name "set" p2) [e] [] pos2) X.env)::backTo pos1 (Zp [] X.env))) _ _ s;refine Calls.spliced_cons ?_;refine A04 (B5 I hs hms b_set ?_ (by decide) (by decide));refine PyProof.Rows.callWith_type1 ?_ h1 h4;rw[h1];show Zl _ _ (spliced ((false,eval e X.env)::backTo pos2 (Zp [] X.env))) _ _ s;refine Calls.spliced_cons (thn (he pq s σ H _ I h) λu s1 ⟨x,H1,I1,rx,p,ns,ex,hq,hb,q1⟩=>Calls.spliced_nil ?_);subst ex;cases rx;obtain⟨its,r',pl,hz⟩:=I1.list hq;have hlen:=r'.length;rw[W8]at hlen;refine call_set_list (items:=its.toArray) (ns:=ns) (I1.ok.hd hc) pl.isList (by simpa using AN r') (by simp only[WG];omega) λh' tk hS hk=>?_;refine Calls.spliced_nil ?_;have I2:Inv X pq σ H1 {s1 with heap:=h',toks:=tk}:=I1.kept λb o e=>hk b o (WR e) e;obtain⟨o,es,ep,t,ho,hex,hd,_,_,hbb,hf,hn⟩:=hS;refine call_len_set (s:={s1 with heap:=h',toks:=tk}) ho hex hd hf (by unfold A0b at hbb;omega) ?_;refine⟨.int _,H1,I2.tok _,⟨_,rfl⟩,?_⟩;rw[hn];simp only[WG];rw[<-hlen];exact q1
end
section
variable{prog:Zo}{w:Zq}{A:Zx}{E:Zh->Zj->Prop}{s:Zj}
noncomputable def IsPr(h:Heap)(v:Zh)(a b:Int):Prop:=∃ p o n t u,v = .ref p/\h.get? p=some o/\o.cls = .type "tuple"/\o.data = .seq #[.int a t,.int b u] n
theorem IsPr.at{h h':Heap}{v:Zh}{a b:Int}(x:IsPr h v a b)(k:∀ p o,h.get? p=some o->o.cls = .type "tuple"->h'.get? p=some o):IsPr h' v a b:=by
 obtain⟨p,o,n,t1,t2,e,ho,hc,hd⟩:=x;exact⟨p,o,n,t1,t2,e,k p o ho hc,hc,hd⟩
end
noncomputable def Up(xs:Array Nat):Prop:=∀ i j (hi:i<xs.size) (hj:j<xs.size),i<j->xs[i]<xs[j]
theorem up_list{xs:Array Nat}:Up xs↔xs.toList.Pairwise (·<·):=by
 rw[X7]
 exact⟨λh i j hi hj hij=>by simpa using h i j (by simpa using hi) (by simpa using hj) hij,λh i j hi hj hij=>by
  have:=h i j (by simpa using hi) (by simpa using hj) hij
  rwa [Yq,Yq]at this⟩
theorem Mg{xs:Array Nat}(hu:Up xs)(j:Nat):∀(f lo hi:Nat),hi<=xs.size->lo<=hi->hi - lo<=f->(∀ i (h:i<xs.size),i<lo->xs[i]<j)->(∀ i (h:i<xs.size),hi<=i->j<=xs[i])->
 (SetTable.below.go xs j f lo hi)<=xs.size/\(∀ i (h:i<xs.size),i<SetTable.below.go xs j f lo hi->xs[i]<j)/\(∀ i (h:i<xs.size),SetTable.below.go xs j f lo hi<=i->j<=xs[i]):=by
 intro f
 induction f with
 | zero=>
   intro lo hi h1 h2 h3 h4 h5;have:lo=hi:=by omega
   subst this;unfold SetTable.below.go;exact⟨h1,h4,h5⟩
 | succ f ih=>
   intro lo hi h1 h2 h3 h4 h5;unfold SetTable.below.go;by_cases hlh:lo<hi
   ·rw[iP hlh];have hm:(lo+hi) / 2<xs.size:=by omega
    have e:xs.getD ((lo+hi) / 2) j=xs[(lo+hi) / 2]:=by simp[ZN,hm]
    dsimp only;rw[e];by_cases hc:xs[(lo+hi) / 2]<j
    ·rw[iP hc];refine ih _ _ h1 (by omega) (by omega) (λi h hi'=>?_) h5;by_cases z:i=(lo+hi) / 2
     ·subst z;exact hc
     ·exact ZX (hu i _ h hm (by omega)) hc
    ·rw[iG hc];refine ih _ _ (by omega) (by omega) (by omega) h4 (λi h hi'=>?_);by_cases z:i=(lo+hi) / 2
     ·subst z;omega
     ·have:=hu _ i hm h (by omega);omega
   ·rw[iG hlh];have:lo=hi:=by omega
    subst this;exact⟨h1,h4,h5⟩
theorem GJ{xs:Array Nat}(hu:Up xs)(j:Nat):SetTable.below xs j<=xs.size/\(∀ i (h:i<xs.size),i<SetTable.below xs j->xs[i]<j)/\(∀ i (h:i<xs.size),SetTable.below xs j<=i->j<=xs[i]):=
 Mg hu j xs.size 0 xs.size (WJ _) (XA _) (by omega) (λi _ h=>absurd h (Y4 _)) (λi h h'=>absurd h (Nat.not_lt.mpr h'))
theorem Sh{xs:Array Nat}(hu:Up xs){j:Nat}(hn:xs[SetTable.below xs j]?≠some j):Up (SetTable.insertAt xs (SetTable.below xs j) j):=by
 obtain⟨h1,h2,h3⟩:=GJ hu j;rw[up_list,SetTable.toList_insertAt];have hl:=up_list.mp hu
 have hgt:∀ i (h:i<xs.size),SetTable.below xs j<=i->j<xs[i]:=by
  intro i h hi;have:=h3 i h hi;by_cases z:SetTable.below xs j=i
  ·have:xs[i]≠j:=λe=>hn (by rw[z];simp[h,e]);omega
  ·have a:=hu _ i (by omega) h (Nat.lt_of_le_of_ne hi z);have b:=h3 (SetTable.below xs j) (by omega) (WJ _);omega
 rw[List.pairwise_append];refine⟨hl.take,?_,?_⟩
 ·rw[Xs];refine⟨λy hy=>?_,hl.drop⟩;obtain⟨i,hi,e⟩:=Xc.mp hy;rw[Z3]at e;have hi':SetTable.below xs j+i<xs.size:=by simp at hi;omega
  have:=hgt _ hi' (ZC _ _);rw[<-e];simpa using this
 ·intro x hx y hy;obtain⟨i,hi,e⟩:=Xc.mp hx;have hib:i<SetTable.below xs j:=by simp at hi;omega
  have hx':x<j:=by
   rw[<-e,List.getElem_take];have:=h2 i (by omega) hib;simpa using this
  rcases WV.mp hy with rfl | hy
  ·exact hx'
  ·obtain⟨k,hk,e2⟩:=Xc.mp hy;rw[Z3]at e2;have hk':SetTable.below xs j+k<xs.size:=by simp at hk;omega
   have:=hgt _ hk' (ZC _ _);have h:xs.toList[SetTable.below xs j+k]'(by simpa using hk')=xs[SetTable.below xs j+k]:=by simp
   rw[h]at e2;omega
structure Tab(w:Zq)(t:A07):Prop where
 up:Up t.place
 no:t.dummies=#[]
 led:t.led=!w.params.followText "set-order"
theorem Mh{w:Zq}{t:A07}(T:Tab w t)(j:Nat):t.slot j ≠ .dummy:=by
 unfold SetTable.slot;rw[T.no];dsimp only;split
 ·exact λz=>nomatch z
 ·have:SetTable.has #[] j=false:=rfl;rw[this];exact λz=>nomatch z
theorem Si{w:Zq}{t:A07}(T:Tab w t)(g:Nat->Int)(h:Int):∀(f:Nat) (p:SetTable.Probe) (j:Nat) (d:Option Nat),p.dummy=none->SetTable.probe.go t g h f p=some (.empty j d)->t.slot j = .empty/\d=none:=by
 intro f
 induction f with
 | zero=>intro p j d _ e;unfold SetTable.probe.go at e;cases e
 | succ f ih=>
   intro p j d hp e
   have adv:∀ q:SetTable.Probe,q.dummy=none->(t.advance q).dummy=none:=by
    intro q hq;unfold SetTable.advance;split
    ·exact hq
    ·exact hq
   unfold SetTable.probe.go at e;split at e
   ·rename_i hs;cases e;exact⟨hs,hp⟩
   ·rename_i hs;exact absurd hs (Mh T _)
   ·split at e
    ·cases e
    ·exact ih _ _ _ (adv _ hp) e
theorem Mi{w:Zq}{t:A07}(T:Tab w t){h:Int}{j:Nat}{b:Bool}(e:t.freeSlot h=some (j,b)):t.place[SetTable.below t.place j]?≠some j:=by
 unfold SetTable.freeSlot at e;split at e
 ·rename_i j' d hp;unfold SetTable.probe at hp;obtain⟨hs,hd⟩:=Si T _ _ _ _ _ _ rfl hp;subst hd;cases e;unfold SetTable.slot at hs;dsimp only[Yc]at hs ⊢;split at hs
  ·cases hs
  ·rename_i hn;intro z;exact hn (by rw[z];simp)
 ·cases e
theorem CF{w:Zq}{t:A07}(T:Tab w t)(n:Nat):Tab w (t.standIn n):=by
 refine⟨?_,rfl,T.led⟩;show Up (Array.range n);intro i j hi hj hij;simpa using hij
theorem Sj{w:Zq}{t:A07}(T:Tab w t)(n:Nat):Tab w (t.orStandIn n):=by
 unfold SetTable.orStandIn;split
 ·exact T
 ·exact CF T n
theorem PR{w:Zq}{t:A07}(T:Tab w t)(es:Array (Int×Zh))(h:Int)(x:Zh):Tab w (layNew t es h x).2.1:=by
 unfold layNew;split
 ·rename_i j b e;refine Sj (t:=(t.put j).1) ⟨Sh T.up (Mi T e),?_,T.led⟩ _;show(if SetTable.has t.dummies j=true then _ else t.dummies)=#[];rw[T.no];rfl
 ·exact CF T _
theorem Kv{w:Zq}{t:A07}(T:Tab w t)(es:Array (Int×Zh))(n:Nat):Tab w (A1g t es n).2.1:=by
 unfold A1g;split
 ·rename_i t' order e;dsimp only;split
  ·unfold SetTable.relaid SetTable.laid at e;obtain⟨owner,_,e⟩:=Option.bind_eq_some_iff.mp e;have e':=oj e;have e1:=congrArg Prod.fst e';subst e1;refine⟨?_,rfl,T.led⟩;rw[up_list]
   have key:∀ l:List Nat,l.Pairwise (·<·)->((l.filterMap λj=>(owner.getD j none).map (j,·)).map (·.1)).Pairwise (·<·):=by
    intro l hl
    have:(l.filterMap λj=>(owner.getD j none).map (j,·)).map (·.1)=l.filter λj=>(owner.getD j none).isSome:=by
     induction l with
     | nil=>rfl
     | cons a l ih=>
       have ih:=ih (Xs.mp hl).2;cases ho:owner.getD a none with
       | none=>rw[List.filterMap_cons_none (by rw[ho];rfl),List.filter_cons_of_neg (by rw[ho];simp),ih]
       | some b=>rw[YZ (b:=(a,b)) (by rw[ho];rfl),List.filter_cons_of_pos (by rw[ho];rfl),Wo,ih]
    rw[this];exact hl.filter _
   simpa using key _ Yg
  ·exact CF T _
 ·exact CF T _
noncomputable def SetX(prog:Zo)(w:Zq)(h:Heap)(a:Zk)(L:List Int):Prop:=
 ∃ o es ep t,h.get? a=some o/\o.ExactSet/\o.data = .set es ep t/\ElemsOf (intKind prog w) es.toList/\es.size<A0b/\t.fits es.size=true/\Tab w t/\(es.toList.map λe=>numOf e.2).Perm L
section
variable{prog:Zo}{w:Zq}{A:Zx}{E:Zh->Zj->Prop}{s:Zj}
theorem SetX.keep{h h':Heap}{a:Zk}{L:List Int}(x:SetX prog w h a L)(k:∀ o,h.get? a=some o->h'.get? a=some o):SetX prog w h' a L:=by
 obtain⟨o,es,ep,t,ho,r⟩:=x;exact⟨o,es,ep,t,k o ho,r⟩
theorem DT{k:Int}{v:Zh}(h:(intKind prog w).is k v=true):numOf v=k:=by
 obtain⟨t,rfl⟩:=Value.isInt_shape (k:=k) (v:=v) h;rfl
theorem Mj{h:Heap}{a:Zk}{o:Obj}{es es':Array (Int×Zh)}{ep:Nat}{t t':A07}{L:List Int}(ho:h.get? a=some o)(hx:o.ExactSet)(hd:o.data = .set es ep t)
 (he:ElemsOf (intKind prog w) es'.toList) (hb:es'.size<A0b) (hf:t'.fits es'.size=true) (hT:Tab w t') (hp:(es'.toList.map λe=>numOf e.2).Perm L):
 (h.update a (Obj.putSet es' t')).get? a=some {o with data := .set es' (ep+1) t'}/\SetX prog w (h.update a (Obj.putSet es' t')) a L:=by
 have g:=XC (Obj.putSet es' t') ho (by rw[putSet_of es' t' hd];rfl);rw[putSet_of es' t' hd]at g;exact⟨g,_,es',ep+1,t',g,hx,rfl,he,hb,hf,hT,hp⟩
theorem RF{g:Bool->Sem Unit}(hg:∀(b:Bool) (s₁:Zj) (Q':Unit->Zj->Prop),Q' () s₁->Zl (Zm prog w) A (g b) Q' E s₁){a:Zk}{o:Obj}{es es1:Array (Int×Zh)}{ep:Nat}{t t2:A07}{L:List Int}{dm:Bool}
 {R:Option Bool->Zj->Prop} (ho:s.heap.get? a=some o) (hx:o.ExactSet) (hd:o.data = .set es ep t) (he:ElemsOf (intKind prog w) es1.toList) (hb:es1.size<A0b) (hf:t2.fits es1.size=true) (hT:Tab w t2) (hp:(es1.toList.map λe=>numOf e.2).Perm L)
 (h:∀ h',Wy a s.heap h'->SetX prog w h' a L->R (some true) {s with heap:=h'}):
 Zl (Zm prog w) A (do
  storeSet a es1 t2
  if (!dm&&t2.tooFull)=true then do
      g (A1g t2 es1 (SetTable.grown es1.size)).2.2
      storeSet a (A1g t2 es1 (SetTable.grown es1.size)).1 (A1g t2 es1 (SetTable.grown es1.size)).2.1
      pure (some true)
   else pure (some true)) R E s:=by
 obtain⟨g1,x1⟩:=Mj (prog:=prog) ho hx hd he hb hf hT hp;have b1:=Wy.update s.heap a (Obj.putSet es1 t2);refine Zg (A1v ho hd ?_ (A0T hb));by_cases hc:(!dm&&t2.tooFull)=true
 ·rw[iP hc];have hpr:=relayAll_perm t2 es1 (SetTable.grown es1.size);have hfr:=relayAll_fits t2 es1 (SetTable.grown es1.size);have hTr:=Kv hT es1 (SetTable.grown es1.size)
  have hsz:(A1g t2 es1 (SetTable.grown es1.size)).1.size<A0b:=by
   rw[<-XG,hpr.length_eq,XG];exact hb
  obtain⟨_,x2⟩:=Mj (prog:=prog) g1 hx rfl (he.perm hpr) hsz hfr hTr ((hpr.map _).trans hp);exact Zg (hg _ _ _ (Zg (A1v g1 rfl (Zi (h _ (b1.trans (Wy.update _ a _)) x2)) (A0T hsz))))
 ·rw[iG hc];exact Zi (h _ b1 x1)
theorem Uh{a:Zk}{L:List Int}{k:Int}{tk:Tok}{Q:Bool->Zj->Prop}(hX:SetX prog w s.heap a L)(hroom:L.length+1<A0b)
 (h:∀ h' b,Wy a s.heap h'->SetX prog w h' a (A0l L k)->Q b {s with heap:=h'}):Zl (Zm prog w) A (setAddHashed a (.int k tk) ((intKind prog w).hash k)) Q E s:=by
 obtain⟨o,es,ep,t,ho,hx,hd,hel,hb,hf,hT,hp⟩:=hX;have hkey:(intKind prog w).is k (.int k tk)=true:=A1r _ _ _ _;have hsz:es.size=L.length:=by rw[<-hp.length_eq,W8,XG]
 unfold setAddHashed setAddHashedIn;refine Zz (Zg (A0j ho hd hf ?_));dsimp only;rw[byScan_of (knd:=intKind prog w) rfl hb hel,iP rfl];unfold setAddByScan;refine Zg (Zg (A0k (Zg (wpAny_setScan_of hkey ho hd hf hel ?_))))
 have hin:(L.any (· == k))=true↔∃ e∈es.toList,(intKind prog w).is k e.2=true:=by
  rw[XR];constructor
  ·rintro⟨x,hxL,e⟩;obtain⟨y,hy,ey⟩:=Wi.mp (hp.mem_iff.mpr hxL);obtain⟨⟨k',hk',_⟩,_⟩:=hel y hy;have:numOf y.2=k':=DT hk';have:k'=k:=by rw[<-this,ey];simpa using e
   subst this;exact⟨y,hy,hk'⟩
  ·rintro⟨y,hy,hk'⟩;refine⟨k,hp.mem_iff.mp (Wi.mpr ⟨y,hy,DT hk'⟩),by simp⟩
 cases hr:List.findIdx? (λe=>(intKind prog w).is k e.2) es.toList with
 | some j=>
   obtain⟨hj,hpj,_⟩:=List.findIdx?_eq_some_iff_getElem.mp hr;have hL:A0l L k=L:=by unfold A0l;rw[iP (hin.mpr ⟨_,Ww hj,hpj⟩)]
   refine Zi (Zi ?_);exact h s.heap _ (Wy.refl a s.heap) (by rw[hL];exact⟨o,es,ep,t,ho,hx,hd,hel,hb,hf,hT,hp⟩)
 | none=>
   have hL:A0l L k=L++[k]:=by
    unfold A0l;rw[iG];intro z;obtain⟨e,he,hk'⟩:=hin.mp z;have:=List.findIdx?_eq_none_iff.mp hr e he;rw[hk']at this;cases this
   have q1:=layNew_perm t es ((intKind prog w).hash k) (.int k tk);have q2:=layNew_fits t es ((intKind prog w).hash k) (.int k tk);have q3:=PR hT es ((intKind prog w).hash k) (.int k tk);generalize layNew t es ((intKind prog w).hash k) (.int k tk)=lay at q1 q2 q3 ⊢;obtain⟨es1,t1,dm,gv⟩:=lay;dsimp only at q1 q2 q3 ⊢;rw[Z4]at q1;have he1:ElemsOf (intKind prog w) es1.toList:=(hel.push hkey rfl).perm q1
   have hz1:es1.size<A0b:=by
    rw[<-XG,q1.length_eq,W7,XG,hsz];simpa using hroom
   have hp1:(es1.toList.map λe=>numOf e.2).Perm (A0l L k):=by
    rw[hL];refine(q1.map _).trans ?_;rw[Wd];exact hp.append_right _
   have hgw:∀(b:Bool) (s₁:Zj) (Q':Unit->Zj->Prop),Q' () s₁->Zl (Zm prog w) A (match b with | true=>rule "set.scan.the-table-gave-way" | false=>pure ()) Q' E s₁:=
    λb s₁ Q' hq=>by cases b<;>first | exact Zi hq | exact A0k hq
   refine Zg (hgw _ _ _ ?_);split
   ·refine Zg ?_;rw[hashByValue_scannable 8 rfl];refine Zi (RF hgw ho hx hd he1 hz1 q2 q3 hp1 λh' hsb hX'=>?_);exact Zi (h h' _ hsb hX')
   ·refine Zg (Zi ?_);rw[iP rfl];refine RF hgw ho hx hd he1 hz1 q2 q3 hp1 λh' hsb hX'=>?_;exact Zi (h h' _ hsb hX')
end
section
variable{prog:Zo}{w:Zq}{A:Zx}{R:Result->Zj->Prop}{I:Zk}{fp wr:List Zk}{G:Array A1c->Array A1c->Prop}{n:Nat}{P:Nat->Zh->Prop}{St:Nat->Zj->Prop}
theorem Ui(W:WalksS prog w A.in1 I fp wr G n P St)(S:Zk)(hSf:S∉fp)(val:Nat->Int)(hval:∀ i v,P i v->∃ t,v = .int (val i) t)(hb:n+1<A0b):
 ∀(k i:Nat) (s:Zj),i+k=n->St i s->SetX prog w s.heap S (A0s val i)->
  (∀ s',Moved (S::wr) G s s'->SetX prog w s'.heap S (A0s val n)->R (.ok (.ret .none)) s')->
  codeAny (Zm prog w) A (.builtin "set.update.loop" ⟨[.ref S,.ref I],[]⟩) R s:=by
 have nw:S∉wr:=λz=>hSf (W.sub _ z);have up:∀ b∈wr,b∈S::wr:=λb hb=>WL _ hb;intro k
 induction k with
 | zero=>
   intro i s hk hst hX hR;obtain rfl:i=n:=hk;refine A0h F.entry_set_update_loop ?_;rw[Around.under_plainId F.plain_set_update_loop _];exact Zg (m:=pyNext (.ref I)) (W.done s _ _ hst λs' hm=>Zi (hR s' (hm.mono up) (hX.keep λo e=>hm.heap S o nw e)))
 | succ k ih=>
   intro i s hk hst hX hR;refine A0h F.entry_set_update_loop ?_;rw[Around.under_plainId F.plain_set_update_loop _];refine Zg (m:=pyNext (.ref I)) (W.item i s _ _ (by omega) hst λv s1 hP st1 hm=>?_);obtain⟨t,rfl⟩:=hval i v hP;refine Zg (m:=holding [Value.int (val i) t] (setAdd S (.int (val i) t))) (Zz ?_);unfold setAdd;have X1:SetX prog w s1.heap S (A0s val i):=hX.keep λo e=>hm.heap S o nw e;have room:(A0s val i).length+1<A0b:=by have:=A0Q val i;omega
   refine Zz (Zg ((intKind prog w).pyHash (k:=val i) (A1r _ _ _ _) ?_));refine Uh (s:={s1 with toks:=s1.toks+1}) X1 room λh2 b hsb X2=>?_;rw[<-firstMet_succ]at X2;have oth:∀ b o,b≠S->s1.heap.get? b=some o->h2.get? b=some o:=λb o hne e=>(hsb.2 b hne).trans e;refine Zi ⟨A0J F.plain_set_update_loop _,ih (i+1) _ (by omega) (W.frame _ s1 _ _ st1 (Y8 _) λb hbf o e=>oth b o (λz=>hSf (z▸hbf)) e) X2 λs3 m3 X3=>?_⟩;exact hR s3 (Moved.trans W.gtrans ((hm.mono up).then_heap (Y8 _) λb o hb e=>oth b o (λz=>hb (by rw[z];exact WW)) e) m3) X3
end
section
variable{prog:Zo}{w:Zq}{A:Zx}{E:Zh->Zj->Prop}{s:Zj}
noncomputable abbrev At(w:Zq):Obj:={cls := .type "set",dict:=none,data := .set #[] 0 (.fresh 0 0 (!w.params.followText "set-order"))}
theorem Uj(a:Zh){Q₁:Zh->Zj->Prop}(h:Q₁ (.ref s.heap.objs.size) {s with heap:=s.heap.push (At w)}):codeAny (Zm prog w) A (.call (.builtin "set.__new__") ⟨[.type "set",a],[]⟩) (wants Q₁ E) s:=by
 refine A0v ?_;show Zl _ A.in1 (checkBuiltinCall "set.__new__" ⟨[.type "set",a],[]⟩ >>= λ_=>again (.builtin "set.__new__" ⟨[.type "set",a],[]⟩)) _ _ s;refine Zg (A1E (F.newCall_set_1 a) (Zi ⟨A0J F.plain_set_new _,A0h F.entry_set_new ?_⟩));rw[Around.under_plainId F.plain_set_new _];unfold Builtin.«set.__new__» Builtin.Frozenset.newClass;have sub:=sub_set_self;obtain⟨hp,g,d,tk,os⟩:=s;dsimp only
 wp_walk
 refine A0m (Zi ?_);dsimp only;simp only[newObj];exact Zg (wpAny_alloc (Zi (Zi h)))
theorem IO(h:Heap):SetX prog w (h.push (At w)) h.objs.size []:=
 ⟨_,#[],0,_,WU _ rfl,⟨rfl,rfl,rfl⟩,rfl,λe he=>by simp at he,by decide,rfl,⟨λi j hi=>absurd hi (Y4 _),rfl,rfl⟩,by simp⟩
set_option maxHeartbeats 8000000 in
theorem Uk{l:Zk}{items:Array Zh}{ns:List Int}{Q:Zh->Zj->Prop}(hh:A.handled=none)(hl:s.heap.IsList l items)(hi:IntsAre items.toList ns)(hb:items.size+1<A0b)
 (h:∀(h':Heap) (tk:Nat),SetX prog w h' s.heap.objs.size (A0s (λi=>ns.getD i 0) items.size)->(∀ b o,b<s.heap.objs.size->s.heap.get? b=some o->h'.get? b=some o)->Q (.ref s.heap.objs.size) {s with heap:=h',toks:=tk}):
 Zl (Zm prog w) A (call (.type "set") [.ref l]) Q E s:=by
 obtain⟨c,tl,hmro⟩:=F.called_set.mro;have made:=F.called_set.made;have sub:=F.called_set.sub;have u1:=F.called_set.notType;have u2:=F.called_set.canCreate;have u3:=F.typeCall_set_1 (.ref l);refine A1M (A0v ?_);show Zl _ _ (callAny (.type "set") _) _ _ _;refine Zi ⟨Code.quiet_builtin _ (by decide +kernel),A0h F.entry_type_call ?_⟩;rw[Around.under_plain (A1a "set" [.ref l] []) rfl]
 repeat (any_goals (first | assumption | wp_step))
 refine A0i (Uj (.ref l) (E:=E) (Q₁:=λobj s₁=>obj = .ref s.heap.objs.size/\s₁={s with heap:=s.heap.push (At w)}) ⟨rfl,rfl⟩) λr s₁ hr=>?_;cases r with
 | error e=>exact hr
 | ok fl=>
   cases fl with
   | ret obj=>
     obtain⟨rfl,rfl⟩:=hr;have gS:(s.heap.push (At w)).get? s.heap.objs.size=some (At w):=WU _ rfl;have hT:Shared.TypeIs {s with heap:=s.heap.push (At w)} (.ref s.heap.objs.size) "set":=⟨_,gS,rfl⟩
     have u4:=F.called_set.init.lookup;have u5:=F.called_set.init.bind (.ref s.heap.objs.size)
     repeat (any_goals (first | assumption | wp_step))
     refine A0i (A1h (R:=wants (λr s₂=>r = .none/\∃ h' tk,s₂={s with heap:=h',toks:=tk}/\SetX prog w h' s.heap.objs.size (A0s (λi=>ns.getD i 0) items.size)/\
      (∀ b o,b<s.heap.objs.size->s.heap.get? b=some o->h'.get? b=some o)) E) F.called_set.init.plain F.entry_set_init (A1A hT ?_)) λr₂ s₂ hr₂=>?_
     ·obtain⟨⟨cl,di,da,sl⟩,ol,cl',nl,da'⟩:=hl;simp only at cl' da';subst cl' da';have hol:(s.heap.push (At w)).get? l=some {cls := .type "list",dict:=di,data := .seq items nl,slots:=sl}:=WD _ ol;have v1:=F.sub_list_set;have v2:=F.sub_list_frozenset;have v3:(Value.type "list" == Value.type "dict")=false:=by decide
      have hl1:(s.heap.push (At w)).IsList l items:=⟨_,hol,rfl,nl,rfl⟩
      unfold Builtin.«set.__init__» noKeywords Builtin.Frozenset.updateFrom;generalize hPI:pyIter=PI
      wp_walk
      subst hPI;refine A0F hl1 (Zg (A1i ?_));have lS:l<s.heap.objs.size:=WR ol;have z1:(s.heap.push (At w)).objs.size=s.heap.objs.size+1:=XN _ _;have lI:l≠(s.heap.push (At w)).objs.size:=by rw[z1];exact WZ (Xx lS)
      have hSf:s.heap.objs.size∉[(s.heap.push (At w)).objs.size,l]:=by
       rw[z1];intro z;rcases WV.mp z with z | z
       ·exact absurd z (WZ (YK _))
       ·exact absurd (W9.mp z) (Z1 lS)
      have hval:∀(i:Nat) (v:Zh),items[i]?=some v->∃ t,v = .int ((λi=>ns.getD i 0) i) t:=λi v hv=>IntsAre.int_at hi i v (by rw[XI];exact hv)
      refine Ui ((Walks.list (by simp[hh]) _ l lI items).toS) s.heap.objs.size hSf (λi=>ns.getD i 0) hval hb items.size 0 _ (ZY _)
       ⟨⟨_,WU _ rfl,rfl,rfl⟩,hl1.push _⟩ ((IO s.heap).keep λo e=>WD _ e) λs' hm X'=>?_
      obtain⟨h',g',d',tk',os'⟩:=s';obtain rfl:g'=s.gens:=hm.gens;obtain rfl:d'=s.drawn:=hm.drawn;obtain rfl:os'=s.os:=hm.os;refine Zi (Zi ⟨rfl,h',tk',rfl,X',λb o hb e=>hm.heap b o (λz=>?_) (WD _ (WD _ e))⟩);rcases WV.mp z with z | z
      ·exact absurd z (WZ hb)
      ·have z':=W9.mp z;rw[z1]at z';exact absurd z' (WZ (Xx hb))
     ·cases r₂ with
      | error e=>exact hr₂
      | ok fl₂=>
        cases fl₂ with
        | ret r=>
          obtain⟨rfl,h',tk,rfl,X',hk'⟩:=hr₂
          repeat (any_goals (first | assumption | wp_step))
          exact h _ _ X' hk'
        | _=>exact hr₂.elim
   | _=>exact hr.elim
end
namespace SiF
theorem slot_si_next:Slot "set_iterator" "__next__" "set_iterator.__next__":=
 .of (owner:="set_iterator") (n:="__next__") (by rw[A1H,A1b];kernel_rfl) (by decide +kernel) (by decide +kernel) (by decide +kernel)
  (by first | exact .inl (by decide +kernel) | exact .inr (by decide +kernel)) (by rw[A1Q];kernel_rfl)
theorem entry_si_next:entryFor table "set_iterator.__next__"=some Builtin.«set_iterator.__next__»:=entryFor_of_fast (by kernel_rfl)
theorem args_si_next(a:Zh):argsOk "set_iterator.__next__" ⟨[a],[]⟩:=by unfold argsOk;kernel_rfl
theorem slot_si_iter:Slot "set_iterator" "__iter__" "set_iterator.__iter__":=
 .of (owner:="set_iterator") (n:="__iter__") (by rw[A1H,A1b];kernel_rfl) (by decide +kernel) (by decide +kernel) (by decide +kernel)
  (by first | exact .inl (by decide +kernel) | exact .inr (by decide +kernel)) (by rw[A1Q];kernel_rfl)
theorem entry_si_iter:entryFor table "set_iterator.__iter__"=some Builtin.«dict_keyiterator.__iter__»:=A1R (id':="dict_keyiterator.__iter__") (by kernel_rfl) rfl (by decide +kernel) (by kernel_rfl)
theorem args_si_iter(a:Zh):argsOk "set_iterator.__iter__" ⟨[a],[]⟩:=by unfold argsOk;kernel_rfl
theorem entry_set_iter:entryFor table "set.__iter__"=some Builtin.«frozenset.__iter__»:=A1R (id':="frozenset.__iter__") (by kernel_rfl) rfl (by decide +kernel) (by kernel_rfl)
end SiF
theorem CQ{α:Type}:∀{l:List α} {i:Nat} (h:i<l.length),(l[i]::l.eraseIdx i).Perm l
 | a::l,0,h => .rfl
 | a::l,i+1,h=>(List.Perm.swap a _ _).trans ((CQ (l:=l) (i:=i) (by simpa using h)).cons a)
section
variable{prog:Zo}{w:Zq}{A:Zx}{E:Zh->Zj->Prop}
theorem PU{src:Source}{n:Nat}(hn:n≠0){s:Zj}{Q:Nat->Zj->Prop}(h:∀ i d,i<n->Q i {s with drawn:=d}):Zl (Zm prog w) A (choose src n) Q E s:=by
 intro Γ p hΓ;show Sem.wp _ _ (.choose src n .pure) _ _ _ _;rw[Sem.wp_choose];exact⟨hn,h _ _ (ZO _ (Nat.pos_of_ne_zero hn))⟩
theorem RG{α:Type}:∀(n:Nat) (xs:List α) (s:Zj) (Q:List α->Zj->Prop),xs.length=n->(∀ ys d,ys.Perm xs->Q ys {s with drawn:=d})->Zl (Zm prog w) A (A1Y n xs) Q E s
 | 0,xs,s,Q,hl,h=>by
   unfold A1Y;have:xs=[]:=YM hl;subst this;exact Zi (h [] s.drawn .rfl)
 | n+1,[],s,Q,hl,h=>by cases hl
 | n+1,x::xs,s,Q,hl,h=>by
   unfold A1Y;refine Zg (PU (by simp) λi d hi=>?_);rw[WB hi];dsimp only;refine Zg (RG n _ _ _ (by rw[YU hi];simp at hl ⊢;omega) λys d' hp=>Zi (h _ d' ?_));exact((hp.cons _)).trans (CQ hi)
end
theorem JZ{α:Type}(f:Nat->Nat):∀(n k:Nat) (left:List α) (out:Array α),left.length=n->(pickOrder.go f n k left out).toList.Perm (out.toList++left)
 | 0,k,left,out,hl=>by
   have:left=[]:=YM hl;subst this;unfold pickOrder.go;simp
 | n+1,k,left,out,hl=>by
   unfold pickOrder.go;have hi:f k % left.length<left.length:=ZO _ (by omega);rw[WB hi];dsimp only;refine(JZ f n (k+1) _ _ (by rw[YU hi];omega)).trans ?_;rw[Z4,YX];exact List.Perm.append_left _ (CQ hi)
theorem Kw{α:Type}(f:Nat->Nat)(xs:Array α):(A11 f xs).toList.Perm xs.toList:=by
 unfold A11;simpa using JZ f xs.size 0 xs.toList #[] (by simp)
end L2
set_option maxHeartbeats 400000
namespace L2
open PySem PySem.Spec PyProof.Rows
noncomputable def SetAt(w:Zq)(h:Heap)(a:Zk)(es:Array (Int×Zh))(ep:Nat)(t:A07):Prop:=∃ o,h.get? a=some o/\o.cls = .type "set"/\o.data = .set es ep t/\t.fits es.size=true/\Tab w t
theorem SetAt.keep{w:Zq}{h h':Heap}{a:Zk}{es:Array (Int×Zh)}{ep:Nat}{t:A07}(x:SetAt w h a es ep t)(k:∀ o,h.get? a=some o->h'.get? a=some o):SetAt w h' a es ep t:=let ⟨o,e,r⟩:=x;⟨o,k o e,r⟩
def slotAt(t:A07)(i:Nat):Nat:=if i=0 then 0 else t.place.getD (i - 1) 0+1
theorem IP{w:Zq}{t:A07}(T:Tab w t){i:Nat}(hi:i<=t.place.size):SetTable.below t.place (slotAt t i)=i:=by
 obtain⟨h1,h2,h3⟩:=GJ T.up (slotAt t i);by_cases z:i=0
 ·subst z;have e:slotAt t 0=0:=rfl;rw[e]at h2 h1 ⊢;by_cases q:SetTable.below t.place 0=0
  ·exact q
  ·have:=h2 0 (by omega) (by omega);omega
 ·have e:slotAt t i=t.place[i - 1]'(by omega)+1:=by unfold slotAt;rw[iG z];simp[ZN,show i - 1<t.place.size by omega]
  rw[e]at h1 h2 h3 ⊢;rcases Z5 (SetTable.below t.place (t.place[i - 1]'(by omega)+1)) i with q | q | q
  ·have:=h3 (i - 1) (by omega) (by omega);omega
  ·exact q
  ·have hi2:i<t.place.size:=by omega
   have a:=h2 i hi2 q;have b:=T.up (i - 1) i (by omega) hi2 (by omega);omega
inductive Way(w:Zq)(h:Heap)(T0 S:Zk)(es:Array (Int×Zh))(ep:Nat)(t:A07)(fs:List (Int×Zh))(i:Nat):Zh->Prop where
 | text (hw:w.params.followText "set-order"=true) (hf:fs=(A11 (w.params.setOrder S ep) es).toList):Way w h T0 S es ep t fs i (.int 0 0)
 | table (hw:w.params.followText "set-order"=false) (hd:(!t.plain&&decide (es.size>1))=false) (hf:fs=es.toList):Way w h T0 S es ep t fs i (.int (slotAt t i:Nat) 0)
 | drawn (hw:w.params.followText "set-order"=false) (pl:List Nat) (o:Obj) (n:Nat) (ho:h.get? T0=some o) (hd:o.data = .seq (pl.map λk=>Value.int (k:Nat) 0).toArray n) (hl:pl.length=fs.length)
    (hf:∀(k:Nat) p,pl[k]?=some p->es[p]?=fs[k]?):Way w h T0 S es ep t fs i (.ref T0)
noncomputable def Sit(w:Zq)(h:Heap)(T0 I S:Zk)(es:Array (Int×Zh))(ep:Nat)(t:A07)(fs:List (Int×Zh))(i:Nat):Prop:=
 ∃ o first,h.get? I=some o/\o.cls = .type "set_iterator"/\o.data = .fields #[first,.int (i:Nat) 0,.ref S,.int (es.size:Nat) 0,.int (ep:Nat) 0]/\Way w h T0 S es ep t fs i first
section
variable{prog:Zo}{w:Zq}{A:Zx}{E:Zh->Zj->Prop}{s:Zj}{T0 I S:Zk}{es:Array (Int×Zh)}{ep:Nat}{t:A07}{fs:List (Int×Zh)}{i:Nat}
theorem Sit.typeIs(x:Sit w s.heap T0 I S es ep t fs i):s.TypeIs (.ref I) "set_iterator":=let ⟨o,_,e,c,_⟩:=x;⟨o,e,c⟩
theorem BQ{b:Bool}(hw:w.params.followText "set-order"=b){Q:Bool->Zj->Prop}(h:Q b s):Zl (Zm prog w) A A1S Q E s:=by
 unfold A1S;refine Zg (A0m (Zi ?_));show Q (w.params.followText "set-order") s;rw[hw];exact h
theorem Ce{sl:Nat}{Q:Option (Zh×Nat)->Zj->Prop}(y:SetAt w s.heap S es ep t)(hw:w.params.followText "set-order"=true)(h:Q (((A11 (w.params.setOrder S ep) es)[i]?).map λe=>(e.2,sl)) s):
 Zl (Zm prog w) A (setNext S sl i ep) Q E s:=by
 obtain⟨oS,hoS,hcS,hdS,hf,T⟩:=y;unfold setNext;refine Zg (A0j hoS hdS hf ?_);dsimp only;refine Zg (BQ hw ?_);rw[iP rfl,iG (by simp)];refine Zg ?_;unfold setWalk;refine Zg (A0j hoS hdS hf ?_);dsimp only;refine Zg (BQ hw ?_);rw[iP rfl];refine Zg (A0m (Zi ?_));exact Zi h
theorem CO{Q:Option (Zh×Nat)->Zj->Prop}(y:SetAt w s.heap S es ep t)(hw:w.params.followText "set-order"=false)(hd:(!t.plain&&decide (es.size>1))=false)(hi:i<=es.size)
 (h:Q (match es[i]?,t.place[i]? with | some (_,x),some j=>some (x,j+1) | _,_=>none) s):Zl (Zm prog w) A (setNext S (slotAt t i) i ep) Q E s:=by
 obtain⟨oS,hoS,hcS,hdS,hf,T⟩:=y
 have hsz:t.place.size=es.size:=by
  simp only[SetTable.fits,W6,bQ]at hf;exact hf.1
 unfold setNext;refine Zg (A0j hoS hdS hf ?_);dsimp only;refine Zg (BQ hw ?_);rw[iG WK];show Zl _ _ (if (!t.plain&&decide (es.size>1))=true then _ else _) _ _ _;rw[hd,iG WK];show Zl _ _ ((if (!t.led&&!es.isEmpty)=true then A1j "set:maker-not-led" else pure ()) >>= _) _ _ _;rw[T.led,hw];refine Zg ?_;rw[show(!(!false)&&!es.isEmpty)=false from rfl,iG WK];refine Zi (Zi ?_);rw[IP T (by omega)];exact h
theorem Kx{e:Int×Zh}{Q:Option Zh->Zj->Prop}(x:Sit w s.heap T0 I S es ep t fs i)(y:SetAt w s.heap S es ep t)(hl:fs.length=es.size)(hi:fs[i]?=some e)
 (hQ:∀ h',Wy I s.heap h'->Sit w h' T0 I S es ep t fs (i+1)->Q (some e.2) {s with heap:=h'}):Zl (Zm prog w) A (pyNext (.ref I)) Q E s:=by
 obtain⟨o,first,ho,hc,hd,W⟩:=id x;obtain⟨oS,hoS,hcS,hdS,hf,T⟩:=id y;have hlt:i<es.size:=by rw[<-hl];exact(gM hi).1
 unfold pyNext;refine Zg (wpAny_attempt (A05 (name:=Str.ofString "__next__") x.typeIs SiF.slot_si_next (A03 SiF.slot_si_next x.typeIs SiF.entry_si_next ?_ (SiF.args_si_next _))));unfold Builtin.«set_iterator.__next__»;refine Zg (m:=slotArgs "__next__" 0 ⟨[.ref I],[]⟩) (Zi ?_);refine Zg (A1T ho hd ?_);dsimp only;refine Zg (A0L hoS hdS hf ?_);rw[iG (by simp)]
 have step2:∀(nx:Nat) (v:Zh),v=e.2->(∀ h',(∀ T o,T≠I->s.heap.get? T=some o->h'.get? T=some o)->Way w h' T0 S es ep t fs (i+1) (.int nx 0))->
  Zl (Zm prog w) A.in1 (do A1w (.ref I) 0 (rawInt nx);A1w (.ref I) 1 (rawInt ((i:Int)+1));ret v) (λfin s'=>∃ v,fin=Fin.done (Flow.ret v)/\Zl (Zm prog w) A (pure (some v)) Q E s')
   (λe s'=>Zl (Zm prog w) A (do let __do_lift <- isInstance e (Value.type "StopIteration");if __do_lift=true then pure none else throw e) Q E s') s:=by
  intro nx v hv hW;subst hv;refine Zg (A0f ho hd (by simp) ?_);have g1:=XC (Obj.mapFields (·.setIfInBounds 0 (rawInt nx))) ho (Obj.isFreed_of_fields (Obj.data_mapFields hd _));refine Zg (A0f g1 (Obj.data_mapFields hd _) (by simp) ?_);have g2:=XC (Obj.mapFields (·.setIfInBounds 1 (rawInt ((i:Int)+1)))) g1 (Obj.isFreed_of_fields (Obj.data_mapFields (Obj.data_mapFields hd _) _));refine Zi ⟨_,rfl,Zi (hQ _ ((Wy.update _ I _).trans (Wy.update _ I _)) ⟨_,_,g2,?_,?_,hW _ λT o hT e=>?_⟩)⟩
  ·exact((Obj.cls_mapFields ..).trans (Obj.cls_mapFields ..)).trans hc
  ·rw[Obj.data_mapFields (Obj.data_mapFields hd _)];simp[rawInt]
  ·exact(XQ _ _ (Ne.symm hT)).trans ((XQ _ _ (Ne.symm hT)).trans e)
 cases W with
 | text hw hf'=>
   dsimp only;refine Zg (Ce (i:=i) (ep:=ep) y hw ?_);have:(A11 (w.params.setOrder S ep) es)[i]?=some e:=by rw[<-XI,<-hf'];exact hi
   rw[this];exact step2 0 e.2 rfl λh' _ => .text hw hf'
 | table hw hd' hf'=>
   dsimp only;refine Zg (CO (i:=i) (ep:=ep) y hw hd' (by omega) ?_)
   have hsz:t.place.size=es.size:=by
    simp only[SetTable.fits,W6,bQ]at hf;exact hf.1
   have e1:es[i]?=some e:=by rw[<-XI,<-hf'];exact hi
   have e2:t.place[i]?=some (t.place[i]'(by omega)):=by simp[show i<t.place.size by omega]
   rw[e1,e2];refine step2 _ e.2 rfl λh' _=>?_;have:t.place[i]'(by omega)+1=slotAt t (i+1):=by unfold slotAt;rw[iG (by omega)];simp[ZN,show i<t.place.size by omega]
   rw[this];exact .table hw hd' hf'
 | drawn hw pl oT nT hoT hdT hlT hfT=>
   dsimp only;refine Zg (A0N hoT hdT ?_);have hip:i<pl.length:=by omega
   have e1:pl[i]?=some (pl[i]'hip):=by simp
   have e2:(pl.map λk=>Value.int (k:Nat) 0).toArray[(i:Int).toNat]?=some (.int ((pl[i]'hip:Nat):Int) 0):=by simp[hip]
   dsimp only;rw[e2];dsimp only;have e3:es[pl[i]'hip]?=some e:=by rw[hfT i _ e1];exact hi
   refine Zg ?_;unfold setNextDrawn;refine Zg (A0j hoS hdS hf ?_);dsimp only;rw[iG (by simp),Xf,e3];refine Zi (Zg (A0f ho hd (by simp) ?_));have g1:=XC (Obj.mapFields (·.setIfInBounds 1 (rawInt ((i:Int)+1)))) ho (Obj.isFreed_of_fields (Obj.data_mapFields hd _));have hTI:T0≠I:=λz=>by subst z;rw[ho]at hoT;cases hoT;rw[hd]at hdT;cases hdT
   refine Zi ⟨_,rfl,Zi (hQ _ (Wy.update _ I _) ⟨_,_,g1,(Obj.cls_mapFields ..).trans hc,?_,.drawn hw pl oT nT ((XQ _ _ (Ne.symm hTI)).trans hoT) hdT hlT hfT⟩)⟩;rw[Obj.data_mapFields hd];simp[rawInt]
theorem Mk{Q:Option Zh->Zj->Prop}(hh:A.handled=none)(hQ:∀ h',ZI I s.heap h'->Q none {s with heap:=h'})(k:Sem Unit)(hk:∀(Q':Unit->Zj->Prop) (E':Zh->Zj->Prop),(∀ h',Wy I s.heap h'->Q' () {s with heap:=h'})->Zl (Zm prog w) A.in1 k Q' E' s):
 Zl (Zm prog w) A.in1 (k >>= λ_=>newExc (.type "StopIteration") [] >>= λe=>raiseNew (α:=Fin) e) (λfin s'=>∃ v,fin=Fin.done (Flow.ret v)/\Zl (Zm prog w) A (pure (some v)) Q E s')
  (λe s'=>Zl (Zm prog w) A (do let __do_lift <- isInstance e (Value.type "StopIteration");if __do_lift=true then pure none else throw e) Q E s') s:=by
 refine Zg (hk _ _ λh' hs=>?_);refine Zg ?_;simp only[newExc,newTuple];refine Zg (Zt ?_ (by size_fits));refine Zg (m:=A0O _ _) (A1E (a:=Value.none) (by first | rfl | (simp only[A0O];rfl)) ?_);refine Zt ?_ (by size_fits);simp only[raiseNew];refine Zg (wpAny_handled ?_);rw[show A.in1.handled=none from hh];refine Zg (Zi (wpAny_throw ?_));refine Zg (A1B (T:="StopIteration") (b:=true) ⟨_,WU _ rfl,rfl⟩ isSubtype_stop ?_);exact Zi (hQ _ ((hs.extBut.push _).push _))
theorem Ml{Q:Option Zh->Zj->Prop}(hh:A.handled=none)(x:Sit w s.heap T0 I S es ep t fs es.size)(y:SetAt w s.heap S es ep t)(hl:fs.length=es.size)
 (hQ:∀ h',ZI I s.heap h'->Q none {s with heap:=h'}):Zl (Zm prog w) A (pyNext (.ref I)) Q E s:=by
 obtain⟨o,first,ho,hc,hd,W⟩:=id x;obtain⟨oS,hoS,hcS,hdS,hf,T⟩:=id y;unfold pyNext;refine Zg (wpAny_attempt (A05 (name:=Str.ofString "__next__") x.typeIs SiF.slot_si_next (A03 SiF.slot_si_next x.typeIs SiF.entry_si_next ?_ (SiF.args_si_next _))));unfold Builtin.«set_iterator.__next__»;refine Zg (m:=slotArgs "__next__" 0 ⟨[.ref I],[]⟩) (Zi ?_);refine Zg (A1T ho hd ?_);dsimp only;refine Zg (A0L hoS hdS hf ?_);rw[iG (by simp)];have one:∀(Q':Unit->Zj->Prop) (E':Zh->Zj->Prop),(∀ h',Wy I s.heap h'->Q' () {s with heap:=h'})->Zl (Zm prog w) A.in1 (A1w (.ref I) 2 .none) Q' E' s:=λQ' E' q=>A0f ho hd (by simp) (q _ (Wy.update ..));cases W with
 | text hw hf'=>
   dsimp only;refine Zg (Ce (i:=es.size) (ep:=ep) y hw ?_);have:(A11 (w.params.setOrder S ep) es)[es.size]?=none:=by rw[<-XI,<-hf'];exact Y7 (by omega)
   rw[this];exact Mk hh hQ _ one
 | table hw hd' hf'=>
   dsimp only;refine Zg (CO (i:=es.size) (ep:=ep) y hw hd' (WJ _) ?_);rw[show es[es.size]?=none by simp];exact Mk hh hQ _ one
 | drawn hw pl oT nT hoT hdT hlT hfT=>
   dsimp only;refine Zg (A0N hoT hdT ?_);have e2:(pl.map λk=>Value.int (k:Nat) 0).toArray[((es.size:Nat):Int).toNat]?=none:=by simp;omega
   dsimp only;rw[e2];dsimp only
   have two:=Mk (prog:=prog) (w:=w) (A:=A) (E:=E) (s:=s) (I:=I) (Q:=Q) hh hQ (A1w (.ref I) 0 (rawInt 0) >>= λ_=>A1w (.ref I) 2 .none) λQ' E' q=>by
    refine Zg (A0f ho hd (by simp) ?_);have g1:=XC (Obj.mapFields (·.setIfInBounds 0 (rawInt 0))) ho (Obj.isFreed_of_fields (Obj.data_mapFields hd _));exact A0f g1 (Obj.data_mapFields hd _) (by simp) (q _ ((Wy.update _ I _).trans (Wy.update _ I _)))
   rw[bind_assoc]at two;exact two
theorem Ky{Q:Zh->Zj->Prop}(x:Sit w s.heap T0 I S es ep t fs i)(h:Q (.ref I) s):Zl (Zm prog w) A (pyIter (.ref I)) Q E s:=by
 refine A1x x.typeIs SiF.slot_si_iter (A03 SiF.slot_si_iter x.typeIs SiF.entry_si_iter ?_ (SiF.args_si_iter _));show Zl _ _ (ret (.ref I)) _ _ s;exact Zi ⟨_,rfl,"set_iterator",_,x.typeIs,SiF.slot_si_next.lookup,h⟩
theorem Sit.keep{h h':Heap}(x:Sit w h T0 I S es ep t fs i)(k:∀ b,b=I\/b=T0->∀ o,h.get? b=some o->h'.get? b=some o):Sit w h' T0 I S es ep t fs i:=by
 obtain⟨o,first,ho,hc,hd,W⟩:=x;refine⟨o,first,k I (.inl rfl) _ ho,hc,hd,?_⟩;cases W with
 | text hw hf=>exact .text hw hf
 | table hw hp hf=>exact .table hw hp hf
 | drawn hw pl oT n hoT hdT hl hf=>exact .drawn hw pl oT n (k T0 (.inr rfl) _ hoT) hdT hl hf
theorem Ul(hh:A.handled=none)(T0 I S:Zk)(hne:S≠I)(es:Array (Int×Zh))(ep:Nat)(t:A07)(fs:List (Int×Zh))(hl:fs.length=es.size):
 Walks prog w A I [I,S,T0] [I] es.size (λi v=>∃ e,fs[i]?=some e/\e.2=v) (λi h=>Sit w h T0 I S es ep t fs i/\SetAt w h S es ep t) where
 sub:=λb hb=>by simp at hb;simp[hb]
 frame:=λ_ _ _ st hk=>⟨st.1.keep λb hb o e=>hk b (by rcases hb with rfl | rfl<;>simp) o e,st.2.keep λo e=>hk S (by simp) o e⟩
 item:=λi s Q E hi st hQ=>by
  have hi':i<fs.length:=by omega
  refine Kx (e:=fs[i]) st.1 st.2 hl (by simp) λh' hs' x'=>?_;exact hQ fs[i].2 h' s.toks ⟨fs[i],by simp,rfl⟩ ⟨x',st.2.keep λo e=>hs'.extBut _ _ hne e⟩ λb o hb e=>hs'.extBut b o (λh=>hb (by simp[h])) e
 done:=λs Q E st hQ=>Ml hh st.1 st.2 hl λh' he'=>hQ h' s.toks λb o hb e=>he' b o (λh=>hb (by simp[h])) e
 self:=λ_ _ _ _ st hQ=>Ky st.1 hQ
theorem Um{Q:Zh->Zj->Prop}(y:SetAt w s.heap S es ep t)(hz:es.size<=Zn)
 (hQ:∀ h' d I T0 fs,(∀ b o,s.heap.get? b=some o->h'.get? b=some o)->s.heap.objs.size<=I->s.heap.objs.size<=T0->h'.objs.size=I+1->fs.Perm es.toList->Sit w h' T0 I S es ep t fs 0->Q (.ref I) {s with heap:=h',drawn:=d}):Zl (Zm prog w) A (pyIter (.ref S)) Q E s:=by
 obtain⟨oS,hoS,hcS,hdS,hf,T⟩:=id y;have hT:s.TypeIs (.ref S) "set":=⟨oS,hoS,hcS⟩
 refine A1x hT F.slot_set_iter (A03 F.slot_set_iter hT SiF.entry_set_iter ?_ (F.args_set_iter_1 _));unfold Builtin.«frozenset.__iter__»;refine Zg (m:=Builtin.Frozenset.slot0 "__iter__" ⟨[.ref S],[]⟩) (Zi ?_);refine Zg (m:=Builtin.Frozenset.sizeOf S) ?_;unfold Builtin.Frozenset.sizeOf;refine Zg (A0L hoS hdS hf (Zi ?_));refine Zg ?_;unfold setDrawn;refine Zg (A0j hoS hdS hf ?_);dsimp only
 have fin:∀(first:Zh) (h:Heap) (d:Drawn) (fs:List (Int×Zh)) (T0:Zk),(∀ b o,s.heap.get? b=some o->h.get? b=some o)->s.heap.objs.size<=h.objs.size->s.heap.objs.size<=T0->fs.Perm es.toList->(∀ h',(∀ b o,h.get? b=some o->h'.get? b=some o)->Way w h' T0 S es ep t fs 0 first)->
  Zl (Zm prog w) A.in1 (setEpoch S >>= λe=>newFields "set_iterator" [first,rawInt 0,.ref S,rawInt (es.size:Nat),rawInt e] >>= λv=>ret v)
   (λfin s'=>∃ r,fin=Fin.done (Flow.ret r)/\∃ T' r_1,s'.TypeIs r T'/\A1O (.type T') "__next__"=pure (some r_1)/\Q r s') E {s with heap:=h,drawn:=d}:=by
  intro first h d fs T0 hk h1 h2 hp hW
  refine Zg (wpAny_setEpoch_of (hk _ _ hoS) hdS hf ?_);refine Zg (Zt ?_ (by size_fits));refine Zi ⟨_,rfl,"set_iterator",_,⟨_,WU _ rfl,rfl⟩,SiF.slot_si_next.lookup,?_⟩;have kp:∀ b o,h.get? b=some o->(h.push {cls := .type "set_iterator",data := .fields #[first,rawInt 0,.ref S,rawInt (es.size:Nat),rawInt (ep:Nat)]}).get? b=some o:=λb o e=>WD _ e;exact hQ _ d h.objs.size T0 fs (λb o e=>kp b o (hk b o e)) h1 h2 (XN _ _) hp ⟨_,first,WU _ rfl,rfl,rfl,hW _ kp⟩
 cases hw:w.params.followText "set-order" with
 | true=>
   refine Zg (BQ hw (Zi ?_));show Zl _ _ (if (!true&&(!t.plain&&decide (es.size>1)))=true then _ else _) _ _ _;rw[iG (by simp)];refine Zg (Zi ?_);exact fin _ s.heap s.drawn _ s.heap.objs.size (λ_ _ e=>e) (WJ _) (WJ _) (Kw (w.params.setOrder S ep) es) λh' _ => .text hw rfl
 | false=>
   refine Zg (BQ hw (Zi ?_));show Zl _ _ (if (!false&&(!t.plain&&decide (es.size>1)))=true then _ else _) _ _ _;cases hpl:(!t.plain&&decide (es.size>1)) with
   | false=>
     rw[iG (by simp)];refine Zg (Zi ?_);exact fin _ s.heap s.drawn es.toList s.heap.objs.size (λ_ _ e=>e) (WJ _) (WJ _) .rfl λh' _ => .table hw hpl rfl
   | true=>
     rw[iP (by simp)];refine Zg (RG es.size (WN es.size) s _ (by simp) λpl d hp=>?_);refine Zg (wpAny_newTuple ?_ (by rw[W8,hp.length_eq,Xh];exact hz));have hin:∀ p∈pl,p<es.size:=λp hpm=>Wt.mp (hp.mem_iff.mp hpm);have efs:∃ fs:List (Int×Zh),fs=pl.filterMap (λp=>es[p]?):=⟨_,rfl⟩
     obtain⟨fs,efs⟩:=efs
     have hfs:∀(l:List Nat),(∀ p∈l,p<es.size)->(l.filterMap λp=>es[p]?).length=l.length/\∀(k:Nat) p,l[k]?=some p->es[p]?=(l.filterMap λp=>es[p]?)[k]?:=by
      intro l
      induction l with
      | nil=>intro _;exact⟨rfl,λk p h=>by simp at h⟩
      | cons a l ih=>
        intro hl;obtain⟨i1,i2⟩:=ih λp hp=>hl p (WL _ hp);have ha:=hl a (WW ..);have ea:es[a]?=some es[a]:=by simp[ha]
        rw[YZ ea];refine⟨by simp[i1],λk p h=>?_⟩;cases k with
        | zero=>simp at h;subst h;simp[ha]
        | succ k=>simpa using i2 k p (by simpa using h)
     obtain⟨l1,l2⟩:=hfs pl hin;refine fin _ _ d fs s.heap.objs.size (λb o e=>WD _ e) (by rw[XN];exact Y8 _) (WJ _) ?_ λh' k=>?_
     ·rw[efs];exact(hp.filterMap _).trans (by rw[filterMap_getElem?_range])
     ·exact .drawn hw pl _ 0 (k _ _ (WU _ rfl)) rfl (by rw[efs,l1]) (λk p h=>by rw[efs];exact l2 k p h)
end
end L2
set_option maxHeartbeats 800000
namespace L2
open PySem PySem.Spec PyProof.Rows
section
variable{prog:Zo}{w:Zq}{A:Zx}{E:Zh->Zj->Prop}{s:Zj}{S:Zk}{es:Array (Int×Zh)}{ep:Nat}{t:A07}
theorem Uo{Q:Bool->Zj->Prop}(hT:s.TypeIs (.ref S) "set")(h:Q false s):Zl (Zm prog w) A (Builtin.List.listLengthHint (.ref S)) Q E s:=by
 unfold Builtin.List.listLengthHint;refine Zg (A1G hT PySem.F.slot_set_len.lookup ?_);generalize hid:("set.__len__":String)=id0
 wp_delta
 rw[show splitId id0=some ("set","__len__") from by subst hid;decide +kernel];subst hid;refine Zg (A1B (T:="set") (b:=true) hT sub_set_self ?_);refine A17 (λz=>absurd z (by decide)) (λ_=>?_);refine A17 (λ_=>?_) (λz=>absurd (by decide +kernel) z);exact Zg (A0M hT (Zi h))
theorem Mm{Q:List Zh->Zj->Prop}(hh:A.handled=none)(y:SetAt w s.heap S es ep t)(hz:es.size<=Zn)
 (hQ:∀ h' tk d (acc:List Zh) (fs:List (Int×Zh)),(∀ b o,s.heap.get? b=some o->h'.get? b=some o)->s.heap.objs.size<=h'.objs.size->fs.Perm es.toList->acc=fs.map (·.2)->Q acc {s with heap:=h',toks:=tk,drawn:=d}):
 Zl (Zm prog w) A (collect (.ref S)) Q E s:=by
 obtain⟨oS,hoS,hcS,hdS,hf,T⟩:=id y;unfold collect;refine Zg (A1i (A0h PySem.F.entry_proto_collect ?_));rw[Around.under_plainId PySem.F.plain_proto_collect _];refine Zg (m:=newList []) (Zt ?_);refine Zi ⟨A0J PySem.F.plain_list_iadd _,A0h PySem.F.entry_list_iadd ?_⟩;rw[Around.under_plainId PySem.F.plain_list_iadd _];show Zl _ A.in1 (Builtin.List.listExtendWith (.ref s.heap.objs.size) (.ref S) (.ref s.heap.objs.size)) _ _ {s with heap:=s.heap.push {cls := .type "list",data := .seq ([]:List Zh).toArray}};have y1:SetAt w (s.heap.push {cls := .type "list",data := .seq ([]:List Zh).toArray}) S es ep t:=y.keep λo e=>WD _ e;have hne:s.heap.objs.size≠S:=λz=>by rw[<-z]at hoS;exact absurd (WR hoS) (Xp _)
 have hL:(s.heap.push {cls := .type "list",data := .seq ([]:List Zh).toArray}).get? s.heap.objs.size=some {cls := .type "list",data := .seq #[]}:=WU _ rfl;have hz1:(s.heap.push {cls := .type "list",data := .seq ([]:List Zh).toArray}).objs.size=s.heap.objs.size+1:=XN _ _;unfold Builtin.List.listExtendWith;refine Zg (A0M (T:="set") ⟨oS,WD _ hoS,hcS⟩ ?_);have b1:Builtin.List.listSameRef (.ref s.heap.objs.size) (.ref S)=false:=by simp[Builtin.List.listSameRef,hne]
 have b2:(Value.type "set" == Value.type "list")=false:=by decide
 have b3:(Value.type "set" == Value.type "tuple")=false:=by decide
 simp only[b1,b2,b3,Ya,Yx,if_false];refine Zg (Um (s:={s with heap:=s.heap.push {cls := .type "list",data := .seq ([]:List Zh).toArray}}) y1 hz λh2 d I T0 fs k2 hI hT0 hz2 hp x2=>?_);have y2:SetAt w h2 S es ep t:=y1.keep λo e=>k2 _ _ e;refine Zg (Zz (Uo (s:={s with heap:=h2,drawn:=d}) ⟨oS,k2 _ _ (WD _ hoS),hcS⟩ ?_));have hL2:=k2 _ _ hL;have LI:s.heap.objs.size≠I:=by rw[hz1]at hI;exact WZ hI
 have LT:s.heap.objs.size≠T0:=by rw[hz1]at hT0;exact WZ hT0
 have SI:S≠I:=λz=>by
  have h1:=WR hoS;rw[hz1,<-z]at hI;exact absurd (Z6 hI) (ZD h1)
 have nf:s.heap.objs.size∉[I,S,T0]:=by
  simp only[WV,List.not_mem_nil,or_false,not_or];exact⟨LI,hne,LT⟩
 have hlen:fs.length=es.size:=by rw[hp.length_eq,XG]
 have W:=(Ul (prog:=prog) (w:=w) (A:=A.in1) hh T0 I S SI es ep t fs hlen).toS
 have key:∀(h:Heap) (c tk:Nat),Sit w h T0 I S es ep t fs 0->SetAt w h S es ep t->(∀ b o,b≠s.heap.objs.size->h2.get? b=some o->h.get? b=some o)->h.get? s.heap.objs.size=some {cls := .type "list",dict:=none,data := .seq #[] c,slots:=#[]}->s.heap.objs.size<=h.objs.size->
  codeAny (Zm prog w) A (.builtin "list.extend.loop" ⟨[.ref s.heap.objs.size,.ref I,.ref s.heap.objs.size],[]⟩) (wants (λv s'=>∃ h' tk' acc c',v = .ref s.heap.objs.size/\s'={s with heap:=h',toks:=tk',drawn:=d}/\(∀ b o,s.heap.get? b=some o->h'.get? b=some o)/\s.heap.objs.size<=h'.objs.size/\h'.get? s.heap.objs.size=some {cls := .type "list",dict:=none,data := .seq acc c',slots:=#[]}/\ItemsOf (λi v=>∃ e,fs[i]?=some e/\e.2=v) acc es.size) E) {s with heap:=h,toks:=tk,drawn:=d}:=by
  intro h c tk x3 y3 k3 hL3 hz3;refine codeAny_extend_loopS W hz s.heap.objs.size nf (.ref s.heap.objs.size) es.size 0 _ #[] c rfl (XA _) ⟨x3,y3⟩ hL3 (ItemsOf.nil _) λs' acc c' hm hS' hacc=>?_;rw[Moved.eq_with hm];refine⟨s'.heap,s'.toks,acc,c',rfl,rfl,λb o e=>hm.heap b o (λz=>?_) (k3 b o (WZ (WR e)) (k2 _ _ (WD _ e))),XY (WR hS'),hS',hacc⟩;rcases WV.mp z with z | z
  ·exact absurd z (WZ (WR e))
  ·have z':=W9.mp z;rw[hz1]at hI;have:=WR e;rw[z']at this;exact absurd this (ZD (Z6 hI))
 have fin:∀ r s',wants (λv s'=>∃ h' tk' acc c',v = .ref s.heap.objs.size/\s'={s with heap:=h',toks:=tk',drawn:=d}/\(∀ b o,s.heap.get? b=some o->h'.get? b=some o)/\s.heap.objs.size<=h'.objs.size/\h'.get? s.heap.objs.size=some {cls := .type "list",dict:=none,data := .seq acc c',slots:=#[]}/\ItemsOf (λi v=>∃ e,fs[i]?=some e/\e.2=v) acc es.size) E r s'->
  wants (λv s'=>Zl (Zm prog w) A (match v with | .ref a=>load a >>= λo=>(match o.data with | .seq xs _=>pure xs.toList | _=>A1j "internal:collect") | _=>A1j "internal:collect") Q E s') E r s':=by
  intro r s' hr;cases r with
  | error e=>exact hr
  | ok fl=>
    cases fl with
    | ret v=>
      obtain⟨h',tk',acc,c',rfl,rfl,h3,h4,h5,h6⟩:=hr;refine Zg (wpAny_load (s:={s with heap:=h',toks:=tk',drawn:=d}) h5 (Zi (hQ h' tk' d _ fs h3 h4 hp ?_)));refine List.ext_getElem? λk=>?_;rw[WQ,XI];by_cases hk:k<es.size
      ·have ha:acc[k]?=some (acc[k]'(by rw[h6.1];exact hk)):=by simp[h6.1,hk]
       obtain⟨e,he,ev⟩:=h6.2 k _ ha;rw[ha,he,<-ev];rfl
      ·rw[Array.getElem?_eq_none (by rw[h6.1];omega),Y7 (by omega)];rfl
    | _=>exact hr.elim
 refine A17 (λ_=>?_) (λ_=>Zi ⟨A0J PySem.F.plain_extend_loop _,A0i (key _ _ _ x2 y2 (λ_ _ _ e=>e) hL2 (XY (WR hL2))) fin⟩);refine Zg (A0k (Zg ?_));show Zl _ _ (updateSeq s.heap.objs.size (·.push .none) >>= λ_=>updateSeq s.heap.objs.size (·.pop)) _ _ _;refine Zg (A18 hL2 rfl ?_);have u1:=XC (Obj.mapSeq (·.push Value.none)) hL2 rfl;refine A18 (hz:=by seq_fits) u1 rfl ?_;have u2:=XC (Obj.mapSeq (·.pop)) u1 rfl;have oth:∀ b o,b≠s.heap.objs.size->h2.get? b=some o->((h2.update s.heap.objs.size (Obj.mapSeq (·.push Value.none))).update s.heap.objs.size (Obj.mapSeq (·.pop))).get? b=some o:=λb o hb e=>(XQ _ _ (Ne.symm hb)).trans ((XQ _ _ (Ne.symm hb)).trans e);refine Zi ⟨A0J PySem.F.plain_extend_loop _,A0i (key _ _ _ (x2.keep λb hb o e=>oth b o (by rcases hb with rfl | rfl;exact LI.symm;exact LT.symm) e) (y2.keep λo e=>oth _ o hne.symm e) oth u2 ?_) fin⟩;rw[ZE,ZE];exact XY (WR hL2)
end
theorem _root_.L2.Inv.dr{X:Cx}{pq:List (Zk×Obj)}{σ:St}{H:Hp}{s:Zj}(I:Inv X pq σ H s)(d:Drawn):Inv X pq σ H {s with drawn:=d}:=
 ⟨I.ok,I.os,I.bare,I.base,I.loc,I.cell,I.free,I.freeC,I.pin,I.hok,I.len⟩
section
variable{prog:Zo}{w:Zq}{A:Zx}{E:Zh->Zj->Prop}{s:Zj}
theorem Ja{S:Zk}{L:List Int}{Q:Zh->Zj->Prop}(hh:A.handled=none)(x:SetX prog w s.heap S L)(h64:L.length<64)
 (h:∀(h':Heap) (tk:Nat) (d:Drawn) (l:Zk) (out:Array Zh) (e:Nat),(∀ b o,s.heap.get? b=some o->h'.get? b=some o)->s.heap.objs.size<=l->h'.get? l=some (seqObj "list" out e)->IntsAre out.toList (srt L)->Q (.ref l) {s with heap:=h',toks:=tk,drawn:=d}):
 Zl (Zm prog w) A (call (.builtin "sorted") [.ref S]) Q E s:=by
 obtain⟨o,es,ep,t,ho,hx,hd,hel,hb,hf,hT,hp⟩:=x;refine Calls.call_function_entry kind_sorted plain_sorted entry_sorted (args_sorted1 _) ?_;unfold Builtin.«sorted»;refine Zg (m:=checkCount "sorted" 1 1 _) (Zi ?_);refine Zg (Mm (A:=A.in1) hh ⟨o,ho,hx.1,hd,hf,hT⟩ (A0T hb) λh2 tk d acc fs k2 hz2 hpf hacc=>?_)
 have hints:∀ v∈acc,∃ n tt,v=Value.int n tt:=by
  intro v hv;rw[hacc]at hv;obtain⟨e,he,rfl⟩:=Wi.mp hv;obtain⟨⟨k,hk,_⟩,_⟩:=hel e (hpf.mem_iff.mp he);obtain⟨tt,e2⟩:=Value.isInt_shape (k:=k) (v:=e.2) hk;exact⟨k,tt,e2⟩
 have hI:IntsAre acc (acc.map numOf):=intsAre_map acc hints
 have hpL:(acc.map numOf).Perm L:=by
  rw[hacc,Xg];exact(hpf.map _).trans hp
 have hl64:acc.length<64:=by have:=hpL.length_eq;rw[W8]at this;omega
 refine Zg (wpAny_newList ?_ (by rw[A1d];omega));have hoL:(h2.push (seqObj "list" acc.toArray 0)).get? h2.objs.size=some (seqObj "list" acc.toArray 0):=WU _ rfl;refine Zg (Zz (A03 (s:={s with heap:=h2.push (seqObj "list" acc.toArray 0),toks:=tk,drawn:=d}) slot_list_sort ⟨_,hoL,rfl⟩ entry_list_sort (list_sort_tree hoL hI hl64 λout ns' a1 a2 a3=>⟨_,rfl,?_⟩) (args_list_sort _)));have en:ns'=srt L:=IN (a2.trans hpL) a3;subst en;obtain⟨e,he⟩:=sortedHeap_at (vs:=acc) (out:=out) hoL;refine Zi ⟨_,rfl,h _ tk d h2.objs.size out e (λb o eb=>?_) hz2 he a1⟩;have hlt:=WR (k2 b o eb);rw[sortedHeap_old (WZ hlt) (by rw[XN];exact Xx hlt)];exact WD _ (k2 b o eb)
end
section
variable{X:Cx}
theorem Er:Zs "sorted"=some (.builtin "sorted"):=by decide +kernel
def AD(ns:List Int):List Int:=A0s (λi=>ns.getD i 0) ns.length
end
end L2
set_option maxHeartbeats 2000000
namespace L2
open PySem PySem.Spec PyProof.Rows
open PySem.AutoSeq1 (wpAny_loadPart')
section
variable{X:Cx}
theorem Uq:Zs "any"=some (.builtin "any"):=by decide +kernel
theorem Kz(hc:X.calm=true):CallR X (.builtin "any") (λxs H Q=>∃(a:Zk) (bs:List Bool),xs=[.ref a]/\SqL X.K H a (bs.map V.bl)/\Q (.bl (bs.any id)) H):=by
 intro pq s σ H xs us Q I r h;obtain⟨a,bs,rfl,hq,q⟩:=h;obtain⟨u,rfl,ru⟩:=Bj r;cases ru;obtain⟨its,rv,pl,hz⟩:=I.list hq;have hl:=rv.length;rw[W8]at hl;refine call_any_walk (A0F pl.isList ?_);have hlt:a<s.heap.objs.size:=by obtain⟨o,n,e,_⟩:=pl;exact WR e
 refine⟨s.heap.objs.size,_,_,_,_,_,λi=>bs.getD i false,rfl,Walks.list (by exact I.ok.hd hc) s.heap.objs.size a (WZ hlt) its.toArray,⟨⟨_,WU _ rfl,rfl,rfl⟩,pl.isList.push _⟩,?_,λh' tk hk=>?_⟩
 ·intro i v s' Q' E' hv hQ';have hv':its[i]?=some v:=by simpa using hv
  have hi:i<its.length:=(gM hv').1;have hb:(bs.map V.bl)[i]?=some (.bl (bs[i]'(by omega))):=by simp
  obtain⟨u',eu,ru'⟩:=rv.get hb;rw[hv']at eu;cases eu;cases ru';have hg:bs.getD i false=bs[i]'(by omega):=by simp[YC,show i<bs.length by omega]
  have hQ2:Q' (bs.getD i false) s':=hQ';rw[hg]at hQ2;exact Zy hQ2
 ·have I1:Inv X pq σ H {s with heap:=h',toks:=tk}:=I.kept λb o e=>hk b o (by simp;exact WZ (WR e)) (WD _ e);refine⟨.bl _,H,I1,rfl,?_⟩
  have e:(WN its.toArray.size).any (λi=>bs.getD i false)=bs.any id:=by
   rw[WG,<-hl,X4,XR,XR];constructor
   ·rintro⟨j,hj,e⟩;have hj1:j<bs.length:=Wt.mp hj;exact⟨bs[j],Ww hj1,by simpa[YC,hj1] using e⟩
   ·rintro⟨b,hb,e⟩;obtain⟨j,hj,e2⟩:=Xc.mp hb;exact⟨j,Wt.mpr hj,by simpa[YC,hj,e2] using e⟩
  rw[e];exact q
end
end L2
namespace Rf
open PySem L2
abbrev QE:=SV->Sto->Prop
abbrev WE:=EnvS->Sto->QE->Prop
abbrev WA:=EnvS->Sto->(List SV->Sto->Prop)->Prop
abbrev WT:=EnvS->Sto->(Bool->Sto->Prop)->Prop
noncomputable def Post(K:W5)(as:List Zk)(H:Hp)(Q:VK):QE:=λx S'=>∀ as' H' v,Go as H as' H'->Ok K as' H' S'->Rl K as' H' v x->Q v H'
noncomputable def Ur(K:W5)(as:List Zk)(H:Hp)(Q:List V->Hp->Prop):List SV->Sto->Prop:=λxs S'=>∀ as' H' vs,Go as H as' H'->Ok K as' H' S'->RlAll K as' H' vs xs->Q vs H'
noncomputable def PostT(K:W5)(as:List Zk)(H:Hp)(Q:Bool->Hp->Prop):Bool->Sto->Prop:=λb S'=>∀ as' H',Go as H as' H'->Ok K as' H' S'->Q b H'
noncomputable def lift(K:W5)(w:WE):TE:=λσ H Q=>∃ as ρ S,Ok K as H S/\EnvOk K as H σ ρ/\w ρ S (Post K as H Q)
noncomputable def liftA(K:W5)(w:WA):TA:=λσ H Q=>∃ as ρ S,Ok K as H S/\EnvOk K as H σ ρ/\w ρ S (Ur K as H Q)
noncomputable def liftT(K:W5)(w:WT):TT:=λσ H Q=>∃ as ρ S,Ok K as H S/\EnvOk K as H σ ρ/\w ρ S (PostT K as H Q)
def Mono(w:WE):Prop:=∀ ρ S (P P':QE),(∀ x S',P x S'->P' x S')->w ρ S P->w ρ S P'
noncomputable def MonoA(w:WA):Prop:=∀ ρ S (P P':List SV->Sto->Prop),(∀ x S',P x S'->P' x S')->w ρ S P->w ρ S P'
noncomputable def MonoT(w:WT):Prop:=∀ ρ S (P P':Bool->Sto->Prop),(∀ x S',P x S'->P' x S')->w ρ S P->w ρ S P'
theorem i8{X:Cx}{e:Expr}{t:TE}(t':TE)(h:PE X e t)(imp:∀ σ H Q,t' σ H Q->t σ H Q):PE X e t':=λpq s σ H Q I hw=>h pq s σ H Q I (imp σ H Q hw)
theorem CS{X:Cx}{e:Expr}{t:TT}(t':TT)(h:PT X e t)(imp:∀ σ H Q,t' σ H Q->t σ H Q):PT X e t':=λpq s σ H Q I hw=>h pq s σ H Q I (imp σ H Q hw)
theorem Mn{X:Cx}{e:List Expr}{t:TA}(t':TA)(h:PA X e t)(imp:∀ σ H Q,t' σ H Q->t σ H Q):PA X e t':=λp pq s σ H Q I hw=>h p pq s σ H Q I (imp σ H Q hw)
section
variable{K:W5}{as as1 as2:List Zk}{H H1 H2:Hp}
theorem Post.mono{Q:VK}{x:SV}{S:Sto}(h:Post K as H Q x S)(g:Go as H as1 H1):Post K as1 H1 Q x S:=λas' H' v g'=>h as' H' v (g.trans g')
end
abbrev S2:=SV->SV->Sto->QE->Prop
abbrev S1:=SV->Sto->QE->Prop
abbrev Sn:=List SV->Sto->QE->Prop
def w2(s:S2)(a b:WE):WE:=λρ S Q=>a ρ S λx S1=>b ρ S1 λy S2=>s x y S2 Q
def w1(s:S1)(a:WE):WE:=λρ S Q=>a ρ S λx S1=>s x S1 Q
def wn(s:Sn)(a:WA):WE:=λρ S Q=>a ρ S λxs S1=>s xs S1 Q
noncomputable def Mono2(s:S2):Prop:=∀ x y S (P P':QE),(∀ x S',P x S'->P' x S')->s x y S P->s x y S P'
def Es(s:S1):Prop:=∀ x S (P P':QE),(∀ x S',P x S'->P' x S')->s x S P->s x S P'
def MonoN(s:Sn):Prop:=∀ x S (P P':QE),(∀ x S',P x S'->P' x S')->s x S P->s x S P'
theorem Mono.two{s:S2}{a b:WE}(hs:Mono2 s)(ha:Mono a)(hb:Mono b):Mono (w2 s a b):=λρ S P P' i h=>ha _ _ _ _ (λ_ _ h=>hb _ _ _ _ (λ_ _ h=>hs _ _ _ _ _ i h) h) h
theorem Mono.one{s:S1}{a:WE}(hs:Es s)(ha:Mono a):Mono (w1 s a):=λρ S P P' i h=>ha _ _ _ _ (λ_ _ h=>hs _ _ _ _ i h) h
theorem Mono.n{s:Sn}{a:WA}(hs:MonoN s)(ha:MonoA a):Mono (wn s a):=λρ S P P' i h=>ha _ _ _ _ (λ_ _ h=>hs _ _ _ _ i h) h
noncomputable def Bo(K:W5)(s:S2)(r:R2):Prop:=∀ as H S x y v u Q,Ok K as H S->Rl K as H v x->Rl K as H u y->s x y S (Post K as H Q)->r v u H Q
noncomputable def Vi(K:W5)(s:S1)(r:V->Hp->VK->Prop):Prop:=∀ as H S x v Q,Ok K as H S->Rl K as H v x->s x S (Post K as H Q)->r v H Q
noncomputable def Us(K:W5)(s:Sn)(r:List V->Hp->VK->Prop):Prop:=∀ as H S xs vs Q,Ok K as H S->RlAll K as H vs xs->s xs S (Post K as H Q)->r vs H Q
theorem AO{K:W5}{s:S2}{r:R2}{wa wb:WE}(sim:Bo K s r)(ms:Mono2 s)(ma:Mono wa)(mb:Mono wb):∀ σ H Q,lift K (w2 s wa wb) σ H Q->tOp r (lift K wa) (lift K wb) σ H Q:=by
 rintro σ H Q ⟨as,ρ,S,ok,en,h⟩;refine⟨as,ρ,S,ok,en,ma _ _ _ _ (λx S1 hb as1 H1 v g1 ok1 rv=>?_) h⟩;refine⟨as1,ρ,S1,ok1,en.mono g1.pre (g1.ku ok),mb _ _ _ _ (λy S2 hs as2 H2 u g2 ok2 ru=>?_) hb⟩;exact sim as2 H2 S2 x y v u Q ok2 (Rl.mono g2.pre (g2.ku ok1) x v rv) ru (ms _ _ _ _ _ (λz S3 hz=>hz.mono (g1.trans g2)) hs)
theorem Sk{K:W5}{s:S1}{r:V->Hp->VK->Prop}{wa:WE}(sim:Vi K s r)(ms:Es s)(ma:Mono wa):∀ σ H Q,lift K (w1 s wa) σ H Q->tUn r (lift K wa) σ H Q:=by
 rintro σ H Q ⟨as,ρ,S,ok,en,h⟩;refine⟨as,ρ,S,ok,en,ma _ _ _ _ (λx S1 hs as1 H1 v g1 ok1 rv=>?_) h⟩;exact sim as1 H1 S1 x v Q ok1 rv (ms _ _ _ _ (λz S3 hz=>hz.mono g1) hs)
theorem Ut{K:W5}{s:Sn}{r:List V->Hp->VK->Prop}{wa:WA}(sim:Us K s r)(ms:MonoN s)(ma:MonoA wa):∀ σ H Q,lift K (wn s wa) σ H Q->tCB r (liftA K wa) σ H Q:=by
 rintro σ H Q ⟨as,ρ,S,ok,en,h⟩;refine⟨as,ρ,S,ok,en,ma _ _ _ _ (λx S1 hs as1 H1 v g1 ok1 rv=>?_) h⟩;exact sim as1 H1 S1 x v Q ok1 rv (ms _ _ _ _ (λz S3 hz=>hz.mono g1) hs)
def Et:WA:=λ_ S Q=>Q [] S
noncomputable def Dt(a:WE)(b:WA):WA:=λρ S Q=>a ρ S λx S1=>b ρ S1 λxs S2=>Q (x::xs) S2
theorem MonoA.nil:MonoA Et:=λ_ _ _ _ i h=>i _ _ h
theorem MonoA.cons{a:WE}{b:WA}(ha:Mono a)(hb:MonoA b):MonoA (Dt a b):=λ_ _ _ _ i h=>ha _ _ _ _ (λ_ _ h=>hb _ _ _ _ (λ_ _ h=>i _ _ h) h) h
theorem PV{X:Cx}{K:W5}:PA X [] (liftA K Et):=Mn _ Br λσ H Q ⟨as,ρ,S,ok,en,h⟩=>h as H [] (Go.refl _ _) ok .nil
theorem Mo{K:W5}{a:WE}{b:WA}(ma:Mono a)(mb:MonoA b):∀ σ H Q,liftA K (Dt a b) σ H Q->Dg (lift K a) (liftA K b) σ H Q:=by
 rintro σ H Q ⟨as,ρ,S,ok,en,h⟩;refine⟨as,ρ,S,ok,en,ma _ _ _ _ (λx S1 hs as1 H1 v g1 ok1 rv=>?_) h⟩;refine⟨as1,ρ,S1,ok1,en.mono g1.pre (g1.ku ok),mb _ _ _ _ (λxs S2 hq as2 H2 vs g2 ok2 rs=>?_) hs⟩;exact hq as2 H2 _ (g1.trans g2) ok2 (.cons (Rl.mono g2.pre (g2.ku ok1) x v rv) rs)
theorem Mp{X:Cx}{K:W5}{e:Expr}{es:List Expr}{a:WE}{b:WA}(ma:Mono a)(mb:MonoA b)(h1:PE X e (lift K a))(h2:PA X es (liftA K b))(hs:Zp (e::es) X.env=(false,eval e X.env)::Zp es X.env):PA X (e::es) (liftA K (Dt a b)):=Mn _ (AF h1 h2 hs) (Mo ma mb)
def Sm(i:Nat):WE:=λρ S Q=>∃ x,ρ[i]?=some (some x)/\Q x S
def wC(x:SV):WE:=λ_ S Q=>Q x S
theorem Mono.var{i:Nat}:Mono (Sm i):=λ_ _ _ _ i ⟨x,a,b⟩=>⟨x,a,i _ _ b⟩
theorem Mono.c{x:SV}:Mono (wC x):=λ_ _ _ _ i h=>i _ _ h
theorem PX{K:W5}{i:Nat}:∀ σ H Q,lift K (Sm i) σ H Q->Oh i σ H Q:=λσ H Q ⟨as,ρ,S,ok,en,x,e,h⟩=>let ⟨v,ev,rv⟩:=en.2 i x e;⟨v,ev,h as H v (Go.refl _ _) ok rv⟩
theorem GK{K:W5}{x:SV}{v:V}(hx:∀ as H,Rl K as H v x):∀ σ H Q,lift K (wC x) σ H Q->tC v σ H Q:=λσ H Q ⟨as,ρ,S,ok,en,h⟩=>h as H v (Go.refl _ _) ok (hx as H)
def big:Nat:=100000
theorem BR{n:Nat}(h:n<=big):n<=Zn:=Ws h (by decide)
theorem CT{n:Nat}(h:n<big):n<Zn:=Wu h (by decide)
def Mq:Sn:=λxs S Q=>xs.length<=big/\Q (.tup xs) S
noncomputable def PY:Sn:=λxs S Q=>xs.length<=big/\Q (.loc S.length) (S++[.lst xs])
theorem MonoN.tup:MonoN Mq:=λ_ _ _ _ i h=>⟨h.1,i _ _ h.2⟩
theorem MonoN.lst:MonoN PY:=λ_ _ _ _ i h=>⟨h.1,i _ _ h.2⟩
theorem So{K:W5}{as:List Zk}{H:Hp}{S:Sto}{p:Zk}(ok:Ok K as H S):Rl K (as++[p]) (upd H p (.lst vs)) (.ref p) (.loc S.length):=rl_loc.mpr ⟨p,by rw[<-ok.len,Wf],rfl⟩
theorem AE{K:W5}{as:List Zk}{H:Hp}{S:Sto}{Q:VK}{xs:List SV}{vs:List V}(ok:Ok K as H S)(r:RlAll K as H vs xs)(h:Post K as H Q (.loc S.length) (S++[.lst xs])):∀ p,H p=none->Q (.ref p) (upd H p (.lst vs)):=λp hp=>
 h (as++[p]) _ (.ref p) (Go.push hp) (ok.push hp r) (So ok)
theorem Cf{K:W5}{as:List Zk}{H:Hp}{S:Sto}{Q:VK}{xs:List SV}{vs:List V}(ok:Ok K as H S)(r:RlAll K as H vs xs)(h:Post K as H Q (.tup xs) S):∀ p,H p=none->Q (.ref p) (upd H p (.tup vs)):=λp hp=>
 h as _ (.ref p) (Go.new hp) (ok.new hp) (rl_tup.mpr ⟨p,vs,rfl,f9,RlAll.mono (Wl _) (BP hp) xs vs r⟩)
theorem PZ{K:W5}{wa:WA}(ma:MonoA wa):∀ σ H Q,lift K (wn Mq wa) σ H Q->UP (liftA K wa) σ H Q:=by
 rintro σ H Q ⟨as,ρ,S,ok,en,h⟩;refine⟨as,ρ,S,ok,en,ma _ _ _ _ (λxs S1 hs as1 H1 vs g1 ok1 rv=>?_) h⟩;exact⟨by rw[rv.length];exact BR hs.1,Cf ok1 rv (hs.2.mono g1)⟩
theorem Pd{K:W5}{wa:WA}(ma:MonoA wa):∀ σ H Q,lift K (wn PY wa) σ H Q->UQ (liftA K wa) σ H Q:=by
 rintro σ H Q ⟨as,ρ,S,ok,en,h⟩;refine⟨as,ρ,S,ok,en,ma _ _ _ _ (λxs S1 hs as1 H1 vs g1 ok1 rv=>?_) h⟩;exact⟨by rw[rv.length];exact BR hs.1,AE ok1 rv (hs.2.mono g1)⟩
end Rf
namespace L2
open PySem PySem.Spec PyProof.Rows
section
variable{prog:Zo}{w:Zq}{A:Zx}{E:Zh->Zj->Prop}{s:Zj}
set_option maxHeartbeats 8000000 in
theorem Sq{l:Zk}{items:Array Zh}{ns:List Int}{Q:Zh->Zj->Prop}(hh:A.handled=none)(hl:s.heap.IsTuple l items)(hi:IntsAre items.toList ns)(hb:items.size+1<A0b)
 (h:∀(h':Heap) (tk:Nat),SetX prog w h' s.heap.objs.size (A0s (λi=>ns.getD i 0) items.size)->(∀ b o,b<s.heap.objs.size->s.heap.get? b=some o->h'.get? b=some o)->Q (.ref s.heap.objs.size) {s with heap:=h',toks:=tk}):
 Zl (Zm prog w) A (call (.type "set") [.ref l]) Q E s:=by
 obtain⟨c,tl,hmro⟩:=F.called_set.mro;have made:=F.called_set.made;have sub:=F.called_set.sub;have u1:=F.called_set.notType;have u2:=F.called_set.canCreate;have u3:=F.typeCall_set_1 (.ref l);refine A1M (A0v ?_);show Zl _ _ (callAny (.type "set") _) _ _ _;refine Zi ⟨Code.quiet_builtin _ (by decide +kernel),A0h F.entry_type_call ?_⟩;rw[Around.under_plain (A1a "set" [.ref l] []) rfl]
 repeat (any_goals (first | assumption | wp_step))
 refine A0i (Uj (.ref l) (E:=E) (Q₁:=λobj s₁=>obj = .ref s.heap.objs.size/\s₁={s with heap:=s.heap.push (At w)}) ⟨rfl,rfl⟩) λr s₁ hr=>?_;cases r with
 | error e=>exact hr
 | ok fl=>
   cases fl with
   | ret obj=>
     obtain⟨rfl,rfl⟩:=hr;have gS:(s.heap.push (At w)).get? s.heap.objs.size=some (At w):=WU _ rfl;have hT:Shared.TypeIs {s with heap:=s.heap.push (At w)} (.ref s.heap.objs.size) "set":=⟨_,gS,rfl⟩
     have u4:=F.called_set.init.lookup;have u5:=F.called_set.init.bind (.ref s.heap.objs.size)
     repeat (any_goals (first | assumption | wp_step))
     refine A0i (A1h (R:=wants (λr s₂=>r = .none/\∃ h' tk,s₂={s with heap:=h',toks:=tk}/\SetX prog w h' s.heap.objs.size (A0s (λi=>ns.getD i 0) items.size)/\
      (∀ b o,b<s.heap.objs.size->s.heap.get? b=some o->h'.get? b=some o)) E) F.called_set.init.plain F.entry_set_init (A1A hT ?_)) λr₂ s₂ hr₂=>?_
     ·obtain⟨⟨cl,di,da,sl⟩,ol,cl',nl,da'⟩:=hl;simp only at cl' da';subst cl' da';have hol:(s.heap.push (At w)).get? l=some {cls := .type "tuple",dict:=di,data := .seq items nl,slots:=sl}:=WD _ ol;have v1:=F.sub_tuple_set;have v2:=F.sub_tuple_frozenset;have v3:(Value.type "tuple" == Value.type "dict")=false:=by decide
      have hl1:(s.heap.push (At w)).IsTuple l items:=⟨_,hol,rfl,nl,rfl⟩
      unfold Builtin.«set.__init__» noKeywords Builtin.Frozenset.updateFrom;generalize hPI:pyIter=PI
      wp_walk
      subst hPI;refine A0n hl1 (Zg (A1i ?_));have lS:l<s.heap.objs.size:=WR ol;have z1:(s.heap.push (At w)).objs.size=s.heap.objs.size+1:=XN _ _;have lI:l≠(s.heap.push (At w)).objs.size:=by rw[z1];exact WZ (Xx lS)
      have hSf:s.heap.objs.size∉[(s.heap.push (At w)).objs.size,l]:=by
       rw[z1];intro z;rcases WV.mp z with z | z
       ·exact absurd z (WZ (YK _))
       ·exact absurd (W9.mp z) (Z1 lS)
      have hval:∀(i:Nat) (v:Zh),items[i]?=some v->∃ t,v = .int ((λi=>ns.getD i 0) i) t:=λi v hv=>IntsAre.int_at hi i v (by rw[XI];exact hv)
      refine Ui ((Walks.tuple (by simp[hh]) _ l lI items).toS) s.heap.objs.size hSf (λi=>ns.getD i 0) hval hb items.size 0 _ (ZY _)
       ⟨⟨_,WU _ rfl,rfl,rfl⟩,hl1.push _⟩ ((IO s.heap).keep λo e=>WD _ e) λs' hm X'=>?_
      obtain⟨h',g',d',tk',os'⟩:=s';obtain rfl:g'=s.gens:=hm.gens;obtain rfl:d'=s.drawn:=hm.drawn;obtain rfl:os'=s.os:=hm.os;refine Zi (Zi ⟨rfl,h',tk',rfl,X',λb o hb e=>hm.heap b o (λz=>?_) (WD _ (WD _ e))⟩);rcases WV.mp z with z | z
      ·exact absurd z (WZ hb)
      ·have z':=W9.mp z;rw[z1]at z';exact absurd z' (WZ (Xx hb))
     ·cases r₂ with
      | error e=>exact hr₂
      | ok fl₂=>
        cases fl₂ with
        | ret r=>
          obtain⟨rfl,h',tk,rfl,X',hk'⟩:=hr₂
          repeat (any_goals (first | assumption | wp_step))
          exact h _ _ X' hk'
        | _=>exact hr₂.elim
   | _=>exact hr.elim
theorem SetX.kind{h:Heap}{a:Zk}{L:List Int}(x:SetX prog w h a L):h.SetOf (intKind prog w) a (λk=>decide (k∈L)) L.length:=by
 obtain⟨o,es,ep,t,ho,hx,hd,hel,hb,hf,hT,hp⟩:=x;refine⟨o,es,ep,t,ho,hx,hd,hel,λk=>?_,hb,hf,by rw[<-hp.length_eq];simp⟩;rw[dQ,<-hp.mem_iff,Wi];constructor
 ·rintro⟨e,he,rfl⟩;obtain⟨⟨k,hk,_⟩,_⟩:=hel e he;exact⟨e,he,by rw[DT hk];exact hk⟩
 ·rintro⟨e,he,hk⟩;exact⟨e,he,DT hk⟩
end
section
variable{X:Cx}
def Jb(ns:List Int):List Int:=A0s (λi=>ns.getD i 0) ns.length
theorem Du(ns:List Int)(k:Int):k∈Jb ns↔k∈ns:=by
 have e:=firstMet_any (λi=>ns.getD i 0) ns.length k
 have e2:(WN ns.length).map (λi=>ns.getD i 0)=ns:=by
  apply List.ext_getElem
  ·simp
  ·intro i h1 h2;simp[WB h2]
 rw[e2]at e;have h1:(Jb ns).any (· == k)=true↔k∈Jb ns:=by simp
 have h2:ns.any (· == k)=true↔k∈ns:=by simp
 rw[<-h1,<-h2];unfold Jb;rw[e]
theorem Mr:OpR X (Zw .In) (λx y H Q=>∃(k:Int) (p:Zk) (S:Int->Bool) (n:Nat),x = .int k/\y = .ref p/\H p=some (.set S n)/\Q (.bl (S k)) H):=by
 intro pq s σ H x y v u Q I rx ry h;obtain⟨k,p,S,n,rfl,rfl,hp,q⟩:=h;obtain⟨t,rfl⟩:=rx;cases ry;have hS:s.heap.SetOf (intKind X.prog X.w) p S n:=I.hok p _ hp;exact wpAny_inSet_of (k:=k) (A1r _ _ _ _) rfl hS ⟨.bl _,H,I.tok _,rfl,q⟩
theorem Jc(hu:X.A.units<cLine):OpR X (Zw .Eq) (λx y H Q=>∃ a b xs,x = .ref a/\y = .ref b/\SqT X.K H a xs/\SqT X.K H b []/\Q (.bl xs.isEmpty) H):=by
 intro pq s σ H x y v u Q I rx ry h;obtain⟨a,b,xs,rfl,rfl,ha,hb,q⟩:=h;cases rx;cases ry;obtain⟨its1,r1,p1,_⟩:=I.tuple ha;obtain⟨its2,r2,p2,_⟩:=I.tuple hb;cases r2;refine SeqAt.eq_tupleAt (e:=λ_=>true) (show s.heap.IsTuple a its1.toArray from p1) (show s.heap.IsTuple b _ from p2) hu (λj _ h2=>by simp at h2) ?_;refine⟨.bl xs.isEmpty,H,I,?_,q⟩;show Value.bool _=Value.bool _
 congr 1
 cases xs with
 | nil=>cases r1;rfl
 | cons x xs=>cases r1;simp
end
theorem Vals.rev:∀{xs:List V} {us:List Zh},Vals xs us->Vals xs.reverse us.reverse
 | _,_,.nil => .nil
 | _,_,.cons r rr=>by
   rw[Xw,Xw];exact(Vals.rev rr).append (.cons r .nil)
section
variable{X:Cx}{e st:Expr}{te:TE}{tp:TO}{pos p2:Pos}
noncomputable def Vj(K:W5)(te:TE)(tp:TO):TE:=λσ H Q=>te σ H λx H1=>tp σ H1 λu H2=>u=some (-1)/\∃ a xs,x = .ref a/\SqL K H2 a xs/\∀ p,H2 p=none->Q (.ref p) (upd H2 p (.lst xs.reverse))
theorem Sr(he:PE X e te)(hp:PO X (some st) tp):PE X (.Subscript e (.Slice none none (some st) p2) pos) (Vj X.K te tp):=by
 intro pq s σ H Q I h;refine A1q (thn (he pq s σ H _ I h) λv s1 ⟨x,H1,I1,r1,q1⟩=>?_);refine wpAny_Slice ?_;rw[A1m];refine Zi (Zi ?_);refine thn (hp pq s1 σ H1 _ I1 q1) λvu s3 ⟨u,H3,I3,pu,q3⟩=>?_;obtain⟨rfl,a,xs,rfl,hx,q⟩:=q3;cases r1;have I4:Inv X pq σ H3 {s3 with heap:=s3.heap.push {cls := .type "slice",data := .fields #[.none,.none,vu]}}:=I3.kept (t':=s3.toks) λb ob q=>WD _ q;show Zl (Zm X.prog X.w) X.A (A0U e (.Slice none none (some st) p2) (.ref a) (.ref s3.heap.objs.size)) (EP X pq σ Q) X.xe {s3 with heap:=s3.heap.push {cls := .type "slice",data := .fields #[.none,.none,vu]}};obtain⟨its,r,ht,hz⟩:=I4.list hx;have hlen:=r.length;refine tail_any (ops:=[.ref a,.ref s3.heap.objs.size]) ht.isList.typeIs slot_list_getitem.lookup ?_ (by with_unfolding_all rfl);refine A0V ht.isList (ZK.new ..) .none .none pu (by decide) ?_ (by rw[WG]<;>omega);rw[PySem.W.krv_pick];refine⟨.ref _,_,I4.laid (t':=s3.toks) (o := .lst xs.reverse) (λb ob q=>WD _ q) (WJ _) ?_,rfl,q _ (I4.hok.fresh (WJ _))⟩;exact⟨by rw[Yu];exact hz,_,0,r.rev,WU _ rfl⟩
end
end L2
namespace Rf
open PySem L2
noncomputable def Ar:SV->Bool
 | .non=>true | .bl _=>true | .int _=>true | .str _=>true | _=>false
noncomputable def toV:SV->V
 | .non => .non | .bl b => .bl b | .int i => .int i | .str x => .str x | _ => .non
noncomputable def eqF:SV->SV->Bool
 | .non,.non=>true
 | .bl a,.bl b=>a == b
 | .bl a,.int b=>(if a then 1 else 0) == b
 | .int a,.bl b=>a == (if b then 1 else 0)
 | .int a,.int b=>a == b
 | .str a,.str b=>a == b
 | _,_=>false
noncomputable def ET(xs ys:List SV):Bool:=xs.length == ys.length&&(xs.zip ys).all λp=>eqF p.1 p.2
noncomputable def inS(x:SV)(xs:List SV):Bool:=xs.any λy=>eqF y x
section
variable{K:W5}{as:List Zk}{H:Hp}
theorem Jd{x:SV}{v:V}(f:Ar x=true)(r:Rl K as H v x):v=toV x:=by
 cases x with
 | non=>exact rl_non.mp r
 | bl _=>exact rl_bl.mp r
 | int _=>exact rl_int.mp r
 | str _=>exact rl_str.mp r
 | _=>cases f
theorem BS:∀{xs:List SV} {vs:List V},xs.all Ar=true->RlAll K as H vs xs->vs=xs.map toV
 | [],_,_,r=>rla_nil.mp r
 | x::xs,_,f,r=>by
   rw[XW,W6]at f;obtain⟨v,vs,rfl,r1,r2⟩:=rla_cons.mp r;rw[Jd f.1 r1,BS f.2 r2];rfl
theorem GL{x:SV}(f:Ar x=true):AU (toV x)=true:=by cases x<;>first | rfl | cases f
theorem D3{xs:List SV}(f:xs.all Ar=true):(xs.map toV).all AU=true:=by
 rw[Wg]at f ⊢;intro v hv;obtain⟨x,hx,rfl⟩:=Wi.mp hv;exact GL (f x hx)
theorem FL{x y:SV}(fx:Ar x=true)(fy:Ar y=true):eqV (toV x) (toV y)=eqF x y:=by
 cases x<;>first | cases fx;done | (cases y<;>first | rfl | cases fy)
theorem Ss{x:SV}{xs:List SV}(fx:Ar x=true)(f:xs.all Ar=true):inV (toV x) (xs.map toV)=inS x xs:=by
 unfold inV inS;rw[Z7];rw[Wg]at f;rw[X4,XR,XR];constructor
 ·rintro⟨y,hy,e⟩;exact⟨y,hy,by rw[<-FL (f y hy) fx];exact e⟩
 ·rintro⟨y,hy,e⟩;exact⟨y,hy,by show eqV (toV y) (toV x)=true;rw[FL (f y hy) fx];exact e⟩
theorem Pe:∀{xs ys:List SV},xs.all Ar=true->ys.all Ar=true->BN (xs.map toV) (ys.map toV)=ET xs ys:=by
 intro xs ys fx fy;unfold BN ET;rw[W8,W8,List.zip_map,ZZ]
 congr 1
 rw[X4,Wg,Wg];rw[Wg]at fx fy;constructor
 ·rintro h ⟨a,b⟩ hm;have:=h (a,b) hm;rw[<-FL (fx a (Xv hm).1) (fy b (Xv hm).2)];exact this
 ·rintro h ⟨a,b⟩ hm;have:=h (a,b) hm;show eqV (toV a) (toV b)=true;rw[FL (fx a (Xv hm).1) (fy b (Xv hm).2)];exact this
noncomputable def seqS:SV->Sto->Option (List SV)
 | .tup xs,_=>some xs
 | .ro xs,_=>some xs
 | .loc k,S=>match S[k]? with | some (.lst xs)=>some xs | _=>none
 | _,_=>none
theorem Dv{x:SV}{v:V}{S:Sto}{xs:List SV}(ok:Ok K as H S)(r:Rl K as H v x)(h:seqS x S=some xs):∃ a vs,v = .ref a/\(SqL K H a vs\/SqT K H a vs)/\RlAll K as H vs xs:=by
 cases x with
 | tup ys=>
   cases h;obtain⟨p,vs,rfl,hp,rr⟩:=rl_tup.mp r;exact⟨p,vs,rfl,.inr (SqT.of hp),rr⟩
 | ro ys=>
   cases h;obtain⟨p,vs,rfl,hp,rr⟩:=rl_ro.mp r;exact⟨p,vs,rfl,.inl hp.sq,rr⟩
 | loc k=>
   obtain⟨a,ea,rfl⟩:=rl_loc.mp r;unfold seqS at h;cases hs:S[k]? with
   | none=>simp only[hs]at h;cases h
   | some o=>
     cases o with
     | lst ys=>
       simp only[hs]at h;cases h;obtain⟨vs,h1,rr⟩:=ok.obj k _ a hs ea;exact⟨a,vs,rfl,.inl (SqL.of h1),rr⟩
     | iset _=>simp only[hs]at h;cases h
     | dct _=>simp only[hs]at h;cases h
     | dcf _ _ _=>simp only[hs]at h;cases h
 | _=>cases h
theorem A6{k:Nat}{v:V}{S:Sto}{xs:List SV}(ok:Ok K as H S)(r:Rl K as H v (.loc k))(h:S[k]?=some (.lst xs)):∃ a vs,v = .ref a/\as[k]?=some a/\H a=some (.lst vs)/\RlAll K as H vs xs:=by
 obtain⟨a,ea,rfl⟩:=rl_loc.mp r;obtain⟨vs,h1,rr⟩:=ok.obj k _ a h ea;exact⟨a,vs,rfl,ea,h1,rr⟩
end
noncomputable def IQ:S2
 | .int i,.int j,S,Q=>Q (.int (i+j)) S
 | .loc k,.loc l,S,Q=>∃ xs ys,S[k]?=some (.lst xs)/\S[l]?=some (.lst ys)/\xs.length+ys.length<=big/\Q (.loc S.length) (S++[.lst (xs++ys)])
 | _,_,_,_=>False
noncomputable def IR(C:Int->Int->Prop)(g:Int->Int->SV):S2
 | .int i,.int j,S,Q=>C i j/\Q (g i j) S
 | _,_,_,_=>False
def Cg(g:Int->Int->SV):S2
 | .int i,.int j,S,Q=>Q (g i j) S
 | _,_,_,_=>False
noncomputable def Ms:S2
 | .int i,.int j,S,Q=>CMul i j/\Q (.int (i * j)) S
 | .loc k,.int j,S,Q=>∃ xs,S[k]?=some (.lst xs)/\(-1000000<j/\j<1000000)/\xs.length * j.toNat<=big/\Q (.loc S.length) (S++[.lst (WM j.toNat xs).flatten])
 | _,_,_,_=>False
theorem Mono2.add:Mono2 IQ:=λx y S P P' i h=>by
 unfold IQ at h ⊢
 split at h<;>first
  | exact i _ _ h
  | exact⟨h.1,i _ _ h.2⟩
  | (obtain⟨xs,ys,a,b,c,d⟩:=h;exact⟨xs,ys,a,b,c,i _ _ d⟩)
  | exact h.elim
theorem Mono2.int{C:Int->Int->Prop}{g:Int->Int->SV}:Mono2 (IR C g):=λx y S P P' i h=>by
 unfold IR at h ⊢;split at h
 ·exact⟨h.1,i _ _ h.2⟩
 ·exact h.elim
theorem Mono2.int0{g:Int->Int->SV}:Mono2 (Cg g):=λx y S P P' i h=>by
 unfold Cg at h ⊢;split at h
 ·exact i _ _ h
 ·exact h.elim
theorem Mono2.mul:Mono2 Ms:=λx y S P P' i h=>by
 unfold Ms at h ⊢;split at h
 ·exact⟨h.1,i _ _ h.2⟩
 ·obtain⟨xs,a,b,c,d⟩:=h;exact⟨xs,a,b,c,i _ _ d⟩
 ·exact h.elim
section
variable{K:W5}
theorem Post.here{as:List Zk}{H:Hp}{Q:VK}{x:SV}{S:Sto}{v:V}(h:Post K as H Q x S)(ok:Ok K as H S)(r:Rl K as H v x):Q v H:=h as H v (Go.refl _ _) ok r
theorem FM{C:Int->Int->Prop}{g:Int->Int->SV}{g':Int->Int->V}(hg:∀ as H i j,Rl K as H (g' i j) (g i j)):Bo K (IR C g) (rI C g'):=λas H S x y v u Q ok rx ry h=>by
 unfold IR at h;split at h
 ·rw[rl_int]at rx ry;exact⟨_,_,rx,ry,h.1,h.2.here ok (hg _ _ _ _)⟩
 ·exact h.elim
theorem Bx{g:Int->Int->SV}{g':Int->Int->V}(hg:∀ as H i j,Rl K as H (g' i j) (g i j)):Bo K (Cg g) (rI0 g'):=λas H S x y v u Q ok rx ry h=>by
 unfold Cg at h;split at h
 ·rw[rl_int]at rx ry;exact⟨_,_,rx,ry,h.here ok (hg _ _ _ _)⟩
 ·exact h.elim
noncomputable def Uu(K:W5):R2:=λx y H Q=>(rI0 λi j => .int (i+j)) x y H Q\/UZ x y H Q
theorem Pf{X:Cx}:OpR X (A0r .Add) (Uu X.K):=op_add.or SX
theorem Pg:Bo K IQ (Uu K):=λas H S x y v u Q ok rx ry h=>by
 unfold IQ at h;split at h
 ·rw[rl_int]at rx ry;exact .inl ⟨_,_,rx,ry,h.here ok (rl_int.mpr rfl)⟩
 ·obtain⟨xs,ys,h1,h2,h3,h4⟩:=h;obtain⟨a,vs,rfl,_,ha,ra⟩:=A6 ok rx h1;obtain⟨b,us,rfl,_,hb,rb⟩:=A6 ok ry h2;exact(.inr (⟨a,b,vs,us,rfl,rfl,ha,hb,by rw[ra.length,rb.length];exact BR h3,AE ok (ra.append rb) h4⟩))
 ·exact h.elim
theorem RlAll.rep{as:List Zk}{H:Hp}{vs:List V}{xs:List SV}(h:RlAll K as H vs xs):∀ n,RlAll K as H (WM n vs).flatten (WM n xs).flatten
 | 0=>by simpa using RlAll.nil
 | n+1=>by
   rw[X0,X0,XT,XT];exact h.append (RlAll.rep h n)
theorem Ph:Bo K Ms (λx y H Q=>(rI CMul λi j => .int (i * j)) x y H Q\/Ua x y H Q):=λas H S x y v u Q ok rx ry h=>by
 unfold Ms at h;split at h
 ·rw[rl_int]at rx ry;exact .inl ⟨_,_,rx,ry,h.1,h.2.here ok (rl_int.mpr rfl)⟩
 ·rename_i k j;obtain⟨xs,h1,h2,h3,h4⟩:=h;obtain⟨a,vs,rfl,_,ha,ra⟩:=A6 ok rx h1;rw[rl_int]at ry;subst ry;exact .inr (⟨a,j,vs,rfl,rfl,ha,by omega,by omega,by rw[ra.length];exact BR h3,AE ok (ra.rep _) h4⟩)
 ·exact h.elim
end
noncomputable def scS:SV->SV->Option Bool
 | .int i,.int j=>some (decide (i=j))
 | .bl i,.bl j=>some (decide (i=j))
 | .str i,.str j=>some (decide (i=j))
 | .non,.non=>some true
 | .non,.int _=>some false | .int _,.non=>some false | .non,.bl _=>some false | .bl _,.non=>some false | .non,.str _=>some false | .str _,.non=>some false
 | .int _,.str _=>some false | .str _,.int _=>some false | .bl _,.str _=>some false | .str _,.bl _=>some false
 | _,_=>none
noncomputable def IS:SV->SV->Sto->(Bool->Prop)->Prop
 | .loc k,.loc l,S,Q=>∃ xs ys,S[k]?=some (.lst xs)/\S[l]?=some (.lst ys)/\((xs.all Ar=true/\ys.all Ar=true)\/xs=[]\/ys=[])/\Q (ET xs ys)
 | _,_,_,_=>False
noncomputable def sEq:S2:=λx y S Q=>match scS x y with | some b=>Q (.bl b) S | none=>IS x y S λb=>Q (.bl b) S
noncomputable def sNe:S2:=λx y S Q=>match scS x y with | some b=>Q (.bl (!b)) S | none=>IS x y S λb=>Q (.bl (!b)) S
noncomputable def BE:SV->Sto->Option (List Int)
 | .loc k,S=>match S[k]? with | some (.iset ms)=>some ms | _=>none
 | _,_=>none
noncomputable def sIn(neg:Bool):S2:=λx y S Q=>match BE y S with
 | some ms=>∃ i,x = .int i/\neg=false/\Q (.bl (decide (i∈ms))) S
 | none=>Ar x=true/\∃ ys,seqS y S=some ys/\ys.all Ar=true/\Q (.bl (if neg then !inS x ys else inS x ys)) S
def Mt:SV->Bool
 | .non=>true
 | _=>false
noncomputable def Mu(neg:Bool):S2:=λx y S Q=>(y = .non/\Q (.bl (if neg then !Mt x else Mt x)) S)\/∃ c d,neg=true/\x = .bl c/\y = .bl d/\Q (.bl (c != d)) S
theorem Eu{x y:SV}{S:Sto}{P P':Bool->Prop}(i:∀ b,P b->P' b)(h:IS x y S P):IS x y S P':=by
 unfold IS at h ⊢;split at h
 ·obtain⟨xs,ys,a,b,c,d⟩:=h;exact⟨xs,ys,a,b,c,i _ d⟩
 ·exact h.elim
theorem Mono2.eq:Mono2 sEq:=λx y S P P' i h=>by
 unfold sEq at h ⊢;split at h
 ·exact i _ _ h
 ·exact Eu (λ_=>i _ _) h
theorem Mono2.ne:Mono2 sNe:=λx y S P P' i h=>by
 unfold sNe at h ⊢;split at h
 ·exact i _ _ h
 ·exact Eu (λ_=>i _ _) h
theorem Mono2.in'{n:Bool}:Mono2 (sIn n):=λx y S P P' i h=>by
 unfold sIn at h ⊢;split at h
 ·obtain⟨j,e,z,h⟩:=h;exact⟨j,e,z,i _ _ h⟩
 ·obtain⟨f,ys,a,b,h⟩:=h;exact⟨f,ys,a,b,i _ _ h⟩
theorem Mono2.isN{n:Bool}:Mono2 (Mu n):=λx y S P P' i h=>h.imp (λh=>⟨h.1,i _ _ h.2⟩) λ⟨c,d,z,a,b,h⟩=>⟨c,d,z,a,b,i _ _ h⟩
section
variable{K:W5}
theorem Mv{as:List Zk}{H:Hp}{x y:SV}{v u:V}{b:Bool}(e:scS x y=some b)(rx:Rl K as H v x)(ry:Rl K as H u y):SK v u=true/\decide (v=u)=b:=by
 cases x<;>first | (unfold scS at e;cases e;done) | (cases y<;>first | (unfold scS at e;cases e;done) | (simp only[rl_non,rl_bl,rl_int,rl_str]at rx ry;subst rx ry;unfold scS at e;injection e with e;subst e;exact⟨rfl,by simp⟩))
theorem Je{as:List Zk}{H:Hp}{S:Sto}{x y:SV}{v u:V}{Q:Bool->Prop}(ok:Ok K as H S)(rx:Rl K as H v x)(ry:Rl K as H u y)(h:IS x y S Q):∃ a b xs ys,v = .ref a/\u = .ref b/\SqL K H a xs/\SqL K H b ys/\((xs.all AU=true/\ys.all AU=true)\/xs=[]\/ys=[])/\Q (BN xs ys):=by
 unfold IS at h;split at h
 ·obtain⟨xs,ys,h1,h2,h3,h4⟩:=h;obtain⟨a,vs,rfl,_,ha,ra⟩:=A6 ok rx h1;obtain⟨b,us,rfl,_,hb,rb⟩:=A6 ok ry h2;refine⟨a,b,vs,us,rfl,rfl,SqL.of ha,SqL.of hb,?_,?_⟩
  ·rcases h3 with⟨f1,f2⟩ | h3 | h3
   ·rw[BS f1 ra,BS f2 rb];exact .inl ⟨D3 f1,D3 f2⟩
   ·subst h3;exact .inr (.inl (rla_nil.mp ra))
   ·subst h3;exact .inr (.inr (rla_nil.mp rb))
  ·have e:BN vs us=ET xs ys:=by
    rcases h3 with⟨f1,f2⟩ | h3 | h3
    ·rw[BS f1 ra,BS f2 rb,Pe f1 f2]
    ·subst h3;have:=rla_nil.mp ra;subst this;have l:=rb.length;unfold BN ET;simp[l]
    ·subst h3;have:=rla_nil.mp rb;subst this;have l:=ra.length;unfold BN ET;simp[l]
   rw[e];exact h4
 ·exact h.elim
theorem Su:Bo K sEq (λx y H Q=>rEq x y H Q\/PD K false x y H Q):=λas H S x y v u Q ok rx ry h=>by
 unfold sEq at h;split at h
 ·rename_i b e;obtain⟨h1,h2⟩:=Mv e rx ry;exact .inl ⟨h1,by rw[h2];exact h.here ok (rl_bl.mpr rfl)⟩
 ·obtain⟨a,b,xs,ys,e1,e2,h1,h2,h3,h4⟩:=Je ok rx ry h;exact .inr ⟨a,b,xs,ys,e1,e2,h1,h2,h3,h4.here ok (rl_bl.mpr rfl)⟩
theorem Sv:Bo K sNe (λx y H Q=>rNe x y H Q\/PD K true x y H Q):=λas H S x y v u Q ok rx ry h=>by
 unfold sNe at h;split at h
 ·rename_i b e;obtain⟨h1,h2⟩:=Mv e rx ry;exact .inl ⟨h1,by rw[h2];exact h.here ok (rl_bl.mpr rfl)⟩
 ·obtain⟨a,b,xs,ys,e1,e2,h1,h2,h3,h4⟩:=Je ok rx ry h;exact .inr ⟨a,b,xs,ys,e1,e2,h1,h2,h3,h4.here ok (rl_bl.mpr rfl)⟩
theorem Pi{as:List Zk}{H:Hp}{S:Sto}{y:SV}{u:V}{ms:List Int}(ok:Ok K as H S)(r:Rl K as H u y)(h:BE y S=some ms):∃ a k F,y = .loc k/\u = .ref a/\as[k]?=some a/\S[k]?=some (.iset ms)/\H a=some (.set F ms.length)/\∀ k,F k=decide (k∈ms):=by
 cases y with
 | loc k=>
   obtain⟨a,ea,rfl⟩:=rl_loc.mp r;unfold BE at h;cases hs:S[k]? with
   | none=>simp only[hs]at h;cases h
   | some o=>
     cases o with
     | lst ys=>simp only[hs]at h;cases h
     | iset ns=>
       simp only[hs]at h;cases h;obtain⟨F,h1,h2⟩:=ok.obj k _ a hs ea;exact⟨a,k,F,rfl,rfl,ea,hs,h1,h2⟩
     | dct _=>simp only[hs]at h;cases h
     | dcf _ _ _=>simp only[hs]at h;cases h
 | _=>cases h
noncomputable def Sw(K:W5)(neg:Bool):R2:=λx y H Q=>rIn K neg x y H Q\/(neg=false/\∃(k:Int) (p:Zk) (S:Int->Bool) (n:Nat),x = .int k/\y = .ref p/\H p=some (.set S n)/\Q (.bl (S k)) H)
theorem Sx{X:Cx}:OpR X (Zw .In) (Sw X.K false):=λpq s σ H x y v u Q I rx ry h=>h.elim (Kh pq s σ H x y v u Q I rx ry) λh=>Mr pq s σ H x y v u Q I rx ry h.2
theorem L0{X:Cx}:OpR X (Zw .NotIn) (Sw X.K true):=λpq s σ H x y v u Q I rx ry h=>h.elim (FF pq s σ H x y v u Q I rx ry) λh=>by cases h.1
theorem Mw{n:Bool}:Bo K (sIn n) (Sw K n):=λas H S x y v u Q ok rx ry h=>by
 unfold sIn at h;split at h
 ·rename_i ms hi;obtain⟨i,rfl,rfl,h⟩:=h;obtain⟨a,k,F,rfl,rfl,ea,es,hF,hk⟩:=Pi ok ry hi;rw[rl_int]at rx;exact .inr ⟨rfl,i,a,F,_,rx,rfl,hF,by rw[hk];exact h.here ok (rl_bl.mpr rfl)⟩
 ·obtain⟨f,ys,hs,fs,h⟩:=h;obtain⟨a,vs,rfl,hq,rr⟩:=Dv ok ry hs;have ev:=Jd f rx;have es:=BS fs rr;subst ev es;exact .inl ⟨a,_,rfl,hq,GL f,D3 fs,by rw[Ss f fs];exact h.here ok (rl_bl.mpr rfl)⟩
theorem GM{as:List Zk}{H:Hp}{x:SV}{v:V}(r:Rl K as H v x):decide (v=V.non)=Mt x:=by
 cases x with
 | non=>rw[rl_non.mp r];rfl
 | bl _=>rw[rl_bl.mp r];rfl
 | int _=>rw[rl_int.mp r];rfl
 | str _=>rw[rl_str.mp r];rfl
 | tup _=>obtain⟨p,vs,rfl,_⟩:=rl_tup.mp r;rfl
 | loc _=>obtain⟨p,_,rfl⟩:=rl_loc.mp r;rfl
 | ro _=>obtain⟨p,vs,rfl,_⟩:=rl_ro.mp r;rfl
 | ty _=>rw[rl_ty.mp r];rfl
theorem Pj:Bo K (Mu false) (λx y H Q=>y = .non/\Q (.bl (decide (x = .non))) H):=λas H S x y v u Q ok rx ry h=>by
 rcases h with⟨e,h⟩ | ⟨c,d,z,_⟩
 ·subst e;exact⟨rl_non.mp ry,by rw[GM rx];exact h.here ok (rl_bl.mpr rfl)⟩
 ·cases z
theorem Mx:Bo K (Mu true) (λx y H Q=>(y = .non/\Q (.bl (!decide (x = .non))) H)\/∃ c d,x = .bl c/\y = .bl d/\Q (.bl (c != d)) H):=λas H S x y v u Q ok rx ry h=>by
 rcases h with⟨e,h⟩ | ⟨c,d,_,rfl,rfl,h⟩
 ·subst e;exact .inl ⟨rl_non.mp ry,by rw[GM rx];exact h.here ok (rl_bl.mpr rfl)⟩
 ·exact .inr ⟨c,d,rl_bl.mp rx,rl_bl.mp ry,h.here ok (rl_bl.mpr rfl)⟩
end
noncomputable def sIx:S2
 | x,.int i,S,Q=>∃ xs y,seqS x S=some xs/\atI xs i=some y/\Q y S
 | _,_,_,_=>False
theorem Mono2.ix:Mono2 sIx:=λx y S P P' i h=>by
 unfold sIx at h ⊢;split at h
 ·obtain⟨xs,z,a,b,c⟩:=h;exact⟨xs,z,a,b,i _ _ c⟩
 ·exact h.elim
section
variable{K:W5}
theorem RlAll.atI{as:List Zk}{H:Hp}{xs:List SV}{vs:List V}{i:Int}{y:SV}(h:RlAll K as H vs xs)(e:L2.atI xs i=some y):∃ v,L2.atI vs i=some v/\Rl K as H v y:=by
 unfold L2.atI at e ⊢;rw[h.length];cases hj:ixN xs.length i with
 | none=>rw[hj]at e;cases e
 | some j=>
   rw[hj]at e;exact h.get e
theorem Sy:Bo K sIx (λx y H Q=>UV K x y H Q\/UW K x y H Q):=λas H S x y v u Q ok rx ry h=>by
 unfold sIx at h;split at h
 ·obtain⟨xs,z,h1,h2,h3⟩:=h;obtain⟨a,vs,rfl,hq,rr⟩:=Dv ok rx h1;obtain⟨w,hw,rw'⟩:=rr.atI h2;rw[rl_int]at ry;rcases hq with hq | hq
  ·exact .inl ⟨a,vs,_,w,rfl,ry,hq,hw,h3.here ok rw'⟩
  ·exact .inr ⟨a,vs,_,w,rfl,ry,hq,hw,h3.here ok rw'⟩
 ·exact h.elim
end
end Rf
namespace PySem
namespace AutoSeq1
set_option maxRecDepth 8000 in
theorem extT(l:Zk)(items:Array Zh)(n:Nat)(b:Zk)(items2:Array Zh)(n2:Nat)(dd:Option Zk)(sl:Array (Option Zh))(hs0:¬(!items.isEmpty&&Builtin.List.listTooLong (items.size+items2.size))=true)(hs1:items.size<=Zn)(hs2:items.size+items2.size<=Zn+1:=by seq_fits):
 Meets (Builtin.«list.extend» ⟨[.ref l,.ref b],[]⟩) (λ_ R s=>s.heap.get? l=some {cls := .type "list",dict:=none,data := .seq items n,slots:=#[]}/\s.heap.get? b=some {cls := .type "tuple",dict:=dd,data := .seq items2 n2,slots:=sl}/\R (.ok (.ret Value.none)) {s with heap:=s.heap.update l (Obj.mapSeq λx=>x++items2),toks:=s.toks}):=
 .of_wp λprog w A R s h=>by
  obtain⟨hp,g,d,tk,os⟩:=s;obtain⟨hl,hb,h⟩:=h;have f1:=idx_int;have f2:=sub_tuple_tuple;have f3:=sub_list_list;have f4:=sub_tuple_list;have f5:=sub_list_tuple;have hz':(items++items2).size<=Zn+1:=by rw[Array.size_append];exact hs2
  wp_walk using (A18 hl rfl (hz:=hs1) (_hz':=hz')),wpAny_loadPart' hl,wpAny_loadPart' hb;exact⟨_,rfl,h⟩
end AutoSeq1
end PySem
namespace L2
open PySem PySem.Spec PyProof.Rows
section
variable{X:Cx}
noncomputable def RH:V->List V->Hp->VK->Prop:=λx vs H Q=>∃ l b xs zs,x = .ref l/\vs=[.ref b]/\H l=some (.lst xs)/\H b=some (.tup zs)/\xs.length+zs.length<=Zn/\Q .non (upd H l (.lst (xs++zs)))
theorem Jf:MtM X "list.extend" RH:=by
 intro pq s σ H x vs v us Q I rx rv h;obtain⟨l,b,xs,zs,rfl,rfl,hH,hB,hz,q⟩:=h;cases rx;obtain⟨u,rfl,ru⟩:=rv.one;cases ru;obtain⟨z,its,n,r,hl,e⟩:=I.lstM hH;obtain⟨its2,r2,⟨⟨cls,dd,dat,sl⟩,e2,c2,n2,d2⟩,z2⟩:=I.tuple (SqT.of hB);simp only at c2 d2;subst c2 d2;have hl2:=r2.length;have hsz:its.toArray.size+its2.toArray.size<=Zn:=by rw[WG,WG];omega
 have hlong:¬ (!its.toArray.isEmpty&&Builtin.List.listTooLong (its.toArray.size+its2.toArray.size))=true:=by
  rw[Dj hsz,ZM];exact WK
 refine A0w F.slot_list_extend ⟨_,e,rfl⟩ F.entry_list_extend (F.args_list_extend_2 _ _)
  (AutoSeq1.extT l its.toArray n b its2.toArray n2 dd sl hlong (by rw[WG];omega) (by omega)) ⟨e,e2,?_⟩
 refine⟨.non,_,I.lset (its':=its++its2) hH e (by simp) (r.append r2) ?_,rfl,q⟩;rw[W7];omega
end
end L2
namespace Rf
open PySem L2
inductive BI where
 | len | abs | min | max | int | list | tuple | all | any | sorted | isi | str
 deriving DecidableEq
noncomputable def BI.name:BI->Str
 | .len=>"len" | .abs=>"abs" | .min=>"min" | .max=>"max" | .int=>"int" | .list=>"list" | .tuple=>"tuple" | .all=>"all" | .any=>"any" | .sorted=>"sorted" | .isi=>"isinstance" | .str=>"str"
noncomputable def blS:List SV->Option (List Bool)
 | []=>some []
 | .bl b::xs=>(blS xs).map (b::·)
 | _::_=>none
noncomputable def EU:List SV->Option (List Int)
 | []=>some []
 | .int i::xs=>(EU xs).map (i::·)
 | _::_=>none
noncomputable def tyS:SV->Sto->Option TyN
 | .non,_=>some .none
 | .bl _,_=>some .bool
 | .int _,_=>some .int
 | .str _,_=>some .str
 | .tup _,_=>some .tuple
 | .loc k,S=>match S[k]? with | some (.lst _)=>some .list | _=>none
 | _,_=>none
def IT:TyN->TyN->Bool
 | .bool,.int=>true
 | a,b=>decide (a=b)
noncomputable def L1:List SV->Option (List TyN)
 | []=>some []
 | .ty t::xs=>(L1 xs).map (t::·)
 | _::_=>none
noncomputable def Aj:Nat->Sto->SV->Option PyData
 | _,_,.non=>some .none
 | _,_,.bl b=>some (.bool b)
 | _,_,.int i=>some (.int i)
 | _,_,.str x=>some (.str x)
 | n+1,S,.tup xs=>(xs.mapM (Aj n S)).map PyData.tuple
 | n+1,S,.loc k=>match S[k]? with | some (.lst xs)=>(xs.mapM (Aj n S)).map PyData.list | _=>none
 | _,_,_=>none
def a0(f:Sto->QE->Prop):Sn:=λxs S Q=>match xs with | []=>f S Q | _=>False
def a1(f:S1):Sn:=λxs S Q=>match xs with | [x]=>f x S Q | _=>False
def a2(f:S2):Sn:=λxs S Q=>match xs with | [x,y]=>f x y S Q | _=>False
noncomputable def oI(f:Int->Sto->QE->Prop):S1:=λx S Q=>match x with | .int i=>f i S Q | _=>False
theorem D4{f:S1}{xs:List SV}{S:Sto}{Q:QE}(h:a1 f xs S Q):∃ x,xs=[x]/\f x S Q:=match xs,h with | [x],h=>⟨x,rfl,h⟩
theorem My{f:S2}{xs:List SV}{S:Sto}{Q:QE}(h:a2 f xs S Q):∃ x y,xs=[x,y]/\f x y S Q:=match xs,h with | [x,y],h=>⟨x,y,rfl,h⟩
theorem D5{f:Int->Sto->QE->Prop}{x:SV}{S:Sto}{Q:QE}(h:oI f x S Q):∃ i,x = .int i/\f i S Q:=match x,h with | .int i,h=>⟨i,rfl,h⟩
theorem AG{f:S1}(m:Es f):MonoN (a1 f):=λxs S P P' i h=>by
 replace h:=D4 h;obtain⟨x,rfl,h⟩:=h;exact m x S P P' i h
theorem DU{f:S2}(m:Mono2 f):MonoN (a2 f):=λxs S P P' i h=>by
 replace h:=My h;obtain⟨x,y,rfl,h⟩:=h;exact m x y S P P' i h
theorem Pl{f:Int->Sto->QE->Prop}(m:∀ k S P P',(∀ x S',P x S'->P' x S')->f k S P->f k S P'):Es (oI f):=λx S P P' i h=>by
 replace h:=D5 h;obtain⟨k,rfl,h⟩:=h;exact m k S P P' i h
noncomputable def Uv:S1
 | .int i,S,Q=>Q (.int i) S
 | .bl b,S,Q=>Q (.int (if b then 1 else 0)) S
 | _,_,_=>False
theorem RI{x:SV}{S:Sto}{Q:QE}(h:Uv x S Q):(∃ i,x = .int i/\Q (.int i) S)\/∃ b,x = .bl b/\Q (.int (if b then 1 else 0)) S:=match x,h with
 | .int i,h => .inl ⟨i,rfl,h⟩
 | .bl b,h => .inr ⟨b,rfl,h⟩
noncomputable def Uw:S2:=λx y S Q=>match y with
 | .ty t=>∃ a,t ≠ .none/\tyS x S=some a/\Q (.bl (IT a t)) S
 | .tup ts=>∃ a bs,TyN.none∉bs/\tyS x S=some a/\L1 ts=some bs/\Q (.bl (bs.any (IT a))) S
 | _=>False
theorem RJ{x y:SV}{S:Sto}{Q:QE}(h:Uw x y S Q):(∃ t a,y = .ty t/\t ≠ .none/\tyS x S=some a/\Q (.bl (IT a t)) S)\/∃ ts a bs,y = .tup ts/\TyN.none∉bs/\tyS x S=some a/\L1 ts=some bs/\Q (.bl (bs.any (IT a))) S:=match y,h with
 | .ty t,⟨a,h⟩ => .inl ⟨t,a,rfl,h⟩
 | .tup ts,⟨a,bs,h⟩ => .inr ⟨ts,a,bs,rfl,h⟩
noncomputable def Vk:S1:=λx S Q=>∃ xs,seqS x S=some xs/\Q (.int xs.length) S
noncomputable def Vl:S1:=oI λi S Q=>Q (.int (if i<0 then -i else i)) S
noncomputable def Vm:S2:=λx y S Q=>oI (λi S Q=>oI (λj S Q=>Q (.int (if j<i then j else i)) S) y S Q) x S Q
noncomputable def Vn:S2:=λx y S Q=>oI (λi S Q=>oI (λj S Q=>Q (.int (if j>i then j else i)) S) y S Q) x S Q
noncomputable def Ux:S1:=λx S Q=>∃ xs,seqS x S=some xs/\Q (.loc S.length) (S++[.lst xs])
noncomputable def TB:S1:=λx S Q=>∃ xs,seqS x S=some xs/\Q (.tup xs) S
noncomputable def Vo:S1:=λx S Q=>∃ xs bs,x ≠ .tup xs/\seqS x S=some xs/\blS xs=some bs/\Q (.bl (bs.all id)) S
noncomputable def Vp:S1:=λx S Q=>∃ xs bs,x ≠ .tup xs/\seqS x S=some xs/\blS xs=some bs/\Q (.bl (bs.any id)) S
noncomputable def Pm:S1:=λx S Q=>∃ xs ns,x ≠ .tup xs/\seqS x S=some xs/\EU xs=some ns/\ns.length<64/\Q (.loc S.length) (S++[.lst ((srt ns).map SV.int)])
noncomputable def Vq:S1:=λx S Q=>∃ d,Aj 20 S x=some d/\Fit d/\Q (.str (PM d)) S
noncomputable def sBi:BI->Sn
 | .len=>a1 Vk
 | .abs=>a1 Vl
 | .min=>a2 Vm
 | .max=>a2 Vn
 | .int=>a1 Uv
 | .list=>a1 Ux
 | .tuple=>a1 TB
 | .all=>a1 Vo
 | .any=>a1 Vp
 | .sorted=>a1 Pm
 | .isi=>a2 Uw
 | .str=>a1 Vq
theorem MonoN.bi:∀{b:BI},MonoN (sBi b)
 | .len=>AG λ_ _ _ _ i ⟨a,c,d⟩=>⟨a,c,i _ _ d⟩
 | .abs=>AG (Pl λ_ _ _ _ i h=>i _ _ h)
 | .min=>DU λx y S P P' i h=>by
   replace h:=D5 h;obtain⟨k,rfl,h1⟩:=h;obtain⟨l,rfl,h2⟩:=D5 h1;exact i _ _ h2
 | .max=>DU λx y S P P' i h=>by
   replace h:=D5 h;obtain⟨k,rfl,h1⟩:=h;obtain⟨l,rfl,h2⟩:=D5 h1;exact i _ _ h2
 | .int=>AG λx S P P' i h=>by
   replace h:=RI h;rcases h with⟨k,rfl,h⟩ | ⟨b,rfl,h⟩
   ·exact i _ _ h
   ·exact i _ _ h
 | .list=>AG λ_ _ _ _ i ⟨a,c,d⟩=>⟨a,c,i _ _ d⟩
 | .tuple=>AG λ_ _ _ _ i ⟨a,c,d⟩=>⟨a,c,i _ _ d⟩
 | .all=>AG λ_ _ _ _ i ⟨a,b,c,d,e,f⟩=>⟨a,b,c,d,e,i _ _ f⟩
 | .any=>AG λ_ _ _ _ i ⟨a,b,c,d,e,f⟩=>⟨a,b,c,d,e,i _ _ f⟩
 | .sorted=>AG λ_ _ _ _ i ⟨a,b,c,d,e,f,g⟩=>⟨a,b,c,d,e,f,i _ _ g⟩
 | .isi=>DU λx y S P P' i h=>by
   replace h:=RJ h;rcases h with⟨t,a,rfl,h1,h2,h⟩ | ⟨ts,a,bs,rfl,h1,h2,h3,h⟩
   ·exact⟨a,h1,h2,i _ _ h⟩
   ·exact⟨a,bs,h1,h2,h3,i _ _ h⟩
 | .str=>AG λ_ _ _ _ i ⟨a,b,c,d⟩=>⟨a,b,c,i _ _ d⟩
section
variable{K:W5}{as:List Zk}{H:Hp}{S:Sto}
theorem IU:∀{xs:List SV} {bs:List Bool} {vs:List V},blS xs=some bs->RlAll K as H vs xs->vs=bs.map V.bl
 | [],_,_,e,r=>by cases e;exact rla_nil.mp r
 | .bl b::xs,_,_,e,r=>by
   obtain⟨v,vs,rfl,r1,r2⟩:=rla_cons.mp r;unfold blS at e;cases h:blS xs with
   | none=>rw[h]at e;cases e
   | some cs=>
     rw[h]at e;cases e;rw[rl_bl.mp r1,IU h r2];rfl
 | .non::_,_,_,e,_=>by cases e
 | .int _::_,_,_,e,_=>by cases e
 | .str _::_,_,_,e,_=>by cases e
 | .tup _::_,_,_,e,_=>by cases e
 | .loc _::_,_,_,e,_=>by cases e
 | .ro _::_,_,_,e,_=>by cases e
 | .ty _::_,_,_,e,_=>by cases e
theorem DV:∀{xs:List SV} {bs:List Int} {vs:List V},EU xs=some bs->RlAll K as H vs xs->vs=bs.map V.int
 | [],_,_,e,r=>by cases e;exact rla_nil.mp r
 | .int b::xs,_,_,e,r=>by
   obtain⟨v,vs,rfl,r1,r2⟩:=rla_cons.mp r;unfold EU at e;cases h:EU xs with
   | none=>rw[h]at e;cases e
   | some cs=>
     rw[h]at e;cases e;rw[rl_int.mp r1,DV h r2];rfl
 | .non::_,_,_,e,_=>by cases e
 | .bl _::_,_,_,e,_=>by cases e
 | .str _::_,_,_,e,_=>by cases e
 | .tup _::_,_,_,e,_=>by cases e
 | .loc _::_,_,_,e,_=>by cases e
 | .ro _::_,_,_,e,_=>by cases e
 | .ty _::_,_,_,e,_=>by cases e
theorem Ac{x:SV}{v:V}{xs:List SV}(ok:Ok K as H S)(r:Rl K as H v x)(n:x ≠ .tup xs)(h:seqS x S=some xs):∃ a vs,v = .ref a/\SqL K H a vs/\RlAll K as H vs xs:=by
 cases x with
 | tup ys=>cases h;exact absurd rfl n
 | ro ys=>
   cases h;obtain⟨p,vs,rfl,hp,rr⟩:=rl_ro.mp r;exact⟨p,vs,rfl,hp.sq,rr⟩
 | loc k=>
   obtain⟨a,ea,rfl⟩:=rl_loc.mp r;unfold seqS at h;cases hs:S[k]? with
   | none=>simp only[hs]at h;cases h
   | some o=>
     cases o with
     | lst ys=>
       simp only[hs]at h;cases h;obtain⟨vs,h1,rr⟩:=ok.obj k _ a hs ea;exact⟨a,vs,rfl,SqL.of h1,rr⟩
     | iset _=>simp only[hs]at h;cases h
     | dct _=>simp only[hs]at h;cases h
     | dcf _ _ _=>simp only[hs]at h;cases h
 | _=>cases h
theorem Ch{vs:List V}{x:SV}(r:RlAll K as H vs [x]):∃ v,vs=[v]/\Rl K as H v x:=by
 obtain⟨v,t,rfl,r1,r2⟩:=rla_cons.mp r;rw[rla_nil.mp r2];exact⟨v,rfl,r1⟩
theorem Pn{vs:List V}{x y:SV}(r:RlAll K as H vs [x,y]):∃ v u,vs=[v,u]/\Rl K as H v x/\Rl K as H u y:=by
 obtain⟨v,t,rfl,r1,r2⟩:=rla_cons.mp r;obtain⟨u,rfl,r3⟩:=Ch r2;exact⟨v,u,rfl,r1,r3⟩
end
theorem Mz{K:W5}{as:List Zk}{H:Hp}{S:Sto}{Q:VK}{x:SV}{v:V}{ys:List SV}(ok:Ok K as H S)(r1:Rl K as H v x)(h1:seqS x S=some ys)(h2:Post K as H Q (.tup ys) S):∃ p us,v = .ref p/\((SqL K H p us/\∀ l,H l=none->Q (.ref l) (upd H l (.tup us)))\/(SqT K H p us/\Q (.ref p) H)):=by
 cases x with
 | tup zs=>
   cases h1;obtain⟨p,us,rfl,hp,rr⟩:=rl_tup.mp r1;exact⟨p,us,rfl,.inr ⟨SqT.of hp,h2.here ok r1⟩⟩
 | loc k=>
   obtain⟨a,us,rfl,hq,rr⟩:=Ac ok r1 (by intro z;cases z) h1;exact⟨a,us,rfl,.inl ⟨hq,Cf ok rr h2⟩⟩
 | ro k=>
   obtain⟨a,us,rfl,hq,rr⟩:=Ac ok r1 (by intro z;cases z) h1;exact⟨a,us,rfl,.inl ⟨hq,Cf ok rr h2⟩⟩
 | _=>cases h1
section
variable{K:W5}{as:List Zk}{H:Hp}{S:Sto}
theorem RK{x:SV}{v:V}{a:TyN}(ok:Ok K as H S)(r:Rl K as H v x)(h:tyS x S=some a):TyOf K H v (.type a.nm):=by
 cases x with
 | non=>cases h;rw[rl_non.mp r];exact .non
 | bl b=>cases h;rw[rl_bl.mp r];exact .bl b
 | int b=>cases h;rw[rl_int.mp r];exact .int b
 | str b=>cases h;rw[rl_str.mp r];exact .str b
 | tup xs=>cases h;obtain⟨p,vs,rfl,hp,_⟩:=rl_tup.mp r;exact .tup hp
 | loc k=>
   obtain⟨b,eb,rfl⟩:=rl_loc.mp r;unfold tyS at h;cases hs:S[k]? with
   | none=>simp only[hs]at h;cases h
   | some o=>
     cases o with
     | lst ys=>
       simp only[hs]at h;cases h;obtain⟨vs,h1,_⟩:=ok.obj k _ b hs eb;exact .lst h1
     | iset _=>simp only[hs]at h;cases h
     | dct _=>simp only[hs]at h;cases h
     | dcf _ _ _=>simp only[hs]at h;cases h
 | _=>cases h
noncomputable def ktn(t c:String):Option Bool:=if (Value.type t == Value.type c)=true then some true else if PySem.W.kitMeta c=true then (fastBuiltinMro t).map (·.contains (.type c)) else none
theorem Jg{K:W5}(a:TyN)(t:TyN)(ht:t ≠ .none):PySem.W.kitOne K (.type a.nm) (.type t.nm)=some (IT a t):=by
 have e:PySem.W.kitOne K (.type a.nm) (.type t.nm)=ktn a.nm t.nm:=rfl;rw[e];cases a<;>cases t<;>first | exact absurd rfl ht | decide +kernel
theorem Jh{K:W5}(a:TyN):∀(bs:List TyN),TyN.none∉bs->PySem.W.kitAny K (.type a.nm) ((bs.map TyN.nm).map Value.type)=some (bs.any (IT a))
 | [],_=>rfl
 | b::bs,h=>by
   rw[Wo,Wo,PySem.W.kitAny,Jg a b (λz=>h (by rw[z];simp)),Xe];cases IT a b with
   | true=>rfl
   | false=>exact Jh a bs (λz=>h (WL _ z))
theorem N0:∀{xs:List SV} {bs:List TyN} {vs:List V},L1 xs=some bs->RlAll K as H vs xs->vs=(bs.map TyN.nm).map V.ty
 | [],_,_,e,r=>by cases e;exact rla_nil.mp r
 | .ty b::xs,_,_,e,r=>by
   obtain⟨v,vs,rfl,r1,r2⟩:=rla_cons.mp r;unfold L1 at e;cases h:L1 xs with
   | none=>rw[h]at e;cases e
   | some cs=>
     rw[h]at e;cases e;rw[rl_ty.mp r1,N0 h r2];rfl
 | .non::_,_,_,e,_=>by cases e
 | .bl _::_,_,_,e,_=>by cases e
 | .str _::_,_,_,e,_=>by cases e
 | .tup _::_,_,_,e,_=>by cases e
 | .loc _::_,_,_,e,_=>by cases e
 | .ro _::_,_,_,e,_=>by cases e
 | .int _::_,_,_,e,_=>by cases e
theorem FN{n:Nat}(ih:∀{x:SV} {d:PyData} {v:V},Aj n S x=some d->Rl K as H v x->Dat H v d):∀{xs:List SV} {ds:List PyData} {vs:List V},xs.mapM (Aj n S)=some ds->RlAll K as H vs xs->DatAll H vs ds
 | [],_,_,e,r=>by
   rw[List.mapM_nil]at e;cases e;rw[rla_nil.mp r];unfold DatAll;trivial
 | x::xs,_,_,e,r=>by
   obtain⟨v,vs,rfl,r1,r2⟩:=rla_cons.mp r;rw[YV]at e;cases h1:Aj n S x with
   | none=>rw[h1]at e;cases e
   | some d=>
     rw[h1]at e;cases h2:xs.mapM (Aj n S) with
     | none=>rw[h2]at e;cases e
     | some ds=>
       rw[h2]at e;cases e;unfold DatAll;exact⟨ih h1 r1,FN ih h2 r2⟩
theorem TC(ok:Ok K as H S):∀(n:Nat) {x:SV} {d:PyData} {v:V},Aj n S x=some d->Rl K as H v x->Dat H v d:=by
 intro n
 induction n with
 | zero=>
   intro x d v e r;cases x with
   | non=>cases e;rw[rl_non.mp r];unfold Dat;rfl
   | bl b=>cases e;rw[rl_bl.mp r];unfold Dat;rfl
   | int b=>cases e;rw[rl_int.mp r];unfold Dat;rfl
   | str b=>cases e;rw[rl_str.mp r];unfold Dat;rfl
   | _=>unfold Aj at e;cases e
 | succ n ih=>
   intro x d v e r;cases x with
   | non=>cases e;rw[rl_non.mp r];unfold Dat;rfl
   | bl b=>cases e;rw[rl_bl.mp r];unfold Dat;rfl
   | int b=>cases e;rw[rl_int.mp r];unfold Dat;rfl
   | str b=>cases e;rw[rl_str.mp r];unfold Dat;rfl
   | tup xs=>
     unfold Aj at e;cases h:xs.mapM (Aj n S) with
     | none=>rw[h]at e;cases e
     | some ds=>
       rw[h]at e;cases e;obtain⟨p,vs,rfl,hp,rr⟩:=rl_tup.mp r;unfold Dat;exact⟨p,vs,rfl,hp,FN ih h rr⟩
   | loc k=>
     unfold Aj at e;cases hs:S[k]? with
     | none=>simp only[hs]at e;cases e
     | some o=>
       cases o with
       | lst ys=>
         simp only[hs]at e;cases h:ys.mapM (Aj n S) with
         | none=>rw[h]at e;cases e
         | some ds=>
           rw[h]at e;cases e;obtain⟨a,vs,rfl,_,ha,rr⟩:=A6 ok r hs;unfold Dat;exact⟨a,vs,rfl,ha,FN ih h rr⟩
       | iset _=>simp only[hs]at e;cases e
       | dct _=>simp only[hs]at e;cases e
       | dcf _ _ _=>simp only[hs]at e;cases e
   | _=>unfold Aj at e;cases e
end
noncomputable def rBi(K:W5):BI->List V->Hp->VK->Prop
 | .len=>λxs H Q=>∃ p ys,xs=[.ref p]/\(SqL K H p ys\/SqT K H p ys)/\Q (.int ys.length) H
 | .abs=>λxs H Q=>∃ i,xs=[.int i]/\Q (.int (if i<0 then -i else i)) H
 | .min=>λxs H Q=>∃ i j,xs=[.int i,.int j]/\Q (.int (if j<i then j else i)) H
 | .max=>λxs H Q=>∃ i j,xs=[.int i,.int j]/\Q (.int (if j>i then j else i)) H
 | .int=>λxs H Q=>(∃ i,xs=[.int i]/\Q (.int i) H)\/∃ k,xs=[.bl k]/\Q (.int (if k then 1 else 0)) H
 | .list=>λxs H Q=>∃ p ys,xs=[.ref p]/\(SqL K H p ys\/SqT K H p ys)/\∀ l,H l=none->Q (.ref l) (upd H l (.lst ys))
 | .tuple=>λxs H Q=>∃ p ys,xs=[.ref p]/\((SqL K H p ys/\∀ l,H l=none->Q (.ref l) (upd H l (.tup ys)))\/(SqT K H p ys/\Q (.ref p) H))
 | .all=>λxs H Q=>∃(a:Zk) (bs:List Bool),xs=[.ref a]/\SqL K H a (bs.map V.bl)/\Q (.bl (bs.all id)) H
 | .any=>λxs H Q=>∃(a:Zk) (bs:List Bool),xs=[.ref a]/\SqL K H a (bs.map V.bl)/\Q (.bl (bs.any id)) H
 | .sorted=>λxs H Q=>∃ p ns,xs=[.ref p]/\SqL K H p (ns.map V.int)/\ns.length<64/\∀ l,H l=none->Q (.ref l) (upd H l (.lst ((srt ns).map V.int)))
 | .isi=>λxs H Q=>(∃ x T t b,xs=[x,.ty T]/\TyOf K H x t/\PySem.W.kitOne K t (.type T)=some b/\Q (.bl b) H)\/(∃(x:V) (p:Zk) (Ts:List String) (t:Zh) (b:Bool),xs=[x,.ref p]/\H p=some (.tup (Ts.map V.ty))/\TyOf K H x t/\PySem.W.kitAny K t (Ts.map Value.type)=some b/\Q (.bl b) H)
 | .str=>λxs H Q=>∃ x d,xs=[x]/\Dat H x d/\Fit d/\Q (.str (PM d)) H
theorem TD{K:W5}:∀{b:BI},Us K (sBi b) (rBi K b)
 | .len=>λas H S xs vs Q ok r h=>by
   replace h:=D4 h;obtain⟨x,rfl,ys,h1,h2⟩:=h;obtain⟨v,rfl,r1⟩:=Ch r;obtain⟨a,us,rfl,hq,rr⟩:=Dv ok r1 h1;exact⟨a,us,rfl,hq,by rw[rr.length];exact h2.here ok (rl_int.mpr rfl)⟩
 | .abs=>λas H S xs vs Q ok r h=>by
   replace h:=D4 h;obtain⟨x,rfl,h⟩:=h;replace h:=D5 h;obtain⟨i,rfl,h⟩:=h;obtain⟨v,rfl,r1⟩:=Ch r;exact⟨_,by rw[rl_int.mp r1],Post.here h ok (rl_int.mpr rfl)⟩
 | .min=>λas H S xs vs Q ok r h=>by
   replace h:=My h;obtain⟨x,y,rfl,h⟩:=h;replace h:=D5 h;obtain⟨i,rfl,h⟩:=h;replace h:=D5 h;obtain⟨j,rfl,h⟩:=h;obtain⟨v,u,rfl,r1,r2⟩:=Pn r;exact⟨_,_,by rw[rl_int.mp r1,rl_int.mp r2],Post.here h ok (rl_int.mpr rfl)⟩
 | .max=>λas H S xs vs Q ok r h=>by
   replace h:=My h;obtain⟨x,y,rfl,h⟩:=h;replace h:=D5 h;obtain⟨i,rfl,h⟩:=h;replace h:=D5 h;obtain⟨j,rfl,h⟩:=h;obtain⟨v,u,rfl,r1,r2⟩:=Pn r;exact⟨_,_,by rw[rl_int.mp r1,rl_int.mp r2],Post.here h ok (rl_int.mpr rfl)⟩
 | .int=>λas H S xs vs Q ok r h=>by
   replace h:=D4 h;obtain⟨x,rfl,h⟩:=h;obtain⟨v,rfl,r1⟩:=Ch r;replace h:=RI h;rcases h with⟨k,rfl,h⟩ | ⟨b,rfl,h⟩
   ·exact .inl ⟨_,by rw[rl_int.mp r1],Post.here h ok (rl_int.mpr rfl)⟩
   ·exact .inr ⟨_,by rw[rl_bl.mp r1],Post.here h ok (rl_int.mpr rfl)⟩
 | .list=>λas H S xs vs Q ok r h=>by
   replace h:=D4 h;obtain⟨x,rfl,ys,h1,h2⟩:=h;obtain⟨v,rfl,r1⟩:=Ch r;obtain⟨a,us,rfl,hq,rr⟩:=Dv ok r1 h1;exact⟨a,us,rfl,hq,AE ok rr h2⟩
 | .tuple=>λas H S xs vs Q ok r h=>by
   replace h:=D4 h;obtain⟨x,rfl,ys,h1,h2⟩:=h;obtain⟨v,rfl,r1⟩:=Ch r;obtain⟨p,us,rfl,z⟩:=Mz ok r1 h1 h2;exact⟨p,us,rfl,z⟩
 | .all=>λas H S xs vs Q ok r h=>by
   replace h:=D4 h;obtain⟨x,rfl,ys,bs,h0,h1,h2,h3⟩:=h;obtain⟨v,rfl,r1⟩:=Ch r;obtain⟨a,us,rfl,hq,rr⟩:=Ac ok r1 h0 h1;rw[IU h2 rr]at hq;exact⟨a,bs,rfl,hq,h3.here ok (rl_bl.mpr rfl)⟩
 | .any=>λas H S xs vs Q ok r h=>by
   replace h:=D4 h;obtain⟨x,rfl,ys,bs,h0,h1,h2,h3⟩:=h;obtain⟨v,rfl,r1⟩:=Ch r;obtain⟨a,us,rfl,hq,rr⟩:=Ac ok r1 h0 h1;rw[IU h2 rr]at hq;exact⟨a,bs,rfl,hq,h3.here ok (rl_bl.mpr rfl)⟩
 | .sorted=>λas H S xs vs Q ok r h=>by
   replace h:=D4 h;obtain⟨x,rfl,ys,ns,h0,h1,h2,h3,h4⟩:=h;obtain⟨v,rfl,r1⟩:=Ch r;obtain⟨a,us,rfl,hq,rr⟩:=Ac ok r1 h0 h1;rw[DV h2 rr]at hq;exact⟨a,ns,rfl,hq,h3,AE ok RlAll.ints h4⟩
 | .isi=>λas H S xs vs Q ok r h=>by
   replace h:=My h;obtain⟨x,y,rfl,h⟩:=h;obtain⟨v,u,rfl,r1,r2⟩:=Pn r;replace h:=RJ h;rcases h with⟨t,a,rfl,h0,h1,h2⟩ | ⟨ts,a,bs,rfl,h0,h1,h2,h3⟩
   ·rw[rl_ty.mp r2];exact .inl ⟨v,_,_,_,rfl,RK ok r1 h1,Jg _ _ h0,h2.here ok (rl_bl.mpr rfl)⟩
   ·obtain⟨p,vs,rfl,hp,rr⟩:=rl_tup.mp r2;rw[N0 h2 rr]at hp;exact .inr ⟨v,p,_,_,_,rfl,hp,RK ok r1 h1,Jh _ _ h0,h3.here ok (rl_bl.mpr rfl)⟩
 | .str=>λas H S xs vs Q ok r h=>by
   replace h:=D4 h;obtain⟨x,rfl,d,h1,h2,h3⟩:=h;obtain⟨v,rfl,r1⟩:=Ch r;exact⟨v,d,rfl,TC ok 20 h1 r1,h2,h3.here ok (rl_str.mpr rfl)⟩
inductive MT where
 | append | extend | extT | pop | insert
 deriving DecidableEq
noncomputable def MT.name:MT->Str
 | .append=>"append" | .extend=>"extend" | .extT=>"extend" | .pop=>"pop" | .insert=>"insert"
noncomputable def oL(f:Nat->Sto->QE->Prop):S1:=λx S Q=>match x with | .loc k=>f k S Q | _=>False
theorem DR{f:Nat->Sto->QE->Prop}{x:SV}{S:Sto}{Q:QE}(h:oL f x S Q):∃ k,x = .loc k/\f k S Q:=match x,h with | .loc k,h=>⟨k,rfl,h⟩
noncomputable def RL:Nat->Sto->QE->Prop:=λk S Q=>∃ xs y,S[k]?=some (.lst xs)/\xs[xs.length - 1]?=some y/\Q y (S.set k (.lst xs.dropLast))
noncomputable def RM(k:Nat):Int->Sto->QE->Prop:=λi S Q=>∃ xs y,S[k]?=some (.lst xs)/\(0<=i/\i<xs.length)/\xs.length<=big/\xs[i.toNat]?=some y/\Q y (S.set k (.lst (xs.eraseIdx i.toNat)))
noncomputable def RN(y:SV):Nat->Sto->QE->Prop:=λk S Q=>oI (RM k) y S Q
noncomputable def Uy(x:SV):Sn:=λxs S Q=>match xs with
 | []=>oL RL x S Q
 | [y]=>oL (RN y) x S Q
 | _=>False
noncomputable def Po(x:SV):S1:=λy S Q=>oL (λk S Q=>∃ xs,S[k]?=some (.lst xs)/\xs.length<big/\Q .non (S.set k (.lst (xs++[y])))) x S Q
noncomputable def Pp(x:SV):S1:=λy S Q=>oL (λk S Q=>oL (λl S Q=>∃ xs ys,S[k]?=some (.lst xs)/\S[l]?=some (.lst ys)/\xs.length+ys.length<=big/\Q .non (S.set k (.lst (xs++ys)))) y S Q) x S Q
noncomputable def Uz(x:SV):S1:=λy S Q=>oL (λk S Q=>∃ xs ys,y = .tup ys/\S[k]?=some (.lst xs)/\xs.length+ys.length<=big/\Q .non (S.set k (.lst (xs++ys)))) x S Q
noncomputable def Pq(x:SV):S2:=λz y S Q=>oL (λk S Q=>oI (λi S Q=>∃ xs,S[k]?=some (.lst xs)/\(0<=i/\i<=xs.length)/\xs.length<big/\Q .non (S.set k (.lst (xs.take i.toNat++y::xs.drop i.toNat)))) z S Q) x S Q
noncomputable def sMt:MT->SV->Sn
 | .append,x=>a1 (Po x)
 | .extend,x=>a1 (Pp x)
 | .extT,x=>a1 (Uz x)
 | .pop,x=>Uy x
 | .insert,x=>a2 (Pq x)
theorem RO{x:SV}{xs:List SV}{S:Sto}{Q:QE}(h:Uy x xs S Q):∃ k,x = .loc k/\((xs=[]/\∃ xs y,S[k]?=some (.lst xs)/\xs[xs.length - 1]?=some y/\Q y (S.set k (.lst xs.dropLast)))\/
 ∃ i,xs=[.int i]/\∃ xs y,S[k]?=some (.lst xs)/\(0<=i/\i<xs.length)/\xs.length<=big/\xs[i.toNat]?=some y/\Q y (S.set k (.lst (xs.eraseIdx i.toNat)))):=match xs,h with
 | [],h=>by
   have h:oL RL x S Q:=h;obtain⟨k,e,h⟩:=DR h;exact⟨k,e,.inl ⟨rfl,h⟩⟩
 | [y],h=>by
   have h:oL (RN y) x S Q:=h;obtain⟨k,e,h⟩:=DR h;have h:oI (RM k) y S Q:=h;obtain⟨i,e2,h⟩:=D5 h;exact⟨k,e,.inr ⟨i,by rw[e2],h⟩⟩
theorem FO:∀{m:MT} {x:SV},MonoN (sMt m x)
 | .append,x=>AG λy S P P' i h=>by
   replace h:=DR h;obtain⟨k,rfl,a,c,d,e⟩:=h;exact⟨a,c,d,i _ _ e⟩
 | .extend,x=>AG λy S P P' i h=>by
   replace h:=DR h;obtain⟨k,rfl,h⟩:=h;replace h:=DR h;obtain⟨l,rfl,a,c,d,e,f,g⟩:=h;exact⟨a,c,d,e,f,i _ _ g⟩
 | .extT,x=>AG λy S P P' i h=>by
   replace h:=DR h;obtain⟨k,rfl,a,c,d,e,f,g⟩:=h;exact⟨a,c,d,e,f,i _ _ g⟩
 | .pop,x=>λxs S P P' i h=>by
   replace h:=RO h;obtain⟨k,rfl,h⟩:=h;rcases h with⟨rfl,a,c,d,e,f⟩ | ⟨j,rfl,a,c,d,e,f,g,h⟩
   ·exact⟨a,c,d,e,i _ _ f⟩
   ·exact⟨a,c,d,e,f,g,i _ _ h⟩
 | .insert,x=>DU λz y S P P' i h=>by
   replace h:=DR h;obtain⟨k,rfl,h⟩:=h;replace h:=D5 h;obtain⟨j,rfl,a,c,d,e,f⟩:=h;exact⟨a,c,d,e,i _ _ f⟩
noncomputable def rMt:MT->V->List V->Hp->VK->Prop
 | .append=>JV
 | .extend=>JW
 | .extT=>RH
 | .pop=>λx vs H Q=>UY x vs H Q\/MX x vs H Q
 | .insert=>JX
section
variable{K:W5}{as:List Zk}{H:Hp}{S:Sto}
theorem RlAll.erase:∀{xs:List SV} {vs:List V} (n:Nat),RlAll K as H vs xs->RlAll K as H (vs.eraseIdx n) (xs.eraseIdx n)
 | [],_,n,h=>by rw[rla_nil.mp h];exact .nil
 | x::xs,_,0,h=>by
   obtain⟨v,r,rfl,a,t⟩:=rla_cons.mp h;exact t
 | x::xs,_,n+1,h=>by
   obtain⟨v,r,rfl,a,t⟩:=rla_cons.mp h;exact .cons a (t.erase n)
theorem RlAll.dropLast{xs:List SV}{vs:List V}(h:RlAll K as H vs xs):RlAll K as H vs.dropLast xs.dropLast:=by
 rw[Yl,Yl,h.length];exact h.take _
theorem AX{Q:VK}{k:Nat}{a:Zk}{xs ys:List SV}{us:List V}{x:SV}{v:V}(ok:Ok K as H S)(e:S[k]?=some (.lst xs))(ea:as[k]?=some a)(r:RlAll K as H us ys)(h:Post K as H Q x (S.set k (.lst ys)))(rx:Rl K as H v x):Q v (upd H a (.lst us)):=by
 obtain⟨ok',ku⟩:=ok.write e ea r;exact h as _ v (Go.write (WC ea)) ok' (Rl.mono (Wl _) ku x v rx)
theorem N1:∀{m:MT} {Q:VK} {x:SV} {v:V} {xs:List SV} {vs:List V} (ok:Ok K as H S) (rx:Rl K as H v x) (r:RlAll K as H vs xs) (h:sMt m x xs S (Post K as H Q)),rMt m v vs H Q
 | .append,Q,x,v,xs,vs,ok,rx,r,h=>by
   replace h:=D4 h;obtain⟨y,rfl,h⟩:=h;replace h:=DR h;obtain⟨k,rfl,ys,h1,h2,h3⟩:=h;obtain⟨a,us,rfl,ea,ha,ra⟩:=A6 ok rx h1;obtain⟨u,rfl,ru⟩:=Ch r;exact⟨a,us,u,rfl,rfl,ha,by rw[ra.length];exact CT h2,AX ok h1 ea (ra.append (.cons ru .nil)) h3 (rl_non.mpr rfl)⟩
 | .extend,Q,x,v,xs,vs,ok,rx,r,h=>by
   replace h:=D4 h;obtain⟨y,rfl,h⟩:=h;replace h:=DR h;obtain⟨k,rfl,h⟩:=h;replace h:=DR h;obtain⟨l,rfl,ys,zs,h1,h2,h3,h4⟩:=h;obtain⟨a,us,rfl,ea,ha,ra⟩:=A6 ok rx h1;obtain⟨u,rfl,ru⟩:=Ch r;obtain⟨b,ws,rfl,eb,hb,rb⟩:=A6 ok ru h2;exact⟨a,b,us,ws,rfl,rfl,ha,hb,by rw[ra.length,rb.length];exact BR h3,AX ok h1 ea (ra.append rb) h4 (rl_non.mpr rfl)⟩
 | .extT,Q,x,v,xs,vs,ok,rx,r,h=>by
   replace h:=D4 h;obtain⟨y,rfl,h⟩:=h;replace h:=DR h;obtain⟨k,rfl,ys,zs,rfl,h1,h3,h4⟩:=h;obtain⟨a,us,rfl,ea,ha,ra⟩:=A6 ok rx h1;obtain⟨u,rfl,ru⟩:=Ch r;obtain⟨b,ws,rfl,hb,rb⟩:=rl_tup.mp ru;exact⟨a,b,us,ws,rfl,rfl,ha,hb,by rw[ra.length,rb.length];exact BR h3,AX ok h1 ea (ra.append rb) h4 (rl_non.mpr rfl)⟩
 | .pop,Q,x,v,xs,vs,ok,rx,r,h=>by
   replace h:=RO h;obtain⟨k,rfl,h⟩:=h;rcases h with⟨rfl,ys,y,h1,h2,h3⟩ | ⟨i,rfl,ys,y,h1,h2,h3,h4,h5⟩
   ·obtain⟨a,us,rfl,ea,ha,ra⟩:=A6 ok rx h1;obtain⟨z,hz,rz⟩:=ra.get h2;rw[rla_nil.mp r];exact .inl ⟨a,us,z,rfl,rfl,ha,by rw[ra.length];exact hz,AX ok h1 ea ra.dropLast h3 rz⟩
   ·obtain⟨a,us,rfl,ea,ha,ra⟩:=A6 ok rx h1;obtain⟨u,rfl,ru⟩:=Ch r;obtain⟨z,hz,rz⟩:=ra.get h4;rw[rl_int.mp ru];have hb:big=100000:=rfl;refine .inr ⟨a,us,i,i.toNat,z,rfl,rfl,ha,by omega,by omega,?_,hz,AX ok h1 ea (ra.erase _) h5 rz⟩;rw[ra.length];exact PySem.seqIndex_of h2.1 h2.2
 | .insert,Q,x,v,xs,vs,ok,rx,r,h=>by
   replace h:=My h;obtain⟨z,y,rfl,h⟩:=h;replace h:=DR h;obtain⟨k,rfl,h⟩:=h;replace h:=D5 h;obtain⟨i,rfl,ys,h1,h2,h3,h4⟩:=h;obtain⟨a,us,rfl,ea,ha,ra⟩:=A6 ok rx h1;obtain⟨u,w,rfl,ru,rw'⟩:=Pn r;rw[rl_int.mp ru];exact⟨a,us,i,w,rfl,rfl,ha,h2.1,by rw[ra.length];exact h2.2,by rw[ra.length];exact CT h3,AX ok h1 ea (ra.ins rw' _) h4 (rl_non.mpr rfl)⟩
end
end Rf
namespace L2
open PySem PySem.Spec PyProof.Rows
section
variable{X:Cx}{pq:List (Zk×Obj)}{σ:St}{H:Hp}{s:Zj}{a:Zk}{u u':HO}
theorem Inv.retag(I:Inv X pq σ H s)(hu:H a=some u)(h1:∀ xs,u ≠ .tup xs)(h2:∀ y,u ≠ .own y)(h3:∀ ps,u ≠ .tbl ps)(h4:∀ o xs,u ≠ .frz o (.lst xs))(new:ObjOk X.prog X.w (upd H a u') s.heap a u'):Inv X pq σ (upd H a u') s:=by
 have ne:∀ b,H b=none->b≠a:=λb n z=>by rw[z,hu]at n;cases n
 refine⟨I.ok,I.os,I.bare,⟨I.base.keep,I.base.slot,λb o e n hx=>?_,I.base.there,λb xs e=>?_,λb o w e=>?_,λb ps e=>?_⟩,I.loc,I.cell,?_,λx c e=>?_,λp hp=>?_,λb o e=>?_,I.len⟩
 ·have q:=I.base.free b o e n hx;rw[upd_ne (ne b q)];exact q
 ·have q:=I.base.tups b xs e;by_cases hb:b=a
  ·rw[hb,hu]at q;exact absurd (oj q) (h1 xs)
  ·rw[upd_ne hb];exact q
 ·have q:=I.base.frzs b o w e;by_cases hb:b=a
  ·rw[hb,hu]at q;exact absurd (oj q) (h4 o w)
  ·rw[upd_ne hb];exact q
 ·obtain⟨m,q⟩:=I.base.tbls b ps e;by_cases hb:b=a
  ·rw[hb,hu]at q;exact absurd (oj q) (h3 _)
  ·exact⟨m,by rw[upd_ne hb];exact q⟩
 ·rw[upd_ne (ne _ I.free)];exact I.free
 ·rw[upd_ne (ne _ (I.freeC x c e))];exact I.freeC x c e
 ·obtain⟨p1,p2,p3⟩:=I.pin p hp;exact⟨p1,by rw[upd_ne (ne _ p2)];exact p2,p3⟩
 ·by_cases hb:b=a
  ·subst hb;rw[f9]at e;cases e;exact new
  ·rw[upd_ne hb]at e;refine(I.hok b o e).stay (λ_ _ _ q=>q) (λc q=>?_) (λc xs q=>?_)
   ·by_cases hc:c=a
    ·rw[hc,hu]at q;exact absurd (oj q) (h2 _)
    ·rw[upd_ne hc];exact q
   ·by_cases hc:c=a
    ·rw[hc,hu]at q;exact absurd (oj q) (h1 _)
    ·rw[upd_ne hc];exact q
theorem Inv.freeze{ks:List (Key×V)}{o:Obj}(I:Inv X pq σ H s)(hu:H a=some (.dK ks))(ho:s.heap.get? a=some o):Inv X pq σ (upd H a (.frz o (.dK ks))) s:=
 I.retag hu nofun nofun nofun (λ_ _ z=>by cases z) ⟨ho,I.hok a _ hu⟩
theorem Inv.melt{ks:List (Key×V)}{o:Obj}(I:Inv X pq σ H s)(hu:H a=some (.frz o (.dK ks))):Inv X pq σ (upd H a (.dK ks)) s:=
 I.retag hu nofun nofun nofun (λo' xs z=>by injection z with z1 z2;cases z2) (show ObjOk X.prog X.w H s.heap a (.frz o (.dK ks)) from I.hok a _ hu).2
end
theorem V0{P:Zo}{w:Zq}{k:Key}{u:Zh}(h:(m8 P w).is k u=true):RelV (kV k) u:=by
 rw[Hv]at h;cases k with
 | inl i=>cases u<;>first | (cases h;done) | (simp[Cc,Value.isInt]at h;subst h;exact⟨_,rfl⟩)
 | inr x=>cases u<;>first | (cases h;done) | (simp[Cc,Value.isStrOf]at h;subst h;exact⟨_,rfl⟩)
noncomputable def Itk(d:Zk)(o:Obj)(ks:List (Key×V)):It:=⟨λi H=>i<ks.length/\H d=some (.frz o (.dK ks)),λi H x H'=>H'=H/\∃ p,ks[i]?=some p/\x=kV p.1,λi H=>ks.length<=i/\H d=some (.frz o (.dK ks))⟩
theorem N3{P:Zo}{w:Zq}{H:Hp}{h:Heap}{d:Zk}{o:Obj}{ks:List (Key×V)}{es0:Array A1W}{ep:Nat}(hd:o.data = .dict es0 ep)(ok:HOk P w H h)(e:H d=some (.frz o (.dK ks))):∃ vs,KV ks vs/\h.DictAt (m8 P w) d vs ep:=by
 obtain⟨ho,_,_,vs,kv,o',es,ep',ho',ex,dat,keys,prs,nd⟩:=(show ObjOk P w H h d (.frz o (.dK ks)) from ok d _ e)
 rw[ho]at ho';cases ho';rw[hd]at dat;cases dat;exact⟨vs,kv,o,_,ho,ex,hd,keys,prs,nd⟩
theorem Ps{P:Zo}{w:Zq}{K:W5}{tg:Expr}(it d:Zk)(o:Obj)(ks:List (Key×V)){es0:Array A1W}{ep:Nat}(hd:o.data = .dict es0 ep):Turn P w K tg (Itk d o ks) [it] it (λi h=>h.IsKeyIter it d i ks.length ep) where
 mem:=by simp
 obj:=λi h st b hb=>by
  have e:b=it:=by simpa using hb
  subst e;obtain⟨o,ho,_,hd⟩:=st;exact⟨o,ho,λv z=>by rw[hd]at z;cases z⟩
 keep:=λi h h' st k=>st.at λo e=>k it (by simp) o e
 item:=by
  intro X hP hw hK hc i pq s σ H E I hf st hg;subst hP hw hK;obtain⟨f0,f1,f2,f3,f4,f5⟩:=hf it (by simp);obtain⟨vs,kv,dm⟩:=N3 hd I.hok hg.2;have hl:ks.length=vs.length:=kv.length;have hi:i<vs.length:=by rw[<-hl];exact hg.1
  have hkk:ks[i].1=vs[i].1:=by
   have:=KV.keys kv;have h2:=congrArg (λl=>l[i]?) this;simp only[WQ,WB hg.1,WB hi]at h2;exact oj h2
  refine wpAny_pyNext_dict_item (by rw[<-hl];exact st) dm (WB hi) λkey h' hkey hit' hs'=>?_;have I1:Inv X pq σ H {s with heap:=h'}:=I.turned (t':=s.toks) (λb o hb e=>hs'.extBut b o hb e) f0 f1 f3 f4 f5;obtain⟨oi,hoi,hci,hdi⟩:=id hit';refine⟨_,rfl,JJ (s:={s with heap:=h'}) (n:="dict_keyiterator") hoi hci hdi (by decide) ⟨kV ks[i].1,H,I1,?_,⟨rfl,ks[i],WB hg.1,rfl⟩,by rw[<-hl]at hit';exact hit',λb hb=>(hf b hb).1⟩⟩;rw[hkk];exact V0 hkey
 done:=by
   intro X hP hw hK hc i pq s σ H E I hf st hg;subst hP hw hK;obtain⟨f0,f1,f2,f3,f4,f5⟩:=hf it (by simp);obtain⟨vs,kv,dm⟩:=N3 hd I.hok hg.2;have hl:ks.length=vs.length:=kv.length;exact wpAny_pyNext_dict_end (I.ok.hd hc) (by rw[<-hl];exact st) dm (by rw[Y7];rw[<-hl];exact hg.1) λh' he'=>⟨rfl,I.turned (t':=s.toks) (λb o hb e=>he' b o hb e) f0 f1 f3 f4 f5⟩
 self:=λ_ _ _ _ _ st h=>wpAny_pyIter_keyiter st h
section
variable{X:Cx}{tg:Expr}
noncomputable def iDk(td:TE):TI:=λσ H R=>td σ H λx H1=>∃ a ks,x = .ref a/\((H1 a=some (.dK ks)/\∀ o,R (Itk a o ks) (upd H1 a (.frz o (.dK ks))))\/∃ o,H1 a=some (.frz o (.dK ks))/\R (Itk a o ks) H1)
theorem V1{l:Expr}{td:TE}(hl:PE X l td):PI X tg l (iDk td):=by
 intro pq s σ H R I h;refine thn (hl pq s σ H _ I h) λv s1 ⟨x,H1,I1,r1,q1⟩=>?_;obtain⟨a,ks,e,q⟩:=q1;subst e;cases r1
 have go:∀(H2:Hp) (o:Obj),Inv X pq σ H2 s1->H2 a=some (.frz o (.dK ks))->R (Itk a o ks) H2->Zl (Zm X.prog X.w) X.A (pyIter (.ref a)) (PIE X pq σ tg R) X.xe s1:=λH2 o I2 e2 q=>by
  obtain⟨ho,len,nsys,vs,kv,o',es,ep,ho',ex,dat,keys,prs,nd⟩:=(show ObjOk X.prog X.w H2 s1.heap a (.frz o (.dK ks)) from I2.hok a _ e2)
  rw[ho]at ho';cases ho';have hl:ks.length=vs.length:=kv.length;refine wpAny_pyIter_dict nsys (⟨o,es,ho,ex,dat,keys,prs,nd⟩:s1.heap.DictAt (m8 X.prog X.w) a vs ep) ?_;refine⟨s1.heap.objs.size,[s1.heap.objs.size],_,_,_,rfl,I2.kept (t':=s1.toks) λb o e=>WD _ e,Ps s1.heap.objs.size a o ks dat,⟨_,WU _ rfl,rfl,by rw[hl];rfl⟩,λb hb=>?_,q⟩;have e:b=s1.heap.objs.size:=by simpa using hb
  subst e;exact I2.fpOk (WJ _) (I2.hok.fresh (WJ _))
 rcases q with⟨hq,q⟩ | ⟨o,hq,q⟩
 ·obtain⟨_,_,_,_,o,_,_,ho,_⟩:=(show ObjOk X.prog X.w H1 s1.heap a (.dK ks) from I1.hok a _ hq)
  exact go _ o (I1.freeze hq ho) f9 (q o)
 ·exact go _ o I1 hq q
def Vr(H H':Hp):Prop:=∃ a o ks,H a=some (.frz o (.dK ks))/\H'=upd H a (.dK ks)
noncomputable def N4(td ty tv:TE):TS:=λD σ H=>tv σ H λv H1=>td σ H1 λx H2=>ty σ H2 λy H3=>∃ a H3' H4,x = .ref a/\(H3'=H3\/Vr H3 H3')/\DPut H3' a y v H4/\D.nx σ H4
theorem N5{o i value:Expr}{pos pos':Pos}{td ty tv:TE}(hu:X.A.units+1<cLine)(ho:PE X o td)(hi:PE X i ty)(hv:PE X value tv)(hs:A08 value (some (.Subscript o i pos')) pos.line X.env=pure false):
 PS X (.Assign [.Subscript o i pos'] value pos) (N4 td ty tv):=by
 intro pq s σ H D I h;refine wpAny_Assign_Subscript (thn (hv pq s σ H _ I h) λr s1 ⟨v,H1,I1,rv,q1⟩=>thn (ho pq s1 σ H1 _ I1 q1) λu s2 ⟨x,H2,I2,rx,q2⟩=>thn (hi pq s2 σ H2 _ I2 q2) λiv s3 ⟨y,H3,I3,ry,a,H3',H4,ex,m,g,q3⟩=>?_) hs;subst ex;obtain rfl:u=Value.ref a:=rx
 have I3':Inv X pq σ H3' s3:=by
  rcases m with rfl | ⟨b,o',ks,e1,rfl⟩
  ·exact I3
  ·exact I3.melt e1
 exact Kr hu I3' g ry rv λs4 I4=>⟨σ,H4,I4,q3⟩
end
end L2
namespace Rf
open PySem L2
mutual
inductive Tg where
 | nm (i:Nat) | tup (ts:Tgs)
inductive Tgs where
 | nil | cons (t:Tg) (ts:Tgs)
end
mutual
inductive Ex where
 | var (i:Nat) | c (x:SV) | op (o:A0Y) (a b:Ex) | neg (a:Ex) | cmp (o:CmpOp) (a b:Ex) | chn (o p:CmpOp) (a b c:Ex)
 | and (a b:Ex) | or (a b:Ex) | not (a:Ex) | ife (t a b:Ex) | tup (es:Exs) | lst (es:Exs) | ix (a b:Ex) | slc (a:Ex) (lo hi:Eo)
 | call (f:Nat) (es:Exs) | bi (b:BI) (es:Exs) | mt (m:MT) (a:Ex) (es:Exs) | comp (own cn:List Str) (js:List Nat) (g:Tg) (it:Itb) (t:Eo) (e:Ex) | comp2 (own cn:List Str) (js:List Nat) (g:Tg) (it:Itb) (t:Eo) (g2:Tg) (it2:Itb) (t2:Eo) (e:Ex) | tyc (t:TyN) | lrng1 (a:Ex) | rev (a:Ex) | lenset (a:Ex) | srtset (a:Ex) | dcomp (own cn:List Str) (js:List Nat) (g:Tg) (it:Itb) (t:Eo) (e f:Ex) | srtsc (own cn:List Str) (js:List Nat) (g:Tg) (it:Itb) (t:Eo) (e:Ex) | eqt0 (a b:Ex) | dget (a b:Ex) | din (n:Bool) (a b:Ex) | no
inductive Exs where
 | nil | cons (e:Ex) (es:Exs)
inductive Eo where
 | no | yes (e:Ex)
inductive Itb where
 | seq (e:Ex) | rng1 (a:Ex) | rng2 (a b:Ex) | enum (e:Ex) | dk (e:Ex)
end
inductive Stm where
 | asg (t:Tg) (e:Ex) | par (i j:Nat) (a b:Ex) | par3 (i j k:Nat) (a b c:Ex) | put (o i e:Ex) | dput (o i e:Ex) | expr (e:Ex) | iff (t:Ex) (a b:List Stm) | loop (g:Tg) (it:Itb) (b:List Stm) | whl (t:Ex) (b:List Stm)
 | ret (e:Ex) | retN | no
noncomputable def sOp:A0Y->S2
 | .Add=>IQ
 | .Sub=>Cg λi j => .int (i - j)
 | .Mult=>Ms
 | .FloorDiv=>IR UJ λi j => .int (i / j)
 | .Mod=>IR (λ_ j=>0<j) λi j => .int (i % j)
 | .Pow=>IR UK λi j => .int (i ^ j.toNat)
 | _=>λ_ _ _ _=>False
noncomputable def BT:CmpOp->S2
 | .Eq=>sEq
 | .NotEq=>sNe
 | .Lt=>Cg λi j => .bl (decide (i<j))
 | .LtE=>Cg λi j => .bl (decide (i<=j))
 | .Gt=>Cg λi j => .bl (decide (j<i))
 | .GtE=>Cg λi j => .bl (decide (j<=i))
 | .In=>sIn false
 | .NotIn=>sIn true
 | .Is=>Mu false
 | .IsNot=>Mu true
def N6:S1
 | .int i,S,Q=>Q (.int (-i)) S
 | _,_,_=>False
noncomputable def N7:SV->Sto->Option Bool
 | .bl b,_=>some b
 | .loc k,S=>match S[k]? with | some (.lst xs)=>some (!xs.isEmpty) | _=>none
 | _,_=>none
noncomputable def TF(w:WE):WT:=λρ S Q=>w ρ S λx S'=>∃ b,N7 x S'=some b/\Q b S'
noncomputable def N8(a b:WE):WE:=λρ S Q=>a ρ S λx S1=>∃ c,x = .bl c/\if c=true then b ρ S1 Q else Q (.bl false) S1
noncomputable def wOr(a b:WE):WE:=λρ S Q=>a ρ S λx S1=>∃ c,x = .bl c/\if c=true then Q (.bl true) S1 else b ρ S1 Q
def Pt(a:WE):WE:=λρ S Q=>a ρ S λx S1=>∃ c,x = .bl c/\Q (.bl (!c)) S1
noncomputable def Dw(a b:WT):WT:=λρ S Q=>a ρ S λc S1=>if c=true then b ρ S1 Q else Q false S1
def IV(a b:WT):WT:=λρ S Q=>a ρ S λc S1=>if c=true then Q true S1 else b ρ S1 Q
def Ji(a:WT):WT:=λρ S Q=>a ρ S λc S1=>Q (!c) S1
noncomputable def Pu(t:WT)(a b:WE):WE:=λρ S Q=>t ρ S λc S1=>if c=true then a ρ S1 Q else b ρ S1 Q
noncomputable def N9(s s':S2)(a b c:WE):WE:=λρ S Q=>a ρ S λx S1=>b ρ S1 λy S2=>s x y S2 λz S3=>∃ k,z = .bl k/\if k=true then c ρ S3 λu S4=>s' y u S4 Q else Q (.bl false) S3
abbrev WO:=EnvS->Sto->(Option Int->Sto->Prop)->Prop
def TH:WO:=λ_ S Q=>Q none S
def NA(w:WE):WO:=λρ S Q=>w ρ S λx S1=>∃ i,x = .int i/\Q (some i) S1
noncomputable def CU(xs:List SV)(lo hi:Option Int):List SV:=(xs.drop (HT.sIx xs.length 0 lo)).take (HT.sIx xs.length xs.length hi - HT.sIx xs.length 0 lo)
noncomputable def L5:SV->Option Int->Option Int->Sto->QE->Prop
 | .loc k,lo,hi,S,Q=>∃ xs,S[k]?=some (.lst xs)/\Q (.loc S.length) (S++[.lst (CU xs lo hi)])
 | .tup xs,lo,hi,S,Q=>Q (.tup (CU xs lo hi)) S
 | _,_,_,_,_=>False
noncomputable def Pv(a:WE)(lo hi:WO):WE:=λρ S Q=>a ρ S λx S1=>lo ρ S1 λl S2=>hi ρ S2 λh S3=>L5 x l h S3 Q
abbrev WI:=EnvS->Sto->((Sto->Prop)->List SV->Sto->Prop)->Prop
noncomputable def keepS:SV->Sto->Sto->Prop
 | .loc k,S,S'=>S'[k]?=S[k]?
 | _,_,_=>True
noncomputable def RP(w:WE):WI:=λρ S R=>w ρ S λx S1=>∃ xs,seqS x S1=some xs/\R (keepS x S1) xs S1
def Bf(lo hi:Int):List SV:=(WN (hi - lo).toNat).map λ(i:Nat) => .int (lo+i)
noncomputable def NB(w:WE):WI:=λρ S R=>w ρ S λx S1=>∃ j,x = .int j/\(-(2 ^ 62)<=j/\j<2 ^ 62)/\R (λ_=>True) (Bf 0 j) S1
noncomputable def NC(w u:WE):WI:=λρ S R=>w ρ S λx S1=>u ρ S1 λy S2=>∃ i j,x = .int i/\y = .int j/\(-(2 ^ 62)<=i/\i<2 ^ 62 /\ -(2 ^ 62)<=j/\j<2 ^ 62)/\R (λ_=>True) (Bf i j) S2
noncomputable def By(xs:List SV):List SV:=(WN xs.length).zipWith (λ(i:Nat) x => .tup [.int i,x]) xs
noncomputable def ND(w:WE):WI:=λρ S R=>w ρ S λx S1=>∃ xs,seqS x S1=some xs/\R (keepS x S1) (By xs) S1
noncomputable def IW(a:WE):WE:=λρ S Q=>a ρ S λx S1=>∃ j,x = .int j/\(-(2 ^ 62)<=j/\j<=100000)/\Q (.loc S1.length) (S1++[.lst (Bf 0 j)])
noncomputable def NE:S1
 | .loc k,S,Q=>∃ xs,S[k]?=some (.lst xs)/\Q (.loc S.length) (S++[.lst xs.reverse])
 | _,_,_=>False
noncomputable def FP(a:WE):WE:=λρ S Q=>a ρ S λx S1=>∃ xs ns,x ≠ .tup xs/\seqS x S1=some xs/\EU xs=some ns/\ns.length<=900/\Q (.int (AD ns).length) S1
noncomputable def FQ(a:WE):WE:=λρ S Q=>a ρ S λx S1=>∃ xs ns,seqS x S1=some xs/\EU xs=some ns/\ns.length<64/\Q (.loc S1.length) (S1++[.lst ((srt (AD ns)).map SV.int)])
noncomputable def Ci(kvs:List (Int×SV))(i:Int):Option SV:=(kvs.find? λp=>decide (p.1=i)).map (·.2)
noncomputable def BF(kvs:List (Int×SV))(i:Int)(x:SV):List (Int×SV):=if (kvs.any λp=>decide (p.1=i))=true then kvs.map (λp=>if p.1=i then (p.1,x) else p) else kvs++[(i,x)]
noncomputable def Cj:SV->Sto->Option (List (Int×SV))
 | .loc k,S=>match S[k]? with | some (.dct kvs)=>some kvs | some (.dcf _ _ kvs)=>some kvs | _=>none
 | _,_=>none
noncomputable def Jj:S2:=λx y S Q=>∃ kvs i v,Cj x S=some kvs/\y = .int i/\Ci kvs i=some v/\Q v S
noncomputable def L6(neg:Bool):S2:=λy x S Q=>∃ kvs i,Cj x S=some kvs/\y = .int i/\Q (.bl (if neg then !(Ci kvs i).isSome else (Ci kvs i).isSome)) S
def GN:S2:=λx y S Q=>∃ xs,x = .tup xs/\y = .tup []/\Q (.bl xs.isEmpty) S
noncomputable def V2(w:WE):WI:=λρ S R=>w ρ S λx S1=>∃ k kvs,x = .loc k/\S1[k]?=some (.dct kvs)/\∀ o ks,R (λS'=>S'[k]?=some (.dcf o ks kvs)) (kvs.map λp => .int p.1) (S1.set k (.dcf o ks kvs))
noncomputable def Jk:SV->SV->SV->Sto->(Sto->Prop)->Prop:=λx y v S Q=>∃ k i kvs,x = .loc k/\y = .int i/\(S[k]?=some (.dct kvs)\/∃ o ks,S[k]?=some (.dcf o ks kvs))/\kvs.length<big/\Q (S.set k (.dct (BF kvs i v)))
noncomputable def wMt(m:MT)(a:WE)(b:WA):WE:=λρ S Q=>a ρ S λx S1=>(∃ k xs,x = .loc k/\S1[k]?=some (.lst xs))/\b ρ S1 λxs S2=>sMt m x xs S2 Q
mutual
noncomputable def wTg:Tg->SV->EnvS->(EnvS->Prop)->Prop
 | .nm i,x,ρ,Q=>Q (ρ.set i (some x))
 | .tup ts,.tup xs,ρ,Q=>BC ts xs ρ Q
 | .tup _,_,_,_=>False
noncomputable def BC:Tgs->List SV->EnvS->(EnvS->Prop)->Prop
 | .nil,[],ρ,Q=>Q ρ
 | .cons t ts,x::xs,ρ,Q=>wTg t x ρ λρ'=>BC ts xs ρ' Q
 | _,_,_,_=>False
end
noncomputable def Ap(k:Nat)(js:List Nat)(ρ:EnvS):EnvS:=WM k none++js.map λj=>(ρ[j]?).join
noncomputable def A7(keep:Sto->Prop)(g:Tg)(t:WT)(e:WE)(ρ:EnvS)(Q:List SV->Sto->Prop):List SV->List SV->Sto->Prop
 | [],ys,S=>keep S/\Q ys S
 | x::xs,ys,S=>keep S/\wTg g x ρ λρ2=>t ρ2 S λb S1=>if b=true then e ρ2 S1 λy S2=>ys.length<big/\A7 keep g t e ρ Q xs (ys++[y]) S2 else A7 keep g t e ρ Q xs ys S1
noncomputable def Jl(k:Nat)(js:List Nat)(g:Tg)(i:WI)(t:WT)(e:WE):WE:=λρ S Q=>i ρ S λkeep xs S1=>A7 keep g t e (Ap k js ρ) (λys S2=>Q (.loc S2.length) (S2++[.lst ys])) xs [] S1
noncomputable def v6(keep:Sto->Prop)(g:Tg)(t:WT)(e:WE)(Q:List SV->Sto->Prop):List SV->EnvS->List SV->Sto->Prop
 | [],_,ys,S=>keep S/\Q ys S
 | x::xs,ρ,ys,S=>keep S/\wTg g x ρ λρ2=>t ρ2 S λb S1=>if b=true then e ρ2 S1 λy S2=>ys.length<big/\v6 keep g t e Q xs ρ2 (ys++[y]) S2 else v6 keep g t e Q xs ρ2 ys S1
noncomputable def v5(keep:Sto->Prop)(g:Tg)(t:WT)(g2:Tg)(i2:WI)(t2:WT)(e:WE)(ρ:EnvS)(Q:List SV->Sto->Prop):List SV->List SV->Sto->Prop
 | [],ys,S=>keep S/\Q ys S
 | x::xs,ys,S=>keep S/\wTg g x ρ λρ2=>t ρ2 S λb S1=>if b=true then i2 ρ2 S1 λkeep2 xs2 S2=>v6 keep2 g2 t2 e (λys' S3=>v5 keep g t g2 i2 t2 e ρ Q xs ys' S3) xs2 ρ2 ys S2 else v5 keep g t g2 i2 t2 e ρ Q xs ys S1
noncomputable def FR(k:Nat)(js:List Nat)(g:Tg)(i:WI)(t:WT)(g2:Tg)(i2:WI)(t2:WT)(e:WE):WE:=λρ S Q=>i ρ S λkeep xs S1=>v5 keep g t g2 i2 t2 e (Ap k js ρ) (λys S2=>Q (.loc S2.length) (S2++[.lst ys])) xs [] S1
noncomputable def w6(keep:Sto->Prop)(g:Tg)(t:WT)(e f:WE)(ρ:EnvS)(Q:List (Int×SV)->Sto->Prop):List SV->List (Int×SV)->Sto->Prop
 | [],kvs,S=>keep S/\Q kvs S
 | x::xs,kvs,S=>keep S/\wTg g x ρ λρ2=>t ρ2 S λb S1=>if b=true then e ρ2 S1 λy S2=>f ρ2 S2 λz S3=>∃ i,y = .int i/\kvs.length<big/\w6 keep g t e f ρ Q xs (BF kvs i z) S3 else w6 keep g t e f ρ Q xs kvs S1
noncomputable def FS(k:Nat)(js:List Nat)(g:Tg)(i:WI)(t:WT)(e f:WE):WE:=λρ S Q=>i ρ S λkeep xs S1=>w6 keep g t e f (Ap k js ρ) (λkvs S2=>Q (.loc S2.length) (S2++[.dct kvs])) xs [] S1
noncomputable def w9(keep:Sto->Prop)(g:Tg)(t:WT)(e:WE)(ρ:EnvS)(Q:List Int->Sto->Prop):List SV->List Int->Sto->Prop
 | [],ns,S=>keep S/\Q ns S
 | x::xs,ns,S=>keep S/\wTg g x ρ λρ2=>t ρ2 S λb S1=>if b=true then e ρ2 S1 λy S2=>∃ i,y = .int i/\ns.length<900/\w9 keep g t e ρ Q xs (ns++[i]) S2 else w9 keep g t e ρ Q xs ns S1
noncomputable def FT(k:Nat)(js:List Nat)(g:Tg)(i:WI)(t:WT)(e:WE):WE:=λρ S Q=>i ρ S λkeep xs S1=>w9 keep g t e (Ap k js ρ) (λns S2=>ns.length<64/\Q (.loc S2.length) (S2++[.lst ((srt (AD ns)).map SV.int)])) xs [] S1
noncomputable def tt1(w:WE):WE×WT:=(w,TF w)
def wBl(w:WE):WT:=λρ S Q=>w ρ S λx S'=>∃ b,x = .bl b/\Q b S'
def tt2(w:WE):WE×WT:=(w,wBl w)
def V3:WT:=λ_ S Q=>Q true S
mutual
noncomputable def wEx(Δ:Nat->Sn):Ex->WE×WT
 | .var i=>tt1 (Sm i)
 | .c x=>tt1 (wC x)
 | .op o a b=>tt1 (w2 (sOp o) (wEx Δ a).1 (wEx Δ b).1)
 | .neg a=>tt1 (w1 N6 (wEx Δ a).1)
 | .cmp o a b=>tt2 (w2 (BT o) (wEx Δ a).1 (wEx Δ b).1)
 | .chn o p a b c=>tt2 (N9 (BT o) (BT p) (wEx Δ a).1 (wEx Δ b).1 (wEx Δ c).1)
 | .and a b=>(N8 (wEx Δ a).1 (wEx Δ b).1,Dw (wEx Δ a).2 (wEx Δ b).2)
 | .or a b=>(wOr (wEx Δ a).1 (wEx Δ b).1,IV (wEx Δ a).2 (wEx Δ b).2)
 | .not a=>(Pt (wEx Δ a).1,Ji (wEx Δ a).2)
 | .ife t a b=>(Pu (wEx Δ t).2 (wEx Δ a).1 (wEx Δ b).1,λ_ _ _=>False)
 | .tup es=>tt1 (wn Mq (D6 Δ es))
 | .lst es=>tt1 (wn PY (D6 Δ es))
 | .ix a b=>tt1 (w2 sIx (wEx Δ a).1 (wEx Δ b).1)
 | .slc a lo hi=>tt1 (Pv (wEx Δ a).1 (wEo Δ lo).1 (wEo Δ hi).1)
 | .call f es=>tt1 (wn (Δ f) (D6 Δ es))
 | .bi b es=>tt1 (wn (sBi b) (D6 Δ es))
 | .mt m a es=>tt1 (wMt m (wEx Δ a).1 (D6 Δ es))
 | .comp own _ js g it t e=>tt1 (Jl own.length js g (FU Δ it) (wEo Δ t).2 (wEx Δ e).1)
 | .comp2 own _ js g it t g2 it2 t2 e=>tt1 (FR own.length js g (FU Δ it) (wEo Δ t).2 g2 (FU Δ it2) (wEo Δ t2).2 (wEx Δ e).1)
 | .tyc t=>tt1 (wC (.ty t))
 | .lrng1 a=>tt1 (IW (wEx Δ a).1)
 | .rev a=>tt1 (w1 NE (wEx Δ a).1)
 | .lenset a=>tt1 (FP (wEx Δ a).1)
 | .srtset a=>tt1 (FQ (wEx Δ a).1)
 | .dcomp own _ js g it t e f=>tt1 (FS own.length js g (FU Δ it) (wEo Δ t).2 (wEx Δ e).1 (wEx Δ f).1)
 | .srtsc own _ js g it t e=>tt1 (FT own.length js g (FU Δ it) (wEo Δ t).2 (wEx Δ e).1)
 | .eqt0 a b=>tt2 (w2 GN (wEx Δ a).1 (wEx Δ b).1)
 | .dget a b=>tt1 (w2 Jj (wEx Δ a).1 (wEx Δ b).1)
 | .din n a b=>tt2 (w2 (L6 n) (wEx Δ a).1 (wEx Δ b).1)
 | .no=>(λ_ _ _=>False,λ_ _ _=>False)
noncomputable def D6(Δ:Nat->Sn):Exs->WA
 | .nil=>Et
 | .cons e es=>Dt (wEx Δ e).1 (D6 Δ es)
noncomputable def wEo(Δ:Nat->Sn):Eo->WO×WT
 | .no=>(TH,V3)
 | .yes e=>(NA (wEx Δ e).1,(wEx Δ e).2)
noncomputable def FU(Δ:Nat->Sn):Itb->WI
 | .seq e=>RP (wEx Δ e).1
 | .rng1 a=>NB (wEx Δ a).1
 | .rng2 a b=>NC (wEx Δ a).1 (wEx Δ b).1
 | .enum e=>ND (wEx Δ e).1
 | .dk e=>V2 (wEx Δ e).1
end
structure EndsS where
 nx:EnvS->Sto->Prop
 rt:SV->Sto->Prop
 bk:EnvS->Sto->Prop:=λ_ _=>False
 ct:EnvS->Sto->Prop:=λ_ _=>False
abbrev WS:=EndsS->EnvS->Sto->Prop
noncomputable def L7:SV->SV->SV->Sto->(Sto->Prop)->Prop
 | .loc k,.int i,v,S,Q=>∃ xs j,S[k]?=some (.lst xs)/\ixN xs.length i=some j/\Q (S.set k (.lst (xs.set j v)))
 | _,_,_,_,_=>False
noncomputable def AQ(keep:Sto->Prop)(g:Tg)(b:WS)(D:EndsS):List SV->EnvS->Sto->Prop
 | [],ρ,S=>keep S/\D.nx ρ S
 | x::xs,ρ,S=>keep S/\wTg g x ρ λρ2=>b {D with nx:=AQ keep g b D xs,ct:=AQ keep g b D xs,bk:=D.nx} ρ2 S
noncomputable def TJ(t:WT)(b:WS):WS:=λD ρ S=>∃ W:Nat->EnvS->Sto->Prop,(∃ m,W m ρ S)/\∀ m ρ S,W m ρ S->t ρ S λc S1=>if c=true then
 b {D with nx:=λρ' S'=>∃ m',m'<m/\W m' ρ' S',ct:=λρ' S'=>∃ m',m'<m/\W m' ρ' S',bk:=D.nx} ρ S1 else D.nx ρ S1
mutual
noncomputable def wSt(Δ:Nat->Sn):Stm->WS
 | .asg t e=>λD ρ S=>(wEx Δ e).1 ρ S λx S1=>wTg t x ρ λρ'=>D.nx ρ' S1
 | .par i j a b=>λD ρ S=>(wEx Δ a).1 ρ S λx S1=>(wEx Δ b).1 ρ S1 λy S2=>D.nx ((ρ.set i (some x)).set j (some y)) S2
 | .par3 i j k a b c=>λD ρ S=>(wEx Δ a).1 ρ S λx S1=>(wEx Δ b).1 ρ S1 λy S2=>(wEx Δ c).1 ρ S2 λz S3=>D.nx (((ρ.set i (some x)).set j (some y)).set k (some z)) S3
 | .put o i e=>λD ρ S=>(wEx Δ e).1 ρ S λv S1=>(wEx Δ o).1 ρ S1 λx S2=>(wEx Δ i).1 ρ S2 λy S3=>L7 x y v S3 λS4=>D.nx ρ S4
 | .dput o i e=>λD ρ S=>(wEx Δ e).1 ρ S λv S1=>(wEx Δ o).1 ρ S1 λx S2=>(wEx Δ i).1 ρ S2 λy S3=>Jk x y v S3 λS4=>D.nx ρ S4
 | .expr e=>λD ρ S=>(wEx Δ e).1 ρ S λ_ S1=>D.nx ρ S1
 | .iff t a b=>λD ρ S=>(wEx Δ t).2 ρ S λc S1=>if c=true then wSs Δ a D ρ S1 else wSs Δ b D ρ S1
 | .loop g it b=>λD ρ S=>FU Δ it ρ S λkeep xs S1=>AQ keep g (wSs Δ b) D xs ρ S1
 | .whl t b=>TJ (wEx Δ t).2 (wSs Δ b)
 | .ret e=>λD ρ S=>(wEx Δ e).1 ρ S D.rt
 | .retN=>λD _ S=>D.rt .non S
 | .no=>λ_ _ _=>False
noncomputable def wSs(Δ:Nat->Sn):List Stm->WS
 | []=>λD ρ S=>D.nx ρ S
 | s::ss=>λD ρ S=>wSt Δ s {D with nx:=wSs Δ ss D} ρ S
end
theorem A9{α:Type}{P:Prop}{x:α}(h:(none:Option α)=some x):P:=nomatch h
noncomputable def AJ(scope sc:Zu):Zu:={scope with names:=scope.names.map λ(n,k)=>if (k == .free&&sc.kind == .function&&sc.names.lookup n == some .cell) then (n,.cell) else (n,k)}
def e8:Expr->Bool
 | .Starred ..=>false
 | _=>true
theorem l6{e:Expr}{es:List Expr}{env:Env}(h:e8 e=true):Zp (e::es) env=(false,eval e env)::Zp es env:=by
 cases e<;>first | rfl | cases h
theorem Ck{env:Env}{pos:Pos}:∀{es:List Expr},es.all e8=true->(backTo pos (Zp es env)).any (·.1)=false
 | [],_=>rfl
 | e::es,h=>by
   rw[XW,W6]at h;rw[l6 h.1];exact Ck (es:=es) h.2
theorem Ev{env:Env}{pos:Pos}:∀{es:List Expr},es.all e8=true->(backTo pos (Zp es env)).all (λx=>!x.1)=true
 | [],_=>rfl
 | e::es,h=>by
   rw[XW,W6]at h;rw[l6 h.1];exact Ev (es:=es) h.2
noncomputable def glo(sc:Zu)(x:Str):Bool:=sc.names.lookup x == some .globalImplicit&&!(x == ("__name__":Str))&&!(x == ("__debug__":Str))
noncomputable def vis(sc:Zu)(x:Str):Bool:=sc.names.lookup x == some .local||sc.names.lookup x == some .cell||sc.names.lookup x == some .free
noncomputable def loc(sc:Zu)(x:Str):Bool:=sc.names.lookup x == some .local||sc.names.lookup x == some .cell
noncomputable def TK:SV->Const->Bool
 | .non,.none=>true
 | .bl a,.bool b=>a == b
 | .int i,.int j=>decide (i=j)
 | .str x,.str y=>decide (x=y)
 | _,_=>false
def Ak:Expr->Bool
 | .Slice ..=>false
 | _=>true
def r6:Expr->Bool
 | .Set ..=>false
 | _=>true
noncomputable def NF:Expr->Bool
 | .UnaryOp .Not _ _=>false
 | .BoolOp ..=>false
 | .IfExp ..=>false
 | .Compare ..=>false
 | _=>true
def DW:Expr->Bool
 | .Call (.Name _ _) [] [] _=>false
 | _=>true
def Ey:Expr->Option Str
 | .Name x _=>some x
 | _=>none
def IY:Expr->Option Const
 | .Constant k _ _=>some k
 | _=>none
noncomputable def V4:Expr->Option (Expr×A0Y×Expr)
 | .BinOp a o b _=>some (a,o,b)
 | _=>none
def vUn:Expr->Option (UnaryOp×Expr)
 | .UnaryOp o a _=>some (o,a)
 | _=>none
noncomputable def NG:Expr->Option (Expr×List CmpOp×List Expr)
 | .Compare a os bs _=>some (a,os,bs)
 | _=>none
noncomputable def NH:Expr->Option (BoolOp×List Expr×Pos)
 | .BoolOp o vs p=>some (o,vs,p)
 | _=>none
def V5:Expr->Option (Expr×Expr×Expr)
 | .IfExp t a b _=>some (t,a,b)
 | _=>none
def EV:Expr->Option (List Expr)
 | .Tuple es _ _=>some es
 | _=>none
def V6:Expr->Option (List Expr)
 | .List es _=>some es
 | _=>none
def IZ:Expr->Option (Expr×Expr)
 | .Subscript a b _=>some (a,b)
 | _=>none
noncomputable def TL:Expr->Option (Option Expr×Option Expr×Option Expr)
 | .Slice l h s _=>some (l,h,s)
 | _=>none
noncomputable def GO:Expr->Option (Expr×List Expr×List Keyword)
 | .Call f as ks _=>some (f,as,ks)
 | _=>none
def Ia:Expr->Nat
 | .Call _ _ _ p=>p.line
 | _=>0
noncomputable def NI:Expr->Option (Expr×Str×Nat)
 | .Attribute o n p=>some (o,n,p.endLine)
 | _=>none
noncomputable def GP:Expr->Option (Expr×List A0t×Zu)
 | .ListComp e gs s _=>some (e,gs,s)
 | _=>none
noncomputable def Ib:Expr->Option (Expr×Expr×List A0t×Zu)
 | .DictComp e f gs s _=>some (e,f,gs,s)
 | _=>none
noncomputable def NJ:Expr->Option (Expr×List A0t×Zu)
 | .SetComp e gs s _=>some (e,gs,s)
 | _=>none
theorem Ez{r:Expr}{x:Expr×Expr×List A0t×Zu}(h:Ib r=some x):∃ p,r = .DictComp x.1 x.2.1 x.2.2.1 x.2.2.2 p:=by cases r<;>first | (cases h;exact⟨_,rfl⟩) | exact A9 h
theorem L8{r:Expr}{x:Expr×List A0t×Zu}(h:NJ r=some x):∃ p,r = .SetComp x.1 x.2.1 x.2.2 p:=by cases r<;>first | (cases h;exact⟨_,rfl⟩) | exact A9 h
theorem Cl{r:Expr}{x:Str}(h:Ey r=some x):∃ p,r = .Name x p:=by cases r<;>first | (cases h;exact⟨_,rfl⟩) | exact A9 h
theorem F0{r:Expr}{x:Const}(h:IY r=some x):∃ j p,r = .Constant x j p:=by cases r<;>first | (cases h;exact⟨_,_,rfl⟩) | exact A9 h
theorem Pw{r:Expr}{x:Expr×A0Y×Expr}(h:V4 r=some x):∃ p,r = .BinOp x.1 x.2.1 x.2.2 p:=by cases r<;>first | (cases h;exact⟨_,rfl⟩) | exact A9 h
theorem Ic{r:Expr}{x:UnaryOp×Expr}(h:vUn r=some x):∃ p,r = .UnaryOp x.1 x.2 p:=by cases r<;>first | (cases h;exact⟨_,rfl⟩) | exact A9 h
theorem DX{r:Expr}{x:Expr×List CmpOp×List Expr}(h:NG r=some x):∃ p,r = .Compare x.1 x.2.1 x.2.2 p:=by cases r<;>first | (cases h;exact⟨_,rfl⟩) | exact A9 h
theorem GQ{r:Expr}{x:BoolOp×List Expr×Pos}(h:NH r=some x):r = .BoolOp x.1 x.2.1 x.2.2:=by cases r<;>first | (cases h;exact rfl) | exact A9 h
theorem Px{r:Expr}{x:Expr×Expr×Expr}(h:V5 r=some x):∃ p,r = .IfExp x.1 x.2.1 x.2.2 p:=by cases r<;>first | (cases h;exact⟨_,rfl⟩) | exact A9 h
theorem BG{r:Expr}{x:List Expr}(h:EV r=some x):∃ j p,r = .Tuple x j p:=by cases r<;>first | (cases h;exact⟨_,_,rfl⟩) | exact A9 h
theorem Py{r:Expr}{x:List Expr}(h:V6 r=some x):∃ p,r = .List x p:=by cases r<;>first | (cases h;exact⟨_,rfl⟩) | exact A9 h
theorem CG{r:Expr}{x:Expr×Expr}(h:IZ r=some x):∃ p,r = .Subscript x.1 x.2 p:=by cases r<;>first | (cases h;exact⟨_,rfl⟩) | exact A9 h
theorem Jm{r:Expr}{x:Option Expr×Option Expr×Option Expr}(h:TL r=some x):∃ p,r = .Slice x.1 x.2.1 x.2.2 p:=by cases r<;>first | (cases h;exact⟨_,rfl⟩) | exact A9 h
theorem GR{r:Expr}{x:Expr×List Expr×List Keyword}(h:GO r=some x):∃ p,r = .Call x.1 x.2.1 x.2.2 p/\Ia r=p.line:=by cases r<;>first | (cases h;exact⟨_,rfl,rfl⟩) | exact A9 h
theorem NK{r:Expr}{x:Expr×Str×Nat}(h:NI r=some x):∃ p,r = .Attribute x.1 x.2.1 p/\x.2.2=p.endLine:=by cases r<;>first | (cases h;exact⟨_,rfl,rfl⟩) | exact A9 h
theorem Cn{r:Expr}{x:Expr×List A0t×Zu}(h:GP r=some x):∃ p,r = .ListComp x.1 x.2.1 x.2.2 p:=by cases r<;>first | (cases h;exact⟨_,rfl⟩) | exact A9 h
theorem a6{α:Type}{o:Option α}{p:α->Bool}(h:o.any p=true):∃ x,o=some x/\p x=true:=by
 cases o with
 | none=>cases h
 | some x=>exact⟨x,rfl,h⟩
theorem BH{α:Type}{l:List α}{x:α}(h:l.head?=some x):l=x::l.tail:=by
 cases l with
 | nil=>cases h
 | cons y r=>cases h;rfl
def l1{α:Type}:List α->Option α
 | [x]=>some x
 | _=>none
def l2{α:Type}:List α->Option (α×α)
 | [x,y]=>some (x,y)
 | _=>none
theorem y6{α:Type}{l:List α}{x:α}(h:l1 l=some x):l=[x]:=by
 match l,h with
 | [y],h=>cases h;rfl
theorem F1{α:Type}{l:List α}{x:α×α}(h:l2 l=some x):l=[x.1,x.2]:=by
 match l,h with
 | [y,z],h=>cases h;rfl
def l3{α:Type}:List α->Option (α×α×α)
 | [x,y,z]=>some (x,y,z)
 | _=>none
theorem RQ{α:Type}{l:List α}{x:α×α×α}(h:l3 l=some x):l=[x.1,x.2.1,x.2.2]:=by
 match l,h with
 | [y,z,w],h=>cases h;rfl
noncomputable def vFn(r:Expr):Option (Str×List Expr):=(GO r).bind λc=>if c.2.2.isEmpty then (Ey c.1).map λx=>(x,c.2.1) else none
theorem Aq{r:Expr}{x:Str×List Expr}(h:vFn r=some x):∃ p q,r = .Call (.Name x.1 p) x.2 [] q:=by
 unfold vFn at h;cases hc:GO r with
 | none=>rw[hc]at h;cases h
 | some c=>
   rw[hc]at h;obtain⟨q,e,_⟩:=GR hc;simp only[Yd]at h;by_cases hk:c.2.2.isEmpty=true
   ·rw[iP hk]at h;cases hn:Ey c.1 with
    | none=>rw[hn]at h;cases h
    | some y=>
      rw[hn]at h;cases h;obtain⟨p,ep⟩:=Cl hn;rw[e,ep,XF.mp hk];exact⟨p,q,rfl⟩
   ·rw[iG hk]at h;cases h
noncomputable def vMt(r:Expr):Option (Expr×Str×List Expr):=(GO r).bind λc=>if c.2.2.isEmpty then (NI c.1).bind λa=>if a.2.2 == Ia r then some (a.1,a.2.1,c.2.1) else none else none
theorem TM{r:Expr}{x:Expr×Str×List Expr}(h:vMt r=some x):∃ ap cp,r = .Call (.Attribute x.1 x.2.1 ap) x.2.2 [] cp/\(ap.endLine == cp.line)=true:=by
 unfold vMt at h;cases hc:GO r with
 | none=>rw[hc]at h;cases h
 | some c=>
   rw[hc]at h;obtain⟨q,e,el⟩:=GR hc;simp only[Yd]at h;by_cases hk:c.2.2.isEmpty=true
   ·rw[iP hk]at h;cases hn:NI c.1 with
    | none=>rw[hn]at h;cases h
    | some y=>
      rw[hn]at h;simp only[Yd]at h;obtain⟨p,ep,el2⟩:=NK hn;by_cases hl:(y.2.2 == Ia r)=true
      ·rw[iP hl]at h;cases h;refine⟨p,q,?_,?_⟩
       ·rw[e,ep,XF.mp hk]
       ·rw[<-el2,<-el];exact hl
      ·rw[iG hl]at h;cases h
   ·rw[iG hk]at h;cases h
mutual
noncomputable def AV(k:Nat)(N:List Str)(sc:Zu):Tg->Expr->Bool
 | .nm i,r=>(Ey r).any λx=>decide (i<k)&&decide (N[i]?=some x)&&loc sc x
 | .tup ts,r=>(EV r).any λes=>B7 k N sc ts es
noncomputable def B7(k:Nat)(N:List Str)(sc:Zu):Tgs->List Expr->Bool
 | .nil,r=>r.isEmpty
 | .cons t ts,r=>(r.head?).any λe=>AV k N sc t e&&e8 e&&B7 k N sc ts r.tail
end
noncomputable def nmB(N:List Str)(sc:Zu)(i:Nat)(x:Str):Bool:=decide (N[i]?=some x)&&vis sc x&&!(x == ("__debug__":Str))&&!(x == ("__classdict__":Str))
mutual
noncomputable def j5(T:List Str)(N:List Str)(sc:Zu):Ex->Expr->Bool
 | .var i,r=>(Ey r).any λx=>nmB N sc i x
 | .c x,r=>(IY r).any λk=>TK x k
 | .op o a b,r=>(V4 r).any λv=>decide (o=v.2.1)&&j5 T N sc a v.1&&j5 T N sc b v.2.2
 | .neg a,r=>(vUn r).any λv=>decide (v.1 = .USub)&&j5 T N sc a v.2
 | .cmp o a b,r=>(NG r).any λv=>(l1 v.2.2).any λrb=>decide (v.2.1=[o])&&j5 T N sc a v.1&&j5 T N sc b rb&&r6 rb
 | .chn o p a b c,r=>(NG r).any λv=>(l2 v.2.2).any λrs=>decide (v.2.1=[o,p])&&j5 T N sc a v.1&&j5 T N sc b rs.1&&j5 T N sc c rs.2&&r6 rs.2
 | .and a b,r=>(NH r).any λv=>decide (v.1 = .And)&&(v.2.1.head?).any λx=>j5 T N sc a x&&(match l1 v.2.1.tail with | some y=>j5 T N sc b y | none=>decide (2<=v.2.1.tail.length)&&j5 T N sc b (.BoolOp .And v.2.1.tail v.2.2))
 | .or a b,r=>(NH r).any λv=>decide (v.1 = .Or)&&(v.2.1.head?).any λx=>j5 T N sc a x&&(match l1 v.2.1.tail with | some y=>j5 T N sc b y | none=>decide (2<=v.2.1.tail.length)&&j5 T N sc b (.BoolOp .Or v.2.1.tail v.2.2))
 | .not a,r=>(vUn r).any λv=>decide (v.1 = .Not)&&j5 T N sc a v.2
 | .ife t a b,r=>(V5 r).any λv=>j5 T N sc t v.1&&j5 T N sc a v.2.1&&j5 T N sc b v.2.2
 | .tup es,r=>(EV r).any λrs=>BU T N sc es rs
 | .lst es,r=>(V6 r).any λrs=>BU T N sc es rs
 | .ix a b,r=>(IZ r).any λv=>j5 T N sc a v.1&&j5 T N sc b v.2&&Ak v.2
 | .slc a lo hi,r=>(IZ r).any λv=>(TL v.2).any λs=>j5 T N sc a v.1&&NL T N sc lo s.1&&NL T N sc hi s.2.1&&s.2.2.isNone
 | .call f es,r=>(vFn r).any λv=>decide (T[f]?=some v.1)&&glo sc v.1&&BU T N sc es v.2&&!v.2.isEmpty
 | .bi b es,r=>(vFn r).any λv=>decide (b.name=v.1)&&glo sc v.1&&BU T N sc es v.2&&!v.2.isEmpty
 | .mt m a es,r=>(vMt r).any λv=>decide (v.2.1=m.name)&&DW v.1&&decide (v.2.2.length<29)&&j5 T N sc a v.1&&BU T N sc es v.2.2
 | .comp own cn js g it t e,r=>(GP r).any λv=>(l1 v.2.1).any λc=>decide (c.is_async=0)&&j9 sc v.2.2 own cn N js&&AV own.length (own++cn) (AJ v.2.2 sc) g c.target&&Dx T N sc it c.target c.iter&&r6 c.iter&&Bm T (own++cn) (AJ v.2.2 sc) t c.ifs&&j5 T (own++cn) (AJ v.2.2 sc) e v.1
 | .comp2 own cn js g it t g2 it2 t2 e,r=>(GP r).any λv=>(l2 v.2.1).any λc=>decide (c.1.is_async=0)&&decide (c.2.is_async=0)&&j9 sc v.2.2 own cn N js&&AV own.length (own++cn) (AJ v.2.2 sc) g c.1.target&&Dx T N sc it c.1.target c.1.iter&&r6 c.1.iter&&Bm T (own++cn) (AJ v.2.2 sc) t c.1.ifs&&AV own.length (own++cn) (AJ v.2.2 sc) g2 c.2.target&&Dx T (own++cn) (AJ v.2.2 sc) it2 c.2.target c.2.iter&&r6 c.2.iter&&Bm T (own++cn) (AJ v.2.2 sc) t2 c.2.ifs&&j5 T (own++cn) (AJ v.2.2 sc) e v.1
 | .tyc t,r=>(Ey r).any λx=>decide (x=Str.ofString t.nm)&&glo sc x&&decide (t ≠ .none)
 | .lrng1 a,r=>(vFn r).any λv=>(l1 v.2).any λz=>(vFn z).any λu=>(l1 u.2).any λra=>decide (v.1=("list":Str))&&decide (u.1=("range":Str))&&glo sc v.1&&glo sc u.1&&j5 T N sc a ra&&e8 ra
 | .rev a,r=>(IZ r).any λv=>(TL v.2).any λs=>s.1.isNone&&s.2.1.isNone&&s.2.2.any λst=>(vUn st).any λu=>decide (u.1 = .USub)&&(IY u.2).any λc=>decide (c = .int 1)&&j5 T N sc a v.1
 | .lenset a,r=>(vFn r).any λv=>(l1 v.2).any λz=>(vFn z).any λu=>(l1 u.2).any λra=>decide (v.1=("len":Str))&&decide (u.1=("set":Str))&&glo sc v.1&&glo sc u.1&&j5 T N sc a ra&&e8 ra
 | .srtset a,r=>(vFn r).any λv=>(l1 v.2).any λz=>(vFn z).any λu=>(l1 u.2).any λra=>decide (v.1=("sorted":Str))&&decide (u.1=("set":Str))&&glo sc v.1&&glo sc u.1&&j5 T N sc a ra&&e8 ra
 | .dcomp own cn js g it t e f,r=>(Ib r).any λv=>(l1 v.2.2.1).any λc=>decide (c.is_async=0)&&j9 sc v.2.2.2 own cn N js&&AV own.length (own++cn) (AJ v.2.2.2 sc) g c.target&&Dx T N sc it c.target c.iter&&r6 c.iter&&Bm T (own++cn) (AJ v.2.2.2 sc) t c.ifs&&j5 T (own++cn) (AJ v.2.2.2 sc) e v.1&&j5 T (own++cn) (AJ v.2.2.2 sc) f v.2.1
 | .srtsc own cn js g it t e,r=>(vFn r).any λu=>(l1 u.2).any λz=>(NJ z).any λv=>(l1 v.2.1).any λc=>decide (u.1=("sorted":Str))&&glo sc u.1&&decide (c.is_async=0)&&j9 sc v.2.2 own cn N js&&AV own.length (own++cn) (AJ v.2.2 sc) g c.target&&Dx T N sc it c.target c.iter&&r6 c.iter&&Bm T (own++cn) (AJ v.2.2 sc) t c.ifs&&j5 T (own++cn) (AJ v.2.2 sc) e v.1
 | .eqt0 a b,r=>(NG r).any λv=>(l1 v.2.2).any λrb=>decide (v.2.1=[.Eq])&&j5 T N sc a v.1&&j5 T N sc b rb&&r6 rb
 | .dget a b,r=>(IZ r).any λv=>j5 T N sc a v.1&&j5 T N sc b v.2&&Ak v.2
 | .din n a b,r=>(NG r).any λv=>(l1 v.2.2).any λrb=>decide (v.2.1=[if n then .NotIn else .In])&&j5 T N sc a v.1&&j5 T N sc b rb&&r6 rb
 | .no,_=>true
noncomputable def BU(T:List Str)(N:List Str)(sc:Zu):Exs->List Expr->Bool
 | .nil,r=>r.isEmpty
 | .cons e es,r=>(r.head?).any λx=>j5 T N sc e x&&e8 x&&BU T N sc es r.tail
noncomputable def NL(T:List Str)(N:List Str)(sc:Zu):Eo->Option Expr->Bool
 | .no,r=>r.isNone
 | .yes e,r=>r.any λx=>j5 T N sc e x
noncomputable def Bm(T:List Str)(N:List Str)(sc:Zu):Eo->List Expr->Bool
 | .no,r=>r.isEmpty
 | .yes e,r=>(l1 r).any λx=>j5 T N sc e x
noncomputable def Dx(T:List Str)(N:List Str)(sc:Zu):Itb->Expr->Expr->Bool
 | .seq e,_,r=>j5 T N sc e r
 | .rng1 a,_,r=>(vFn r).any λv=>(l1 v.2).any λra=>decide (v.1=("range":Str))&&glo sc v.1&&j5 T N sc a ra&&e8 ra
 | .rng2 a b,_,r=>(vFn r).any λv=>(l2 v.2).any λra=>decide (v.1=("range":Str))&&glo sc v.1&&j5 T N sc a ra.1&&e8 ra.1&&j5 T N sc b ra.2&&e8 ra.2
 | .enum e,tg,r=>(EV tg).isSome&&(vFn r).any λv=>(l1 v.2).any λa=>decide (v.1=("enumerate":Str))&&glo sc v.1&&j5 T N sc e a&&e8 a
 | .dk e,_,r=>j5 T N sc e r
end
noncomputable def spS(K:W5)(w:Sn):Sp:=λvs H Q _=>∃ as S xs,Ok K as H S/\RlAll K as H vs xs/\w xs S (Post K as H Q)
structure Cal(P:Zo)(w:Zq)(K:W5)(mg:Str->Option Zh)(base:Heap)(k:Nat)(x:Str)(ps:List Str)(sp:Sp):Prop where
 ex:∃ f fd,FnOk P w K mg base CX0 k f fd ps sp/\mg x=some (.ref f)/\PySem.W.keepIn K (.ref f)=true/\Binds K fd ps []
structure Cok(T:List Str)(Δ:Nat->Sn)(X:Cx)(k:Nat)(N:List Str)(sc:Zu):Prop where
 hN:X.N=N
 hs:X.env.scope=sc
 nd:N.Nodup
 calm:X.calm=true
 fn:∀ i x,i<k->N[i]?=some x->sc.names.lookup x=some .cell->X.fn x=true
 un:X.A.units+100<cLine
 bl:∀ b:BI,X.mg b.name=none
 rng:X.mg "range"=none
 enm:X.mg "enumerate"=none
 zip:X.mg "zip"=none
 st0:X.mg "set"=none
 dc0:X.mg "dict"=none
 ty:∀ t:TyN,t ≠ .none->X.mg (Str.ofString t.nm)=none
 gd:X.A.guards=some []
 call:∀ f x,T[f]?=some x->∃ k ps,Cal X.prog X.w X.K X.mg X.base k x ps (spS X.K (Δ f))/\Room k X.A
 mono:∀ f,MonoN (Δ f)
structure Good(X:Cx)(r:Expr)(w:WE×WT):Prop where
 pe:PE X r (lift X.K w.1)
 pt:PT X r (liftT X.K w.2)
 m:Mono w.1
 mt:MonoT w.2
 pw:∀ op vs p,r = .BoolOp op vs p->PW X r (liftT X.K w.2)
section
variable{X:Cx}{r:Expr}{w:WE}
theorem MonoT.tru(m:Mono w):MonoT (TF w):=λρ S P P' i h=>m _ _ _ _ (λx S' ⟨b,e,q⟩=>⟨b,e,i _ _ q⟩) h
theorem MonoT.bl(m:Mono w):MonoT (wBl w):=λρ S P P' i h=>m _ _ _ _ (λx S' ⟨b,e,q⟩=>⟨b,e,i _ _ q⟩) h
theorem TN{K:W5}{as:List Zk}{H:Hp}{S:Sto}{x:SV}{v:V}{b:Bool}(ok:Ok K as H S)(r:Rl K as H v x)(e:N7 x S=some b):Ov K v H b:=by
 cases x with
 | bl c=>cases e;rw[rl_bl.mp r];exact rfl
 | loc k=>
   unfold N7 at e;cases hs:S[k]? with
   | none=>simp only[hs]at e;cases e
   | some o=>
     cases o with
     | lst xs=>
       simp only[hs]at e;cases e;obtain⟨a,vs,rfl,_,ha,rr⟩:=A6 ok r hs;refine .inl ⟨vs,SqL.of ha,?_⟩;have:=rr.length;cases vs<;>cases xs<;>first | rfl | (simp at this)
     | iset _=>simp only[hs]at e;cases e
     | dct _=>simp only[hs]at e;cases e
     | dcf _ _ _=>simp only[hs]at e;cases e
 | _=>cases e
theorem EW{env:Env}(h:NF r=true):∀ whole,isTrue r env whole=(do let v <- whole;standAt r.pos;holding [v] (truthy v)):=by
 intro whole;cases r<;>first | rfl | (cases h;done) | (rename_i o _ _;cases o<;>first | rfl | cases h)
theorem Q0{K:W5}(m:Mono w):∀ σ H Q,liftT K (TF w) σ H Q->lift K w σ H λx H'=>∃ k,Ov K x H' k/\Q k H':=by
 rintro σ H Q ⟨as,ρ,S,ok,en,h⟩;exact⟨as,ρ,S,ok,en,m _ _ _ _ (λx S' ⟨b,e,q⟩ as' H' v g ok' r=>⟨b,TN ok' r e,q as' H' g ok'⟩) h⟩
theorem Dy{K:W5}(m:Mono w):∀ σ H Q,liftT K (wBl w) σ H Q->lift K w σ H λx H'=>∃ k,x = .bl k/\Q k H':=by
 rintro σ H Q ⟨as,ρ,S,ok,en,h⟩;exact⟨as,ρ,S,ok,en,m _ _ _ _ (λx S' ⟨b,e,q⟩ as' H' v g ok' r=>⟨b,by subst e;exact rl_bl.mp r,q as' H' g ok'⟩) h⟩
theorem Good.one(hp:PE X r (lift X.K w))(m:Mono w)(h:NF r=true):Good X r (tt1 w) where
 pe:=hp
 pt:=CS _ (MM hp (EW h)) (Q0 m)
 m:=m
 mt := .tru m
 pw:=λop vs p e=>by rw[e]at h;cases h
theorem NM{X:Cx}{r:Expr}:PE X r (lift X.K λ_ _ _=>False):=λ_ _ _ _ _ _ h=>let ⟨_,_,_,_,_,z⟩:=h;z.elim
theorem GS{X:Cx}{r:Expr}:PT X r (liftT X.K λ_ _ _=>False):=λ_ _ _ _ _ _ h=>let ⟨_,_,_,_,_,z⟩:=h;z.elim
theorem NN{X:Cx}{r:Expr}:PW X r (liftT X.K λ_ _ _=>False):=λ_ _ _ _ _ _ _ h=>let ⟨_,_,_,_,_,z⟩:=h;z.elim
theorem Good.never:Good X r (λ_ _ _=>False,λ_ _ _=>False):=⟨NM,GS,λ_ _ _ _ _ h=>h,λ_ _ _ _ _ h=>h,λ_ _ _ _=>NN⟩
end
theorem Jn{o:A0Y}:Mono2 (sOp o):=by
 unfold sOp;split<;>first | exact .add | exact .int0 | exact .mul | exact .int | exact λ_ _ _ _ _ _ h=>h
theorem Al{o:CmpOp}:Mono2 (BT o):=by
 unfold BT;split<;>first | exact .eq | exact .ne | exact .int0 | exact .in' | exact .isN
section
variable{X:Cx}
theorem NO{o:A0Y}{ra rb:Expr}{p:Pos}{wa wb:WE}(ha:PE X ra (lift X.K wa))(hb:PE X rb (lift X.K wb))(ma:Mono wa)(mb:Mono wb):PE X (.BinOp ra o rb p) (lift X.K (w2 (sOp o) wa wb)):=by
 have go:∀{s:S2} {rr:R2},Mono2 s->OpR X (A0r o) rr->Bo X.K s rr->PE X (.BinOp ra o rb p) (lift X.K (w2 s wa wb)):=λms ho sim=>i8 _ (UH ho ha hb) (AO sim ms ma mb);have no:PE X (.BinOp ra o rb p) (lift X.K (w2 (λ_ _ _ _=>False) wa wb)):=go (λ_ _ _ _ _ _ h=>h) (rr:=λ_ _ _ _=>False) (λ_ _ _ _ _ _ _ _ _ _ _ _ h=>h.elim) (λ_ _ _ _ _ _ _ _ _ _ _ h=>h);cases o with
 | Add=>exact go .add Pf Pg
 | Sub=>exact go .int0 SG (Bx λ_ _ _ _=>rl_int.mpr rfl)
 | Mult=>exact go .mul (op_mul.or SY) Ph
 | FloorDiv=>exact go .int Ou (FM λ_ _ _ _=>rl_int.mpr rfl)
 | Mod=>exact go .int SH (FM λ_ _ _ _=>rl_int.mpr rfl)
 | Pow=>exact go .int SJ (FM λ_ _ _ _=>rl_int.mpr rfl)
 | _=>exact no
theorem Dz(o:CmpOp)(hu:X.A.units<cLine):∃ rr:R2,OpR X (Zw o) rr/\Bo X.K (BT o) rr:=by
 cases o with
 | Eq=>exact⟨_,op_eq.or (Se hu),Su⟩
 | NotEq=>exact⟨_,op_ne.or (Sf hu),Sv⟩
 | Lt=>exact⟨_,UL,Bx λ_ _ _ _=>rl_bl.mpr rfl⟩
 | LtE=>exact⟨_,UM,Bx λ_ _ _ _=>rl_bl.mpr rfl⟩
 | Gt=>exact⟨_,UN,Bx λ_ _ _ _=>rl_bl.mpr rfl⟩
 | GtE=>exact⟨_,UO,Bx λ_ _ _ _=>rl_bl.mpr rfl⟩
 | Is=>exact⟨_,SL,Pj⟩
 | IsNot=>exact⟨_,op_notN.or Kt,Mx⟩
 | In=>exact⟨_,Sx,Mw⟩
 | NotIn=>exact⟨_,L0,Mw⟩
theorem AR{o:CmpOp}{r:Expr}(h:r6 r=true):A0H o r=false:=by
 cases r<;>first | rfl | cases h
theorem L9{o:CmpOp}{ra rb:Expr}{p:Pos}{wa wb:WE}(hu:X.A.units<cLine)(ha:PE X ra (lift X.K wa))(hb:PE X rb (lift X.K wb))(ma:Mono wa)(mb:Mono wb)(hn:r6 rb=true):Good X (.Compare ra [o] [rb] p) (tt2 (w2 (BT o) wa wb)):=by
 obtain⟨rr,ho,sim⟩:=Dz (X:=X) o hu;have m:Mono (w2 (BT o) wa wb) := .two Al ma mb
 exact{pe:=i8 _ (JN ho ha hb (AR hn)) (AO sim Al ma mb)
       pt:=CS _ (JO ho ha hb (AR hn)) λσ H Q h=>AO sim Al ma mb σ H _ (Dy m σ H Q h)
       m:=m
       mt := .bl m
       pw:=λ_ _ _ e=>by cases e}
theorem GT{o p:CmpOp}{a b c:WE}(ma:Mono a)(mb:Mono b)(mc:Mono c):Mono (N9 (BT o) (BT p) a b c):=λρ S P P' i h=>ma _ _ _ _ (λx S1 h=>mb _ _ _ _ (λy S2 h=>Al _ _ _ _ _ (λz S3 ⟨k,e,q⟩=>⟨k,e,by
 cases k with
 | true=>rw[iP rfl]at q ⊢;exact mc _ _ _ _ (λu S4 h=>Al _ _ _ _ _ i h) q
 | false=>rw[iG WK]at q ⊢;exact i _ _ q⟩) h) h) h
theorem Jo{K:W5}{o p:CmpOp}{r r':R2}{a b c:WE}(s1:Bo K (BT o) r)(s2:Bo K (BT p) r')(ma:Mono a)(mb:Mono b)(mc:Mono c):∀ σ H Q,lift K (N9 (BT o) (BT p) a b c) σ H Q->Hy r r' (lift K a) (lift K b) (lift K c) σ H Q:=by
 rintro σ H Q ⟨as,ρ,S,ok,en,h⟩;refine⟨as,ρ,S,ok,en,ma _ _ _ _ (λx S1 h as1 H1 v g1 ok1 rv=>?_) h⟩;refine⟨as1,ρ,S1,ok1,en.mono g1.pre (g1.ku ok),mb _ _ _ _ (λy S2 h as2 H2 u g2 ok2 ru=>?_) h⟩;refine s1 as2 H2 S2 x y v u _ ok2 (Rl.mono g2.pre (g2.ku ok1) x v rv) ru (Al _ _ _ _ _ (λz S3 ⟨k,e,q⟩ as3 H3 t g3 ok3 rt=>?_) h);subst e;refine⟨k,rl_bl.mp rt,?_⟩;cases k with
 | true=>
   rw[iP rfl]at q ⊢;refine⟨as3,ρ,S3,ok3,(en.mono g1.pre (g1.ku ok)).mono (g2.trans g3).pre ((g2.trans g3).ku ok1),mc _ _ _ _ (λn S4 h as4 H4 m g4 ok4 rm=>?_) q⟩;exact s2 as4 H4 S4 y n u m Q ok4 (Rl.mono (g3.trans g4).pre ((g3.trans g4).ku ok2) y u ru) rm (Al _ _ _ _ _ (λf S5 hf=>hf.mono (((g1.trans g2).trans g3).trans g4)) h)
 | false=>
   rw[iG WK]at q ⊢;exact q as3 H3 _ ((g1.trans g2).trans g3) ok3 (rl_bl.mpr rfl)
theorem LA{o q:CmpOp}{ra rb rc:Expr}{p:Pos}{wa wb wc:WE}(hu:X.A.units<cLine)(ha:PE X ra (lift X.K wa))(hb:PE X rb (lift X.K wb))(hc:PE X rc (lift X.K wc))(ma:Mono wa)(mb:Mono wb)(mc:Mono wc)(hn:r6 rc=true):Good X (.Compare ra [o,q] [rb,rc] p) (tt2 (N9 (BT o) (BT q) wa wb wc)):=by
 obtain⟨r1,ho,sim⟩:=Dz (X:=X) o hu;obtain⟨r2,hq,sim2⟩:=Dz (X:=X) q hu;have m:Mono (N9 (BT o) (BT q) wa wb wc):=GT ma mb mc;have hm:A1U [o,q] [rb,rc]=false:=AR hn
 exact{pe:=i8 _ (MK ho hq ha hb hc hm) (Jo sim sim2 ma mb mc)
       pt:=CS _ (ML ho hq ha hb hc hm) λσ H Q h=>Jo sim sim2 ma mb mc σ H _ (Dy m σ H Q h)
       m:=m
       mt := .bl m
       pw:=λ_ _ _ e=>by cases e}
end
section
variable{K:W5}
theorem i6{c:Bool}{A B A' B':Prop}(ha:A->A')(hb:B->B')(h:if c=true then A else B):if c=true then A' else B':=by
 cases c with
 | true=>rw[iP rfl]at h ⊢;exact ha h
 | false=>rw[iG WK]at h ⊢;exact hb h
theorem Mono.and{a b:WE}(ma:Mono a)(mb:Mono b):Mono (N8 a b):=λρ S P P' i h=>ma _ _ _ _ (λx S1 ⟨c,e,q⟩=>⟨c,e,i6 (mb _ _ _ _ i) (i _ _) q⟩) h
theorem Mono.or{a b:WE}(ma:Mono a)(mb:Mono b):Mono (wOr a b):=λρ S P P' i h=>ma _ _ _ _ (λx S1 ⟨c,e,q⟩=>⟨c,e,i6 (i _ _) (mb _ _ _ _ i) q⟩) h
theorem Mono.not{a:WE}(ma:Mono a):Mono (Pt a):=λρ S P P' i h=>ma _ _ _ _ (λx S1 ⟨c,e,q⟩=>⟨c,e,i _ _ q⟩) h
theorem MonoT.and{a b:WT}(ma:MonoT a)(mb:MonoT b):MonoT (Dw a b):=λρ S P P' i h=>ma _ _ _ _ (λx S1 q=>i6 (mb _ _ _ _ i) (i _ _) q) h
theorem MonoT.or{a b:WT}(ma:MonoT a)(mb:MonoT b):MonoT (IV a b):=λρ S P P' i h=>ma _ _ _ _ (λx S1 q=>i6 (i _ _) (mb _ _ _ _ i) q) h
theorem MonoT.not{a:WT}(ma:MonoT a):MonoT (Ji a):=λρ S P P' i h=>ma _ _ _ _ (λx S1 q=>i _ _ q) h
theorem Mono.ifE{t:WT}{a b:WE}(mt:MonoT t)(ma:Mono a)(mb:Mono b):Mono (Pu t a b):=λρ S P P' i h=>mt _ _ _ _ (λx S1 q=>i6 (ma _ _ _ _ i) (mb _ _ _ _ i) q) h
theorem Post.at{as as1:List Zk}{H H1:Hp}{Q:VK}{x:SV}{S:Sto}{v:V}(h:Post K as H Q x S)(g:Go as H as1 H1)(ok:Ok K as1 H1 S)(r:Rl K as1 H1 v x):Q v H1:=h as1 H1 v g ok r
theorem Jp{a b:WE}(ma:Mono a)(mb:Mono b):∀ σ H Q,lift K (N8 a b) σ H Q->Qz (lift K a) (lift K b) σ H Q:=by
 rintro σ H Q ⟨as,ρ,S,ok,en,h⟩;refine⟨as,ρ,S,ok,en,ma _ _ _ _ (λx S1 ⟨c,e,q⟩ as1 H1 v g1 ok1 rv=>?_) h⟩;subst e;refine⟨c,rl_bl.mp rv,i6 (λq=>?_) (λq=>q.at g1 ok1 (rl_bl.mpr rfl)) q⟩;exact⟨as1,ρ,S1,ok1,en.mono g1.pre (g1.ku ok),mb _ _ _ _ (λy S2 h=>h.mono g1) q⟩
theorem NP{a b:WE}(ma:Mono a)(mb:Mono b):∀ σ H Q,lift K (wOr a b) σ H Q->U4 (lift K a) (lift K b) σ H Q:=by
 rintro σ H Q ⟨as,ρ,S,ok,en,h⟩;refine⟨as,ρ,S,ok,en,ma _ _ _ _ (λx S1 ⟨c,e,q⟩ as1 H1 v g1 ok1 rv=>?_) h⟩;subst e;refine⟨c,rl_bl.mp rv,i6 (λq=>q.at g1 ok1 (rl_bl.mpr rfl)) (λq=>?_) q⟩;exact⟨as1,ρ,S1,ok1,en.mono g1.pre (g1.ku ok),mb _ _ _ _ (λy S2 h=>h.mono g1) q⟩
theorem Q1{a:WE}(ma:Mono a):∀ σ H Q,lift K (Pt a) σ H Q->R0 (lift K a) σ H Q:=by
 rintro σ H Q ⟨as,ρ,S,ok,en,h⟩;refine⟨as,ρ,S,ok,en,ma _ _ _ _ (λx S1 ⟨c,e,q⟩ as1 H1 v g1 ok1 rv=>?_) h⟩;subst e;exact⟨c,rl_bl.mp rv,q.at g1 ok1 (rl_bl.mpr rfl)⟩
theorem PostT.mono{as as1:List Zk}{H H1:Hp}{Q:Bool->Hp->Prop}{x:Bool}{S:Sto}(h:PostT K as H Q x S)(g:Go as H as1 H1):PostT K as1 H1 Q x S:=λas' H' g'=>h as' H' (g.trans g')
theorem GU{a b:WT}(ma:MonoT a)(mb:MonoT b):∀ σ H Q,liftT K (Dw a b) σ H Q->U2 (liftT K a) (liftT K b) σ H Q:=by
 rintro σ H Q ⟨as,ρ,S,ok,en,h⟩;refine⟨as,ρ,S,ok,en,ma _ _ _ _ (λc S1 q as1 H1 g1 ok1=>?_) h⟩;refine i6 (λq=>?_) (λq=>q as1 H1 g1 ok1) q;exact⟨as1,ρ,S1,ok1,en.mono g1.pre (g1.ku ok),mb _ _ _ _ (λy S2 h=>h.mono g1) q⟩
theorem Jq{a b:WT}(ma:MonoT a)(mb:MonoT b):∀ σ H Q,liftT K (IV a b) σ H Q->tOr (liftT K a) (liftT K b) σ H Q:=by
 rintro σ H Q ⟨as,ρ,S,ok,en,h⟩;refine⟨as,ρ,S,ok,en,ma _ _ _ _ (λc S1 q as1 H1 g1 ok1=>?_) h⟩;refine i6 (λq=>q as1 H1 g1 ok1) (λq=>?_) q;exact⟨as1,ρ,S1,ok1,en.mono g1.pre (g1.ku ok),mb _ _ _ _ (λy S2 h=>h.mono g1) q⟩
theorem NQ{a:WT}(ma:MonoT a):∀ σ H Q,liftT K (Ji a) σ H Q->U3 (liftT K a) σ H Q:=by
 rintro σ H Q ⟨as,ρ,S,ok,en,h⟩;exact⟨as,ρ,S,ok,en,ma _ _ _ _ (λc S1 q as1 H1 g1 ok1=>q as1 H1 g1 ok1) h⟩
theorem Q2{t:WT}{a b:WE}(mt:MonoT t)(ma:Mono a)(mb:Mono b):∀ σ H Q,lift K (Pu t a b) σ H Q->tIf (liftT K t) (lift K a) (lift K b) σ H Q:=by
 rintro σ H Q ⟨as,ρ,S,ok,en,h⟩;refine⟨as,ρ,S,ok,en,mt _ _ _ _ (λc S1 q as1 H1 g1 ok1=>?_) h⟩;refine i6 (λq=>?_) (λq=>?_) q
 ·exact⟨as1,ρ,S1,ok1,en.mono g1.pre (g1.ku ok),ma _ _ _ _ (λy S2 h=>h.mono g1) q⟩
 ·exact⟨as1,ρ,S1,ok1,en.mono g1.pre (g1.ku ok),mb _ _ _ _ (λy S2 h=>h.mono g1) q⟩
end
section
variable{X:Cx}
theorem FV{e:Expr}{t:TT}(t':TT)(h:PW X e t)(imp:∀ σ H Q,t' σ H Q->t σ H Q):PW X e t':=λwh pq s σ H Q I hw=>h wh pq s σ H Q I (imp σ H Q hw)
theorem Id{x y:Expr}{p:Pos}{a b:WE×WT}(ha:Good X x a)(hb:Good X y b):Good X (.BoolOp .And [x,y] p) (N8 a.1 b.1,Dw a.2 b.2):=
 have pw:PW X (.BoolOp .And [x,y] p) (liftT X.K (Dw a.2 b.2)):=FV _ (M9 ha.pt (Ol hb.pt)) (GU ha.mt hb.mt)
 {pe:=i8 _ (MB ha.pe (MA hb.pe)) (Jp ha.m hb.m),pt:=pw.pt,m := .and ha.m hb.m,mt := .and ha.mt hb.mt,pw:=λ_ _ _ _=>pw}
theorem Ie{x y z:Expr}{zs:List Expr}{p:Pos}{a b:WE×WT}(ha:Good X x a)(hb:Good X (.BoolOp .And (y::z::zs) p) b):Good X (.BoolOp .And (x::y::z::zs) p) (N8 a.1 b.1,Dw a.2 b.2):=
 have pw:PW X (.BoolOp .And (x::y::z::zs) p) (liftT X.K (Dw a.2 b.2)):=FV _ (M9 ha.pt (hb.pw _ _ _ rfl)) (GU ha.mt hb.mt)
 {pe:=i8 _ (MB ha.pe hb.pe) (Jp ha.m hb.m),pt:=pw.pt,m := .and ha.m hb.m,mt := .and ha.mt hb.mt,pw:=λ_ _ _ _=>pw}
theorem LB{x y:Expr}{p:Pos}{a b:WE×WT}(ha:Good X x a)(hb:Good X y b):Good X (.BoolOp .Or [x,y] p) (wOr a.1 b.1,IV a.2 b.2):=
 have pw:PW X (.BoolOp .Or [x,y] p) (liftT X.K (IV a.2 b.2)):=FV _ (Qy ha.pt (Ru hb.pt)) (Jq ha.mt hb.mt)
 {pe:=i8 _ (R1 ha.pe (MA hb.pe)) (NP ha.m hb.m),pt:=pw.pt,m := .or ha.m hb.m,mt := .or ha.mt hb.mt,pw:=λ_ _ _ _=>pw}
theorem LC{x y z:Expr}{zs:List Expr}{p:Pos}{a b:WE×WT}(ha:Good X x a)(hb:Good X (.BoolOp .Or (y::z::zs) p) b):Good X (.BoolOp .Or (x::y::z::zs) p) (wOr a.1 b.1,IV a.2 b.2):=
 have pw:PW X (.BoolOp .Or (x::y::z::zs) p) (liftT X.K (IV a.2 b.2)):=FV _ (Qy ha.pt (hb.pw _ _ _ rfl)) (Jq ha.mt hb.mt)
 {pe:=i8 _ (R1 ha.pe hb.pe) (NP ha.m hb.m),pt:=pw.pt,m := .or ha.m hb.m,mt := .or ha.mt hb.mt,pw:=λ_ _ _ _=>pw}
theorem LD{x:Expr}{p:Pos}{a:WE×WT}(ha:Good X x a):Good X (.UnaryOp .Not x p) (Pt a.1,Ji a.2) where
 pe:=i8 _ (Rx ha.pe) (Q1 ha.m)
 pt:=CS _ (Rv ha.pt) (NQ ha.mt)
 m := .not ha.m
 mt := .not ha.mt
 pw:=λ_ _ _ e=>by cases e
theorem LF{t x y:Expr}{p:Pos}{c a b:WE×WT}(hc:Good X t c)(ha:Good X x a)(hb:Good X y b):Good X (.IfExp t x y p) (Pu c.2 a.1 b.1,λ_ _ _=>False) where
 pe:=i8 _ (MC hc.pt ha.pe hb.pe) (Q2 hc.mt ha.m hb.m)
 pt:=GS
 m := .ifE hc.mt ha.m hb.m
 mt:=λ_ _ _ _ _ h=>h
 pw:=λ_ _ _ e=>by cases e
theorem TQ{i:Nat}{x:Str}{p:Pos}{N:List Str}{sc:Zu}{T:List Str}{Δ:Nat->Sn}{k:Nat}(C:Cok T Δ X k N sc)(hi:N[i]?=some x)(hv:vis sc x=true)(h1:(x == ("__debug__":Str))=false)(h2:(x == ("__classdict__":Str))=false):PE X (.Name x p) (Oh i):=by
 have hv':Vis X.env.scope x:=by
  rw[C.hs];unfold vis at hv;simp only[Wv,bQ]at hv;rcases hv with(hv | hv) | hv
  ·exact .inl hv
  ·exact .inr (.inl hv)
  ·exact .inr (.inr hv)
 exact Rq (i:=i) (by rw[C.hN];exact hi) hv' h1 h2
theorem Q3{x:SV}{k:Const}{j:Nat}{p:Pos}(h:TK x k=true):Good X (.Constant k j p) (tt1 (wC x)):=by
 refine .one ?_ .c rfl;unfold TK at h;split at h
 ·exact i8 _ Rr (GK λ_ _=>rl_non.mpr rfl)
 ·rw[bQ]at h;subst h;exact i8 _ U1 (GK λ_ _=>rl_bl.mpr rfl)
 ·have h:=of_decide_eq_true h;subst h;exact i8 _ M6 (GK λ_ _=>rl_int.mpr rfl)
 ·have h:=of_decide_eq_true h;subst h;exact i8 _ Rs (GK λ_ _=>rl_str.mpr rfl)
 ·cases h
theorem E1:Es N6:=λx S P P' i h=>by
 unfold N6 at h ⊢;split at h
 ·exact i _ _ h
 ·exact h.elim
theorem LG{x:Expr}{p:Pos}{a:WE×WT}(ha:Good X x a):Good X (.UnaryOp .USub x p) (tt1 (w1 N6 a.1)):=by
 refine .one (i8 _ (R6 MI ha.pe) (Sk (λas H S x v Q ok r h=>?_) E1 ha.m)) (.one E1 ha.m) rfl;unfold N6 at h;split at h
 ·exact⟨_,rl_int.mp r,h.here ok (rl_int.mpr rfl)⟩
 ·exact h.elim
theorem E2{b:Expr}(h:Ak b=true):JU b:=λo i=>by cases b<;>first | rfl | cases h
theorem NR{x y:Expr}{p:Pos}{a b:WE×WT}(ha:Good X x a)(hb:Good X y b)(h:Ak y=true):Good X (.Subscript x y p) (tt1 (w2 sIx a.1 b.1)):=
 .one (i8 _ (UU (ix_list.or SU) ha.pe hb.pe (E2 h)) (AO Sy .ix ha.m hb.m)) (.two .ix ha.m hb.m) rfl
noncomputable def V7(K:W5)(as:List Zk)(H:Hp)(Q:Option Int->Hp->Prop):Option Int->Sto->Prop:=λb S'=>∀ as' H',Go as H as' H'->Ok K as' H' S'->Q b H'
noncomputable def GV(K:W5)(w:WO):St->Hp->(Option Int->Hp->Prop)->Prop:=λσ H Q=>∃ as ρ S,Ok K as H S/\EnvOk K as H σ ρ/\w ρ S (V7 K as H Q)
noncomputable def MonoO(w:WO):Prop:=∀ ρ S (P P':Option Int->Sto->Prop),(∀ x S',P x S'->P' x S')->w ρ S P->w ρ S P'
theorem MonoO.no:MonoO TH:=λ_ _ _ _ i h=>i _ _ h
theorem MonoO.yes{w:WE}(m:Mono w):MonoO (NA w):=λ_ _ _ _ i h=>m _ _ _ _ (λx S1 ⟨k,e,q⟩=>⟨k,e,i _ _ q⟩) h
theorem V8:PO X none (GV X.K TH):=λpq s σ H Q I ⟨as,ρ,S,ok,en,h⟩=>Oy pq s σ H Q I (h as H (Go.refl _ _) ok)
theorem TR{x:Expr}{a:WE×WT}(ha:Good X x a):PO X (some x) (GV X.K (NA a.1)):=λpq s σ H Q I ⟨as,ρ,S,ok,en,h⟩=>
 JR ha.pe pq s σ H Q I ⟨as,ρ,S,ok,en,ha.m _ _ _ _ (λy S1 ⟨k,e,q⟩ as1 H1 v g1 ok1 rv=>⟨k,by subst e;exact rl_int.mp rv,q as1 H1 g1 ok1⟩) h⟩
theorem RlAll.cut{K:W5}{as:List Zk}{H:Hp}{xs:List SV}{vs:List V}(h:RlAll K as H vs xs)(lo hi:Option Int):RlAll K as H (Fz vs lo hi) (CU xs lo hi):=by
 unfold Fz CU;rw[h.length];exact(h.drop _).take _
theorem E3{x:SV}{lo hi:Option Int}{S:Sto}{P P':QE}(i:∀ x S',P x S'->P' x S')(h:L5 x lo hi S P):L5 x lo hi S P':=by
 unfold L5 at h ⊢;split at h
 ·obtain⟨xs,a,b⟩:=h;exact⟨xs,a,i _ _ b⟩
 ·exact i _ _ h
 ·exact h.elim
theorem Q4{K:W5}{as:List Zk}{H:Hp}{S:Sto}{Q:VK}{x:SV}{v:V}{l k:Option Int}(ok:Ok K as H S)(r:Rl K as H v x)(h:L5 x l k S (Post K as H Q)):UX K v l k H Q\/UT K v l k H Q\/Ug K v l k H Q:=by
 cases x with
 | loc j=>
   obtain⟨xs,h1,h2⟩:=h;obtain⟨b,vs,rfl,_,hb,rr⟩:=A6 ok r h1;exact .inl ⟨b,vs,rfl,SqL.of hb,AE ok (rr.cut l k) h2⟩
 | tup xs=>
   obtain⟨b,vs,rfl,hb,rr⟩:=rl_tup.mp r;by_cases hw:HT.sIx vs.length 0 l=0/\HT.sIx vs.length vs.length k=vs.length
   ·refine .inr (.inr ⟨b,vs,rfl,SqT.of hb,hw,?_⟩)
    have e:CU xs l k=xs:=by
     unfold CU;rw[<-rr.length,hw.1,hw.2,rr.length];simp
    have h':Post K as H Q (.tup (CU xs l k)) S:=h;rw[e]at h';exact h'.here ok r
   ·exact .inr (.inl ⟨b,vs,rfl,SqT.of hb,hw,Cf ok (rr.cut l k) h⟩)
 | _=>exact False.elim h
theorem LH{x:Expr}{rl rh:Option Expr}{p p2:Pos}{a:WE×WT}{lo hi:WO}(ha:Good X x a)(hl:PO X rl (GV X.K lo))(hh:PO X rh (GV X.K hi))(ml:MonoO lo)(mh:MonoO hi):Good X (.Subscript x (.Slice rl rh none p2) p) (tt1 (Pv a.1 lo hi)):=by
 refine .one (i8 _ (MP (sl_list.or (sl_tup.or PN)) ha.pe hl hh) ?_) (λρ S P P' i h=>ha.m _ _ _ _ (λx S1 h=>ml _ _ _ _ (λl S2 h=>mh _ _ _ _ (λk S3 h=>E3 i h) h) h) h) rfl;rintro σ H Q ⟨as,ρ,S,ok,en,h⟩;refine⟨as,ρ,S,ok,en,ha.m _ _ _ _ (λx S1 h as1 H1 v g1 ok1 rv=>?_) h⟩;refine⟨as1,ρ,S1,ok1,en.mono g1.pre (g1.ku ok),ml _ _ _ _ (λl S2 h as2 H2 g2 ok2=>?_) h⟩;refine⟨as2,ρ,S2,ok2,(en.mono g1.pre (g1.ku ok)).mono g2.pre (g2.ku ok1),mh _ _ _ _ (λk S3 h as3 H3 g3 ok3=>?_) h⟩;have rv3:=Rl.mono (g2.trans g3).pre ((g2.trans g3).ku ok1) x v rv;have g:=(g1.trans g2).trans g3;exact Q4 ok3 rv3 (E3 (λ_ _ h=>h.mono g) h)
end
end Rf
namespace L2
open PySem PySem.Spec PyProof.Rows
section
variable{prog:Zo}{w:Zq}{A:Zx}{R:Result->Zj->Prop}{I:Zk}{fp wr:List Zk}{G:Array A1c->Array A1c->Prop}{n:Nat}{P:Nat->Zh->Prop}{St:Nat->Zj->Prop}
noncomputable def TupsAt(prog:Zo)(w:Zq)(h:Heap)(n:Nat)(ta:Nat->Zk)(kv:Nat->Key×Zh):Prop:=∀ i,i<n->∃ key,(m8 prog w).is (kv i).1 key=true/\h.IsTuple (ta i) #[key,(kv i).2]
theorem TupsAt.keep{h h':Heap}{ta:Nat->Zk}{kv:Nat->Key×Zh}(t:TupsAt prog w h n ta kv)(k:∀ i o,i<n->h.get? (ta i)=some o->h'.get? (ta i)=some o):TupsAt prog w h' n ta kv:=λi hi=>by
 obtain⟨key,hk,o,ho,r⟩:=t i hi;exact⟨key,hk,o,k i o hi ho,r⟩
end
section
variable{X:Cx}
noncomputable def LJ(K:W5)(te:TE):TE:=λσ H Q=>te σ H λx H1=>∃(p:Zk) (ns:List Int),x = .ref p/\(SqL K H1 p (ns.map V.int)\/SqT K H1 p (ns.map V.int))/\ns.length<64/\∀ l,H1 l=none->Q (.ref l) (upd H1 l (.lst ((srt (AD ns)).map V.int)))
theorem GW{e:Expr}{te:TE}{p1 p2 pos1 pos2:Pos}(hc:X.calm=true)(hl:Gl X "sorted")(hml:X.mg "sorted"=none)(hs:Gl X "set")(hms:X.mg "set"=none)(he:PE X e te)
 (h1:Zp [e] X.env=(false,eval e X.env)::Zp [] X.env:=by rfl)
 (h2:Zp [.Call (.Name "set" p2) [e] [] pos2] X.env=(false,eval (.Call (.Name "set" p2) [e] [] pos2) X.env)::Zp [] X.env:=by rfl)
 (h3:(backTo pos1 (Zp [] X.env)).any (·.1)=false:=by rfl) (h4:(backTo pos2 (Zp [] X.env)).any (·.1)=false:=by rfl):
 PE X (.Call (.Name "sorted" p1) [.Call (.Name "set" p2) [e] [] pos2] [] pos1) (LJ X.K te):=by
 intro pq s σ H Q I h;refine A04 (B5 I hl hml Er ?_ (by decide) (by decide));refine PyProof.Rows.callWith_builtin1 ?_ h2 h3;rw[h2];show Zl _ _ (spliced ((false,eval (.Call (.Name "set" p2) [e] [] pos2) X.env)::backTo pos1 (Zp [] X.env))) _ _ s;refine Calls.spliced_cons ?_;refine A04 (B5 I hs hms b_set ?_ (by decide) (by decide));refine PyProof.Rows.callWith_type1 ?_ h1 h4;rw[h1];show Zl _ _ (spliced ((false,eval e X.env)::backTo pos2 (Zp [] X.env))) _ _ s;refine Calls.spliced_cons (thn (he pq s σ H _ I h) λu s1 ⟨x,H1,I1,rx,p,ns,ex,hq,hb,q1⟩=>Calls.spliced_nil ?_);subst ex;cases rx;cases hq
 case' inl hq=>
  obtain⟨its,r',pl,hz⟩:=I1.list hq;have hlen:=r'.length;rw[W8]at hlen;refine Uk (items:=its.toArray) (ns:=ns) (I1.ok.hd hc) pl.isList (by simpa using AN r') (by simp only[WG];show its.length+1<4096;omega) λh' tk hX hk=>?_
 case' inr hq=>
  obtain⟨its,r',pl,hz⟩:=I1.tuple hq;have hlen:=r'.length;rw[W8]at hlen;refine Sq (items:=its.toArray) (ns:=ns) (I1.ok.hd hc) pl (by simpa using AN r') (by simp only[WG];show its.length+1<4096;omega) λh' tk hX hk=>?_
 all_goals
  refine Calls.spliced_nil ?_;have k1:∀ b o,s1.heap.get? b=some o->h'.get? b=some o:=λb o e=>hk b o (WR e) e;have I2:Inv X pq σ H1 {s1 with heap:=h',toks:=tk}:=I1.kept k1
  have hX:SetX X.prog X.w h' s1.heap.objs.size (AD ns):=by
   have e:its.toArray.size=ns.length:=by rw[WG,hlen]
   rw[e]at hX;exact hX
  refine Ja (s:={s1 with heap:=h',toks:=tk}) (I1.ok.hd hc) hX (YG (A0Q _ _) hb) λh3 tk3 d l out e k3 hz3 hl3 ho3=>?_;refine⟨.ref l,_,(I2.dr d).laid (h':=h3) (a:=l) (o := .lst ((srt (AD ns)).map V.int)) (t':=tk3) k3 hz3 (show ObjOk X.prog X.w _ _ _ (.lst ((srt (AD ns)).map V.int)) from ⟨?_,out.toList,e,CD ho3,by simpa using hl3⟩),rfl,q1 l ((I2.dr d).hok.fresh hz3)⟩;rw[W8,(Ai _).length_eq];exact XY (Ek (Ws (A0Q _ _) (by omega)))
end
end L2
namespace Rf
open PySem L2
structure GoodA(X:Cx)(rs:List Expr)(w:WA):Prop where
 pa:PA X rs (liftA X.K w)
 m:MonoA w
section
variable{X:Cx}
theorem LK:GoodA X [] Et:=⟨PV,.nil⟩
theorem Ig{x:Expr}{xs:List Expr}{a:WE×WT}{b:WA}(ha:Good X x a)(hb:GoodA X xs b)(hs:e8 x=true):GoodA X (x::xs) (Dt a.1 b):=⟨Mp ha.m hb.m ha.pe hb.pa (l6 hs),.cons ha.m hb.m⟩
theorem LL{rs:List Expr}{j:Nat}{p:Pos}{w:WA}(h:GoodA X rs w):Good X (.Tuple rs j p) (tt1 (wn Mq w)) := .one (i8 _ (SQ h.pa) (PZ h.m)) (.n .tup h.m) rfl
theorem LM{rs:List Expr}{p:Pos}{w:WA}(h:GoodA X rs w):Good X (.List rs p) (tt1 (wn PY w)) := .one (i8 _ (SR h.pa) (Pd h.m)) (.n .lst h.m) rfl
theorem NS{K:W5}{s:Sn}{w:WA}(ms:MonoN s)(m:MonoA w):∀ σ H Q,lift K (wn s w) σ H Q->R9 (spS K s) [] E0 (liftA K w) σ H Q:=by
 rintro σ H Q ⟨as,ρ,S,ok,en,h⟩;refine⟨as,ρ,S,ok,en,m _ _ _ _ (λxs S1 hs as1 H1 vs g1 ok1 rv=>?_) h⟩;show spS K s (vs++[]) H1 Q E0;rw[XZ];exact⟨as1,S1,xs,ok1,rv,ms _ _ _ _ (λz S3 hz=>hz.mono g1) hs⟩
theorem Ih{T:List Str}{Δ:Nat->Sn}{k f:Nat}{N:List Str}{sc:Zu}{x:Str}{y:Expr}{ys:List Expr}{p q:Pos}{w:WA}(C:Cok T Δ X k N sc)(hf:T[f]?=some x)(hg:glo sc x=true)(h:GoodA X (y::ys) w)(hy:e8 y=true)(hs:ys.all e8=true):Good X (.Call (.Name x p) (y::ys) [] q) (tt1 (wn (Δ f) w)):=by
 obtain⟨d,ps,hC,hr⟩:=C.call f x hf;obtain⟨fa,fd,F,hm,hk,hb⟩:=hC.ex;unfold glo at hg;simp only[W6,bQ,We]at hg;have gl:Gl X x:=by show X.env.scope.names.lookup x=_;rw[C.hs];exact hg.1.1
 exact .one (i8 _ (Ow F hr gl hm hk hb .nil Ub h.pa hg.2 (l6 hy) (Ck hs)) (NS (C.mono f) h.m)) (.n (C.mono f) h.m) rfl
theorem V9:Zs "abs"=some (.builtin "abs"):=by decide +kernel
theorem VA:Zs "min"=some (.builtin "min"):=by decide +kernel
theorem VB:Zs "max"=some (.builtin "max"):=by decide +kernel
theorem VC:Zs "len"=some (.builtin "len"):=by decide +kernel
theorem VD:Zs "all"=some (.builtin "all"):=by decide +kernel
theorem RS:Zs "int"=some (.type "int"):=by decide +kernel
theorem Ii:Zs "list"=some (.type "list"):=by decide +kernel
theorem VE:Zs "isinstance"=some (.builtin "isinstance"):=by decide +kernel
theorem RT:Zs "str"=some (.type "str"):=by decide +kernel
theorem TU:Zs "bool"=some (.type "bool"):=by decide +kernel
theorem Q5:Zs "range"=some (.type "range"):=by decide +kernel
theorem b_set:Zs "set"=some (.type "set"):=by decide +kernel
theorem Jr:Zs "tuple"=some (.type "tuple"):=by decide +kernel
theorem NT{T:List Str}{Δ:Nat->Sn}{k:Nat}{N:List Str}{sc:Zu}{b:BI}{y:Expr}{ys:List Expr}{p q:Pos}{w:WA}(C:Cok T Δ X k N sc)(hg:glo sc b.name=true)(h:GoodA X (y::ys) w)(hy:e8 y=true)(hs:ys.all e8=true):Good X (.Call (.Name b.name p) (y::ys) [] q) (tt1 (wn (sBi b) w)):=by
 unfold glo at hg;simp only[W6,bQ,We]at hg;have gl:Gl X b.name:=by show X.env.scope.names.lookup b.name=_;rw[C.hs];exact hg.1.1
 have hm:=C.bl b;have e1:=l6 (es:=ys) (env:=X.env) hy;have e2:=Ck (env:=X.env) (pos:=q) hs;refine .one (i8 (t:=tCB (rBi X.K b) (liftA X.K w)) _ ?_ (Ut TD .bi h.m)) (.n .bi h.m) rfl;cases b with
 | len=>exact Af FG gl hm VC h.pa (by decide) hg.2 e1 e2
 | abs=>exact Af MN gl hm V9 h.pa (by decide) hg.2 e1 e2
 | min=>exact Af (Kc C.calm) gl hm VA h.pa (by decide) hg.2 e1 e2
 | max=>exact Af (Kb C.calm) gl hm VB h.pa (by decide) hg.2 e1 e2
 | int=>exact Av Kd gl hm RS h.pa (by decide) hg.2 e1 e2
 | list=>exact Av FH gl hm Ii h.pa (by decide) hg.2 e1 e2
 | tuple=>exact Av ER gl hm Jr h.pa (by decide) hg.2 e1 e2
 | all=>exact Af (Km C.calm) gl hm VD h.pa (by decide) hg.2 e1 e2
 | any=>exact Af (Kz C.calm) gl hm Uq h.pa (by decide) hg.2 e1 e2
 | sorted=>exact Af GD gl hm Me h.pa (by decide) hg.2 e1 e2
 | isi=>exact Af (call_isi1.or Kl) gl hm VE h.pa (by decide) hg.2 e1 e2
 | str=>exact Av (Ks C.gd C.un) gl hm RT h.pa (by decide) hg.2 e1 e2
theorem Mono.mt{m:MT}{a:WE}{b:WA}(ma:Mono a)(mb:MonoA b):Mono (wMt m a b):=λρ S P P' i h=>ma _ _ _ _ (λx S1 ⟨e,h⟩=>⟨e,mb _ _ _ _ (λxs S2 h=>FO _ _ _ _ i h) h⟩) h
theorem AA{ro:Expr}{nm:Str}{env:Env}{wh:Sem Zh}(h:DW ro=true):A0W ro nm env wh=wh:=by
 unfold A0W;split
 ·cases h
 ·rfl
theorem NU{K:W5}{as:List Zk}{H:Hp}{S:Sto}{k:Nat}{v:V}{xs:List SV}(ok:Ok K as H S)(r:Rl K as H v (.loc k))(hs:S[k]?=some (.lst xs)):tyV K "list" v H:=by
 obtain⟨a,vs,rfl,_,h1,_⟩:=A6 ok r hs;exact .inl ⟨rfl,_,SqL.of h1⟩
theorem TV{K:W5}{m:MT}{a:WE}{b:WA}(ma:Mono a)(mb:MonoA b):∀ σ H Q,lift K (wMt m a b) σ H Q->tBM K "list" (rMt m) (lift K a) (liftA K b) σ H Q:=by
 rintro σ H Q ⟨as,ρ,S,ok,en,h⟩;refine⟨as,ρ,S,ok,en,ma _ _ _ _ (λx S1 ⟨⟨j,zs,e,hz⟩,h⟩ as1 H1 v g1 ok1 rv=>?_) h⟩;subst e;refine⟨NU ok1 rv hz,as1,ρ,S1,ok1,en.mono g1.pre (g1.ku ok),mb _ _ _ _ (λxs S2 h as2 H2 vs g2 ok2 rs=>?_) h⟩;exact N1 ok2 (Rl.mono g2.pre (g2.ku ok1) _ v rv) rs (FO _ _ _ _ (λz S3 hz=>hz.mono (g1.trans g2)) h)
theorem Q6{K:W5}{m:MT}{a:WE}(ma:Mono a):∀ σ H Q,lift K (wMt m a Et) σ H Q->SW K "list" (rMt m) (lift K a) σ H Q:=by
 rintro σ H Q ⟨as,ρ,S,ok,en,h⟩;refine⟨as,ρ,S,ok,en,ma _ _ _ _ (λx S1 ⟨⟨j,zs,e,hz⟩,h⟩ as1 H1 v g1 ok1 rv=>?_) h⟩;subst e;exact⟨NU ok1 rv hz,N1 ok1 rv .nil (FO _ _ _ _ (λz S3 hz=>hz.mono g1) h)⟩
theorem MtR.orM{id:String}{r r':V->List V->Hp->VK->Prop}(h:MtM X id r)(h':MtM X id r'):MtR X id (λx xs H Q=>r x xs H Q\/r' x xs H Q):=λpq s σ H x xs v us Q I rx rs q=>q.elim (h pq s σ H x xs v us Q I rx rs) (h' pq s σ H x xs v us Q I rx rs)
theorem NV{m:MT}{ro y:Expr}{ys:List Expr}{ap cp:Pos}{a:WE×WT}{b:WA}(ha:Good X ro a)(hb:GoodA X (y::ys) b)(hn:DW ro=true)(hl:(ap.endLine == cp.line)=true)(hk:(y::ys).length<29)(hy:e8 y=true)(hs:ys.all e8=true):Good X (.Call (.Attribute ro m.name ap) (y::ys) [] cp) (tt1 (wMt m a.1 b)):=by
 have e1:=l6 (es:=ys) (env:=X.env) hy;have e2:=Ck (env:=X.env) (pos:=cp) hs
 have e3:((backTo cp (Zp (y::ys) X.env)).all (λx=>!x.1)&&(backToKw cp (keywordEach [] X.env)).all (λx=>x.1.isSome)
  && decide ((y::ys).length+([]:List Keyword).length+(if ([]:List Keyword).isEmpty then 0 else 1)<30))=true:=by
  rw[Ev (by rw[XW,hy,hs];rfl)];simp only[Bool.true_and,W6,dQ];exact⟨rfl,by show(y::ys).length+0+0<30;omega⟩
 refine .one (i8 (t:=tBM X.K "list" (rMt m) (lift X.K a.1) (liftA X.K b)) _ ?_ (TV ha.m hb.m)) (.mt ha.m hb.m) rfl;cases m with
 | append=>exact GA PySem.F.plainAttrs_list PySem.F.slot_list_append PySem.F.type_list_append CC ha.pe hb.pa (AA hn) e3 hl e1 e2
 | extend=>exact GA PySem.F.plainAttrs_list PySem.F.slot_list_extend PySem.F.type_list_extend Ei ha.pe hb.pa (AA hn) e3 hl e1 e2
 | extT=>exact GA PySem.F.plainAttrs_list PySem.F.slot_list_extend PySem.F.type_list_extend Jf ha.pe hb.pa (AA hn) e3 hl e1 e2
 | pop=>exact GA PySem.F.plainAttrs_list PySem.F.slot_list_pop PySem.F.type_list_pop (MtR.orM MW GB) ha.pe hb.pa (AA hn) e3 hl e1 e2
 | insert=>exact GA PySem.F.plainAttrs_list PySem.F.slot_list_insert PySem.F.type_list_insert El ha.pe hb.pa (AA hn) e3 hl e1 e2
theorem LN{m:MT}{ro:Expr}{ap cp:Pos}{a:WE×WT}(ha:Good X ro a)(hn:DW ro=true)(hl:(ap.endLine == cp.line)=true):Good X (.Call (.Attribute ro m.name ap) [] [] cp) (tt1 (wMt m a.1 Et)):=by
 refine .one (i8 (t:=SW X.K "list" (rMt m) (lift X.K a.1)) _ ?_ (Q6 ha.m)) (.mt ha.m .nil) rfl;cases m with
 | append=>exact Di PySem.F.plainAttrs_list PySem.F.slot_list_append PySem.F.type_list_append CC ha.pe (AA hn) hl
 | extend=>exact Di PySem.F.plainAttrs_list PySem.F.slot_list_extend PySem.F.type_list_extend Ei ha.pe (AA hn) hl
 | extT=>exact Di PySem.F.plainAttrs_list PySem.F.slot_list_extend PySem.F.type_list_extend Jf ha.pe (AA hn) hl
 | pop=>exact Di PySem.F.plainAttrs_list PySem.F.slot_list_pop PySem.F.type_list_pop (MtR.orM MW GB) ha.pe (AA hn) hl
 | insert=>exact Di PySem.F.plainAttrs_list PySem.F.slot_list_insert PySem.F.type_list_insert El ha.pe (AA hn) hl
theorem LO{T:List Str}{Δ:Nat->Sn}{k:Nat}{N:List Str}{sc:Zu}{t:TyN}{p:Pos}(C:Cok T Δ X k N sc)(hg:glo sc (Str.ofString t.nm)=true)(ht:t ≠ .none):Good X (.Name (Str.ofString t.nm) p) (tt1 (wC (.ty t))):=by
 unfold glo at hg;simp only[W6,bQ,We]at hg;have gl:Gl X (Str.ofString t.nm):=by show X.env.scope.names.lookup _=_;rw[C.hs];exact hg.1.1
 have b:Zs (Str.ofString t.nm)=some (.type t.nm):=by cases t<;>first | exact RS | exact TU | exact RT | exact Ii | exact Jr | exact absurd rfl ht
 exact .one (i8 _ (Oj (v := .ty t.nm) gl (C.ty t ht) b rfl (by cases t<;>first | decide | exact absurd rfl ht) hg.2) (GK λ_ _=>rl_ty.mpr rfl)) .c rfl
theorem TW{K:W5}{as:List Zk}{H:Hp}{lo hi:Int}:RlAll K as H (Ko lo (hi - lo).toNat) (Bf lo hi):=by
 unfold Ko Bf
 induction WN (hi - lo).toNat with
 | nil=>exact .nil
 | cons i r ih=>exact .cons (rl_int.mpr rfl) ih
theorem E4{a:WE}(m:Mono a):Mono (IW a):=λρ S P P' i h=>m _ _ _ _ (λx S1 ⟨j,e,z,q⟩=>⟨j,e,z,i _ _ q⟩) h
theorem GX{T:List Str}{Δ:Nat->Sn}{k:Nat}{N:List Str}{sc:Zu}{r:Expr}{p p2 q q2:Pos}{a:WE×WT}(C:Cok T Δ X k N sc)(hg:glo sc "list"=true)(hg2:glo sc "range"=true)(ha:Good X r a)(hs:e8 r=true):Good X (.Call (.Name "list" p) [.Call (.Name "range" p2) [r] [] q2] [] q) (tt1 (IW a.1)):=by
 unfold glo at hg hg2;simp only[W6,bQ,We]at hg hg2;have gl:Gl X "list":=by show X.env.scope.names.lookup ("list":Str)=_;rw[C.hs];exact hg.1.1
 have gr:Gl X "range":=by show X.env.scope.names.lookup ("range":Str)=_;rw[C.hs];exact hg2.1.1
 have e1:=Av (p:=p2) (pos:=q2) Kn gr C.rng Q5 (AF ha.pe Br (l6 hs)) (by decide) hg2.2 (l6 hs) rfl;refine .one (i8 _ (Av (p:=p) (pos:=q) (FI C.calm) gl (C.bl .list) Ii (AF e1 Br rfl) (by decide) hg.2 rfl rfl) ?_) (E4 ha.m) rfl;rintro σ H Q ⟨as,ρ,S,ok,en,h⟩;refine⟨as,ρ,S,ok,en,ha.m _ _ _ _ (λx S1 ⟨j,e,z,q⟩ as1 H1 v g1 ok1 rv=>?_) h⟩;subst e;refine⟨j,by rw[rl_int.mp rv],λp hp=>⟨p,0,j,rfl,f9,by decide,by decide,z.1,by omega,by omega,?_⟩⟩;exact AE (ok1.new hp) TW (q.mono (g1.trans (Go.new hp)))
theorem GY:Es NE:=λx S P P' i h=>by
 unfold NE at h ⊢;split at h
 ·obtain⟨xs,e,h⟩:=h;exact⟨xs,e,i _ _ h⟩
 ·exact h.elim
theorem LP{r:Expr}{j:Nat}{p p2 p3 p4:Pos}{a:WE×WT}(ha:Good X r a):Good X (.Subscript r (.Slice none none (some (.UnaryOp .USub (.Constant (.int 1) j p4) p3)) p2) p) (tt1 (w1 NE a.1)):=by
 refine .one (i8 _ (Sr ha.pe (JR (R6 MI M6))) ?_) (.one GY ha.m) rfl;rintro σ H Q ⟨as,ρ,S,ok,en,h⟩;refine⟨as,ρ,S,ok,en,ha.m _ _ _ _ (λx S1 h as1 H1 v g1 ok1 rv=>?_) h⟩;refine⟨1,rfl,-1,rfl,rfl,?_⟩;cases x with
 | loc k=>
   obtain⟨xs,h1,h2⟩:=h;obtain⟨b,vs,rfl,_,hb,rr⟩:=A6 ok1 rv h1;exact⟨b,vs,rfl,SqL.of hb,AE ok1 rr.rev (h2.mono g1)⟩
 | _=>exact False.elim h
theorem DI{a:WE}(m:Mono a):Mono (FP a):=λρ S P P' i h=>m _ _ _ _ (λx S1 ⟨xs,ns,a,b,c,d,q⟩=>⟨xs,ns,a,b,c,d,i _ _ q⟩) h
theorem DJ{a:WE}(m:Mono a):Mono (FQ a):=λρ S P P' i h=>m _ _ _ _ (λx S1 ⟨xs,ns,b,c,d,q⟩=>⟨xs,ns,b,c,d,i _ _ q⟩) h
theorem FW{T:List Str}{Δ:Nat->Sn}{k:Nat}{N:List Str}{sc:Zu}{r:Expr}{p p2 q q2:Pos}{a:WE×WT}(C:Cok T Δ X k N sc)(hg:glo sc "len"=true)(hg2:glo sc "set"=true)(ha:Good X r a)(hs:e8 r=true):Good X (.Call (.Name "len" p) [.Call (.Name "set" p2) [r] [] q2] [] q) (tt1 (FP a.1)):=by
 unfold glo at hg hg2;simp only[W6,bQ,We]at hg hg2;have gl:Gl X "len":=by show X.env.scope.names.lookup ("len":Str)=_;rw[C.hs];exact hg.1.1
 have gr:Gl X "set":=by show X.env.scope.names.lookup ("set":Str)=_;rw[C.hs];exact hg2.1.1
 refine .one (i8 _ (Ku C.calm gl (C.bl .len) gr C.st0 ha.pe (l6 hs) rfl rfl rfl) ?_) (DI ha.m) rfl;rintro σ H Q ⟨as,ρ,S,ok,en,h⟩;refine⟨as,ρ,S,ok,en,ha.m _ _ _ _ (λx S1 ⟨xs,ns,h0,h1,h2,h3,q⟩ as1 H1 v g1 ok1 rv=>?_) h⟩;obtain⟨a,us,rfl,hq,rr⟩:=Ac ok1 rv h0 h1;rw[DV h2 rr]at hq;exact⟨a,ns,rfl,hq,by unfold A0b;omega,q as1 H1 _ g1 ok1 (rl_int.mpr rfl)⟩
theorem FX{T:List Str}{Δ:Nat->Sn}{k:Nat}{N:List Str}{sc:Zu}{r:Expr}{p p2 q q2:Pos}{a:WE×WT}(C:Cok T Δ X k N sc)(hg:glo sc "sorted"=true)(hg2:glo sc "set"=true)(ha:Good X r a)(hs:e8 r=true):Good X (.Call (.Name "sorted" p) [.Call (.Name "set" p2) [r] [] q2] [] q) (tt1 (FQ a.1)):=by
 unfold glo at hg hg2;simp only[W6,bQ,We]at hg hg2;have gl:Gl X "sorted":=by show X.env.scope.names.lookup ("sorted":Str)=_;rw[C.hs];exact hg.1.1
 have gr:Gl X "set":=by show X.env.scope.names.lookup ("set":Str)=_;rw[C.hs];exact hg2.1.1
 refine .one (i8 _ (GW C.calm gl (C.bl .sorted) gr C.st0 ha.pe (l6 hs) rfl rfl rfl) ?_) (DJ ha.m) rfl;rintro σ H Q ⟨as,ρ,S,ok,en,h⟩;refine⟨as,ρ,S,ok,en,ha.m _ _ _ _ (λx S1 ⟨xs,ns,h1,h2,h3,q⟩ as1 H1 v g1 ok1 rv=>?_) h⟩;obtain⟨a,us,rfl,hq,rr⟩:=Dv ok1 rv h1;rw[DV h2 rr]at hq;exact⟨a,ns,rfl,hq,h3,AE ok1 RlAll.ints (q.mono g1)⟩
end
section
variable{K:W5}{as:List Zk}{H:Hp}{S:Sto}
theorem RlD.length:∀{kvs:List (Int×SV)} {ks:List (Key×V)},RlD K as H ks kvs->ks.length=kvs.length
 | [],_,h=>by rw[show _=[] from h];rfl
 | p::r,_,⟨v,t,e,_,h⟩=>by rw[e,X8,X8,RlD.length h]
theorem RlD.get:∀{kvs:List (Int×SV)} {ks:List (Key×V)} {i:Nat} {p:Int×SV},RlD K as H ks kvs->kvs[i]?=some p->∃ v,ks[i]?=some (.inl p.1,v)
 | q::r,_,0,p,⟨v,t,e,_,_⟩,hp=>by cases hp;subst e;exact⟨v,rfl⟩
 | q::r,_,i+1,p,⟨v,t,e,_,h⟩,hp=>by
   subst e;obtain⟨u,hu⟩:=RlD.get (i:=i) h (show r[i]?=some p from hp);exact⟨u,hu⟩
theorem RlD.val:∀{kvs:List (Int×SV)} {ks:List (Key×V)},RlD K as H ks kvs->∀ i,(∃ x v,Ci kvs i=some x/\Be ks (.inl i)=some v/\Rl K as H v x)\/(Ci kvs i=none/\Be ks (.inl i)=none)
 | [],_,h,i=>by rw[show _=[] from h];exact .inr ⟨rfl,rfl⟩
 | p::r,_,⟨v,t,e,h1,h2⟩,i=>by
   subst e;by_cases hp:p.1=i
   ·refine .inl ⟨p.2,v,?_,?_,h1⟩
    ·unfold Ci;rw[Yh (by simp[hp])];rfl
    ·unfold Be;rw[Yh (by simp[hp])];rfl
   ·have e1:Ci (p::r) i=Ci r i:=by unfold Ci;rw[Yi (by simp[hp])]
    have e2:Be ((Sum.inl p.1,v)::t) (Sum.inl i)=Be t (Sum.inl i):=by unfold Be;rw[Yi (by simp[hp])]
    rw[e1,e2];exact RlD.val h2 i
theorem RlD.any:∀{kvs:List (Int×SV)} {ks:List (Key×V)},RlD K as H ks kvs->∀ i,(ks.any λkv=>decide (kv.1=Sum.inl i))=kvs.any λp=>decide (p.1=i)
 | [],_,h,i=>by rw[show _=[] from h];rfl
 | p::r,_,⟨v,t,e,h1,h2⟩,i=>by
   subst e;rw[Xe,Xe,RlD.any h2 i]
   congr 1
   simp
theorem RlD.set{v:V}{x:SV}(rv:Rl K as H v x):∀{kvs:List (Int×SV)} {ks:List (Key×V)},RlD K as H ks kvs->∀ i,RlD K as H (ks.map λkv=>if kv.1=Sum.inl i then (kv.1,v) else kv) (kvs.map λp=>if p.1=i then (p.1,x) else p)
 | [],_,h,i=>by rw[show _=[] from h];rfl
 | p::r,_,⟨u,t,e,h1,h2⟩,i=>by
   subst e;rw[Wo,Wo];by_cases hp:p.1=i
   ·rw[iP hp,iP (by rw[hp])];exact⟨v,_,rfl,rv,RlD.set rv h2 i⟩
   ·rw[iG hp,iG (λz=>hp (Sum.inl.inj z))];exact⟨u,_,rfl,h1,RlD.set rv h2 i⟩
theorem RlD.snoc{v:V}{x:SV}(rv:Rl K as H v x)(i:Int):∀{kvs:List (Int×SV)} {ks:List (Key×V)},RlD K as H ks kvs->RlD K as H (ks++[(Sum.inl i,v)]) (kvs++[(i,x)])
 | [],_,h=>by rw[show _=[] from h];exact⟨v,[],rfl,rv,rfl⟩
 | p::r,_,⟨u,t,e,h1,h2⟩=>by subst e;exact⟨u,_,rfl,h1,RlD.snoc rv i h2⟩
theorem RlD.put{kvs:List (Int×SV)}{ks:List (Key×V)}{v:V}{x:SV}(h:RlD K as H ks kvs)(rv:Rl K as H v x)(i:Int):RlD K as H (BB ks (Sum.inl i) v) (BF kvs i x):=by
 unfold BB BF;rw[h.any i];by_cases z:(kvs.any λp=>decide (p.1=i))=true
 ·rw[iP z,iP z];exact h.set rv i
 ·rw[iG z,iG z];exact h.snoc rv i
theorem NW{x:SV}{v:V}{kvs:List (Int×SV)}(ok:Ok K as H S)(r:Rl K as H v x)(h:Cj x S=some kvs):∃ a k ks,x = .loc k/\v = .ref a/\as[k]?=some a/\Rd H a (.dK ks)/\RlD K as H ks kvs:=by
 cases x with
 | loc k=>
   obtain⟨a,ea,rfl⟩:=rl_loc.mp r;unfold Cj at h;cases hs:S[k]? with
   | none=>simp only[hs]at h;cases h
   | some o=>
     have ro:=ok.obj k o a hs ea;cases o with
     | lst _=>simp only[hs]at h;cases h
     | iset _=>simp only[hs]at h;cases h
     | dct kv=>simp only[hs]at h;cases h;obtain⟨ks,h1,h2⟩:=ro;exact⟨a,k,ks,rfl,rfl,ea,.inl h1,h2⟩
     | dcf o ks kv=>simp only[hs]at h;cases h;exact⟨a,k,ks,rfl,rfl,ea,.inr ⟨o,ro.1⟩,ro.2⟩
 | _=>cases h
theorem D7:Mono2 Jj:=λx y S P P' i ⟨kvs,j,v,a,b,c,q⟩=>⟨kvs,j,v,a,b,c,i _ _ q⟩
theorem BV{n:Bool}:Mono2 (L6 n):=λx y S P P' i ⟨kvs,j,a,b,q⟩=>⟨kvs,j,a,b,i _ _ q⟩
theorem NX:Bo K Jj (λx y H Q=>∃ a v,x = .ref a/\DGet H a y (some v)/\Q v H):=λas H S x y v u Q ok rx ry h=>by
 obtain⟨kvs,i,w,h1,rfl,h2,q⟩:=h;obtain⟨a,k,ks,rfl,rfl,ea,rd,rr⟩:=NW ok rx h1;rw[rl_int]at ry;subst ry;rcases rr.val i with⟨x',v',e1,e2,r'⟩ | ⟨e1,_⟩
 ·rw[h2]at e1;cases e1;exact⟨a,v',rfl,.inl ⟨ks,.inl i,rd,rfl,e2.symm⟩,q.here ok r'⟩
 ·rw[h2]at e1;cases e1
theorem DY{n:Bool}:Bo K (L6 n) (λy x H Q=>∃ a o,x = .ref a/\DGet H a y o/\Q (.bl (if n then !o.isSome else o.isSome)) H):=λas H S y x u v Q ok ry rx h=>by
 obtain⟨kvs,i,h1,rfl,q⟩:=h;obtain⟨a,k,ks,rfl,rfl,ea,rd,rr⟩:=NW ok rx h1;rw[rl_int]at ry;subst ry
 have e:(Be ks (Sum.inl i)).isSome=(Ci kvs i).isSome:=by
  rcases rr.val i with⟨x',v',e1,e2,r'⟩ | ⟨e1,e2⟩<;>rw[e1,e2]<;>rfl
 refine⟨a,_,rfl,.inl ⟨ks,.inl i,rd,rfl,rfl⟩,?_⟩;rw[e];exact q.here ok (rl_bl.mpr rfl)
end
section
variable{X:Cx}
theorem Ij{x y:Expr}{p:Pos}{a b:WE×WT}(hu:X.A.units+1<cLine)(ha:Good X x a)(hb:Good X y b)(h:Ak y=true):Good X (.Subscript x y p) (tt1 (w2 Jj a.1 b.1)):=
 .one (i8 _ (PL hu ha.pe hb.pe (E2 h)) (AO NX D7 ha.m hb.m)) (.two D7 ha.m hb.m) rfl
theorem LQ{n:Bool}{x y:Expr}{p:Pos}{a b:WE×WT}(hu:X.A.units+1<cLine)(ha:Good X x a)(hb:Good X y b)(h:r6 y=true):Good X (.Compare x [if n then .NotIn else .In] [y] p) (tt2 (w2 (L6 n) a.1 b.1)):=by
 have m:Mono (w2 (L6 n) a.1 b.1) := .two BV ha.m hb.m;cases n with
 | false=>exact{pe:=i8 _ (M7 (Mf hu ha.pe hb.pe) (AR h)) (AO DY BV ha.m hb.m)
                pt:=CS _ (M8 (Mf hu ha.pe hb.pe) (AR h)) λσ H Q h=>AO DY BV ha.m hb.m σ H _ (Dy m σ H Q h)
                m:=m
                mt := .bl m
                pw:=λ_ _ _ e=>by cases e}
 | true=>exact{pe:=i8 _ (M7 (Ep hu ha.pe hb.pe) (AR h)) (AO DY BV ha.m hb.m)
               pt:=CS _ (M8 (Ep hu ha.pe hb.pe) (AR h)) λσ H Q h=>AO DY BV ha.m hb.m σ H _ (Dy m σ H Q h)
               m:=m
               mt := .bl m
               pw:=λ_ _ _ e=>by cases e}
end
section
variable{K:W5}{as:List Zk}{H:Hp}{S:Sto}
theorem CH:Mono2 GN:=λx y S P P' i ⟨xs,a,b,q⟩=>⟨xs,a,b,i _ _ q⟩
theorem GZ:Bo K GN (λx y H Q=>∃ a b xs,x = .ref a/\y = .ref b/\SqT K H a xs/\SqT K H b []/\Q (.bl xs.isEmpty) H):=λas H S x y v u Q ok rx ry h=>by
 obtain⟨xs,rfl,rfl,q⟩:=h;obtain⟨a,vs,rfl,hv,rv⟩:=rl_tup.mp rx;obtain⟨b,ws,rfl,hw,rw'⟩:=rl_tup.mp ry;obtain rfl:=rla_nil.mp rw';have e:vs.isEmpty=xs.isEmpty:=by have:=rv.length;cases vs<;>cases xs<;>first | rfl | (simp at this)
 refine⟨a,b,vs,rfl,rfl,SqT.of hv,SqT.of hw,?_⟩;rw[e];exact q.here ok (rl_bl.mpr rfl)
end
section
variable{X:Cx}
theorem Ik{ra rb:Expr}{p:Pos}{wa wb:WE}(hu:X.A.units+1<cLine)(ha:PE X ra (lift X.K wa))(hb:PE X rb (lift X.K wb))(ma:Mono wa)(mb:Mono wb)(hn:r6 rb=true):Good X (.Compare ra [.Eq] [rb] p) (tt2 (w2 GN wa wb)):=by
 have m:Mono (w2 GN wa wb) := .two CH ma mb
 exact{pe:=i8 _ (JN (Jc (by omega)) ha hb (AR hn)) (AO GZ CH ma mb)
       pt:=CS _ (JO (Jc (by omega)) ha hb (AR hn)) λσ H Q h=>AO GZ CH ma mb σ H _ (Dy m σ H Q h)
       m:=m
       mt := .bl m
       pw:=λ_ _ _ e=>by cases e}
end
noncomputable def Am(K:W5)(g:Tg):TG:=λv σ H Q=>∃ as ρ S x,Ok K as H S/\EnvOk K as H σ ρ/\Rl K as H v x/\wTg g x ρ λρ'=>∀ σ',EnvOk K as H σ' ρ'->Q σ' H
noncomputable def TX(K:W5)(g:Tgs):TGs:=λvs σ H Q=>∃ as ρ S xs,Ok K as H S/\EnvOk K as H σ ρ/\RlAll K as H vs xs/\BC g xs ρ λρ'=>∀ σ',EnvOk K as H σ' ρ'->Q σ' H
mutual
theorem l8:∀(g:Tg) {x:SV} {ρ:EnvS} {P P':EnvS->Prop},(∀ r,P r->P' r)->wTg g x ρ P->wTg g x ρ P'
 | .nm i,x,ρ,P,P',h,q=>by unfold wTg at q ⊢;exact h _ q
 | .tup ts,x,ρ,P,P',h,q=>by
   cases x with
   | tup xs=>unfold wTg at q ⊢;exact Gc ts h q
   | _=>unfold wTg at q;exact q.elim
theorem Gc:∀(g:Tgs) {x:List SV} {ρ:EnvS} {P P':EnvS->Prop},(∀ r,P r->P' r)->BC g x ρ P->BC g x ρ P'
 | .nil,x,ρ,P,P',h,q=>by
   cases x with
   | nil=>unfold BC at q ⊢;exact h _ q
   | cons _ _=>unfold BC at q;exact q.elim
 | .cons t ts,x,ρ,P,P',h,q=>by
   cases x with
   | nil=>unfold BC at q;exact q.elim
   | cons y ys=>unfold BC at q ⊢;exact l8 t (λr q=>Gc ts h q) q
end
theorem Bz{env:Env}:∀{es:List Expr},es.all e8=true->(A0c es env).length=es.length/\(A0c es env).findIdx? (·.1)=none/\∀ e r,es=e::r->(A0c (e::r) env).map (·.2)=assign e env::(A0c r env).map (·.2)
 | [],_=>⟨rfl,rfl,λe r h=>by cases h⟩
 | e::es,h=>by
   rw[XW,W6]at h;obtain⟨h1,h2,_⟩:=Bz (env:=env) h.2;have:A0c (e::es) env=(false,assign e env)::A0c es env:=by cases e<;>first | rfl | (have:=h.1;cases this)
   rw[this];refine⟨by simp[h1],by rw[List.findIdx?_cons,h2];rfl,λe' r z=>?_⟩;injection z with z1 z2;subst z1 z2;rw[this];rfl
theorem D8{k:Nat}{N:List Str}{sc:Zu}:∀{g:Tgs} {es:List Expr},B7 k N sc g es=true->es.all e8=true
 | .nil,es,h=>by unfold B7 at h;rw[XF]at h;subst h;rfl
 | .cons t ts,es,h=>by
   rw[B7]at h;replace h:=a6 h;obtain⟨e,he,h⟩:=h;simp only[W6]at h;rw[BH he,XW,h.1.2,D8 h.2];rfl
section
variable{X:Cx}{T:List Str}{Δ:Nat->Sn}{k:Nat}{N:List Str}{sc:Zu}
mutual
theorem y8(C:Cok T Δ X k N sc):∀(g:Tg) (r:Expr),AV k N sc g r=true->PG X r (Am X.K g)
 | .nm i,r,h=>by
   rw[AV]at h;replace h:=a6 h;obtain⟨x,hx,h⟩:=h;obtain⟨p,rfl⟩:=Cl hx
   ·simp only[W6,dQ]at h;obtain⟨⟨h1,h2⟩,h3⟩:=h;unfold loc at h3;simp only[Wv,bQ]at h3;have hl:Loc X.env.scope x:=by rw[C.hs];exact h3
    have hf:X.fn x=true\/X.env.scope.names.lookup x=some .local:=by
     rw[C.hs];rcases h3 with h3 | h3
     ·exact .inr h3
     ·exact .inl (C.fn i x h1 h2 h3)
    have b:=Oq (X:=X) (pos:=p) (i:=i) (by rw[C.hN];exact C.nd) (by rw[C.hN];exact h2) hl hf;intro pq s σ H v u Q I rr hq;obtain⟨as,ρ,S,y,ok,en,rv,q⟩:=hq;unfold wTg at q;exact b pq s σ H v u Q I rr (q _ (en.set rv))
 | .tup ts,r,h=>by
   rw[AV]at h;replace h:=a6 h;obtain⟨es,he,h⟩:=h;obtain⟨j,p,rfl⟩:=BG he
   ·have st:=Bz (env:=X.env) (D8 h);have b:=SA (X:=X) (k:=j) (pos:=p) C.calm (F2 C ts es h) st.1 st.2.1;intro pq s σ H v u Q I rr hq;refine b pq s σ H v u Q I rr ?_;obtain⟨as,ρ,S,y,ok,en,rv,q⟩:=hq;cases y with
    | tup xs=>
      obtain⟨a,vs,rfl,ha,ra⟩:=rl_tup.mp rv;unfold wTg at q;refine⟨a,vs,rfl,SqT.of ha,?_,as,ρ,S,xs,ok,en,ra,q⟩;rw[ra.length];exact Js ts es xs h q
    | _=>unfold wTg at q;exact q.elim
theorem F2(C:Cok T Δ X k N sc):∀(g:Tgs) (es:List Expr),B7 k N sc g es=true->PGs X es (TX X.K g)
 | .nil,es,h=>by
   rw[B7]at h;rw[XF]at h;subst h;intro pq s σ H vs us Q I rr hq;refine Os pq s σ H vs us Q I rr ?_;obtain⟨as,ρ,S,xs,ok,en,rv,q⟩:=hq;cases xs with
   | nil=>unfold BC at q;exact⟨rla_nil.mp rv,q _ en⟩
   | cons _ _=>unfold BC at q;exact q.elim
 | .cons t ts,el,h=>by
   have st:=Bz (env:=X.env) (D8 h);rw[B7]at h;replace h:=a6 h;obtain⟨e,he,h⟩:=h;simp only[W6]at h;rw[BH he]at st ⊢;generalize el.tail=es at h st;intro pq s σ H vs us Q I rr hq;refine ME (y8 C t e h.1.1) (F2 C ts es h.2) (st.2.2 _ _ rfl) pq s σ H vs us Q I rr ?_;obtain⟨as,ρ,S,xs,ok,en,rv,q⟩:=hq;cases xs with
   | nil=>unfold BC at q;exact q.elim
   | cons y ys=>
     unfold BC at q;obtain⟨v,r,rfl,r1,r2⟩:=rla_cons.mp rv;exact⟨v,r,rfl,as,ρ,S,y,ok,en,r1,l8 t (λρ' q σ' en'=>⟨as,ρ',S,ys,ok,en',r2,q⟩) q⟩
theorem Js:∀(g:Tgs) (es:List Expr) (xs:List SV) {ρ:EnvS} {P:EnvS->Prop},B7 k N sc g es=true->BC g xs ρ P->xs.length=es.length
 | .nil,es,xs,ρ,P,h,q=>by
   rw[B7]at h;rw[XF]at h;subst h;cases xs with
   | nil=>rfl
   | cons _ _=>unfold BC at q;exact q.elim
 | .cons t ts,el,xs,ρ,P,h,q=>by
   rw[B7]at h;replace h:=a6 h;obtain⟨e,he,h⟩:=h;simp only[W6]at h;rw[BH he];generalize el.tail=es at h;cases xs with
   | nil=>unfold BC at q;exact q.elim
   | cons y ys=>
     unfold BC at q;obtain⟨ρ',q'⟩:=Jt t q;simp[Js ts es ys h.2 q']
theorem Jt:∀(g:Tg) {x:SV} {ρ:EnvS} {P:EnvS->Prop},wTg g x ρ P->∃ ρ',P ρ'
 | .nm i,x,ρ,P,q=>by unfold wTg at q;exact⟨_,q⟩
 | .tup ts,x,ρ,P,q=>by
   cases x with
   | tup xs=>unfold wTg at q;exact Ge ts q
   | _=>unfold wTg at q;exact q.elim
theorem Ge:∀(g:Tgs) {xs:List SV} {ρ:EnvS} {P:EnvS->Prop},BC g xs ρ P->∃ ρ',P ρ'
 | .nil,xs,ρ,P,q=>by
   cases xs with
   | nil=>unfold BC at q;exact⟨_,q⟩
   | cons _ _=>unfold BC at q;exact q.elim
 | .cons t ts,xs,ρ,P,q=>by
   cases xs with
   | nil=>unfold BC at q;exact q.elim
   | cons y ys=>
     unfold BC at q;obtain⟨ρ',q'⟩:=Jt t q;exact Ge ts q'
end
end
structure Gu(as:List Zk)(H:Hp)(as':List Zk)(H':Hp):Prop where
 pre:as <+: as'
 kp:KeepU H H'
theorem Gu.ku{K:W5}{as as':List Zk}{H H':Hp}{S:Sto}(g:Gu as H as' H')(_:Ok K as H S):KeepU H H':=g.kp
theorem Go.gu{K:W5}{as as':List Zk}{H H':Hp}{S:Sto}(g:Go as H as' H')(ok:Ok K as H S):Gu as H as' H':=⟨g.pre,g.ku ok⟩
noncomputable def Walks(K:W5)(as0:List Zk)(H0:Hp)(J:It)(keep:Sto->Prop)(xs:List SV):Prop:=∀ as H S,Gu as0 H0 as H->Ok K as H S->keep S->
 (∀(i:Nat) (x:SV),xs[i]?=some x->J.go i H/\∀ v H',J.yld i H v H'->Go as H as H'/\Ok K as H' S/\Rl K as H' v x)/\J.stop xs.length H
noncomputable def VF(K:W5)(as:List Zk)(H:Hp)(R:It->Hp->Prop):(Sto->Prop)->List SV->Sto->Prop:=λkeep xs S1=>∀ as1 H1 J,Go as H as1 H1->Ok K as1 H1 S1->Walks K as1 H1 J keep xs->R J H1
noncomputable def liftI(K:W5)(w:WI):TI:=λσ H R=>∃ as ρ S,Ok K as H S/\EnvOk K as H σ ρ/\w ρ S (VF K as H R)
noncomputable def MonoI(w:WI):Prop:=∀ ρ S (P P':(Sto->Prop)->List SV->Sto->Prop),(∀ k x S',P k x S'->P' k x S')->w ρ S P->w ρ S P'
structure GoodI(X:Cx)(tg r:Expr)(w:WI):Prop where
 pi:PI X tg r (liftI X.K w)
 m:MonoI w
section
variable{X:Cx}{K:W5}
theorem Gf{as0 as:List Zk}{H0 H:Hp}{S1 S:Sto}{x:SV}{v:V}{xs:List SV}(ok1:Ok K as0 H0 S1)(r:Rl K as0 H0 v x)(h:seqS x S1=some xs)(g:Gu as0 H0 as H)(ok:Ok K as H S)(kp:keepS x S1 S):Rl K as H v x/\seqS x S=some xs:=by
 refine⟨Rl.mono g.pre (g.ku ok1) x v r,?_⟩;cases x with
 | loc k=>
   have kp:S[k]?=S1[k]?:=kp;unfold seqS at h ⊢;simp only[kp];exact h
 | _=>exact h
theorem LR{as0:List Zk}{H0:Hp}{S1:Sto}{x:SV}{a:Zk}{xs:List SV}(ok1:Ok K as0 H0 S1)(r:Rl K as0 H0 (.ref a) x)(n:x ≠ .tup xs)(h:seqS x S1=some xs):Walks K as0 H0 (Itl K a) (keepS x S1) xs:=λas H S g ok kp=>by
 obtain⟨r',h'⟩:=Gf ok1 r h g ok kp;obtain⟨b,vs,e,hq,rr⟩:=Ac ok r' n h';cases e;refine⟨λi y hy=>?_,vs,hq,by rw[rr.length];exact WJ _⟩;obtain⟨v,hv,rv⟩:=rr.get hy;refine⟨⟨vs,v,hq,hv⟩,λu H' yl=>?_⟩;obtain⟨e,yl⟩:=yl;subst e;have:=yl vs hq;rw[hv]at this;cases this;exact⟨Go.refl _ _,ok,rv⟩
theorem NY{as0:List Zk}{H0:Hp}{S1:Sto}{a:Zk}{xs:List SV}(ok1:Ok K as0 H0 S1)(r:Rl K as0 H0 (.ref a) (.tup xs)):Walks K as0 H0 (Itt K a) (keepS (.tup xs) S1) xs:=λas H S g ok kp=>by
 have r':=Rl.mono g.pre (g.ku ok1) _ _ r;obtain⟨b,vs,e,hb,rr⟩:=rl_tup.mp r';cases e;refine⟨λi y hy=>?_,vs,SqT.of hb,by rw[rr.length];exact WJ _⟩;obtain⟨v,hv,rv⟩:=rr.get hy;refine⟨⟨vs,v,SqT.of hb,hv⟩,λu H' yl=>?_⟩;obtain⟨e,yl⟩:=yl;subst e;have:=yl vs (SqT.of hb);rw[hv]at this;cases this;exact⟨Go.refl _ _,ok,rv⟩
theorem Gg{as0:List Zk}{H0:Hp}{lo hi:Int}:Walks K as0 H0 (Itr lo (hi - lo).toNat) (λ_=>True) (Bf lo hi):=λas H S g ok _=>by
 have hl:(Bf lo hi).length=(hi - lo).toNat:=by unfold Bf;simp
 refine⟨λi y hy=>?_,by show(hi - lo).toNat<=(Bf lo hi).length;rw[hl];exact WJ _⟩;have hi':i<(hi - lo).toNat:=by rw[<-hl];exact(gM hy).1
 refine⟨hi',λu H' yl=>?_⟩;obtain⟨e,rfl⟩:=yl;subst e
 have:y = .int (lo+i):=by
  unfold Bf at hy;rw[WQ,YE hi']at hy;exact(oj hy).symm
 subst this;exact⟨Go.refl _ _,ok,rl_int.mpr rfl⟩
theorem Gh{xs:List SV}{i:Nat}{y:SV}(h:(By xs)[i]?=some y):∃ x,xs[i]?=some x/\y = .tup [.int i,x]:=by
 unfold By at h;rw[Ym]at h;cases h1:(WN xs.length)[i]? with
 | none=>rw[h1]at h;cases h
 | some j=>
   cases h2:xs[i]? with
   | none=>rw[h1,h2]at h;cases h
   | some x=>
     rw[h1,h2]at h;have hi:=(gM h2).1;rw[YE hi]at h1;cases h1;cases h;exact⟨x,rfl,rfl⟩
theorem Gi{xs:List SV}:(By xs).length=xs.length:=by unfold By;simp
theorem Il{as0:List Zk}{H0:Hp}{S1:Sto}{x:SV}{a:Zk}{xs:List SV}(ok1:Ok K as0 H0 S1)(r:Rl K as0 H0 (.ref a) x)(n:x ≠ .tup xs)(h:seqS x S1=some xs):Walks K as0 H0 (SZ K a) (keepS x S1) (By xs):=λas H S g ok kp=>by
 obtain⟨r',h'⟩:=Gf ok1 r h g ok kp;obtain⟨b,vs,e,hq,rr⟩:=Ac ok r' n h';cases e;refine⟨λi y hy=>?_,vs,hq,by rw[rr.length,Gi]⟩;obtain⟨z,hz,rfl⟩:=Gh hy;obtain⟨v,hv,rv⟩:=rr.get hz;refine⟨⟨vs,v,hq,hv⟩,λu H' yl=>?_⟩;obtain⟨p,w,hp,rfl,yl,rfl⟩:=yl;have:=yl vs hq;rw[hv]at this;cases this;exact⟨Go.new hp,ok.new hp,rl_tup.mpr ⟨p,_,rfl,f9,.cons (rl_int.mpr rfl) (.cons (Rl.mono (Wl _) (BP hp) z v rv) .nil)⟩⟩
theorem Im{as0:List Zk}{H0:Hp}{S1:Sto}{a:Zk}{xs:List SV}(ok1:Ok K as0 H0 S1)(r:Rl K as0 H0 (.ref a) (.tup xs)):Walks K as0 H0 (Sd K a) (keepS (.tup xs) S1) (By xs):=λas H S g ok kp=>by
 have r':=Rl.mono g.pre (g.ku ok1) _ _ r;obtain⟨b,vs,e,hb,rr⟩:=rl_tup.mp r';cases e;refine⟨λi y hy=>?_,vs,SqT.of hb,by rw[rr.length,Gi]⟩;obtain⟨z,hz,rfl⟩:=Gh hy;obtain⟨v,hv,rv⟩:=rr.get hz;refine⟨⟨vs,v,SqT.of hb,hv⟩,λu H' yl=>?_⟩;obtain⟨p,w,hp,rfl,yl,rfl⟩:=yl;have:=yl vs (SqT.of hb);rw[hv]at this;cases this;exact⟨Go.new hp,ok.new hp,rl_tup.mpr ⟨p,_,rfl,f9,.cons (rl_int.mpr rfl) (.cons (Rl.mono (Wl _) (BP hp) z v rv) .nil)⟩⟩
theorem E5{tg l:Expr}{w:TI}(w':TI)(h:PI X tg l w)(imp:∀ σ H R,w' σ H R->w σ H R):PI X tg l w':=λpq s σ H R I hw=>h pq s σ H R I (imp σ H R hw)
noncomputable def Vs(K:W5)(tl:TE):TI:=λσ H R=>tl σ H λx H1=>∃ a,x = .ref a/\(((∃ xs,SqL K H1 a xs)/\R (Itl K a) H1)\/((∃ xs,SqT K H1 a xs)/\R (Itt K a) H1))
theorem TY{tg l:Expr}{tl:TE}(hl:PE X l tl):PI X tg l (Vs X.K tl):=by
 intro pq s σ H R I h;refine thn (hl pq s σ H _ I h) λv s1 ⟨x,H1,I1,r1,q1⟩=>?_;obtain⟨a,e,q⟩:=q1;subst e;cases r1;have I2:∀{ob:Obj},Inv X pq σ H1 {s1 with heap:=s1.heap.push ob}:=I1.kept (t':=s1.toks) λb o e=>WD _ e
 have fp:∀ b∈[s1.heap.objs.size],FpOk X pq H1 b:=λb hb=>by
  rw[W9.mp hb];exact I1.fpOk (WJ _) (I1.hok.fresh (WJ _))
 rcases q with⟨⟨xs,hq⟩,q⟩ | ⟨⟨xs,hq⟩,q⟩
 ·obtain⟨its,rv,p,hz⟩:=I1.list hq;exact A0F p.isList ⟨s1.heap.objs.size,[s1.heap.objs.size],_,_,H1,rfl,I2,KW a _,⟨_,WU _ rfl,rfl,rfl⟩,fp,q⟩
 ·obtain⟨its,rv,p,hz⟩:=I1.tuple hq;exact A0n (show s1.heap.IsTuple a its.toArray from p) ⟨s1.heap.objs.size,[s1.heap.objs.size],_,_,H1,rfl,I2,Hw a _,⟨_,WU _ rfl,rfl,rfl⟩,fp,q⟩
theorem LS{tg r:Expr}{a:WE×WT}(ha:Good X r a):GoodI X tg r (RP a.1) where
 m:=λρ S P P' i h=>ha.m _ _ _ _ (λx S1 ⟨xs,e,q⟩=>⟨xs,e,i _ _ _ q⟩) h
 pi:=E5 _ (TY ha.pe) (by
  rintro σ H R ⟨as,ρ,S,ok,en,h⟩;refine⟨as,ρ,S,ok,en,ha.m _ _ _ _ (λx S1 ⟨xs,e,q⟩ as1 H1 v g1 ok1 rv=>?_) h⟩;by_cases ht:x = .tup xs
  ·subst ht;obtain⟨p,vs,rfl,hp,rr⟩:=rl_tup.mp rv;exact⟨p,rfl,.inr ⟨⟨vs,SqT.of hp⟩,q as1 H1 _ g1 ok1 (NY ok1 rv)⟩⟩
  ·obtain⟨p,vs,rfl,hq,rr⟩:=Ac ok1 rv ht e;exact⟨p,rfl,.inl ⟨⟨vs,hq⟩,q as1 H1 _ g1 ok1 (LR ok1 rv ht e)⟩⟩)
theorem Io{T:List Str}{Δ:Nat->Sn}{k:Nat}{N:List Str}{sc:Zu}{elts:List Expr}{kx:Nat}{tp p q:Pos}{r:Expr}{a:WE×WT}(C:Cok T Δ X k N sc)(hg:glo sc "enumerate"=true)(ha:Good X r a)(hs:e8 r=true):GoodI X (.Tuple elts kx tp) (.Call (.Name "enumerate" p) [r] [] q) (ND a.1) where
 m:=λρ S P P' i h=>ha.m _ _ _ _ (λx S1 ⟨xs,e,q⟩=>⟨xs,e,i _ _ _ q⟩) h
 pi:=by
  unfold glo at hg;simp only[W6,bQ,We]at hg;have gl:Gl X "enumerate":=by show X.env.scope.names.lookup ("enumerate":Str)=_;rw[C.hs];exact hg.1.1
  refine E5 _ (PB gl C.enm (AF ha.pe Br (l6 hs)) (l6 hs)) ?_;rintro σ H R ⟨as,ρ,S,ok,en,h⟩;refine⟨as,ρ,S,ok,en,ha.m _ _ _ _ (λx S1 ⟨xs,e,q⟩ as1 H1 v g1 ok1 rv=>?_) h⟩;by_cases ht:x = .tup xs
  ·subst ht;obtain⟨p,vs,rfl,hp,rr⟩:=rl_tup.mp rv;exact⟨p,rfl,.inr ⟨⟨vs,SqT.of hp⟩,q as1 H1 _ g1 ok1 (Im ok1 rv)⟩⟩
  ·obtain⟨p,vs,rfl,hq,rr⟩:=Ac ok1 rv ht e;exact⟨p,rfl,.inl ⟨⟨vs,hq⟩,q as1 H1 _ g1 ok1 (Il ok1 rv ht e)⟩⟩
theorem Ip{T:List Str}{Δ:Nat->Sn}{k:Nat}{N:List Str}{sc:Zu}{tg r:Expr}{p q:Pos}{a:WE×WT}(C:Cok T Δ X k N sc)(hg:glo sc "range"=true)(ha:Good X r a)(hs:e8 r=true):GoodI X tg (.Call (.Name "range" p) [r] [] q) (NB a.1) where
 m:=λρ S P P' i h=>ha.m _ _ _ _ (λx S1 ⟨j,e,z,q⟩=>⟨j,e,z,i _ _ _ q⟩) h
 pi:=by
  unfold glo at hg;simp only[W6,bQ,We]at hg;have gl:Gl X "range":=by show X.env.scope.names.lookup ("range":Str)=_;rw[C.hs];exact hg.1.1
  refine E5 _ (KY gl C.rng (AF ha.pe Br (l6 hs)) (l6 hs)) ?_;rintro σ H R ⟨as,ρ,S,ok,en,h⟩;refine⟨as,ρ,S,ok,en,ha.m _ _ _ _ (λx S1 ⟨j,e,z,q⟩ as1 H1 v g1 ok1 rv=>?_) h⟩;subst e;refine⟨j,by rw[rl_int.mp rv],z.1,z.2,?_⟩;have:=q as1 H1 (Itr 0 (j - 0).toNat) g1 ok1 Gg
  rwa [Int.sub_zero]at this
theorem Iq{T:List Str}{Δ:Nat->Sn}{k:Nat}{N:List Str}{sc:Zu}{tg r r2:Expr}{p q:Pos}{a b:WE×WT}(C:Cok T Δ X k N sc)(hg:glo sc "range"=true)(ha:Good X r a)(hb:Good X r2 b)(hs:e8 r=true)(hs2:e8 r2=true):GoodI X tg (.Call (.Name "range" p) [r,r2] [] q) (NC a.1 b.1) where
 m:=λρ S P P' i h=>ha.m _ _ _ _ (λx S1 h=>hb.m _ _ _ _ (λy S2 ⟨l,j,e,e2,z,q⟩=>⟨l,j,e,e2,z,i _ _ _ q⟩) h) h
 pi:=by
  unfold glo at hg;simp only[W6,bQ,We]at hg;have gl:Gl X "range":=by show X.env.scope.names.lookup ("range":Str)=_;rw[C.hs];exact hg.1.1
  refine E5 _ (KZ gl C.rng (AF ha.pe (AF hb.pe Br (l6 hs2)) (l6 hs)) (by rw[l6 hs,l6 hs2];rfl) (l6 hs2)) ?_;rintro σ H R ⟨as,ρ,S,ok,en,h⟩;refine⟨as,ρ,S,ok,en,ha.m _ _ _ _ (λx S1 h as1 H1 v g1 ok1 rv=>?_) h⟩;refine⟨as1,ρ,S1,ok1,en.mono g1.pre (g1.ku ok),hb.m _ _ _ _ (λy S2 ⟨l,j,e,e2,z,q⟩ as2 H2 u g2 ok2 ru=>?_) h⟩;subst e e2;exact⟨l,j,by rw[rl_int.mp rv,rl_int.mp ru],z,q as2 H2 _ (g1.trans g2) ok2 Gg⟩
theorem Q7{as1:List Zk}{H1:Hp}{a:Zk}{k:Nat}{o:Obj}{ks:List (Key×V)}{kvs:List (Int×SV)}(ea:as1[k]?=some a):Walks K as1 H1 (Itk a o ks) (λS'=>S'[k]?=some (.dcf o ks kvs)) (kvs.map λp=>SV.int p.1):=λas H S g ok kp=>by
 have ea':as[k]?=some a:=by
  obtain⟨t,rfl⟩:=g.pre;rw[WX ((gM ea).1)];exact ea
 obtain⟨h1,h2⟩:=(show RlO K as H a (.dcf o ks kvs) from ok.obj k _ a kp ea')
 refine⟨λi x hx=>?_,by rw[h2.length,W8];exact WJ _,h1⟩;rw[WQ]at hx;cases hp:kvs[i]? with
 | none=>rw[hp]at hx;cases hx
 | some p=>
   rw[hp]at hx;cases hx;obtain⟨v,hv⟩:=h2.get hp;refine⟨⟨(gM hv).1,h1⟩,λu H' yl=>?_⟩;obtain⟨rfl,q,hq,rfl⟩:=yl;rw[hv]at hq;cases hq;exact⟨Go.refl _ _,ok,rl_int.mpr rfl⟩
theorem NZ{tg r:Expr}{a:WE×WT}(ha:Good X r a):GoodI X tg r (V2 a.1) where
 m:=λρ S P P' i h=>ha.m _ _ _ _ (λx S1 ⟨k,kvs,e,hk,q⟩=>⟨k,kvs,e,hk,λo ks=>i _ _ _ (q o ks)⟩) h
 pi:=E5 _ (V1 ha.pe) (by
  rintro σ H R ⟨as,ρ,S,ok,en,h⟩;refine⟨as,ρ,S,ok,en,ha.m _ _ _ _ (λx S1 ⟨k,kvs,e,hk,q⟩ as1 H1 v g1 ok1 rv=>?_) h⟩;subst e;obtain⟨a,ea,rfl⟩:=rl_loc.mp rv;obtain⟨ks,h1,h2⟩:=ok1.obj k _ a hk ea;refine⟨a,ks,rfl,.inl ⟨h1,λo=>?_⟩⟩;obtain⟨ok2,ku⟩:=ok1.writeO (x := .dcf o ks kvs) (u := .frz o (.dK ks)) hk ea (λku=>⟨f9,RlD.mono (Wl _) ku kvs ks h2⟩);exact q o ks as1 _ (Itk a o ks) (g1.trans (Go.write (WC ea))) ok2 (Q7 ea))
end
end Rf
namespace L2
open PySem PySem.Spec PyProof.Rows
noncomputable def RU(kx vx:Expr):Zh->Env->Sem Unit:=λacc env=>do
 let kv <- eval kx env
 let vv <- holding [kv] (eval vx env)
 match acc with
 | .ref d=>do
   standAt {kx.pos with endLine:=vx.pos.endLine,endCol:=vx.pos.endCol}
   holding [kv,vv] (dictSet d kv vv)
 | _=>A1j "internal:dictcomp"
theorem E6{prog:Zo}{w:Zq}{A:Zx}{kx vx tg iter:Expr}{ifs:List Expr}{scope:Zu}{pos:Pos}:CForm prog w A (.DictComp kx vx [⟨tg,iter,ifs,0⟩] scope pos) tg iter ifs (RU kx vx) where
 turn:=λ_ _ _=>rfl
 und:=λ_ _ _=>rfl
 den:=λ_ _ _=>rfl
 start:=λh0 h=>codeAny_compStart_dict h0 h
noncomputable def Q8(tk tv:TE)(D:Zk)(ks:List (Key×V))(σ:St)(H:Hp)(N:List (Key×V)->Hp->Prop):Prop:=
 tk σ H λk H1=>tv σ H1 λv H2=>∃ key,k=kV key/\H2 D=some (.dK ks)/\ks.length<Zn/\N (BB ks key v) (upd H2 D (.dK (BB ks key v)))
noncomputable def Ir(wi:TI)(g:TG)(tt:TT)(tk tv:TE)(k:Nat)(js:List Nat):TE:=λσ H Q=>wi σ H λJ H1=>∀ D,H1 D=none->
 ∃ W:Nat->Nat->List (Key×V)->Hp->Prop,(∃ m,W 0 m [] (upd H1 D (.dK [])))/\Dk J g tt (Q8 tk tv D) (Ao k js σ) (λH=>Q (.ref D) H) W
section
variable{X:Cx}{tg iter:Expr}{ifs:List Expr}{scope:Zu}{pos:Pos}{g:TG}{tt:TT}
theorem Gj{kx vx:Expr}{tk tv:TE}{own cn:List Str}(hk:∀ s2 H2 cs C fp,PE (c9 X scope (own++cn) s2 H2 cs C fp) kx tk)(hv:∀ s2 H2 cs C fp,PE (c9 X scope (own++cn) s2 H2 cs C fp) vx tv):
 ∀ D s2 H2 cs C fp pq s σ H (a:List (Key×V)) (N:List (Key×V)->Hp->Prop),Inv (c9 X scope (own++cn) s2 H2 cs C fp) pq σ H s->Q8 tk tv D a σ H N->Zl (Zm X.prog X.w) X.A (RU kx vx (.ref D) (A0K scope cs C X.env)) (λ_ s1=>∃ σ1 a1 H1,Inv (c9 X scope (own++cn) s2 H2 cs C fp) pq σ1 H1 s1/\N a1 H1) (λ_ _=>False) s:=by
 intro D s2 H2 cs C fp pq s σ H ks N I h;refine Zg (thn (hk s2 H2 cs C fp pq s σ H _ I h) λkv s1 ⟨k,H1,I1,r1,q1⟩=>?_);refine Zg (Zz (thn (hv s2 H2 cs C fp pq s1 σ H1 _ I1 q1) λvv s3 ⟨v,H3,I3,r3,key,ek,eD,hl,q3⟩=>?_));subst ek;refine Zg (A00 (Zz ?_));obtain⟨z,hd,vs,rel,dd⟩:=RE I3.hok eD;have hz:vs.length<=Zn:=by rw[<-rel.length];exact z
 have hlp:(BB ks key v).length<=Zn:=by have:=Bw ks key v;omega
 refine wpAny_dictSet_pairs (Em r1) dd (λh' dd' hs=>?_) hz;have he:∃ q,h'.get? D=some q:=let ⟨q,_,_,hq,_⟩:=dd';⟨q,hq⟩
 exact⟨_,_,_,FJ I3 (by rw[eD];exact True.intro) hs he (FK hlp hd (rel.put key r3) dd'),q3⟩
theorem Na{wi:TI}{kx vx:Expr}{tk tv:TE}(own cn:List Str)(js:List Nat)(hi:PI X tg iter wi)(hg:∀ s2 H2 cs C fp,PG (c9 X scope (own++cn) s2 H2 cs C fp) tg g)(ht:∀ s2 H2 cs C fp,As (c9 X scope (own++cn) s2 H2 cs C fp) ifs tt)
 (hk:∀ s2 H2 cs C fp,PE (c9 X scope (own++cn) s2 H2 cs C fp) kx tk) (hv:∀ s2 H2 cs C fp,PE (c9 X scope (own++cn) s2 H2 cs C fp) vx tv) (hc:X.calm=true) (hok:j9 X.env.scope scope own cn X.N js=true)
 (hs:∀ x,Zv iter X.env x=pure x):PE X (.DictComp kx vx [⟨tg,iter,ifs,0⟩] scope pos) (Ir wi g tt tk tv own.length js):=by
 intro pq s σ H Q I h;have hok':=hok;unfold j9 at hok';simp only[W6,dQ,Wg,Wv,We,decide_eq_false_iff_not]at hok';obtain⟨⟨⟨⟨⟨⟨k1,k2⟩,k3⟩,k4⟩,k5⟩,k6⟩,k7⟩:=hok'
 have hfree:∀ x∈scope.names,x.2 = .free->∃ c,X.env.cells.lookup x.1=some c:=λx hx hf=>I.ok.has x.1 (by
  rcases k2 x hx with(z | z) | z
  ·exact absurd hf z
  ·exact .inl z
  ·exact .inr z)
 rw[arm_eval_DictComp];refine A01 (use:=none) rfl hs (m6 hfree) k1 (λx hx hl=>?_) (thn (hi pq s σ H _ I h) λv s1 h1=>thn h1 λitv s2 h2=>?_)
 ·have:=g8 k3 (show(x.1,x.2)∈scope.names from hx);rw[this,hl]
 ·obtain⟨it,fp,tn,J,H2,e,I2,T,st2,f2,q⟩:=h2;subst e;refine Ag (RR:=λacc C=>A0Z (Zm X.prog X.w) X.A X.xe none (EP X pq σ Q) acc C) (o0:={cls := .type "dict",data := .dict #[]}) (u0 := .dK []) (a0:=[]) (tem:=Q8 tk tv) E6 (λhq=>Zt hq) rfl (λH h e=>?_) hok hc hg ht (Gj hk hv) I2 T st2 f2 (q _ I2.fresh) ?_
  ·exact FK (XA _) (beq_eq_false_iff_ne.mpr (Ne.symm (WZ I2.big))) .nil (let ⟨o,es,ep,ho,r⟩:=Ze.new (knd:=m8 X.prog X.w) s2.heap;by
    rw[WU _ rfl]at ho;cases ho;exact⟨_,es,ep,e,r⟩)
  intro C H' s' I' fC ⟨m,hn⟩ q';obtain⟨f0,f1,f2',f3,f4,f5⟩:=fC;refine⟨m,hn,λh' hs'=>⟨.ref s2.heap.objs.size,H',?_,rfl,q'⟩⟩;exact I'.turned (t':=s'.toks) (λb o hb e=>(hs'.2 b hb).trans e) f0 f1 f3 f4 f5
end
noncomputable def SetXO(prog:Zo)(w:Zq)(o:Obj)(L:List Int):Prop:=
 ∃ es ep t,o.ExactSet/\o.data = .set es ep t/\ElemsOf (intKind prog w) es.toList/\es.size<A0b/\t.fits es.size=true/\Tab w t/\(es.toList.map λe=>numOf e.2).Perm L
theorem SetXO.at{prog:Zo}{w:Zq}{o:Obj}{L:List Int}{h:Heap}{a:Zk}(x:SetXO prog w o L)(e:h.get? a=some o):SetX prog w h a L:=let ⟨es,ep,t,r⟩:=x;⟨o,es,ep,t,e,r⟩
theorem SetX.obj{prog:Zo}{w:Zq}{L:List Int}{h:Heap}{a:Zk}(x:SetX prog w h a L):∃ o,h.get? a=some o/\SetXO prog w o L:=let ⟨o,es,ep,t,e,r⟩:=x;⟨o,e,es,ep,t,r⟩
def hoS(o:Obj)(L:List Int):HO := .frz o (.set (λk=>decide (k∈L)) L.length)
theorem Nb{P:Zo}{w:Zq}{H:Hp}{h:Heap}{a:Zk}{o:Obj}{L:List Int}(x:SetXO P w o L)(e:h.get? a=some o):ObjOk P w H h a (hoS o L):=by
 refine⟨e,?_⟩;show h.SetOf (intKind P w) a _ _;exact(x.at e).kind
noncomputable def RV(elt:Expr):Zh->Env->Sem Unit:=λacc env=>do
 let v <- eval elt env
 standAt elt.pos
 let _ <- call (.builtin "set.add") [acc,v]
theorem Bp{prog:Zo}{w:Zq}{A:Zx}{R:Result->Zj->Prop}{s:Zj}{elt target iter ifs rest scope pos it acc env}
 (h0:codeAny (Zm prog w) A (.compLoop (.SetComp elt (⟨target,iter,ifs,0⟩::rest) scope pos) 0 it acc env) R s)
 (h:Zl (Zm prog w) A (pyIter it) (λit' s'=>codeAny (Zm prog w) A (.compLoop (.SetComp elt (⟨target,iter,ifs,0⟩::rest) scope pos) 0 it' acc env) R s')
   (notedBy (Zm prog w) A env λx s'=>R (.error x) s') s):
 codeAny (Zm prog w) A (.compStart (.SetComp elt (⟨target,iter,ifs,0⟩::rest) scope pos) 0 it acc env) R s:=by
 refine A0v ?_;show Zl _ A ((A1C (.SetComp elt (⟨target,iter,ifs,0⟩::rest) scope pos) 0 it acc env).onRaise (λx=>do A1X x env;standAt A1I)) _ _ s;refine wpAny_notedAt ?_;unfold A1C;show Zl _ A (ask >>= _) _ _ s;refine Zg (A0m (wpAny_ite ?_));split
 ·first
   | exact Zg (Zi (Zi (And.intro rfl h0)))
   | exact Zi (And.intro rfl h0)
 ·first
   | exact Zg (A0k (Zg (A00 (Zg (A02 h (λit' s' h'=>Zi (And.intro rfl h')) λ_ _ x=>x)))))
   | (refine Zg (A0k ?_);show Zl _ _ (standAt iter.pos >>= _) _ _ s;exact Zg (A00 (Zg (A02 h (λit' s' h'=>Zi (And.intro rfl h')) λ_ _ x=>x))))
theorem LU{prog:Zo}{w:Zq}{A:Zx}{elt tg iter:Expr}{ifs:List Expr}{scope:Zu}{pos:Pos}:CForm prog w A (.SetComp elt [⟨tg,iter,ifs,0⟩] scope pos) tg iter ifs (RV elt) where
 turn:=λ_ _ _=>rfl
 und:=λ_ _ _=>rfl
 den:=λ_ _ _=>rfl
 start:=λh0 h=>Bp h0 h
section
variable{prog:Zo}{w:Zq}{A:Zx}{E:Zh->Zj->Prop}{s:Zj}
theorem Q9{Q:Zh->Zj->Prop}(h:Q (.ref s.heap.objs.size) {s with heap:=s.heap.push (At w)}):Zl (Zm prog w) A (newSet (.type "set")) Q E s:=by
 unfold newSet A1S;refine Zg (Zg (A0m (Zi ?_)));exact Zt h
theorem QA{H:Hp}{a:Zk}{u v:HO}:upd (upd H a u) a v=upd H a v:=by
 funext b
 by_cases hb:b=a
 ·subst hb;rw[f9,f9]
 ·rw[upd_ne hb,upd_ne hb,upd_ne hb]
theorem Nc{a:Zk}{L:List Int}{k:Int}{tk:Tok}{Q:Zh->Zj->Prop}(hX:SetX prog w s.heap a L)(hroom:L.length+1<A0b)
 (h:∀ h',Wy a s.heap h'->SetX prog w h' a (A0l L k)->Q .none {s with heap:=h',toks:=s.toks+1}):Zl (Zm prog w) A (call (.builtin "set.add") [.ref a,.int k tk]) Q E s:=by
 have hT:s.TypeIs (.ref a) "set":=by
  obtain⟨o,es,ep,t,ho,hx,r⟩:=hX;exact⟨o,ho,hx.1⟩
 refine A03 F.slot_set_add hT F.entry_set_add ?_ (F.args_set_add_2 _ _);unfold Builtin.«set.add» Builtin.Frozenset.oneOther;simp only[List.isEmpty_nil,bind_assoc];unfold Builtin.Frozenset.addrOf setAdd;refine Zg (Zi ?_)
 try dsimp only
 refine Zg (Zi ?_)
 try dsimp only
 refine Zg ?_;refine Zz ?_;refine Zg ((intKind prog w).pyHash (k:=k) (A1r _ _ _ _) ?_);refine Uh (s:={s with toks:=s.toks+1}) hX hroom λh' b hsb hS'=>?_;show Zl _ _ (ret Value.none) _ _ _;exact Zi ⟨_,rfl,h h' hsb hS'⟩
end
noncomputable def TZ(P:Zo)(w:Zq)(te:TE)(D:Zk)(L:List Int)(σ:St)(H:Hp)(N:List Int->Hp->Prop):Prop:=
 te σ H λv H4=>∃ k o,v = .int k/\SetXO P w o L/\H4 D=some (hoS o L)/\L.length<=900/\∀ o',SetXO P w o' (A0l L k)->N (A0l L k) (upd H4 D (hoS o' (A0l L k)))
noncomputable def Ju(P:Zo)(w:Zq)(wi:TI)(g:TG)(tt:TT)(te:TE)(k:Nat)(js:List Nat):TE:=λσ H Q=>wi σ H λJ H1=>∀ D,H1 D=none->
 ∃ W:Nat->Nat->List Int->Hp->Prop,(∃ m,∀ o,SetXO P w o []->W 0 m [] (upd H1 D (hoS o [])))/\Dk J g tt (TZ P w te D) (Ao k js σ) (λH=>∃ L o,SetXO P w o L/\H D=some (hoS o L)/\L.length<64/\∀ l,H l=none->Q (.ref l) (upd H l (.lst ((srt L).map V.int)))) W
section
variable{X:Cx}{tg iter:Expr}{ifs:List Expr}{scope:Zu}{pos:Pos}{g:TG}{tt:TT}
theorem Nd{elt:Expr}{te:TE}{own cn:List Str}(he:∀ s2 H2 cs C fp,PE (c9 X scope (own++cn) s2 H2 cs C fp) elt te):
 ∀ D s2 H2 cs C fp pq s σ H (a:List Int) (N:List Int->Hp->Prop),Inv (c9 X scope (own++cn) s2 H2 cs C fp) pq σ H s->TZ X.prog X.w te D a σ H N->Zl (Zm X.prog X.w) X.A (RV elt (.ref D) (A0K scope cs C X.env)) (λ_ s1=>∃ σ1 a1 H1,Inv (c9 X scope (own++cn) s2 H2 cs C fp) pq σ1 H1 s1/\N a1 H1) (λ_ _=>False) s:=by
 intro D s2 H2 cs C fp pq s σ H L N I h;refine Zg (thn (he s2 H2 cs C fp pq s σ H _ I h) λv s1 ⟨x,H1,I1,r1,k,o,ex,ho,eD,hl,q1⟩=>?_);subst ex;obtain⟨tk,rfl⟩:=r1;have hX:SetX X.prog X.w s1.heap D L:=ho.at (I1.hok D _ eD).1;refine Zg (A00 (Zg (Nc hX (by show _<4096;omega) λh' hs X'=>Zi ?_)));obtain⟨o',ho',xo'⟩:=X'.obj;have eS:ObjOk X.prog X.w (upd H1 D (.set (λk=>decide (k∈L)) L.length)) s1.heap D (.set (λk=>decide (k∈L)) L.length):=hX.kind;have I2:=I1.retag (u' := .set (λk=>decide (k∈L)) L.length) eD (λ_ z=>by cases z) (λ_ z=>by cases z) (λ_ z=>by cases z) (λo xs z=>by injection z with z1 z2;cases z2) eS;have I3:=I2.write (x:=D) (e:=D) (o:=hoS o' (A0l L k)) (h':=h') (t':=s1.toks+1) (by rw[f9];exact True.intro) (.inl rfl) (λb u hb e=>(hs.2 b hb).trans e) ⟨o',ho'⟩ (Nb xo' ho');rw[QA]at I3;exact⟨_,_,_,I3,q1 o' xo'⟩
theorem LV{wi:TI}{elt:Expr}{te:TE}{p1 pos1:Pos}(own cn:List Str)(js:List Nat)(hi:PI X tg iter wi)(hg:∀ s2 H2 cs C fp,PG (c9 X scope (own++cn) s2 H2 cs C fp) tg g)(ht:∀ s2 H2 cs C fp,As (c9 X scope (own++cn) s2 H2 cs C fp) ifs tt)
 (he:∀ s2 H2 cs C fp,PE (c9 X scope (own++cn) s2 H2 cs C fp) elt te) (hc:X.calm=true) (hok:j9 X.env.scope scope own cn X.N js=true)
 (hs:∀ x,Zv iter X.env x=pure x) (hl:Gl X "sorted") (hml:X.mg "sorted"=none)
 (h2:Zp [.SetComp elt [⟨tg,iter,ifs,0⟩] scope pos] X.env=(false,eval (.SetComp elt [⟨tg,iter,ifs,0⟩] scope pos) X.env)::Zp [] X.env:=by rfl)
 (h3:(backTo pos1 (Zp [] X.env)).any (·.1)=false:=by rfl):PE X (.Call (.Name "sorted" p1) [.SetComp elt [⟨tg,iter,ifs,0⟩] scope pos] [] pos1) (Ju X.prog X.w wi g tt te own.length js):=by
 intro pq s σ H Q I h;have hok':=hok;unfold j9 at hok';simp only[W6,dQ,Wg,Wv,We,decide_eq_false_iff_not]at hok';obtain⟨⟨⟨⟨⟨⟨k1,k2⟩,k3⟩,k4⟩,k5⟩,k6⟩,k7⟩:=hok'
 have hfree:∀ x∈scope.names,x.2 = .free->∃ c,X.env.cells.lookup x.1=some c:=λx hx hf=>I.ok.has x.1 (by
  rcases k2 x hx with(z | z) | z
  ·exact absurd hf z
  ·exact .inl z
  ·exact .inr z)
 refine A04 (B5 I hl hml Er ?_ (by decide) (by decide));refine PyProof.Rows.callWith_builtin1 ?_ h2 h3;rw[h2];show Zl _ _ (spliced ((false,eval (.SetComp elt [⟨tg,iter,ifs,0⟩] scope pos) X.env)::backTo pos1 (Zp [] X.env))) _ _ s;refine Calls.spliced_cons ?_;rw[arm_eval_SetComp];refine A01 (use:=none) rfl hs (m6 hfree) k1 (λx hx hl=>?_) (thn (hi pq s σ H _ I h) λv s1 h1=>thn h1 λitv s2 h2=>?_)
 ·have:=g8 k3 (show(x.1,x.2)∈scope.names from hx);rw[this,hl]
 ·obtain⟨it,fp,tn,J,H2,e,I2,T,st2,f2,q⟩:=h2;subst e;obtain⟨W,⟨m0,w0⟩,cw⟩:=q _ I2.fresh
  have x0:SetXO X.prog X.w (At X.w) []:=by
   obtain⟨o,ho,xo⟩:=(IO (prog:=X.prog) (w:=X.w) s2.heap).obj;rw[WU _ rfl]at ho;cases ho;exact xo
  refine Ag (α:=List Int) (RR:=λacc C=>A0Z (Zm X.prog X.w) X.A X.xe none _ acc C) (o0:=At X.w) (u0:=hoS (At X.w) []) (a0:=[]) (tem:=TZ X.prog X.w te) LU (λhq=>Q9 hq) rfl (λH h e=>Nb x0 e) hok hc hg ht (Nd he) I2 T st2 f2 ⟨W,⟨m0,w0 _ x0⟩,cw⟩ ?_;intro C H' s' I' fC ⟨m,hn⟩ ⟨L,o,xo,eD,hL,q'⟩;obtain⟨f0,f1,f2',f3,f4,f5⟩:=fC;refine⟨m,hn,λh' hs'=>?_⟩;have I3:Inv X pq σ H' {s' with heap:=h'}:=I'.turned (t':=s'.toks) (λb o hb e=>(hs'.2 b hb).trans e) f0 f1 f3 f4 f5;have hX:SetX X.prog X.w h' s2.heap.objs.size L:=xo.at (I3.hok _ _ eD).1;refine Calls.spliced_nil ?_;refine Ja (s:={s' with heap:=h'}) (I3.ok.hd hc) hX hL λh3 tk3 d l out e k3 hz3 hl3 ho3=>?_;have J:=(I3.dr d).laid (h':=h3) (a:=l) (o := .lst ((srt L).map V.int)) (t':=tk3) k3 hz3 (show ObjOk X.prog X.w _ _ _ (.lst ((srt L).map V.int)) from ⟨?_,out.toList,e,CD ho3,by simpa using hl3⟩)
  ·exact⟨.ref l,_,J,rfl,q' l ((I3.dr d).hok.fresh hz3)⟩
  ·rw[W8,(Ai _).length_eq];exact XY (Ek (by omega))
theorem Gk{wi:TI}{kx vx:Expr}{tk tv:TE}{i:Nat}{x:Str}{px spos:Pos}(own cn:List Str)(js:List Nat)(hN:X.N.Nodup)(hix:X.N[i]?=some x)(hx:X.env.scope.names.lookup x=some .local)(hi:PI X tg iter wi)
 (hg:∀ s2 H2 cs C fp,PG (c9 X scope (own++cn) s2 H2 cs C fp) tg g) (ht:∀ s2 H2 cs C fp,As (c9 X scope (own++cn) s2 H2 cs C fp) ifs tt)
 (hk:∀ s2 H2 cs C fp,PE (c9 X scope (own++cn) s2 H2 cs C fp) kx tk) (hv:∀ s2 H2 cs C fp,PE (c9 X scope (own++cn) s2 H2 cs C fp) vx tv) (hc:X.calm=true) (hok:j9 X.env.scope scope own cn X.N js=true)
 (hsw:A08 (.DictComp kx vx [⟨tg,iter,ifs,0⟩] scope pos) (some (.Name x px)) spos.line X.env=pure true)
 (hs:∀ x,Zv iter X.env x=pure x):PS X (.Assign [.Name x px] (.DictComp kx vx [⟨tg,iter,ifs,0⟩] scope pos) spos) (Fw (Ir wi g tt tk tv own.length js) (Eb i)):=by
 intro pq s σ H D I h;have hok':=hok;unfold j9 at hok';simp only[W6,dQ,Wg,Wv,We,decide_eq_false_iff_not]at hok';obtain⟨⟨⟨⟨⟨⟨k1,k2⟩,k3⟩,k4⟩,k5⟩,k6⟩,k7⟩:=hok'
 have hfree:∀ x∈scope.names,x.2 = .free->∃ c,X.env.cells.lookup x.1=some c:=λx hx hf=>I.ok.has x.1 (by
  rcases k2 x hx with(z | z) | z
  ·exact absurd hf z
  ·exact .inl z
  ·exact .inr z)
 rw[A0G _ _ _ _ hsw];refine Zg (A00 (Zg ?_));show Zl _ X.A (do let _ <- A1n (.DictComp kx vx [⟨tg,iter,ifs,0⟩] scope pos) scope X.env _ newDict false (eval iter X.env) (some (assign (.Name x px) X.env))) _ _ s
 refine Zg (A02 (A01 (use:=some (assign (.Name x px) X.env)) (Q:=λ_ s'=>SP X pq D .next s') rfl hs (m6 hfree) k1 (λx hx hl=>?_)
  (thn (hi pq s σ H _ I h) λv s1 h1=>thn h1 λitv s2 h2=>?_)) (λ_ s' hq=>Zi (Zi hq)) λ_ _ e=>e)
 ·have:=g8 k3 (show(x.1,x.2)∈scope.names from hx);rw[this,hl]
 ·obtain⟨it,fp,tn,J,H2,e,I2,T,st2,f2,q⟩:=h2;subst e;refine Ag (RR:=λacc C=>A0Z (Zm X.prog X.w) X.A X.xe (some (assign (.Name x px) X.env)) (λ_ s'=>SP X pq D .next s') acc C) (o0:={cls := .type "dict",data := .dict #[]}) (u0 := .dK []) (a0:=[]) (tem:=Q8 tk tv) E6 (λhq=>Zt hq) rfl (λH h e=>?_) hok hc hg ht (Gj hk hv) I2 T st2 f2 (q _ I2.fresh) ?_
  ·exact FK (XA _) (beq_eq_false_iff_ne.mpr (Ne.symm (WZ I2.big))) .nil (let ⟨o,es,ep,ho,r⟩:=Ze.new (knd:=m8 X.prog X.w) s2.heap;by
    rw[WU _ rfl]at ho;cases ho;exact⟨_,es,ep,e,r⟩)
  intro C H' s' I' fC ⟨m,hn⟩ q';obtain⟨f0,f1,f2',f3,f4,f5⟩:=fC;show Zl _ X.A (assign (.Name x px) X.env (.ref s2.heap.objs.size)) _ _ _;refine A0A (CB I' hN hix (.inl hx) (v := .ref s2.heap.objs.size) rfl (λs3 I3 hch=>?_) (.inr hx));obtain⟨a,hsb,ha⟩:=hch
  have hCa:C≠a:=by
   rcases ha with z | z
   ·rw[z];exact f1
   ·exact λe=>f4 x a z e.symm
  refine⟨m,hn.sameBut hsb hCa,λh' hs'=>?_⟩;exact⟨_,H',I3.turned (t':=s3.toks) (λb o hb e=>(hs'.2 b hb).trans e) f0 f1 f3 f4 f5,q'⟩
end
noncomputable def Jv(E iter2:Expr)(acc:Zh)(env:Env):Sem Unit:=do
 let x <- eval iter2 env
 standAt iter2.pos
 let x <- Zv iter2 env x
 let _ <- runOwn (.compStart E 1 (<- holding [x] (pyIter x)) acc env) env
section
variable{prog:Zo}{w:Zq}{A:Zx}{elt tg iter tg2 iter2:Expr}{ifs ifs2:List Expr}{scope:Zu}{pos:Pos}
theorem CV{R:Result->Zj->Prop}{s:Zj}{it acc:Zh}{env:Env}
 (h0:codeAny (Zm prog w) A (.compLoop (.ListComp elt [⟨tg,iter,ifs,0⟩,⟨tg2,iter2,ifs2,0⟩] scope pos) 1 it acc env) R s)
 (h:Zl (Zm prog w) A (pyIter it) (λit' s'=>codeAny (Zm prog w) A (.compLoop (.ListComp elt [⟨tg,iter,ifs,0⟩,⟨tg2,iter2,ifs2,0⟩] scope pos) 1 it' acc env) R s')
   (notedBy (Zm prog w) A env λx s'=>R (.error x) s') s):
 codeAny (Zm prog w) A (.compStart (.ListComp elt [⟨tg,iter,ifs,0⟩,⟨tg2,iter2,ifs2,0⟩] scope pos) 1 it acc env) R s:=by
 refine A0v ?_;show Zl _ _ ((A1C (.ListComp elt [⟨tg,iter,ifs,0⟩,⟨tg2,iter2,ifs2,0⟩] scope pos) 1 it acc env).onRaise (λx=>do A1X x env;standAt A1I)) _ _ s;refine wpAny_notedAt ?_;unfold A1C;show Zl _ _ (ask >>= _) _ _ s;refine Zg (A0m (wpAny_ite ?_));split
 ·first
   | exact Zg (Zi (Zi (And.intro rfl h0)))
   | exact Zi (And.intro rfl h0)
 ·first
   | exact Zg (A0k (Zg (A00 (Zg (A02 h (λit' s' h'=>Zi (And.intro rfl h')) λ_ _ x=>x)))))
   | (refine Zg (A0k ?_);show Zl _ _ (standAt iter2.pos >>= _) _ _ s;exact Zg (A00 (Zg (A02 h (λit' s' h'=>Zi (And.intro rfl h')) λ_ _ x=>x))))
theorem QB:CForm prog w A (.ListComp elt [⟨tg,iter,ifs,0⟩,⟨tg2,iter2,ifs2,0⟩] scope pos) tg iter ifs (Jv (.ListComp elt [⟨tg,iter,ifs,0⟩,⟨tg2,iter2,ifs2,0⟩] scope pos) iter2) where
 turn:=λ_ _ _=>by
  unfold Jv;simp only[bind_assoc,pure_bind];rfl
 und:=λ_ _ _=>rfl
 den:=λ_ _ _=>rfl
 start:=λh0 h=>A13 h0 h
theorem cform2b:CForm prog w A (.ListComp elt [⟨tg,iter,ifs,0⟩,⟨tg2,iter2,ifs2,0⟩] scope pos) tg2 iter2 ifs2 (RB elt) 1 where
 turn:=λ_ _ _=>by rfl
 und:=λ_ _ _=>rfl
 den:=λ_ _ _=>rfl
 start:=λh0 h=>CV h0 h
end
noncomputable def QC(wi2:TI)(g2:TG)(tt2:TT)(te:TE)(D:Zk)(ys:List V)(σ:St)(H:Hp)(N:List V->Hp->Prop):Prop:=
 wi2 σ H λJ H1=>∃ W:Nat->Nat->List V->St->Hp->Prop,(∃ m,W 0 m ys σ H1)/\∀ i m zs σ H,W i m zs σ H->(J.stop i H/\N zs H)\/
  (J.go i H/\∃ N2:List V->St->Hp->Prop,(∀ zs' σ' H',N2 zs' σ' H'->∃ m',m'<m/\W (i+1) m' zs' σ' H')/\∀ x H',J.yld i H x H'->g2 x σ H' λσ2 H2=>tt2 σ2 H2 λb H3=>
    if b=true then te σ2 H3 λv H4=>H4 D=some (.lst zs)/\zs.length<Zn/\N2 (zs++[v]) σ2 (upd H4 D (.lst (zs++[v]))) else N2 zs σ2 H3)
noncomputable def Iu(wi:TI)(g:TG)(tt:TT)(wi2:TI)(g2:TG)(tt2:TT)(te:TE)(k:Nat)(js:List Nat):TE:=λσ H Q=>wi σ H λJ H1=>∀ D,H1 D=none->
 ∃ W:Nat->Nat->List V->Hp->Prop,(∃ m,W 0 m [] (upd H1 D (.lst [])))/\Dk J g tt (QC wi2 g2 tt2 te D) (Ao k js σ) (λH=>Q (.ref D) H) W
section
variable{Y:Cx}{tg elt iter tg2 iter2:Expr}{ifs ifs2:List Expr}{scope:Zu}{pos:Pos}{g2:TG}{tt2:TT}{te:TE}{wi2:TI}
theorem Nf(hc:Y.calm=true)(hi:PI Y tg2 iter2 wi2)(hg:PG Y tg2 g2)(ht:As Y ifs2 tt2)(he:PE Y elt te)(hs:∀ x,Zv iter2 Y.env x=pure x){D:Zk}{pq:List (Zk×Obj)}{s:Zj}{σ:St}{H:Hp}{ys:List V}{N:List V->Hp->Prop}(I:Inv Y pq σ H s)(hx:Y.xe=λ_ _=>False)
 (h:QC wi2 g2 tt2 te D ys σ H N):Zl (Zm Y.prog Y.w) Y.A (Jv (.ListComp elt [⟨tg,iter,ifs,0⟩,⟨tg2,iter2,ifs2,0⟩] scope pos) iter2 (.ref D) Y.env) (λ_ s1=>∃ σ1 a1 H1,Inv Y pq σ1 H1 s1/\N a1 H1) (λ_ _=>False) s:=by
 unfold Jv;have hi':=hi pq s σ H _ I h;rw[hx]at hi';refine Zg (thn hi' λv s1 h1=>?_);refine Zg (A00 ?_);rw[hs];refine Zg (Zi ?_);refine Zg (Zz (thn h1 λitv s2 h2=>?_));obtain⟨it,fp,tn,J,H2,e,I2,T,st2,f2,W,⟨m0,w0⟩,turn⟩:=h2;subst e;refine Zg (wpAny_runOwn (h:=none) ?_ ?_)
 rotate_left
 ·intro e;cases e
 have stat:∀{H':Hp},(∀ b∈fp,H' b=none)->∀ b∈fp,FpOk Y pq H' b:=λhn b hb=>⟨hn b hb,(f2 b hb).2⟩
 have loop:∀ R:Result->Zj->Prop,(∀ s',(∃ σ1 a1 H1,Inv Y pq σ1 H1 s'/\N a1 H1)->R (.ok .next) s')->codeAny (Zm Y.prog Y.w) Y.A (.compLoop (.ListComp elt [⟨tg,iter,ifs,0⟩,⟨tg2,iter2,ifs2,0⟩] scope pos) 1 (.ref it) (.ref D) Y.env) R s2:=λR hR=>by
  refine cform2b.loop (λn s'=>∃ i zs σ' H',Inv Y pq σ' H' s'/\tn i s'.heap/\(∀ b∈fp,H' b=none)/\W i n zs σ' H') ?_ m0 ⟨0,ys,σ,H2,I2,st2,λb hb=>(f2 b hb).1,w0⟩;rintro n s3 ⟨i,zs,σ3,H3,I3,st3,fr3,w3⟩;rcases turn i n zs σ3 H3 w3 with⟨stop,qn⟩ | ⟨go,N2,hN,step⟩
  ·refine thn (T.done Y rfl rfl rfl hc i pq s3 σ3 H3 _ I3 (stat fr3) st3 stop) λr s4 ⟨hr,I4⟩=>?_;subst hr;exact hR _ ⟨_,_,_,I4,qn⟩
  ·refine thn (T.item Y rfl rfl rfl hc i pq s3 σ3 H3 _ I3 (stat fr3) st3 go) λr s4 ⟨u,hr,h4⟩=>?_;subst hr;refine thn h4 λ_ s5 ⟨x,H5,I5,r5,y5,st5,fr5⟩=>?_;have I5':=I5.pinned (stat fr5) (T.obj _ _ st5);have e1:=hg _ s5 σ3 H5 x u _ I5' r5 (step x H5 y5);rw[hx]at e1;refine thn e1 λ_ s6 ⟨σ6,H6,I6,q6⟩=>?_;have e2:=ht _ s6 σ6 H6 _ I6 q6;rw[hx]at e2;refine thn e2 λb s7 ⟨H7,I7,q7⟩=>?_
   have again:∀{σ7:St} {H7:Hp} {s7:Zj} {zs7:List V},Inv Y (pq++Bq fp s5.heap) σ7 H7 s7->N2 zs7 σ7 H7->∃ m,m<n/\∃ i zs σ' H',Inv Y pq σ' H' s7/\tn i s7.heap/\(∀ b∈fp,H' b=none)/\W i m zs σ' H':=λ{σ7 H7 s7 zs7} I7 n7=>by
    obtain⟨m',hm,w7⟩:=hN zs7 σ7 H7 n7;refine⟨m',hm,i+1,zs7,σ7,H7,I7.unpinned,T.keep _ _ _ st5 λb hb o e=>(I7.pin (b,o) (WY _ (WY _ (AW hb e)))).1,λb hb=>?_,w7⟩;obtain⟨o,e,d⟩:=T.obj _ _ st5 b hb;exact(I7.pin (b,o) (WY _ (WY _ (AW hb e)))).2.1
   cases b with
   | false=>
     rw[iG WK];rw[iG WK]at q7;exact again I7 q7
   | true=>
     rw[iP rfl];rw[iP rfl]at q7;have e3:=he _ s7 σ6 H7 _ I7 q7;rw[hx]at e3;refine Zg (thn e3 λy s8 ⟨v,H8,I8,r8,hD8,hz8,q8⟩=>?_);have e4:=CC (X:=Y) _ s8 σ6 H8 (.ref D) [v] (.ref D) [y] (λ_ H9=>H9=upd H8 D (.lst (zs++[v]))) I8 rfl (.cons r8 .nil) ⟨_,zs,v,rfl,rfl,hD8,hz8,rfl⟩;rw[hx]at e4;refine Zg (thn e4 λ_ s9 ⟨z,H9,I9,r9,e9⟩=>?_);subst e9;exact Zi (again I9 q8)
 show codeAny _ (Y.A.mark none) _ _ s2;have hm:Y.A.mark none=Y.A:=rfl;rw[hm];refine cform2b.start (loop _ λs' h=>Zi h) (T.self _ 0 _ _ _ st2 (loop _ λs' h=>Zi h))
end
section
variable{X:Cx}{pq:List (Zk×Obj)}{σ:St}{H2:Hp}{s2:Zj}{tg elt iter tg2 iter2:Expr}{ifs ifs2:List Expr}{scope:Zu}{pos:Pos}{own cn:List Str}{js:List Nat}{g g2:TG}{tt tt2:TT}{te:TE}{wi2:TI}
theorem DK(hok:j9 X.env.scope scope own cn X.N js=true)(hc:X.calm=true)
 (hg:∀ s2 H2 cs C fp,PG (c9 X scope (own++cn) s2 H2 cs C fp) tg g) (ht:∀ s2 H2 cs C fp,As (c9 X scope (own++cn) s2 H2 cs C fp) ifs tt) (hi2:∀ s2 H2 cs C fp,PI (c9 X scope (own++cn) s2 H2 cs C fp) tg2 iter2 wi2) (hg2:∀ s2 H2 cs C fp,PG (c9 X scope (own++cn) s2 H2 cs C fp) tg2 g2) (ht2:∀ s2 H2 cs C fp,As (c9 X scope (own++cn) s2 H2 cs C fp) ifs2 tt2) (he:∀ s2 H2 cs C fp,PE (c9 X scope (own++cn) s2 H2 cs C fp) elt te)
 (hs2:∀ s2 H2 cs C fp x,Zv iter2 (c9 X scope (own++cn) s2 H2 cs C fp).env x=pure x)
 (I2:Inv X pq σ H2 s2) {it:Zk} {fp:List Zk} {tn:Nat->Heap->Prop} {J:It} (T:Turn X.prog X.w X.K tg J fp it tn) (st2:tn 0 s2.heap) (f2:∀ b∈fp,FpOk X pq H2 b)
 {Qe:Hp->Prop} (hW:∃ W:Nat->Nat->List V->Hp->Prop,(∃ m,W 0 m [] (upd H2 s2.heap.objs.size (.lst [])))/\Dk J g tt (QC wi2 g2 tt2 te s2.heap.objs.size) (Ao own.length js σ) Qe W)
 {RR:Zh->Zk->Result->Zj->Prop}
 (hRR:∀ C H' s',Inv X pq σ H' s'->FpOk X pq H' C->(∃ m,s'.heap.Ns C m)->Qe H'->RR (.ref s2.heap.objs.size) C (.ok .next) s'):
 Zl (Zm X.prog X.w) X.A (newList []) (λacc s₃=>Zl (Zm X.prog X.w) X.A (A0D scope X.env.globals (AL X.env scope.names []) [] X.env.qual none .none (some X.env)) (λcenv s₄=>
  codeAny (Zm X.prog X.w) X.A (.compStart (.ListComp elt [⟨tg,iter,ifs,0⟩,⟨tg2,iter2,ifs2,0⟩] scope pos) 0 (.ref it) acc {cenv with scope:=relabel scope X.env}) (RR acc cenv.locals) s₄) X.xe s₃) X.xe s2:=
 Ag (RR:=RR) (a0:=[]) (o0:={cls := .type "list",dict:=none,data := .seq ([]:List Zh).toArray}) (u0 := .lst []) (tem:=QC wi2 g2 tt2 te) QB (λhq=>Zt hq) rfl (λ_ _ hD=>⟨XA _,[],0,.nil,hD⟩) hok hc hg ht (λD s2 H2 cs C fp pq s σ H ys N I h=>Nf (Y:=c9 X scope (own++cn) s2 H2 cs C fp) hc (hi2 s2 H2 cs C fp) (hg2 s2 H2 cs C fp) (ht2 s2 H2 cs C fp) (he s2 H2 cs C fp) (hs2 s2 H2 cs C fp) I rfl h) I2 T st2 f2 hW hRR
theorem Ng{wi:TI}(own cn:List Str)(js:List Nat)(hi:PI X tg iter wi)(hg:∀ s2 H2 cs C fp,PG (c9 X scope (own++cn) s2 H2 cs C fp) tg g)(ht:∀ s2 H2 cs C fp,As (c9 X scope (own++cn) s2 H2 cs C fp) ifs tt)
 (hi2:∀ s2 H2 cs C fp,PI (c9 X scope (own++cn) s2 H2 cs C fp) tg2 iter2 wi2) (hg2:∀ s2 H2 cs C fp,PG (c9 X scope (own++cn) s2 H2 cs C fp) tg2 g2) (ht2:∀ s2 H2 cs C fp,As (c9 X scope (own++cn) s2 H2 cs C fp) ifs2 tt2)
 (he:∀ s2 H2 cs C fp,PE (c9 X scope (own++cn) s2 H2 cs C fp) elt te) (hs2:∀ s2 H2 cs C fp x,Zv iter2 (c9 X scope (own++cn) s2 H2 cs C fp).env x=pure x) (hc:X.calm=true:=by rfl) (hok:j9 X.env.scope scope own cn X.N js=true:=by kernel_rfl)
 (hs:∀ x,Zv iter X.env x=pure x:=by intro _;rfl):PE X (.ListComp elt [⟨tg,iter,ifs,0⟩,⟨tg2,iter2,ifs2,0⟩] scope pos) (Iu wi g tt wi2 g2 tt2 te own.length js):=by
 intro pq s σ H Q I h;have hok':=hok;unfold j9 at hok';simp only[W6,dQ,Wg,Wv,We,decide_eq_false_iff_not]at hok';obtain⟨⟨⟨⟨⟨⟨k1,k2⟩,k3⟩,k4⟩,k5⟩,k6⟩,k7⟩:=hok'
 have hfree:∀ x∈scope.names,x.2 = .free->∃ c,X.env.cells.lookup x.1=some c:=λx hx hf=>I.ok.has x.1 (by
  rcases k2 x hx with(z | z) | z
  ·exact absurd hf z
  ·exact .inl z
  ·exact .inr z)
 rw[eval_ListComp];refine A01 (use:=none) rfl hs (m6 hfree) k1 (λx hx hl=>?_) (thn (hi pq s σ H _ I h) λv s1 h1=>thn h1 λitv s2 h2=>?_)
 ·have:=g8 k3 (show(x.1,x.2)∈scope.names from hx);rw[this,hl]
 ·obtain⟨it,fp,tn,J,H2,e,I2,T,st2,f2,q⟩:=h2;subst e;refine DK (RR:=λacc C=>A0Z (Zm X.prog X.w) X.A X.xe none (EP X pq σ Q) acc C) hok hc hg ht hi2 hg2 ht2 he hs2 I2 T st2 f2 (q _ I2.fresh) ?_;intro C H' s' I' fC ⟨m,hn⟩ q';obtain⟨f0,f1,f2',f3,f4,f5⟩:=fC;refine⟨m,hn,λh' hs'=>⟨.ref s2.heap.objs.size,H',?_,rfl,q'⟩⟩;exact I'.turned (t':=s'.toks) (λb o hb e=>(hs'.2 b hb).trans e) f0 f1 f3 f4 f5
theorem Gn{wi:TI}{i:Nat}{x:Str}{px spos:Pos}(own cn:List Str)(js:List Nat)(hN:X.N.Nodup)(hix:X.N[i]?=some x)(hx:X.env.scope.names.lookup x=some .local)(hi:PI X tg iter wi)
 (hg:∀ s2 H2 cs C fp,PG (c9 X scope (own++cn) s2 H2 cs C fp) tg g) (ht:∀ s2 H2 cs C fp,As (c9 X scope (own++cn) s2 H2 cs C fp) ifs tt)
 (hi2:∀ s2 H2 cs C fp,PI (c9 X scope (own++cn) s2 H2 cs C fp) tg2 iter2 wi2) (hg2:∀ s2 H2 cs C fp,PG (c9 X scope (own++cn) s2 H2 cs C fp) tg2 g2) (ht2:∀ s2 H2 cs C fp,As (c9 X scope (own++cn) s2 H2 cs C fp) ifs2 tt2)
 (he:∀ s2 H2 cs C fp,PE (c9 X scope (own++cn) s2 H2 cs C fp) elt te) (hs2:∀ s2 H2 cs C fp x,Zv iter2 (c9 X scope (own++cn) s2 H2 cs C fp).env x=pure x) (hc:X.calm=true:=by rfl) (hok:j9 X.env.scope scope own cn X.N js=true:=by kernel_rfl)
 (hsw:A08 (.ListComp elt [⟨tg,iter,ifs,0⟩,⟨tg2,iter2,ifs2,0⟩] scope pos) (some (.Name x px)) spos.line X.env=pure true:=by rfl)
 (hs:∀ x,Zv iter X.env x=pure x:=by intro _;rfl):PS X (.Assign [.Name x px] (.ListComp elt [⟨tg,iter,ifs,0⟩,⟨tg2,iter2,ifs2,0⟩] scope pos) spos) (Fw (Iu wi g tt wi2 g2 tt2 te own.length js) (Eb i)):=by
 intro pq s σ H D I h;have hok':=hok;unfold j9 at hok';simp only[W6,dQ,Wg,Wv,We,decide_eq_false_iff_not]at hok';obtain⟨⟨⟨⟨⟨⟨k1,k2⟩,k3⟩,k4⟩,k5⟩,k6⟩,k7⟩:=hok'
 have hfree:∀ x∈scope.names,x.2 = .free->∃ c,X.env.cells.lookup x.1=some c:=λx hx hf=>I.ok.has x.1 (by
  rcases k2 x hx with(z | z) | z
  ·exact absurd hf z
  ·exact .inl z
  ·exact .inr z)
 rw[A0G _ _ _ _ hsw];refine Zg (A00 (Zg ?_));show Zl _ X.A (do let _ <- A1n (.ListComp elt [⟨tg,iter,ifs,0⟩,⟨tg2,iter2,ifs2,0⟩] scope pos) scope X.env _ (newList []) false (eval iter X.env) (some (assign (.Name x px) X.env))) _ _ s
 refine Zg (A02 (A01 (use:=some (assign (.Name x px) X.env)) (Q:=λ_ s'=>SP X pq D .next s') rfl hs (m6 hfree) k1 (λx hx hl=>?_)
  (thn (hi pq s σ H _ I h) λv s1 h1=>thn h1 λitv s2 h2=>?_)) (λ_ s' hq=>Zi (Zi hq)) λ_ _ e=>e)
 ·have:=g8 k3 (show(x.1,x.2)∈scope.names from hx);rw[this,hl]
 ·obtain⟨it,fp,tn,J,H2,e,I2,T,st2,f2,q⟩:=h2;subst e;refine DK (RR:=λacc C=>A0Z (Zm X.prog X.w) X.A X.xe (some (assign (.Name x px) X.env)) (λ_ s'=>SP X pq D .next s') acc C) hok hc hg ht hi2 hg2 ht2 he hs2 I2 T st2 f2 (q _ I2.fresh) ?_;intro C H' s' I' fC ⟨m,hn⟩ q';obtain⟨f0,f1,f2',f3,f4,f5⟩:=fC;show Zl _ X.A (assign (.Name x px) X.env (.ref s2.heap.objs.size)) _ _ _;refine A0A (CB I' hN hix (.inl hx) (v := .ref s2.heap.objs.size) rfl (λs3 I3 hch=>?_) (.inr hx));obtain⟨a,hsb,ha⟩:=hch
  have hCa:C≠a:=by
   rcases ha with z | z
   ·rw[z];exact f1
   ·exact λe=>f4 x a z e.symm
  refine⟨m,hn.sameBut hsb hCa,λh' hs'=>?_⟩;exact⟨_,H',I3.turned (t':=s3.toks) (λb o hb e=>(hs'.2 b hb).trans e) f0 f1 f3 f4 f5,q'⟩
end
end L2
namespace Rf
open PySem L2
theorem join_some{α:Type}{o:Option (Option α)}{x:α}(h:o.join=some x):o=some (some x):=by
 cases o with
 | none=>cases h
 | some o=>cases o with
   | none=>cases h
   | some y=>cases h;rfl
theorem EnvOk.cap{K:W5}{as:List Zk}{H:Hp}{σ:St}{ρ:EnvS}(h:EnvOk K as H σ ρ)(k:Nat)(js:List Nat):EnvOk K as H (Ao k js σ) (Ap k js ρ):=by
 refine⟨by unfold Ao Ap;simp,λi x e=>?_⟩;unfold Ap at e;unfold Ao;by_cases hi:i<k
 ·rw[WX (by simpa using hi),XM,iP hi]at e;cases e
 ·rw[X6 (by simpa using hi),YI,WQ]at e;rw[X6 (by simpa using hi),YI,WQ];cases hj:js[i - k]? with
  | none=>rw[hj]at e;cases e
  | some j=>
    rw[hj]at e;have e':(ρ[j]?).join=some x:=oj e;obtain⟨v,hv,rv⟩:=h.2 j x (join_some e');exact⟨v,by simp only[Xj];rw[hv];rfl,rv⟩
theorem Ok.adopt{K:W5}{as:List Zk}{H:Hp}{S:Sto}{D:Zk}{vs:List V}{xs:List SV}(h:Ok K as H S)(n:D∉as)(hD:H D=some (.lst vs))(r:RlAll K as H vs xs):Ok K (as++[D]) H (S++[.lst xs]):=by
 have pre:as <+: as++[D]:=XO _ _;refine⟨by rw[W7,W7,h.len];rfl,?_,λk o a e ea=>?_⟩
 ·rw[XJ];refine⟨h.nd,by simp,λa ha b hb=>?_⟩;rw[W9.mp hb];intro z;subst z;exact n ha
 ·by_cases hk:k<S.length
  ·rw[WX hk]at e;rw[WX (by rw[h.len];exact hk)]at ea;exact(h.obj k o a e ea).mono pre (KeepU.refl _) λ_ z=>z
  ·have hk':k=S.length:=by
    have:=(gM e).1;rw[W7,Wh]at this;omega
   subst hk';rw[Wf]at e;rw[<-h.len,Wf]at ea;cases e;cases ea;exact⟨vs,hD,RlAll.mono pre (KeepU.refl _) xs vs r⟩
theorem CW{keep:Sto->Prop}{g:Tg}{t:WT}{e:WE}{ρ:EnvS}(mt:MonoT t)(me:Mono e){Q Q':List SV->Sto->Prop}(i:∀ ys S,Q ys S->Q' ys S):∀(xs ys:List SV) (S:Sto),A7 keep g t e ρ Q xs ys S->A7 keep g t e ρ Q' xs ys S
 | [],ys,S,h=>by unfold A7 at h ⊢;exact⟨h.1,i _ _ h.2⟩
 | x::xs,ys,S,h=>by
   unfold A7 at h ⊢;refine⟨h.1,l8 g (λρ2 q=>mt _ _ _ _ (λb S1 q=>i6 (λq=>me _ _ _ _ (λy S2 q=>⟨q.1,CW mt me i xs _ _ q.2⟩) q) (λq=>CW mt me i xs _ _ q) q) q) h.2⟩
theorem Mono.comp{k:Nat}{js:List Nat}{g:Tg}{i:WI}{t:WT}{e:WE}(mi:MonoI i)(mt:MonoT t)(me:Mono e):Mono (Jl k js g i t e):=λρ S P P' im h=>mi _ _ _ _ (λkeep xs S1 h=>CW mt me (λys S2 q=>im _ _ q) xs [] S1 h) h
theorem Gp{K:W5}{k:Nat}{js:List Nat}{g:Tg}{i:WI}{t:WT}{e:WE}(mi:MonoI i)(mt:MonoT t)(me:Mono e):∀ σ H Q,lift K (Jl k js g i t e) σ H Q->Mc (liftI K i) (Am K g) (liftT K t) (lift K e) k js σ H Q:=by
 rintro σ H Q ⟨as,ρ,S,ok,en,h⟩;refine⟨as,ρ,S,ok,en,mi _ _ _ _ (λkeep xs S1 h as1 H1 J g1 ok1 W=>?_) h⟩;intro D hD;have Dn:D∉as1:=ok1.free hD
 refine⟨λi m vs H2=>m=xs.length - i/\i<=xs.length/\∃ as2 S2 ys,Go as1 H1 as2 H2/\Ok K as2 H2 S2/\D∉as2/\H2 D=some (.lst vs)/\RlAll K as2 H2 vs ys/\
  A7 keep g t e (Ap k js ρ) (λys S2=>Post K as H Q (.loc S2.length) (S2++[.lst ys])) (xs.drop i) ys S2,⟨xs.length,by simp,XA _,as1,S1,[],Go.new hD,ok1.new hD,Dn,f9,.nil,h⟩,?_⟩
 rintro i m vs H2 ⟨rfl,hi,as2,S2,ys,g2,ok2,n2,d2,rs,h⟩;by_cases hlt:i<xs.length
 ·right;rw[Wz hlt]at h;unfold A7 at h;obtain⟨kp,h⟩:=h;obtain⟨w1,_⟩:=W as2 H2 S2 (g2.gu ok1) ok2 kp;obtain⟨go,yl⟩:=w1 i xs[i] (WB hlt)
  refine⟨go,λvs' H'=>∃ as2 S2 ys,Go as1 H1 as2 H'/\Ok K as2 H' S2/\D∉as2/\H' D=some (.lst vs')/\RlAll K as2 H' vs' ys/\
   A7 keep g t e (Ap k js ρ) (λys S2=>Post K as H Q (.loc S2.length) (S2++[.lst ys])) (xs.drop (i+1)) ys S2,λvs' H' z=>⟨xs.length - (i+1),by omega,rfl,hlt,z⟩,λx H3 y3=>?_⟩
  obtain⟨g3,ok3,rx⟩:=yl x H3 y3;have en3:EnvOk K as2 H3 (Ao k js σ) (Ap k js ρ):=((en.mono g1.pre (g1.ku ok)).mono (g2.trans g3).pre ((g2.trans g3).ku ok1)).cap k js;have rs3:=RlAll.mono g3.pre (g3.ku ok2) ys vs rs;obtain⟨d3,n3⟩:=g3.keep D _ d2 n2;refine⟨as2,Ap k js ρ,S2,_,ok3,en3,rx,l8 g (λρ2 q σ2 en2=>?_) h⟩;refine⟨as2,ρ2,S2,ok3,en2,mt _ _ _ _ (λb S4 q as4 H4 g4 ok4=>?_) q⟩;obtain⟨d4,n4⟩:=g4.keep D _ d3 n3;have rs4:=RlAll.mono g4.pre (g4.ku ok3) ys vs rs3;refine i6 (λq=>?_) (λq=>?_) q
  ·refine⟨as4,ρ2,S4,ok4,en2.mono g4.pre (g4.ku ok3),me _ _ _ _ (λy S5 q as5 H5 v g5 ok5 rv=>?_) q⟩;obtain⟨d5,n5⟩:=g5.keep D _ d4 n4;have rs5:=RlAll.mono g5.pre (g5.ku ok4) ys vs rs4;refine⟨d5,by rw[rs.length];exact CT q.1,as5,S5,ys++[y],?_,ok5.other d5 n5,n5,f9,?_,q.2⟩
   ·refine⟨(((g2.trans g3).trans g4).trans g5).pre,λb o hb nb=>?_⟩;obtain⟨z1,z2⟩:=(((g2.trans g3).trans g4).trans g5).keep b o hb nb;exact⟨by rw[upd_ne (f8 hb hD)];exact z1,z2⟩
   ·exact RlAll.mono (Wl _) (Aw d5 rfl) _ _ (rs5.append (.cons rv .nil))
  ·exact⟨as4,S4,ys,(g2.trans g3).trans g4,ok4,n4,d4,rs4,q⟩
 ·left;have hi':i=xs.length:=by omega
  subst hi';rw[Xd]at h;unfold A7 at h;obtain⟨kp,h⟩:=h;obtain⟨_,w2⟩:=W as2 H2 S2 (g2.gu ok1) ok2 kp;refine⟨w2,h (as2++[D]) H2 (.ref D) ?_ (ok2.adopt n2 d2 rs) (rl_loc.mpr ⟨D,by rw[<-ok2.len,Wf],rfl⟩)⟩;refine⟨(g1.pre.trans g2.pre).trans (XO _ _),λb o hb nb=>?_⟩;obtain⟨h1,n1⟩:=g1.keep b o hb nb;obtain⟨h2,n2'⟩:=g2.keep b o h1 n1;refine⟨h2,?_⟩;rw[WH,W9];rintro(z | z)
  ·exact n2' z
  ·exact f8 h1 hD z
theorem BJ{keep:Sto->Prop}{g:Tg}{t:WT}{e:WE}(mt:MonoT t)(me:Mono e){Q Q':List SV->Sto->Prop}(i:∀ ys S,Q ys S->Q' ys S):∀(xs:List SV) (ρ:EnvS) (ys:List SV) (S:Sto),v6 keep g t e Q xs ρ ys S->v6 keep g t e Q' xs ρ ys S
 | [],ρ,ys,S,h=>by unfold v6 at h ⊢;exact⟨h.1,i _ _ h.2⟩
 | x::xs,ρ,ys,S,h=>by
   unfold v6 at h ⊢;refine⟨h.1,l8 g (λρ2 q=>mt _ _ _ _ (λb S1 q=>i6 (λq=>me _ _ _ _ (λy S2 q=>⟨q.1,BJ mt me i xs _ _ _ q.2⟩) q) (λq=>BJ mt me i xs _ _ _ q) q) q) h.2⟩
theorem C0{keep:Sto->Prop}{g g2:Tg}{t t2:WT}{i2:WI}{e:WE}{ρ:EnvS}(mt:MonoT t)(mi2:MonoI i2)(mt2:MonoT t2)(me:Mono e){Q Q':List SV->Sto->Prop}(i:∀ ys S,Q ys S->Q' ys S):∀(xs ys:List SV) (S:Sto),v5 keep g t g2 i2 t2 e ρ Q xs ys S->v5 keep g t g2 i2 t2 e ρ Q' xs ys S
 | [],ys,S,h=>by unfold v5 at h ⊢;exact⟨h.1,i _ _ h.2⟩
 | x::xs,ys,S,h=>by
   unfold v5 at h ⊢;refine⟨h.1,l8 g (λρ2 q=>mt _ _ _ _ (λb S1 q=>i6 (λq=>mi2 _ _ _ _ (λkeep2 xs2 S2 q=>BJ mt2 me (λys' S3 q=>C0 mt mi2 mt2 me i xs _ _ q) _ _ _ _ q) q) (λq=>C0 mt mi2 mt2 me i xs _ _ q) q) q) h.2⟩
theorem Mono.comp2{k:Nat}{js:List Nat}{g g2:Tg}{i i2:WI}{t t2:WT}{e:WE}(mi:MonoI i)(mt:MonoT t)(mi2:MonoI i2)(mt2:MonoT t2)(me:Mono e):Mono (FR k js g i t g2 i2 t2 e):=λρ S P P' im h=>mi _ _ _ _ (λkeep xs S1 h=>C0 mt mi2 mt2 me (λys S2 q=>im _ _ q) xs [] S1 h) h
theorem F3{K:W5}{k:Nat}{js:List Nat}{g g2:Tg}{i i2:WI}{t t2:WT}{e:WE}(mi:MonoI i)(mt:MonoT t)(mi2:MonoI i2)(mt2:MonoT t2)(me:Mono e):∀ σ H Q,lift K (FR k js g i t g2 i2 t2 e) σ H Q->Iu (liftI K i) (Am K g) (liftT K t) (liftI K i2) (Am K g2) (liftT K t2) (lift K e) k js σ H Q:=by
 rintro σ H Q ⟨as,ρ,S,ok,en,h⟩;refine⟨as,ρ,S,ok,en,mi _ _ _ _ (λkeep xs S1 h as1 H1 J g1 ok1 W=>?_) h⟩;intro D hD;have Dn:D∉as1:=ok1.free hD
 refine⟨λi m vs H2=>m=xs.length - i/\i<=xs.length/\∃ as2 S2 ys,Go as1 H1 as2 H2/\Ok K as2 H2 S2/\D∉as2/\H2 D=some (.lst vs)/\RlAll K as2 H2 vs ys/\
  v5 keep g t g2 i2 t2 e (Ap k js ρ) (λys S2=>Post K as H Q (.loc S2.length) (S2++[.lst ys])) (xs.drop i) ys S2,⟨xs.length,by simp,XA _,as1,S1,[],Go.new hD,ok1.new hD,Dn,f9,.nil,h⟩,?_⟩
 rintro i m vs H2 ⟨rfl,hi,as2,S2,ys,g2,ok2,n2,d2,rs,h⟩;by_cases hlt:i<xs.length
 ·right;rw[Wz hlt]at h;unfold v5 at h;obtain⟨kp,h⟩:=h;obtain⟨w1,_⟩:=W as2 H2 S2 (g2.gu ok1) ok2 kp;obtain⟨go,yl⟩:=w1 i xs[i] (WB hlt)
  refine⟨go,λvs' H'=>∃ as2 S2 ys,Go as1 H1 as2 H'/\Ok K as2 H' S2/\D∉as2/\H' D=some (.lst vs')/\RlAll K as2 H' vs' ys/\
   v5 keep g t _ i2 t2 e (Ap k js ρ) (λys S2=>Post K as H Q (.loc S2.length) (S2++[.lst ys])) (xs.drop (i+1)) ys S2,λvs' H' z=>⟨xs.length - (i+1),by omega,rfl,hlt,z⟩,λx H3 y3=>?_⟩
  obtain⟨g3,ok3,rx⟩:=yl x H3 y3;have en3:EnvOk K as2 H3 (Ao k js σ) (Ap k js ρ):=((en.mono g1.pre (g1.ku ok)).mono (g2.trans g3).pre ((g2.trans g3).ku ok1)).cap k js;have rs3:=RlAll.mono g3.pre (g3.ku ok2) ys vs rs;obtain⟨d3,n3⟩:=g3.keep D _ d2 n2;refine⟨as2,Ap k js ρ,S2,_,ok3,en3,rx,l8 g (λρ2 q σ2 en2=>?_) h⟩;refine⟨as2,ρ2,S2,ok3,en2,mt _ _ _ _ (λb S4 q as4 H4 g4 ok4=>?_) q⟩;obtain⟨d4,n4⟩:=g4.keep D _ d3 n3;have rs4:=RlAll.mono g4.pre (g4.ku ok3) ys vs rs3;refine i6 (λq=>?_) (λq=>?_) q
  ·refine⟨as4,ρ2,S4,ok4,en2.mono g4.pre (g4.ku ok3),mi2 _ _ _ _ (λkeep2 xs2 S5 q as5 H5 J2 g5 ok5 W2=>?_) q⟩;obtain⟨d5,n5⟩:=g5.keep D _ d4 n4;have rs5:=RlAll.mono g5.pre (g5.ku ok4) ys vs rs4;have en5:=(en2.mono g4.pre (g4.ku ok3)).mono g5.pre (g5.ku ok4);have G5:=((g2.trans g3).trans g4).trans g5
   refine⟨λi' m zs σ' H'=>m=xs2.length - i'/\i'<=xs2.length/\∃ as6 S6 ws ρ6,Go as1 H1 as6 H'/\Gu as5 H5 as6 H'/\Ok K as6 H' S6/\D∉as6/\H' D=some (.lst zs)/\RlAll K as6 H' zs ws/\EnvOk K as6 H' σ' ρ6/\
    v6 keep2 _ t2 e (λys' S3=>v5 keep g t _ i2 t2 e (Ap k js ρ) (λys S2=>Post K as H Q (.loc S2.length) (S2++[.lst ys])) (xs.drop (i+1)) ys' S3) (xs2.drop i') ρ6 ws S6,⟨xs2.length,by simp,XA _,as5,S5,ys,ρ2,G5,⟨Wl _,KeepU.refl _⟩,ok5,n5,d5,rs5,en5,q⟩,?_⟩
   rintro i' m zs σ' H6 ⟨rfl,hi',as6,S6,ws,ρ6,G6,u6,ok6,n6,d6,rs6,en6,h⟩;by_cases hlt':i'<xs2.length
   ·right;rw[Wz hlt']at h;unfold v6 at h;obtain⟨kp,h⟩:=h;obtain⟨w1,_⟩:=W2 as6 H6 S6 u6 ok6 kp;obtain⟨go,yl⟩:=w1 i' xs2[i'] (WB hlt')
    refine⟨go,λzs' σ' H'=>∃ as6 S6 ws ρ6,Go as1 H1 as6 H'/\Gu as5 H5 as6 H'/\Ok K as6 H' S6/\D∉as6/\H' D=some (.lst zs')/\RlAll K as6 H' zs' ws/\EnvOk K as6 H' σ' ρ6/\
     v6 keep2 _ t2 e (λys' S3=>v5 keep g t _ i2 t2 e (Ap k js ρ) (λys S2=>Post K as H Q (.loc S2.length) (S2++[.lst ys])) (xs.drop (i+1)) ys' S3) (xs2.drop (i'+1)) ρ6 ws S6,λzs' σ' H' z=>⟨xs2.length - (i'+1),by omega,rfl,hlt',z⟩,λx H7 y7=>?_⟩
    obtain⟨g7,ok7,rx⟩:=yl x H7 y7;have en7:=en6.mono g7.pre (g7.ku ok6);have rs7:=RlAll.mono g7.pre (g7.ku ok6) ws zs rs6;obtain⟨d7,n7⟩:=g7.keep D _ d6 n6;refine⟨as6,ρ6,S6,_,ok7,en7,rx,l8 _ (λρ8 q σ8 en8=>?_) h⟩;refine⟨as6,ρ8,S6,ok7,en8,mt2 _ _ _ _ (λb S9 q as9 H9 g9 ok9=>?_) q⟩;obtain⟨d9,n9⟩:=g9.keep D _ d7 n7;have rs9:=RlAll.mono g9.pre (g9.ku ok7) ws zs rs7;have en9:=en8.mono g9.pre (g9.ku ok7);have u9:Gu as5 H5 as9 H9:=⟨(u6.pre.trans g7.pre).trans g9.pre,(u6.kp.trans (g7.ku ok6)).trans (g9.ku ok7)⟩
    refine i6 (λq=>?_) (λq=>?_) q
    ·refine⟨as9,ρ8,S9,ok9,en9,me _ _ _ _ (λy Sa q asa Ha v ga oka rv=>?_) q⟩;obtain⟨da,na⟩:=ga.keep D _ d9 n9;have rsa:=RlAll.mono ga.pre (ga.ku ok9) ws zs rs9;have kd:KeepU Ha (upd Ha D (.lst (zs++[v]))):=Aw da rfl;refine⟨da,by rw[rs6.length];exact CT q.1,asa,Sa,ws++[y],ρ8,?_,⟨u9.pre.trans ga.pre,(u9.kp.trans (ga.ku ok9)).trans kd⟩,oka.other da na,na,f9,RlAll.mono (Wl _) kd _ _ (rsa.append (.cons rv .nil)),(en9.mono ga.pre (ga.ku ok9)).mono (Wl _) kd,q.2⟩;have Ga:=((G6.trans g7).trans g9).trans ga;refine⟨Ga.pre,λb o hb nb=>?_⟩;obtain⟨z1,z2⟩:=Ga.keep b o hb nb;exact⟨by rw[upd_ne (f8 hb hD)];exact z1,z2⟩
    ·exact⟨as9,S9,ws,ρ8,(G6.trans g7).trans g9,u9,ok9,n9,d9,rs9,en9,q⟩
   ·left;have hi2:i'=xs2.length:=by omega
    subst hi2;rw[Xd]at h;unfold v6 at h;obtain⟨kp,h⟩:=h;obtain⟨_,w2⟩:=W2 as6 H6 S6 u6 ok6 kp;exact⟨w2,as6,S6,ws,G6,ok6,n6,d6,rs6,h⟩
  ·exact⟨as4,S4,ys,(g2.trans g3).trans g4,ok4,n4,d4,rs4,q⟩
 ·left;have hi':i=xs.length:=by omega
  subst hi';rw[Xd]at h;unfold v5 at h;obtain⟨kp,h⟩:=h;obtain⟨_,w2⟩:=W as2 H2 S2 (g2.gu ok1) ok2 kp;refine⟨w2,h (as2++[D]) H2 (.ref D) ?_ (ok2.adopt n2 d2 rs) (rl_loc.mpr ⟨D,by rw[<-ok2.len,Wf],rfl⟩)⟩;refine⟨(g1.pre.trans g2.pre).trans (XO _ _),λb o hb nb=>?_⟩;obtain⟨h1,n1⟩:=g1.keep b o hb nb;obtain⟨h2,n2'⟩:=g2.keep b o h1 n1;refine⟨h2,?_⟩;rw[WH,W9];rintro(z | z)
  ·exact n2' z
  ·exact f8 h1 hD z
theorem Ok.adoptO{K:W5}{as:List Zk}{H:Hp}{S:Sto}{D:Zk}{x:SO}(h:Ok K as H S)(n:D∉as)(r:RlO K (as++[D]) H D x):Ok K (as++[D]) H (S++[x]):=by
 have pre:as <+: as++[D]:=XO _ _;refine⟨by rw[W7,W7,h.len];rfl,?_,λk o a e ea=>?_⟩
 ·rw[XJ];refine⟨h.nd,by simp,λa ha b hb=>?_⟩;rw[W9.mp hb];intro z;subst z;exact n ha
 ·by_cases hk:k<S.length
  ·rw[WX hk]at e;rw[WX (by rw[h.len];exact hk)]at ea;exact(h.obj k o a e ea).mono pre (KeepU.refl _) λ_ z=>z
  ·have hk':k=S.length:=by
    have:=(gM e).1;rw[W7,Wh]at this;omega
   subst hk';rw[Wf]at e;rw[<-h.len,Wf]at ea;cases e;cases ea;exact r
theorem Ok.otherO{K:W5}{as:List Zk}{H:Hp}{S:Sto}(h:Ok K as H S){b:Zk}{u v:HO}(hb:H b=some u)(hi:imm u=false)(n:b∉as):Ok K as (upd H b v) S:=⟨h.len,h.nd,λk o a e ea=>(h.obj k o a e ea).mono (Wl as) (Aw hb hi) λws hw=>by
 rw[upd_ne (λz=>n (by rw[<-z];exact WC ea))];exact hw⟩
theorem C1{keep:Sto->Prop}{g:Tg}{t:WT}{e f:WE}{ρ:EnvS}(mt:MonoT t)(me:Mono e)(mf:Mono f){Q Q':List (Int×SV)->Sto->Prop}(i:∀ ys S,Q ys S->Q' ys S):∀(xs:List SV) (ys:List (Int×SV)) (S:Sto),w6 keep g t e f ρ Q xs ys S->w6 keep g t e f ρ Q' xs ys S
 | [],ys,S,h=>by unfold w6 at h ⊢;exact⟨h.1,i _ _ h.2⟩
 | x::xs,ys,S,h=>by
   unfold w6 at h ⊢;refine⟨h.1,l8 g (λρ2 q=>mt _ _ _ _ (λb S1 q=>i6 (λq=>me _ _ _ _ (λy S2 q=>mf _ _ _ _ (λz S3 ⟨j,a,b,c⟩=>⟨j,a,b,C1 mt me mf i xs _ _ c⟩) q) q) (λq=>C1 mt me mf i xs _ _ q) q) q) h.2⟩
theorem Mono.dcomp{k:Nat}{js:List Nat}{g:Tg}{i:WI}{t:WT}{e f:WE}(mi:MonoI i)(mt:MonoT t)(me:Mono e)(mf:Mono f):Mono (FS k js g i t e f):=λρ S P P' im h=>mi _ _ _ _ (λkeep xs S1 h=>C1 mt me mf (λys S2 q=>im _ _ q) xs [] S1 h) h
theorem F4{K:W5}{k:Nat}{js:List Nat}{g:Tg}{i:WI}{t:WT}{e f:WE}(mi:MonoI i)(mt:MonoT t)(me:Mono e)(mf:Mono f):∀ σ H Q,lift K (FS k js g i t e f) σ H Q->Ir (liftI K i) (Am K g) (liftT K t) (lift K e) (lift K f) k js σ H Q:=by
 rintro σ H Q ⟨as,ρ,S,ok,en,h⟩;refine⟨as,ρ,S,ok,en,mi _ _ _ _ (λkeep xs S1 h as1 H1 J g1 ok1 W=>?_) h⟩;intro D hD;have Dn:D∉as1:=ok1.free hD
 refine⟨λi m ks H2=>m=xs.length - i/\i<=xs.length/\∃ as2 S2 kvs,Go as1 H1 as2 H2/\Ok K as2 H2 S2/\D∉as2/\H2 D=some (.dK ks)/\RlD K as2 H2 ks kvs/\
  w6 keep g t e f (Ap k js ρ) (λkvs S2=>Post K as H Q (.loc S2.length) (S2++[.dct kvs])) (xs.drop i) kvs S2,⟨xs.length,by simp,XA _,as1,S1,[],Go.new hD,ok1.new hD,Dn,f9,rfl,h⟩,?_⟩
 rintro i m ks H2 ⟨rfl,hi,as2,S2,kvs,g2,ok2,n2,d2,rs,h⟩;by_cases hlt:i<xs.length
 ·right;rw[Wz hlt]at h;unfold w6 at h;obtain⟨kp,h⟩:=h;obtain⟨w1,_⟩:=W as2 H2 S2 (g2.gu ok1) ok2 kp;obtain⟨go,yl⟩:=w1 i xs[i] (WB hlt)
  refine⟨go,λks' H'=>∃ as2 S2 kvs,Go as1 H1 as2 H'/\Ok K as2 H' S2/\D∉as2/\H' D=some (.dK ks')/\RlD K as2 H' ks' kvs/\
   w6 keep g t e f (Ap k js ρ) (λkvs S2=>Post K as H Q (.loc S2.length) (S2++[.dct kvs])) (xs.drop (i+1)) kvs S2,λvs' H' z=>⟨xs.length - (i+1),by omega,rfl,hlt,z⟩,λx H3 y3=>?_⟩
  obtain⟨g3,ok3,rx⟩:=yl x H3 y3;have en3:EnvOk K as2 H3 (Ao k js σ) (Ap k js ρ):=((en.mono g1.pre (g1.ku ok)).mono (g2.trans g3).pre ((g2.trans g3).ku ok1)).cap k js;have rs3:=RlD.mono g3.pre (g3.ku ok2) kvs ks rs;obtain⟨d3,n3⟩:=g3.keep D _ d2 n2;refine⟨as2,Ap k js ρ,S2,_,ok3,en3,rx,l8 g (λρ2 q σ2 en2=>?_) h⟩;refine⟨as2,ρ2,S2,ok3,en2,mt _ _ _ _ (λb S4 q as4 H4 g4 ok4=>?_) q⟩;obtain⟨d4,n4⟩:=g4.keep D _ d3 n3;have rs4:=RlD.mono g4.pre (g4.ku ok3) kvs ks rs3;refine i6 (λq=>?_) (λq=>?_) q
  ·refine⟨as4,ρ2,S4,ok4,en2.mono g4.pre (g4.ku ok3),me _ _ _ _ (λy S5 q as5 H5 kv g5 ok5 rk=>?_) q⟩;obtain⟨d5,n5⟩:=g5.keep D _ d4 n4;have rs5:=RlD.mono g5.pre (g5.ku ok4) kvs ks rs4;refine⟨as5,ρ2,S5,ok5,(en2.mono g4.pre (g4.ku ok3)).mono g5.pre (g5.ku ok4),mf _ _ _ _ (λz S6 ⟨j,ey,hb,q6⟩ as6 H6 v g6 ok6 rv=>?_) q⟩;subst ey;obtain rfl:=rl_int.mp rk;obtain⟨d6,n6⟩:=g6.keep D _ d5 n5;have rs6:=RlD.mono g6.pre (g6.ku ok5) kvs ks rs5;refine⟨.inl j,rfl,d6,by rw[rs.length];exact CT hb,as6,S6,BF kvs j z,?_,ok6.otherO d6 rfl n6,n6,f9,?_,q6⟩
   ·refine⟨((((g2.trans g3).trans g4).trans g5).trans g6).pre,λb o hb nb=>?_⟩;obtain⟨z1,z2⟩:=((((g2.trans g3).trans g4).trans g5).trans g6).keep b o hb nb;exact⟨by rw[upd_ne (f8 hb hD)];exact z1,z2⟩
   ·exact RlD.mono (Wl _) (Aw d6 rfl) _ _ (rs6.put rv j)
  ·exact⟨as4,S4,kvs,(g2.trans g3).trans g4,ok4,n4,d4,rs4,q⟩
 ·left;have hi':i=xs.length:=by omega
  subst hi';rw[Xd]at h;unfold w6 at h;obtain⟨kp,h⟩:=h;obtain⟨_,w2⟩:=W as2 H2 S2 (g2.gu ok1) ok2 kp;refine⟨w2,h (as2++[D]) H2 (.ref D) ?_ (ok2.adoptO n2 ⟨ks,d2,RlD.mono (XO _ _) (KeepU.refl _) _ _ rs⟩) (rl_loc.mpr ⟨D,by rw[<-ok2.len,Wf],rfl⟩)⟩;refine⟨(g1.pre.trans g2.pre).trans (XO _ _),λb o hb nb=>?_⟩;obtain⟨h1,n1⟩:=g1.keep b o hb nb;obtain⟨h2,n2'⟩:=g2.keep b o h1 n1;refine⟨h2,?_⟩;rw[WH,W9];rintro(z | z)
  ·exact n2' z
  ·exact f8 h1 hD z
theorem C2{keep:Sto->Prop}{g:Tg}{t:WT}{e:WE}{ρ:EnvS}(mt:MonoT t)(me:Mono e){Q Q':List Int->Sto->Prop}(i:∀ ys S,Q ys S->Q' ys S):∀(xs:List SV) (ys:List Int) (S:Sto),w9 keep g t e ρ Q xs ys S->w9 keep g t e ρ Q' xs ys S
 | [],ys,S,h=>by unfold w9 at h ⊢;exact⟨h.1,i _ _ h.2⟩
 | x::xs,ys,S,h=>by
   unfold w9 at h ⊢;refine⟨h.1,l8 g (λρ2 q=>mt _ _ _ _ (λb S1 q=>i6 (λq=>me _ _ _ _ (λy S2 ⟨j,a,b,c⟩=>⟨j,a,b,C2 mt me i xs _ _ c⟩) q) (λq=>C2 mt me i xs _ _ q) q) q) h.2⟩
theorem Mono.srtsc{k:Nat}{js:List Nat}{g:Tg}{i:WI}{t:WT}{e:WE}(mi:MonoI i)(mt:MonoT t)(me:Mono e):Mono (FT k js g i t e):=λρ S P P' im h=>mi _ _ _ _ (λkeep xs S1 h=>C2 mt me (λys S2 q=>⟨q.1,im _ _ q.2⟩) xs [] S1 h) h
theorem D9(ns:List Int)(i:Int):AD (ns++[i])=PyProof.Rows.step_dedup (AD ns) i:=by
 unfold AD;rw[W7,Wh,PyProof.Rows.firstMet_succ];have e1:(ns++[i]).getD ns.length 0=i:=by simp
 have e2:PyProof.Rows.firstMet (λj=>(ns++[i]).getD j 0) ns.length=PyProof.Rows.firstMet (λj=>ns.getD j 0) ns.length:=by
  unfold PyProof.Rows.firstMet
  congr 1
  refine YQ λj hj=>?_;have hj:=Wt.mp hj;simp[WX hj]
 rw[e1,e2]
theorem LW{P:Zo}{w:Zq}{K:W5}{k:Nat}{js:List Nat}{g:Tg}{i:WI}{t:WT}{e:WE}(mi:MonoI i)(mt:MonoT t)(me:Mono e):∀ σ H Q,lift K (FT k js g i t e) σ H Q->Ju P w (liftI K i) (Am K g) (liftT K t) (lift K e) k js σ H Q:=by
 rintro σ H Q ⟨as,ρ,S,ok,en,h⟩;refine⟨as,ρ,S,ok,en,mi _ _ _ _ (λkeep xs S1 h as1 H1 J g1 ok1 W=>?_) h⟩;intro D hD;have Dn:D∉as1:=ok1.free hD
 refine⟨λi m L H2=>m=xs.length - i/\i<=xs.length/\∃ as2 S2 ns o,Go as1 H1 as2 H2/\Ok K as2 H2 S2/\D∉as2/\H2 D=some (hoS o L)/\SetXO P w o L/\L=AD ns/\
  w9 keep g t e (Ap k js ρ) (λns S2=>ns.length<64/\Post K as H Q (.loc S2.length) (S2++[.lst ((srt (AD ns)).map SV.int)])) (xs.drop i) ns S2,⟨xs.length,λo xo=>⟨by simp,XA _,as1,S1,[],o,Go.new hD,ok1.new hD,Dn,f9,xo,rfl,h⟩⟩,?_⟩
 rintro i m L H2 ⟨rfl,hi,as2,S2,ns,o,g2,ok2,n2,d2,xo,rfl,h⟩;by_cases hlt:i<xs.length
 ·right;rw[Wz hlt]at h;unfold w9 at h;obtain⟨kp,h⟩:=h;obtain⟨w1,_⟩:=W as2 H2 S2 (g2.gu ok1) ok2 kp;obtain⟨go,yl⟩:=w1 i xs[i] (WB hlt)
  refine⟨go,λL' H'=>∃ as2 S2 ns o,Go as1 H1 as2 H'/\Ok K as2 H' S2/\D∉as2/\H' D=some (hoS o L')/\SetXO P w o L'/\L'=AD ns/\
   w9 keep g t e (Ap k js ρ) (λns S2=>ns.length<64/\Post K as H Q (.loc S2.length) (S2++[.lst ((srt (AD ns)).map SV.int)])) (xs.drop (i+1)) ns S2,λvs' H' z=>⟨xs.length - (i+1),by omega,rfl,hlt,z⟩,λx H3 y3=>?_⟩
  obtain⟨g3,ok3,rx⟩:=yl x H3 y3;have en3:EnvOk K as2 H3 (Ao k js σ) (Ap k js ρ):=((en.mono g1.pre (g1.ku ok)).mono (g2.trans g3).pre ((g2.trans g3).ku ok1)).cap k js;obtain⟨d3,n3⟩:=g3.keep D _ d2 n2;refine⟨as2,Ap k js ρ,S2,_,ok3,en3,rx,l8 g (λρ2 q σ2 en2=>?_) h⟩;refine⟨as2,ρ2,S2,ok3,en2,mt _ _ _ _ (λb S4 q as4 H4 g4 ok4=>?_) q⟩;obtain⟨d4,n4⟩:=g4.keep D _ d3 n3;refine i6 (λq=>?_) (λq=>?_) q
  ·refine⟨as4,ρ2,S4,ok4,en2.mono g4.pre (g4.ku ok3),me _ _ _ _ (λy S5 ⟨j,ey,hb,q5⟩ as5 H5 kv g5 ok5 rk=>?_) q⟩;subst ey;obtain rfl:=rl_int.mp rk;obtain⟨d5,n5⟩:=g5.keep D _ d4 n4;refine⟨j,o,rfl,xo,d5,Ws (PyProof.Rows.firstMet_length_le _ _) (XY hb),λo' xo'=>⟨as5,S5,ns++[j],o',?_,ok5.otherO d5 rfl n5,n5,f9,xo',(D9 ns j).symm,q5⟩⟩;refine⟨(((g2.trans g3).trans g4).trans g5).pre,λb o hb nb=>?_⟩;obtain⟨z1,z2⟩:=(((g2.trans g3).trans g4).trans g5).keep b o hb nb;exact⟨by rw[upd_ne (f8 hb hD)];exact z1,z2⟩
  ·exact⟨as4,S4,ns,o,(g2.trans g3).trans g4,ok4,n4,d4,xo,rfl,q⟩
 ·left;have hi':i=xs.length:=by omega
  subst hi';rw[Xd]at h;unfold w9 at h;obtain⟨kp,hl,h⟩:=h;obtain⟨_,w2⟩:=W as2 H2 S2 (g2.gu ok1) ok2 kp;refine⟨w2,AD ns,o,xo,d2,YG (PyProof.Rows.firstMet_length_le _ _) hl,?_⟩;exact AE ok2 RlAll.ints (h.mono (g1.trans g2))
theorem Gq{scope sc:Zu}{x:Str}(h:scope.names.lookup x=some .local):(AJ scope sc).names.lookup x=some .local:=by
 have go:∀ l:List (Str×A09),l.lookup x=some .local->(l.map λ(n,k)=>if (k == .free&&sc.kind == .function&&sc.names.lookup n == some .cell) then (n,.cell) else (n,k)).lookup x=some .local:=by
  intro l
  induction l with
  | nil=>intro h;cases h
  | cons a r ih=>
    obtain⟨n,k⟩:=a;intro h;rw[Xb]at h;rw[Wo];cases hb:x == n with
    | true=>
      rw[hb]at h;have:k = .local:=oj h;subst this;show Yo x ((n,NameKind.local)::_)=_;rw[Xb,hb]
    | false=>
      rw[hb]at h
      have e:∀ k',Yo x ((n,k')::(r.map λ(n,k)=>if (k == .free&&sc.kind == .function&&sc.names.lookup n == some .cell) then (n,.cell) else (n,k)))=some .local:=λk'=>by
       rw[Xb,hb];exact ih h
      show Yo x ((if (k == .free&&sc.kind == .function&&sc.names.lookup n == some .cell)=true then (n,NameKind.cell) else (n,k))::_)=_;split<;>exact e _
 exact go _ h
theorem Cok.comp{T:List Str}{Δ:Nat->Sn}{X:Cx}{k:Nat}{N:List Str}{sc scope:Zu}{own cn:List Str}{js:List Nat}(C:Cok T Δ X k N sc)(hok:j9 sc scope own cn N js=true)(s2:Zj)(H2:Hp)(cs:List (Str×Zk))(A:Zk)(fp:List Zk):Cok T Δ (c9 X scope (own++cn) s2 H2 cs A fp) own.length (own++cn) (AJ scope sc) where
 hN:=rfl
 hs:=by rw[<-C.hs];rfl
 nd:=by
  unfold j9 at hok;simp only[W6,dQ]at hok;exact hok.1.2
 calm:=C.calm
 fn:=λi x hi hx hc=>by
  unfold j9 at hok;simp only[W6,dQ,Wg,Wv]at hok
  have hm:x∈own:=by
   rw[WX hi]at hx;exact WC hx
  show(scope.names.lookup x == some .cell)=true;rcases hok.1.1.1.2 x hm with h | h
  ·rw[Gq h]at hc;cases hc
  ·rw[h];rfl
 un:=C.un
 bl:=C.bl
 rng:=C.rng
 enm:=C.enm
 zip:=C.zip
 st0:=C.st0
 dc0:=C.dc0
 ty:=C.ty
 gd:=C.gd
 call:=C.call
 mono:=C.mono
theorem l7{r:Expr}(h:r6 r=true){env:Env}:∀ x,Zv r env x=pure x:=λx=>by cases r<;>first | rfl | cases h
theorem CI{T N:List Str}{sc:Zu}:∀{es:Exs} {rs:List Expr},BU T N sc es rs=true->rs.all e8=true
 | .nil,rs,h=>by unfold BU at h;rw[XF]at h;subst h;rfl
 | .cons e es,rs,h=>by
   unfold BU at h;replace h:=a6 h;obtain⟨x,hx,h⟩:=h;simp only[W6]at h;rw[BH hx,XW,h.1.2,CI h.2];rfl
theorem Tb{X:Cx}{i:Nat}{x:Str}{p:Pos}{N:List Str}{sc:Zu}{T:List Str}{Δ:Nat->Sn}{k:Nat}(C:Cok T Δ X k N sc)(h:nmB N sc i x=true):PE X (.Name x p) (Oh i):=by
 unfold nmB at h;simp only[W6,dQ,We]at h;exact TQ C h.1.1.1 h.1.1.2 h.1.2 h.2
theorem Jw{α:Type}{l:List α}(h:(!l.isEmpty)=true):∃ y ys,l=y::ys:=by
 cases l with
 | nil=>cases h
 | cons y ys=>exact⟨y,ys,rfl⟩
theorem Tc{X:Cx}{c:Expr}{a:WE×WT}(h:Good X c a):As X [c] (liftT X.K a.2):=Ma h.pt
theorem Nh{X:Cx}:As X [] (liftT X.K V3):=λpq s σ H Q I hw=>MZ pq s σ H Q I (let ⟨as,ρ,S,ok,en,h⟩:=hw;h as H (Go.refl _ _) ok)
theorem Iv{T:List Str}{Δ:Nat->Sn}{X:Cx}{k:Nat}{N:List Str}{sc scope:Zu}{own cn:List Str}{js:List Nat}{tg ri re:Expr}{ifs:List Expr}{p:Pos}{g:Tg}{i:WI}{t:WT}{e:WE×WT}(C:Cok T Δ X k N sc)(hok:j9 sc scope own cn N js=true)(hi:GoodI X tg ri i)
 (hg:∀ s2 H2 cs A fp,PG (c9 X scope (own++cn) s2 H2 cs A fp) tg (Am X.K g)) (ht:∀ s2 H2 cs A fp,As (c9 X scope (own++cn) s2 H2 cs A fp) ifs (liftT X.K t)) (mt:MonoT t) (he:∀ s2 H2 cs A fp,PE (c9 X scope (own++cn) s2 H2 cs A fp) re (lift X.K e.1)) (me:Mono e.1) (hn:r6 ri=true):
 Good X (.ListComp re [⟨tg,ri,ifs,0⟩] scope p) (tt1 (Jl own.length js g i t e.1)):=
 .one (i8 _ (P7 own cn js hi.pi hg ht he C.calm (by rw[C.hs,C.hN];exact hok) (l7 hn)) (Gp hi.m mt me)) (.comp hi.m mt me) rfl
theorem Gr{T:List Str}{Δ:Nat->Sn}{X:Cx}{k:Nat}{N:List Str}{sc scope:Zu}{own cn:List Str}{js:List Nat}{tg ri re tg2 ri2:Expr}{ifs ifs2:List Expr}{p:Pos}{g g2:Tg}{i i2:WI}{t t2:WT}{e:WE×WT}(C:Cok T Δ X k N sc)(hok:j9 sc scope own cn N js=true)(hi:GoodI X tg ri i)
 (hg:∀ s2 H2 cs A fp,PG (c9 X scope (own++cn) s2 H2 cs A fp) tg (Am X.K g)) (ht:∀ s2 H2 cs A fp,As (c9 X scope (own++cn) s2 H2 cs A fp) ifs (liftT X.K t)) (mt:MonoT t) (hi2:∀ s2 H2 cs A fp,PI (c9 X scope (own++cn) s2 H2 cs A fp) tg2 ri2 (liftI X.K i2)) (mi2:MonoI i2)
 (hg2:∀ s2 H2 cs A fp,PG (c9 X scope (own++cn) s2 H2 cs A fp) tg2 (Am X.K g2)) (ht2:∀ s2 H2 cs A fp,As (c9 X scope (own++cn) s2 H2 cs A fp) ifs2 (liftT X.K t2)) (mt2:MonoT t2) (he:∀ s2 H2 cs A fp,PE (c9 X scope (own++cn) s2 H2 cs A fp) re (lift X.K e.1)) (me:Mono e.1) (hn:r6 ri=true) (hn2:r6 ri2=true):
 Good X (.ListComp re [⟨tg,ri,ifs,0⟩,⟨tg2,ri2,ifs2,0⟩] scope p) (tt1 (FR own.length js g i t g2 i2 t2 e.1)):=
 .one (i8 _ (Ng own cn js hi.pi hg ht hi2 hg2 ht2 he (λ_ _ _ _ _=>l7 hn2) C.calm (by rw[C.hs,C.hN];exact hok) (l7 hn)) (F3 hi.m mt mi2 mt2 me)) (.comp2 hi.m mt mi2 mt2 me) rfl
theorem Gs{T:List Str}{Δ:Nat->Sn}{X:Cx}{k:Nat}{N:List Str}{sc scope:Zu}{own cn:List Str}{js:List Nat}{tg ri re rf:Expr}{ifs:List Expr}{p:Pos}{g:Tg}{i:WI}{t:WT}{e f:WE×WT}(C:Cok T Δ X k N sc)(hok:j9 sc scope own cn N js=true)(hi:GoodI X tg ri i)
 (hg:∀ s2 H2 cs A fp,PG (c9 X scope (own++cn) s2 H2 cs A fp) tg (Am X.K g)) (ht:∀ s2 H2 cs A fp,As (c9 X scope (own++cn) s2 H2 cs A fp) ifs (liftT X.K t)) (mt:MonoT t) (he:∀ s2 H2 cs A fp,PE (c9 X scope (own++cn) s2 H2 cs A fp) re (lift X.K e.1)) (me:Mono e.1) (hf:∀ s2 H2 cs A fp,PE (c9 X scope (own++cn) s2 H2 cs A fp) rf (lift X.K f.1)) (mf:Mono f.1) (hn:r6 ri=true):
 Good X (.DictComp re rf [⟨tg,ri,ifs,0⟩] scope p) (tt1 (FS own.length js g i t e.1 f.1)):=
 .one (i8 _ (Na own cn js hi.pi hg ht he hf C.calm (by rw[C.hs,C.hN];exact hok) (l7 hn)) (F4 hi.m mt me mf)) (.dcomp hi.m mt me mf) rfl
theorem Gv{T:List Str}{Δ:Nat->Sn}{X:Cx}{k:Nat}{N:List Str}{sc scope:Zu}{own cn:List Str}{js:List Nat}{tg ri re:Expr}{ifs:List Expr}{p p1 q1:Pos}{g:Tg}{i:WI}{t:WT}{e:WE×WT}(C:Cok T Δ X k N sc)(hgl:glo sc "sorted"=true)(hok:j9 sc scope own cn N js=true)(hi:GoodI X tg ri i)
 (hg:∀ s2 H2 cs A fp,PG (c9 X scope (own++cn) s2 H2 cs A fp) tg (Am X.K g)) (ht:∀ s2 H2 cs A fp,As (c9 X scope (own++cn) s2 H2 cs A fp) ifs (liftT X.K t)) (mt:MonoT t) (he:∀ s2 H2 cs A fp,PE (c9 X scope (own++cn) s2 H2 cs A fp) re (lift X.K e.1)) (me:Mono e.1) (hn:r6 ri=true):
 Good X (.Call (.Name "sorted" p1) [.SetComp re [⟨tg,ri,ifs,0⟩] scope p] [] q1) (tt1 (FT own.length js g i t e.1)):=by
 unfold glo at hgl;simp only[W6,bQ,We]at hgl;have gl:Gl X "sorted":=by show X.env.scope.names.lookup ("sorted":Str)=_;rw[C.hs];exact hgl.1.1
 exact .one (i8 _ (LV own cn js hi.pi hg ht he C.calm (by rw[C.hs,C.hN];exact hok) (l7 hn) gl (C.bl .sorted) rfl rfl) (LW hi.m mt me)) (.srtsc hi.m mt me) rfl
mutual
theorem c3{T:List Str}{Δ:Nat->Sn}:∀(e:Ex) (r:Expr) {X:Cx} {k:Nat} {N:List Str} {sc:Zu},Cok T Δ X k N sc->j5 T N sc e r=true->Good X r (wEx Δ e)
 | .var i,r,X,k,N,sc,C,h=>by
   replace h:=a6 h;obtain⟨x,hx,h⟩:=h;obtain⟨p,rfl⟩:=Cl hx;exact .one (i8 _ (Tb C h) PX) .var rfl
 | .c x,r,X,k,N,sc,C,h=>by
   replace h:=a6 h;obtain⟨x,hx,h⟩:=h;obtain⟨j,p,rfl⟩:=F0 hx;exact Q3 h
 | .op o a b,r,X,k,N,sc,C,h=>by
   replace h:=a6 h;obtain⟨v,hv,h⟩:=h;obtain⟨p,rfl⟩:=Pw hv;simp only[W6,dQ]at h;have ga:=c3 a _ C h.1.2;have gb:=c3 b _ C h.2;rw[<-h.1.1];exact .one (NO ga.pe gb.pe ga.m gb.m) (.two Jn ga.m gb.m) rfl
 | .neg a,r,X,k,N,sc,C,h=>by
   replace h:=a6 h;obtain⟨v,hv,h⟩:=h;obtain⟨p,rfl⟩:=Ic hv;simp only[W6,dQ]at h;rw[h.1];exact LG (c3 a _ C h.2)
 | .cmp o a b,r,X,k,N,sc,C,h=>by
   replace h:=a6 h;obtain⟨v,hv,h⟩:=h;replace h:=a6 h;obtain⟨rb,hb,h⟩:=h;obtain⟨p,rfl⟩:=DX hv;simp only[W6,dQ]at h;obtain⟨⟨⟨h0,h1⟩,h2⟩,h3⟩:=h;rw[h0,y6 hb];have ga:=c3 a _ C h1;have gb:=c3 b _ C h2;have:=C.un;exact L9 (by omega) ga.pe gb.pe ga.m gb.m h3
 | .chn o p a b c,r,X,k,N,sc,C,h=>by
   replace h:=a6 h;obtain⟨v,hv,h⟩:=h;replace h:=a6 h;obtain⟨rs,hb,h⟩:=h;obtain⟨p,rfl⟩:=DX hv;simp only[W6,dQ]at h;obtain⟨⟨⟨⟨h0,h1⟩,h2⟩,h3⟩,h4⟩:=h;rw[h0,F1 hb];have ga:=c3 a _ C h1;have gb:=c3 b _ C h2;have gc:=c3 c _ C h3;have:=C.un;exact LA (by omega) ga.pe gb.pe gc.pe ga.m gb.m gc.m h4
 | .and a b,r,X,k,N,sc,C,h=>by
   replace h:=a6 h;obtain⟨v,hv,h⟩:=h;have e:=GQ hv;subst e;rw[W6,dQ]at h;obtain⟨h0,h⟩:=h;replace h:=a6 h;obtain⟨x,hx,h⟩:=h;rw[W6]at h;have ga:=c3 a _ C h.1;rw[h0,BH hx];have h2:=h.2;generalize v.2.1.tail=tl at h2;cases hl:l1 tl with
   | some y=>
     rw[hl]at h2;rw[y6 hl];exact Id ga (c3 b _ C h2)
   | none=>
     rw[hl]at h2;rw[W6,dQ]at h2;have gb:=c3 b _ C h2.2
     match tl,h2,gb with
     | y::z::zs,h2,gb=>exact Ie ga gb
     | [],h2,_=>exact absurd h2.1 (by simp)
     | [_],h2,_=>exact absurd h2.1 (by simp)
 | .or a b,r,X,k,N,sc,C,h=>by
   replace h:=a6 h;obtain⟨v,hv,h⟩:=h;have e:=GQ hv;subst e;rw[W6,dQ]at h;obtain⟨h0,h⟩:=h;replace h:=a6 h;obtain⟨x,hx,h⟩:=h;rw[W6]at h;have ga:=c3 a _ C h.1;rw[h0,BH hx];have h2:=h.2;generalize v.2.1.tail=tl at h2;cases hl:l1 tl with
   | some y=>
     rw[hl]at h2;rw[y6 hl];exact LB ga (c3 b _ C h2)
   | none=>
     rw[hl]at h2;rw[W6,dQ]at h2;have gb:=c3 b _ C h2.2
     match tl,h2,gb with
     | y::z::zs,h2,gb=>exact LC ga gb
     | [],h2,_=>exact absurd h2.1 (by simp)
     | [_],h2,_=>exact absurd h2.1 (by simp)
 | .not a,r,X,k,N,sc,C,h=>by
   replace h:=a6 h;obtain⟨v,hv,h⟩:=h;obtain⟨p,rfl⟩:=Ic hv;simp only[W6,dQ]at h;rw[h.1];exact LD (c3 a _ C h.2)
 | .ife t a b,r,X,k,N,sc,C,h=>by
   replace h:=a6 h;obtain⟨v,hv,h⟩:=h;obtain⟨p,rfl⟩:=Px hv;simp only[W6]at h;exact LF (c3 t _ C h.1.1) (c3 a _ C h.1.2) (c3 b _ C h.2)
 | .tup es,r,X,k,N,sc,C,h=>by
   replace h:=a6 h;obtain⟨v,hv,h⟩:=h;obtain⟨j,p,rfl⟩:=BG hv;exact LL (Ax es _ C h)
 | .lst es,r,X,k,N,sc,C,h=>by
   replace h:=a6 h;obtain⟨v,hv,h⟩:=h;obtain⟨p,rfl⟩:=Py hv;exact LM (Ax es _ C h)
 | .ix a b,r,X,k,N,sc,C,h=>by
   replace h:=a6 h;obtain⟨v,hv,h⟩:=h;obtain⟨p,rfl⟩:=CG hv;simp only[W6]at h;exact NR (c3 a _ C h.1.1) (c3 b _ C h.1.2) h.2
 | .slc a lo hi,r,X,k,N,sc,C,h=>by
   replace h:=a6 h;obtain⟨v,hv,h⟩:=h;replace h:=a6 h;obtain⟨w,hw,h⟩:=h;obtain⟨p,rfl⟩:=CG hv;obtain⟨p2,ew⟩:=Jm hw;simp only[W6]at h;have hl:=Gx lo _ C h.1.1.2;have hh:=Gx hi _ C h.1.2;rw[ew,XS.mp h.2];exact LH (c3 a _ C h.1.1.1) hl.1 hh.1 hl.2 hh.2
 | .call f es,r,X,k,N,sc,C,h=>by
   replace h:=a6 h;obtain⟨v,hv,h⟩:=h;obtain⟨p,q,rfl⟩:=Aq hv;simp only[W6,dQ]at h;obtain⟨⟨⟨h1,h2⟩,h3⟩,h4⟩:=h;obtain⟨y,ys,e⟩:=Jw h4;have st:=CI h3;have g:=Ax es _ C h3;rw[e]at st g ⊢;rw[XW,W6]at st;exact Ih C h1 h2 g st.1 st.2
 | .bi b es,r,X,k,N,sc,C,h=>by
   replace h:=a6 h;obtain⟨v,hv,h⟩:=h;obtain⟨p,q,rfl⟩:=Aq hv;simp only[W6,dQ]at h;obtain⟨⟨⟨h1,h2⟩,h3⟩,h4⟩:=h;obtain⟨y,ys,e⟩:=Jw h4;have st:=CI h3;have g:=Ax es _ C h3;rw[e]at st g ⊢;rw[XW,W6]at st;rw[<-h1]at h2 ⊢;exact NT C h2 g st.1 st.2
 | .mt m a es,r,X,k,N,sc,C,h=>by
   replace h:=a6 h;obtain⟨v,hv,h⟩:=h;obtain⟨ap,cp,rfl,hl⟩:=TM hv;simp only[W6,dQ]at h;obtain⟨⟨⟨⟨h0,h1⟩,h3⟩,h4⟩,h5⟩:=h;have st:=CI h5;have ga:=c3 a _ C h4;have gs:=Ax es _ C h5;rw[h0];generalize v.2.2=args at h3 h5 st gs ⊢;cases args with
   | nil=>
     cases es with
     | nil=>exact LN ga h1 hl
     | cons _ _=>rw[BU]at h5;cases h5
   | cons y ys=>
     rw[XW,W6]at st;exact NV ga gs h1 hl h3 st.1 st.2
 | .comp own cn js g it t e,r,X,k,N,sc,C,h=>by
   replace h:=a6 h;obtain⟨v,hv,h⟩:=h;replace h:=a6 h;obtain⟨c,hc,h⟩:=h;obtain⟨p,rfl⟩:=Cn hv;simp only[W6,dQ]at h;obtain⟨⟨⟨⟨⟨⟨h0,h1⟩,h2⟩,h3⟩,h4⟩,h5⟩,h6⟩:=h;have hI:=y9 it _ _ C h3;have hT:=λs2 H2 cs A fp=>AS t _ (C.comp h1 s2 H2 cs A fp) h5;have hE:=λs2 H2 cs A fp=>c3 e _ (C.comp h1 s2 H2 cs A fp) h6;rw[y6 hc];obtain⟨tg,ri,ifs,az⟩:=c;have h0:az=0:=h0;subst h0;exact Iv C h1 hI (λs2 H2 cs A fp=>y8 (C.comp h1 s2 H2 cs A fp) g _ h2) (λs2 H2 cs A fp=>(hT s2 H2 cs A fp).1) (hT X.s₀ X.H₀ [] 0 []).2 (λs2 H2 cs A fp=>(hE s2 H2 cs A fp).pe) (hE X.s₀ X.H₀ [] 0 []).m h4
 | .comp2 own cn js g it t g2 it2 t2 e,r,X,k,N,sc,C,h=>by
   replace h:=a6 h;obtain⟨v,hv,h⟩:=h;replace h:=a6 h;obtain⟨c,hc,h⟩:=h;obtain⟨p,rfl⟩:=Cn hv;simp only[W6,dQ]at h;obtain⟨⟨⟨⟨⟨⟨⟨⟨⟨⟨⟨h0,h0'⟩,h1⟩,h2⟩,h3⟩,h4⟩,h5⟩,h6⟩,h7⟩,h8⟩,h9⟩,ha⟩:=h;have hI:=y9 it _ _ C h3;have hT:=λs2 H2 cs A fp=>AS t _ (C.comp h1 s2 H2 cs A fp) h5;have hI2:=λs2 H2 cs A fp=>y9 it2 _ _ (C.comp h1 s2 H2 cs A fp) h7;have hT2:=λs2 H2 cs A fp=>AS t2 _ (C.comp h1 s2 H2 cs A fp) h9;have hE:=λs2 H2 cs A fp=>c3 e _ (C.comp h1 s2 H2 cs A fp) ha;rw[F1 hc];obtain⟨⟨tg,ri,ifs,az⟩,⟨tg2,ri2,ifs2,az2⟩⟩:=c;have h0:az=0:=h0;have h0':az2=0:=h0';subst h0;subst h0';exact Gr C h1 hI (λs2 H2 cs A fp=>y8 (C.comp h1 s2 H2 cs A fp) g _ h2) (λs2 H2 cs A fp=>(hT s2 H2 cs A fp).1) (hT X.s₀ X.H₀ [] 0 []).2 (λs2 H2 cs A fp=>(hI2 s2 H2 cs A fp).pi) (hI2 X.s₀ X.H₀ [] 0 []).m (λs2 H2 cs A fp=>y8 (C.comp h1 s2 H2 cs A fp) g2 _ h6) (λs2 H2 cs A fp=>(hT2 s2 H2 cs A fp).1) (hT2 X.s₀ X.H₀ [] 0 []).2 (λs2 H2 cs A fp=>(hE s2 H2 cs A fp).pe) (hE X.s₀ X.H₀ [] 0 []).m h4 h8
 | .tyc t,r,X,k,N,sc,C,h=>by
   replace h:=a6 h;obtain⟨x,hx,h⟩:=h;obtain⟨p,rfl⟩:=Cl hx;simp only[W6,dQ]at h;obtain⟨⟨rfl,h1⟩,h2⟩:=h;exact LO C h1 h2
 | .lrng1 a,r,X,k,N,sc,C,h=>by
   replace h:=a6 h;obtain⟨v,hv,h⟩:=h;replace h:=a6 h;obtain⟨z,hz,h⟩:=h;replace h:=a6 h;obtain⟨u,hu,h⟩:=h;replace h:=a6 h;obtain⟨ra,hra,h⟩:=h;obtain⟨p,q,rfl⟩:=Aq hv;obtain⟨p2,q2,rfl⟩:=Aq hu;simp only[W6,dQ]at h;obtain⟨⟨⟨⟨⟨e1,e2⟩,h1⟩,h2⟩,h3⟩,h4⟩:=h;rw[y6 hz,y6 hra,e1,e2];rw[e1]at h1;rw[e2]at h2;exact GX C h1 h2 (c3 a _ C h3) h4
 | .rev a,r,X,k,N,sc,C,h=>by
   replace h:=a6 h;obtain⟨v,hv,h⟩:=h;replace h:=a6 h;obtain⟨w,hw,h⟩:=h;obtain⟨p,rfl⟩:=CG hv;obtain⟨p2,ew⟩:=Jm hw;rw[W6,W6]at h;obtain⟨⟨n1,n2⟩,h⟩:=h;replace h:=a6 h;obtain⟨st,hst,h⟩:=h;replace h:=a6 h;obtain⟨u,hu,h⟩:=h;obtain⟨p3,rfl⟩:=Ic hu;rw[W6,dQ]at h;obtain⟨e1,h⟩:=h;replace h:=a6 h;obtain⟨c,hc,h⟩:=h;obtain⟨j,p4,ec⟩:=F0 hc;rw[W6,dQ]at h;rw[ew,XS.mp n1,XS.mp n2,hst,e1,ec,h.1];exact LP (c3 a _ C h.2)
 | .lenset a,r,X,k,N,sc,C,h=>by
   replace h:=a6 h;obtain⟨v,hv,h⟩:=h;replace h:=a6 h;obtain⟨z,hz,h⟩:=h;replace h:=a6 h;obtain⟨u,hu,h⟩:=h;replace h:=a6 h;obtain⟨ra,hra,h⟩:=h;obtain⟨p,q,rfl⟩:=Aq hv;obtain⟨p2,q2,rfl⟩:=Aq hu;simp only[W6,dQ]at h;obtain⟨⟨⟨⟨⟨e1,e2⟩,h1⟩,h2⟩,h3⟩,h4⟩:=h;rw[e1]at h1;rw[e2]at h2;rw[y6 hz,y6 hra,e1,e2];exact FW C h1 h2 (c3 a _ C h3) h4
 | .srtset a,r,X,k,N,sc,C,h=>by
   replace h:=a6 h;obtain⟨v,hv,h⟩:=h;replace h:=a6 h;obtain⟨z,hz,h⟩:=h;replace h:=a6 h;obtain⟨u,hu,h⟩:=h;replace h:=a6 h;obtain⟨ra,hra,h⟩:=h;obtain⟨p,q,rfl⟩:=Aq hv;obtain⟨p2,q2,rfl⟩:=Aq hu;simp only[W6,dQ]at h;obtain⟨⟨⟨⟨⟨e1,e2⟩,h1⟩,h2⟩,h3⟩,h4⟩:=h;rw[e1]at h1;rw[e2]at h2;rw[y6 hz,y6 hra,e1,e2];exact FX C h1 h2 (c3 a _ C h3) h4
 | .dcomp own cn js g it t e f,r,X,k,N,sc,C,h=>by
   replace h:=a6 h;obtain⟨v,hv,h⟩:=h;replace h:=a6 h;obtain⟨c,hc,h⟩:=h;obtain⟨p,rfl⟩:=Ez hv;simp only[W6,dQ]at h;obtain⟨⟨⟨⟨⟨⟨⟨h0,h1⟩,h2⟩,h3⟩,h4⟩,h5⟩,h6⟩,h7⟩:=h;have hI:=y9 it _ _ C h3;have hT:=λs2 H2 cs A fp=>AS t _ (C.comp h1 s2 H2 cs A fp) h5;have hE:=λs2 H2 cs A fp=>c3 e _ (C.comp h1 s2 H2 cs A fp) h6;have hF:=λs2 H2 cs A fp=>c3 f _ (C.comp h1 s2 H2 cs A fp) h7;rw[y6 hc];obtain⟨tg,ri,ifs,az⟩:=c;have h0:az=0:=h0;subst h0;exact Gs C h1 hI (λs2 H2 cs A fp=>y8 (C.comp h1 s2 H2 cs A fp) g _ h2) (λs2 H2 cs A fp=>(hT s2 H2 cs A fp).1) (hT X.s₀ X.H₀ [] 0 []).2 (λs2 H2 cs A fp=>(hE s2 H2 cs A fp).pe) (hE X.s₀ X.H₀ [] 0 []).m (λs2 H2 cs A fp=>(hF s2 H2 cs A fp).pe) (hF X.s₀ X.H₀ [] 0 []).m h4
 | .srtsc own cn js g it t e,r,X,k,N,sc,C,h=>by
   replace h:=a6 h;obtain⟨u,hu,h⟩:=h;replace h:=a6 h;obtain⟨z,hz,h⟩:=h;replace h:=a6 h;obtain⟨v,hv,h⟩:=h;replace h:=a6 h;obtain⟨c,hc,h⟩:=h;obtain⟨p1,q1,rfl⟩:=Aq hu;obtain⟨p,rfl⟩:=L8 hv;simp only[W6,dQ]at h;obtain⟨⟨⟨⟨⟨⟨⟨⟨e1,hgl⟩,h0⟩,h1⟩,h2⟩,h3⟩,h4⟩,h5⟩,h6⟩:=h;have hI:=y9 it _ _ C h3;have hT:=λs2 H2 cs A fp=>AS t _ (C.comp h1 s2 H2 cs A fp) h5;have hE:=λs2 H2 cs A fp=>c3 e _ (C.comp h1 s2 H2 cs A fp) h6;rw[e1]at hgl;rw[y6 hz,e1,y6 hc];obtain⟨tg,ri,ifs,az⟩:=c;have h0:az=0:=h0;subst h0;exact Gv C hgl h1 hI (λs2 H2 cs A fp=>y8 (C.comp h1 s2 H2 cs A fp) g _ h2) (λs2 H2 cs A fp=>(hT s2 H2 cs A fp).1) (hT X.s₀ X.H₀ [] 0 []).2 (λs2 H2 cs A fp=>(hE s2 H2 cs A fp).pe) (hE X.s₀ X.H₀ [] 0 []).m h4
 | .eqt0 a b,r,X,k,N,sc,C,h=>by
   replace h:=a6 h;obtain⟨v,hv,h⟩:=h;replace h:=a6 h;obtain⟨rb,hb,h⟩:=h;obtain⟨p,rfl⟩:=DX hv;simp only[W6,dQ]at h;obtain⟨⟨⟨h0,h1⟩,h2⟩,h3⟩:=h;rw[h0,y6 hb];have ga:=c3 a _ C h1;have gb:=c3 b _ C h2;have:=C.un;exact Ik (by omega) ga.pe gb.pe ga.m gb.m h3
 | .dget a b,r,X,k,N,sc,C,h=>by
   replace h:=a6 h;obtain⟨v,hv,h⟩:=h;obtain⟨p,rfl⟩:=CG hv;simp only[W6]at h;have:=C.un;exact Ij (by omega) (c3 a _ C h.1.1) (c3 b _ C h.1.2) h.2
 | .din n a b,r,X,k,N,sc,C,h=>by
   replace h:=a6 h;obtain⟨v,hv,h⟩:=h;replace h:=a6 h;obtain⟨rb,hb,h⟩:=h;obtain⟨p,rfl⟩:=DX hv;simp only[W6,dQ]at h;obtain⟨⟨⟨h0,h1⟩,h2⟩,h3⟩:=h;rw[h0,y6 hb];have:=C.un;exact LQ (by omega) (c3 a _ C h1) (c3 b _ C h2) h3
 | .no,r,X,k,N,sc,C,h => .never
theorem Ax{T:List Str}{Δ:Nat->Sn}:∀(es:Exs) (rs:List Expr) {X:Cx} {k:Nat} {N:List Str} {sc:Zu},Cok T Δ X k N sc->BU T N sc es rs=true->GoodA X rs (D6 Δ es)
 | .nil,rs,X,k,N,sc,C,h=>by
   rw[BU,XF]at h;subst h;exact LK
 | .cons e es,rs,X,k,N,sc,C,h=>by
   rw[BU]at h;replace h:=a6 h;obtain⟨x,hx,h⟩:=h;simp only[W6]at h;rw[BH hx];exact Ig (c3 e _ C h.1.1) (Ax es _ C h.2) h.1.2
theorem Gx{T:List Str}{Δ:Nat->Sn}:∀(o:Eo) (r:Option Expr) {X:Cx} {k:Nat} {N:List Str} {sc:Zu},Cok T Δ X k N sc->NL T N sc o r=true->PO X r (GV X.K (wEo Δ o).1)/\MonoO (wEo Δ o).1
 | .no,r,X,k,N,sc,C,h=>by
   rw[NL]at h;rw[XS.mp h];exact⟨V8,.no⟩
 | .yes e,r,X,k,N,sc,C,h=>by
   rw[NL]at h;replace h:=a6 h;obtain⟨x,hx,h⟩:=h;subst hx;exact⟨TR (c3 e _ C h),.yes (c3 e _ C h).m⟩
theorem AS{T:List Str}{Δ:Nat->Sn}:∀(o:Eo) (rs:List Expr) {X:Cx} {k:Nat} {N:List Str} {sc:Zu},Cok T Δ X k N sc->Bm T N sc o rs=true->As X rs (liftT X.K (wEo Δ o).2)/\MonoT (wEo Δ o).2
 | .no,rs,X,k,N,sc,C,h=>by
   rw[Bm,XF]at h;subst h;exact⟨Nh,λ_ _ _ _ i q=>i _ _ q⟩
 | .yes e,rs,X,k,N,sc,C,h=>by
   rw[Bm]at h;replace h:=a6 h;obtain⟨x,hx,h⟩:=h;rw[y6 hx];exact⟨Tc (c3 e _ C h),(c3 e _ C h).mt⟩
theorem y9{T:List Str}{Δ:Nat->Sn}:∀(it:Itb) (tg r:Expr) {X:Cx} {k:Nat} {N:List Str} {sc:Zu},Cok T Δ X k N sc->Dx T N sc it tg r=true->GoodI X tg r (FU Δ it)
 | .seq e,tg,r,X,k,N,sc,C,h=>by
   exact LS (c3 e _ C h)
 | .rng1 a,tg,r,X,k,N,sc,C,h=>by
   replace h:=a6 h;obtain⟨v,hv,h⟩:=h;replace h:=a6 h;obtain⟨ra,hra,h⟩:=h;obtain⟨p,q,rfl⟩:=Aq hv;simp only[W6,dQ]at h;obtain⟨⟨⟨e1,h1⟩,h2⟩,h3⟩:=h;rw[e1]at h1;rw[y6 hra,e1];exact Ip C h1 (c3 a _ C h2) h3
 | .rng2 a b,tg,r,X,k,N,sc,C,h=>by
   replace h:=a6 h;obtain⟨v,hv,h⟩:=h;replace h:=a6 h;obtain⟨ra,hra,h⟩:=h;obtain⟨p,q,rfl⟩:=Aq hv;simp only[W6,dQ]at h;obtain⟨⟨⟨⟨⟨e1,h1⟩,h2⟩,h3⟩,h4⟩,h5⟩:=h;rw[e1]at h1;rw[F1 hra,e1];exact Iq C h1 (c3 a _ C h2) (c3 b _ C h4) h3 h5
 | .enum e,tg,r,X,k,N,sc,C,h=>by
   replace h:((EV tg).isSome&&(vFn r).any λv=>(l1 v.2).any λa=>decide (v.1=("enumerate":Str))&&glo sc v.1&&j5 T N sc e a&&e8 a)=true:=h;rw[W6]at h;obtain⟨ht,h⟩:=h;obtain⟨es,he⟩:=XB.mp ht;obtain⟨j,tp,rfl⟩:=BG he;replace h:=a6 h;obtain⟨v,hv,h⟩:=h;replace h:=a6 h;obtain⟨ra,hra,h⟩:=h;obtain⟨p,q,rfl⟩:=Aq hv;simp only[W6,dQ]at h;obtain⟨⟨⟨e1,h1⟩,h2⟩,h3⟩:=h;rw[e1]at h1;rw[y6 hra,e1];exact Io C h1 (c3 e _ C h2) h3
 | .dk e,tg,r,X,k,N,sc,C,h=>by
   exact NZ (c3 e _ C h)
end
noncomputable def CY:Expr->Option Zu
 | .ListComp _ _ s _=>some s
 | .SetComp _ _ s _=>some s
 | .DictComp _ _ _ s _=>some s
 | _=>none
noncomputable def DL(sc:Zu)(e:Expr)(x:Str)(px:Pos):Bool:=match CY e with
 | none=>false
 | some s=>sc.names.lookup x == some .local&&px.line == e.pos.line&&!(s.names.any λ(n,k)=>n == x&&(k == .local||k == .cell))
theorem DZ{env:Env}{e:Expr}{x:Str}{px:Pos}{l:Nat}(hk:env.scope.kind = .function):A08 e (some (.Name x px)) l env=pure (DL env.scope e x px):=by
 have hb:env.blockKind = .function:=by unfold Env.blockKind;rw[hk];rfl
 unfold A08 DL CY
 cases e<;>first
  | rfl
  | (show(pure _:Sem Bool)=_;rw[hb];rfl)
def Ni:Expr->Bool
 | .Tuple ..=>false
 | _=>true
noncomputable def DS(sc:Zu)(x y:Str)(px py:Pos):Bool:=sc.names.lookup x == some .local&&sc.names.lookup y == some .local&&px.line == py.line&&!(x == y)
def C3:Expr->Option (Str×Pos)
 | .Name x p=>some (x,p)
 | _=>none
theorem Ay{r:Expr}{x:Str×Pos}(h:C3 r=some x):r = .Name x.1 x.2:=by cases r<;>first | (cases h;rfl) | exact A9 h
def LX:Stmt->Option (List Expr×Expr)
 | .Assign ts e _=>some (ts,e)
 | _=>none
def VG:Stmt->Option Expr
 | .Expr e _=>some e
 | _=>none
noncomputable def VI:Stmt->Option (Expr×List Stmt×List Stmt)
 | .If t a b _=>some (t,a,b)
 | _=>none
noncomputable def VJ:Stmt->Option (Expr×Expr×List Stmt×List Stmt)
 | .For g i b o _=>some (g,i,b,o)
 | _=>none
noncomputable def VL:Stmt->Option (Expr×List Stmt×List Stmt)
 | .While t b o _=>some (t,b,o)
 | _=>none
def Td:Stmt->Option (Option Expr)
 | .Return e _=>some e
 | _=>none
theorem Co{r:Stmt}{x:List Expr×Expr}(h:LX r=some x):∃ p,r = .Assign x.1 x.2 p:=by cases r<;>first | (cases h;exact⟨_,rfl⟩) | exact A9 h
theorem QD{r:Stmt}{x:Expr}(h:VG r=some x):∃ p,r = .Expr x p:=by cases r<;>first | (cases h;exact⟨_,rfl⟩) | exact A9 h
theorem QF{r:Stmt}{x:Expr×List Stmt×List Stmt}(h:VI r=some x):∃ p,r = .If x.1 x.2.1 x.2.2 p:=by cases r<;>first | (cases h;exact⟨_,rfl⟩) | exact A9 h
theorem QG{r:Stmt}{x:Expr×Expr×List Stmt×List Stmt}(h:VJ r=some x):∃ p,r = .For x.1 x.2.1 x.2.2.1 x.2.2.2 p:=by cases r<;>first | (cases h;exact⟨_,rfl⟩) | exact A9 h
theorem QH{r:Stmt}{x:Expr×List Stmt×List Stmt}(h:VL r=some x):∃ p,r = .While x.1 x.2.1 x.2.2 p:=by cases r<;>first | (cases h;exact⟨_,rfl⟩) | exact A9 h
theorem Jx{r:Stmt}{x:Option Expr}(h:Td r=some x):∃ p,r = .Return x p:=by cases r<;>first | (cases h;exact⟨_,rfl⟩) | exact A9 h
noncomputable def Te(e:Expr):Bool:=(GP e).any λv=>(l1 v.2.1).isSome
noncomputable def Nj(e:Expr):Bool:=(GP e).any λv=>(l2 v.2.1).isSome
noncomputable def Tf(e:Expr):Bool:=(Ib e).any λv=>(l1 v.2.2.1).isSome
noncomputable def Th(sc:Zu)(rt re:Expr):Bool:=match C3 rt with
 | some x=>!DL sc re x.1 x.2||Te re||Tf re||Nj re
 | none=>(EV rt).isSome&&Ni re
mutual
noncomputable def VM(T:List Str)(N:List Str)(sc:Zu):Stm->Stmt->Bool
 | .asg t e,r=>(LX r).any λv=>(l1 v.1).any λrt=>AV N.length N sc t rt&&j5 T N sc e v.2&&e8 rt&&Th sc rt v.2
 | .par i j a b,r=>(LX r).any λv=>(l1 v.1).any λrt=>(EV rt).any λts=>(l2 ts).any λnn=>(EV v.2).any λvs=>(l2 vs).any λab=>(C3 nn.1).any λx=>(C3 nn.2).any λy=>
    decide (N[i]?=some x.1)&&decide (N[j]?=some y.1)&&decide (i≠j)&&DS sc x.1 y.1 x.2 y.2&&j5 T N sc a ab.1&&j5 T N sc b ab.2&&e8 ab.1&&e8 ab.2&&!([ab.1,ab.2].all (A0X 8))&&!([ab.1,ab.2].all (A0R 8))
 | .par3 i j k a b c,r=>(LX r).any λv=>(l1 v.1).any λrt=>(EV rt).any λts=>(l3 ts).any λnn=>(EV v.2).any λvs=>(l3 vs).any λab=>(C3 nn.1).any λx=>(C3 nn.2.1).any λy=>(C3 nn.2.2).any λz=>
    decide (N[i]?=some x.1)&&decide (N[j]?=some y.1)&&decide (N[k]?=some z.1)&&decide (i≠j)&&decide (i≠k)&&decide (j≠k)&&DS sc x.1 y.1 x.2 y.2&&DS sc x.1 z.1 x.2 z.2&&DS sc y.1 z.1 y.2 z.2&&j5 T N sc a ab.1&&j5 T N sc b ab.2.1&&j5 T N sc c ab.2.2&&e8 ab.1&&e8 ab.2.1&&e8 ab.2.2&&!([ab.1,ab.2.1,ab.2.2].all (A0X 8))&&!([ab.1,ab.2.1,ab.2.2].all (A0R 8))
 | .put o i e,r=>(LX r).any λv=>(l1 v.1).any λrt=>(IZ rt).any λoi=>j5 T N sc o oi.1&&j5 T N sc i oi.2&&j5 T N sc e v.2&&Ak oi.2
 | .dput o i e,r=>(LX r).any λv=>(l1 v.1).any λrt=>(IZ rt).any λoi=>j5 T N sc o oi.1&&j5 T N sc i oi.2&&j5 T N sc e v.2&&Ak oi.2
 | .expr e,r=>(VG r).any λre=>j5 T N sc e re&&(CY re).isNone
 | .iff t a b,r=>(VI r).any λv=>j5 T N sc t v.1&&Cp T N sc a v.2.1&&Cp T N sc b v.2.2
 | .loop g it b,r=>(VJ r).any λv=>AV N.length N sc g v.1&&Dx T N sc it v.1 v.2.1&&r6 v.2.1&&Cp T N sc b v.2.2.1&&v.2.2.2.isEmpty
 | .whl t b,r=>(VL r).any λv=>j5 T N sc t v.1&&Cp T N sc b v.2.1&&v.2.2.isEmpty
 | .ret e,r=>(Td r).any λo=>o.any λre=>j5 T N sc e re
 | .retN,r=>(Td r).any λo=>o.isNone
 | .no,_=>true
noncomputable def Cp(T:List Str)(N:List Str)(sc:Zu):List Stm->List Stmt->Bool
 | [],r=>r.isEmpty
 | s::ss,r=>(r.head?).any λx=>VM T N sc s x&&Cp T N sc ss r.tail
end
noncomputable def Gy(K:W5)(as:List Zk)(H:Hp)(D:Ends):EndsS where
 nx:=λρ' S'=>∀ as' H' σ',Go as H as' H'->Ok K as' H' S'->EnvOk K as' H' σ' ρ'->D.nx σ' H'
 rt:=Post K as H D.rt
 bk:=λρ' S'=>∀ as' H' σ',Go as H as' H'->Ok K as' H' S'->EnvOk K as' H' σ' ρ'->D.bk σ' H'
 ct:=λρ' S'=>∀ as' H' σ',Go as H as' H'->Ok K as' H' S'->EnvOk K as' H' σ' ρ'->D.ct σ' H'
noncomputable def liftS(K:W5)(w:WS):TS:=λD σ H=>∃ as ρ S,Ok K as H S/\EnvOk K as H σ ρ/\w (Gy K as H D) ρ S
structure Le(D D':EndsS):Prop where
 nx:∀ ρ S,D.nx ρ S->D'.nx ρ S
 rt:∀ x S,D.rt x S->D'.rt x S
 bk:∀ ρ S,D.bk ρ S->D'.bk ρ S
 ct:∀ ρ S,D.ct ρ S->D'.ct ρ S
def MonoS(w:WS):Prop:=∀ D D' ρ S,Le D D'->w D ρ S->w D' ρ S
theorem MonoS.go{w:WS}(m:MonoS w){D D':EndsS}{ρ:EnvS}{S:Sto}(h:w D ρ S)(l:Le D D'):w D' ρ S:=m D D' ρ S l h
theorem Le.go{K:W5}{as as':List Zk}{H H':Hp}{D:Ends}(g:Go as H as' H'):Le (Gy K as H D) (Gy K as' H' D) where
 nx:=λρ S h as2 H2 σ2 g2=>h as2 H2 σ2 (g.trans g2)
 rt:=λx S h=>Post.mono h g
 bk:=λρ S h as2 H2 σ2 g2=>h as2 H2 σ2 (g.trans g2)
 ct:=λρ S h as2 H2 σ2 g2=>h as2 H2 σ2 (g.trans g2)
structure GoodS(X:Cx)(r:Stmt)(w:WS):Prop where
 ps:PS X r (liftS X.K w)
 m:MonoS w
structure GoodSs(X:Cx)(r:List Stmt)(w:WS):Prop where
 ps:PSs X r (liftS X.K w)
 m:MonoS w
theorem y0{X:Cx}{st:Stmt}{t:TS}(t':TS)(h:PS X st t)(imp:∀ D σ H,t' D σ H->t D σ H):PS X st t':=λpq s σ H D I hw=>h pq s σ H D I (imp D σ H hw)
theorem Gz{X:Cx}{st:List Stmt}{t:TS}(t':TS)(h:PSs X st t)(imp:∀ D σ H,t' D σ H->t D σ H):PSs X st t':=λpq s σ H D I hw=>h pq s σ H D I (imp D σ H hw)
section
variable{X:Cx}
theorem Iw:GoodSs X [] (λD ρ S=>D.nx ρ S):=⟨Gz _ Om λD σ H ⟨as,ρ,S,ok,en,h⟩=>h as H σ (Go.refl _ _) ok en,λD D' ρ S l h=>l.nx _ _ h⟩
theorem HA{s:Stmt}{ss:List Stmt}{w u:WS}(h1:GoodS X s w)(h2:GoodSs X ss u):GoodSs X (s::ss) (λD ρ S=>w {D with nx:=u D} ρ S) where
 ps:=Gz _ (MD h1.ps h2.ps) (by
  rintro D σ H ⟨as,ρ,S,ok,en,h⟩;refine⟨as,ρ,S,ok,en,h1.m.go h ⟨λρ' S' q as' H' σ' g ok' en'=>?_,λ_ _ h=>h,λ_ _ h=>h,λ_ _ h=>h⟩⟩;exact⟨as',ρ',S',ok',en',h2.m _ _ _ _ (Le.go g) q⟩)
 m:=λD D' ρ S l h=>h1.m.go (D:={D with nx:=u D}) h ⟨λρ' S' q=>h2.m _ _ _ _ l q,l.rt,l.bk,l.ct⟩
theorem QI{K:W5}{g:Tg}{w:WE}(m:Mono w):∀ D σ H,liftS K (λD ρ S=>w ρ S λx S1=>wTg g x ρ λρ'=>D.nx ρ' S1) D σ H->Fw (lift K w) (Am K g) D σ H:=by
 rintro D σ H ⟨as,ρ,S,ok,en,h⟩;refine⟨as,ρ,S,ok,en,m _ _ _ _ (λx S1 q as1 H1 v g1 ok1 rv=>?_) h⟩;exact⟨as1,ρ,S1,x,ok1,en.mono g1.pre (g1.ku ok),rv,l8 g (λρ' q σ' en'=>q as1 H1 σ' g1 ok1 en') q⟩
theorem Cq{K:W5}{i:Nat}{w:WE}(m:Mono w):∀ D σ H,liftS K (λD ρ S=>w ρ S λx S1=>wTg (.nm i) x ρ λρ'=>D.nx ρ' S1) D σ H->Fw (lift K w) (Eb i) D σ H:=by
 rintro D σ H ⟨as,ρ,S,ok,en,h⟩;refine⟨as,ρ,S,ok,en,m _ _ _ _ (λx S1 q as1 H1 v g1 ok1 rv=>?_) h⟩;unfold wTg at q;exact q as1 H1 _ g1 ok1 ((en.mono g1.pre (g1.ku ok)).set rv)
theorem HB{g:Tg}{w:WE}(m:Mono w):MonoS (λD ρ S=>w ρ S λx S1=>wTg g x ρ λρ'=>D.nx ρ' S1):=λD D' ρ S l h=>m _ _ _ _ (λx S1 q=>l8 g (λρ' q=>l.nx _ _ q) q) h
theorem Ti{K:W5}{t:WT}{a b:WS}(mt:MonoT t)(ma:MonoS a)(mb:MonoS b):∀ D σ H,liftS K (λD ρ S=>t ρ S λc S1=>if c=true then a D ρ S1 else b D ρ S1) D σ H->U8 (liftT K t) (liftS K a) (liftS K b) D σ H:=by
 rintro D σ H ⟨as,ρ,S,ok,en,h⟩;refine⟨as,ρ,S,ok,en,mt _ _ _ _ (λc S1 q as1 H1 g1 ok1=>?_) h⟩;refine i6 (λq=>?_) (λq=>?_) q
 ·exact⟨as1,ρ,S1,ok1,en.mono g1.pre (g1.ku ok),ma _ _ _ _ (Le.go g1) q⟩
 ·exact⟨as1,ρ,S1,ok1,en.mono g1.pre (g1.ku ok),mb _ _ _ _ (Le.go g1) q⟩
theorem CJ{keep:Sto->Prop}{g:Tg}{b:WS}(mb:MonoS b):∀(xs:List SV) {D D':EndsS},Le D D'->∀ ρ S,AQ keep g b D xs ρ S->AQ keep g b D' xs ρ S
 | [],D,D',l,ρ,S,h=>by unfold AQ at h ⊢;exact⟨h.1,l.nx _ _ h.2⟩
 | x::xs,D,D',l,ρ,S,h=>by
   unfold AQ at h ⊢;exact⟨h.1,l8 g (λρ2 q=>mb.go (D:={D with nx:=AQ keep g b D xs,ct:=AQ keep g b D xs,bk:=D.nx}) q ⟨CJ mb xs l,l.rt,l.nx,CJ mb xs l⟩) h.2⟩
theorem QJ{K:W5}{g:Tg}{i:WI}{b:WS}(mi:MonoI i)(mb:MonoS b):∀ D σ H,liftS K (λD ρ S=>i ρ S λkeep xs S1=>AQ keep g b D xs ρ S1) D σ H->UG (liftI K i) (Am K g) (liftS K b) D σ H:=by
 rintro D σ H ⟨as,ρ,S,ok,en,h⟩;refine⟨as,ρ,S,ok,en,mi _ _ _ _ (λkeep xs S1 h as1 H1 J g1 ok1 W=>?_) h⟩
 refine⟨λi m σ2 H2=>m=xs.length - i/\i<=xs.length/\∃ as2 ρ2 S2,Go as1 H1 as2 H2/\Ok K as2 H2 S2/\EnvOk K as2 H2 σ2 ρ2/\AQ keep g b (Gy K as H D) (xs.drop i) ρ2 S2,
  ⟨xs.length,by simp,XA _,as1,ρ,S1,Go.refl _ _,ok1,en.mono g1.pre (g1.ku ok),h⟩,?_⟩
 rintro i m σ2 H2 ⟨rfl,hi,as2,ρ2,S2,g2,ok2,en2,h⟩;by_cases hlt:i<xs.length
 ·right;rw[Wz hlt]at h;unfold AQ at h;obtain⟨kp,h⟩:=h;obtain⟨w1,_⟩:=W as2 H2 S2 (g2.gu ok1) ok2 kp;obtain⟨go,yl⟩:=w1 i xs[i] (WB hlt);refine⟨go,λσ' H'=>∃ as2 ρ2 S2,Go as1 H1 as2 H'/\Ok K as2 H' S2/\EnvOk K as2 H' σ' ρ2/\AQ keep g b (Gy K as H D) (xs.drop (i+1)) ρ2 S2,λσ' H' z=>⟨xs.length - (i+1),by omega,rfl,hlt,z⟩,λx H3 y3=>?_⟩;obtain⟨g3,ok3,rx⟩:=yl x H3 y3;refine⟨as2,ρ2,S2,_,ok3,en2.mono g3.pre (g3.ku ok2),rx,l8 g (λρ3 q σ3 en3=>?_) h⟩;have g03:=(g1.trans g2).trans g3;refine⟨as2,ρ3,S2,ok3,en3,mb.go q ⟨λρ' S' q as' H' σ' g' ok' en'=>?_,λx S h=>Post.mono h g03,λρ' S' q as' H' σ' g' ok' en'=>q as' H' σ' (g03.trans g') ok' en',λρ' S' q as' H' σ' g' ok' en'=>?_⟩⟩
  ·exact⟨as',ρ',S',(g2.trans g3).trans g',ok',en',q⟩
  ·exact⟨as',ρ',S',(g2.trans g3).trans g',ok',en',q⟩
 ·left;have hi':i=xs.length:=by omega
  subst hi';rw[Xd]at h;unfold AQ at h;obtain⟨kp,h⟩:=h;obtain⟨_,w2⟩:=W as2 H2 S2 (g2.gu ok1) ok2 kp;exact⟨w2,h as2 H2 σ2 (g1.trans g2) ok2 en2⟩
theorem HC{t:WT}{b:WS}(mt:MonoT t)(mb:MonoS b):MonoS (TJ t b):=λD D' ρ S l ⟨W,w0,h⟩=>⟨W,w0,λm ρ S w=>mt _ _ _ _ (λc S1 q=>i6 (λq=>mb.go (D:={D with nx:=λρ' S'=>∃ m',m'<m/\W m' ρ' S',ct:=λρ' S'=>∃ m',m'<m/\W m' ρ' S',bk:=D.nx}) q ⟨λ_ _ h=>h,l.rt,l.nx,λ_ _ h=>h⟩) (λq=>l.nx _ _ q) q) (h m ρ S w)⟩
theorem QK{K:W5}{t:WT}{b:WS}(mt:MonoT t)(mb:MonoS b):∀ D σ H,liftS K (TJ t b) D σ H->MG (liftT K t) (liftS K b) D σ H:=by
 rintro D σ H ⟨as,ρ,S,ok,en,W,⟨m0,w0⟩,h⟩;refine⟨λm σ1 H1=>∃ as1 ρ1 S1,Go as H as1 H1/\Ok K as1 H1 S1/\EnvOk K as1 H1 σ1 ρ1/\W m ρ1 S1,⟨m0,as,ρ,S,Go.refl _ _,ok,en,w0⟩,?_⟩;rintro m σ1 H1 ⟨as1,ρ1,S1,g1,ok1,en1,w1⟩;refine⟨as1,ρ1,S1,ok1,en1,mt _ _ _ _ (λc S2 q as2 H2 g2 ok2=>?_) (h m ρ1 S1 w1)⟩;refine i6 (λq=>?_) (λq=>q as2 H2 σ1 (g1.trans g2) ok2 (en1.mono g2.pre (g2.ku ok1))) q;refine⟨λσ' H'=>∃ m',m'<m/\∃ as1 ρ1 S1,Go as H as1 H'/\Ok K as1 H' S1/\EnvOk K as1 H' σ' ρ1/\W m' ρ1 S1,λσ' H' z=>z,?_⟩;refine⟨as2,ρ1,S2,ok2,en1.mono g2.pre (g2.ku ok1),mb.go q ⟨λρ' S' ⟨m',hm,w'⟩ as' H' σ' g' ok' en'=>?_,λx S h=>Post.mono h (g1.trans g2),λρ' S' q as' H' σ' g' ok' en'=>q as' H' σ' ((g1.trans g2).trans g') ok' en',λρ' S' ⟨m',hm,w'⟩ as' H' σ' g' ok' en'=>?_⟩⟩
 ·exact⟨m',hm,as',ρ',S',(g1.trans g2).trans g',ok',en',w'⟩
 ·exact⟨m',hm,as',ρ',S',(g1.trans g2).trans g',ok',en',w'⟩
theorem QL{K:W5}{i j:Nat}{a b:WE}(ma:Mono a)(mb:Mono b):∀ D σ H,liftS K (λD ρ S=>a ρ S λx S1=>b ρ S1 λy S2=>D.nx ((ρ.set i (some x)).set j (some y)) S2) D σ H->UD i j (Dg (lift K a) (Dg (lift K b) SN)) D σ H:=by
 rintro D σ H ⟨as,ρ,S,ok,en,h⟩;refine⟨as,ρ,S,ok,en,ma _ _ _ _ (λx S1 q as1 H1 v g1 ok1 rv=>?_) h⟩;refine⟨as1,ρ,S1,ok1,en.mono g1.pre (g1.ku ok),mb _ _ _ _ (λy S2 q as2 H2 u g2 ok2 ru=>?_) q⟩;refine⟨v,u,rfl,q as2 H2 _ (g1.trans g2) ok2 ?_⟩;exact(((en.mono g1.pre (g1.ku ok)).mono g2.pre (g2.ku ok1)).set (Rl.mono g2.pre (g2.ku ok1) x v rv)).set ru
theorem Nk{K:W5}{i j k:Nat}{a b c:WE}(ma:Mono a)(mb:Mono b)(mc:Mono c):∀ D σ H,liftS K (λD ρ S=>a ρ S λx S1=>b ρ S1 λy S2=>c ρ S2 λz S3=>D.nx (((ρ.set i (some x)).set j (some y)).set k (some z)) S3) D σ H->RA i j k (Dg (lift K a) (Dg (lift K b) (Dg (lift K c) SN))) D σ H:=by
 rintro D σ H ⟨as,ρ,S,ok,en,h⟩;refine⟨as,ρ,S,ok,en,ma _ _ _ _ (λx S1 q as1 H1 v g1 ok1 rv=>?_) h⟩;have en1:=en.mono g1.pre (g1.ku ok);refine⟨as1,ρ,S1,ok1,en1,mb _ _ _ _ (λy S2 q as2 H2 u g2 ok2 ru=>?_) q⟩;have en2:=en1.mono g2.pre (g2.ku ok1);refine⟨as2,ρ,S2,ok2,en2,mc _ _ _ _ (λz S3 q as3 H3 w g3 ok3 rw'=>?_) q⟩;refine⟨v,u,w,rfl,q as3 H3 _ ((g1.trans g2).trans g3) ok3 ?_⟩;exact(((en2.mono g3.pre (g3.ku ok2)).set (Rl.mono (g2.trans g3).pre ((g2.trans g3).ku ok1) x v rv)).set (Rl.mono g3.pre (g3.ku ok2) y u ru)).set rw'
theorem E7{x y v:SV}{S:Sto}{P P':Sto->Prop}(i:∀ S,P S->P' S)(h:L7 x y v S P):L7 x y v S P':=by
 unfold L7 at h ⊢;split at h
 ·obtain⟨xs,j,a,b,c⟩:=h;exact⟨xs,j,a,b,i _ c⟩
 ·exact h.elim
theorem QM{K:W5}{as:List Zk}{H:Hp}{S:Sto}{x y z:SV}{o i v:V}{Q:Hp->Prop}(ok:Ok K as H S)(ro:Rl K as H o x)(ri:Rl K as H i y)(rv:Rl K as H v z)(h:L7 x y z S λS'=>∀ H',Go as H as H'->Ok K as H' S'->Q H'):MQ o i v H Q:=by
 cases x with
 | loc k=>
   cases y with
   | int n=>
     obtain⟨xs,j,h1,h2,h3⟩:=h;obtain⟨a,vs,rfl,ea,ha,ra⟩:=A6 ok ro h1;rw[rl_int]at ri;subst ri;refine⟨a,vs,n,j,rfl,rfl,ha,by rw[ra.length];exact h2,h3 _ (Go.write (WC ea)) (ok.write h1 ea (ra.set rv j)).1⟩
   | _=>exact False.elim h
 | _=>exact False.elim h
theorem QN{K:W5}{o i e:WE}(mo:Mono o)(mi:Mono i)(me:Mono e):∀ D σ H,liftS K (λD ρ S=>e ρ S λv S1=>o ρ S1 λx S2=>i ρ S2 λy S3=>L7 x y v S3 λS4=>D.nx ρ S4) D σ H->Fw (lift K e) (UC (lift K o) (lift K i) MQ) D σ H:=by
 rintro D σ H ⟨as,ρ,S,ok,en,h⟩;refine⟨as,ρ,S,ok,en,me _ _ _ _ (λz S1 q as1 H1 v g1 ok1 rv=>?_) h⟩;have en1:=en.mono g1.pre (g1.ku ok);refine⟨as1,ρ,S1,ok1,en1,mo _ _ _ _ (λx S2 q as2 H2 u g2 ok2 ru=>?_) q⟩;have en2:=en1.mono g2.pre (g2.ku ok1);refine⟨as2,ρ,S2,ok2,en2,mi _ _ _ _ (λy S3 q as3 H3 t g3 ok3 rt=>?_) q⟩;have en3:=en2.mono g3.pre (g3.ku ok2);refine QM ok3 (Rl.mono g3.pre (g3.ku ok2) x u ru) rt (Rl.mono (g2.trans g3).pre ((g2.trans g3).ku ok1) z v rv) (E7 (λS4 q H4 g4 ok4=>?_) q);exact q as3 H4 σ (((g1.trans g2).trans g3).trans g4) ok4 (en3.mono g4.pre (g4.ku ok3))
theorem F5{x y v:SV}{S:Sto}{Q Q':Sto->Prop}(i:∀ S',Q S'->Q' S')(h:Jk x y v S Q):Jk x y v S Q':=let ⟨k,j,kvs,a,b,c,d,q⟩:=h;⟨k,j,kvs,a,b,c,d,i _ q⟩
theorem Nl{K:W5}{o i e:WE}(mo:Mono o)(mi:Mono i)(me:Mono e):∀ D σ H,liftS K (λD ρ S=>e ρ S λv S1=>o ρ S1 λx S2=>i ρ S2 λy S3=>Jk x y v S3 λS4=>D.nx ρ S4) D σ H->N4 (lift K o) (lift K i) (lift K e) D σ H:=by
 rintro D σ H ⟨as,ρ,S,ok,en,h⟩;refine⟨as,ρ,S,ok,en,me _ _ _ _ (λz S1 q as1 H1 v g1 ok1 rv=>?_) h⟩;have en1:=en.mono g1.pre (g1.ku ok);refine⟨as1,ρ,S1,ok1,en1,mo _ _ _ _ (λx S2 q as2 H2 u g2 ok2 ru=>?_) q⟩;have en2:=en1.mono g2.pre (g2.ku ok1);refine⟨as2,ρ,S2,ok2,en2,mi _ _ _ _ (λy S3 q as3 H3 t g3 ok3 rt=>?_) q⟩;have en3:=en2.mono g3.pre (g3.ku ok2);have ru':=Rl.mono g3.pre (g3.ku ok2) x u ru;have rv':=Rl.mono (g2.trans g3).pre ((g2.trans g3).ku ok1) z v rv;obtain⟨k,j,kvs,rfl,rfl,hk,hb,q⟩:=q;obtain⟨a,ea,rfl⟩:=rl_loc.mp ru';rw[rl_int]at rt;subst rt;rcases hk with hk | ⟨o',ks,hk⟩
 ·obtain⟨ks,h1,h2⟩:=ok3.obj k _ a hk ea;obtain⟨ok4,ku⟩:=ok3.writeO (x := .dct (BF kvs j z)) (u := .dK (BB ks (Sum.inl j) v)) hk ea (λku=>⟨_,f9,RlD.mono (Wl _) ku _ _ (h2.put rv' j)⟩);refine⟨a,H3,_,rfl,.inl rfl,.inl ⟨ks,.inl j,h1,rfl,by rw[h2.length];exact CT hb,rfl⟩,?_⟩;exact q as3 _ σ (((g1.trans g2).trans g3).trans (Go.write (WC ea))) ok4 (en3.mono (Wl _) ku)
 ·obtain⟨h1,h2⟩:=(show RlO K as3 H3 a (.dcf o' ks kvs) from ok3.obj k _ a hk ea)
  obtain⟨ok4,ku⟩:=ok3.writeO (x := .dct (BF kvs j z)) (u := .dK (BB ks (Sum.inl j) v)) hk ea (λku=>⟨_,f9,RlD.mono (Wl _) ku _ _ (h2.put rv' j)⟩)
  have e:upd (upd H3 a (.dK ks)) a (.dK (BB ks (Sum.inl j) v))=upd H3 a (.dK (BB ks (Sum.inl j) v)):=by
   funext b
   by_cases hb:b=a
   ·rw[hb,f9,f9]
   ·rw[upd_ne hb,upd_ne hb,upd_ne hb]
  refine⟨a,upd H3 a (.dK ks),upd H3 a (.dK (BB ks (Sum.inl j) v)),rfl,.inr ⟨a,o',ks,h1,rfl⟩,.inl ⟨ks,.inl j,f9,rfl,by rw[h2.length];exact CT hb,e.symm⟩,?_⟩;exact q as3 _ σ (((g1.trans g2).trans g3).trans (Go.write (WC ea))) ok4 (en3.mono (Wl _) ku)
end
theorem Ix{env:Env}{es:List Expr}{k:Nat}{p:Pos}{e:Expr}{l:Nat}:A0p [.Tuple es k p] e l env=pure false:=by
 unfold A0p A08;cases e<;>rfl
theorem Tj{env:Env}{o i:Expr}{p:Pos}{e:Expr}{l:Nat}:A0p [.Subscript o i p] e l env=pure false:=by
 unfold A0p A08;cases e<;>rfl
theorem Tk{env:Env}{es:List Expr}{k:Nat}{p:Pos}{e:Expr}(h:Ni e=true):A06 [.Tuple es k p] e env=pure none:=by
 unfold A06;cases e<;>first | rfl | cases h
theorem Tl{env:Env}{o i:Expr}{p:Pos}{e:Expr}:A06 [.Subscript o i p] e env=pure none:=by
 unfold A06;cases e<;>rfl
theorem Tm{env:Env}{x y:Str}{px py pt pt2:Pos}{k k2:Nat}{a b:Expr}(hk:env.scope.kind = .function)(h:DS env.scope x y px py=true)(ha:e8 a=true)(hb:e8 b=true)(h1:([a,b].all (A0X 8))=false)(h2:([a,b].all (A0R 8))=false):
 A06 [.Tuple [.Name x px,.Name y py] k pt] (.Tuple [a,b] k2 pt2) env=pure (some [x,y]):=by
 have hbk:env.blockKind = .function:=by unfold Env.blockKind;rw[hk];rfl
 unfold DS at h;simp only[W6,bQ,We,beq_eq_false_iff_ne]at h;obtain⟨⟨⟨hx,hy⟩,hl⟩,hne⟩:=h;have kx:env.kindOf x=some .local:=hx;have ky:env.kindOf y=some .local:=hy
 have ed:([x,y]:List Str).eraseDups.length=2:=by
  have:(y == x)=false:=by rw[beq_eq_false_iff_ne];exact λz=>hne z.symm
  rw[Yv,Xr,this];rfl
 unfold A06;simp only[X8,Xa,hbk,h1,h2,ZJ,Xj,YJ,Expr.pos,Xz,Yz,kx,ky,hl];refine(iG (by decide)).trans ((iG (λz=>?_)).trans ?_)
 ·simp only[Xe,Z8,Ya,Wv]at z;rcases z with z | z
  ·cases a<;>first | (cases z;done) | cases ha
  ·cases b<;>first | (cases z;done) | cases hb
 ·rw[show(some NameKind.local == some NameKind.local&&py.line == py.line)=true by simp];simp only[if_true];refine(iG (by rw[ed];simp)).trans ?_;refine(iG (by simp)).trans ((iG (by simp)).trans rfl)
theorem QO{env:Env}{x y z:Str}{px py pz pt pt2:Pos}{k k2:Nat}{a b c:Expr}(hk:env.scope.kind = .function)(h:DS env.scope x y px py=true)(h':DS env.scope x z px pz=true)(h'':DS env.scope y z py pz=true)(ha:e8 a=true)(hb:e8 b=true)(hc:e8 c=true)(h1:([a,b,c].all (A0X 8))=false)(h2:([a,b,c].all (A0R 8))=false):
 A06 [.Tuple [.Name x px,.Name y py,.Name z pz] k pt] (.Tuple [a,b,c] k2 pt2) env=pure (some [x,y,z]):=by
 have hbk:env.blockKind = .function:=by unfold Env.blockKind;rw[hk];rfl
 unfold DS at h h' h'';simp only[W6,bQ,We,beq_eq_false_iff_ne]at h h' h'';obtain⟨⟨⟨hx,hy⟩,hl⟩,hne⟩:=h;obtain⟨⟨⟨_,hz⟩,hl'⟩,hne'⟩:=h';have hne'':=h''.2;have kx:env.kindOf x=some .local:=hx;have ky:env.kindOf y=some .local:=hy;have kz:env.kindOf z=some .local:=hz
 have ed:([x,y,z]:List Str).eraseDups.length=3:=by
  have e1:(y == x)=false:=by rw[beq_eq_false_iff_ne];exact λw=>hne w.symm
  have e2:(z == x)=false:=by rw[beq_eq_false_iff_ne];exact λw=>hne' w.symm
  have e3:(z == y)=false:=by rw[beq_eq_false_iff_ne];exact λw=>hne'' w.symm
  simp[Yv,Xr,e1,e2,e3]
 have l2:py.line=pz.line:=hl.symm.trans hl';unfold A06;simp only[X8,Xa,hbk,h1,h2,ZJ,Xj,YJ,Expr.pos,Xz,Yz,kx,ky,kz,hl,l2];refine(iG (by decide)).trans ((iG (λw=>?_)).trans ?_)
 ·simp only[Xe,Z8,Ya,Wv]at w;rcases w with w | w | w
  ·cases a<;>first | (cases w;done) | cases ha
  ·cases b<;>first | (cases w;done) | cases hb
  ·cases c<;>first | (cases w;done) | cases hc
 ·rw[show(some NameKind.local == some NameKind.local&&pz.line == pz.line)=true by simp];simp only[if_true];refine(iG (by rw[ed];simp)).trans ?_;refine(iG (by simp)).trans ((iG (by simp)).trans rfl)
theorem HD{t:WT}{a b:WS}(mt:MonoT t)(ma:MonoS a)(mb:MonoS b):MonoS (λD ρ S=>t ρ S λc S1=>if c=true then a D ρ S1 else b D ρ S1):=λD D' ρ S l h=>mt _ _ _ _ (λc S1 q=>i6 (λq=>ma.go q l) (λq=>mb.go q l) q) h
section
variable{T:List Str}{Δ:Nat->Sn}{X:Cx}{N:List Str}{sc:Zu}
theorem RW{env:Env}{e:Expr}(h:e8 e=true):(A0c [e] env).map (·.2)=[assign e env]:=by cases e<;>first | rfl | cases h
theorem Iy{env:Env}{o i:Expr}{p:Pos}(h:Ak i=true):∀ v,assign (.Subscript o i p) env v=(do
 let ov <- holding [v] (eval o env)
 let iv <- holding [v,ov] (eval i env)
 standAt p
 holding [v,ov,iv] (setItem ov iv v)
 release [v,ov,iv] []):=λv=>by cases i<;>first | rfl | cases h
theorem LY(C:Cok T Δ X N.length N sc)(hk:sc.kind = .function){t:Tg}{e:Ex}{rt re:Expr}{pos:Pos}(h1:AV N.length N sc t rt=true)(h2:j5 T N sc e re=true)(h3:e8 rt=true)(h4:Th sc rt re=true):PS X (.Assign [rt] re pos) (liftS X.K λD ρ S=>(wEx Δ e).1 ρ S λx S1=>wTg t x ρ λρ'=>D.nx ρ' S1):=by
 have ge:=c3 e re C h2;unfold Th at h4;cases hv:C3 rt with
 | none=>
   rw[hv]at h4;rw[W6]at h4;obtain⟨es,hes⟩:=XB.mp h4.1;obtain⟨j,p,rfl⟩:=BG hes;exact y0 _ (MF ge.pe (y8 C t _ h1) Ix (Tk h4.2) (RW rfl)) (QI ge.m)
 | some xp=>
   rw[hv]at h4;have e0:=Ay hv;obtain⟨x,px⟩:=xp;subst e0;cases t with
   | tup ts=>rw[AV]at h1;cases h1
   | nm i=>
     rw[AV]at h1;have h1:(decide (i<N.length)&&decide (N[i]?=some x)&&loc sc x)=true:=h1;simp only[W6,dQ]at h1;obtain⟨⟨hi,hx⟩,hl⟩:=h1;unfold loc at hl;simp only[Wv,bQ]at hl;have hND:X.N.Nodup:=by rw[C.hN];exact C.nd
     have hNi:X.N[i]?=some x:=by rw[C.hN];exact hx
     have hloc:Loc X.env.scope x:=by rw[C.hs];exact hl
     have hf:X.fn x=true\/X.env.scope.names.lookup x=some .local:=by
      rw[C.hs];rcases hl with hl | hl
      ·exact .inr hl
      ·exact .inl (C.fn i x hi hx hl)
     have hke:X.env.scope.kind = .function:=by rw[C.hs];exact hk
     cases hsw:DL sc re x px with
     | false=>exact y0 _ (SC hND hNi hloc ge.pe (by rw[DZ hke,C.hs,hsw]) hf) (Cq ge.m)
     | true=>
       have h4:(!DL sc re x px||Te re||Tf re||Nj re)=true:=h4;rw[hsw,Bool.not_true,ZR,Wv,Wv]at h4;rcases h4 with(h4 | h4) | h4
       ·unfold Te at h4;obtain⟨v,hv',h4⟩:=a6 h4;obtain⟨gen,hgen⟩:=XB.mp h4;obtain⟨p',rfl⟩:=Cn hv';rw[y6 hgen]at h2 ge hsw ⊢
        have hxl:X.env.scope.names.lookup x=some .local:=by
         rw[C.hs];unfold DL CY at hsw;simp only[W6,bQ]at hsw;exact hsw.1.1
        have hs1:A08 (.ListComp v.1 [gen] v.2.2 p') (some (.Name x px)) pos.line X.env=pure true:=by rw[DZ hke,C.hs,hsw]
        cases e with
        | comp own cn js g it t' e'=>
          obtain⟨tg,ri,ifs,az⟩:=gen;have h2:(decide (az=0)&&j9 sc v.2.2 own cn N js&&AV own.length (own++cn) (AJ v.2.2 sc) g tg&&Dx T N sc it tg ri&&r6 ri&&Bm T (own++cn) (AJ v.2.2 sc) t' ifs&&j5 T (own++cn) (AJ v.2.2 sc) e' v.1)=true:=h2;simp only[W6,dQ]at h2;obtain⟨⟨⟨⟨⟨⟨k0,k1⟩,k2⟩,k3⟩,k4⟩,k5⟩,k6⟩:=h2;subst k0;have hI:=y9 it _ _ C k3;have hT:=λs2 H2 cs A fp=>AS t' _ (C.comp k1 s2 H2 cs A fp) k5;have hE:=λs2 H2 cs A fp=>c3 e' _ (C.comp k1 s2 H2 cs A fp) k6;have mt:=(hT X.s₀ X.H₀ [] 0 []).2;have me:=(hE X.s₀ X.H₀ [] 0 []).m;have b:=II (i:=i) (g:=Am X.K g) (tt:=liftT X.K (wEo Δ t').2) (te:=lift X.K (wEx Δ e').1) own cn js hND hNi hxl hI.pi (λs2 H2 cs A fp=>y8 (C.comp k1 s2 H2 cs A fp) g _ k2) (λs2 H2 cs A fp=>(hT s2 H2 cs A fp).1) (λs2 H2 cs A fp=>(hE s2 H2 cs A fp).pe) C.calm (by rw[C.hs,C.hN];exact k1) hs1 (l7 k4);refine y0 _ b λD σ H h=>?_;have:=Cq ge.m D σ H h;exact Gp hI.m mt me σ H _ this
        | no=>exact λ_ _ _ _ _ _ h=>let ⟨_,_,_,_,_,z⟩:=h;z.elim
        | _=>exact absurd h2 nofun
       ·unfold Tf at h4;obtain⟨v,hv',h4⟩:=a6 h4;obtain⟨gen,hgen⟩:=XB.mp h4;obtain⟨p',rfl⟩:=Ez hv';rw[y6 hgen]at h2 ge hsw ⊢
        have hxl:X.env.scope.names.lookup x=some .local:=by
         rw[C.hs];unfold DL CY at hsw;simp only[W6,bQ]at hsw;exact hsw.1.1
        have hs1:A08 (.DictComp v.1 v.2.1 [gen] v.2.2.2 p') (some (.Name x px)) pos.line X.env=pure true:=by rw[DZ hke,C.hs,hsw]
        cases e with
        | dcomp own cn js g it t' e' f'=>
          obtain⟨tg,ri,ifs,az⟩:=gen;have h2:(decide (az=0)&&j9 sc v.2.2.2 own cn N js&&AV own.length (own++cn) (AJ v.2.2.2 sc) g tg&&Dx T N sc it tg ri&&r6 ri&&Bm T (own++cn) (AJ v.2.2.2 sc) t' ifs&&j5 T (own++cn) (AJ v.2.2.2 sc) e' v.1&&j5 T (own++cn) (AJ v.2.2.2 sc) f' v.2.1)=true:=h2;simp only[W6,dQ]at h2;obtain⟨⟨⟨⟨⟨⟨⟨k0,k1⟩,k2⟩,k3⟩,k4⟩,k5⟩,k6⟩,k7⟩:=h2;subst k0;have hI:=y9 it _ _ C k3;have hT:=λs2 H2 cs A fp=>AS t' _ (C.comp k1 s2 H2 cs A fp) k5;have hE:=λs2 H2 cs A fp=>c3 e' _ (C.comp k1 s2 H2 cs A fp) k6;have hF:=λs2 H2 cs A fp=>c3 f' _ (C.comp k1 s2 H2 cs A fp) k7;have mt:=(hT X.s₀ X.H₀ [] 0 []).2;have me:=(hE X.s₀ X.H₀ [] 0 []).m;have mf:=(hF X.s₀ X.H₀ [] 0 []).m;have b:=Gk (i:=i) (g:=Am X.K g) (tt:=liftT X.K (wEo Δ t').2) (tk:=lift X.K (wEx Δ e').1) (tv:=lift X.K (wEx Δ f').1) own cn js hND hNi hxl hI.pi (λs2 H2 cs A fp=>y8 (C.comp k1 s2 H2 cs A fp) g _ k2) (λs2 H2 cs A fp=>(hT s2 H2 cs A fp).1) (λs2 H2 cs A fp=>(hE s2 H2 cs A fp).pe) (λs2 H2 cs A fp=>(hF s2 H2 cs A fp).pe) C.calm (by rw[C.hs,C.hN];exact k1) hs1 (l7 k4);refine y0 _ b λD σ H h=>?_;have:=Cq ge.m D σ H h;exact F4 hI.m mt me mf σ H _ this
        | no=>exact λ_ _ _ _ _ _ h=>let ⟨_,_,_,_,_,z⟩:=h;z.elim
        | _=>exact absurd h2 nofun
       ·unfold Nj at h4;obtain⟨v,hv',h4⟩:=a6 h4;obtain⟨gen,hgen⟩:=XB.mp h4;obtain⟨p',rfl⟩:=Cn hv';rw[F1 hgen]at h2 ge hsw ⊢
        have hxl:X.env.scope.names.lookup x=some .local:=by
         rw[C.hs];unfold DL CY at hsw;simp only[W6,bQ]at hsw;exact hsw.1.1
        have hs1:A08 (.ListComp v.1 [gen.1,gen.2] v.2.2 p') (some (.Name x px)) pos.line X.env=pure true:=by rw[DZ hke,C.hs,hsw]
        cases e with
        | comp2 own cn js g it t' g2 it2 t2 e'=>
          obtain⟨⟨tg,ri,ifs,az⟩,⟨tg2,ri2,ifs2,az2⟩⟩:=gen;have h2:(decide (az=0)&&decide (az2=0)&&j9 sc v.2.2 own cn N js&&AV own.length (own++cn) (AJ v.2.2 sc) g tg&&Dx T N sc it tg ri&&r6 ri&&Bm T (own++cn) (AJ v.2.2 sc) t' ifs&&AV own.length (own++cn) (AJ v.2.2 sc) g2 tg2&&Dx T (own++cn) (AJ v.2.2 sc) it2 tg2 ri2&&r6 ri2&&Bm T (own++cn) (AJ v.2.2 sc) t2 ifs2&&j5 T (own++cn) (AJ v.2.2 sc) e' v.1)=true:=h2;simp only[W6,dQ]at h2;obtain⟨⟨⟨⟨⟨⟨⟨⟨⟨⟨⟨k0,k0'⟩,k1⟩,k2⟩,k3⟩,k4⟩,k5⟩,k6⟩,k7⟩,k8⟩,k9⟩,ka⟩:=h2;subst k0;subst k0';have hI:=y9 it _ _ C k3;have hT:=λs2 H2 cs A fp=>AS t' _ (C.comp k1 s2 H2 cs A fp) k5;have hI2:=λs2 H2 cs A fp=>y9 it2 _ _ (C.comp k1 s2 H2 cs A fp) k7;have hT2:=λs2 H2 cs A fp=>AS t2 _ (C.comp k1 s2 H2 cs A fp) k9;have hE:=λs2 H2 cs A fp=>c3 e' _ (C.comp k1 s2 H2 cs A fp) ka;have mt:=(hT X.s₀ X.H₀ [] 0 []).2;have mi2:=(hI2 X.s₀ X.H₀ [] 0 []).m;have mt2:=(hT2 X.s₀ X.H₀ [] 0 []).2;have me:=(hE X.s₀ X.H₀ [] 0 []).m;have b:=Gn (i:=i) (g:=Am X.K g) (tt:=liftT X.K (wEo Δ t').2) (wi2:=liftI X.K (FU Δ it2)) (g2:=Am X.K g2) (tt2:=liftT X.K (wEo Δ t2).2) (te:=lift X.K (wEx Δ e').1) own cn js hND hNi hxl hI.pi (λs2 H2 cs A fp=>y8 (C.comp k1 s2 H2 cs A fp) g _ k2) (λs2 H2 cs A fp=>(hT s2 H2 cs A fp).1) (λs2 H2 cs A fp=>(hI2 s2 H2 cs A fp).pi) (λs2 H2 cs A fp=>y8 (C.comp k1 s2 H2 cs A fp) g2 _ k6) (λs2 H2 cs A fp=>(hT2 s2 H2 cs A fp).1) (λs2 H2 cs A fp=>(hE s2 H2 cs A fp).pe) (λ_ _ _ _ _=>l7 k8) C.calm (by rw[C.hs,C.hN];exact k1) hs1 (l7 k4);refine y0 _ b λD σ H h=>?_;have:=Cq ge.m D σ H h;exact F3 hI.m mt mi2 mt2 me σ H _ this
        | no=>exact λ_ _ _ _ _ _ h=>let ⟨_,_,_,_,_,z⟩:=h;z.elim
        | _=>exact absurd h2 nofun
mutual
theorem Nm(C:Cok T Δ X N.length N sc)(hp:A1y (Zm X.prog X.w) X.A X.env X.xe)(hk:sc.kind = .function):∀(s:Stm) (r:Stmt),VM T N sc s r=true->GoodS X r (wSt Δ s)
 | .asg t e,r,h=>by
   replace h:=a6 h;obtain⟨v,hv,h⟩:=h;replace h:=a6 h;obtain⟨rt,hrt,h⟩:=h;obtain⟨pos,rfl⟩:=Co hv;simp only[W6]at h;obtain⟨⟨⟨h1,h2⟩,h3⟩,h4⟩:=h;rw[y6 hrt];exact⟨LY C hk h1 h2 h3 h4,HB (c3 e _ C h2).m⟩
 | .par i j a b,r,h=>by
   replace h:=a6 h;obtain⟨v,hv,h⟩:=h;replace h:=a6 h;obtain⟨rt,hrt,h⟩:=h;replace h:=a6 h;obtain⟨ts,hts,h⟩:=h;replace h:=a6 h;obtain⟨nn,hnn,h⟩:=h;replace h:=a6 h;obtain⟨vs,hvs,h⟩:=h;replace h:=a6 h;obtain⟨ab,hab,h⟩:=h;replace h:=a6 h;obtain⟨x,hx',h⟩:=h;replace h:=a6 h;obtain⟨y,hy',h⟩:=h;obtain⟨pos,rfl⟩:=Co hv;simp only[W6,dQ,We]at h;obtain⟨⟨⟨⟨⟨⟨⟨⟨⟨hx,hy⟩,hij⟩,hpar⟩,h1⟩,h2⟩,h3⟩,h4⟩,h5⟩,h6⟩:=h;obtain⟨j1,p1,e1⟩:=BG hts;obtain⟨j2,p2,e2⟩:=BG hvs;rw[y6 hrt,e1,F1 hnn,e2,F1 hab,Ay hx',Ay hy'];have ga:=c3 a _ C h1;have gb:=c3 b _ C h2;have hp2:=hpar;unfold DS at hp2;simp only[W6,bQ]at hp2;have hke:X.env.scope.kind = .function:=by rw[C.hs];exact hk
   refine⟨y0 _ (SD (i:=i) (j:=j) C.calm (by rw[C.hN];exact C.nd) (by rw[C.hN];exact hx) (by rw[C.hN];exact hy) hij (by rw[C.hs];exact hp2.1.1.1) (by rw[C.hs];exact hp2.1.1.2) (AF ga.pe (AF gb.pe Br (l6 h4)) (l6 h3)) (Tm hke (by rw[C.hs];exact hpar) h3 h4 h5 h6) Ix) (QL ga.m gb.m),?_⟩;exact λD D' ρ S l h=>ga.m _ _ _ _ (λx S1 q=>gb.m _ _ _ _ (λy S2 q=>l.nx _ _ q) q) h
 | .par3 i j k a b c,r,h=>by
   replace h:=a6 h;obtain⟨v,hv,h⟩:=h;replace h:=a6 h;obtain⟨rt,hrt,h⟩:=h;replace h:=a6 h;obtain⟨ts,hts,h⟩:=h;replace h:=a6 h;obtain⟨nn,hnn,h⟩:=h;replace h:=a6 h;obtain⟨vs,hvs,h⟩:=h;replace h:=a6 h;obtain⟨ab,hab,h⟩:=h;replace h:=a6 h;obtain⟨x,hx',h⟩:=h;replace h:=a6 h;obtain⟨y,hy',h⟩:=h;replace h:=a6 h;obtain⟨z,hz',h⟩:=h;obtain⟨pos,rfl⟩:=Co hv;simp only[W6,dQ,We]at h;obtain⟨⟨⟨⟨⟨⟨⟨⟨⟨⟨⟨⟨⟨⟨⟨⟨hx,hy⟩,hz⟩,hij⟩,hik⟩,hjk⟩,p12⟩,p13⟩,p23⟩,h1⟩,h2⟩,h3⟩,h4⟩,h5⟩,h6⟩,h7⟩,h8⟩:=h;obtain⟨j1,p1,e1⟩:=BG hts;obtain⟨j2,p2,e2⟩:=BG hvs;rw[y6 hrt,e1,RQ hnn,e2,RQ hab,Ay hx',Ay hy',Ay hz'];have ga:=c3 a _ C h1;have gb:=c3 b _ C h2;have gc:=c3 c _ C h3;have hp2:=p12;have hp3:=p13;unfold DS at hp2 hp3;simp only[W6,bQ]at hp2 hp3;have hke:X.env.scope.kind = .function:=by rw[C.hs];exact hk
   refine⟨y0 _ (P5 (i:=i) (j:=j) (k:=k) C.calm (by rw[C.hN];exact C.nd) (by rw[C.hN];exact hx) (by rw[C.hN];exact hy) (by rw[C.hN];exact hz) hij hik hjk (by rw[C.hs];exact hp2.1.1.1) (by rw[C.hs];exact hp2.1.1.2) (by rw[C.hs];exact hp3.1.1.2) (AF ga.pe (AF gb.pe (AF gc.pe Br (l6 h6)) (l6 h5)) (l6 h4)) (QO hke (by rw[C.hs];exact p12) (by rw[C.hs];exact p13) (by rw[C.hs];exact p23) h4 h5 h6 h7 h8) Ix) (Nk ga.m gb.m gc.m),?_⟩;exact λD D' ρ S l h=>ga.m _ _ _ _ (λx S1 q=>gb.m _ _ _ _ (λy S2 q=>gc.m _ _ _ _ (λz S3 q=>l.nx _ _ q) q) q) h
 | .put o i e,r,h=>by
   replace h:=a6 h;obtain⟨v,hv,h⟩:=h;replace h:=a6 h;obtain⟨rt,hrt,h⟩:=h;replace h:=a6 h;obtain⟨oi,hoi,h⟩:=h;obtain⟨pos,rfl⟩:=Co hv;obtain⟨p2,e2⟩:=CG hoi;simp only[W6]at h;rw[y6 hrt,e2];have go:=c3 o _ C h.1.1.1;have gi:=c3 i _ C h.1.1.2;have ge:=c3 e _ C h.1.2;refine⟨y0 _ (MF ge.pe (SB go.pe gi.pe MR (Iy h.2)) Tj Tl (RW rfl)) (QN go.m gi.m ge.m),?_⟩;exact λD D' ρ S l h=>ge.m _ _ _ _ (λv S1 q=>go.m _ _ _ _ (λx S2 q=>gi.m _ _ _ _ (λy S3 q=>E7 (λS4 q=>l.nx _ _ q) q) q) q) h
 | .dput o i e,r,h=>by
   replace h:=a6 h;obtain⟨v,hv,h⟩:=h;replace h:=a6 h;obtain⟨rt,hrt,h⟩:=h;replace h:=a6 h;obtain⟨oi,hoi,h⟩:=h;obtain⟨pos,rfl⟩:=Co hv;obtain⟨p2,e2⟩:=CG hoi;simp only[W6]at h;rw[y6 hrt,e2];have go:=c3 o _ C h.1.1.1;have gi:=c3 i _ C h.1.1.2;have ge:=c3 e _ C h.1.2;have:=C.un;refine⟨y0 _ (N5 (by omega) go.pe gi.pe ge.pe (by unfold A08;cases v.2<;>rfl)) (Nl go.m gi.m ge.m),?_⟩;exact λD D' ρ S l h=>ge.m _ _ _ _ (λv S1 q=>go.m _ _ _ _ (λx S2 q=>gi.m _ _ _ _ (λy S3 q=>F5 (λS4 q=>l.nx _ _ q) q) q) q) h
 | .expr e,r,h=>by
   replace h:=a6 h;obtain⟨re,hre,h⟩:=h;obtain⟨pos,rfl⟩:=QD hre;simp only[W6]at h;have ge:=c3 e _ C h.1
   have hs:A08 re none pos.line X.env=pure false:=by
    have:=h.2;unfold A08;cases re<;>first | rfl | (unfold CY at this;cases this)
   refine⟨y0 _ (Oo ge.pe hs) ?_,λD D' ρ S l h=>ge.m _ _ _ _ (λx S1 q=>l.nx _ _ q) h⟩;rintro D σ H ⟨as,ρ,S,ok,en,h⟩;exact⟨as,ρ,S,ok,en,ge.m _ _ _ _ (λx S1 q as1 H1 v g1 ok1 rv=>q as1 H1 σ g1 ok1 (en.mono g1.pre (g1.ku ok))) h⟩
 | .iff t a b,r,h=>by
   replace h:=a6 h;obtain⟨v,hv,h⟩:=h;obtain⟨pos,rfl⟩:=QF hv;simp only[W6]at h;have gt:=c3 t _ C h.1.1;have ga:=BW C hp hk a _ h.1.2;have gb:=BW C hp hk b _ h.2;exact⟨y0 _ (U9 gt.pt ga.ps gb.ps) (Ti gt.mt ga.m gb.m),HD gt.mt ga.m gb.m⟩
 | .loop g it b,r,h=>by
   replace h:=a6 h;obtain⟨v,hv,h⟩:=h;obtain⟨pos,rfl⟩:=QG hv;simp only[W6,XF]at h;obtain⟨⟨⟨⟨h1,h2⟩,h3⟩,h4⟩,h5⟩:=h;rw[h5];have gi:=y9 it _ _ C h2;have gb:=BW C hp hk b _ h4;refine⟨y0 _ (SE hp C.calm gi.pi (y8 C g _ h1) gb.ps (l7 h3)) (QJ gi.m gb.m),?_⟩;exact λD D' ρ S l h=>gi.m _ _ _ _ (λkeep xs S1 q=>CJ gb.m xs l _ _ q) h
 | .whl t b,r,h=>by
   replace h:=a6 h;obtain⟨v,hv,h⟩:=h;obtain⟨pos,rfl⟩:=QH hv;simp only[W6,XF]at h;rw[h.2];have gt:=c3 t _ C h.1.1;have gb:=BW C hp hk b _ h.1.2;exact⟨y0 _ (MH hp gt.pt gb.ps) (QK gt.mt gb.m),HC gt.mt gb.m⟩
 | .ret e,r,h=>by
   replace h:=a6 h;obtain⟨o,ho,h⟩:=h;replace h:=a6 h;obtain⟨re,hre,h⟩:=h;obtain⟨pos,rfl⟩:=Jx ho;rw[hre];have ge:=c3 e _ C h;exact⟨y0 _ (Ry ge.pe) λD σ H ⟨as,ρ,S,ok,en,h⟩=>⟨as,ρ,S,ok,en,h⟩,λD D' ρ S l h=>ge.m _ _ _ _ l.rt h⟩
 | .retN,r,h=>by
   replace h:=a6 h;obtain⟨o,ho,h⟩:=h;obtain⟨pos,rfl⟩:=Jx ho;rw[XS.mp h];exact⟨y0 _ Op λD σ H ⟨as,ρ,S,ok,en,h⟩=>Post.here h ok (rl_non.mpr rfl),λD D' ρ S l h=>l.rt _ _ h⟩
 | .no,r,h=>⟨λ_ _ _ _ _ _ h=>let ⟨_,_,_,_,_,z⟩:=h;z.elim,λ_ _ _ _ _ h=>h⟩
theorem BW(C:Cok T Δ X N.length N sc)(hp:A1y (Zm X.prog X.w) X.A X.env X.xe)(hk:sc.kind = .function):∀(s:List Stm) (r:List Stmt),Cp T N sc s r=true->GoodSs X r (wSs Δ s)
 | [],r,h=>by
   rw[Cp,XF]at h;subst h;exact Iw
 | s::ss,r,h=>by
   rw[Cp]at h;replace h:=a6 h;obtain⟨x,hx,h⟩:=h;rw[W6]at h;rw[BH hx];have:=HA (Nm C hp hk s x h.1) (BW C hp hk ss _ h.2);rw[wSs];exact this
end
end
mutual
theorem a7{Δ:Nat->Sn}(hΔ:∀ f,MonoN (Δ f)):∀(e:Ex),Mono (wEx Δ e).1/\MonoT (wEx Δ e).2
 | .var i=>⟨.var,.tru .var⟩
 | .c x=>⟨.c,.tru .c⟩
 | .op o a b=>have m:Mono _ := .two (s:=sOp o) Jn (a7 hΔ a).1 (a7 hΔ b).1;⟨m,.tru m⟩
 | .neg a=>have m:Mono _ := .one E1 (a7 hΔ a).1;⟨m,.tru m⟩
 | .cmp o a b=>have m:Mono _ := .two (s:=BT o) Al (a7 hΔ a).1 (a7 hΔ b).1;⟨m,.bl m⟩
 | .chn o p a b c=>have m:=GT (o:=o) (p:=p) (a7 hΔ a).1 (a7 hΔ b).1 (a7 hΔ c).1;⟨m,.bl m⟩
 | .and a b=>⟨.and (a7 hΔ a).1 (a7 hΔ b).1,.and (a7 hΔ a).2 (a7 hΔ b).2⟩
 | .or a b=>⟨.or (a7 hΔ a).1 (a7 hΔ b).1,.or (a7 hΔ a).2 (a7 hΔ b).2⟩
 | .not a=>⟨.not (a7 hΔ a).1,.not (a7 hΔ a).2⟩
 | .ife t a b=>⟨.ifE (a7 hΔ t).2 (a7 hΔ a).1 (a7 hΔ b).1,λ_ _ _ _ _ h=>h⟩
 | .tup es=>have m:Mono _ := .n .tup (BX hΔ es);⟨m,.tru m⟩
 | .lst es=>have m:Mono _ := .n .lst (BX hΔ es);⟨m,.tru m⟩
 | .ix a b=>have m:Mono _ := .two .ix (a7 hΔ a).1 (a7 hΔ b).1;⟨m,.tru m⟩
 | .slc a lo hi=>have m:Mono _:=(λρ S P P' i h=>(a7 hΔ a).1 _ _ _ _ (λx S1 h=>(j6 hΔ lo).1 _ _ _ _ (λl S2 h=>(j6 hΔ hi).1 _ _ _ _ (λk S3 h=>E3 i h) h) h) h:Mono (Pv _ _ _));⟨m,.tru m⟩
 | .call f es=>have m:Mono _ := .n (hΔ f) (BX hΔ es);⟨m,.tru m⟩
 | .bi b es=>have m:Mono _ := .n (s:=sBi b) .bi (BX hΔ es);⟨m,.tru m⟩
 | .mt m' a es=>have m:Mono _:=Mono.mt (m:=m') (a7 hΔ a).1 (BX hΔ es);⟨m,.tru m⟩
 | .comp own cn js g it t e=>have m:Mono _:=Mono.comp (k:=own.length) (js:=js) (g:=g) (B8 hΔ it) (j6 hΔ t).2 (a7 hΔ e).1;⟨m,.tru m⟩
 | .comp2 own cn js g it t g2 it2 t2 e=>have m:Mono _:=Mono.comp2 (k:=own.length) (js:=js) (g:=g) (g2:=g2) (B8 hΔ it) (j6 hΔ t).2 (B8 hΔ it2) (j6 hΔ t2).2 (a7 hΔ e).1;⟨m,.tru m⟩
 | .tyc t=>⟨.c,.tru .c⟩
 | .lrng1 a=>have m:=E4 (a7 hΔ a).1;⟨m,.tru m⟩
 | .rev a=>have m:Mono _ := .one GY (a7 hΔ a).1;⟨m,.tru m⟩
 | .lenset a=>have m:=DI (a7 hΔ a).1;⟨m,.tru m⟩
 | .srtset a=>have m:=DJ (a7 hΔ a).1;⟨m,.tru m⟩
 | .dcomp own cn js g it t e f=>have m:Mono _:=Mono.dcomp (k:=own.length) (js:=js) (g:=g) (B8 hΔ it) (j6 hΔ t).2 (a7 hΔ e).1 (a7 hΔ f).1;⟨m,.tru m⟩
 | .srtsc own cn js g it t e=>have m:Mono _:=Mono.srtsc (k:=own.length) (js:=js) (g:=g) (B8 hΔ it) (j6 hΔ t).2 (a7 hΔ e).1;⟨m,.tru m⟩
 | .eqt0 a b=>have m:Mono _ := .two CH (a7 hΔ a).1 (a7 hΔ b).1;⟨m,.bl m⟩
 | .dget a b=>have m:Mono _ := .two D7 (a7 hΔ a).1 (a7 hΔ b).1;⟨m,.tru m⟩
 | .din n a b=>have m:Mono _ := .two (s:=L6 n) BV (a7 hΔ a).1 (a7 hΔ b).1;⟨m,.bl m⟩
 | .no=>⟨λ_ _ _ _ _ h=>h,λ_ _ _ _ _ h=>h⟩
theorem BX{Δ:Nat->Sn}(hΔ:∀ f,MonoN (Δ f)):∀(es:Exs),MonoA (D6 Δ es)
 | .nil => .nil
 | .cons e es => .cons (a7 hΔ e).1 (BX hΔ es)
theorem j6{Δ:Nat->Sn}(hΔ:∀ f,MonoN (Δ f)):∀(o:Eo),MonoO (wEo Δ o).1/\MonoT (wEo Δ o).2
 | .no=>⟨.no,λ_ _ _ _ i q=>i _ _ q⟩
 | .yes e=>⟨.yes (a7 hΔ e).1,(a7 hΔ e).2⟩
theorem B8{Δ:Nat->Sn}(hΔ:∀ f,MonoN (Δ f)):∀(it:Itb),MonoI (FU Δ it)
 | .seq e=>λρ S P P' i h=>(a7 hΔ e).1 _ _ _ _ (λx S1 ⟨xs,e,q⟩=>⟨xs,e,i _ _ _ q⟩) h
 | .rng1 a=>λρ S P P' i h=>(a7 hΔ a).1 _ _ _ _ (λx S1 ⟨j,e,z,q⟩=>⟨j,e,z,i _ _ _ q⟩) h
 | .rng2 a b=>λρ S P P' i h=>(a7 hΔ a).1 _ _ _ _ (λx S1 h=>(a7 hΔ b).1 _ _ _ _ (λy S2 ⟨l,j,e,e2,z,q⟩=>⟨l,j,e,e2,z,i _ _ _ q⟩) h) h
 | .enum e=>λρ S P P' i h=>(a7 hΔ e).1 _ _ _ _ (λx S1 ⟨xs,e,q⟩=>⟨xs,e,i _ _ _ q⟩) h
 | .dk e=>λρ S P P' i h=>(a7 hΔ e).1 _ _ _ _ (λx S1 ⟨k,kvs,e,hk,q⟩=>⟨k,kvs,e,hk,λo ks=>i _ _ _ (q o ks)⟩) h
end
mutual
theorem QP{Δ:Nat->Sn}(hΔ:∀ f,MonoN (Δ f)):∀(s:Stm),MonoS (wSt Δ s)
 | .asg t e=>by exact HB (a7 hΔ e).1
 | .par3 i j k a b c=>by exact λD D' ρ S l h=>(a7 hΔ a).1 _ _ _ _ (λx S1 q=>(a7 hΔ b).1 _ _ _ _ (λy S2 q=>(a7 hΔ c).1 _ _ _ _ (λz S3 q=>l.nx _ _ q) q) q) h
 | .par i j a b=>by exact λD D' ρ S l h=>(a7 hΔ a).1 _ _ _ _ (λx S1 q=>(a7 hΔ b).1 _ _ _ _ (λy S2 q=>l.nx _ _ q) q) h
 | .put o i e=>by exact λD D' ρ S l h=>(a7 hΔ e).1 _ _ _ _ (λv S1 q=>(a7 hΔ o).1 _ _ _ _ (λx S2 q=>(a7 hΔ i).1 _ _ _ _ (λy S3 q=>E7 (λS4 q=>l.nx _ _ q) q) q) q) h
 | .dput o i e=>by exact λD D' ρ S l h=>(a7 hΔ e).1 _ _ _ _ (λv S1 q=>(a7 hΔ o).1 _ _ _ _ (λx S2 q=>(a7 hΔ i).1 _ _ _ _ (λy S3 q=>F5 (λS4 q=>l.nx _ _ q) q) q) q) h
 | .expr e=>by exact λD D' ρ S l h=>(a7 hΔ e).1 _ _ _ _ (λx S1 q=>l.nx _ _ q) h
 | .iff t a b=>by exact HD (a7 hΔ t).2 (i7 hΔ a) (i7 hΔ b)
 | .loop g it b=>by exact λD D' ρ S l h=>B8 hΔ it _ _ _ _ (λkeep xs S1 q=>CJ (i7 hΔ b) xs l _ _ q) h
 | .whl t b=>by exact HC (a7 hΔ t).2 (i7 hΔ b)
 | .ret e=>by exact λD D' ρ S l h=>(a7 hΔ e).1 _ _ _ _ l.rt h
 | .retN=>by exact λD D' ρ S l h=>l.rt _ _ h
 | .no=>by exact λD D' ρ S l h=>h
theorem i7{Δ:Nat->Sn}(hΔ:∀ f,MonoN (Δ f)):∀(s:List Stm),MonoS (wSs Δ s)
 | []=>by exact λD D' ρ S l h=>l.nx _ _ h
 | s::ss=>by exact λD D' ρ S l h=>(QP hΔ s).go (D:={D with nx:=wSs Δ ss D}) h ⟨λρ' S' q=>(i7 hΔ ss) _ _ _ _ l q,l.rt,l.bk,l.ct⟩
end
theorem QQ{P:List Zh->Prop}{n:Nat}(h:∀ a us,us.length=n->P (a::us)):∀ us:List Zh,us.length=n+1->P us
 | a::us,e=>h a us (Nat.succ.inj e)
theorem EX{P:List Zh->Prop}(h:∀ a,P [a]):∀ us:List Zh,us.length=1->P us:=QQ λa us e=>Ye.mp e▸h a
theorem C4{P:List Zh->Prop}(h:∀ a b,P [a,b]):∀ us:List Zh,us.length=2->P us:=QQ λa=>EX (P:=λus=>P (a::us)) (h a)
theorem Iz{P:List Zh->Prop}(h:∀ a b c,P [a,b,c]):∀ us:List Zh,us.length=3->P us:=QQ λa=>C4 (P:=λus=>P (a::us)) (h a)
theorem To{P:List Zh->Prop}(h:∀ a b c d,P [a,b,c,d]):∀ us:List Zh,us.length=4->P us:=QQ λa=>Iz (P:=λus=>P (a::us)) (h a)
structure Df where
 name:Str
 st:Stmt
 ps:List Str
 N:List Str
 body:List Stm
def AK(Q:QE):EndsS:=⟨λ_ S'=>Q .non S',Q,λ_ _=>False,λ_ _=>False⟩
def Nn(n:Nat)(xs:List SV):EnvS:=xs.map some++WM (n - xs.length) none
noncomputable def i9(Δ:Nat->Sn)(D:Df):Sn:=λxs S Q=>xs.length=D.ps.length/\wSs Δ D.body (AK Q) (Nn D.N.length xs) S
noncomputable def W(prog:List Df):Nat->Nat->Sn
 | 0,_=>λ_ _ _=>False
 | d+1,f=>match prog[f]? with
   | some D=>i9 (W prog d) D
   | none=>λ_ _ _=>False
theorem No{Δ:Nat->Sn}(hΔ:∀ f,MonoN (Δ f))(D:Df):MonoN (i9 Δ D):=λxs S P P' i h=>⟨h.1,(i7 hΔ D.body).go h.2 ⟨λ_ _ q=>i _ _ q,i,λ_ _ q=>q,λ_ _ q=>q⟩⟩
theorem E8{prog:List Df}:∀(d f:Nat),MonoN (W prog d f)
 | 0,f=>λ_ _ _ _ _ h=>h
 | d+1,f=>by
   unfold W;split
   ·exact No (E8 d) _
   ·exact λ_ _ _ _ _ h=>h
noncomputable def fnB(N ps:List Str)(sc:Zu):Bool:=decide (sc.kind = .function)&&!sc.isCoroutine&&!sc.isGenerator&&decide N.Nodup&&decide (N.take ps.length=ps)&&ps.all (loc sc)&&sc.names.all (λy=>!decide (y.2 = .free))
theorem Tp{N ps:List Str}{sc:Zu}(h:fnB N ps sc=true):FnScope N ps sc:=by
 unfold fnB at h;simp only[W6,dQ,We,Wg,decide_eq_false_iff_not]at h;obtain⟨⟨⟨⟨⟨⟨h1,h2⟩,h3⟩,h4⟩,h5⟩,h6⟩,h7⟩:=h;refine⟨h1,h2,h3,h4,h5,λx hx=>?_,h7⟩;have:=h6 x hx;unfold loc at this;simpa using this
noncomputable def QR(T:List Str)(D:Df):Bool:=fnB D.N D.ps (defScope D.st)&&Cp T D.N (defScope D.st) D.body (defBody D.st)
structure Bl(mg:Str->Option Zh):Prop where
 bl:∀ b:BI,mg b.name=none
 rng:mg "range"=none
 enm:mg "enumerate"=none
 zip:mg "zip"=none
 st0:mg "set"=none
 dc0:mg "dict"=none
 ty:∀ t:TyN,t ≠ .none->mg (Str.ofString t.nm)=none
section
variable{P:Zo}{w:Zq}{K:W5}{mg:Str->Option Zh}{base:Heap}
theorem LZ{as:List Zk}{H:Hp}{N:List Str}{vs:List V}{xs:List SV}(r:RlAll K as H vs xs):EnvOk K as H (L2.start N vs) (Nn N.length xs):=by
 unfold L2.start Nn;rw[<-r.length];refine⟨by simp[r.length],λi x e=>?_⟩;by_cases hi:i<vs.length
 ·rw[WX (by rw[W8,<-r.length];exact hi),WQ]at e;rw[WX (by simpa using hi),WQ];cases hx:xs[i]? with
  | none=>rw[hx]at e;cases e
  | some y=>
    rw[hx]at e;have:y=x:=by simpa using e
    subst this;obtain⟨v,hv,rv⟩:=r.get hx;exact⟨v,by rw[hv];rfl,rv⟩
 ·rw[X6 (by rw[W8,<-r.length];omega),XM]at e;split at e<;>cases e
theorem Np{T:List Str}{Δ:Nat->Sn}{D:Df}{f:Zk}{fd:A0o}{k:Nat}(F:Fun K D.name D.name D.st f fd)(hc:QR T D=true)(B:Bl mg)(hcall:∀ f x,T[f]?=some x->∃ ps,Cal P w K mg base k x ps (spS K (Δ f)))(hΔ:∀ f,MonoN (Δ f)):FnOk P w K mg base CX0 (k+1) f fd D.ps (spS K (i9 Δ D)):=by
 unfold QR at hc;rw[W6]at hc;have S:=Tp hc.1;refine F.ok S (λvs H Q E h=>?_) (λcdv A outer s H vs Q E hr h=>?_)
 ·obtain⟨as,S,xs,ok,r,hl,_⟩:=h;rw[r.length];exact hl
 ·have C:Cok T Δ (IA CX0 P w K mg base D.N D.name (defScope D.st) f cdv A outer s H E).nox D.N.length D.N (defScope D.st):={
   hN:=rfl,hs:=rfl,nd:=S.nd,calm:=rfl,fn:=λ_ _ _ _ _=>rfl
   un:=by have:=hr.un;show(A.deeper _).units+100<cLine;omega
   bl:=B.bl,rng:=B.rng,enm:=B.enm,zip:=B.zip,st0:=B.st0,dc0:=B.dc0,ty:=B.ty,gd:=hr.gd
   call:=λg x hx=>let ⟨ps,c⟩:=hcall g x hx;⟨k,ps,c,hr⟩
   mono:=hΔ}
  refine⟨_,(BW C PassesOwn.never S.kind D.body _ hc.2).ps,?_⟩;obtain⟨as,S,xs,ok,r,hl,h⟩:=h;refine⟨as,_,S,ok,LZ r,(i7 hΔ D.body).go h ⟨λρ' S' q as' H' σ' g ok' en'=>q as' H' _ g ok' (rl_non.mpr rfl),λx S' q=>q,λ_ _ q=>q.elim,λ_ _ q=>q.elim⟩⟩
structure PIn(K:W5)(mg:Str->Option Zh)(D:Df):Prop where
 ex:∃ f fd,Fun K D.name D.name D.st f fd/\mg D.name=some (.ref f)/\PySem.W.keepIn K (.ref f)=true/\Binds K fd D.ps []
theorem Jy{prog:List Df}(hc:prog.all (QR (prog.map (·.name)))=true)(B:Bl mg)(hin:∀ D∈prog,PIn K mg D):∀(d f:Nat) (D:Df),prog[f]?=some D->Cal P w K mg base d D.name D.ps (spS K (W prog d f))
 | 0,f,D,hf=>by
   obtain⟨fa,fd,F,hm,hk,hb⟩:=(hin D (WC hf)).ex;refine⟨fa,fd,⟨λvs H Q E h=>?_,λA outer s H args us vs Q E hr he hbn hv h=>?_⟩,hm,hk,hb⟩
   ·obtain⟨_,_,_,_,_,z⟩:=h;exact z.elim
   ·obtain⟨_,_,_,_,_,z⟩:=h;exact z.elim
 | d+1,f,D,hf=>by
   obtain⟨fa,fd,F,hm,hk,hb⟩:=(hin D (WC hf)).ex;have h1:=Wg.mp hc D (WC hf)
   have:=Np (Δ:=W prog d) (P:=P) (w:=w) (base:=base) (k:=d) F h1 B (λg x hx=>by
    rw[WQ]at hx;cases hg:prog[g]? with
    | none=>rw[hg]at hx;cases hx
    | some D'=>
      rw[hg]at hx;have:D'.name=x:=by simpa using hx
      subst this;exact⟨D'.ps,Jy hc B hin d g D' hg⟩) (E8 d)
   have e:W prog (d+1) f=i9 (W prog d) D:=by rw[W,hf]
   rw[e];exact⟨fa,fd,this,hm,hk,hb⟩
theorem Tq{prog:List Df}{d f:Nat}{H:Hp}{a:Zk}{ns:List Int}(main:W prog d f [.ro (ns.map SV.int)] [] λx _=>x = .bl true)(hO:P4 H)(hS:SqL K H a (ns.map V.int)):spS K (W prog d f) [.ref a] H (λv _=>v = .bl true) λ_ _ _=>False:=by
 have hz:FzL K H a (ns.map V.int):=by
  rcases hS with(h | ⟨o,h⟩) | h
  ·rcases hO a with z | ⟨o,xs,z⟩<;>rw[h]at z<;>cases z
  ·exact .inl ⟨o,h⟩
  ·exact .inr h
 refine⟨[],[],_,⟨rfl,Y9,λk o a e=>by simp at e⟩,.cons (rl_ro.mpr ⟨a,_,rfl,hz,RlAll.ints⟩) .nil,E8 d f _ _ _ _ (λx S' e as' H' v g ok r=>?_) main⟩;subst e;exact rl_bl.mp r
end
theorem a8{k:Nat}{S:Sto}{xs:List SV}(h:S[k]?=some (.lst xs)):seqS (.loc k) S=some xs:=by simp only[seqS,h]
theorem HE{k:Nat}{S:Sto}{xs:List SV}(h:S[k]?=some (.lst xs)):BE (.loc k) S=none:=by simp only[BE,h]
theorem Jz{k:Nat}{S:Sto}{xs:List SV}(h:S[k]?=some (.lst xs)):N7 (.loc k) S=some (!xs.isEmpty):=by simp only[N7,h]
theorem DA{k:Nat}{S:Sto}{xs:List SV}(h:S[k]?=some (.lst xs)):tyS (.loc k) S=some .list:=by simp only[tyS,h]
theorem ifT{b:Bool}{A B:Prop}(h:b=true)(a:A):if b=true then A else B:=by rw[iP h];exact a
theorem ifF{b:Bool}{A B:Prop}(h:b=false)(a:B):if b=true then A else B:=by rw[iG (by rw[h];decide)];exact a
theorem ifD{c A B:Prop}[Decidable c](h1:c->A)(h2:¬ c->B):if decide c=true then A else B:=by
 by_cases h:c
 ·rw[iP (decide_eq_true h)];exact h1 h
 ·rw[iG (by simpa using h)];exact h2 h
theorem ifB{b:Bool}{A B:Prop}(h1:b=true->A)(h2:b=false->B):if b=true then A else B:=by
 cases b with
 | true=>rw[iP rfl];exact h1 rfl
 | false=>rw[iG (by decide)];exact h2 rfl
theorem u8{S:Sto}{k:Nat}{o u:SO}(h:S[k]?=some o):(S.set k u)[k]?=some u:=Wk ((gM h).1)
theorem j0{S:Sto}{k j:Nat}{u:SO}(h:k≠j):(S.set k u)[j]?=S[j]?:=Wx h
theorem c6{S:Sto}{o:SO}:(S++[o])[S.length]?=some o:=Wf
theorem e6{S:Sto}{o u:SO}{k:Nat}(h:S[k]?=some u):(S++[o])[k]?=some u:=by
 rw[WX ((gM h).1)];exact h
theorem u7{S:Sto}{o:SO}{k:Nat}(h:S[k]?=some o):k<S.length:=(gM h).1
structure TapeS(S:Sto)(t:Nat):Prop where
 ex:∃ a b:Int,S[t]?=some (.lst [.int a,.int b])/\0<=a/\0<=b/\b<2147483647
structure On(t:Nat)(S S':Sto):Prop where
 len:S.length<=S'.length
 keep:∀ k o,k≠t->S[k]?=some o->S'[k]?=some o
theorem On.refl(t:Nat)(S:Sto):On t S S:=⟨WJ _,λ_ _ _ h=>h⟩
theorem On.trans{t:Nat}{S S' S'':Sto}(a:On t S S')(b:On t S' S''):On t S S'':=⟨Ws a.len b.len,λk o n h=>b.keep k o n (a.keep k o n h)⟩
theorem On.push{t:Nat}{S S':Sto}{o:SO}(a:On t S S'):On t S (S'++[o]):=⟨by rw[W7];have:=a.len;omega,λk u n h=>e6 (a.keep k u n h)⟩
theorem On.tape{t:Nat}{S S':Sto}{o:SO}(a:On t S S'):On t S (S'.set t o):=⟨by rw[Wc];exact a.len,λk u n h=>by rw[j0 (Ne.symm n)];exact a.keep k u n h⟩
theorem On.new{t k:Nat}{S S':Sto}{o:SO}(a:On t S S')(h:S.length<=k):On t S (S'.set k o):=⟨by rw[Wc];exact a.len,λj u n hj=>by
 rw[j0 (λz=>by have:=u7 hj;omega)];exact a.keep j u n hj⟩
theorem TapeS.push{S:Sto}{t:Nat}{o:SO}(h:TapeS S t):TapeS (S++[o]) t:=let ⟨a,b,e,z⟩:=h.ex;⟨a,b,e6 e,z⟩
theorem TapeS.other{S:Sto}{t k:Nat}{o:SO}(h:TapeS S t)(n:k≠t):TapeS (S.set k o) t:=let ⟨a,b,e,z⟩:=h.ex;⟨a,b,by rw[j0 n];exact e,z⟩
theorem TapeS.lt{S:Sto}{t:Nat}(h:TapeS S t):t<S.length:=let ⟨_,_,e,_⟩:=h.ex;u7 e
theorem v7{keep:Sto->Prop}{g:Tg}{b:WS}{D:EndsS}(mb:MonoS b)(I:Nat->EnvS->Sto->Prop){xs:List SV}{ρ:EnvS}{S:Sto}(h0:I 0 ρ S)(hk:∀ i ρ S,I i ρ S->keep S)
 (hs:∀ i x ρ S,xs[i]?=some x->I i ρ S->wTg g x ρ λρ2=>b {D with nx:=I (i+1),ct:=I (i+1),bk:=D.nx} ρ2 S) (hd:∀ ρ S,I xs.length ρ S->D.nx ρ S):AQ keep g b D xs ρ S:=by
 have go:∀(ys:List SV) (i:Nat) (ρ:EnvS) (S:Sto),xs.drop i=ys->i<=xs.length->I i ρ S->AQ keep g b D ys ρ S:=by
  intro ys
  induction ys with
  | nil=>
    intro i ρ S e hi h
    have:i=xs.length:=by
     have:=congrArg Y0 e;rw[XD,Xa]at this;omega
    subst this;unfold AQ;exact⟨hk _ _ _ h,hd _ _ h⟩
  | cons y ys ih=>
    intro i ρ S e hi h
    have hy:xs[i]?=some y:=by
     rw[<-Y5,e];rfl
    have hlt:=(gM hy).1;have e2:xs.drop (i+1)=ys:=by rw[<-YA,e];rfl
    unfold AQ;refine⟨hk _ _ _ h,l8 g (λρ2 q=>?_) (hs i y ρ S hy h)⟩;exact mb.go (D:={D with nx:=I (i+1),ct:=I (i+1),bk:=D.nx}) q ⟨λρ' S' z=>ih (i+1) ρ' S' e2 hlt z,λ_ _ z=>z,λ_ _ z=>z,λρ' S' z=>ih (i+1) ρ' S' e2 hlt z⟩
 exact go xs 0 ρ S rfl (XA _) h0
theorem Ad{keep:Sto->Prop}{g:Tg}{b:WS}{D:EndsS}(mb:MonoS b)(I:Nat->EnvS->Sto->Prop){xs:List SV}{ρ:EnvS}{S:Sto}(h0:I 0 ρ S)(hk:∀ i ρ S,I i ρ S->keep S)
 (hs:∀ i x ρ S (E:EndsS),(∀ ρ S,I (i+1) ρ S->E.nx ρ S)->(∀ y S,D.rt y S->E.rt y S)->xs[i]?=some x->I i ρ S->wTg g x ρ λρ2=>b E ρ2 S) (hd:∀ ρ S,I xs.length ρ S->D.nx ρ S):AQ keep g b D xs ρ S:=
 v7 mb I h0 hk (λi x ρ S hx hI=>hs i x ρ S {D with nx:=I (i+1),ct:=I (i+1),bk:=D.nx} (λ_ _ h=>h) (λ_ _ h=>h) hx hI) hd
theorem Da{b:WS}{nx ct bk:EnvS->Sto->Prop}{rt:SV->Sto->Prop}{ρ:EnvS}{S:Sto}(h:∀ E:EndsS,(∀ ρ S,nx ρ S->E.nx ρ S)->(∀ x S,rt x S->E.rt x S)->b E ρ S):b ⟨nx,rt,bk,ct⟩ ρ S:=h _ (λ_ _ z=>z) (λ_ _ z=>z)
theorem m7{keep:Sto->Prop}{g:Tg}{t:WT}{e:WE}{ρ:EnvS}{Q:List SV->Sto->Prop}(mt:MonoT t)(me:Mono e)(I:Nat->List SV->Sto->Prop){xs:List SV}{S:Sto}(h0:I 0 [] S)(hk:∀ i ys S,I i ys S->keep S)
 (hs:∀ i x ys S,xs[i]?=some x->I i ys S->wTg g x ρ λρ2=>t ρ2 S λb S1=>if b=true then e ρ2 S1 λy S2=>ys.length<big/\I (i+1) (ys++[y]) S2 else I (i+1) ys S1) (hd:∀ ys S,I xs.length ys S->Q ys S):A7 keep g t e ρ Q xs [] S:=by
 have go:∀(zs:List SV) (i:Nat) (ys:List SV) (S:Sto),xs.drop i=zs->i<=xs.length->I i ys S->A7 keep g t e ρ Q zs ys S:=by
  intro zs
  induction zs with
  | nil=>
    intro i ys S e' hi h
    have:i=xs.length:=by
     have:=congrArg Y0 e';rw[XD,Xa]at this;omega
    subst this;unfold A7;exact⟨hk _ _ _ h,hd _ _ h⟩
  | cons y zs ih=>
    intro i ys S e' hi h;have hy:xs[i]?=some y:=by rw[<-Y5,e'];rfl
    have hlt:=(gM hy).1;have e2:xs.drop (i+1)=zs:=by rw[<-YA,e'];rfl
    unfold A7;refine⟨hk _ _ _ h,l8 g (λρ2 q=>mt _ _ _ _ (λb S1 q=>i6 (λq=>me _ _ _ _ (λv S2 q=>⟨q.1,ih (i+1) _ S2 e2 hlt q.2⟩) q) (λq=>ih (i+1) _ S1 e2 hlt q) q) q) (hs i y ys S hy h)⟩
 exact go xs 0 [] S rfl (XA _) h0
theorem n8{lo hi:Int}{i:Nat}{x:SV}(h:(Bf lo hi)[i]?=some x):x = .int (lo+i)/\lo+i<hi:=by
 unfold Bf at h
 have hi':i<(hi - lo).toNat:=by
  have:=(gM h).1;simpa using this
 rw[WQ,YE hi']at h;exact⟨(oj h).symm,by omega⟩
theorem v0{lo hi:Int}:(Bf lo hi).length=(hi - lo).toNat:=by unfold Bf;simp
def pairS(e:Nat×Nat):SV := .tup [.int e.1,.int e.2]
noncomputable def RX:List Stm:=[(.asg (.nm 2) (.c (.int 0))),(.iff (.cmp .Lt (.var 1) (.bi .len (.cons (.var 0) .nil))) [(.asg (.nm 2) (.ix (.var 0) (.var 1)))] []),(.asg (.nm 3) (.op .Mult (.bi .abs (.cons (.var 2) .nil)) (.bi .int (.cons (.cmp .GtE (.bi .abs (.cons (.var 2) .nil)) (.op .Pow (.c (.int 10)) (.c (.int 18)))) .nil)))),(.ret (.lst (.cons (.var 3) (.cons (.op .Mod (.op .Mult (.op .Mod (.op .Add (.op .Add (.var 2) (.op .Mult (.c (.int 7919)) (.var 1))) (.c (.int 1))) (.c (.int 2147483647))) (.c (.int 48271))) (.c (.int 2147483647))) .nil))))]
noncomputable def RY:List Stm:=[(.iff (.cmp .Gt (.ix (.var 0) (.c (.int 0))) (.c (.int 0))) [(.asg (.nm 2) (.op .Mod (.ix (.var 0) (.c (.int 0))) (.var 1))),(.put (.var 0) (.c (.int 0)) (.op .FloorDiv (.ix (.var 0) (.c (.int 0))) (.var 1))),(.ret (.var 2))] []),(.put (.var 0) (.c (.int 1)) (.op .Mod (.op .Add (.op .Mult (.ix (.var 0) (.c (.int 1))) (.c (.int 48271))) (.c (.int 12345))) (.c (.int 2147483647)))),(.asg (.nm 3) (.op .Mod (.op .Mult (.ix (.var 0) (.c (.int 1))) (.op .Add (.op .Mod (.ix (.var 0) (.c (.int 1))) (.c (.int 1009))) (.c (.int 3)))) (.c (.int 2147483629)))),(.ret (.op .Mod (.op .Mod (.op .Mult (.var 3) (.op .Add (.op .Mod (.var 3) (.c (.int 997))) (.c (.int 5)))) (.c (.int 998244353))) (.var 1)))]
noncomputable def v8(s:Sn):Prop:=∀{t:Nat} {m:Int} {S:Sto} {Q:QE},TapeS S t->0<m->m<1073741824->(∀(r:Int) (S':Sto),0<=r->r<m->TapeS S' t->On t S S'->S'.length=S.length->Q (.int r) S')->s [.loc t,.int m] S Q
noncomputable def Nq(s:Sn):Prop:=∀{ns:List Int} {k:Nat} {S:Sto} {Q:QE},ns.length<=63->k<=1000->(∀ a b:Int,0<=a->0<=b->b<2147483647->Q (.loc S.length) (S++[.lst [.int a,.int b]]))->s [.ro (ns.map SV.int),.int k] S Q
theorem b01(b:Bool):-(2 ^ 64)<(if b=true then (1:Int) else 0)/\(if b=true then (1:Int) else 0)<2 ^ 64:=by cases b<;>decide
theorem b00(b:Bool):0<=(if b=true then (1:Int) else 0):=by cases b<;>decide
theorem QS{Δ:Nat->Sn}{D:Df}(hb:D.body=RY)(hN:D.N.length=4)(hp:D.ps.length=2):v8 (i9 Δ D):=by
 intro t m S Q T h0 h1 q;obtain⟨a,b,hS,ha,hb0,hb1⟩:=T.ex;unfold i9;rw[hb,hN];refine⟨hp.symm,?_⟩;have go:∀ r a' b':Int,0<=r->r<m->0<=a'->0<=b'->b'<2147483647->Q (.int r) (S.set t (.lst [.int a',.int b'])):=λr a' b' r0 r1 a0 b0 b1=>q r _ r0 r1 ⟨a',b',u8 hS,a0,b0,b1⟩ (On.refl t S).tape (by rw[Wc]);refine⟨_,rfl,_,_,a8 hS,rfl,_,rfl,ifD (λh=>?_) (λh=>?_)⟩
 ·refine⟨_,rfl,_,_,a8 hS,rfl,_,rfl,h0,?_⟩;refine⟨_,rfl,_,_,a8 hS,rfl,_,rfl,⟨h0,h1⟩,_,rfl,_,_,hS,rfl,_,rfl,?_⟩;exact go _ _ _ (Y6 _ (by omega)) (Xt _ h0) (Int.ediv_nonneg ha (by omega)) hb0 hb1
 ·refine⟨_,rfl,_,_,a8 hS,rfl,.inr (by decide),show(0:Int)<2147483647 by decide,_,rfl,_,_,hS,rfl,?_⟩;have e0:0<=(b * 48271+12345) % 2147483647:=Y6 _ (by decide);have e1:(b * 48271+12345) % 2147483647<2147483647:=Xt _ (by decide);have hS1:(S.set t (.lst [.int a,.int ((b * 48271+12345) % 2147483647)]))[t]?=some (.lst [.int a,.int ((b * 48271+12345) % 2147483647)]):=u8 hS;refine⟨_,rfl,_,_,a8 hS1,rfl,_,rfl,_,_,a8 hS1,rfl,show(0:Int)<1009 by decide,.inl ⟨by omega,by omega⟩,show(0:Int)<2147483629 by decide,?_⟩;have f0:0<=((b * 48271+12345) % 2147483647 * ((b * 48271+12345) % 2147483647 % 1009+3)) % 2147483629:=Y6 _ (by decide);have f1:((b * 48271+12345) % 2147483647 * ((b * 48271+12345) % 2147483647 % 1009+3)) % 2147483629<2147483629:=Xt _ (by decide);refine⟨_,rfl,_,rfl,show(0:Int)<997 by decide,.inl ⟨by omega,by omega⟩,show(0:Int)<998244353 by decide,_,rfl,h0,?_⟩;exact go _ _ _ (Y6 _ (by omega)) (Xt _ h0) ha e0 e1
theorem QT{Δ:Nat->Sn}{D:Df}(hb:D.body=RX)(hN:D.N.length=4)(hp:D.ps.length=2):Nq (i9 Δ D):=by
 intro ns k S Q hl hk q;unfold i9;rw[hb,hN];refine⟨hp.symm,?_⟩
 have fin:∀ c:Int,wSs Δ [(.asg (.nm 3) (.op .Mult (.bi .abs (.cons (.var 2) .nil)) (.bi .int (.cons (.cmp .GtE (.bi .abs (.cons (.var 2) .nil)) (.op .Pow (.c (.int 10)) (.c (.int 18)))) .nil)))),(.ret (.lst (.cons (.var 3) (.cons (.op .Mod (.op .Mult (.op .Mod (.op .Add (.op .Add (.var 2) (.op .Mult (.c (.int 7919)) (.var 1))) (.c (.int 1))) (.c (.int 2147483647))) (.c (.int 48271))) (.c (.int 2147483647))) .nil))))] (AK Q) [some (.ro (ns.map SV.int)),some (.int k),some (.int c),none] S:=λc=>by
  refine⟨_,rfl,_,rfl,⟨by decide,by decide,by decide⟩,.inr (b01 _),?_⟩;refine⟨_,rfl,_,rfl,_,rfl,.inl ⟨by decide,by decide⟩,show(0:Int)<2147483647 by decide,.inr ⟨by decide,by decide⟩,show(0:Int)<2147483647 by decide,by show 2<=big;decide,?_⟩;refine q _ _ (Int.mul_nonneg (by split<;>omega) (b00 _)) (Y6 _ (by decide)) (Xt _ (by decide))
 refine⟨_,rfl,_,rfl,_,rfl,_,rfl,ifD (λh=>?_) (λh=>fin 0)⟩
 have hk':k<ns.length:=by
  have:((ns.map SV.int).length:Int)=ns.length:=by rw[W8]
  omega
 refine⟨_,rfl,_,rfl,_,_,rfl,i5 (v := .int ns[k]) (by rw[WQ,WB hk'];rfl),?_⟩;exact fin _
noncomputable def q1(kd:Nat):Stm:=(.asg (.nm 2) (.call kd (.cons (.var 0) (.cons (.c (.int 8)) .nil))))
noncomputable def q2(kd:Nat):Stm:=(.asg (.nm 3) (.ix (.lst (.cons (.call kd (.cons (.var 0) (.cons (.c (.int 7)) .nil))) (.cons (.op .Add (.c (.int 7)) (.call kd (.cons (.var 0) (.cons (.c (.int 6)) .nil)))) .nil))) (.bi .int (.cons (.var 1) .nil))))
noncomputable def q3(kd:Nat):Stm:=(.asg (.nm 4) (.lst .nil))
noncomputable def q4(kd:Nat):Stm:=(.iff (.and (.cmp .Lt (.var 2) (.c (.int 3))) (.cmp .Gt (.var 3) (.c (.int 1)))) [(.loop (.nm 5) (.rng1 (.call kd (.cons (.var 0) (.cons (.op .Add (.op .Mult (.c (.int 2)) (.var 3)) (.c (.int 1))) .nil)))) [(.asg (.nm 6) (.call kd (.cons (.var 0) (.cons (.var 3) .nil)))),(.expr (.mt .append (.var 4) (.cons (.tup (.cons (.var 6) (.cons (.op .Mod (.op .Add (.op .Add (.var 6) (.c (.int 1))) (.call kd (.cons (.var 0) (.cons (.op .Sub (.var 3) (.c (.int 1))) .nil)))) (.var 3)) .nil))) .nil)))])] [])
noncomputable def q5(kd:Nat):Stm:=(.iff (.and (.cmp .Eq (.var 2) (.c (.int 3))) (.cmp .Gt (.var 3) (.c (.int 2)))) [(.asg (.nm 4) (.op .Add (.comp ["_law_k"] ["_law_many"] [3] (.nm 0) (.rng1 (.var 3)) .no (.tup (.cons (.var 0) (.cons (.op .Mod (.op .Add (.var 0) (.c (.int 1))) (.var 1)) .nil)))) (.lst (.cons (.tup (.cons (.c (.int 0)) (.cons (.op .Add (.call kd (.cons (.var 0) (.cons (.op .Sub (.var 3) (.c (.int 1))) .nil))) (.c (.int 1))) .nil))) .nil))))] [])
noncomputable def q6(kd:Nat):Stm:=(.iff (.and (.cmp .Eq (.var 2) (.c (.int 4))) (.cmp .Gt (.var 3) (.c (.int 1)))) [(.asg (.nm 4) (.comp ["_law_k"] [] [] (.nm 0) (.rng2 (.c (.int 1)) (.var 3)) .no (.tup (.cons (.c (.int 0)) (.cons (.var 0) .nil)))))] [])
noncomputable def q7(kd:Nat):Stm:=(.iff (.cmp .Eq (.var 2) (.c (.int 5))) [(.asg (.nm 3) (.bi .min (.cons (.var 3) (.cons (.op .Add (.c (.int 5)) (.bi .int (.cons (.var 1) .nil))) .nil)))),(.loop (.nm 7) (.rng1 (.var 3)) [(.expr (.mt .extend (.var 4) (.cons (.comp ["_law_j"] ["_law_k"] [7] (.nm 0) (.rng1 (.var 7)) .no (.tup (.cons (.var 0) (.cons (.var 1) .nil)))) .nil)))])] [])
noncomputable def q8(kd:Nat):Stm:=(.iff (.cmp .Eq (.var 2) (.c (.int 6))) [(.asg (.nm 8) (.op .Add (.c (.int 1)) (.op .FloorDiv (.var 3) (.c (.int 2))))),(.loop (.nm 7) (.rng1 (.var 8)) [(.expr (.mt .extend (.var 4) (.cons (.comp ["_law_j"] ["_law_tape_here","_law_k"] [0,7] (.nm 0) (.rng2 (.var 8) (.var 3)) (.yes (.cmp .Gt (.call kd (.cons (.var 1) (.cons (.c (.int 3)) .nil))) (.c (.int 0)))) (.tup (.cons (.var 2) (.cons (.var 0) .nil)))) .nil)))])] [])
noncomputable def q9(kd:Nat):Stm:=(.iff (.cmp .Eq (.var 2) (.c (.int 7))) [(.asg (.nm 3) (.op .Add (.c (.int 3)) (.op .FloorDiv (.var 3) (.c (.int 3))))),(.loop (.nm 7) (.rng1 (.c (.int 3))) [(.expr (.mt .extend (.var 4) (.cons (.op .Mult (.lst (.cons (.tup (.cons (.var 7) (.cons (.op .Mod (.op .Add (.var 7) (.c (.int 1))) (.c (.int 3))) .nil))) .nil)) (.op .Add (.c (.int 1)) (.call kd (.cons (.var 0) (.cons (.c (.int 3)) .nil))))) .nil)))])] [])
def q10(kd:Nat):Stm:=(.ret (.tup (.cons (.var 3) (.cons (.var 4) .nil))))
noncomputable def q7l(kd:Nat):Stm:=(.loop (.nm 7) (.rng1 (.var 3)) [(.expr (.mt .extend (.var 4) (.cons (.comp ["_law_j"] ["_law_k"] [7] (.nm 0) (.rng1 (.var 7)) .no (.tup (.cons (.var 0) (.cons (.var 1) .nil)))) .nil)))])
noncomputable def q8l(kd:Nat):Stm:=(.loop (.nm 7) (.rng1 (.var 8)) [(.expr (.mt .extend (.var 4) (.cons (.comp ["_law_j"] ["_law_tape_here","_law_k"] [0,7] (.nm 0) (.rng2 (.var 8) (.var 3)) (.yes (.cmp .Gt (.call kd (.cons (.var 1) (.cons (.c (.int 3)) .nil))) (.c (.int 0)))) (.tup (.cons (.var 2) (.cons (.var 0) .nil)))) .nil)))])
noncomputable def q9l(kd:Nat):Stm:=(.loop (.nm 7) (.rng1 (.c (.int 3))) [(.expr (.mt .extend (.var 4) (.cons (.op .Mult (.lst (.cons (.tup (.cons (.var 7) (.cons (.op .Mod (.op .Add (.var 7) (.c (.int 1))) (.c (.int 3))) .nil))) .nil)) (.op .Add (.c (.int 1)) (.call kd (.cons (.var 0) (.cons (.c (.int 3)) .nil))))) .nil)))])
noncomputable def Nr(kd:Nat):List Stm:=[q1 kd,q2 kd,q3 kd,q4 kd,q5 kd,q6 kd,q7 kd,q8 kd,q9 kd,q10 kd]
structure Prs(n:Nat)(es:EE):Prop where
 en:∀ e∈es,e.1<n/\e.2<n/\e.1≠e.2
 len:es.length<=58
 few:n<=12
noncomputable def FY(s:Sn):Prop:=∀{t:Nat} {g:Bool} {S:Sto} {Q:QE},TapeS S t->(∀(n:Nat) (es:EE) (l:Nat) (S':Sto),Prs n es->S'[l]?=some (.lst (es.map pairS))->S.length<=l->TapeS S' t->On t S S'->Q (.tup [.int n,.loc l]) S')->s [.loc t,.bl g] S Q
structure Ah(t:Nat)(S0 S:Sto)(l:Nat)(es:EE):Prop where
 tape:TapeS S t
 on:On t S0 S
 at':S[l]?=some (.lst (es.map pairS))
 new:S0.length<=l
 t0:t<S0.length
theorem Ah.ne{t l:Nat}{S0 S:Sto}{es:EE}(h:Ah t S0 S l es):l≠t:=by have:=h.new;have:=h.t0;omega
theorem Ah.draw{t l:Nat}{S0 S S':Sto}{es:EE}(h:Ah t S0 S l es)(T:TapeS S' t)(O:On t S S'):Ah t S0 S' l es:=⟨T,h.on.trans O,O.keep _ _ h.ne h.at',h.new,h.t0⟩
theorem Ah.push{t l:Nat}{S0 S:Sto}{es:EE}{o:SO}(h:Ah t S0 S l es):Ah t S0 (S++[o]) l es:=⟨h.tape.push,h.on.push,e6 h.at',h.new,h.t0⟩
theorem Ah.put{t l:Nat}{S0 S:Sto}{es fs:EE}(h:Ah t S0 S l es):Ah t S0 (S.set l (.lst (fs.map pairS))) l fs:=⟨h.tape.other h.ne,h.on.new h.new,u8 h.at',h.new,h.t0⟩
theorem HF(es:EE)(e:Nat×Nat):es.map pairS++[.tup [.int e.1,.int e.2]]=(es++[e]).map pairS:=by rw[Wd];rfl
section
variable{Δ:Nat->Sn}{kd:Nat}
theorem Vt(hΔ:∀ f,MonoN (Δ f))(hd:v8 (Δ kd)){t l n:Nat}{way:Int}{S0 S:Sto}{D:EndsS}{g:SV}{o5 o6 o7 o8:Option SV}(A:Ah t S0 S l [])(hn:n<=12)
 (q:∀(es:EE) (S':Sto) (o5 o6:Option SV),Prs n es->Ah t S0 S' l es->D.nx [some (.loc t),some g,some (.int way),some (.int n),some (.loc l),o5,o6,o7,o8] S'):
 wSt Δ (q4 kd) D [some (.loc t),some g,some (.int way),some (.int n),some (.loc l),o5,o6,o7,o8] S:=by
 have stay:=q [] S o5 o6 ⟨(λ_ h=>nomatch h),by simp,hn⟩ A;refine⟨_,rfl,_,rfl,ifD (λh1=>?_) (λh1=>ifF rfl stay)⟩;refine⟨_,rfl,_,rfl,ifD (λh2=>?_) (λh2=>stay)⟩;have h2:1<n:=by omega
 refine⟨_,rfl,_,rfl,.inl ⟨by decide,by decide⟩,hd A.tape (by omega) (by omega) λr S1 r0 r1 T1 O1 _=>⟨r,rfl,⟨by omega,by omega⟩,?_⟩⟩;have A1:=A.draw T1 O1
 refine v7 (i7 hΔ _) (λi ρ S2=>∃(es:EE) (o5 o6:Option SV),ρ=[some (.loc t),some g,some (.int way),some (.int n),some (.loc l),o5,o6,o7,o8]/\Ah t S0 S2 l es/\(∀ e∈es,e.1<n/\e.2<n/\e.1≠e.2)/\es.length=i)
  ⟨[],o5,o6,rfl,A1,(λ_ h=>nomatch h),rfl⟩ (λ_ _ _ _=>trivial) ?_ ?_
 ·rintro i x ρ S2 hx ⟨es,p5,p6,rfl,A2,he,hl⟩;obtain⟨rfl,hi⟩:=n8 hx;refine⟨_,rfl,_,rfl,hd A2.tape (by omega) (by omega) λa S3 a0 a1 T3 O3 _=>?_⟩;have A3:=A2.draw T3 O3;refine⟨_,rfl,⟨l,_,rfl,A3.at'⟩,?_⟩;refine⟨_,rfl,_,rfl,_,rfl,_,rfl,hd A3.tape (by omega) (by omega) λb S4 b0 b1 T4 O4 _=>?_⟩;have A4:=A3.draw T4 O4;refine⟨_,rfl,show(0:Int)<n by omega,by show 2<=big;decide,⟨_,A4.at',by rw[W8];show es.length<100000;omega,?_⟩⟩;have e1:((a.toNat:Nat):Int)=a:=XH a0;have m0:0<=(a+1+b) % n:=Y6 _ (by omega);have m1:(a+1+b) % n<n:=Xt _ (by omega);have e2:(((a+1+b) % n).toNat:Int)=(a+1+b) % n:=XH m0
  have hne:a≠(a+1+b) % n:=by
   by_cases hb:a+1+b<n
   ·rw[Z9 (by omega) hb];omega
   ·rw[<-Int.sub_emod_right,Z9 (by omega) (by omega)];omega
  have ea:=HF es (a.toNat,((a+1+b) % n).toNat);simp only[e1,e2]at ea;refine⟨es++[(a.toNat,((a+1+b) % n).toNat)],_,_,rfl,?_,λe h=>?_,by rw[W7,hl];rfl⟩
  ·have:=A4.put (fs:=es++[(a.toNat,((a+1+b) % n).toNat)]);rw[<-ea]at this;exact this
  ·rcases WH.mp h with h | h
   ·exact he e h
   ·rw[W9.mp h];exact⟨by show a.toNat<n;omega,by show((a+1+b) % n).toNat<n;omega,by show a.toNat≠((a+1+b) % n).toNat;omega⟩
 ·rintro ρ S2 ⟨es,p5,p6,rfl,A2,he,hl⟩;rw[v0]at hl;exact q es S2 p5 p6 ⟨he,by omega,hn⟩ A2
noncomputable abbrev PQ(t:Nat)(g:SV)(way:Int)(S0:Sto)(D:EndsS):Prop:=∀(n:Nat) (es:EE) (l:Nat) (S':Sto) (o5 o6 o7 o8:Option SV),Prs n es->Ah t S0 S' l es->D.nx [some (.loc t),some g,some (.int way),some (.int n),some (.loc l),o5,o6,o7,o8] S'
theorem FZ{n:Nat}(h:n<=12):Prs n []:=⟨(λ_ h=>nomatch h),by simp,h⟩
theorem Vu(hΔ:∀ f,MonoN (Δ f))(hd:v8 (Δ kd)){t l n:Nat}{S0 S:Sto}{D:EndsS}{g:SV}{o5 o6 o7 o8:Option SV}(A:Ah t S0 S l [])(hn:n<=12)(q:PQ t g 3 S0 D):
 wSt Δ (q5 kd) D [some (.loc t),some g,some (.int 3),some (.int n),some (.loc l),o5,o6,o7,o8] S:=by
 have stay:=q n [] l S o5 o6 o7 o8 (FZ hn) A;refine⟨_,rfl,_,rfl,ifT rfl ?_⟩;refine⟨_,rfl,_,rfl,ifD (λh2=>?_) (λh2=>stay)⟩;have h2:2<n:=by omega
 refine⟨_,rfl,n,rfl,⟨by omega,by omega⟩,?_⟩;refine m7 (j6 hΔ _).2 (a7 hΔ _).1 (λi ys S2=>S2=S/\ys=((WN i).map λj=>(j,(j+1) % n)).map pairS) ⟨rfl,rfl⟩ (λ_ _ _ _=>trivial) ?_ ?_
 ·rintro i x ys S2 hx ⟨rfl,rfl⟩;obtain⟨rfl,hi⟩:=n8 hx;refine⟨_,rfl,_,rfl,_,rfl,show(0:Int)<n by omega,by show 2<=big;decide,by simp;show i<100000;omega,rfl,?_⟩;rw[Xo,Wd,Wd];simp[pairS]
 ·rintro ys S2 ⟨rfl,rfl⟩;rw[v0];refine⟨_,rfl,_,rfl,hd (A.push (o := .lst (((WN ((n:Int) - 0).toNat).map λj=>(j,(j+1) % n)).map pairS))).tape (by omega) (by omega) λr S3 r0 r1 T3 O3 L3=>?_⟩;have A3:=(A.push (o := .lst (((WN ((n:Int) - 0).toNat).map λj=>(j,(j+1) % n)).map pairS))).draw T3 O3;refine⟨by show 2<=big;decide,by show 1<=big;decide,?_⟩;have hS:=A.t0;have hon:=A.on.len;have at1:S3[S2.length]?=some (.lst (((WN ((n:Int) - 0).toNat).map λj=>(j,(j+1) % n)).map pairS)):=O3.keep _ _ (by omega) c6;refine⟨_,_,e6 at1,c6,by simp;show _<=100000;omega,?_⟩;have en:((n:Int) - 0).toNat=n:=by omega
  rw[en];have e1:((r.toNat:Nat):Int)=r:=XH r0;have ea:=HF ((WN n).map λj=>(j,(j+1) % n)) (0,r.toNat+1);have e2:((r.toNat+1:Nat):Int)=r+1:=by omega
  simp only[e2]at ea;refine q n ((WN n).map (λj=>(j,(j+1) % n))++[(0,r.toNat+1)]) _ _ _ _ _ _ ⟨λe h=>?_,by simp;omega,hn⟩ ⟨A3.tape.push.push,A3.on.push.push,?_,?_,A.t0⟩
  ·rcases WH.mp h with h | h
   ·obtain⟨j,hj,rfl⟩:=Wi.mp h;have hj:=Wt.mp hj;refine⟨hj,ZO _ (by omega),?_⟩;by_cases hz:j+1<n
    ·show j≠(j+1) % n;rw[Nat.mod_eq_of_lt hz];omega
    ·have:j+1=n:=by omega
     show j≠(j+1) % n;rw[this,Nat.mod_self];omega
   ·rw[W9.mp h];exact⟨by show 0<n;omega,by show r.toNat+1<n;omega,by show 0≠r.toNat+1;omega⟩
  ·rw[<-ea];exact c6
  ·rw[W7];have:=A3.on.len;omega
theorem Vv(hΔ:∀ f,MonoN (Δ f)){t l n:Nat}{S0 S:Sto}{D:EndsS}{g:SV}{o5 o6 o7 o8:Option SV}(A:Ah t S0 S l [])(hn:n<=12)(q:PQ t g 4 S0 D):
 wSt Δ (q6 kd) D [some (.loc t),some g,some (.int 4),some (.int n),some (.loc l),o5,o6,o7,o8] S:=by
 have stay:=q n [] l S o5 o6 o7 o8 (FZ hn) A;refine⟨_,rfl,_,rfl,ifT rfl ?_⟩;refine⟨_,rfl,_,rfl,ifD (λh2=>?_) (λh2=>stay)⟩;have h2:1<n:=by omega
 refine⟨_,rfl,1,n,rfl,rfl,⟨by decide,by decide,by omega,by omega⟩,?_⟩;refine m7 (j6 hΔ _).2 (a7 hΔ _).1 (λi ys S2=>S2=S/\ys=((WN i).map λj=>(0,j+1)).map pairS) ⟨rfl,rfl⟩ (λ_ _ _ _=>trivial) ?_ ?_
 ·rintro i x ys S2 hx ⟨rfl,rfl⟩;obtain⟨rfl,hi⟩:=n8 hx;refine⟨_,rfl,by show 2<=big;decide,by simp;show i<100000;omega,rfl,?_⟩;rw[Xo,Wd,Wd];simp[pairS,Int.add_comm]
 ·rintro ys S2 ⟨rfl,rfl⟩;rw[v0];refine q n _ _ _ _ _ _ _ ⟨λe h=>?_,by simp;omega,hn⟩ ⟨A.tape.push,A.on.push,c6,A.on.len,A.t0⟩;obtain⟨j,hj,rfl⟩:=Wi.mp h;have hj:=Wt.mp hj;exact⟨by show 0<n;omega,by show j+1<n;omega,by show 0≠j+1;omega⟩
theorem Ah.ext{t l j:Nat}{S0 S:Sto}{es fs:EE}(h:Ah t S0 S l es)(hj:S[j]?=some (.lst (fs.map pairS))):Ah t S0 (S.set l (.lst (es.map pairS++fs.map pairS))) l (es++fs):=by
 rw[<-Wd];exact h.put
theorem Vw(hΔ:∀ f,MonoN (Δ f)){t l n:Nat}{b:Bool}{S0 S:Sto}{D:EndsS}{o5 o6 o7 o8:Option SV}(A:Ah t S0 S l [])(hn:n<=12)(q:PQ t (.bl b) 5 S0 D):
 wSt Δ (q7 kd) D [some (.loc t),some (.bl b),some (.int 5),some (.int n),some (.loc l),o5,o6,o7,o8] S:=by
 refine⟨_,rfl,_,rfl,ifT rfl ?_⟩
 obtain⟨m,em,hm⟩:∃ m:Nat,(if (5+(if b=true then (1:Int) else 0))<n then (5+(if b=true then (1:Int) else 0)) else (n:Int))=m/\m<=6:=by
  cases b
  ·by_cases h:(5:Int)<n
   ·exact⟨5,by simp[h],by omega⟩
   ·exact⟨n,by simp[h],by omega⟩
  ·by_cases h:(6:Int)<n
   ·exact⟨6,by simp[h],by omega⟩
   ·exact⟨n,by simp[h],by omega⟩
 suffices key:∀ z:Int,z=m->wSs Δ [q7l kd] D [some (.loc t),some (.bl b),some (.int 5),some (.int z),some (.loc l),o5,o6,o7,o8] S from ⟨_,rfl,_,rfl,key _ em⟩
 rintro _ rfl;refine⟨_,rfl,m,rfl,⟨by omega,by omega⟩,?_⟩
 refine v7 (i7 hΔ _) (λi ρ S2=>∃(es:EE) (o7:Option SV),ρ=[some (.loc t),some (.bl b),some (.int 5),some (.int m),some (.loc l),o5,o6,o7,o8]/\Ah t S0 S2 l es/\(∀ e∈es,e.1<e.2/\e.2<i)/\es.length<=i * 6)
  ⟨[],o7,rfl,A,(λ_ h=>nomatch h),by simp⟩ (λ_ _ _ _=>trivial) ?_ ?_
 ·rintro i x ρ S2 hx ⟨es,p7,rfl,A2,he,hl⟩;obtain⟨rfl,hi⟩:=n8 hx;refine⟨_,rfl,⟨l,_,rfl,A2.at'⟩,_,rfl,0+(i:Int),rfl,⟨by omega,by omega⟩,?_⟩;refine m7 (j6 hΔ _).2 (a7 hΔ _).1 (λj ys S3=>S3=S2/\ys=((WN j).map λj=>(j,i)).map pairS) ⟨rfl,rfl⟩ (λ_ _ _ _=>trivial) ?_ ?_
  ·rintro j x ys S3 hx ⟨rfl,rfl⟩;obtain⟨rfl,hj⟩:=n8 hx;refine⟨_,rfl,_,rfl,by show 2<=big;decide,by simp;show j<100000;omega,rfl,?_⟩;rw[Xo,Wd,Wd];simp[pairS]
  ·rintro ys S3 ⟨rfl,rfl⟩;rw[v0];have en:(0+(i:Int) - 0).toNat=i:=by omega
   rw[en];have A3:=A2.push (o := .lst (((WN i).map λj=>(j,i)).map pairS));refine⟨_,_,A3.at',c6,by simp;show _<=100000;omega,?_⟩;refine⟨es++(WN i).map (λj=>(j,i)),_,rfl,A3.ext (j:=S3.length) c6,λe h=>?_,by simp;omega⟩;rcases WH.mp h with h | h
   ·have:=he e h;omega
   ·obtain⟨j,hj,rfl⟩:=Wi.mp h;have hj:=Wt.mp hj;exact⟨hj,by show i<i+1;omega⟩
 ·rintro ρ S2 ⟨es,p7,rfl,A2,he,hl⟩;rw[v0]at he hl;refine q m es l S2 _ _ _ _ ⟨λe h=>?_,by omega,by omega⟩ A2;have:=he e h;omega
theorem Vx(hΔ:∀ f,MonoN (Δ f))(hd:v8 (Δ kd)){t l n:Nat}{S0 S:Sto}{D:EndsS}{g:SV}{o5 o6 o7 o8:Option SV}(A:Ah t S0 S l [])(hn:n<=12)(q:PQ t g 6 S0 D):
 wSt Δ (q8 kd) D [some (.loc t),some g,some (.int 6),some (.int n),some (.loc l),o5,o6,o7,o8] S:=by
 refine⟨_,rfl,_,rfl,ifT rfl ?_⟩;obtain⟨s,es',hs⟩:∃ s:Nat,1+(n:Int) / 2=s/\s=1+n / 2:=⟨1+n / 2,by omega,rfl⟩
 suffices key:∀ z:Int,z=s->wSs Δ [q8l kd] D [some (.loc t),some g,some (.int 6),some (.int n),some (.loc l),o5,o6,o7,some (.int z)] S from ⟨_,rfl,⟨by decide,by decide⟩,key _ es'⟩
 rintro _ rfl;refine⟨_,rfl,s,rfl,⟨by omega,by omega⟩,?_⟩
 refine v7 (i7 hΔ _) (λi ρ S2=>∃(es:EE) (o7:Option SV),ρ=[some (.loc t),some g,some (.int 6),some (.int n),some (.loc l),o5,o6,o7,some (.int s)]/\Ah t S0 S2 l es/\(∀ e∈es,e.1<i/\s<=e.2/\e.2<n)/\es.length<=i * (n - s))
  ⟨[],o7,rfl,A,(λ_ h=>nomatch h),by simp⟩ (λ_ _ _ _=>trivial) ?_ ?_
 ·rintro i x ρ S2 hx ⟨es,p7,rfl,A2,he,hl⟩;obtain⟨rfl,hi⟩:=n8 hx;refine⟨_,rfl,⟨l,_,rfl,A2.at'⟩,_,rfl,_,rfl,s,n,rfl,rfl,⟨by omega,by omega,by omega,by omega⟩,?_⟩;refine m7 (j6 hΔ _).2 (a7 hΔ _).1 (λj ys S3=>Ah t S0 S3 l es/\∃ fs:EE,ys=fs.map pairS/\(∀ e∈fs,e.1=i/\s<=e.2/\e.2<n)/\fs.length<=j) ⟨A2,[],rfl,(λ_ h=>nomatch h),WJ _⟩ (λ_ _ _ _=>trivial) ?_ ?_
  ·rintro j x ys S3 hx ⟨A3,fs,rfl,hf,fl⟩;obtain⟨rfl,hj⟩:=n8 hx;refine⟨_,rfl,hd A3.tape (by decide) (by decide) λr S4 r0 r1 T4 O4 _=>⟨_,rfl,?_⟩⟩;have A4:=A3.draw T4 O4;refine ifD (λ_=>?_) (λ_=>⟨A4,fs,rfl,hf,by omega⟩);refine⟨_,rfl,_,rfl,by show 2<=big;decide,by rw[W8];show _<100000;omega,A4,fs++[(i,s+j)],?_,λe h=>?_,by simp;omega⟩
   ·rw[Wd];simp[pairS]
   ·rcases WH.mp h with h | h
    ·exact hf e h
    ·rw[W9.mp h];exact⟨rfl,by show s<=s+j;omega,by show s+j<n;omega⟩
  ·rintro ys S3 ⟨A3,fs,rfl,hf,fl⟩;rw[v0]at fl;have A4:=A3.push (o := .lst (fs.map pairS));have hx6:i * (n - s)<=6 * 12:=ZP (by omega) (by omega);refine⟨_,_,A4.at',c6,by simp;show _<=100000;omega,?_⟩;refine⟨es++fs,_,rfl,A4.ext (j:=S3.length) c6,λe h=>?_,?_⟩
   ·rcases WH.mp h with h | h
    ·have:=he e h;exact⟨by omega,this.2⟩
    ·have:=hf e h;exact⟨by omega,this.2⟩
   ·rw[W7,Z2];omega
 ·rintro ρ S2 ⟨es,p7,rfl,A2,he,hl⟩;rw[v0]at he hl;have e0:((s:Int) - 0).toNat=s:=by omega
  rw[e0]at he hl;have h35:s * (n - s)<=7 * 5:=ZP (by omega) (by omega);refine q n es l S2 _ _ _ _ ⟨λe h=>?_,by omega,hn⟩ A2;have:=he e h;omega
theorem Vy(hΔ:∀ f,MonoN (Δ f))(hd:v8 (Δ kd)){t l n:Nat}{S0 S:Sto}{D:EndsS}{g:SV}{o5 o6 o7 o8:Option SV}(A:Ah t S0 S l [])(hn:n<=12)(q:PQ t g 7 S0 D):
 wSt Δ (q9 kd) D [some (.loc t),some g,some (.int 7),some (.int n),some (.loc l),o5,o6,o7,o8] S:=by
 refine⟨_,rfl,_,rfl,ifT rfl ?_⟩;obtain⟨m,em,hm⟩:∃ m:Nat,3+(n:Int) / 3=m/\m=3+n / 3:=⟨3+n / 3,by omega,rfl⟩
 suffices key:∀ z:Int,z=m->wSs Δ [q9l kd] D [some (.loc t),some g,some (.int 7),some (.int z),some (.loc l),o5,o6,o7,o8] S from ⟨_,rfl,⟨by decide,by decide⟩,key _ em⟩
 rintro _ rfl;refine⟨3,rfl,⟨by decide,by decide⟩,?_⟩
 refine v7 (i7 hΔ _) (λi ρ S2=>∃(es:EE) (o7:Option SV),ρ=[some (.loc t),some g,some (.int 7),some (.int m),some (.loc l),o5,o6,o7,o8]/\Ah t S0 S2 l es/\(∀ e∈es,e.1<3/\e.2<3/\e.1≠e.2)/\es.length<=i * 3)
  ⟨[],o7,rfl,A,(λ_ h=>nomatch h),by simp⟩ (λ_ _ _ _=>trivial) ?_ ?_
 ·rintro i x ρ S2 hx ⟨es,p7,rfl,A2,he,hl⟩;obtain⟨rfl,hi⟩:=n8 hx;refine⟨_,rfl,⟨l,_,rfl,A2.at'⟩,_,rfl,_,rfl,show(0:Int)<3 by decide,by show 2<=big;decide,by show 1<=big;decide,?_⟩;have A3:=A2.push (o := .lst [.tup [.int (0+(i:Int)),.int ((0+(i:Int)+1) % 3)]]);refine⟨_,rfl,hd A3.tape (by decide) (by decide) λr S4 r0 r1 T4 O4 L4=>?_⟩;have A4:=A3.draw T4 O4;have ht:=A2.t0;have hlen:=A2.on.len;have at1:S4[S2.length]?=some (.lst [.tup [.int (0+(i:Int)),.int ((0+(i:Int)+1) % 3)]]):=O4.keep _ _ (by omega) c6;refine⟨_,at1,⟨by omega,by omega⟩,by simp;show _<=100000;omega,?_⟩
  have e1:(WM (1+r).toNat [SV.tup [.int (0+(i:Int)),.int ((0+(i:Int)+1) % 3)]]).flatten=(WM (1+r).toNat (i,(i+1) % 3)).map pairS:=by
   induction (1+r).toNat with
   | zero=>rfl
   | succ k ih=>rw[X0,XT,ih,X0];simp[pairS]
  rw[e1];have A5:=A4.push (o := .lst ((WM (1+r).toNat (i,(i+1) % 3)).map pairS));refine⟨_,_,A5.at',c6,by simp;show _<=100000;omega,?_⟩;refine⟨es++WM (1+r).toNat (i,(i+1) % 3),_,rfl,A5.ext (j:=S4.length) c6,λe h=>?_,by simp;omega⟩;rcases WH.mp h with h | h
  ·exact he e h
  ·rw[List.eq_of_mem_replicate h];exact⟨by show i<3;omega,by show(i+1) % 3<3;omega,by show i≠(i+1) % 3;omega⟩
 ·rintro ρ S2 ⟨es,p7,rfl,A2,he,hl⟩;rw[v0]at hl;refine q m es l S2 _ _ _ _ ⟨λe h=>?_,by omega,by omega⟩ A2;have:=he e h;omega
theorem VN{t l:Nat}{way n:Int}{S:Sto}{D:EndsS}{g:SV}{o5 o6 o7 o8:Option SV}(h:¬ way<3)(q:D.nx [some (.loc t),some g,some (.int way),some (.int n),some (.loc l),o5,o6,o7,o8] S):wSt Δ (q4 kd) D [some (.loc t),some g,some (.int way),some (.int n),some (.loc l),o5,o6,o7,o8] S:=⟨_,rfl,_,rfl,ifD (λz=>absurd z h) (λ_=>ifF rfl q)⟩
theorem HH{t l:Nat}{way n:Int}{S:Sto}{D:EndsS}{g:SV}{o5 o6 o7 o8:Option SV}(h:¬ way=3)(q:D.nx [some (.loc t),some g,some (.int way),some (.int n),some (.loc l),o5,o6,o7,o8] S):wSt Δ (q5 kd) D [some (.loc t),some g,some (.int way),some (.int n),some (.loc l),o5,o6,o7,o8] S:=⟨_,rfl,_,rfl,ifD (λz=>absurd z h) (λ_=>ifF rfl q)⟩
theorem HI{t l:Nat}{way n:Int}{S:Sto}{D:EndsS}{g:SV}{o5 o6 o7 o8:Option SV}(h:¬ way=4)(q:D.nx [some (.loc t),some g,some (.int way),some (.int n),some (.loc l),o5,o6,o7,o8] S):wSt Δ (q6 kd) D [some (.loc t),some g,some (.int way),some (.int n),some (.loc l),o5,o6,o7,o8] S:=⟨_,rfl,_,rfl,ifD (λz=>absurd z h) (λ_=>ifF rfl q)⟩
theorem HJ{t l:Nat}{way n:Int}{S:Sto}{D:EndsS}{g:SV}{o5 o6 o7 o8:Option SV}(h:¬ way=5)(q:D.nx [some (.loc t),some g,some (.int way),some (.int n),some (.loc l),o5,o6,o7,o8] S):wSt Δ (q7 kd) D [some (.loc t),some g,some (.int way),some (.int n),some (.loc l),o5,o6,o7,o8] S:=⟨_,rfl,_,rfl,ifD (λz=>absurd z h) (λ_=>q)⟩
theorem HK{t l:Nat}{way n:Int}{S:Sto}{D:EndsS}{g:SV}{o5 o6 o7 o8:Option SV}(h:¬ way=6)(q:D.nx [some (.loc t),some g,some (.int way),some (.int n),some (.loc l),o5,o6,o7,o8] S):wSt Δ (q8 kd) D [some (.loc t),some g,some (.int way),some (.int n),some (.loc l),o5,o6,o7,o8] S:=⟨_,rfl,_,rfl,ifD (λz=>absurd z h) (λ_=>q)⟩
theorem HL{t l:Nat}{way n:Int}{S:Sto}{D:EndsS}{g:SV}{o5 o6 o7 o8:Option SV}(h:¬ way=7)(q:D.nx [some (.loc t),some g,some (.int way),some (.int n),some (.loc l),o5,o6,o7,o8] S):wSt Δ (q9 kd) D [some (.loc t),some g,some (.int way),some (.int n),some (.loc l),o5,o6,o7,o8] S:=⟨_,rfl,_,rfl,ifD (λz=>absurd z h) (λ_=>q)⟩
theorem QU(hΔ:∀ f,MonoN (Δ f))(hd:v8 (Δ kd)){t l n:Nat}{b:Bool}{w:Int}{S0 S:Sto}{Q:QE}(w0:0<=w)(w1:w<8)(A:Ah t S0 S l [])(hn:n<=12)
 (q:∀(n:Nat) (es:EE) (l:Nat) (S':Sto),Prs n es->Ah t S0 S' l es->Q (.tup [.int n,.loc l]) S'):
 wSs Δ [q4 kd,q5 kd,q6 kd,q7 kd,q8 kd,q9 kd,q10 kd] (AK Q) [some (.loc t),some (.bl b),some (.int w),some (.int n),some (.loc l),none,none,none,none] S:=by
 have fin:∀(n:Nat) (es:EE) (l:Nat) (S':Sto) (o5 o6 o7 o8:Option SV),Prs n es->Ah t S0 S' l es->wSs Δ [q10 kd] (AK Q) [some (.loc t),some (.bl b),some (.int w),some (.int n),some (.loc l),o5,o6,o7,o8] S':=λn es l S' o5 o6 o7 o8 P A'=>⟨_,rfl,_,rfl,by show 2<=big;decide,q n es l S' P A'⟩
 have nil:=FZ hn;by_cases h:w<3
 ·exact Vt hΔ hd A hn λes S' o5 o6 P A'=>HH (by omega) (HI (kd:=kd) (by omega) (HJ (kd:=kd) (by omega) (HK (by omega) (HL (by omega) (fin n es l S' _ _ _ _ P A')))))
 refine VN h ?_;have:w=3\/w=4\/w=5\/w=6\/w=7:=by omega
 rcases this with rfl | rfl | rfl | rfl | rfl
 ·exact Vu hΔ hd A hn λn es l S' o5 o6 o7 o8 P A'=>HI (kd:=kd) (by omega) (HJ (kd:=kd) (by omega) (HK (by omega) (HL (by omega) (fin n es l S' _ _ _ _ P A'))))
 ·exact HH (by omega) (Vv (kd:=kd) hΔ A hn λn es l S' o5 o6 o7 o8 P A'=>HJ (kd:=kd) (by omega) (HK (by omega) (HL (by omega) (fin n es l S' _ _ _ _ P A'))))
 ·exact HH (by omega) (HI (kd:=kd) (by omega) (Vw (kd:=kd) hΔ A hn λn es l S' o5 o6 o7 o8 P A'=>HK (by omega) (HL (by omega) (fin n es l S' _ _ _ _ P A'))))
 ·exact HH (by omega) (HI (kd:=kd) (by omega) (HJ (kd:=kd) (by omega) (Vx hΔ hd A hn λn es l S' o5 o6 o7 o8 P A'=>HL (by omega) (fin n es l S' _ _ _ _ P A'))))
 ·exact HH (by omega) (HI (kd:=kd) (by omega) (HJ (kd:=kd) (by omega) (HK (by omega) (Vy hΔ hd A hn λn es l S' o5 o6 o7 o8 P A'=>fin n es l S' _ _ _ _ P A'))))
theorem Nt(hΔ:∀ f,MonoN (Δ f))(hd:v8 (Δ kd)){D:Df}(hb:D.body=Nr kd)(hN:D.N.length=9)(hp:D.ps.length=2):FY (i9 Δ D):=by
 intro t g S Q T q;unfold i9;rw[hb,hN];refine⟨hp.symm,?_⟩;have t0:=T.lt;refine⟨_,rfl,hd T (by decide) (by decide) λw S1 w0 w1 T1 O1 _=>?_⟩;refine⟨_,rfl,hd T1 (by decide) (by decide) λr1 S2 a0 a1 T2 O2 _=>⟨_,rfl,hd T2 (by decide) (by decide) λr2 S3 b0 b1 T3 O3 _=>⟨by show 2<=big;decide,_,rfl,_,(if g=true then .int (7+r2) else .int r1),a8 c6,?_⟩⟩⟩;have O:=((O1.trans O2).trans O3).push (o := .lst [.int r1,.int (7+r2)])
 have key:∀(z:Int) (n:Nat),z=n->n<=12->wSs Δ [q3 kd,q4 kd,q5 kd,q6 kd,q7 kd,q8 kd,q9 kd,q10 kd] (AK Q) [some (.loc t),some (.bl g),some (.int w),some (.int z),none,none,none,none,none] (S3++[SO.lst [.int r1,.int (7+r2)]]):=by
  rintro _ n rfl hn;refine⟨by show 0<=big;decide,?_⟩;have A:Ah t S ((S3++[SO.lst [.int r1,.int (7+r2)]])++[SO.lst []]) (S3++[SO.lst [.int r1,.int (7+r2)]]).length []:=⟨T3.push.push,O.push,c6,O.len,t0⟩
  have r:=QU (b:=g) hΔ hd w0 w1 A hn (Q:=Q) λn es l S' P A=>q n es l S' P A.at' A.new A.tape A.on;exact r
 cases g with
 | false=>exact⟨rfl,key r1 r1.toNat (by omega) (by omega)⟩
 | true=>exact⟨rfl,key (7+r2) (7+r2).toNat (by omega) (by omega)⟩
end
noncomputable def u1(kd kp:Nat):Stm:=(.asg (.tup (.cons (.nm 2) (.cons (.nm 3) .nil))) (.call kp (.cons (.var 0) (.cons (.var 1) .nil))))
noncomputable def u2(kd kp:Nat):Stm:=(.iff (.cmp .Eq (.var 3) (.lst .nil)) [(.asg (.tup (.cons (.nm 2) (.cons (.nm 3) .nil))) (.call kp (.cons (.var 0) (.cons (.var 1) .nil))))] [])
noncomputable def u3(kd kp:Nat):Stm:=(.iff (.and (.cmp .NotEq (.var 3) (.lst .nil)) (.cmp .Eq (.call kd (.cons (.var 0) (.cons (.c (.int 4)) .nil))) (.c (.int 0)))) [(.asg (.nm 3) (.op .Add (.var 3) (.comp ["_law_turn"] ["_law_pairs","_law_tape_here"] [3,0] (.nm 0) (.rng1 (.op .Add (.c (.int 1)) (.call kd (.cons (.var 0) (.cons (.c (.int 3)) .nil))))) .no (.ix (.var 1) (.call kd (.cons (.var 2) (.cons (.bi .len (.cons (.var 1) .nil)) .nil)))))))] [])
noncomputable def u4(kd kp:Nat):Stm:=(.asg (.nm 4) (.lst .nil))
noncomputable def u5(kd kp:Nat):Stm:=(.loop (.tup (.cons (.nm 5) (.cons (.nm 6) .nil))) (.seq (.var 3)) [(.expr (.mt .insert (.var 4) (.cons (.call kd (.cons (.var 0) (.cons (.op .Add (.bi .len (.cons (.var 4) .nil)) (.c (.int 1))) .nil))) (.cons (.tup (.cons (.bi .min (.cons (.var 5) (.cons (.var 6) .nil))) (.cons (.bi .max (.cons (.var 5) (.cons (.var 6) .nil))) .nil))) .nil))))])
noncomputable def u6(kd kp:Nat):Stm:=(.ret (.tup (.cons (.var 2) (.cons (.bi .tuple (.cons (.var 4) .nil)) .nil))))
noncomputable def VO(kd kp:Nat):List Stm:=[u1 kd kp,u2 kd kp,u3 kd kp,u4 kd kp,u5 kd kp,u6 kd kp]
def j3(n:Nat)(es:EE):SV := .tup [.int n,.tup (es.map pairS)]
structure Web(n:Nat)(es:EE):Prop where
 en:∀ e∈es,e.1<e.2/\e.2<n
 len:es.length<=61
 few:n<=12
noncomputable def RZ(s:Sn):Prop:=∀{t:Nat} {g:Bool} {S:Sto} {Q:QE},TapeS S t->(∀(n:Nat) (es:EE) (S':Sto),Web n es->TapeS S' t->On t S S'->Q (j3 n es) S')->s [.loc t,.bl g] S Q
theorem BY{xs:List SV}:ET xs []=xs.isEmpty:=by cases xs<;>rfl
section
variable{Δ:Nat->Sn}{kd kp:Nat}
theorem E9(hΔ:∀ f,MonoN (Δ f))(hd:v8 (Δ kd)){t n l:Nat}{g:SV}{S0 S:Sto}{es:EE}{Q:QE}{o4 o5 o6:Option SV}(he:∀ e∈es,e.1<n/\e.2<n/\e.1≠e.2)(hl:es.length<=61)(hn:n<=12)(A:Ah t S0 S l es)
 (q:∀(es:EE) (S':Sto),Web n es->TapeS S' t->On t S0 S'->Q (j3 n es) S'):wSs Δ [u4 kd kp,u5 kd kp,u6 kd kp] (AK Q) [some (.loc t),some g,some (.int n),some (.loc l),o4,o5,o6] S:=by
 refine⟨by show 0<=big;decide,?_⟩;have hlt:=u7 A.at';have htl:=A.tape.lt;refine⟨_,rfl,_,a8 A.push.at',?_⟩
 refine v7 (i7 hΔ _) (λi ρ S2=>∃(fs:EE) (o5 o6:Option SV),ρ=[some (.loc t),some g,some (.int n),some (.loc l),some (.loc S.length),o5,o6]/\Ah t S0 S2 S.length fs/\S2[l]?=some (.lst (es.map pairS))/\(∀ e∈fs,e.1<e.2/\e.2<n)/\fs.length=i)
  ⟨[],o5,o6,rfl,⟨A.tape.push,A.on.push,c6,A.on.len,A.t0⟩,A.push.at',(λ_ h=>nomatch h),rfl⟩ (λi ρ S2 h=>?_) ?_ ?_
 ·obtain⟨fs,_,_,_,_,h2,_⟩:=h;exact h2.trans A.push.at'.symm
 ·rintro i x ρ S2 hx ⟨fs,p5,p6,rfl,A2,h2,hf,fl⟩;rw[WQ]at hx;cases hei:es[i]? with
  | none=>rw[hei]at hx;cases hx
  | some e=>
    rw[hei]at hx;have hx:pairS e=x:=oj hx;subst hx;have hil:=(gM hei).1;have hee:=he e (WC hei);refine⟨_,rfl,⟨_,_,rfl,A2.at'⟩,_,rfl,_,rfl,_,a8 A2.at',hd A2.tape (by omega) (by rw[W8];omega) λr S3 r0 r1 T3 O3 _=>?_⟩;have A3:=A2.draw T3 O3;rw[W8]at r1;refine⟨_,rfl,_,rfl,_,rfl,_,rfl,by show 2<=big;decide,?_⟩;refine⟨_,A3.at',⟨r0,by rw[W8];omega⟩,by rw[W8];show _<100000;omega,?_⟩
    have key:∀(a b:Nat) (z1 z2:Int),z1=a->z2=b->a<b->b<n->∃(fs':EE) (o5 o6:Option SV),([some (.loc t),some g,some (.int n),some (.loc l),some (.loc S.length),some (.int e.1),some (.int e.2)]:EnvS)=[some (.loc t),some g,some (.int n),some (.loc l),some (.loc S.length),o5,o6]/\Ah t S0 (S3.set S.length (.lst ((fs.map pairS).take r.toNat ++ .tup [.int z1,.int z2]::(fs.map pairS).drop r.toNat))) S.length fs'/\(S3.set S.length (.lst ((fs.map pairS).take r.toNat ++ .tup [.int z1,.int z2]::(fs.map pairS).drop r.toNat)))[l]?=some (.lst (es.map pairS))/\(∀ e∈fs',e.1<e.2/\e.2<n)/\fs'.length=i+1:=by
     rintro a b _ _ rfl rfl hab hbn
     have e1:(fs.map pairS).take r.toNat++SV.tup [.int a,.int b]::(fs.map pairS).drop r.toNat=(fs.take r.toNat++(a,b)::fs.drop r.toNat).map pairS:=by
      rw[Wd,Wo,YF,Yw];rfl
     rw[e1];refine⟨_,_,_,rfl,A3.put,?_,λe' h=>?_,?_⟩
     ·rw[j0 (by omega)];exact O3.keep _ _ A.ne h2
     ·rcases WH.mp h with h | h
      ·exact hf e' (Xk h)
      ·rcases WV.mp h with h | h
       ·rw[h];exact⟨hab,hbn⟩
       ·exact hf e' (YB h)
     ·rw[W7,X8,Wp,XD];omega
    by_cases hc:e.1<e.2
    ·exact key e.1 e.2 _ _ (by rw[iG (by omega)]) (by rw[iP (by omega)]) hc hee.2.1
    ·exact key e.2 e.1 _ _ (by rw[iP (by omega)]) (by rw[iG (by omega)]) (by omega) hee.1
 ·rintro ρ S2 ⟨fs,p5,p6,rfl,A2,h2,hf,fl⟩;rw[W8]at fl;exact⟨_,rfl,_,rfl,_,a8 A2.at',by show 2<=big;decide,q fs S2 ⟨hf,by omega,hn⟩ A2.tape A2.on⟩
theorem HM(hΔ:∀ f,MonoN (Δ f))(hd:v8 (Δ kd)){t n l:Nat}{g:SV}{S0 S:Sto}{es:EE}{Q:QE}{o4 o5 o6:Option SV}(P:Prs n es)(A:Ah t S0 S l es)
 (q:∀(es:EE) (S':Sto),Web n es->TapeS S' t->On t S0 S'->Q (j3 n es) S'):wSs Δ [u3 kd kp,u4 kd kp,u5 kd kp,u6 kd kp] (AK Q) [some (.loc t),some g,some (.int n),some (.loc l),o4,o5,o6] S:=by
 refine⟨_,rfl,by show 0<=big;decide,?_⟩;have A1:=A.push (o:=SO.lst []);refine⟨_,_,A1.at',c6,.inr (.inr rfl),_,rfl,?_⟩;rw[BY];refine ifB (λh1=>?_) (λh1=>ifF rfl (E9 hΔ hd P.en (by have:=P.len;omega) P.few A1 q))
 have hpos:0<es.length:=by
  cases es with
  | nil=>cases h1
  | cons _ _=>simp
 refine⟨_,rfl,hd A1.tape (by decide) (by decide) λr S2 r0 r1 T2 O2 _=>⟨_,rfl,?_⟩⟩;have A2:=A1.draw T2 O2;refine ifD (λ_=>?_) (λ_=>E9 hΔ hd P.en (by have:=P.len;omega) P.few A2 q);refine⟨_,rfl,_,rfl,hd A2.tape (by decide) (by decide) λr3 S3 a0 a1 T3 O3 _=>⟨_,rfl,⟨by omega,by omega⟩,?_⟩⟩;have A3:=A2.draw T3 O3;refine m7 (j6 hΔ _).2 (a7 hΔ _).1 (λi ys S4=>Ah t S0 S4 l es/\∃ fs:EE,ys=fs.map pairS/\(∀ e∈fs,e∈es)/\fs.length=i) ⟨A3,[],rfl,(λ_ h=>nomatch h),rfl⟩ (λ_ _ _ _=>trivial) ?_ ?_
 ·rintro i x ys S4 hx ⟨A4,fs,rfl,hf,fl⟩;obtain⟨rfl,hi⟩:=n8 hx;refine⟨_,rfl,_,rfl,_,rfl,_,a8 A4.at',hd A4.tape (by rw[W8];omega) (by rw[W8];have:=P.len;omega) λr5 S5 b0 b1 T5 O5 _=>?_⟩;have A5:=A4.draw T5 O5;rw[W8]at b1;have hr:r5.toNat<es.length:=by omega
  refine⟨_,pairS es[r5.toNat],a8 A5.at',?_,by rw[W8];show _<100000;omega,A5,fs++[es[r5.toNat]],?_,λe h=>?_,by simp[fl]⟩
  ·have:=i5 (xs:=es.map pairS) (j:=r5.toNat) (v:=pairS es[r5.toNat]) (by rw[WQ,WB hr];rfl)
   rwa [XH b0]at this
  ·rw[Wd];rfl
  ·rcases WH.mp h with h | h
   ·exact hf e h
   ·rw[W9.mp h];exact Ww hr
 ·rintro ys S4 ⟨A4,fs,rfl,hf,fl⟩;rw[v0]at fl;have A5:=A4.push (o := .lst (fs.map pairS));have hPl:=P.len;refine⟨_,_,A5.at',c6,by simp;show _<=100000;omega,?_⟩;rw[<-Wd];refine E9 hΔ hd (es:=es++fs) (λe h=>?_) (by rw[W7];omega) P.few ⟨A5.tape.push,A5.on.push,c6,?_,A.t0⟩ q
  ·rcases WH.mp h with h | h
   ·exact P.en e h
   ·exact P.en e (hf e h)
  ·have:=A5.on.len;exact this
theorem Tr(hΔ:∀ f,MonoN (Δ f))(hd:v8 (Δ kd))(hp:FY (Δ kp)){D:Df}(hb:D.body=VO kd kp)(hN:D.N.length=7)(hps:D.ps.length=2):RZ (i9 Δ D):=by
 intro t g S Q T q;unfold i9;rw[hb,hN];refine⟨hps.symm,?_⟩;have t0:=T.lt;refine⟨_,rfl,_,rfl,hp T λn es l S1 P h1 hl T1 O1=>?_⟩;have A1:Ah t S S1 l es:=⟨T1,O1,h1,hl,t0⟩
 refine⟨_,rfl,by show 0<=big;decide,?_⟩;have A2:=A1.push (o:=SO.lst []);refine⟨_,_,A2.at',c6,.inr (.inr rfl),_,rfl,?_⟩;rw[BY];refine ifB (λ_=>?_) (λ_=>HM hΔ hd P A2 λes S' W T' O'=>q n es S' W T' O');refine⟨_,rfl,_,rfl,hp A2.tape λn es l S3 P3 h3 hl3 T3 O3=>?_⟩;exact HM hΔ hd P3 ⟨T3,A2.on.trans O3,h3,by have:=A2.on.len;omega,t0⟩ λes S' W T' O'=>q n es S' W T' O'
end
noncomputable def J0:List Stm:=[(.ret (.and (.bi .isi (.cons (.var 0) (.cons (.tyc .int) .nil))) (.not (.bi .isi (.cons (.var 0) (.cons (.tyc .bool) .nil))))))]
noncomputable def DB(k:Nat):List Stm:=[(.ret (.and (.call k (.cons (.var 1) .nil)) (.chn .LtE .Lt (.c (.int 0)) (.var 1) (.ix (.var 0) (.c (.int 0))))))]
noncomputable def Fa(k:Nat):List Stm:=[(.ret (.and (.call k (.cons (.var 1) .nil)) (.chn .LtE .Lt (.c (.int 0)) (.var 1) (.bi .len (.cons (.ix (.var 0) (.c (.int 1))) .nil)))))]
noncomputable def Fb(k:Nat):List Stm:=[(.iff (.not (.call k (.cons (.var 0) (.cons (.var 1) .nil)))) [.no] [])]
noncomputable def K0(k:Nat):List Stm:=[(.expr (.call k (.cons (.var 0) (.cons (.var 1) .nil)))),(.ret (.comp ["tie","ends"] ["place"] [1] (.tup (.cons (.nm 0) (.cons (.nm 1) .nil))) (.enum (.ix (.var 0) (.c (.int 1)))) (.yes (.cmp .In (.var 2) (.var 1))) (.var 0)))]
noncomputable def K5(k:Nat):List Stm:=[(.expr (.call k (.cons (.var 0) (.cons (.var 1) .nil)))),(.asg (.tup (.cons (.nm 3) (.cons (.nm 4) .nil))) (.ix (.ix (.var 0) (.c (.int 1))) (.var 1))),(.iff (.cmp .Eq (.var 2) (.var 3)) [(.ret (.var 4))] []),(.iff (.cmp .Eq (.var 2) (.var 4)) [(.ret (.var 3))] []),.no]
def Db(s:Sn):Prop:=∀{i:Int} {S:Sto} {Q:QE},Q (.bl true) S->s [.int i] S Q
noncomputable def CZ(s:Sn):Prop:=∀{n p:Nat} {es:EE} {S:Sto} {Q:QE},p<n->Q (.bl true) S->s [j3 n es,.int p] S Q
noncomputable def EA(s:Sn):Prop:=∀{n j:Nat} {es:EE} {S:Sto} {Q:QE},j<es.length->Q (.bl true) S->s [j3 n es,.int j] S Q
noncomputable def Bg(s:Sn):Prop:=∀{n p:Nat} {es:EE} {S:Sto} {Q:QE},p<n->Q .non S->s [j3 n es,.int p] S Q
noncomputable def Ca(s:Sn):Prop:=∀{n j:Nat} {es:EE} {S:Sto} {Q:QE},j<es.length->Q .non S->s [j3 n es,.int j] S Q
noncomputable def l9(es:EE)(p:Nat)(i:Nat):List Nat:=(WN i).filter λj=>match es[j]? with | some e=>decide (e.1=p)||decide (e.2=p) | none=>false
def natS(xs:List Nat):List SV:=xs.map λ(i:Nat)=>SV.int i
noncomputable def BZ(s:Sn):Prop:=∀{n p:Nat} {es:EE} {S:Sto} {Q:QE},es.length<=5000->p<n->Q (.loc S.length) (S++[.lst (natS (l9 es p es.length))])->s [j3 n es,.int p] S Q
def farE(e:Nat×Nat)(p:Nat):Nat:=if p=e.1 then e.2 else e.1
noncomputable def AT(s:Sn):Prop:=∀{n p j:Nat} {es:EE} {e:Nat×Nat} {S:Sto} {Q:QE},es[j]?=some e->(p=e.1\/p=e.2)->Q (.int (farE e p)) S->s [j3 n es,.int j,.int p] S Q
section
variable{Δ:Nat->Sn}
theorem Nu{D:Df}(hb:D.body=J0)(hN:D.N.length=1)(hp:D.ps.length=1):Db (i9 Δ D):=by
 intro i S Q q;unfold i9;rw[hb,hN];exact⟨hp.symm,_,rfl,_,nofun,rfl,_,rfl,ifT rfl ⟨_,rfl,_,nofun,rfl,_,rfl,q⟩⟩
theorem HN{k:Nat}(h0:Db (Δ k)){D:Df}(hb:D.body=DB k)(hN:D.N.length=2)(hp:D.ps.length=2):CZ (i9 Δ D):=by
 intro n p es S Q h q;unfold i9;rw[hb,hN];refine⟨hp.symm,_,rfl,h0 ⟨_,rfl,ifT rfl ⟨_,rfl,_,rfl,ifT (decide_eq_true (YW p)) ⟨_,rfl,_,_,rfl,rfl,?_⟩⟩⟩⟩;show Q (.bl (decide ((p:Int)<n))) S;rw[decide_eq_true (by omega)];exact q
theorem La{k:Nat}(h0:Db (Δ k)){D:Df}(hb:D.body=Fa k)(hN:D.N.length=2)(hp:D.ps.length=2):EA (i9 Δ D):=by
 intro n p es S Q h q;unfold i9;rw[hb,hN];refine⟨hp.symm,_,rfl,h0 ⟨_,rfl,ifT rfl ⟨_,rfl,_,rfl,ifT (decide_eq_true (YW p)) ⟨_,rfl,_,_,rfl,rfl,_,rfl,?_⟩⟩⟩⟩;show Q (.bl (decide ((p:Int)<(es.map pairS).length))) S;rw[decide_eq_true (by rw[W8];omega)];exact q
theorem EY{k:Nat}(h0:CZ (Δ k)){D:Df}(hb:D.body=Fb k)(hN:D.N.length=2)(hp:D.ps.length=2):Bg (i9 Δ D):=by
 intro n p es S Q h q;unfold i9;rw[hb,hN];exact⟨hp.symm,_,rfl,_,rfl,h0 h ⟨_,rfl,ifF rfl q⟩⟩
theorem HP{k:Nat}(h0:EA (Δ k)){D:Df}(hb:D.body=Fb k)(hN:D.N.length=2)(hp:D.ps.length=2):Ca (i9 Δ D):=by
 intro n p es S Q h q;unfold i9;rw[hb,hN];exact⟨hp.symm,_,rfl,_,rfl,h0 h ⟨_,rfl,ifF rfl q⟩⟩
theorem J1{xs:List SV}{i:Nat}{x:SV}(h:(By xs)[i]?=some x):∃ y,xs[i]?=some y/\x = .tup [.int i,y]:=by
 unfold By at h;rw[Ym]at h;cases hy:xs[i]? with
 | none=>rw[hy]at h;revert h;cases(WN xs.length)[i]?<;>exact nofun
 | some y=>
   have hi:=(gM hy).1;rw[hy,YE hi]at h;exact⟨y,rfl,(oj h).symm⟩
theorem K7{xs:List SV}:(By xs).length=xs.length:=by unfold By;simp
theorem C5{es:EE}{i:Nat}{x:SV}(h:(es.map pairS)[i]?=some x):∃ e,es[i]?=some e/\x=pairS e:=by
 rw[WQ]at h;cases he:es[i]? with
 | none=>rw[he]at h;cases h
 | some e=>rw[he]at h;exact⟨e,rfl,(oj h).symm⟩
theorem Fc(p:Nat)(e:Nat×Nat):inS (.int p) [.int e.1,.int e.2]=(decide (e.1=p)||decide (e.2=p)):=by
 have k:∀ a:Nat,((a:Int) == (p:Int))=decide (a=p):=λa=>by
  rw[X4];simp[X5]
 unfold inS;simp only[Xe,Z8,Ya,eqF,k]
theorem DM(es:EE)(p i:Nat){e:Nat×Nat}(h:es[i]?=some e):l9 es p (i+1)=l9 es p i++if (decide (e.1=p)||decide (e.2=p))=true then [i] else []:=by
 unfold l9;rw[Xo,Y2]
 congr 1
 rw[Xr,h];rfl
theorem J3(es:EE)(p i:Nat):(l9 es p i).length<=i:=by
 have:=Xu (λj=>match es[j]? with | some e=>decide (e.1=p)||decide (e.2=p) | none=>false) (WN i);rw[Xh]at this;exact this
theorem mem_tiesAt{es:EE}{p j:Nat}:j∈l9 es p es.length↔∃ e,es[j]?=some e/\(e.1=p\/e.2=p):=by
 unfold l9;rw[XX,Wt];constructor
 ·rintro⟨h,h2⟩;rw[WB h]at h2;exact⟨_,WB h,by simpa using h2⟩
 ·rintro⟨e,h,h2⟩;refine⟨(gM h).1,?_⟩;rw[h];simpa using h2
theorem Lb{k:Nat}(hΔ:∀ f,MonoN (Δ f))(h0:Bg (Δ k)){D:Df}(hb:D.body=K0 k)(hN:D.N.length=2)(hp:D.ps.length=2):BZ (i9 Δ D):=by
 intro n p es S Q hl h q;unfold i9;rw[hb,hN];refine⟨hp.symm,_,rfl,_,rfl,h0 h ⟨_,rfl,_,_,rfl,rfl,_,rfl,?_⟩⟩;refine m7 (j6 hΔ _).2 (a7 hΔ _).1 (λi ys S'=>S'=S/\ys=natS (l9 es p i)) ⟨rfl,rfl⟩ (λ_ _ _ _=>trivial) ?_ ?_
 ·rintro i x ys S' hx ⟨rfl,rfl⟩;obtain⟨y,hy,rfl⟩:=J1 hx;obtain⟨e,he,rfl⟩:=C5 hy;have hi:=(gM he).1;have ht:=J3 es p i;refine⟨_,rfl,_,rfl,rfl,_,rfl,rfl,_,rfl,?_⟩;show if inS (.int p) [.int e.1,.int e.2]=true then _ else _
  rw[Fc];refine ifB (λh=>?_) (λh=>?_)
  ·refine⟨_,rfl,by show(natS _).length<100000;unfold natS;rw[W8];omega,rfl,?_⟩;rw[DM es p i he,iP h];unfold natS;rw[Wd];rfl
  ·refine⟨rfl,?_⟩;rw[DM es p i he,iG (by rw[h];decide),XZ]
 ·rintro ys S' ⟨rfl,rfl⟩;rw[K7,W8];exact q
theorem Lc{k:Nat}(h0:Ca (Δ k)){D:Df}(hb:D.body=K5 k)(hN:D.N.length=5)(hp:D.ps.length=3):AT (i9 Δ D):=by
 intro n p j es e S Q he h q;unfold i9;rw[hb,hN];refine⟨hp.symm,_,rfl,_,rfl,h0 (gM he).1 ⟨_,rfl,_,_,rfl,rfl,_,rfl,_,pairS e,rfl,i5 (by rw[WQ,he];rfl),?_⟩⟩;refine⟨_,rfl,_,rfl,_,rfl,?_⟩;refine ifD (λh1=>⟨_,rfl,?_⟩) (λh1=>⟨_,rfl,_,rfl,_,rfl,ifD (λh2=>⟨_,rfl,?_⟩) (λh2=>?_)⟩)
 ·have h1:p=e.1:=X5.mp h1;unfold farE at q;rw[iP h1]at q;exact q
 ·have h1:¬ p=e.1:=λz=>h1 (congrArg _ z);unfold farE at q;rw[iG h1]at q;exact q
 ·rcases h with h | h
  ·exact absurd (congrArg Nat.cast h) h1
  ·exact absurd (congrArg Nat.cast h) h2
end
theorem c8{xs:List Nat}:(natS xs).length=xs.length:=by unfold natS;rw[W8]
theorem Ba{xs:List Nat}{i x:Nat}(h:xs[i]?=some x):(natS xs)[i]?=some (.int x):=by unfold natS;rw[WQ,h];rfl
theorem m9{xs ys:List Nat}:natS (xs++ys)=natS xs++natS ys:=by unfold natS;rw[Wd]
theorem K9(m:Nat):Bf 0 (m:Int)=natS (WN m):=by
 unfold Bf natS;simp
def B9:Option Nat->SV
 | some j => .int j
 | none => .non
def optsS(xs:List (Option Nat)):List SV:=xs.map B9
theorem m5{xs:List (Option Nat)}{i:Nat}{x:Option Nat}(h:xs[i]?=some x):(optsS xs)[i]?=some (B9 x):=by unfold optsS;rw[WQ,h];rfl
structure Gw(S S':Sto):Prop where
 len:S.length<=S'.length
 keep:∀(k:Nat) (o:SO),S[k]?=some o->S'[k]?=some o
theorem Gw.refl(S:Sto):Gw S S:=⟨WJ _,λ_ _ h=>h⟩
theorem Gw.push{S S':Sto}{o:SO}(h:Gw S S'):Gw S (S'++[o]):=⟨by rw[W7];have:=h.len;omega,λk u z=>e6 (h.keep k u z)⟩
theorem Gw.put{S S':Sto}{o:SO}{k:Nat}(h:Gw S S')(hk:S.length<=k):Gw S (S'.set k o):=⟨by rw[Wc];exact h.len,λj u z=>by
 rw[j0 (λe=>by have:=u7 z;omega)];exact h.keep j u z⟩
theorem Gw.trans{S S' S'':Sto}(a:Gw S S')(b:Gw S' S''):Gw S S'':=⟨Ws a.len b.len,λk o h=>b.keep k o (a.keep k o h)⟩
theorem HQ{xs:List Nat}{x:Nat}:(natS (xs++[x])).dropLast=natS xs:=by rw[m9];exact YN
theorem F6{xs:List Nat}{x:Nat}:(natS (xs++[x]))[(natS (xs++[x])).length - 1]?=some (.int x):=by
 rw[m9,W7];exact Wf
theorem DO(xs:List Nat):xs=[]\/∃ ys y,xs=ys++[y]:=by
 rcases List.eq_nil_or_concat xs with h | ⟨ys,y,h⟩
 ·exact .inl h
 ·exact .inr ⟨ys,y,by rw[h,List.concat_eq_append]⟩
def IsSet(sd:List (Option Nat))(p:Nat):Prop:=∃ v,sd[p]?=some (some v)
def upd(f:Nat->Nat)(p x:Nat):Nat->Nat:=λq=>if q=p then x else f q
theorem C6{f:Nat->Nat}{p x:Nat}:upd f p x p=x:=iP rfl
theorem upd_ne{f:Nat->Nat}{p x q:Nat}(h:q≠p):upd f p x q=f q:=iG h
theorem HR{e:Nat×Nat}{p:Nat}(hp:p=e.1\/p=e.2):farE e p=e.1\/farE e p=e.2:=by
 unfold farE;by_cases h:p=e.1
 ·rw[iP h];exact .inr rfl
 ·rw[iG h];exact .inl rfl
theorem Nv{e:Nat×Nat}{p:Nat}(he:e.1≠e.2)(hp:p=e.1\/p=e.2):farE e (farE e p)=p:=by
 unfold farE;by_cases h:p=e.1
 ·rw[iP h,iG (Ne.symm he),h]
 ·rw[iG h,iP rfl];rcases hp with hp | hp
  ·exact absurd hp h
  ·exact hp.symm
theorem AY{sd:List (Option Nat)}{f q x:Nat}(hf:f<sd.length)(h:IsSet sd q):IsSet (sd.set f (some x)) q:=by
 by_cases hq:q=f
 ·subst hq;exact⟨x,Wk hf⟩
 ·obtain⟨v,hv⟩:=h;exact⟨v,by rw[Wx (Ne.symm hq)];exact hv⟩
theorem CK{sd:List (Option Nat)}{f x:Nat}(h:sd[f]?=some none):(sd.set f (some x)).countP Xq=sd.countP Xq+1:=by
 obtain⟨hf,hx⟩:=gM h;rw[List.countP_set hf,hx];simp
def z1:Stm:=(.put (.var 2) (.var 1) (.c (.int 0)))
noncomputable def z2:Stm:=(.asg (.nm 4) (.lst (.cons (.var 1) .nil)))
noncomputable def zin(kf:Nat):List Stm:=[(.asg (.nm 7) (.call kf (.cons (.var 0) (.cons (.var 6) (.cons (.var 5) .nil))))),(.iff (.cmp .Is (.ix (.var 2) (.var 7)) (.c .non)) [(.put (.var 2) (.var 7) (.op .Sub (.c (.int 1)) (.ix (.var 2) (.var 5)))),(.put (.var 3) (.var 7) (.var 6)),(.expr (.mt .append (.var 4) (.cons (.var 7) .nil)))] [])]
noncomputable def z3(kt kf:Nat):Stm:=(.whl (.var 4) [(.asg (.nm 5) (.mt .pop (.var 4) .nil)),(.loop (.nm 6) (.seq (.call kt (.cons (.var 0) (.cons (.var 5) .nil)))) (zin kf))])
noncomputable def Ra(kt kf:Nat):List Stm:=[z1,z2,z3 kt kf]
structure Gm(a b w:Nat)(S0 S:Sto)(sd bk:List (Option Nat))(wt:List Nat):Prop where
 ha:S[a]?=some (.lst (optsS sd))
 hb:S[b]?=some (.lst (optsS bk))
 hw:S[w]?=some (.lst (natS wt))
 len:S0.length<=S.length
 keep:∀(k:Nat) (o:SO),k≠a->k≠b->S0[k]?=some o->S[k]?=some o
 ab:a≠b
 a0:a<S0.length
 b0:b<S0.length
 w0:S0.length<=w
section
variable{a b w:Nat}{S0 S:Sto}{sd bk sd' bk':List (Option Nat)}{wt wt':List Nat}
theorem Gm.push{o:SO}(G:Gm a b w S0 S sd bk wt):Gm a b w S0 (S++[o]) sd bk wt:=⟨e6 G.ha,e6 G.hb,e6 G.hw,by rw[W7];have:=G.len;omega,λk u h1 h2 h=>e6 (G.keep k u h1 h2 h),G.ab,G.a0,G.b0,G.w0⟩
theorem Gm.seta(G:Gm a b w S0 S sd bk wt):Gm a b w S0 (S.set a (.lst (optsS sd'))) sd' bk wt:=
 ⟨u8 G.ha,by rw[j0 G.ab];exact G.hb,by rw[j0 (by have:=G.a0;have:=G.w0;omega)];exact G.hw,by rw[Wc];exact G.len,λk u h1 h2 h=>by rw[j0 (Ne.symm h1)];exact G.keep k u h1 h2 h,G.ab,G.a0,G.b0,G.w0⟩
theorem Gm.setb(G:Gm a b w S0 S sd bk wt):Gm a b w S0 (S.set b (.lst (optsS bk'))) sd bk' wt:=
 ⟨by rw[j0 (Ne.symm G.ab)];exact G.ha,u8 G.hb,by rw[j0 (by have:=G.b0;have:=G.w0;omega)];exact G.hw,by rw[Wc];exact G.len,λk u h1 h2 h=>by rw[j0 (Ne.symm h2)];exact G.keep k u h1 h2 h,G.ab,G.a0,G.b0,G.w0⟩
theorem Gm.setw(G:Gm a b w S0 S sd bk wt):Gm a b w S0 (S.set w (.lst (natS wt'))) sd bk wt':=
 ⟨by rw[j0 (by have:=G.a0;have:=G.w0;omega)];exact G.ha,by rw[j0 (by have:=G.b0;have:=G.w0;omega)];exact G.hb,u8 G.hw,by rw[Wc];exact G.len,λk u h1 h2 h=>by rw[j0 (by have:=u7 h;have:=G.w0;omega)];exact G.keep k u h1 h2 h,G.ab,G.a0,G.b0,G.w0⟩
end
theorem DC{n j:Nat}(h:j<n):ixN n (j:Int)=some j:=by
 unfold ixN;rw[iP (by omega),iP (by omega)];simp
theorem AZ{xs:List (Option Nat)}:(optsS xs).length=xs.length:=by unfold optsS;rw[W8]
theorem DD{xs:List (Option Nat)}{j v:Nat}:(optsS xs).set j (.int v)=optsS (xs.set j (some v)):=by unfold optsS;rw[Za];rfl
noncomputable def t1':Stm:=(.asg (.nm 1) (.op .Mult (.lst (.cons (.c .non) .nil)) (.ix (.var 0) (.c (.int 0)))))
noncomputable def t2':Stm:=(.asg (.nm 2) (.op .Mult (.lst (.cons (.c .non) .nil)) (.ix (.var 0) (.c (.int 0)))))
noncomputable def t3'(kg:Nat):Stm:=(.loop (.nm 3) (.rng1 (.ix (.var 0) (.c (.int 0)))) [(.iff (.cmp .Is (.ix (.var 1) (.var 3)) (.c .non)) [(.expr (.call kg (.cons (.var 0) (.cons (.var 3) (.cons (.var 1) (.cons (.var 2) .nil))))))] [])])
noncomputable def t4'(kr:Nat):Stm:=(.loop (.tup (.cons (.nm 4) (.cons (.tup (.cons (.nm 5) (.cons (.nm 6) .nil))) .nil))) (.enum (.ix (.var 0) (.c (.int 1)))) [(.iff (.cmp .Eq (.ix (.var 1) (.var 5)) (.ix (.var 1) (.var 6))) [(.ret (.tup (.cons (.c (.str "ring")) (.cons (.call kr (.cons (.var 0) (.cons (.var 4) (.cons (.var 2) .nil)))) .nil))))] [])])
def t5':Stm:=(.ret (.tup (.cons (.c (.str "sides")) (.cons (.var 1) .nil))))
noncomputable def VP(kg kr:Nat):List Stm:=[t1',t2',t3' kg,t4' kr,t5']
theorem KA(n:Nat):(WM ((n:Int)).toNat [SV.non]).flatten=optsS (WM n none):=by
 rw[Xf]
 induction n with
 | zero=>rfl
 | succ n ih=>rw[X0,XT,ih];rfl
noncomputable def SqS(x:SV)(S:Sto)(xs:List SV):Prop:=(∃ k,x = .loc k/\S[k]?=some (.lst xs))\/x = .tup xs
theorem SqS.seq{x:SV}{S:Sto}{xs:List SV}(h:SqS x S xs):seqS x S=some xs:=by
 rcases h with⟨k,rfl,h⟩ | rfl
 ·exact a8 h
 ·rfl
theorem SqS.keep{x:SV}{S S':Sto}{xs:List SV}(h:SqS x S xs)(h':SqS x S' xs):keepS x S S':=by
 rcases h with⟨k,rfl,h⟩ | rfl
 ·rcases h' with⟨k',e,h'⟩ | e
  ·cases e;show S'[k]?=S[k]?;rw[h,h']
  ·cases e
 ·trivial
theorem Az(xs:List Nat):(natS xs).all Ar=true:=by
 unfold natS;rw[ZZ,Wg];exact λ_ _=>rfl
theorem QV(a b:Nat):(if (b:Int)<a then (b:Int) else a)=((min a b:Nat):Int):=by split<;>omega
theorem QW(a b:Nat):(if (b:Int)>a then (b:Int) else a)=((max a b:Nat):Int):=by split<;>omega
end Rf
namespace Hue
abbrev Sds:=List (Option Nat)
def sAt(s:Sds)(p:Nat):Option Nat:=s.getD p none
structure Grow(s s':Sds):Prop where
 len:s'.length=s.length
 keep:∀ p v,sAt s p=some v->sAt s' p=some v
def Set'(s:Sds)(p:Nat):Prop:=∃ v,sAt s p=some v
theorem Set'.keep{s s':Sds}{p:Nat}(g:Grow s s')(h:Set' s p):Set' s' p:=let ⟨v,hv⟩:=h;⟨v,g.keep _ _ hv⟩
end Hue
namespace L2
open PySem PySem.Spec PyProof.Rows
structure Sz(k b:Nat)(d:PyData):Prop where
 dp:d.depth<=k
 bk:d.bulk<=b
 sh:d.showable=true
 lf:d.leavesShort 100=true
theorem Sz.mono{k b k' b':Nat}{d:PyData}(h:Sz k b d)(hk:k<=k')(hb:b<=b'):Sz k' b' d:=⟨Ws h.dp hk,Ws h.bk hb,h.sh,h.lf⟩
theorem Sz.fit{k b:Nat}{d:PyData}(h:Sz k b d)(hk:k<=40)(hb:b<=100000):Fit d:=⟨h.sh,by
 have:=PyData.shown_le_bulk 100 (by decide) d h.lf;have h2:=h.bk;rw[A1d];omega,Ws h.dp hk⟩
structure SzA(k b n:Nat)(ds:List PyData):Prop where
 dp:PyData.depthAll ds<=k
 bk:PyData.bulkAll ds<=n * (b+1)
 sh:PyData.showableAll ds=true
 lf:PyData.leavesShortAll 100 ds=true
theorem SzA.nil{k b:Nat}:SzA k b 0 []:=⟨by simp[PyData.depthAll],by simp[PyData.bulkAll],by simp[PyData.showableAll],by simp[PyData.leavesShortAll]⟩
theorem SzA.cons{k b n:Nat}{d:PyData}{ds:List PyData}(h:Sz k b d)(h':SzA k b n ds):SzA k b (n+1) (d::ds):=by
 refine⟨?_,?_,?_,?_⟩
 ·simp only[PyData.depthAll];have:=h.dp;have:=h'.dp;omega
 ·simp only[PyData.bulkAll];have:=h.bk;have:=h'.bk;rw[Z2];omega
 ·simp only[PyData.showableAll,h.sh,h'.sh];rfl
 ·simp only[PyData.leavesShortAll,h.lf,h'.lf];rfl
theorem SzA.list{k b n:Nat}{ds:List PyData}(h:SzA k b n ds):Sz (k+1) (n * (b+1)) (.list ds):=⟨by simp only[PyData.depth];have:=h.dp;omega,by simp only[PyData.bulk];exact h.bk,by simp only[PyData.showable];exact h.sh,by simp only[PyData.leavesShort];exact h.lf⟩
theorem SzA.tuple{k b n:Nat}{ds:List PyData}(h:SzA k b n ds):Sz (k+1) (n * (b+1)) (.tuple ds):=⟨by simp only[PyData.depth];have:=h.dp;omega,by simp only[PyData.bulk];exact h.bk,by simp only[PyData.showable];exact h.sh,by simp only[PyData.leavesShort];exact h.lf⟩
noncomputable def DN(k b:Nat)(H:Hp)(x:V):Prop:=∃ d,Dat H x d/\Sz k b d
theorem DN.mono{k b k' b':Nat}{H H':Hp}{x:V}(h:DN k b H x)(s:∀ c o,H c=some o->H' c=some o)(hk:k<=k')(hb:b<=b'):DN k' b' H' x:=let ⟨d,a,z⟩:=h;⟨d,Dat.mono s x d a,z.mono hk hb⟩
theorem DN.all{k b:Nat}{H:Hp}:∀{xs:List V},(∀ x∈xs,DN k b H x)->∃ ds,DatAll H xs ds/\SzA k b xs.length ds
 | [],_=>⟨[],by unfold DatAll;trivial,.nil⟩
 | x::xs,h=>by
   obtain⟨d,hd,hz⟩:=h x (WW ..);obtain⟨ds,hs,hzs⟩:=DN.all (xs:=xs) λy hy=>h y (WL _ hy);exact⟨d::ds,by unfold DatAll;exact⟨hd,hs⟩,.cons hz hzs⟩
theorem DN.int{k b:Nat}{H:Hp}{i:Int}(h:i.natAbs.log2<90):DN k b H (.int i):=⟨.int i,by unfold Dat;rfl,by simp[PyData.depth],by simp[PyData.bulk],by simp only[PyData.showable,dQ];omega,by
 have:=int_text_length_le (a:=i) (k:=90) (by decide) h;simp only[PyData.leavesShort,PyData.shown];refine decide_eq_true ?_;show(Str.ofString (toString i)).length<=100;rw[PySem.ofString_length];omega⟩
theorem Ld{i:Int}(h0:-1000000<=i)(h1:i<=1000000):i.natAbs.log2<90:=by
 by_cases z:i.natAbs=0
 ·rw[z];decide
 ·refine(Nat.log2_lt z).mpr (YG (show i.natAbs<=1000000 by omega) (by decide))
theorem DN.str{k b:Nat}{H:Hp}{x:Str}(h:x.cps.size<=b)(hc:(x.cps.toList.all λc=>decide (c<16 ^ 8))=true):DN k b H (.str x):=⟨.str x,by unfold Dat;rfl,by simp[PyData.depth],by simp only[PyData.bulk];exact h,by simp[PyData.showable],by simp only[PyData.leavesShort];exact hc⟩
theorem DN.tup{k b n:Nat}{H:Hp}{p:Zk}{xs:List V}(hp:H p=some (.tup xs))(h:∀ x∈xs,DN k b H x)(hn:xs.length<=n):DN (k+1) (n * (b+1)) H (.ref p):=by
 obtain⟨ds,hd,hz⟩:=DN.all h;exact⟨.tuple ds,by unfold Dat;exact⟨p,xs,rfl,hp,hd⟩,hz.tuple.mono (WJ _) (YO _ hn)⟩
theorem DN.lst{k b n:Nat}{H:Hp}{p:Zk}{xs:List V}(hp:H p=some (.lst xs))(h:∀ x∈xs,DN k b H x)(hn:xs.length<=n):DN (k+1) (n * (b+1)) H (.ref p):=by
 obtain⟨ds,hd,hz⟩:=DN.all h;exact⟨.list ds,by unfold Dat;exact⟨p,xs,rfl,hp,hd⟩,hz.list.mono (WJ _) (YO _ hn)⟩
end L2
namespace Rf
open PySem L2
def f6(es:EE)(t:Nat):Nat×Nat:=es.getD t (0,0)
theorem AH{es:EE}{t:Nat}(h:t<es.length):es[t]?=some (f6 es t):=by
 unfold f6;rw[Wr,WB h];rfl
theorem Nx{es:EE}{t:Nat}(h:t<es.length):f6 es t∈es:=WC (AH h)
section
variable{Δ:Nat->Sn}
theorem j4{D:EndsS}{ρ:EnvS}{S:Sto}(h:D.nx ρ S):wSs Δ [] D ρ S:=h
noncomputable def HS(k:Nat):List Stm:=[(.asg (.tup (.cons (.nm 1) (.cons (.nm 2) .nil))) (.call k (.cons (.var 0) .nil))),(.iff (.cmp .Eq (.var 1) (.c (.str "ring"))) [.no] []),(.ret (.var 2))]
end
end Rf
namespace Hue
section
variable{n:Nat}{es:EE}(hn:∀ e∈es,e.1<n/\e.2<n)
include hn
end
section
variable{n x:Nat}{es:EE}
variable(hn:∀ e∈es,e.1<n/\e.2<n)
include hn
end
end Hue
namespace Rf
open PySem L2
abbrev Cm:=List (Nat×Option Nat)
def keys(cm:Cm):List Nat:=cm.map (·.1)
def lk(cm:Cm)(p:Nat):Option (Option Nat):=(cm.find? λc=>decide (c.1=p)).map (·.2)
noncomputable def BD(cm:Cm)(p:Nat)(v:Option Nat):Cm:=if (cm.any λc=>decide (c.1=p))=true then cm.map (λc=>if c.1=p then (c.1,v) else c) else cm++[(p,v)]
noncomputable def Fd(es:EE)(P:List (Option Nat))(p:Nat)(st:Cm×List Nat)(t:Nat):Cm×List Nat:=
 if (lk st.1 (farE (f6 es t) p)).isSome then st else match P.getD (farE (f6 es t) p) none with
  | none=>(BD st.1 (farE (f6 es t) p) (some t),st.2)
  | some u=>(BD (BD st.1 (farE (f6 es t) p) (some t)) (farE (f6 es u) (farE (f6 es t) p)) (some u),st.2++[farE (f6 es u) (farE (f6 es t) p)])
noncomputable def J4(es:EE)(P:List (Option Nat))(st:Cm×List Nat)(p:Nat):Cm×List Nat:=(l9 es p es.length).foldl (Fd es P p) (st.1,st.2.dropLast)
noncomputable def EZ(es:EE)(P:List (Option Nat)):Nat->Cm×List Nat->Cm
 | 0,st=>st.1
 | f+1,st=>match st.2.getLast? with
   | none=>st.1
   | some p=>EZ es P f (J4 es P st p)
noncomputable def Bb(n:Nat)(es:EE)(P:List (Option Nat))(starts:List Nat):Cm:=EZ es P (n+1) (starts.map λp=>(p,none),starts)
theorem QX{cm:Cm}{p:Nat}:lk cm p=none↔p∉keys cm:=by
 unfold lk keys;rw[Option.map_eq_none_iff,List.find?_eq_none];constructor
 ·intro h hm;obtain⟨c,hc,rfl⟩:=Wi.mp hm;exact h c hc (by simp)
 ·intro h c hc z;exact h (Wi.mpr ⟨c,hc,of_decide_eq_true z⟩)
theorem lk_some{cm:Cm}{p:Nat}:(lk cm p).isSome=true↔p∈keys cm:=by
 rw[Option.isSome_iff_ne_none,ne_eq,QX];exact Decidable.not_not
theorem Fe{cm:Cm}{p:Nat}{v:Option Nat}(h:lk cm p=some v):(p,v)∈cm:=by
 unfold lk at h;cases hc:cm.find? λc=>decide (c.1=p) with
 | none=>rw[hc]at h;cases h
 | some c=>
   rw[hc]at h;have h1:=List.find?_some hc;have h2:=List.mem_of_find?_eq_some hc;have h3:c.2=v:=oj h;have h4:c.1=p:=of_decide_eq_true h1;rw[<-h3,<-h4];exact h2
theorem Ny{cm:Cm}(nd:(keys cm).Nodup){p:Nat}{v:Option Nat}(h:(p,v)∈cm):lk cm p=some v:=by
 have hk:p∈keys cm:=Wi.mpr ⟨_,h,rfl⟩;have:=lk_some.mpr hk;obtain⟨u,hu⟩:=XB.mp this;have hm:=Fe hu
 have:u=v:=by
  obtain⟨i,hi⟩:=Wq h;obtain⟨j,hj⟩:=Wq hm;have e1:(keys cm)[i]?=some p:=by unfold keys;rw[WQ,hi];rfl
  have e2:(keys cm)[j]?=some p:=by unfold keys;rw[WQ,hj];rfl
  have il:=(gM e1).1;have jl:=(gM e2).1
  have:i=j:=by
   rcases Z5 i j with z | z | z
   ·exact absurd ((gM e1).2.trans (gM e2).2.symm) ((X7.mp nd) i j il jl z)
   ·exact z
   ·exact absurd ((gM e2).2.trans (gM e1).2.symm) ((X7.mp nd) j i jl il z)
  subst this;rw[hi]at hj;have:=oj hj;exact(congrArg Prod.snd this).symm
 rw[hu,this]
theorem Cr{cm:Cm}{p:Nat}{v:Option Nat}(h:p∉keys cm):BD cm p v=cm++[(p,v)]:=by
 unfold BD;rw[iG];rw[XR];rintro⟨c,hc,z⟩;exact h (Wi.mpr ⟨c,hc,of_decide_eq_true z⟩)
theorem f7{cm:Cm}{p:Nat}{v:Option Nat}:keys (cm++[(p,v)])=keys cm++[p]:=by unfold keys;rw[Wd];rfl
structure Cons(n:Nat)(es:EE)(P:List (Option Nat)):Prop where
 len:P.length=n
 two:∀ p t,P[p]?=some (some t)->∃ e,es[t]?=some e/\(p=e.1\/p=e.2)/\P[farE e p]?=some (some t)
structure Sdd(n:Nat)(es:EE)(sd:Nat->Nat):Prop where
 en:∀ e∈es,e.1<e.2/\e.2<n
 two:∀ p,sd p<2
 ne:∀ e∈es,sd e.1≠sd e.2
section
variable{n:Nat}{es:EE}{sd:Nat->Nat}{P:List (Option Nat)}
theorem Sdd.far(H:Sdd n es sd){t p:Nat}{e:Nat×Nat}(he:es[t]?=some e)(hp:p=e.1\/p=e.2):farE e p<n/\sd (farE e p)=1 - sd p/\farE e (farE e p)=p/\(farE e p=e.1\/farE e p=e.2)/\p<n:=by
 have hm:=WC he;have h1:=H.en e hm;have h2:=H.ne e hm;have a:=H.two e.1;have b:=H.two e.2;have hne:e.1≠e.2:=by omega
 refine⟨?_,?_,Nv hne hp,HR hp,?_⟩
 ·rcases HR hp with z | z<;>omega
 ·unfold farE;rcases hp with z | z
  ·subst z;rw[iP rfl];omega
  ·subst z;rw[iG (Ne.symm hne)];omega
 ·rcases hp with z | z<;>omega
structure Came(n:Nat)(es:EE)(sd:Nat->Nat)(P:List (Option Nat))(starts:List Nat)(cm:Cm):Prop where
 nd:(keys cm).Nodup
 lt:∀ p∈keys cm,p<n
 st:∀ p,(p,none)∈cm->p∈starts
 up:∀ i q t,cm[i]?=some (q,some t)->∃ e,es[t]?=some e/\(q=e.1\/q=e.2)/\farE e q∈keys (cm.take i)
 s0:∀ p v,(p,v)∈cm->sd p=0->P[p]?=some v
 pr:∀ q,q∈keys cm->sd q=1->∀ u e,P[q]?=some (some u)->es[u]?=some e->farE e q∈keys cm
 hs:∀ p∈starts,p∈keys cm
structure Open(starts:List Nat)(sd:Nat->Nat)(n:Nat)(P:List (Option Nat)):Prop where
 nd:starts.Nodup
 ok:∀ p∈starts,p<n/\sd p=0/\P[p]?=some none
noncomputable def Shut(es:EE)(sd:Nat->Nat)(cm:Cm)(wt:List Nat)(p:Nat)(ts:List Nat):Prop:=∀ q∈keys cm,sd q=0->q∈wt\/∀ t e,es[t]?=some e->(q=e.1\/q=e.2)->(q=p/\t∈ts)\/farE e q∈keys cm
theorem Came.start(O:Open starts sd n P):Came n es sd P starts (starts.map λp=>(p,none)):=by
 have hk:keys (starts.map λp=>(p,(none:Option Nat)))=starts:=by unfold keys;rw[Xg];exact ZS (λ_=>rfl) starts
 refine⟨by rw[hk];exact O.nd,λp hp=>(O.ok p (by rw[hk]at hp;exact hp)).1,λp h=>?_,λi q t h=>?_,λp v h _=>?_,λq hq h1=>?_,λp hp=>by rw[hk];exact hp⟩
 ·obtain⟨q,hq,e⟩:=Wi.mp h;cases e;exact hq
 ·rw[WQ]at h;cases hx:starts[i]? with
  | none=>rw[hx]at h;cases h
  | some x=>rw[hx]at h;cases h
 ·obtain⟨q,hq,e⟩:=Wi.mp h;cases e;exact(O.ok p hq).2.2
 ·rw[hk]at hq;have:=(O.ok q hq).2.1;omega
theorem Came.snoc{starts:List Nat}{cm:Cm}{q t:Nat}{e:Nat×Nat}(C:Came n es sd P starts cm)(hn:q∉keys cm)(hq:q<n)(he:es[t]?=some e)(hqe:q=e.1\/q=e.2)(hf:farE e q∈keys cm)(h0:sd q=0->P[q]?=some (some t))(h1:sd q=1->∀ u e,P[q]?=some (some u)->es[u]?=some e->farE e q∈keys cm):Came n es sd P starts (cm++[(q,some t)]):=by
 refine⟨?_,λp hp=>?_,λp h=>?_,λi r u h=>?_,λp v h hs=>?_,λr hr hs u e' hu he'=>?_,λp hp=>?_⟩
 ·rw[f7,XJ];refine⟨C.nd,by simp,λa ha b hb=>?_⟩;rw[W9.mp hb];exact λz=>hn (z▸ha)
 ·rw[f7]at hp;rcases WH.mp hp with hp | hp
  ·exact C.lt p hp
  ·rw[W9.mp hp];exact hq
 ·rcases WH.mp h with h | h
  ·exact C.st p h
  ·have:=W9.mp h;cases this
 ·by_cases hi:i<cm.length
  ·rw[WX hi]at h;rw[Y1 (XY hi)];exact C.up i r u h
  ·have hl:=(gM h).1;rw[W7,Wh]at hl;have:i=cm.length:=by omega
   subst this;rw[Wf]at h;cases h;rw[Yr];exact⟨e,he,hqe,hf⟩
 ·rcases WH.mp h with h | h
  ·exact C.s0 p v h hs
  ·have:=W9.mp h;cases this;exact h0 hs
 ·rw[f7]at hr ⊢;rcases WH.mp hr with hr | hr
  ·exact Wa _ (C.pr r hr hs u e' hu he')
  ·have:=W9.mp hr;subst this;exact Wa _ (h1 hs u e' hu he')
 ·rw[f7];exact Wa _ (C.hs p hp)
theorem Came.two{starts:List Nat}{cm:Cm}{q t u:Nat}{e f:Nat×Nat}(C:Came n es sd P starts cm)(H:Sdd n es sd)(hn:q∉keys cm)(he:es[t]?=some e)(hqe:q=e.1\/q=e.2)(hf:farE e q∈keys cm)(hs:sd q=1)(K:Cons n es P)(hu:P[q]?=some (some u))(hfu:es[u]?=some f)(hqf:q=f.1\/q=f.2)(hn2:farE f q∉keys cm):Came n es sd P starts (cm++[(q,some t)]++[(farE f q,some u)]):=by
 obtain⟨f1,f2,f3,f4,f5⟩:=H.far hfu hqf;have hne:farE f q≠q:=λz=>by rw[z]at f2;omega
 have hPf:P[farE f q]?=some (some u):=by
  obtain⟨e',he',_,h⟩:=K.two q u hu;rw[hfu]at he';cases he';exact h
 refine⟨?_,λp hp=>?_,λp h=>?_,λi r v h=>?_,λp v h hs'=>?_,λr hr hs' v e' hv he'=>?_,λp hp=>?_⟩
 ·rw[f7,f7,YX,XJ];refine⟨C.nd,by simp;exact Ne.symm hne,λa ha b hb=>?_⟩;rcases WH.mp hb with hb | hb
  ·rw[W9.mp hb];exact λz=>hn (z▸ha)
  ·rw[W9.mp hb];exact λz=>hn2 (z▸ha)
 ·rw[f7,f7]at hp;rcases WH.mp hp with hp | hp
  ·rcases WH.mp hp with hp | hp
   ·exact C.lt p hp
   ·rw[W9.mp hp];exact f5
  ·rw[W9.mp hp];exact f1
 ·rcases WH.mp h with h | h
  ·rcases WH.mp h with h | h
   ·exact C.st p h
   ·have:=W9.mp h;cases this
  ·have:=W9.mp h;cases this
 ·have up1:∀ i r v,(cm++[(q,some t)])[i]?=some (r,some v)->∃ e,es[v]?=some e/\(r=e.1\/r=e.2)/\farE e r∈keys ((cm++[(q,some t)]).take i):=λi r v h=>by
   by_cases hi:i<cm.length
   ·rw[WX hi]at h;rw[Y1 (XY hi)];exact C.up i r v h
   ·have hl:=(gM h).1;rw[W7,Wh]at hl;have:i=cm.length:=by omega
    subst this;rw[Wf]at h;cases h;rw[Yr];exact⟨e,he,hqe,hf⟩
  by_cases hi:i<(cm++[(q,some t)]).length
  ·rw[WX hi]at h;rw[Y1 (XY hi)];exact up1 i r v h
  ·have hl:=(gM h).1;rw[W7,Wh]at hl;have:i=(cm++[(q,some t)]).length:=by omega
   subst this;rw[Wf]at h;cases h;rw[Yr];refine⟨f,hfu,f4,?_⟩;rw[f3,f7];exact WY _ (W9.mpr rfl)
 ·rcases WH.mp h with h | h
  ·rcases WH.mp h with h | h
   ·exact C.s0 p v h hs'
   ·have:=W9.mp h;cases this;omega
  ·have:=W9.mp h;cases this;exact hPf
 ·rw[f7,f7]at hr ⊢;rcases WH.mp hr with hr | hr
  ·rcases WH.mp hr with hr | hr
   ·exact Wa _ (Wa _ (C.pr r hr hs' v e' hv he'))
   ·have:=W9.mp hr;subst this;rw[hu]at hv;cases hv;rw[hfu]at he';cases he';exact WY _ (W9.mpr rfl)
  ·have:=W9.mp hr;subst this;omega
 ·rw[f7,f7];exact Wa _ (Wa _ (C.hs p hp))
end
section
variable{n:Nat}{es:EE}{sd:Nat->Nat}{P:List (Option Nat)}{starts:List Nat}
theorem CL{xs:List (Option Nat)}{p:Nat}{v:Option Nat}(h:xs[p]?=some v):xs.getD p none=v:=by rw[Wr,h];rfl
theorem Cb{xs:List (Option Nat)}{p:Nat}(h:p<xs.length):xs[p]?=some (xs.getD p none):=by rw[Wr,WB h];rfl
structure WInv(n:Nat)(es:EE)(sd:Nat->Nat)(P:List (Option Nat))(starts:List Nat)(p m:Nat)(ts:List Nat)(st:Cm×List Nat):Prop where
 C:Came n es sd P starts st.1
 wk:∀ q∈st.2,q∈keys st.1/\sd q=0
 sh:Shut es sd st.1 st.2 p ts
 pk:p∈keys st.1/\sd p=0
 ms:(n - st.1.length)+st.2.length<=m
theorem Bc{cm:Cm}:(keys cm).length=cm.length:=by unfold keys;rw[W8]
theorem Au{n:Nat}:∀{l:List Nat},l.Nodup->(∀ x∈l,x<n)->l.length<=n:=by
 induction n with
 | zero=>
   intro l _ h;cases l with
   | nil=>exact WJ _
   | cons x l=>exact absurd (h x (WW ..)) (Y4 x)
 | succ n ih=>
   intro l nd h;by_cases hm:n∈l
   ·have e:=Yb hm
    have:=ih (l:=l.erase n) (nd.erase n) λx hx=>by
     have h1:=h x (List.mem_of_mem_erase hx);have h2:x≠n:=λz=>by rw[z]at hx;exact(List.Nodup.not_mem_erase nd) hx
     omega
    have:0<l.length:=Yj hm;omega
   ·have:=ih nd λx hx=>by
     have h1:=h x hx;have h2:x≠n:=λz=>hm (z▸hx);omega
    omega
theorem Came.len{cm:Cm}(C:Came n es sd P starts cm):cm.length<=n:=by rw[<-Bc];exact Au C.nd C.lt
theorem Ff(H:Sdd n es sd)(K:Cons n es P){p m t:Nat}{ts:List Nat}{st:Cm×List Nat}(ht:t<es.length)(hp:p=(f6 es t).1\/p=(f6 es t).2)(W:WInv n es sd P starts p m (t::ts) st):WInv n es sd P starts p m ts (Fd es P p st t):=by
 obtain⟨cm,wt⟩:=st;obtain⟨C,wk,sh,⟨pk,p0⟩,ms⟩:=W;have he:=AH ht;generalize f6 es t=e at *;obtain⟨f1,f2,f3,f4,f5⟩:=H.far he hp;have fs:sd (farE e p)=1:=by omega
 unfold Fd;have hte:f6 es t=e:=by have:=AH ht;rw[he]at this;exact(oj this).symm
 rw[hte];by_cases hk:farE e p∈keys cm
 ·rw[iP (lk_some.mpr hk)];refine⟨C,wk,λq hq h0=>?_,⟨pk,p0⟩,ms⟩;rcases sh q hq h0 with z | z
  ·exact .inl z
  ·refine .inr λt' e' he' hq'=>?_;rcases z t' e' he' hq' with⟨z1,z2⟩ | z
   ·rcases WV.mp z2 with z2 | z2
    ·subst z2;rw[he]at he';cases he';rw[z1];exact .inr hk
    ·exact .inl ⟨z1,z2⟩
   ·exact .inr z
 ·rw[iG (λz=>hk (lk_some.mp z))];have hfl:farE e p<P.length:=by rw[K.len];exact f1
  have hPf:=Cb hfl;have cl:=C.len;cases hv:P.getD (farE e p) none with
  | none=>
    rw[hv]at hPf;simp only;rw[Cr hk];have C':Came n es sd P starts (cm++[(farE e p,some t)]):=C.snoc hk f1 he f4 (by rw[f3];exact pk) (λz=>by omega) (λ_ u e' hu=>by rw[hPf]at hu;cases hu);have cl':=C'.len;rw[W7,Wh]at cl';refine⟨C',λq hq=>⟨by rw[f7];exact Wa _ (wk q hq).1,(wk q hq).2⟩,λq hq h0=>?_,⟨by rw[f7];exact Wa _ pk,p0⟩,by show(n - (cm++[(farE e p,some t)]).length)+wt.length<=m;rw[W7,Wh];have ms:(n - cm.length)+wt.length<=m:=ms;omega⟩;rw[f7]at hq;rcases WH.mp hq with hq | hq
    ·rcases sh q hq h0 with z | z
     ·exact .inl z
     ·refine .inr λt' e' he' hq'=>?_;rw[f7];rcases z t' e' he' hq' with⟨z1,z2⟩ | z
      ·rcases WV.mp z2 with z2 | z2
       ·subst z2;rw[he]at he';cases he';rw[z1];exact .inr (WY _ (W9.mpr rfl))
       ·exact .inl ⟨z1,z2⟩
      ·exact .inr (Wa _ z)
    ·rw[W9.mp hq]at h0;omega
  | some u=>
    rw[hv]at hPf;simp only;obtain⟨f,hf,hfe,hPn⟩:=K.two _ _ hPf;have htf:f6 es u=f:=by have:=AH (gM hf).1;rw[hf]at this;exact(oj this).symm
    rw[htf];obtain⟨g1,g2,g3,g4,g5⟩:=H.far hf hfe
    have hn2:farE f (farE e p)∉keys cm:=λz=>by
     obtain⟨c,hc,ec⟩:=Wi.mp z;obtain⟨c1,c2⟩:=c;have ec:c1=farE f (farE e p):=ec;subst ec;have hv:=C.s0 _ _ hc (by omega);rw[hPn]at hv;have:c2=some u:=(oj hv).symm;subst this;obtain⟨i,hi⟩:=Wq hc;obtain⟨f',hf',_,hin⟩:=C.up i _ _ hi;rw[hf]at hf';cases hf';rw[g3]at hin;unfold keys at hin;rw[YF]at hin;exact hk (Xk hin)
    have hne:farE f (farE e p)≠farE e p:=λz=>by rw[z]at g2;omega
    rw[Cr hk,Cr (by rw[f7];intro z;rcases WH.mp z with z | z;exact hn2 z;exact hne (W9.mp z))];have C':=C.two H hk he f4 (by rw[f3];exact pk) fs K hPf hf hfe hn2
    have cl':cm.length+1+1<=n:=by
     have:=C'.len;rw[W7,W7,Wh,Wh]at this;exact this
    refine⟨C',λq hq=>?_,λq hq h0=>?_,⟨by rw[f7,f7];exact Wa _ (Wa _ pk),p0⟩,?_⟩
    ·show q∈keys (cm++[(farE e p,some t)]++[(farE f (farE e p),some u)])/\_;rw[f7,f7];rcases WH.mp hq with hq | hq
     ·exact⟨Wa _ (Wa _ (wk q hq).1),(wk q hq).2⟩
     ·rw[W9.mp hq];exact⟨WY _ (W9.mpr rfl),by omega⟩
    ·show q∈wt++[farE f (farE e p)]\/_;have hq:q∈keys (cm++[(farE e p,some t)]++[(farE f (farE e p),some u)]):=hq;rw[f7,f7]at hq;rcases WH.mp hq with hq | hq
     ·rcases WH.mp hq with hq | hq
      ·rcases sh q hq h0 with z | z
       ·exact .inl (Wa _ z)
       ·refine .inr λt' e' he' hq'=>?_;show _\/farE e' q∈keys (cm++[(farE e p,some t)]++[(farE f (farE e p),some u)]);rw[f7,f7];rcases z t' e' he' hq' with⟨z1,z2⟩ | z
        ·rcases WV.mp z2 with z2 | z2
         ·subst z2;rw[he]at he';cases he';rw[z1];exact .inr (Wa _ (WY _ (W9.mpr rfl)))
         ·exact .inl ⟨z1,z2⟩
        ·exact .inr (Wa _ (Wa _ z))
      ·rw[W9.mp hq]at h0;omega
     ·exact .inl (WY _ hq)
    ·show(n - (cm++[(farE e p,some t)]++[(farE f (farE e p),some u)]).length)+(wt++[farE f (farE e p)]).length<=m;rw[W7,W7,W7,Wh,Wh,Wh];have ms:(n - cm.length)+wt.length<=m:=ms;omega
theorem HU(H:Sdd n es sd)(K:Cons n es P){p m:Nat}:∀{ts:List Nat} {st:Cm×List Nat},(∀ t∈ts,t<es.length/\(p=(f6 es t).1\/p=(f6 es t).2))->WInv n es sd P starts p m ts st->WInv n es sd P starts p m [] (ts.foldl (Fd es P p) st)
 | [],st,_,W=>W
 | t::ts,st,h,W=>HU (ts:=ts) H K (λt' ht'=>h t' (WL _ ht')) (Ff H K (h t (WW ..)).1 (h t (WW ..)).2 W)
theorem HV{p:Nat}:∀ t∈l9 es p es.length,t<es.length/\(p=(f6 es t).1\/p=(f6 es t).2):=λt ht=>by
 obtain⟨e,he,h⟩:=mem_tiesAt.mp ht;have hl:=(gM he).1;have:f6 es t=e:=by have:=AH hl;rw[he]at this;exact(oj this).symm
 rw[this];exact⟨hl,h.imp Eq.symm Eq.symm⟩
structure WOut(n:Nat)(es:EE)(sd:Nat->Nat)(P:List (Option Nat))(starts:List Nat)(m:Nat)(st:Cm×List Nat):Prop where
 C:Came n es sd P starts st.1
 wk:∀ q∈st.2,q∈keys st.1/\sd q=0
 sh:∀ q∈keys st.1,sd q=0->q∈st.2\/∀(t:Nat) (e:Nat×Nat),es[t]?=some e->(q=e.1\/q=e.2)->farE e q∈keys st.1
 ms:(n - st.1.length)+st.2.length<=m
theorem WOut.go(H:Sdd n es sd)(K:Cons n es P){m p:Nat}{st:Cm×List Nat}(W:WOut n es sd P starts (m+1) st)(hp:st.2.getLast?=some p):WInv n es sd P starts p m (l9 es p es.length) (st.1,st.2.dropLast):=by
 obtain⟨cm,wt⟩:=st;have hne:wt≠[]:=λz=>by rw[z]at hp;cases hp
 have hw:wt.dropLast++[p]=wt:=by
  rw[List.getLast?_eq_some_getLast hne]at hp;have:=oj hp;rw[<-this];exact List.dropLast_concat_getLast hne
 have hm:p∈wt:=by rw[<-hw];exact WY _ (W9.mpr rfl)
 have hl:wt.length=wt.dropLast.length+1:=by
  have:=congrArg Y0 hw;rw[W7,Wh]at this;exact this.symm
 refine⟨W.C,λq hq=>W.wk q (List.dropLast_subset _ hq),λq hq h0=>?_,W.wk p hm,by show(n - cm.length)+wt.dropLast.length<=m;have ms:(n - cm.length)+wt.length<=m+1:=W.ms;omega⟩;rcases W.sh q hq h0 with z | z
 ·have z:q∈wt:=z;rw[<-hw]at z;rcases WH.mp z with z | z
  ·exact .inl z
  ·refine .inr λt e he hq' => .inl ⟨W9.mp z,?_⟩;rw[W9.mp z]at hq';exact mem_tiesAt.mpr ⟨e,he,hq'.imp Eq.symm Eq.symm⟩
 ·exact .inr λt e he hq' => .inr (z t e he hq')
theorem WInv.out{p m:Nat}{st:Cm×List Nat}(W:WInv n es sd P starts p m [] st):WOut n es sd P starts m st:=⟨W.C,W.wk,λq hq h0=>(W.sh q hq h0).imp id λz t e he hq'=>by
 rcases z t e he hq' with⟨_,z⟩ | z
 ·cases z
 ·exact z,W.ms⟩
structure Ways(n:Nat)(es:EE)(sd:Nat->Nat)(P:List (Option Nat))(starts:List Nat)(cm:Cm):Prop where
 C:Came n es sd P starts cm
 cl:∀ q∈keys cm,sd q=0->∀(t:Nat) (e:Nat×Nat),es[t]?=some e->(q=e.1\/q=e.2)->farE e q∈keys cm
theorem KB(H:Sdd n es sd)(K:Cons n es P):∀{f:Nat} {st:Cm×List Nat},WOut n es sd P starts f st->Ways n es sd P starts (EZ es P (f+1) st)
 | f,st,W=>by
   unfold EZ;cases hl:st.2.getLast? with
   | none=>
     have:st.2=[]:=List.getLast?_eq_none_iff.mp hl;refine⟨W.C,λq hq h0=>?_⟩;rcases W.sh q hq h0 with z | z
     ·rw[this]at z;cases z
     ·exact z
   | some p=>
     cases f with
     | zero=>
       have:=W.ms;have hz:st.2=[]:=Ye.mp (by omega);rw[hz]at hl;cases hl
     | succ f=>exact KB H K (HU H K HV (W.go H K hl)).out
theorem WOut.start(O:Open starts sd n P):WOut n es sd P starts n (starts.map λp=>(p,none),starts):=by
 have C:Came n es sd P starts (starts.map λp=>(p,none)):=Came.start O;have cl:=C.len;rw[W8]at cl;have hk:keys (starts.map λp=>(p,(none:Option Nat)))=starts:=by unfold keys;rw[Xg];exact ZS (λ_=>rfl) starts
 exact⟨C,λq hq=>⟨C.hs q hq,(O.ok q hq).2.1⟩,λq hq _ => .inl (by rw[hk]at hq;exact hq),by show(n - (starts.map λp=>(p,(none:Option Nat))).length)+starts.length<=n;rw[W8];omega⟩
theorem EC(H:Sdd n es sd)(K:Cons n es P)(O:Open starts sd n P):Ways n es sd P starts (Bb n es P starts):=KB H K (WOut.start O)
end
noncomputable def turn(es:EE)(cm:Cm):Nat->List (Option Nat)->Nat->List (Option Nat)
 | 0,P,_=>P
 | f+1,P,q=>match (lk cm q).join with
   | none=>P
   | some t=>match (lk cm (farE (f6 es t) q)).join with
     | none=>(P.set q (some t)).set (farE (f6 es t) q) (some t)
     | some u=>turn es cm f ((P.set q (some t)).set (farE (f6 es t) q) (some t)) (farE (f6 es u) (farE (f6 es t) q))
section
variable{n:Nat}{es:EE}{sd:Nat->Nat}{P0:List (Option Nat)}{starts:List Nat}{cm:Cm}
structure Tn(n:Nat)(es:EE)(sd:Nat->Nat)(cm:Cm)(P:List (Option Nat))(q i:Nat):Prop where
 len:P.length=n
 at':∃ t,cm[i]?=some (q,some t)
 q1:sd q=1
 t1:∀ p,p≠q->∀ t,P[p]?=some (some t)->∃ e,es[t]?=some e/\(p=e.1\/p=e.2)/\farE e p≠q/\P[farE e p]?=some (some t)
 t2:∀(j p:Nat) (v:Option Nat),j<i->cm[j]?=some (p,v)->sd p=0->P[p]?=some v
structure Zc(es:EE)(sd:Nat->Nat)(P:List (Option Nat))(Z:Nat->Prop):Prop where
 z1:∀(p t:Nat) (e:Nat×Nat),es[t]?=some e->(p=e.1\/p=e.2)->Z p->sd p=0->Z (farE e p)
 z2:∀(q u:Nat) (f:Nat×Nat),Z q->sd q=1->P[q]?=some (some u)->es[u]?=some f->Z (farE f q)
structure TnP(n:Nat)(es:EE)(sd:Nat->Nat)(starts:List Nat)(P P':List (Option Nat))(q:Nat):Prop where
 co:Cons n es P'
 more:∀ p:Nat,P'[p]?=P[p]?\/∃ t,P'[p]?=some (some t)
 st:∃ s∈starts,∃ t,P'[s]?=some (some t)
 en:∃ t,P'[q]?=some (some t)
 z:∀ Z:Nat->Prop,Zc es sd P Z->¬ Z q->∀ p:Nat,Z p->P'[p]?=P[p]?
 old:∀ p:Nat,sd p=0->P[p]?=some none->p∉starts->P'[p]?=some none
theorem VQ{P:List (Option Nat)}{q r:Nat}{v w:Option Nat}(hq:q<P.length)(hr:r<P.length)(p:Nat):((P.set q v).set r w)[p]?=if p=r then some w else if p=q then some v else P[p]?:=by
 by_cases h1:p=r
 ·subst h1;rw[iP rfl,Wk (by rw[Wc];exact hr)]
 ·rw[iG h1,Wx (Ne.symm h1)];by_cases h2:p=q
  ·subst h2;rw[iP rfl,Wk hq]
  ·rw[iG h2,Wx (Ne.symm h2)]
theorem KC(C:Came n es sd P0 starts cm){p:Nat}{v:Option Nat}(h:(p,v)∈cm):(lk cm p).join=v:=by rw[Ny C.nd h];cases v<;>rfl
theorem AB{t:Nat}{e:Nat×Nat}(h:es[t]?=some e):f6 es t=e:=by
 have:=AH (gM h).1;rw[h]at this;exact(oj this).symm
theorem KD(H:Sdd n es sd)(C:Came n es sd P0 starts cm)(O:Open starts sd n P0):∀{f i q:Nat} {P:List (Option Nat)},i<f->Tn n es sd cm P q i->TnP n es sd starts P (turn es cm f P q) q
 | f+1,i,q,P,hf,T=>by
   obtain⟨t,hi⟩:=T.at';have hm:=WC hi;obtain⟨e,he,hqe,hin⟩:=C.up i q t hi;obtain⟨f1,f2,f3,f4,f5⟩:=H.far he hqe;have hq0:sd (farE e q)=0:=by have:=T.q1;omega
   have hqn:q<P.length:=by rw[T.len];exact f5
   have hrn:farE e q<P.length:=by rw[T.len];exact f1
   have hne:q≠farE e q:=λz=>by rw[<-z]at hq0;have:=T.q1;omega
   have s2:=λp=>VQ (v:=some t) (w:=some t) hqn hrn p;unfold turn;rw[KC C hm];simp only;rw[AB he];obtain⟨c,hc,ec⟩:=Wi.mp hin;obtain⟨c1,v⟩:=c;have ec:c1=farE e q:=ec;subst ec;obtain⟨j,hj⟩:=Wq hc
   have hji:j<i:=by
    have:=(gM hj).1;rw[Wp]at this;omega
   have hj:cm[j]?=some (farE e q,v):=by rw[XU hji]at hj;exact hj
   have hPn:=T.t2 j _ v hji hj hq0;rw[KC C (WC hj)];cases v with
   | none=>
     simp only;have hst:=C.st _ (WC hj);refine⟨⟨by rw[Wc,Wc,T.len],λp s h=>?_⟩,λp=>?_,⟨_,hst,t,by rw[s2,iP rfl]⟩,⟨t,by rw[s2,iG hne,iP rfl]⟩,λZ z hz p hp=>?_,λp h0 hpn hs=>?_⟩
     ·rw[s2]at h;by_cases h1:p=farE e q
      ·rw[iP h1]at h;cases h;subst h1;exact⟨e,he,f4,by rw[f3,s2,iG hne,iP rfl]⟩
      ·rw[iG h1]at h;by_cases h2:p=q
       ·rw[iP h2]at h;cases h;subst h2;exact⟨e,he,hqe,by rw[s2,iP rfl]⟩
       ·rw[iG h2]at h;obtain⟨e',he',hp',hfq,hPf⟩:=T.t1 p h2 s h;refine⟨e',he',hp',?_⟩;rw[s2,iG (λz=>by rw[z,hPn]at hPf;cases hPf),iG hfq];exact hPf
     ·rw[s2];by_cases h1:p=farE e q
      ·rw[iP h1];exact .inr ⟨t,rfl⟩
      ·rw[iG h1];by_cases h2:p=q
       ·rw[iP h2];exact .inr ⟨t,rfl⟩
       ·rw[iG h2];exact .inl rfl
     ·have hz2:¬ Z (farE e q):=λy=>hz (by have:=z.z1 _ t e he f4 y hq0;rw[f3]at this;exact this);have n1:p≠farE e q:=λy=>hz2 (y▸hp);have n2:p≠q:=λy=>hz (y▸hp);rw[s2,iG n1,iG n2]
     ·have n1:p≠farE e q:=λy=>hs (y▸hst);rw[s2,iG n1,iG (λy=>by rw[y]at h0;have:=T.q1;omega)];exact hpn
   | some u=>
     simp only;obtain⟨g,hg,hge,hgin⟩:=C.up j _ u hj;obtain⟨g1,g2,g3,g4,g5⟩:=H.far hg hge;rw[AB hg];have hq1:sd (farE g (farE e q))=1:=by omega
     obtain⟨c,hc',ec⟩:=Wi.mp hgin;obtain⟨c1,v'⟩:=c;have ec:c1=farE g (farE e q):=ec;subst ec;obtain⟨i',hi'⟩:=Wq hc'
     have hij:i'<j:=by
      have:=(gM hi').1;rw[Wp]at this;omega
     have hi':cm[i']?=some (farE g (farE e q),v'):=by rw[XU hij]at hi';exact hi'
     obtain⟨t',rfl⟩:∃ t',v'=some t':=by
      cases v' with
      | some t'=>exact⟨t',rfl⟩
      | none=>have:=(O.ok _ (C.st _ (WC hi'))).2.1;omega
     obtain⟨g',hg',_,hfq,hPq'⟩:=T.t1 (farE e q) (Ne.symm hne) u hPn;rw[hg]at hg';cases hg';have hqq:farE g (farE e q)≠q:=hfq;have hqr:farE g (farE e q)≠farE e q:=λz=>by rw[z]at hq1;omega
     have kne:∀(a b:Nat) (x y:Nat×Option Nat),cm[a]?=some x->cm[b]?=some y->a<b->x.1≠y.1:=λa b x y ha hb hab=>by
      have al:=(gM ha).1;have bl:=(gM hb).1;have:=(X7.mp C.nd) a b (by rw[Bc];exact al) (by rw[Bc];exact bl) hab;unfold keys at this;rw[YD,YD,(gM ha).2,(gM hb).2]at this;exact this
     have T':Tn n es sd cm ((P.set q (some t)).set (farE e q) (some t)) (farE g (farE e q)) i':=by
      refine⟨by rw[Wc,Wc,T.len],⟨t',hi'⟩,hq1,λp hp s h=>?_,λj' p v hj' hv h0=>?_⟩
      ·rw[s2]at h;by_cases h1:p=farE e q
       ·rw[iP h1]at h;cases h;subst h1;exact⟨e,he,f4,by rw[f3];exact Ne.symm hqq,by rw[f3,s2,iG hne,iP rfl]⟩
       ·rw[iG h1]at h;by_cases h2:p=q
        ·rw[iP h2]at h;cases h;subst h2;exact⟨e,he,hqe,Ne.symm hqr,by rw[s2,iP rfl]⟩
        ·rw[iG h2]at h;obtain⟨e',he',hp',hfq',hPf⟩:=T.t1 p h2 s h;obtain⟨k1,k2,k3,k4,k5⟩:=H.far he' hp';refine⟨e',he',hp',λz=>?_,?_⟩
         ·rw[z,hPq']at hPf;cases hPf;rw[hg]at he';cases he';rw[z,g3]at k3;exact h1 k3.symm
         ·rw[s2,iG (λz=>?_),iG hfq']
          ·exact hPf
          ·rw[z,hPn]at hPf;cases hPf;rw[hg]at he';cases he';rw[z]at k3;exact hp k3.symm
      ·have e1:p≠farE e q:=kne j' j _ _ hv hj (by omega);rw[s2,iG e1,iG (λz=>by rw[z]at h0;have:=T.q1;omega)];exact T.t2 j' p v (by omega) hv h0
     have R:=KD H C O (f:=f) (by omega) T';refine⟨R.co,λp=>?_,R.st,?_,λZ z hz p hp=>?_,λp h0 hpn hs=>?_⟩
     ·rcases R.more p with z | z
      ·rw[s2]at z;by_cases h1:p=farE e q
       ·rw[iP h1]at z;exact .inr ⟨t,z⟩
       ·rw[iG h1]at z;by_cases h2:p=q
        ·rw[iP h2]at z;exact .inr ⟨t,z⟩
        ·rw[iG h2]at z;exact .inl z
      ·exact .inr z
     ·rcases R.more q with z | z
      ·rw[s2,iG hne,iP rfl]at z;exact⟨t,z⟩
      ·exact z
     ·have hz2:¬ Z (farE e q):=λy=>hz (by have:=z.z1 _ t e he f4 y hq0;rw[f3]at this;exact this);have hz3:¬ Z (farE g (farE e q)):=λy=>hz2 (by have:=z.z2 _ u g y hq1 hPq' hg;rw[g3]at this;exact this)
      have keep:∀ r,Z r->((P.set q (some t)).set (farE e q) (some t))[r]?=P[r]?:=λr hr=>by
       have n1:r≠farE e q:=λy=>hz2 (y▸hr);have n2:r≠q:=λy=>hz (y▸hr);rw[s2,iG n1,iG n2]
      have z':Zc es sd ((P.set q (some t)).set (farE e q) (some t)) Z:=⟨z.z1,λr u f hr h1 hP hf=>z.z2 r u f hr h1 (by rw[<-keep r hr];exact hP) hf⟩
      rw[R.z Z z' hz3 p hp,keep p hp]
     ·refine R.old p h0 ?_ hs;rw[s2,iG (λy=>by rw[y,hPn]at hpn;cases hpn),iG (λy=>by rw[y]at h0;have:=T.q1;omega)];exact hpn
noncomputable def F7(es:EE)(p:Nat):Nat:=(l9 es p es.length).length
noncomputable def Cs(es:EE)(cm:Cm)(P:List (Option Nat))(needed:Nat):List Nat->List (Option Nat)
 | []=>P
 | p::ps=>if P.getD p none=none then turn es cm (cm.length+1) P p else if P.getD p none=(lk cm p).join/\F7 es p<needed then turn es cm (cm.length+1) (P.set p none) (farE (f6 es ((lk cm p).join.getD 0)) p) else Cs es cm P needed ps
noncomputable def F8(n:Nat)(es:EE)(P:List (Option Nat))(s needed:Nat):List (Option Nat):=Cs es (Bb n es P [s]) P needed ((keys (Bb n es P [s])).filter λq=>!decide (q=s))
end
section
variable{n:Nat}{es:EE}{sd:Nat->Nat}{P:List (Option Nat)}
structure Pz(n:Nat)(es:EE)(sd:Nat->Nat)(i:Nat)(P:List (Option Nat)):Prop where
 co:Cons n es P
 z:∃ Z,Zc es sd P Z/\(∀ q,Z q->sd q=1->∃ u,P[q]?=some (some u))/\∀ p,p<i->sd p=0->P[p]?=some none->Z p
 un:∀ p,i<=p->p<n->sd p=0->P[p]?=some none
theorem HW(H:Sdd n es sd){starts:List Nat}{cm:Cm}(C:Came n es sd P starts cm)(O:Open starts sd n P)(K:Cons n es P){q:Nat}(hq:q∈keys cm)(hs:q∉starts)(hP:P[q]?=some none):∃ i,i<cm.length/\Tn n es sd cm P q i:=by
 obtain⟨c,hc,ec⟩:=Wi.mp hq;obtain⟨c1,v⟩:=c;have ec:c1=q:=ec;subst ec;obtain⟨i,hi⟩:=Wq hc;cases v with
 | none=>exact absurd (C.st _ hc) hs
 | some t=>
   have q1:sd c1=1:=by
    have h2:=H.two c1;by_cases h0:sd c1=0
    ·have:=C.s0 _ _ hc h0;rw[hP]at this;cases this
    ·omega
   refine⟨i,(gM hi).1,K.len,⟨t,hi⟩,q1,λp hp s h=>?_,λj p v hj hv h0=>C.s0 p v (WC hv) h0⟩;obtain⟨e,he,hpe,hf⟩:=K.two p s h;exact⟨e,he,hpe,(λz=>by rw[z,hP]at hf;cases hf),hf⟩
theorem HX(H:Sdd n es sd){s:Nat}{cm:Cm}(C:Came n es sd P [s] cm)(O:Open [s] sd n P)(K:Cons n es P):∀{ks:List Nat},(∀ q∈ks,q∈keys cm/\q≠s)->(Cs es cm P 0 ks=P/\∀ q∈ks,∃ u,P[q]?=some (some u))\/∃ q∈ks,P[q]?=some none/\sd q=1/\TnP n es sd [s] P (Cs es cm P 0 ks) q
 | [],_ => .inl ⟨rfl,λ_ h=>nomatch h⟩
 | q::ks,h=>by
   obtain⟨hk,hs⟩:=h q (WW ..);have hql:q<P.length:=by rw[K.len];exact C.lt q hk
   have hPq:=Cb hql;unfold Cs;by_cases hp:P.getD q none=none
   ·rw[iP hp];rw[hp]at hPq;obtain⟨i,hi,T⟩:=HW H C O K hk (by simpa using hs) hPq;exact .inr ⟨q,WW ..,hPq,T.q1,KD H C O (by omega) T⟩
   ·rw[iG hp,iG (λz=>Y4 _ z.2)]
    have hu:∃ u,P[q]?=some (some u):=by
     cases hv:P.getD q none with
     | none=>exact absurd hv hp
     | some u=>rw[hv]at hPq;exact⟨u,hPq⟩
    rcases HX H C O K (ks:=ks) λr hr=>h r (WL _ hr) with⟨a,b⟩ | ⟨r,hr,z⟩
    ·exact .inl ⟨a,λr hr=>by
      rcases WV.mp hr with rfl | hr
      ·exact hu
      ·exact b r hr⟩
    ·exact .inr ⟨r,WL _ hr,z⟩
theorem QY(H:Sdd n es sd){s:Nat}(hs:s<n)(h0:sd s=0)(R:Pz n es sd s P):Pz n es sd (s+1) (F8 n es P s 0):=by
 have hPs:=R.un s (WJ _) hs h0;have O:Open [s] sd n P:=⟨by simp,λp hp=>by rw[W9.mp hp];exact⟨hs,h0,hPs⟩⟩
 have K:=R.co;have W:=EC H K O;unfold F8;generalize Bb n es P [s]=cm at *
 have hks:∀ q∈(keys cm).filter λq=>!decide (q=s),q∈keys cm/\q≠s:=λq hq=>by
  have:=XX.mp hq;exact⟨this.1,by simpa using this.2⟩
 obtain⟨Z,zc,zp,z3⟩:=R.z;rcases HX H W.C O K hks with⟨e,all⟩ | ⟨q,hq,hPq,q1,T⟩
 ·rw[e];have prd:∀ q,q∈keys cm->sd q=1->∃ u,P[q]?=some (some u):=λq hq h1=>all q (XX.mpr ⟨hq,by simp;intro z;rw[z]at h1;omega⟩);refine⟨K,⟨λp=>Z p\/p∈keys cm,⟨λp t e he hp hz hp0=>?_,λq u f hz h1 hP hf=>?_⟩,λq hz h1=>?_,λp hp hp0 hpn=>?_⟩,λp hp hpn hp0=>R.un p (by omega) hpn hp0⟩
  ·exact hz.imp (λz=>zc.z1 p t e he hp z hp0) (λz=>W.cl p z hp0 t e he hp)
  ·exact hz.imp (λz=>zc.z2 q u f z h1 hP hf) (λz=>W.C.pr q z h1 u f hP hf)
  ·exact hz.elim (λz=>zp q z h1) (λz=>prd q z h1)
  ·by_cases hps:p=s
   ·right;rw[hps];exact W.C.hs s (W9.mpr rfl)
   ·left;exact z3 p (by omega) hp0 hpn
 ·have hzq:¬ Z q:=λz=>by obtain⟨u,hu⟩:=zp q z q1;rw[hPq]at hu;cases hu
  have keep:=T.z Z zc hzq;refine⟨T.co,⟨Z,⟨zc.z1,λr u f hr h1 hP hf=>zc.z2 r u f hr h1 (by rw[<-keep r hr];exact hP) hf⟩,λr hr h1=>by rw[keep r hr];exact zp r hr h1,λp hp hp0 hpn=>?_⟩,λp hp hpn hp0=>T.old p hp0 (R.un p (by omega) hpn hp0) (by simp;omega)⟩
  have hps:p≠s:=λz=>by
   obtain⟨s',hs',t,ht⟩:=T.st;rw[W9.mp hs']at ht;rw[z,ht]at hpn;cases hpn
  rcases T.more p with z | ⟨t,z⟩
  ·rw[hpn]at z;exact z3 p (by omega) hp0 z.symm
  ·rw[hpn]at z;cases z
noncomputable def AI(n:Nat)(es:EE)(sd:Nat->Nat):Nat->List (Option Nat)
 | 0=>WM n none
 | i+1=>if sd i=0 then F8 n es (AI n es sd i) i 0 else AI n es sd i
theorem Bh(H:Sdd n es sd):∀ i,i<=n->Pz n es sd i (AI n es sd i)
 | 0,_=>by
   have e:∀ p t,(WM n (none:Option Nat))[p]?=some (some t)->False:=λp t h=>by
    rw[XM]at h;split at h<;>cases h
   refine⟨⟨by simp[AI],λp t h=>(e p t h).elim⟩,⟨λ_=>False,⟨λ_ _ _ _ _ z=>z.elim,λ_ _ _ z=>z.elim⟩,λ_ z=>z.elim,λp h=>absurd h (Y4 p)⟩,λp _ hp _=>?_⟩;show(WM n (none:Option Nat))[p]?=some none;rw[XM,iP hp]
 | i+1,hi=>by
   have R:=Bh H i (by omega);unfold AI;by_cases h0:sd i=0
   ·rw[iP h0];exact QY H (by omega) h0 R
   ·rw[iG h0];obtain⟨Z,zc,zp,z3⟩:=R.z;refine⟨R.co,⟨Z,zc,zp,λp hp hp0 hpn=>z3 p ?_ hp0 hpn⟩,λp hp hpn hp0=>R.un p (by omega) hpn hp0⟩;have:p≠i:=λz=>h0 (z▸hp0);omega
end
theorem Ae{xs:List Nat}{i:Nat}{x:SV}(h:(natS xs)[i]?=some x):∃ j,xs[i]?=some j/\x = .int j:=by
 unfold natS at h;rw[WQ]at h;cases hx:xs[i]? with
 | none=>rw[hx]at h;cases h
 | some j=>rw[hx]at h;exact⟨j,rfl,(oj h).symm⟩
theorem ED(p:Nat)(xs:List Nat):inS (.int p) (natS xs)=decide (p∈xs):=by
 rw[X4,dQ];unfold inS natS;rw[Z7,XR];constructor
 ·rintro⟨a,ha,h⟩;have h:((a:Int) == (p:Int))=true:=h;rw[bQ]at h;have:=X5.mp h;rw[<-this];exact ha
 ·intro h;exact⟨p,h,by show((p:Int) == (p:Int))=true;simp⟩
theorem KF{k:Nat}{S:Sto}{kvs:List (Int×SV)}(h:S[k]?=some (.dct kvs)):Cj (.loc k) S=some kvs:=by simp only[Cj,h]
theorem Dc{k:Nat}{S:Sto}{o:Obj}{ks:List (Key×V)}{kvs:List (Int×SV)}(h:S[k]?=some (.dcf o ks kvs)):Cj (.loc k) S=some kvs:=by simp only[Cj,h]
theorem J5(f:Nat->Int):∀ i,(PyProof.Rows.firstMet f i).Nodup
 | 0=>by rw[PyProof.Rows.firstMet_zero];exact Y9
 | i+1=>by
   rw[PyProof.Rows.firstMet_succ];unfold PyProof.Rows.step_dedup;split
   ·exact J5 f i
   ·rename_i h;rw[XJ];refine⟨J5 f i,by simp,λa ha b hb=>?_⟩;rw[W9.mp hb];intro z;exact h (XR.mpr ⟨a,ha,by simp[z]⟩)
theorem KG:∀(xs:List Nat),EU (natS xs)=some (xs.map λ(i:Nat)=>(i:Int))
 | []=>rfl
 | x::xs=>by
   show(EU (natS xs)).map (((x:Nat):Int)::·)=_;rw[KG xs];rfl
section
variable{Δ:Nat->Sn}
theorem HY{α:Type}{P:α->Bool}{xs:List α}{j:Nat}{x:α}(h:xs[j]?=some x):(xs.take (j+1)).filter P=(xs.take j).filter P++if P x=true then [x] else []:=by
 rw[XE,h,Y2]
 congr 1
 show List.filter P [x]=_;rw[Xr];rfl
end
theorem Fg{α:Type}[DecidableEq α]:∀{l1 l2:List α},l1.Nodup->(∀ x∈l1,x∈l2)->l1.length<=l2.length
 | [],l2,_,_=>XA _
 | a::l1,l2,nd,h=>by
   rw[Xi]at nd;have ha:=h a (WW ..)
   have:=Fg (l1:=l1) (l2:=l2.erase a) nd.2 λx hx=>by
    have hx2:=h x (WL _ hx);have:x≠a:=λz=>nd.1 (z▸hx);exact(List.mem_erase_of_ne this).mpr hx2
   rw[Yb ha]at this;have:0<l2.length:=Yj ha;rw[X8];omega
theorem Nz{α:Type}[DecidableEq α]{l1 l2:List α}(n1:l1.Nodup)(n2:l2.Nodup)(h:∀ x,x∈l1↔x∈l2):l1.length=l2.length:=Nat.le_antisymm (Fg n1 λx hx=>(h x).mp hx) (Fg n2 λx hx=>(h x).mpr hx)
noncomputable def Apart(es:EE)(ts:List Nat):Prop:=∀ t∈ts,∀ t'∈ts,∀ p,(p=(f6 es t).1\/p=(f6 es t).2)->(p=(f6 es t').1\/p=(f6 es t').2)->t=t'
def Covers(es:EE)(C:List Nat):Prop:=∀ e∈es,e.1∈C\/e.2∈C
def iN(xs:List Nat):List Int:=xs.map λ(i:Nat)=>(i:Int)
def tNs(P:List (Option Nat)):List Nat:=P.filterMap id
def BA(P:List (Option Nat)):List Nat:=(srt (AD (iN (tNs P)))).map YS
theorem QZ{P:List (Option Nat)}{t:Nat}:t∈tNs P↔∃ p:Nat,P[p]?=some (some t):=by
 unfold tNs;rw[YT];constructor
 ·rintro⟨a,ha,h⟩;obtain⟨i,hi⟩:=Wq ha;have h:a=some t:=h;exact⟨i,by rw[hi,h]⟩
 ·rintro⟨p,h⟩;exact⟨some t,WC h,rfl⟩
theorem O0(P:List (Option Nat)):srt (AD (iN (tNs P)))=iN (BA P):=by
 unfold BA
 have nn:∀ x∈srt (AD (iN (tNs P))),0<=x:=λx hx=>by
  have h1:=(Ai _).mem_iff.mp hx;have h2:x∈iN (tNs P):=(Du _ _).mp h1;obtain⟨i,_,rfl⟩:=Wi.mp h2;omega
 generalize srt (AD (iN (tNs P)))=l at *;unfold iN;rw[Xg]
 conv=>lhs;rw[<-Zf l]
 refine YQ λx hx=>?_;have:=nn x hx;show x=((x.toNat:Nat):Int)
 omega
theorem mem_tiesN{P:List (Option Nat)}{t:Nat}:t∈BA P↔∃ p:Nat,P[p]?=some (some t):=by
 rw[<-QZ]
 have h:(t:Int)∈iN (BA P)↔(t:Int)∈iN (tNs P):=by
  rw[<-O0];rw[(Ai _).mem_iff];exact Du _ _
 have inj:∀ l:List Nat,(t:Int)∈iN l↔t∈l:=λl=>by
  unfold iN;rw[Wi];exact⟨λ⟨a,ha,e⟩=>by rw[<-X5.mp e];exact ha,λh=>⟨t,h,rfl⟩⟩
 rw[inj,inj]at h;exact h
theorem HZ(P:List (Option Nat)):(BA P).Pairwise (·<·):=by
 have s:=IM (AD (iN (tNs P)));have nd:(srt (AD (iN (tNs P)))).Nodup:=(Ai _).nodup_iff.mpr (J5 _ _);rw[O0]at s nd;unfold iN at s nd;rw[Xl]at s;have nd:=Xl.mp nd;refine(s.and nd).imp λ{a b} h=>?_;have h1:(a:Int)<=b:=h.1;have h2:(a:Int)≠b:=h.2;omega
theorem KH{l:List Nat}(h:l.Pairwise (·<·)):l.Nodup:=h.imp λh z=>by omega
section
variable{n:Nat}{es:EE}{sd:Nat->Nat}{P:List (Option Nat)}
theorem Cons.apart(K:Cons n es P):Apart es (BA P):=λt ht t' ht' p hp hp'=>by
 have at':∀ t,t∈BA P->(p=(f6 es t).1\/p=(f6 es t).2)->P[p]?=some (some t):=λt ht hp=>by
  obtain⟨r,hr⟩:=mem_tiesN.mp ht;obtain⟨e,he,hre,hf⟩:=K.two r t hr;rw[AB he]at hp;by_cases h:p=r
  ·rw[h];exact hr
  ·have:farE e r=p:=by
    unfold farE;rcases hre with z | z
    ·rw[iP z];rcases hp with y | y
     ·exact absurd (y.trans z.symm) h
     ·exact y.symm
    ·by_cases y:r=e.1
     ·rw[iP y];rcases hp with x | x
      ·exact absurd (x.trans y.symm) h
      ·exact x.symm
     ·rw[iG y];rcases hp with x | x
      ·exact x.symm
      ·exact absurd (x.trans z.symm) h
   rw[<-this];exact hf
 have a:=at' t ht hp;have b:=at' t' ht' hp';rw[a]at b;exact oj (oj b)
theorem Cons.tlt(K:Cons n es P):∀ t∈BA P,t<es.length:=λt ht=>by
 obtain⟨r,hr⟩:=mem_tiesN.mp ht;obtain⟨e,he,_⟩:=K.two r t hr;exact(gM he).1
noncomputable def AC(n:Nat)(sd:Nat->Nat)(P:List (Option Nat)):List Nat:=(WN n).filter λp=>decide (sd p=0)&&(P.getD p none).isNone
noncomputable def Ct(n:Nat)(sd:Nat->Nat)(cm:Cm):List Nat:=(WN n).filter λp=>(lk cm p).isSome == decide (sd p=1)
theorem DP(hl:P.length=n){p:Nat}:p∈AC n sd P↔p<n/\sd p=0/\P[p]?=some none:=by
 unfold AC;rw[XX,Wt,W6,dQ,XS];constructor
 ·rintro⟨h,h1,h2⟩;have:=Cb (show p<P.length by omega);rw[h2]at this;exact⟨h,h1,this⟩
 ·rintro⟨h,h1,h2⟩;exact⟨h,h1,CL h2⟩
theorem Cu(hl:P.length=n):Open (AC n sd P) sd n P:=⟨ZF.filter _,λp hp=>(DP hl).mp hp⟩
theorem mem_covF{cm:Cm}{p:Nat}:p∈Ct n sd cm↔p<n/\(p∈keys cm↔sd p=1):=by
 unfold Ct;rw[XX,Wt,bQ,X4,dQ,lk_some]
noncomputable def C7(n:Nat)(es:EE)(sd:Nat->Nat):List (Option Nat):=AI n es sd n
noncomputable def C8(n:Nat)(es:EE)(sd:Nat->Nat):List Nat:=Ct n sd (Bb n es (C7 n es sd) (AC n sd (C7 n es sd)))
theorem Tt(H:Sdd n es sd):Cons n es (C7 n es sd)/\Covers es (C8 n es sd)/\(BA (C7 n es sd)).length=(C8 n es sd).length:=by
 have R:=Bh H n (WJ _);unfold C8 C7;generalize AI n es sd n=P at *;have K:=R.co;have O:=Cu (sd:=sd) K.len;have W:=EC H K O;generalize Bb n es P (AC n sd P)=cm at *;obtain⟨Z,zc,zp,z3⟩:=R.z
 have inZ:∀ m,m<=cm.length->∀ c∈cm.take m,Z c.1:=by
  intro m
  induction m with
  | zero=>intro _ c hc;simp at hc
  | succ m ih=>
    intro hm c hc;have hml:m<cm.length:=by omega
    have hcm:=WB hml;rw[XE,hcm]at hc;rcases WH.mp hc with hc | hc
    ·exact ih (by omega) c hc
    ·have ec:c=cm[m]:=by simpa using hc
     obtain⟨q,v⟩:=c;rw[<-ec]at hcm;cases v with
     | none=>
       have hs:=W.C.st q (WC hcm);obtain⟨s1,s2,s4⟩:=O.ok q hs;exact z3 q s1 s2 s4
     | some t=>
       obtain⟨e,he,hqe,hin⟩:=W.C.up m q t hcm;obtain⟨c',hc',ec'⟩:=Wi.mp hin;have hz:=ih (by omega) c' hc';have ec':c'.1=farE e q:=ec';rw[ec']at hz;obtain⟨f1,f2,f3,f4,f5⟩:=H.far he hqe;have h2:=H.two q;by_cases h0:sd q=0
       ·have hP:=W.C.s0 q (some t) (WC hcm) h0;obtain⟨e',he',_,hPf⟩:=K.two q t hP;rw[he]at he';cases he';have:=zc.z2 (farE e q) t e hz (by omega) hPf he;rw[f3]at this;exact this
       ·have:=zc.z1 (farE e q) t e he f4 hz (by omega);rw[f3]at this;exact this
 have inZ:∀ p∈keys cm,Z p:=λp hp=>by
  obtain⟨c,hc,rfl⟩:=Wi.mp hp;exact inZ cm.length (WJ _) c (by rw[X9];exact hc)
 have paired:∀ x,x∈Ct n sd cm->∃ t,P[x]?=some (some t):=λx hx=>by
  obtain⟨hxn,hx⟩:=mem_covF.mp hx;have h2:=H.two x;by_cases h1:sd x=1
  ·exact zp x (inZ x (hx.mpr h1)) h1
  ·have hk:x∉keys cm:=λz=>h1 (hx.mp z);have hg:=Cb (show x<P.length by rw[K.len];exact hxn);cases hv:P.getD x none with
   | some t=>rw[hv]at hg;exact⟨t,hg⟩
   | none=>
     rw[hv]at hg;exact absurd (W.C.hs x ((DP K.len).mpr ⟨hxn,by omega,hg⟩)) hk
 have one:∀ p q t e,es[t]?=some e->(p=e.1\/p=e.2)->q=farE e p->sd p=0->P[p]?=some (some t)->P[q]?=some (some t)->(p∈keys cm↔q∈keys cm):=by
  intro p q t e he hpe hq h0 hp hPq;obtain⟨f1,f2,f3,f4,f5⟩:=H.far he hpe;subst hq;constructor
  ·intro hk;obtain⟨c,hc,ec⟩:=Wi.mp hk;obtain⟨c1,v⟩:=c;have ec:c1=p:=ec;subst ec;have:=W.C.s0 _ _ hc h0;rw[hp]at this;have:v=some t:=(oj this).symm;subst this;obtain⟨i,hi⟩:=Wq hc;obtain⟨e',he',_,hin⟩:=W.C.up i _ t hi;rw[he]at he';cases he';unfold keys at hin ⊢;rw[YF]at hin;exact Xk hin
  ·intro hk;have:=W.C.pr _ hk (by omega) t e hPq he;rw[f3]at this;exact this
 refine⟨K,λe he=>?_,?_⟩
 ·obtain⟨t,ht⟩:=Wq he;have h1:=H.en e he;have hne:=H.ne e he;have a:=H.two e.1;have b:=H.two e.2;by_cases h0:sd e.1=0
  ·by_cases hk:e.1∈keys cm
   ·right;have:=W.cl e.1 hk h0 t e ht (.inl rfl);have ef:farE e e.1=e.2:=by unfold farE;rw[iP rfl]
    rw[ef]at this;exact mem_covF.mpr ⟨h1.2,⟨λ_=>by omega,λ_=>this⟩⟩
   ·left;exact mem_covF.mpr ⟨by omega,⟨λz=>absurd z hk,λz=>by omega⟩⟩
  ·by_cases hk:e.2∈keys cm
   ·left;have:=W.cl e.2 hk (by omega) t e ht (.inr rfl);have ef:farE e e.2=e.1:=by unfold farE;rw[iG (by omega)]
    rw[ef]at this;exact mem_covF.mpr ⟨by omega,⟨λ_=>by omega,λ_=>this⟩⟩
   ·right;exact mem_covF.mpr ⟨h1.2,⟨λz=>absurd z hk,λz=>by omega⟩⟩
 ·have nd:(Ct n sd cm).Nodup:=ZF.filter _
  have e:(BA P).length=((Ct n sd cm).map λx=>(P.getD x none).getD 0).length:=by
   refine Nz (KH (HZ P)) ?_ λt=>?_
   ·refine Xl.mpr (List.Pairwise.imp_of_mem ?_ nd);intro x y hx hy hne z;obtain⟨t,ht⟩:=paired x hx;obtain⟨u,hu⟩:=paired y hy;rw[CL ht,CL hu]at z;have z:t=u:=z;subst z;obtain⟨e,he,hxe,hf⟩:=K.two x t ht;obtain⟨e',he',hye,_⟩:=K.two y t hu;rw[he]at he';cases he'
    have hyf:y=farE e x:=by
     unfold farE;rcases hxe with a | a
     ·rw[iP a];rcases hye with b | b
      ·exact absurd (a.trans b.symm) hne
      ·exact b
     ·have:e.1≠e.2:=by have:=H.en e (WC he);omega
      rw[iG (by rw[a];exact Ne.symm this)];rcases hye with b | b
      ·exact b
      ·exact absurd (a.trans b.symm) hne
    obtain⟨f1,f2,f3,f4,f5⟩:=H.far he hxe;obtain⟨_,cx⟩:=mem_covF.mp hx;obtain⟨_,cy⟩:=mem_covF.mp hy;have h2:=H.two x;rw[hyf]at cy hu;by_cases h0:sd x=0
    ·have:=one x _ t e he hxe rfl h0 ht hu;have k1:x∉keys cm:=λz=>by have:=cx.mp z;omega
     exact k1 (this.mpr (cy.mpr (by omega)))
    ·have:=one (farE e x) x t e he f4 f3.symm (by omega) hu ht;have k1:farE e x∉keys cm:=λz=>by have:=cy.mp z;omega
     exact k1 (this.mpr (cx.mpr (by omega)))
   ·rw[mem_tiesN,Wi];constructor
    ·rintro⟨p,hp⟩;obtain⟨e,he,hpe,hf⟩:=K.two p t hp;obtain⟨f1,f2,f3,f4,f5⟩:=H.far he hpe
     have go:∀ a b:Nat,(a=e.1\/a=e.2)->b=farE e a->sd a=0->P[a]?=some (some t)->P[b]?=some (some t)->∃ x∈Ct n sd cm,(P.getD x none).getD 0=t:=by
      intro a b ha hb h0 hPa hPb;obtain⟨k1,k2,k3,k4,k5⟩:=H.far he ha;have o:=one a b t e he ha hb h0 hPa hPb;by_cases hk:b∈keys cm
      ·exact⟨b,mem_covF.mpr ⟨by omega,⟨λ_=>by rw[hb];omega,λ_=>hk⟩⟩,by rw[CL hPb];rfl⟩
      ·exact⟨a,mem_covF.mpr ⟨k5,⟨λz=>absurd (o.mp z) hk,λz=>by omega⟩⟩,by rw[CL hPa];rfl⟩
     have h2:=H.two p;by_cases h0:sd p=0
     ·exact go p _ hpe rfl h0 hp hf
     ·exact go (farE e p) p f4 f3.symm (by omega) hf hp
    ·rintro⟨x,hx,ex⟩;obtain⟨u,hu⟩:=paired x hx;rw[CL hu]at ex;have ex:u=t:=ex;exact⟨x,by rw[<-ex];exact hu⟩
  rw[e,W8]
end
def camS(cm:Cm):List (Int×SV):=cm.map λc=>((c.1:Int),B9 c.2)
theorem Bi(cm:Cm)(p:Nat):Ci (camS cm) p=(lk cm p).map B9:=by
 unfold Ci camS lk
 induction cm with
 | nil=>rfl
 | cons c cm ih=>
   rw[Wo,Xn,Xn];by_cases h:c.1=p
   ·rw[decide_eq_true (show(c.1:Int)=p from congrArg _ h),decide_eq_true h];rfl
   ·rw[decide_eq_false (λz=>h (X5.mp z)),decide_eq_false h];exact ih
theorem Fh(cm:Cm)(p:Nat)(v:Option Nat):BF (camS cm) p (B9 v)=camS (BD cm p v):=by
 have ha:((camS cm).any λq=>decide (q.1=(p:Int)))=cm.any λc=>decide (c.1=p):=by
  unfold camS;rw[Z7]
  congr 1
  funext c
  show decide ((c.1:Int)=p)=decide (c.1=p);rw[decide_eq_decide];exact X5
 unfold BF BD;rw[ha];split
 ·unfold camS;rw[Xg,Xg];refine YQ λc _=>?_;show(if (c.1:Int)=p then ((c.1:Int),B9 v) else ((c.1:Int),B9 c.2))=(((if c.1=p then (c.1,v) else c).1:Int),B9 (if c.1=p then (c.1,v) else c).2)
  by_cases h:c.1=p
  ·rw[iP (congrArg _ h),iP h]
  ·rw[iG (λz=>h (X5.mp z)),iG h]
 ·unfold camS;rw[Wd];rfl
theorem KI(cm:Cm):(camS cm).length=cm.length:=by unfold camS;rw[W8]
theorem OA(cm:Cm):((camS cm).map λp=>SV.int p.1)=natS (keys cm):=by unfold camS natS keys;rw[Xg,Xg];rfl
theorem OB(cm:Cm)(p:Nat)(v:Option Nat):cm.length<=(BD cm p v).length:=by
 unfold BD;split
 ·rw[W8];exact WJ _
 ·rw[W7];omega
theorem J6{keep:Sto->Prop}{g:Tg}{t:WT}{e f:WE}{ρ:EnvS}{Q:List (Int×SV)->Sto->Prop}(mt:MonoT t)(me:Mono e)(mf:Mono f)(I:Nat->List (Int×SV)->Sto->Prop){xs:List SV}{S:Sto}(h0:I 0 [] S)(hk:∀ i ys S,I i ys S->keep S)
 (hs:∀ i x ys S,xs[i]?=some x->I i ys S->wTg g x ρ λρ2=>t ρ2 S λb S1=>if b=true then e ρ2 S1 λy S2=>f ρ2 S2 λz S3=>∃ j,y = .int j/\ys.length<big/\I (i+1) (BF ys j z) S3 else I (i+1) ys S1) (hd:∀ ys S,I xs.length ys S->Q ys S):w6 keep g t e f ρ Q xs [] S:=by
 have go:∀(zs:List SV) (i:Nat) (ys:List (Int×SV)) (S:Sto),xs.drop i=zs->i<=xs.length->I i ys S->w6 keep g t e f ρ Q zs ys S:=by
  intro zs
  induction zs with
  | nil=>
    intro i ys S e' hi h
    have:i=xs.length:=by
     have:=congrArg Y0 e';rw[XD,Xa]at this;omega
    subst this;unfold w6;exact⟨hk _ _ _ h,hd _ _ h⟩
  | cons y zs ih=>
    intro i ys S e' hi h;have hy:xs[i]?=some y:=by rw[<-Y5,e'];rfl
    have hlt:=(gM hy).1;have e2:xs.drop (i+1)=zs:=by rw[<-YA,e'];rfl
    unfold w6;refine⟨hk _ _ _ h,l8 g (λρ2 q=>mt _ _ _ _ (λb S1 q=>i6 (λq=>me _ _ _ _ (λv S2 q=>mf _ _ _ _ (λz S3 hq=>by obtain⟨j,a,b,c⟩:=hq;exact⟨j,a,b,ih (i+1) _ S3 e2 hlt c⟩) q) q) (λq=>ih (i+1) _ S1 e2 hlt q) q) q) (hs i y ys S hy h)⟩
 exact go xs 0 [] S rfl (XA _) h0
theorem J7{keep:Sto->Prop}{g:Tg}{t:WT}{e:WE}{ρ:EnvS}{Q:List Int->Sto->Prop}(mt:MonoT t)(me:Mono e)(I:Nat->List Int->Sto->Prop){xs:List SV}{S:Sto}(h0:I 0 [] S)(hk:∀ i ys S,I i ys S->keep S)
 (hs:∀ i x ys S,xs[i]?=some x->I i ys S->wTg g x ρ λρ2=>t ρ2 S λb S1=>if b=true then e ρ2 S1 λy S2=>∃ j,y = .int j/\ys.length<900/\I (i+1) (ys++[j]) S2 else I (i+1) ys S1) (hd:∀ ys S,I xs.length ys S->Q ys S):w9 keep g t e ρ Q xs [] S:=by
 have go:∀(zs:List SV) (i:Nat) (ys:List Int) (S:Sto),xs.drop i=zs->i<=xs.length->I i ys S->w9 keep g t e ρ Q zs ys S:=by
  intro zs
  induction zs with
  | nil=>
    intro i ys S e' hi h
    have:i=xs.length:=by
     have:=congrArg Y0 e';rw[XD,Xa]at this;omega
    subst this;unfold w9;exact⟨hk _ _ _ h,hd _ _ h⟩
  | cons y zs ih=>
    intro i ys S e' hi h;have hy:xs[i]?=some y:=by rw[<-Y5,e'];rfl
    have hlt:=(gM hy).1;have e2:xs.drop (i+1)=zs:=by rw[<-YA,e'];rfl
    unfold w9;refine⟨hk _ _ _ h,l8 g (λρ2 q=>mt _ _ _ _ (λb S1 q=>i6 (λq=>me _ _ _ _ (λv S2 hq=>by obtain⟨j,a,b,c⟩:=hq;exact⟨j,a,b,ih (i+1) _ S2 e2 hlt c⟩) q) (λq=>ih (i+1) _ S1 e2 hlt q) q) q) (hs i y ys S hy h)⟩
 exact go xs 0 [] S rfl (XA _) h0
noncomputable def va1:Stm:=(.asg (.nm 3) (.dcomp ["place"] [] [] (.nm 0) (.seq (.var 2)) .no (.var 0) (.c .non)))
noncomputable def va2:Stm:=(.asg (.nm 4) (.bi .list (.cons (.var 2) .nil)))
noncomputable def vin(kf:Nat):List Stm:=[(.asg (.nm 7) (.call kf (.cons (.var 0) (.cons (.var 6) (.cons (.var 5) .nil))))),(.iff (.din true (.var 7) (.var 3)) [(.dput (.var 3) (.var 7) (.var 6)),(.iff (.cmp .IsNot (.ix (.var 1) (.var 7)) (.c .non)) [(.asg (.nm 8) (.call kf (.cons (.var 0) (.cons (.ix (.var 1) (.var 7)) (.cons (.var 7) .nil))))),(.dput (.var 3) (.var 8) (.ix (.var 1) (.var 7))),(.expr (.mt .append (.var 4) (.cons (.var 8) .nil)))] [])] [])]
noncomputable def va3(kt kf:Nat):Stm:=(.whl (.var 4) [(.asg (.nm 5) (.mt .pop (.var 4) .nil)),(.loop (.nm 6) (.seq (.call kt (.cons (.var 0) (.cons (.var 5) .nil)))) (vin kf))])
noncomputable def Rb(kt kf:Nat):List Stm:=[va1,va2,va3 kt kf,(.ret (.var 3))]
structure Wm(lp lc lw:Nat)(S0 S:Sto)(P:List (Option Nat))(st:Cm×List Nat):Prop where
 hp:S[lp]?=some (.lst (optsS P))
 hc:S[lc]?=some (.dct (camS st.1))
 hw:S[lw]?=some (.lst (natS st.2))
 g:Gw S0 S
 p0:lp<S0.length
 c0:S0.length<=lc
 w0:S0.length<=lw
 ne:lc≠lw
section
variable{lp lc lw:Nat}{S0 S:Sto}{P:List (Option Nat)}{st:Cm×List Nat}{cm':Cm}{wt':List Nat}
theorem Wm.push{o:SO}(M:Wm lp lc lw S0 S P st):Wm lp lc lw S0 (S++[o]) P st:=⟨e6 M.hp,e6 M.hc,e6 M.hw,M.g.push,M.p0,M.c0,M.w0,M.ne⟩
theorem Wm.setc(M:Wm lp lc lw S0 S P st):Wm lp lc lw S0 (S.set lc (.dct (camS cm'))) P (cm',st.2):=⟨by rw[j0 (by have:=M.p0;have:=M.c0;omega)];exact M.hp,u8 M.hc,by rw[j0 M.ne];exact M.hw,M.g.put M.c0,M.p0,M.c0,M.w0,M.ne⟩
theorem Wm.setw(M:Wm lp lc lw S0 S P st):Wm lp lc lw S0 (S.set lw (.lst (natS wt'))) P (st.1,wt'):=⟨by rw[j0 (by have:=M.p0;have:=M.w0;omega)];exact M.hp,by rw[j0 (Ne.symm M.ne)];exact M.hc,u8 M.hw,M.g.put M.w0,M.p0,M.c0,M.w0,M.ne⟩
end
section
variable{Δ:Nat->Sn}{kt kf:Nat}
theorem Lf(hf:AT (Δ kf)){n p m t l lp lc lw ls:Nat}{o:SO}{es:EE}{sd:Nat->Nat}{starts ts:List Nat}{P:List (Option Nat)}{S0 S:Sto}{st:Cm×List Nat}{D:EndsS}{o7 o8:Option SV}(H:Sdd n es sd)(K:Cons n es P)(hn:n<=100)(hm:m<=100)(hl:S[l]?=some o)(lc':l≠lc)(lw':l≠lw)(ht:t<es.length)(hp:p=(f6 es t).1\/p=(f6 es t).2)(W:WInv n es sd P starts p m (t::ts) st)(M:Wm lp lc lw S0 S P st)
 (q:∀(o7 o8:Option SV) (S':Sto),S'[l]?=some o->Wm lp lc lw S0 S' P (Fd es P p st t)->D.nx [some (j3 n es),some (.loc lp),some (.loc ls),some (.loc lc),some (.loc lw),some (.int p),some (.int t),o7,o8] S'):
 wSs Δ (vin kf) D [some (j3 n es),some (.loc lp),some (.loc ls),some (.loc lc),some (.loc lw),some (.int p),some (.int t),o7,o8] S:=by
 obtain⟨cm,wt⟩:=st;have W1:=Ff H K ht hp W;have he:=AH ht;have cl:=W.C.len;have cl1:=W1.C.len;have wl:wt.length<=m:=by have:=W.ms;show wt.length<=m;have:(n - cm.length)+wt.length<=m:=this;omega
 unfold Fd at q cl1;generalize f6 es t=e at *;obtain⟨f1,f2,f3,f4,f5⟩:=H.far he hp;have hfl:farE e p<P.length:=by rw[K.len];exact f1
 have hPf:=Cb hfl;refine⟨_,rfl,_,rfl,_,rfl,hf he hp ?_⟩;generalize farE e p=fr at *;refine⟨_,rfl,_,rfl,_,_,KF M.hc,rfl,_,rfl,?_⟩;rw[Bi];by_cases hk:(lk cm fr).isSome=true
 ·rw[iP hk]at q;refine ifF ?_ (q _ _ S hl M);rw[Xy];show(!(lk cm fr).isSome)=false;rw[hk];rfl
 ·rw[iG hk]at q cl1;refine ifT ?_ ?_
  ·rw[Xy];show(!(lk cm fr).isSome)=true;rw[ZG]at hk;rw[hk];rfl
  have cb:∀ cm':Cm,cm'.length<=100->(camS cm').length<big:=λcm' h=>by rw[KI];show _<100000;omega
  have hM0:=M.hc;refine⟨_,rfl,_,rfl,_,rfl,_,_,_,rfl,rfl,.inl hM0,cb _ (by have:cm.length<=n:=cl;show cm.length<=100;omega),?_⟩;have e1:BF (camS cm) fr (.int t)=camS (BD cm fr (some t)):=Fh cm fr (some t);have M1:=M.setc (cm':=BD cm fr (some t));have hl1:(S.set lc (.dct (camS (BD cm fr (some t)))))[l]?=some o:=by rw[j0 (Ne.symm lc')];exact hl
  show wSs Δ [(.iff (.cmp .IsNot (.ix (.var 1) (.var 7)) (.c .non)) [(.asg (.nm 8) (.call kf (.cons (.var 0) (.cons (.ix (.var 1) (.var 7)) (.cons (.var 7) .nil))))),(.dput (.var 3) (.var 8) (.ix (.var 1) (.var 7))),(.expr (.mt .append (.var 4) (.cons (.var 8) .nil)))] [])] _ _ (S.set lc (.dct (BF (camS cm) fr (.int t))));rw[e1];generalize S.set lc (.dct (camS (BD cm fr (some t))))=S1 at *;cases hv:P.getD fr none with
  | none=>
    rw[hv]at hPf q;simp only at q;refine⟨_,rfl,_,rfl,_,_,a8 M1.hp,i5 (m5 hPf),.inl ⟨rfl,_,rfl,ifF rfl ?_⟩⟩;exact q _ _ S1 hl1 M1
  | some u=>
    rw[hv]at hPf q cl1;simp only at q cl1;obtain⟨f,hfu,hfe,_⟩:=K.two fr u hPf;rw[AB hfu]at q cl1
    have cl2:(BD cm fr (some t)).length<=100:=by
     have:=OB (BD cm fr (some t)) (farE f fr) (some u);omega
    refine⟨_,rfl,_,rfl,_,_,a8 M1.hp,i5 (m5 hPf),.inl ⟨rfl,_,rfl,ifT rfl ?_⟩⟩;refine⟨_,rfl,_,rfl,_,rfl,_,_,a8 M1.hp,i5 (m5 hPf),_,rfl,hf hfu hfe ?_⟩;refine⟨_,rfl,_,rfl,_,_,a8 M1.hp,i5 (m5 hPf),_,rfl,_,rfl,_,_,_,rfl,rfl,.inl M1.hc,cb _ cl2,?_⟩;show wSs Δ [(.expr (.mt .append (.var 4) (.cons (.var 8) .nil)))] _ _ (S1.set lc (.dct (BF (camS (BD cm fr (some t))) (farE f fr) (B9 (some u)))));rw[Fh];have M2:=M1.setc (cm':=BD (BD cm fr (some t)) (farE f fr) (some u));have hl2:(S1.set lc (.dct (camS (BD (BD cm fr (some t)) (farE f fr) (some u)))))[l]?=some o:=by rw[j0 (Ne.symm lc')];exact hl1
    generalize S1.set lc (.dct (camS (BD (BD cm fr (some t)) (farE f fr) (some u))))=S2 at *
    have wn:(natS wt).length<big:=by
     rw[c8];show _<100000;omega
    refine⟨_,rfl,⟨_,_,rfl,M2.hw⟩,_,rfl,_,M2.hw,wn,?_⟩;have M3:=M2.setw (wt':=wt++[farE f fr]);rw[m9]at M3;exact q _ _ _ (by rw[j0 (Ne.symm lw')];exact hl2) M3
theorem Hb{wt:List Nat}{p:Nat}:(wt++[p]).getLast?=some p:=List.getLast?_concat
theorem Lh{es:EE}{P:List (Option Nat)}{f p:Nat}{cm:Cm}{wt:List Nat}:EZ es P (f+1) (cm,wt++[p])=EZ es P f ((l9 es p es.length).foldl (Fd es P p) (cm,wt)):=by
 rw[EZ,show((cm,wt++[p]):Cm×List Nat).2.getLast?=some p from Hb];show EZ es P f (J4 es P (cm,wt++[p]) p)=_;unfold J4;rw[show((cm,wt++[p]):Cm×List Nat).2.dropLast=wt from YN]
noncomputable def EF(s:Sn):Prop:=∀{n lp ls:Nat} {es:EE} {sd:Nat->Nat} {starts:List Nat} {P:List (Option Nat)} {S:Sto} {Q:QE},Sdd n es sd->Cons n es P->Open starts sd n P->n<=99->es.length<=1000->S[lp]?=some (.lst (optsS P))->S[ls]?=some (.lst (natS starts))->
 (∀(l:Nat) (S':Sto),Gw S S'->S.length<=l->S'[l]?=some (.dct (camS (Bb n es P starts)))->Q (.loc l) S')->s [j3 n es,.loc lp,.loc ls] S Q
theorem OC(hΔ:∀ f,MonoN (Δ f))(ht:BZ (Δ kt))(hf:AT (Δ kf)){n lp ls lc lw:Nat}{es:EE}{sd:Nat->Nat}{starts:List Nat}{P:List (Option Nat)}{S0 S:Sto}{Q:QE}(H:Sdd n es sd)(K:Cons n es P)(O:Open starts sd n P)(hn:n<=99)(hel:es.length<=1000)(M:Wm lp lc lw S0 S P (starts.map λp=>(p,none),starts))
 (q:∀(S':Sto),Gw S0 S'->S'[lc]?=some (.dct (camS (Bb n es P starts)))->Q (.loc lc) S'):wSs Δ [va3 kt kf,(.ret (.var 3))] (AK Q) [some (j3 n es),some (.loc lp),some (.loc ls),some (.loc lc),some (.loc lw),none,none,none,none] S:=by
 refine⟨λm ρ S'=>∃(st:Cm×List Nat) (o5 o6 o7 o8:Option SV),ρ=[some (j3 n es),some (.loc lp),some (.loc ls),some (.loc lc),some (.loc lw),o5,o6,o7,o8]/\Wm lp lc lw S0 S' P st/\WOut n es sd P starts m st/\EZ es P (m+1) st=Bb n es P starts/\m<=100,⟨n,_,none,none,none,none,rfl,M,WOut.start O,rfl,by omega⟩,?_⟩;rintro m ρ S1 ⟨⟨cm,wt⟩,o5,o6,o7,o8,rfl,M1,W,ew,hm⟩;refine⟨_,rfl,_,Jz M1.hw,?_⟩;rcases DO wt with rfl | ⟨wt',p,rfl⟩
 ·refine ifF rfl ⟨_,rfl,?_⟩;have:EZ es P (m+1) (cm,[])=cm:=rfl;rw[this]at ew;rw[<-ew]at q;exact q S1 M1.g M1.hc
 refine ifT (by rw[m9];simp[natS]) (Da λEw hw _=>?_);have hwl:=W.ms;have hwl:(n - cm.length)+(wt'++[p]).length<=m:=hwl;rw[W7,Wh]at hwl;obtain⟨m',rfl⟩:∃ m',m=m'+1:=⟨m - 1,by omega⟩
 have WI:=W.go H K (p:=p) Hb;have hpk:=WI.pk;have hpn:=WI.C.lt p hpk.1;rw[show((cm,wt'++[p]):Cm×List Nat).2.dropLast=wt' from YN]at WI;refine⟨_,rfl,⟨_,_,rfl,M1.hw⟩,_,_,M1.hw,F6,?_⟩;rw[HQ];have M2:=M1.setw (wt':=wt');refine⟨_,rfl,_,rfl,ht (by omega) hpn ⟨_,a8 c6,?_⟩⟩;have M3:=M2.push (o:=SO.lst (natS (l9 es p es.length)));have hnew:=c6 (S:=S1.set lw (.lst (natS wt'))) (o:=SO.lst (natS (l9 es p es.length)));have l2:=u7 M2.hc;have l3:=u7 M2.hw;generalize (S1.set lw (.lst (natS wt'))).length=l at *;generalize (S1.set lw (.lst (natS wt')))++[SO.lst (natS (l9 es p es.length))]=S3 at *
 refine Ad (i7 hΔ _) (λi ρ S2=>∃ o6 o7 o8,ρ=[some (j3 n es),some (.loc lp),some (.loc ls),some (.loc lc),some (.loc lw),some (.int p),o6,o7,o8]/\S2[l]?=some (.lst (natS (l9 es p es.length)))/\Wm lp lc lw S0 S2 P (((l9 es p es.length).take i).foldl (Fd es P p) (cm,wt'))/\WInv n es sd P starts p m' ((l9 es p es.length).drop i) (((l9 es p es.length).take i).foldl (Fd es P p) (cm,wt')))
  ⟨o6,o7,o8,rfl,hnew,M3,WI⟩ ?_ ?_ ?_
 ·rintro i ρ S2 ⟨_,_,_,_,h,_⟩;show S2[l]?=_;rw[h,hnew]
 ·rintro i x ρ S2 E hn _ hx ⟨o6,o7,o8,rfl,hl,M4,W4⟩;have hi:i<(l9 es p es.length).length:=by have:=(gM hx).1;rwa [c8]at this
  have hti:=WB hi;have hx2:=Ba hti;rw[hx2]at hx;have hx:=oj hx;subst hx;obtain⟨h1,h2⟩:=HV (p:=p) _ (Ww hi);rw[Wz hi]at W4;refine Lf hf H K (by omega) (by omega) hl (by omega) (by omega) h1 h2 W4 M4 λo7 o8 S' hl' M'=>hn _ _ ⟨_,_,_,rfl,hl',?_,?_⟩
  ·rw[XE,hti,ZA];exact M'
  ·rw[XE,hti,ZA];exact Ff H K h1 h2 W4
 ·rintro ρ S2 ⟨o6,o7,o8,rfl,hl,M4,W4⟩;rw[c8,X9]at M4 W4;rw[Xd]at W4;refine hw _ _ ⟨m',by omega,_,_,_,_,_,rfl,M4,W4.out,?_,by omega⟩;rw[<-ew,Lh]
theorem Qa(hΔ:∀ f,MonoN (Δ f))(ht:BZ (Δ kt))(hf:AT (Δ kf)){D:Df}(hb:D.body=Rb kt kf)(hN:D.N.length=9)(hp:D.ps.length=3):EF (i9 Δ D):=by
 intro n lp ls es sd starts P S Q H K O hn hel hlp hls q;unfold i9;rw[hb,hN];have C:Came n es sd P starts (starts.map λp=>(p,none)):=Came.start O;have cl:=C.len;rw[W8]at cl;refine⟨hp.symm,_,rfl,_,a8 hls,?_⟩;refine J6 (j6 hΔ _).2 (a7 hΔ _).1 (a7 hΔ _).1 (λi ys S'=>S'=S/\ys=camS ((starts.take i).map λp=>(p,none))) ⟨rfl,rfl⟩ (λ_ _ _ h=>by rw[h.1];exact rfl) ?_ ?_
 ·rintro i x ys S' hx ⟨rfl,rfl⟩;obtain⟨p,hpi,rfl⟩:=Ae hx;have hil:=(gM hpi).1;refine⟨_,rfl,_,rfl,by rw[KI,W8,Wp];show _<100000;omega,rfl,?_⟩;show BF (camS ((starts.take i).map λp=>(p,none))) p (B9 none)=_;rw[Fh,Cr,XE,hpi,Wd]
  ·rfl
  ·unfold keys;rw[Xg];intro z;obtain⟨r,hr,e⟩:=Wi.mp z;have e:r=p:=e;subst e;obtain⟨j,hj⟩:=Wq hr
   have hji:j<i:=by
    have:=(gM hj).1;rw[Wp]at this;omega
   rw[XU hji]at hj;have:=(X7.mp O.nd) j i (gM hj).1 hil hji;rw[(gM hj).2,(gM hpi).2]at this;exact this rfl
 ·rintro ys S' ⟨rfl,rfl⟩;rw[c8,X9];have h1:=e6 (o:=SO.dct (camS (starts.map λp=>(p,none)))) hls;refine⟨_,rfl,_,a8 h1,?_⟩;have l0:=u7 hlp;refine OC hΔ ht hf (S0:=S') H K O hn hel ⟨e6 (e6 hlp),e6 c6,c6,(Gw.refl S').push.push,l0,WJ _,by rw[W7];omega,by rw[W7];simp⟩ λS2 G2 h2=>q _ S2 G2 (WJ _) h2
end
section
variable{n:Nat}{es:EE}{sd:Nat->Nat}{P0:List (Option Nat)}{starts:List Nat}{cm:Cm}
theorem Fi(C:Came n es sd P0 starts cm):∀(a b:Nat) (x y:Nat×Option Nat),cm[a]?=some x->cm[b]?=some y->a<b->x.1≠y.1:=λa b x y ha hb hab=>by
 have al:=(gM ha).1;have bl:=(gM hb).1;have:=(X7.mp C.nd) a b (by rw[Bc];exact al) (by rw[Bc];exact bl) hab;unfold keys at this;rw[YD,YD,(gM ha).2,(gM hb).2]at this;exact this
theorem Cv{m r:Nat}(h:r∈keys (cm.take m)):∃(j:Nat) (v:Option Nat),j<m/\cm[j]?=some (r,v):=by
 obtain⟨c,hc,ec⟩:=Wi.mp h;obtain⟨c1,v⟩:=c;have ec:c1=r:=ec;subst ec;obtain⟨j,hj⟩:=Wq hc
 have hji:j<m:=by
  have:=(gM hj).1;rw[Wp]at this;omega
 rw[XU hji]at hj;exact⟨j,v,hji,hj⟩
theorem Qb(H:Sdd n es sd)(C:Came n es sd P0 starts cm)(O:Open starts sd n P0){P:List (Option Nat)}{q i:Nat}(T:Tn n es sd cm P q i):∃(t:Nat) (e:Nat×Nat) (v:Option Nat),lk cm q=some (some t)/\es[t]?=some e/\(q=e.1\/q=e.2)/\lk cm (farE e q)=some v/\
 (v=none\/∃(u:Nat) (g:Nat×Nat) (i':Nat),v=some u/\es[u]?=some g/\(farE e q=g.1\/farE e q=g.2)/\i'<i/\Tn n es sd cm ((P.set q (some t)).set (farE e q) (some t)) (farE g (farE e q)) i'):=by
 obtain⟨t,hi⟩:=T.at';obtain⟨e,he,hqe,hin⟩:=C.up i q t hi;obtain⟨f1,f2,f3,f4,f5⟩:=H.far he hqe;have hq0:sd (farE e q)=0:=by have:=T.q1;omega
 have hqn:q<P.length:=by rw[T.len];exact f5
 have hrn:farE e q<P.length:=by rw[T.len];exact f1
 have hne:q≠farE e q:=λz=>by rw[<-z]at hq0;have:=T.q1;omega
 have s2:=λp=>VQ (v:=some t) (w:=some t) hqn hrn p;obtain⟨j,v,hji,hj⟩:=Cv hin;have hPn:=T.t2 j _ v hji hj hq0;refine⟨t,e,v,Ny C.nd (WC hi),he,hqe,Ny C.nd (WC hj),?_⟩;cases v with
 | none=>exact .inl rfl
 | some u=>
   right;obtain⟨g,hg,hge,hgin⟩:=C.up j _ u hj;obtain⟨g1,g2,g3,g4,g5⟩:=H.far hg hge;have hq1:sd (farE g (farE e q))=1:=by omega
   obtain⟨i',v',hij,hi'⟩:=Cv hgin
   obtain⟨t',rfl⟩:∃ t',v'=some t':=by
    cases v' with
    | some t'=>exact⟨t',rfl⟩
    | none=>have:=(O.ok _ (C.st _ (WC hi'))).2.1;omega
   obtain⟨g',hg',_,hfq,hPq'⟩:=T.t1 (farE e q) (Ne.symm hne) u hPn;rw[hg]at hg';cases hg';have hqr:farE g (farE e q)≠farE e q:=λz=>by rw[z]at hq1;omega
   refine⟨u,g,i',rfl,hg,hge,by omega,by rw[Wc,Wc,T.len],⟨t',hi'⟩,hq1,λp hp s h=>?_,λj' p v hj' hv h0=>?_⟩
   ·rw[s2]at h;by_cases h1:p=farE e q
    ·rw[iP h1]at h;cases h;subst h1;exact⟨e,he,f4,by rw[f3];exact Ne.symm hfq,by rw[f3,s2,iG hne,iP rfl]⟩
    ·rw[iG h1]at h;by_cases h2:p=q
     ·rw[iP h2]at h;cases h;subst h2;exact⟨e,he,hqe,Ne.symm hqr,by rw[s2,iP rfl]⟩
     ·rw[iG h2]at h;obtain⟨e',he',hp',hfq',hPf⟩:=T.t1 p h2 s h;obtain⟨k1,k2,k3,k4,k5⟩:=H.far he' hp';refine⟨e',he',hp',λz=>?_,?_⟩
      ·rw[z,hPq']at hPf;cases hPf;rw[hg]at he';cases he';rw[z,g3]at k3;exact h1 k3.symm
      ·rw[s2,iG (λz=>?_),iG hfq']
       ·exact hPf
       ·rw[z,hPn]at hPf;cases hPf;rw[hg]at he';cases he';rw[z]at k3;exact hp k3.symm
   ·have e1:p≠farE e q:=Fi C j' j _ _ hv hj (by omega);rw[s2,iG e1,iG (λz=>by rw[z]at h0;have:=T.q1;omega)];exact T.t2 j' p v (by omega) hv h0
theorem Li(H:Sdd n es sd)(C:Came n es sd P0 starts cm)(O:Open starts sd n P0)(K:Cons n es P0){p t:Nat}(hp:lk cm p=some (some t))(hP:P0[p]?=some (some t))(h0:sd p=0):∃(e:Nat×Nat) (i:Nat),es[t]?=some e/\(p=e.1\/p=e.2)/\i<cm.length/\Tn n es sd cm (P0.set p none) (farE e p) i:=by
 have hm:=Fe hp;obtain⟨j,hj⟩:=Wq hm;obtain⟨e,he,hpe,hin⟩:=C.up j p t hj;obtain⟨f1,f2,f3,f4,f5⟩:=H.far he hpe;obtain⟨i,v,hij,hi⟩:=Cv hin;have hpl:p<P0.length:=by rw[K.len];exact f5
 obtain⟨e2,he2,_,hPq⟩:=K.two p t hP;rw[he]at he2;cases he2;have q1:sd (farE e p)=1:=by omega
 obtain⟨t',rfl⟩:∃ t',v=some t':=by
  cases v with
  | some t'=>exact⟨t',rfl⟩
  | none=>have:=(O.ok _ (C.st _ (WC hi))).2.1;omega
 have s1:∀ r,r≠p->(P0.set p none)[r]?=P0[r]?:=λr hr=>Wx (Ne.symm hr);have sp:(P0.set p none)[p]?=some none:=Wk hpl;refine⟨e,i,he,hpe,(gM hi).1,by rw[Wc,K.len],⟨t',hi⟩,q1,λr hr s h=>?_,λj' r v hj' hv hr0=>?_⟩
 ·have hrp:r≠p:=λz=>by rw[z,sp]at h;cases h
  rw[s1 r hrp]at h;obtain⟨e',he',hre,hf⟩:=K.two r s h;obtain⟨k1,k2,k3,k4,k5⟩:=H.far he' hre;refine⟨e',he',hre,λz=>?_,?_⟩
  ·rw[z,hPq]at hf;cases hf;rw[he]at he';cases he';rw[z,f3]at k3;exact hrp k3.symm
  ·rw[s1]
   ·exact hf
   ·intro z;rw[z,hP]at hf;cases hf;rw[he]at he';cases he';rw[z]at k3;exact hr k3.symm
 ·have:=Fi C j' j _ _ hv hj (by omega);rw[s1 r this];exact C.s0 r v (WC hv) hr0
end
structure Kp(l:Nat)(S S':Sto):Prop where
 len:S.length<=S'.length
 keep:∀(k:Nat) (o:SO),k≠l->S[k]?=some o->S'[k]?=some o
theorem Kp.refl(l:Nat)(S:Sto):Kp l S S:=⟨WJ _,λ_ _ _ h=>h⟩
theorem Kp.put{l:Nat}{S S':Sto}{o:SO}(h:Kp l S S'):Kp l S (S'.set l o):=⟨by rw[Wc];exact h.len,λk u n e=>by rw[j0 (Ne.symm n)];exact h.keep k u n e⟩
theorem Kp.trans{l:Nat}{S S' S'':Sto}(a:Kp l S S')(b:Kp l S' S''):Kp l S S'':=⟨Ws a.len b.len,λk o n h=>b.keep k o n (a.keep k o n h)⟩
theorem Gw.kp{l:Nat}{S S':Sto}(a:Gw S S'):Kp l S S':=⟨a.len,λk o _ h=>a.keep k o h⟩
theorem Hc{l lc:Nat}{S S':Sto}{kvs:List (Int×SV)}(h:Cj (.loc lc) S=some kvs)(k:Kp l S S')(ne:lc≠l):Cj (.loc lc) S'=some kvs:=by
 cases ho:S[lc]? with
 | none=>simp only[Cj,ho]at h;cases h
 | some o=>
   have h':=k.keep lc o ne ho;simp only[Cj,ho]at h;simp only[Cj,h'];exact h
section
variable{Δ:Nat->Sn}{kt kf:Nat}
noncomputable def Rc(kf:Nat):List Stm:=[(.whl (.cmp .IsNot (.var 3) (.c .non)) [(.asg (.nm 4) (.dget (.var 2) (.var 3))),(.asg (.nm 5) (.call kf (.cons (.var 0) (.cons (.var 4) (.cons (.var 3) .nil))))),(.put (.var 1) (.var 3) (.var 4)),(.put (.var 1) (.var 5) (.var 4)),(.asg (.nm 3) (.ife (.cmp .Is (.dget (.var 2) (.var 5)) (.c .non)) (.c .non) (.call kf (.cons (.var 0) (.cons (.dget (.var 2) (.var 5)) (.cons (.var 5) .nil))))))])]
noncomputable def J8(s:Sn):Prop:=∀{n lp lc q i:Nat} {es:EE} {sd:Nat->Nat} {starts:List Nat} {P0 P:List (Option Nat)} {cm:Cm} {S:Sto} {Q:QE},Sdd n es sd->Came n es sd P0 starts cm->Open starts sd n P0->Tn n es sd cm P q i->S[lp]?=some (.lst (optsS P))->Cj (.loc lc) S=some (camS cm)->lc≠lp->
 (∀(S':Sto),Kp lp S S'->S'[lp]?=some (.lst (optsS (turn es cm (cm.length+1) P q)))->Q .non S')->s [j3 n es,.loc lp,.loc lc,.int q] S Q
theorem DF{xs:List (Option Nat)}{j:Nat}{v:Option Nat}:(optsS xs).set j (B9 v)=optsS (xs.set j v):=by unfold optsS;rw[Za]
theorem Qc(hf:AT (Δ kf)){D:Df}(hb:D.body=Rc kf)(hN:D.N.length=6)(hp:D.ps.length=4):J8 (i9 Δ D):=by
 intro n lp lc q i es sd starts P0 P cm S Q H C O T hlp hlc ne k;unfold i9;rw[hb,hN];refine⟨hp.symm,?_⟩;have hil:i<cm.length:=by obtain⟨t,h⟩:=T.at';exact(gM h).1
 refine⟨λm ρ S'=>Kp lp S S'/\∃ o4 o5,(∃(P':List (Option Nat)) (q' i' f:Nat),ρ=[some (j3 n es),some (.loc lp),some (.loc lc),some (.int q'),o4,o5]/\S'[lp]?=some (.lst (optsS P'))/\Tn n es sd cm P' q' i'/\i'<f/\turn es cm f P' q'=turn es cm (cm.length+1) P q/\m=i'+1)\/(ρ=[some (j3 n es),some (.loc lp),some (.loc lc),some .non,o4,o5]/\S'[lp]?=some (.lst (optsS (turn es cm (cm.length+1) P q)))),⟨i+1,Kp.refl lp S,none,none,.inl ⟨P,q,i,cm.length+1,rfl,hlp,T,by omega,rfl,rfl⟩⟩,?_⟩;rintro m ρ S1 ⟨K1,o4,o5,⟨P',q',i',f,rfl,h1,T1,hf1,e1,rfl⟩ | ⟨rfl,h1⟩⟩
 ·refine⟨_,rfl,.inl ⟨rfl,_,rfl,ifT rfl (Da λEw hw _=>?_)⟩⟩;obtain⟨t,e,v,l1,he,hqe,l2,z⟩:=Qb H C O T1;obtain⟨f1,f2,f3,f4,f5⟩:=H.far he hqe;have hc1:=Hc hlc K1 ne;refine⟨_,rfl,_,rfl,_,_,_,hc1,rfl,by rw[Bi,l1];rfl,?_⟩;refine⟨_,rfl,_,rfl,_,rfl,hf he hqe ?_⟩;refine⟨_,rfl,_,rfl,_,rfl,_,_,h1,DC (by rw[AZ,T1.len];exact f5),?_⟩;have k2:Kp lp S (S1.set lp (.lst ((optsS P').set q' (B9 (some t))))):=K1.put
  have h2:(S1.set lp (.lst ((optsS P').set q' (B9 (some t)))))[lp]?=some (.lst (optsS (P'.set q' (some t)))):=by
   rw[u8 h1,DF]
  generalize S1.set lp (.lst ((optsS P').set q' (B9 (some t))))=S2 at *;refine⟨_,rfl,_,rfl,_,rfl,_,_,h2,DC (by rw[AZ,Wc,T1.len];exact f1),?_⟩;have k3:Kp lp S (S2.set lp (.lst ((optsS (P'.set q' (some t))).set (farE e q') (B9 (some t))))):=k2.put
  have h3:(S2.set lp (.lst ((optsS (P'.set q' (some t))).set (farE e q') (B9 (some t)))))[lp]?=some (.lst (optsS ((P'.set q' (some t)).set (farE e q') (some t)))):=by
   rw[u8 h2,DF]
  generalize S2.set lp (.lst ((optsS (P'.set q' (some t))).set (farE e q') (B9 (some t))))=S3 at *;have hc3:=Hc hlc k3 ne;obtain⟨f',rfl⟩:∃ f',f=f'+1:=⟨f - 1,by omega⟩
  have et:turn es cm (f'+1) P' q'=match (lk cm (farE e q')).join with | none=>(P'.set q' (some t)).set (farE e q') (some t) | some u=>turn es cm f' ((P'.set q' (some t)).set (farE e q') (some t)) (farE (f6 es u) (farE e q')):=by
   rw[turn,l1];simp only[Option.join_some];rw[AB he]<;>rfl
  rw[et,l2]at e1;refine⟨_,rfl,_,rfl,_,_,_,hc3,rfl,by rw[Bi,l2];rfl,.inl ⟨rfl,_,rfl,?_⟩⟩;rcases z with rfl | ⟨u,g,i2,rfl,hg,hge,hi2,T2⟩
  ·refine ifT rfl ?_;refine hw _ _ ⟨0,by omega,k3,_,_,.inr ⟨rfl,?_⟩⟩;rw[<-e1];exact h3
  ·refine ifF rfl ?_;refine⟨_,rfl,_,rfl,_,rfl,_,_,_,hc3,rfl,by rw[Bi,l2];rfl,_,rfl,hf hg hge ?_⟩;refine hw _ _ ⟨i2+1,by omega,k3,_,_,.inl ⟨_,_,i2,f',rfl,h3,T2,by omega,?_,rfl⟩⟩;rw[<-e1];show _=turn es cm f' _ (farE (f6 es u) (farE e q'));rw[AB hg]
 ·refine⟨_,rfl,.inl ⟨rfl,_,rfl,ifF rfl ?_⟩⟩;exact k S1 K1 h1
end
theorem OD{n:Nat}{es:EE}{sd:Nat->Nat}{P:List (Option Nat)}{starts:List Nat}{cm:Cm}(H:Sdd n es sd)(C:Came n es sd P starts cm)(K:Cons n es P){p t:Nat}(hl:lk cm p=some (some t))(hP:P[p]?=some (some t)):sd p=0:=by
 have h2:=H.two p;refine Classical.byContradiction λz=>?_;obtain⟨i,hi⟩:=Wq (Fe hl);obtain⟨e,he,hpe,hin⟩:=C.up i p t hi;obtain⟨f1,f2,f3,f4,f5⟩:=H.far he hpe;obtain⟨j,v,hji,hj⟩:=Cv hin;obtain⟨e',he',_,hPf⟩:=K.two p t hP;rw[he]at he';cases he';have hv:=C.s0 _ v (WC hj) (by omega);rw[hPf]at hv;have hv:v=some t:=(oj hv).symm;subst hv;obtain⟨e2,he2,_,hin2⟩:=C.up j _ t hj;rw[he]at he2;cases he2;rw[f3]at hin2;obtain⟨k,w,hkj,hk⟩:=Cv hin2;exact Fi C k i _ _ hk hi (by omega) rfl
section
variable{Δ:Nat->Sn}
noncomputable def OE(kt:Nat):List Stm:=[(.ret (.bi .len (.cons (.call kt (.cons (.var 0) (.cons (.var 1) .nil))) .nil)))]
noncomputable def Fj(s:Sn):Prop:=∀{n p:Nat} {es:EE} {S:Sto} {Q:QE},es.length<=5000->p<n->(∀ S',Gw S S'->Q (.int (F7 es p)) S')->s [j3 n es,.int p] S Q
theorem OF{kt:Nat}(ht:BZ (Δ kt)){D:Df}(hb:D.body=OE kt)(hN:D.N.length=2)(hp:D.ps.length=2):Fj (i9 Δ D):=by
 intro n p es S Q hel hpn q;unfold i9;rw[hb,hN];refine⟨hp.symm,_,rfl,_,rfl,ht hel hpn ⟨_,a8 c6,?_⟩⟩;have:=q _ ((Gw.refl S).push (o:=SO.lst (natS (l9 es p es.length))));rw[c8];exact this
noncomputable def gb1(kw:Nat):Stm:=(.asg (.nm 4) (.call kw (.cons (.var 0) (.cons (.var 1) (.cons (.lst (.cons (.var 2) .nil)) .nil)))))
noncomputable def gbA(ku:Nat):Stm:=(.iff (.cmp .Is (.ix (.var 1) (.var 5)) (.c .non)) [(.expr (.call ku (.cons (.var 0) (.cons (.var 1) (.cons (.var 4) (.cons (.var 5) .nil)))))),.retN] [])
noncomputable def gbB(kc kf ku:Nat):Stm:=(.iff (.and (.cmp .Eq (.ix (.var 1) (.var 5)) (.dget (.var 4) (.var 5))) (.cmp .Lt (.call kc (.cons (.var 0) (.cons (.var 5) .nil))) (.var 3))) [(.put (.var 1) (.var 5) (.c .non)),(.expr (.call ku (.cons (.var 0) (.cons (.var 1) (.cons (.var 4) (.cons (.call kf (.cons (.var 0) (.cons (.dget (.var 4) (.var 5)) (.cons (.var 5) .nil)))) .nil)))))),.retN] [])
noncomputable def gb2(kc kf ku:Nat):Stm:=(.loop (.nm 5) (.seq (.comp ["other"] ["start"] [2] (.nm 0) (.dk (.var 4)) (.yes (.cmp .NotEq (.var 0) (.var 1))) (.var 0))) [gbA ku,gbB kc kf ku])
noncomputable def OG(kw kc kf ku:Nat):List Stm:=[gb1 kw,gb2 kc kf ku]
noncomputable def Fk(s:Sn):Prop:=∀{n lp st nd:Nat} {es:EE} {sd:Nat->Nat} {P:List (Option Nat)} {S:Sto} {Q:QE},Sdd n es sd->Cons n es P->Open [st] sd n P->n<=99->es.length<=1000->S[lp]?=some (.lst (optsS P))->(∀(S':Sto),Kp lp S S'->S'[lp]?=some (.lst (optsS (F8 n es P st nd)))->Q .non S')->s [j3 n es,.loc lp,.int st,.int nd] S Q
theorem OH(hΔ:∀ f,MonoN (Δ f)){kw kc kf ku:Nat}(hw:EF (Δ kw))(hcn:Fj (Δ kc))(hf:AT (Δ kf))(hu:J8 (Δ ku)){D:Df}(hb:D.body=OG kw kc kf ku)(hN:D.N.length=6)(hp:D.ps.length=4):Fk (i9 Δ D):=by
 intro n lp st nd es sd P S Q H K O hn hel hlp q;unfold i9;rw[hb,hN];refine⟨hp.symm,_,rfl,_,rfl,_,rfl,by show 1<=big;decide,?_⟩;refine hw (starts:=[st]) H K O hn hel (e6 hlp) c6 λlc S1 G1 hl1 h1=>?_;have W:=EC H K O;have hlp0:=u7 hlp;have ek:F8 n es P st nd=Cs es (Bb n es P [st]) P nd ((keys (Bb n es P [st])).filter λq=>!decide (q=st)):=rfl;rw[ek]at q;generalize Bb n es P [st]=cm at *;rw[W7,Wh]at hl1;have K1:Kp lp S S1:=((Gw.refl S).push.trans G1).kp;have hp1:=G1.keep _ _ (e6 (o:=SO.lst [SV.int st]) hlp);have cl:=W.C.len;refine⟨_,rfl,_,_,rfl,h1,λo ks=>?_⟩;have nlc:lc≠lp:=by omega
 have h2:(S1.set lc (.dcf o ks (camS cm)))[lc]?=some (.dcf o ks (camS cm)):=u8 h1;have hp2:(S1.set lc (.dcf o ks (camS cm)))[lp]?=some (.lst (optsS P)):=by rw[j0 nlc];exact hp1
 have K2:Kp lp S (S1.set lc (.dcf o ks (camS cm))):=⟨by rw[Wc];exact K1.len,λk u hk e=>by
  rw[j0 (λz=>by have:=u7 e;omega)];exact K1.keep k u hk e⟩
 generalize S1.set lc (.dcf o ks (camS cm))=S2 at *;rw[OA];refine m7 (j6 hΔ _).2 (a7 hΔ _).1 (λi ys S3=>S3=S2/\ys=natS (((keys cm).take i).filter λq=>!decide (q=st))) ⟨rfl,rfl⟩ (λ_ _ _ h=>by rw[h.1];exact h2) ?_ ?_
 ·rintro i x ys S3 hx ⟨rfl,rfl⟩;obtain⟨p,hpi,rfl⟩:=Ae hx;have hil:=(gM hpi).1;rw[Bc]at hil;have hs:=HY (P:=λq=>!decide (q=st)) hpi
  have hlen:(((keys cm).take i).filter λq=>!decide (q=st)).length<=i:=by
   have:=Xu (λq=>!decide (q=st)) ((keys cm).take i);rw[Wp]at this;omega
  refine⟨_,rfl,_,rfl,_,rfl,?_⟩;show if (!((p:Int) == (st:Int)))=true then _ else _
  by_cases h:p=st
  ·rw[iG (by simp[h]),XZ]at hs;exact ifF (by simp[h]) ⟨rfl,by rw[hs]⟩
  ·rw[iP (by simpa using h)]at hs;refine ifT ?_ ⟨_,rfl,by rw[c8];show _<100000;omega,rfl,by rw[hs,m9];rfl⟩;have:((p:Int) == (st:Int))=false:=by rw[beq_eq_false_iff_ne];exact λz=>h (X5.mp z)
   rw[this];rfl
 ·rintro ys S3 ⟨rfl,rfl⟩;rw[c8,X9]
  have hks:∀ q∈(keys cm).filter λq=>!decide (q=st),q∈keys cm/\q≠st:=λq hq=>by
   have:=XX.mp hq;exact⟨this.1,by simpa using this.2⟩
  generalize (keys cm).filter (λq=>!decide (q=st))=kl at *;refine⟨_,a8 c6,?_⟩;have hl3:(S3++[SO.lst (natS kl)])[S3.length]?=some (.lst (natS kl)):=c6;have h3:(S3++[SO.lst (natS kl)])[lc]?=some (.dcf o ks (camS cm)):=e6 h2;have hp3:(S3++[SO.lst (natS kl)])[lp]?=some (.lst (optsS P)):=e6 hp2;have K3:Kp lp S (S3++[SO.lst (natS kl)]):=K2.trans ((Gw.refl S3).push).kp;generalize S3++[SO.lst (natS kl)]=S4 at *;refine v7 (i7 hΔ _) (λi ρ S5=>∃ o5,ρ=[some (j3 n es),some (.loc lp),some (.int st),some (.int nd),some (.loc lc),o5]/\Gw S4 S5/\Cs es cm P nd (kl.drop i)=Cs es cm P nd kl) ⟨none,rfl,Gw.refl S4,rfl⟩ (λ_ _ S5 ⟨_,_,G,_⟩=>(G.keep _ _ hl3).trans hl3.symm) ?_ ?_
  ·rintro i x ρ S5 hx ⟨o5,rfl,G5,e5⟩;obtain⟨p,hpi,rfl⟩:=Ae hx;have hil:=(gM hpi).1;obtain⟨hpk,hps⟩:=hks p (WC hpi);have hpn:=W.C.lt p hpk;have hPp:=Cb (show p<P.length by rw[K.len];exact hpn);rw[Wz hil,(gM hpi).2,Cs]at e5;have h5:=G5.keep _ _ h3;have hp5:=G5.keep _ _ hp3;cases hv:P.getD p none with
   | none=>
     rw[hv]at hPp;rw[iP hv]at e5;obtain⟨i0,_,T⟩:=HW H W.C O K hpk (by simpa using hps) hPp;refine⟨_,rfl,_,rfl,_,_,a8 hp5,i5 (m5 hPp),.inl ⟨rfl,_,rfl,ifT rfl ?_⟩⟩;refine⟨_,rfl,_,rfl,_,rfl,_,rfl,hu H W.C O T hp5 (Dc h5) nlc λS6 K6 h6=>?_⟩;refine q S6 ((K3.trans G5.kp).trans K6) ?_;rw[<-e5];exact h6
   | some u=>
     rw[hv]at hPp;rw[iG (by rw[hv];exact nofun),hv]at e5;refine⟨_,rfl,_,rfl,_,_,a8 hp5,i5 (m5 hPp),.inl ⟨rfl,_,rfl,ifF rfl (j4 ?_)⟩⟩;obtain⟨v,hlv⟩:=XB.mp (lk_some.mpr hpk)
     obtain⟨t,rfl⟩:∃ t,v=some t:=by
      cases v with
      | some t=>exact⟨t,rfl⟩
      | none=>exact absurd (W9.mp (W.C.st p (Fe hlv))) hps
     rw[hlv]at e5;refine⟨_,rfl,_,rfl,_,SV.int u,a8 hp5,i5 (v:=SV.int u) (m5 hPp),_,rfl,_,rfl,_,_,SV.int t,Dc h5,rfl,by rw[Bi,hlv];rfl,_,rfl,?_⟩;show if decide ((u:Int)=(t:Int))=true then _ else _
     refine ifD (λhe=>?_) (λhe=>ifF rfl (j4 ⟨_,rfl,G5,?_⟩))
     ·have he:u=t:=X5.mp he;subst he;refine⟨_,rfl,_,rfl,hcn (by omega) hpn λS6 G6=>⟨_,rfl,_,rfl,?_⟩⟩;refine ifD (λhc=>?_) (λhc=>j4 ⟨_,rfl,G5.trans G6,?_⟩)
      ·have hc:F7 es p<nd:=by have:((F7 es p:Nat):Int)<(nd:Int):=hc;omega
       rw[iP ⟨rfl,hc⟩]at e5;have h0:sd p=0:=OD H W.C K hlv hPp;obtain⟨e,i0,he,hpe,_,T⟩:=Li H W.C O K hlv hPp h0;have h6:=G6.keep _ _ h5;have hp6:=G6.keep _ _ hp5;refine⟨_,rfl,_,rfl,_,_,hp6,DC (by rw[AZ,K.len];exact hpn),?_⟩;have k7:Kp lp S (S6.set lp (.lst ((optsS P).set p (B9 none)))):=((K3.trans G5.kp).trans G6.kp).put;have h7:(S6.set lp (.lst ((optsS P).set p (B9 none))))[lp]?=some (.lst (optsS (P.set p none))):=by rw[u8 hp6,DF]
       have c7:(S6.set lp (.lst ((optsS P).set p (B9 none))))[lc]?=some (.dcf o ks (camS cm)):=by rw[j0 (Ne.symm nlc)];exact h6
       show wSs Δ _ _ _ (S6.set lp (.lst ((optsS P).set p (B9 none))));generalize S6.set lp (.lst ((optsS P).set p (B9 none)))=S7 at *;refine⟨_,rfl,_,rfl,_,rfl,_,rfl,_,rfl,_,rfl,_,_,_,Dc c7,rfl,by rw[Bi,hlv];rfl,_,rfl,hf he hpe ?_⟩;refine hu H W.C O T h7 (Dc c7) nlc λS8 K8 h8=>?_;refine q S8 (k7.trans K8) ?_;rw[<-e5];show S8[lp]?=some (.lst (optsS (turn es cm (cm.length+1) (P.set p none) (farE (f6 es u) p))));rw[AB he];exact h8
      ·have hc:¬ F7 es p<nd:=λz=>hc (by show((F7 es p:Nat):Int)<(nd:Int);omega);rw[iG (λz=>hc z.2)]at e5;exact e5
     ·have he:¬ u=t:=λz=>he (congrArg _ z);rw[iG (λz=>he (oj z.1))]at e5;exact e5
  ·rintro ρ S5 ⟨o5,rfl,G5,e5⟩;rw[c8,Xd]at e5;refine q S5 (K3.trans G5.kp) ?_;rw[<-e5];exact G5.keep _ _ hp3
noncomputable def KJ:List Stm:=[(.ret (.srtsc ["tie"] [] [] (.nm 0) (.seq (.var 0)) (.yes (.cmp .IsNot (.var 0) (.c .non))) (.var 0)))]
noncomputable def Cw(s:Sn):Prop:=∀{lp:Nat} {P:List (Option Nat)} {S:Sto} {Q:QE},S[lp]?=some (.lst (optsS P))->P.length<=60->Q (.loc S.length) (S++[.lst (natS (BA P))])->s [.loc lp] S Q
theorem Qd{xs:List (Option Nat)}{i:Nat}{x:SV}(h:(optsS xs)[i]?=some x):∃ v,xs[i]?=some v/\x=B9 v:=by
 unfold optsS at h;rw[WQ]at h;cases hx:xs[i]? with
 | none=>rw[hx]at h;cases h
 | some v=>rw[hx]at h;exact⟨v,rfl,(oj h).symm⟩
theorem Cy(xs:List Nat):(iN xs).map SV.int=natS xs:=by unfold iN natS;rw[Xg];rfl
theorem Lj(hΔ:∀ f,MonoN (Δ f)){D:Df}(hb:D.body=KJ)(hN:D.N.length=1)(hp:D.ps.length=1):Cw (i9 Δ D):=by
 intro lp P S Q hlp hl q;unfold i9;rw[hb,hN];refine⟨hp.symm,_,rfl,_,a8 hlp,?_⟩
 have len:∀ i,(iN ((P.take i).filterMap id)).length<=60:=λi=>by
  unfold iN;rw[W8];have:=List.length_filterMap_le id (P.take i);rw[Wp]at this;omega
 refine J7 (j6 hΔ _).2 (a7 hΔ _).1 (λi ns S'=>S'=S/\ns=iN ((P.take i).filterMap id)) ⟨rfl,rfl⟩ (λ_ _ _ h=>by rw[h.1];exact rfl) ?_ ?_
 ·rintro i x ns S' hx ⟨rfl,rfl⟩;obtain⟨v,hv,rfl⟩:=Qd hx
  have e:(P.take (i+1)).filterMap id=(P.take i).filterMap id++v.toList:=by
   rw[XE,hv,List.filterMap_append];cases v<;>rfl
  cases v with
  | none=>exact⟨_,rfl,.inl ⟨rfl,_,rfl,ifF rfl ⟨rfl,by rw[e,Z0,XZ]⟩⟩⟩
  | some t=>
    refine⟨_,rfl,.inl ⟨rfl,_,rfl,ifT rfl ⟨_,rfl,t,rfl,by have:=len i;omega,rfl,?_⟩⟩⟩;rw[e];unfold iN;rw[Wd];rfl
 ·rintro ns S' ⟨rfl,rfl⟩;rw[AZ,X9];have l:=len P.length;rw[X9]at l;refine⟨by omega,?_⟩;have:srt (AD (iN (P.filterMap id)))=iN (BA P):=O0 P;rw[this,Cy];exact q
noncomputable def pg3(kg:Nat):Stm:=(.loop (.nm 3) (.rng1 (.ix (.var 0) (.c (.int 0)))) [(.iff (.cmp .Eq (.ix (.var 1) (.var 3)) (.c (.int 0))) [(.expr (.call kg (.cons (.var 0) (.cons (.var 2) (.cons (.var 3) (.cons (.c (.int 0)) .nil))))))] [])])
noncomputable def pg4:Stm:=(.asg (.nm 4) (.comp ["place"] ["sides","pairs"] [1,2] (.nm 0) (.rng1 (.ix (.var 0) (.c (.int 0)))) (.yes (.and (.cmp .Eq (.ix (.var 1) (.var 0)) (.c (.int 0))) (.cmp .Is (.ix (.var 2) (.var 0)) (.c .non)))) (.var 0)))
noncomputable def pg5(kw:Nat):Stm:=(.asg (.nm 5) (.call kw (.cons (.var 0) (.cons (.var 2) (.cons (.var 4) .nil)))))
noncomputable def pg6:Stm:=(.asg (.nm 6) (.comp ["place"] ["came","sides"] [5,1] (.nm 0) (.rng1 (.ix (.var 0) (.c (.int 0)))) (.yes (.cmp .Eq (.din false (.var 0) (.var 1)) (.cmp .Eq (.ix (.var 2) (.var 0)) (.c (.int 1))))) (.var 0)))
noncomputable def pg7(ko:Nat):Stm:=(.ret (.tup (.cons (.call ko (.cons (.var 2) .nil)) (.cons (.var 6) .nil))))
noncomputable def Hd(ks kg kw ko:Nat):List Stm:=[(.asg (.nm 1) (.call ks (.cons (.var 0) .nil))),(.asg (.nm 2) (.op .Mult (.lst (.cons (.c .non) .nil)) (.ix (.var 0) (.c (.int 0))))),pg3 kg,pg4,pg5 kw,pg6,pg7 ko]
structure Web2(n:Nat)(es:EE):Prop where
 en:∀ e∈es,e.1<e.2/\e.2<n
 len:es.length<=1000
 few:n<=60
 two:∃ c:Nat->Nat,(∀ p,c p<2)/\∀ e∈es,c e.1≠c e.2
theorem He:∀ n:Nat,(WM n [SV.non]).flatten=optsS (WM n none)
 | 0=>rfl
 | n+1=>by rw[X0,X0,XT,He n];rfl
theorem Hf(n:Nat)(sd:Nat->Nat)(P:List (Option Nat)):AC (n+1) sd P=AC n sd P++if sd n=0/\P.getD n none=none then [n] else []:=by
 unfold AC;rw[Xo,Y2]
 congr 1
 rw[Xr];by_cases h:sd n=0/\P.getD n none=none
 ·rw[iP h,iP (by rw[h.2];simp[h.1])];rfl
 ·rw[iG h,iG (by simpa using h)];rfl
theorem OI(n:Nat)(sd:Nat->Nat)(cm:Cm):Ct (n+1) sd cm=Ct n sd cm++if ((lk cm n).isSome == decide (sd n=1))=true then [n] else []:=by
 unfold Ct;rw[Xo,Y2]
 congr 1
 rw[Xr];rfl
theorem Hg(n:Nat)(sd:Nat->Nat)(P:List (Option Nat)):(AC n sd P).length<=n:=by
 have:=Xu (λp=>decide (sd p=0)&&(P.getD p none).isNone) (WN n);rw[Xh]at this;exact this
theorem OJ(n:Nat)(sd:Nat->Nat)(cm:Cm):(Ct n sd cm).length<=n:=by
 have:=Xu (λp=>(lk cm p).isSome == decide (sd p=1)) (WN n);rw[Xh]at this;exact this
end
theorem Lk(fs:EE)(k:Nat)(e:Nat×Nat):(fs.map pairS).take k++pairS e::(fs.map pairS).drop k=(fs.take k++e::fs.drop k).map pairS:=by
 rw[Wd,Wo,YF,Yw]
theorem Qf{fs:EE}{k:Nat}{e:Nat×Nat}{P:Nat×Nat->Prop}(h:∀ f∈fs,P f)(he:P e):∀ f∈fs.take k++e::fs.drop k,P f:=λf hf=>by
 rcases WH.mp hf with hf | hf
 ·exact h f (Xk hf)
 ·rcases WV.mp hf with hf | hf
  ·rw[hf];exact he
  ·exact h f (YB hf)
theorem Qg(fs:EE)(k:Nat)(e:Nat×Nat):(fs.take k++e::fs.drop k).length=fs.length+1:=by
 rw[W7,X8,Wp,XD];omega
noncomputable def t2(kd:Nat):Stm:=(.asg (.nm 2) (.ix (.lst (.cons (.call kd (.cons (.var 0) (.cons (.c (.int 8)) .nil))) (.cons (.op .Add (.c (.int 8)) (.call kd (.cons (.var 0) (.cons (.c (.int 23)) .nil)))) .nil))) (.bi .int (.cons (.var 1) .nil))))
noncomputable def t3(kd:Nat):Stm:=(.asg (.nm 3) (.comp ["_law_k"] ["_law_tape_here"] [0] (.nm 0) (.rng1 (.var 2)) .no (.call kd (.cons (.var 1) (.cons (.c (.int 2)) .nil)))))
noncomputable def t4:Stm:=(.asg (.nm 4) (.comp ["_law_k"] ["_law_sides"] [3] (.nm 0) (.rng1 (.var 2)) (.yes (.cmp .Eq (.ix (.var 1) (.var 0)) (.c (.int 0)))) (.var 0)))
noncomputable def t5:Stm:=(.asg (.nm 5) (.comp ["_law_k"] ["_law_sides"] [3] (.nm 0) (.rng1 (.var 2)) (.yes (.cmp .Eq (.ix (.var 1) (.var 0)) (.c (.int 1)))) (.var 0)))
noncomputable def t6(kd:Nat):Stm:=(.asg (.nm 6) (.call kd (.cons (.var 0) (.cons (.c (.int 6)) .nil))))
noncomputable def t7:Stm:=(.asg (.nm 7) (.lst .nil))
noncomputable def t8a:Stm:=(.iff (.cmp .Eq (.var 6) (.c (.int 0))) [(.loop (.nm 8) (.seq (.var 4)) [(.expr (.mt .extend (.var 7) (.cons (.comp ["_law_other"] ["_law_one"] [8] (.nm 0) (.seq (.var 5)) .no (.tup (.cons (.var 1) (.cons (.var 0) .nil)))) .nil)))])] [])
noncomputable def t8b:Stm:=(.iff (.cmp .Eq (.var 6) (.c (.int 1))) [(.asg (.nm 7) (.comp ["_law_other"] ["_law_left"] [4] (.nm 0) (.seq (.var 5)) .no (.tup (.cons (.ix (.var 1) (.c (.int 0))) (.cons (.var 0) .nil)))))] [])
noncomputable def t8c(kd:Nat):Stm:=(.iff (.cmp .Gt (.var 6) (.c (.int 1))) [(.loop (.nm 9) (.rng1 (.call kd (.cons (.var 0) (.cons (.ix (.lst (.cons (.op .Add (.var 2) (.c (.int 2))) (.cons (.op .Mult (.c (.int 3)) (.var 2)) .nil))) (.op .Mod (.var 6) (.c (.int 2)))) .nil)))) [(.expr (.mt .append (.var 7) (.cons (.tup (.cons (.ix (.var 4) (.call kd (.cons (.var 0) (.cons (.bi .len (.cons (.var 4) .nil)) .nil)))) (.cons (.ix (.var 5) (.call kd (.cons (.var 0) (.cons (.bi .len (.cons (.var 5) .nil)) .nil)))) .nil))) .nil)))])] [])
noncomputable def t8(kd:Nat):Stm:=(.iff (.and (.cmp .NotEq (.var 4) (.lst .nil)) (.cmp .NotEq (.var 5) (.lst .nil))) [t8a,t8b,t8c kd] [])
noncomputable def t9(kd:Nat):Stm:=(.iff (.and (.cmp .NotEq (.var 7) (.lst .nil)) (.cmp .Eq (.call kd (.cons (.var 0) (.cons (.c (.int 3)) .nil))) (.c (.int 0)))) [(.asg (.nm 7) (.op .Add (.var 7) (.comp ["_law_turn"] ["_law_found","_law_tape_here"] [7,0] (.nm 0) (.rng1 (.op .Add (.c (.int 1)) (.call kd (.cons (.var 0) (.cons (.c (.int 6)) .nil))))) .no (.ix (.var 1) (.call kd (.cons (.var 2) (.cons (.bi .len (.cons (.var 1) .nil)) .nil)))))))] [])
noncomputable def t10:Stm:=(.asg (.nm 10) (.lst .nil))
noncomputable def t11(kd:Nat):Stm:=(.loop (.tup (.cons (.nm 8) (.cons (.nm 11) .nil))) (.seq (.slc (.var 7) .no (.yes (.c (.int 90))))) [(.expr (.mt .insert (.var 10) (.cons (.call kd (.cons (.var 0) (.cons (.op .Add (.bi .len (.cons (.var 10) .nil)) (.c (.int 1))) .nil))) (.cons (.tup (.cons (.bi .min (.cons (.var 8) (.cons (.var 11) .nil))) (.cons (.bi .max (.cons (.var 8) (.cons (.var 11) .nil))) .nil))) .nil))))])
def t12:Stm:=(.ret (.tup (.cons (.var 2) (.cons (.bi .tuple (.cons (.var 10) .nil)) .nil))))
noncomputable def Hh(kd:Nat):List Stm:=[t2 kd,t3 kd,t4,t5,t6 kd,t7,t8 kd,t9 kd,t10,t11 kd,t12]
noncomputable def Un(n:Nat)(c:Nat->Nat)(fs:EE):Prop:=∀ f∈fs,f.1<n/\f.2<n/\c f.1≠c f.2
theorem Un.app{n:Nat}{c:Nat->Nat}{fs gs:EE}(a:Un n c fs)(b:Un n c gs):Un n c (fs++gs):=λf hf=>(WH.mp hf).elim (a f) (b f)
section
variable{Δ:Nat->Sn}{kd:Nat}
theorem Fl(hΔ:∀ f,MonoN (Δ f))(hd:v8 (Δ kd)){t l n:Nat}{c:Nat->Nat}{S0 S:Sto}{fs:EE}{Q:QE}{o1 o3 o4 o5 o6 o8 o9:Option SV}(A:Ah t S0 S l fs)(hf:Un n c fs)(fl:fs.length<=990)
 (q:∀(es:EE) (S':Sto),(∀ e∈es,e.1<e.2/\e.2<n/\c e.1≠c e.2)->es.length<=90->TapeS S' t->On t S0 S'->Q (j3 n es) S'):
 wSs Δ [t10,t11 kd,t12] (AK Q) [some (.loc t),o1,some (.int n),o3,o4,o5,o6,some (.loc l),o8,o9,none,none] S:=by
 refine⟨by show 0<=big;decide,?_⟩;have A1:=A.push (o:=SO.lst []);have B1:Ah t S0 (S++[SO.lst []]) S.length []:=⟨A.tape.push,A.on.push,c6,A.on.len,A.t0⟩
 have nl:l≠S.length:=WZ (u7 A.at');generalize S.length=lk' at *;generalize S++[SO.lst []]=S1 at *;refine⟨_,rfl,_,rfl,_,A1.at',_,a8 c6,?_⟩
 have ec:CU (fs.map pairS) none (some 90)=((fs.drop (HT.sIx (fs.map pairS).length 0 none)).take (HT.sIx (fs.map pairS).length (fs.map pairS).length (some 90) - HT.sIx (fs.map pairS).length 0 none)).map pairS:=by
  unfold CU;rw[YF,Yw]
 have gm:∀ f∈(fs.drop (HT.sIx (fs.map pairS).length 0 none)).take (HT.sIx (fs.map pairS).length (fs.map pairS).length (some 90) - HT.sIx (fs.map pairS).length 0 none),f∈fs:=λf h=>YB (Xk h)
 have gl:((fs.drop (HT.sIx (fs.map pairS).length 0 none)).take (HT.sIx (fs.map pairS).length (fs.map pairS).length (some 90) - HT.sIx (fs.map pairS).length 0 none)).length<=90:=by
  have:=HT.sIx_nat (fs.map pairS).length (fs.map pairS).length 90;have e:HT.sIx (fs.map pairS).length (fs.map pairS).length (some 90)=min 90 (fs.map pairS).length:=this;rw[Wp,XD,e];omega
 rw[ec];generalize (fs.drop (HT.sIx (fs.map pairS).length 0 none)).take (HT.sIx (fs.map pairS).length (fs.map pairS).length (some 90) - HT.sIx (fs.map pairS).length 0 none)=gs at *;have hg:(S1++[SO.lst (gs.map pairS)])[S1.length]?=some (.lst (gs.map pairS)):=c6;have B2:=B1.push (o:=SO.lst (gs.map pairS));have ng:S1.length≠t:=by have:=A1.tape.lt;omega
 have ng2:S1.length≠lk':=by have:=u7 B1.at';omega
 generalize S1.length=lg at *;generalize S1++[SO.lst (gs.map pairS)]=S2 at *;refine v7 (i7 hΔ _) (λi ρ S3=>∃(es:EE) (o8 o11:Option SV),ρ=[some (.loc t),o1,some (.int n),o3,o4,o5,o6,some (.loc l),o8,o9,some (.loc lk'),o11]/\Ah t S0 S3 lk' es/\S3[lg]?=some (.lst (gs.map pairS))/\(∀ e∈es,e.1<e.2/\e.2<n/\c e.1≠c e.2)/\es.length=i) ⟨[],o8,none,rfl,B2,hg,(λ_ h=>nomatch h),rfl⟩ (λ_ _ S3 ⟨_,_,_,_,_,h,_⟩=>h.trans hg.symm) ?_ ?_
 ·rintro i x ρ S3 hx ⟨es,p8,p11,rfl,A3,h3,he,el⟩;obtain⟨f,hfi,rfl⟩:=C5 hx;have hil:=(gM hfi).1;obtain⟨u1,u2,u3⟩:=hf f (gm f (WC hfi));have une:f.1≠f.2:=λz=>u3 (by rw[z]);refine⟨_,rfl,⟨_,_,rfl,A3.at'⟩,_,rfl,_,rfl,_,a8 A3.at',hd A3.tape (by omega) (by rw[W8];omega) λr S4 r0 r1 T4 O4 _=>?_⟩;have A4:=A3.draw T4 O4;rw[W8]at r1;refine⟨_,rfl,_,rfl,_,rfl,_,rfl,by show 2<=big;decide,?_⟩;refine⟨_,A4.at',⟨r0,by rw[W8];omega⟩,by rw[W8];show _<100000;omega,?_⟩
  have key:∀ z1 z2:Int,z1=((min f.1 f.2:Nat):Int)->z2=((max f.1 f.2:Nat):Int)->∃(es':EE) (o8 o11:Option SV),([some (.loc t),o1,some (.int n),o3,o4,o5,o6,some (.loc l),some (.int f.1),o9,some (.loc lk'),some (.int f.2)]:EnvS)=[some (.loc t),o1,some (.int n),o3,o4,o5,o6,some (.loc l),o8,o9,some (.loc lk'),o11]/\Ah t S0 (S4.set lk' (.lst ((es.map pairS).take r.toNat ++ .tup [.int z1,.int z2]::(es.map pairS).drop r.toNat))) lk' es'/\(S4.set lk' (.lst ((es.map pairS).take r.toNat ++ .tup [.int z1,.int z2]::(es.map pairS).drop r.toNat)))[lg]?=some (.lst (gs.map pairS))/\(∀ e∈es',e.1<e.2/\e.2<n/\c e.1≠c e.2)/\es'.length=i+1:=by
   rintro _ _ rfl rfl;have ip:(es.map pairS).take r.toNat++SV.tup [.int ((min f.1 f.2:Nat):Int),.int ((max f.1 f.2:Nat):Int)]::(es.map pairS).drop r.toNat=(es.take r.toNat++(min f.1 f.2,max f.1 f.2)::es.drop r.toNat).map pairS:=Lk es r.toNat (min f.1 f.2,max f.1 f.2);rw[ip];refine⟨_,_,_,rfl,A4.put,by rw[j0 (Ne.symm ng2)];exact O4.keep _ _ ng h3,Qf he ⟨by show min f.1 f.2<max f.1 f.2;omega,by show max f.1 f.2<n;omega,?_⟩,by rw[Qg,el]⟩;show c (min f.1 f.2)≠c (max f.1 f.2);rcases Nat.le_total f.1 f.2 with z | z
   ·rw[Yk z,Nat.max_eq_right z];exact u3
   ·rw[Nat.min_eq_right z,Nat.max_eq_left z];exact Ne.symm u3
  exact key _ _ (QV _ _) (QW _ _)
 ·rintro ρ S3 ⟨es,p8,p11,rfl,A3,h3,he,el⟩;rw[W8]at el;exact⟨_,rfl,_,rfl,_,a8 A3.at',by show 2<=big;decide,q es S3 he (by omega) A3.tape A3.on⟩
theorem Fm(hΔ:∀ f,MonoN (Δ f))(hd:v8 (Δ kd)){t l n:Nat}{c:Nat->Nat}{S0 S:Sto}{fs:EE}{Q:QE}{o1 o3 o4 o5 o6 o8 o9:Option SV}(A:Ah t S0 S l fs)(hf:Un n c fs)(fl:fs.length<=980)
 (q:∀(es:EE) (S':Sto),(∀ e∈es,e.1<e.2/\e.2<n/\c e.1≠c e.2)->es.length<=90->TapeS S' t->On t S0 S'->Q (j3 n es) S'):
 wSs Δ [t9 kd,t10,t11 kd,t12] (AK Q) [some (.loc t),o1,some (.int n),o3,o4,o5,o6,some (.loc l),o8,o9,none,none] S:=by
 refine⟨_,rfl,by show 0<=big;decide,?_⟩;have A1:=A.push (o:=SO.lst []);refine⟨_,_,A1.at',c6,.inr (.inr rfl),_,rfl,?_⟩;rw[BY];refine ifB (λh1=>?_) (λh1=>ifF rfl (j4 (Fl hΔ hd A1 hf (by omega) q)))
 have hpos:0<fs.length:=by
  cases fs with
  | nil=>cases h1
  | cons _ _=>simp
 refine⟨_,rfl,hd A1.tape (by decide) (by decide) λr S2 r0 r1 T2 O2 _=>⟨_,rfl,?_⟩⟩;have A2:=A1.draw T2 O2;refine ifD (λ_=>?_) (λ_=>j4 (Fl hΔ hd A2 hf (by omega) q));refine⟨_,rfl,_,rfl,hd A2.tape (by decide) (by decide) λr3 S3 a0 a1 T3 O3 _=>⟨_,rfl,⟨by omega,by omega⟩,?_⟩⟩;have A3:=A2.draw T3 O3;refine m7 (j6 hΔ _).2 (a7 hΔ _).1 (λi ys S4=>Ah t S0 S4 l fs/\∃ gs:EE,ys=gs.map pairS/\(∀ e∈gs,e∈fs)/\gs.length=i) ⟨A3,[],rfl,(λ_ h=>nomatch h),rfl⟩ (λ_ _ _ _=>trivial) ?_ ?_
 ·rintro i x ys S4 hx ⟨A4,gs,rfl,hg,gl⟩;obtain⟨rfl,hi⟩:=n8 hx;refine⟨_,rfl,_,rfl,_,rfl,_,a8 A4.at',hd A4.tape (by rw[W8];omega) (by rw[W8];omega) λr5 S5 b0 b1 T5 O5 _=>?_⟩;have A5:=A4.draw T5 O5;rw[W8]at b1;have hr:r5.toNat<fs.length:=by omega
  refine⟨_,pairS fs[r5.toNat],a8 A5.at',?_,by rw[W8];show _<100000;omega,A5,gs++[fs[r5.toNat]],?_,λe h=>?_,by simp[gl]⟩
  ·have:=i5 (xs:=fs.map pairS) (j:=r5.toNat) (v:=pairS fs[r5.toNat]) (by rw[WQ,WB hr];rfl)
   rwa [XH b0]at this
  ·rw[Wd];rfl
  ·rcases WH.mp h with h | h
   ·exact hg e h
   ·rw[W9.mp h];exact Ww hr
 ·rintro ys S4 ⟨A4,gs,rfl,hg,gl⟩;rw[v0]at gl;have A5:=A4.push (o := .lst (gs.map pairS));refine⟨_,_,A5.at',c6,by simp;show _<=100000;omega,?_⟩;rw[<-Wd];refine Fl hΔ hd (fs:=fs++gs) ⟨A5.tape.push,A5.on.push,c6,A5.on.len,A.t0⟩ (hf.app λe he=>hf e (hg e he)) (by rw[W7];omega) q
structure Lr(n:Nat)(c:Nat->Nat)(ls rs:List Nat):Prop where
 l:∀ a∈ls,a<n/\c a=0
 r:∀ b∈rs,b<n/\c b=1
 ll:ls.length<=31
 rl:rs.length<=31
theorem VR(hΔ:∀ f,MonoN (Δ f)){t l l4 l5 n:Nat}{w:Int}{c:Nat->Nat}{ls rs:List Nat}{S0 S:Sto}{D:EndsS}{rest:List Stm}{o1 o2 o3 o8 o9:Option SV}(A:Ah t S0 S l [])(L:Lr n c ls rs)(h4:S0[l4]?=some (.lst (natS ls)))(h5:S0[l5]?=some (.lst (natS rs)))(n4:l4≠t)(n5:l5≠t)
 (q:∀(fs:EE) (o8:Option SV) (S':Sto),Ah t S0 S' l fs->Un n c fs->fs.length<=961->wSs Δ rest D [some (.loc t),o1,o2,o3,some (.loc l4),some (.loc l5),some (.int w),some (.loc l),o8,o9,none,none] S'):
 wSs Δ (t8a::rest) D [some (.loc t),o1,o2,o3,some (.loc l4),some (.loc l5),some (.int w),some (.loc l),o8,o9,none,none] S:=by
 refine⟨_,rfl,_,rfl,ifD (λh=>?_) (λh=>j4 (q [] _ S A (λ_ h=>nomatch h) (by simp)))⟩;have e4:=A.on.keep _ _ n4 h4;refine⟨_,rfl,_,a8 e4,?_⟩;refine v7 (i7 hΔ _) (λi ρ S'=>∃(fs:EE) (o8:Option SV),ρ=[some (.loc t),o1,o2,o3,some (.loc l4),some (.loc l5),some (.int w),some (.loc l),o8,o9,none,none]/\Ah t S0 S' l fs/\Un n c fs/\fs.length<=31 * i) ⟨[],o8,rfl,A,(λ_ h=>nomatch h),by simp⟩ (λ_ _ S' ⟨_,_,_,A',_⟩=>(A'.on.keep _ _ n4 h4).trans e4.symm) ?_ ?_
 ·rintro i x ρ S2 hx ⟨fs,p8,rfl,A2,hf,fl⟩;obtain⟨a,ha,rfl⟩:=Ae hx;have hil:=(gM ha).1;obtain⟨a1,a2⟩:=L.l a (WC ha);have ll:=L.ll;have rl:=L.rl;have e5:=A2.on.keep _ _ n5 h5;refine⟨_,rfl,⟨_,_,rfl,A2.at'⟩,_,rfl,_,a8 e5,?_⟩;refine m7 (j6 hΔ _).2 (a7 hΔ _).1 (λj ys S3=>S3=S2/\ys=((rs.take j).map λb=>(a,b)).map pairS) ⟨rfl,rfl⟩ (λ_ _ _ h=>by rw[h.1];exact rfl) ?_ ?_
  ·rintro j y ys S3 hy ⟨rfl,rfl⟩;obtain⟨b,hb,rfl⟩:=Ae hy;have hjl:=(gM hb).1;refine⟨_,rfl,_,rfl,by show 2<=big;decide,by rw[W8,W8,Wp];show _<100000;omega,rfl,?_⟩;rw[XE,hb,Wd,Wd];rfl
  ·rintro ys S3 ⟨rfl,rfl⟩;rw[c8,X9];have A3:=A2.push (o:=SO.lst ((rs.map λb=>(a,b)).map pairS));refine⟨_,_,A3.at',c6,by rw[W8,W8,W8];show _<=100000;omega,?_⟩;rw[<-Wd];refine⟨_,_,rfl,A3.put,hf.app λf hf'=>?_,by rw[W7,W8];omega⟩;obtain⟨b,hb,rfl⟩:=Wi.mp hf';obtain⟨b1,b2⟩:=L.r b hb;exact⟨a1,b1,by show c a≠c b;omega⟩
 ·rintro ρ S2 ⟨fs,p8,rfl,A2,hf,fl⟩;rw[c8]at fl;have ll:=L.ll;exact q fs _ S2 A2 hf (by omega)
theorem VT(hΔ:∀ f,MonoN (Δ f)){t l l4 l5 n:Nat}{w:Int}{c:Nat->Nat}{ls rs:List Nat}{S0 S:Sto}{D:EndsS}{rest:List Stm}{fs:EE}{o1 o2 o3 o8 o9:Option SV}(A:Ah t S0 S l fs)(hf:Un n c fs)(fl:fs.length<=961)(L:Lr n c ls rs)(h4:S0[l4]?=some (.lst (natS ls)))(h5:S0[l5]?=some (.lst (natS rs)))(n4:l4≠t)(n5:l5≠t)(hp:0<ls.length)
 (q:∀(l:Nat) (fs:EE) (S':Sto),Ah t S0 S' l fs->Un n c fs->fs.length<=961->wSs Δ rest D [some (.loc t),o1,o2,o3,some (.loc l4),some (.loc l5),some (.int w),some (.loc l),o8,o9,none,none] S'):
 wSs Δ (t8b::rest) D [some (.loc t),o1,o2,o3,some (.loc l4),some (.loc l5),some (.int w),some (.loc l),o8,o9,none,none] S:=by
 refine⟨_,rfl,_,rfl,ifD (λh=>?_) (λh=>j4 (q l fs S A hf fl))⟩;have e4:=A.on.keep _ _ n4 h4;have e5:=A.on.keep _ _ n5 h5;have rl:=L.rl;have g0:=WB hp;obtain⟨a1,a2⟩:=L.l _ (WC g0);generalize ls[0]=a at *;refine⟨_,rfl,_,a8 e5,?_⟩;refine m7 (j6 hΔ _).2 (a7 hΔ _).1 (λj ys S3=>S3=S/\ys=((rs.take j).map λb=>(a,b)).map pairS) ⟨rfl,rfl⟩ (λ_ _ _ h=>by rw[h.1];exact rfl) ?_ ?_
 ·rintro j y ys S3 hy ⟨rfl,rfl⟩;obtain⟨b,hb,rfl⟩:=Ae hy;have hjl:=(gM hb).1;refine⟨_,rfl,_,_,a8 e4,i5 (j:=0) (Ba g0),_,rfl,by show 2<=big;decide,by rw[W8,W8,Wp];show _<100000;omega,rfl,?_⟩;rw[XE,hb,Wd,Wd];rfl
 ·rintro ys S3 ⟨rfl,rfl⟩;rw[c8,X9];refine q _ (rs.map λb=>(a,b)) _ ⟨A.tape.push,A.on.push,c6,A.on.len,A.t0⟩ (λf hf'=>?_) (by rw[W8];omega);obtain⟨b,hb,rfl⟩:=Wi.mp hf';obtain⟨b1,b2⟩:=L.r b hb;exact⟨a1,b1,by show c a≠c b;omega⟩
theorem OL{xs:List Nat}{r:Int}(r0:0<=r)(h:r.toNat<xs.length):atI (natS xs) r=some (.int (xs[r.toNat]:Nat)):=by
 have:=i5 (xs:=natS xs) (j:=r.toNat) (v := .int (xs[r.toNat]:Nat)) (Ba (WB h))
 rwa [XH r0]at this
theorem Re(hΔ:∀ f,MonoN (Δ f))(hd:v8 (Δ kd)){t l l4 l5 n:Nat}{w:Int}{c:Nat->Nat}{ls rs:List Nat}{S0 S:Sto}{D:EndsS}{fs:EE}{o1 o3 o8 o9:Option SV}(A:Ah t S0 S l fs)(hf:Un n c fs)(fl:fs.length<=961)(he:1<w->fs=[])(L:Lr n c ls rs)(h4:S0[l4]?=some (.lst (natS ls)))(h5:S0[l5]?=some (.lst (natS rs)))(n4:l4≠t)(n5:l5≠t)(hp:0<ls.length)(hp2:0<rs.length)(hn:n<=31)
 (q:∀(o9:Option SV) (fs:EE) (S':Sto),Ah t S0 S' l fs->Un n c fs->fs.length<=961->D.nx [some (.loc t),o1,some (.int n),o3,some (.loc l4),some (.loc l5),some (.int w),some (.loc l),o8,o9,none,none] S'):
 wSs Δ [t8c kd] D [some (.loc t),o1,some (.int n),o3,some (.loc l4),some (.loc l5),some (.int w),some (.loc l),o8,o9,none,none] S:=by
 refine⟨_,rfl,_,rfl,ifD (λh=>?_) (λh=>j4 (q _ fs S A hf fl))⟩;have h:1<w:=h;obtain rfl:=he h;have n0:0<n:=by obtain⟨a1,_⟩:=L.l _ (Ww hp);omega
 refine⟨_,rfl,_,rfl,_,rfl,.inl ⟨by decide,by decide⟩,by show 2<=big;decide,_,rfl,show(0:Int)<2 by decide,?_⟩;have A1:=A.push (o:=SO.lst [SV.int ((n:Int)+2),SV.int (3 * (n:Int))])
 have hm:∃ m:Int,atI [SV.int ((n:Int)+2),SV.int (3 * (n:Int))] (w % 2)=some (.int m)/\0<m/\m<=93:=by
  have:w % 2=0\/w % 2=1:=by omega
  rcases this with z | z
  ·rw[z];exact⟨(n:Int)+2,rfl,by omega,by omega⟩
  ·rw[z];exact⟨3 * (n:Int),rfl,by omega,by omega⟩
 obtain⟨m,em,m0,m1⟩:=hm;refine⟨_,SV.int m,a8 c6,em,?_⟩;generalize S++[SO.lst [SV.int ((n:Int)+2),SV.int (3 * (n:Int))]]=S1 at *;refine hd A1.tape m0 (by omega) λr S2 r0 r1 T2 O2 _=>⟨_,rfl,⟨by omega,by omega⟩,?_⟩
 refine v7 (i7 hΔ _) (λi ρ S'=>∃(fs:EE) (o9:Option SV),ρ=[some (.loc t),o1,some (.int n),o3,some (.loc l4),some (.loc l5),some (.int w),some (.loc l),o8,o9,none,none]/\Ah t S0 S' l fs/\Un n c fs/\fs.length=i) ⟨[],o9,rfl,A1.draw T2 O2,(λ_ h=>nomatch h),rfl⟩ (λ_ _ _ _=>trivial) ?_ ?_
 ·rintro i x ρ S3 hx ⟨fs,p9,rfl,A3,hf3,fl3⟩;obtain⟨rfl,hi⟩:=n8 hx;have ll:=L.ll;have rl:=L.rl;have e4:=A3.on.keep _ _ n4 h4;refine⟨_,rfl,⟨_,_,rfl,A3.at'⟩,_,rfl,_,rfl,_,rfl,_,a8 e4,hd A3.tape (by rw[c8];omega) (by rw[c8];omega) λa S4 a0 a1 T4 O4 _=>?_⟩;have A4:=A3.draw T4 O4;rw[c8]at a1;have ha:a.toNat<ls.length:=by omega
  refine⟨_,SV.int (ls[a.toNat]:Nat),a8 (A4.on.keep _ _ n4 h4),OL a0 ha,_,rfl,_,rfl,_,rfl,_,a8 (A4.on.keep _ _ n5 h5),hd A4.tape (by rw[c8];omega) (by rw[c8];omega) λb S5 b0 b1 T5 O5 _=>?_⟩;have A5:=A4.draw T5 O5;rw[c8]at b1;have hb:b.toNat<rs.length:=by omega
  refine⟨_,SV.int (rs[b.toNat]:Nat),a8 (A5.on.keep _ _ n5 h5),OL b0 hb,by show 2<=big;decide,_,A5.at',by rw[W8];show _<100000;omega,?_⟩;obtain⟨u1,u2⟩:=L.l _ (Ww ha);obtain⟨v1,v2⟩:=L.r _ (Ww hb);have e1:fs.map pairS++[SV.tup [.int (ls[a.toNat]:Nat),.int (rs[b.toNat]:Nat)]]=(fs++[(ls[a.toNat],rs[b.toNat])]).map pairS:=by rw[Wd];rfl
  rw[e1];refine⟨_,_,rfl,A5.put,hf3.app λf hf'=>?_,by rw[W7,fl3];rfl⟩;rw[W9.mp hf'];exact⟨u1,v1,by show c ls[a.toNat]≠c rs[b.toNat];omega⟩
 ·rintro ρ S3 ⟨fs,p9,rfl,A3,hf3,fl3⟩;rw[v0]at fl3;exact q _ fs S3 A3 hf3 (by omega)
theorem Qh(hΔ:∀ f,MonoN (Δ f))(hd:v8 (Δ kd)){t l4 l5 n:Nat}{c:Nat->Nat}{ls rs:List Nat}{S0:Sto}{Q:QE}{o1 o3:Option SV}(T:TapeS S0 t)(L:Lr n c ls rs)(h4:S0[l4]?=some (.lst (natS ls)))(h5:S0[l5]?=some (.lst (natS rs)))(n4:l4≠t)(n5:l5≠t)(hn:n<=31)
 (q:∀(es:EE) (S':Sto),(∀ e∈es,e.1<e.2/\e.2<n/\c e.1≠c e.2)->es.length<=90->TapeS S' t->On t S0 S'->Q (j3 n es) S'):
 wSs Δ [t6 kd,t7,t8 kd,t9 kd,t10,t11 kd,t12] (AK Q) [some (.loc t),o1,some (.int n),o3,some (.loc l4),some (.loc l5),none,none,none,none,none,none] S0:=by
 refine⟨_,rfl,hd T (by decide) (by decide) λw S1 w0 w1 T1 O1 _=>?_⟩;refine⟨by show 0<=big;decide,?_⟩;have A1:Ah t S0 (S1++[SO.lst []]) S1.length []:=⟨T1.push,O1.push,c6,O1.len,T.lt⟩
 generalize S1.length=l at *;generalize S1++[SO.lst []]=S2 at *;have stay:∀ S,Ah t S0 S l []->wSs Δ [t9 kd,t10,t11 kd,t12] (AK Q) [some (.loc t),o1,some (.int n),o3,some (.loc l4),some (.loc l5),some (.int w),some (.loc l),none,none,none,none] S:=λS A=>Fm hΔ hd A (λ_ h=>nomatch h) (by simp) q;refine⟨_,rfl,by show 0<=big;decide,?_⟩;have A2:=A1.push (o:=SO.lst []);refine⟨_,_,A2.on.keep _ _ n4 h4,c6,.inr (.inr rfl),_,rfl,?_⟩;rw[BY];refine ifB (λh1=>?_) (λh1=>ifF rfl (j4 (stay _ A2)))
 have hp:0<ls.length:=by
  cases ls with
  | nil=>cases h1
  | cons _ _=>simp
 refine⟨_,rfl,by show 0<=big;decide,?_⟩;have A3:=A2.push (o:=SO.lst []);refine⟨_,_,A3.on.keep _ _ n5 h5,c6,.inr (.inr rfl),_,rfl,?_⟩;rw[BY];refine ifB (λh2=>?_) (λh2=>j4 (stay _ A3))
 have hp2:0<rs.length:=by
  cases rs with
  | nil=>cases h2
  | cons _ _=>simp
 by_cases hw:1<w
 ·
  refine⟨_,rfl,_,rfl,ifF (decide_eq_false (by omega)) (j4 ?_)⟩;refine⟨_,rfl,_,rfl,ifF (decide_eq_false (by omega)) (j4 ?_)⟩;exact Re hΔ hd A3 (λ_ h=>nomatch h) (by simp) (λ_=>rfl) L h4 h5 n4 n5 hp hp2 hn λo9 fs S' A' hf fl=>Fm hΔ hd A' hf (by omega) q
 ·refine VR (rest:=[t8b,t8c kd]) hΔ A3 L h4 h5 n4 n5 λfs o8 S' A' hf fl=>?_;refine VT (rest:=[t8c kd]) hΔ A' hf fl L h4 h5 n4 n5 hp λl' fs' S'' A'' hf' fl'=>?_;exact Re hΔ hd A'' hf' fl' (λz=>absurd z hw) L h4 h5 n4 n5 hp hp2 hn λo9 fs S' A' hf fl=>Fm hΔ hd A' hf (by omega) q
noncomputable def Bd(s:Sn):Prop:=∀{t:Nat} {g:Bool} {S:Sto} {Q:QE},TapeS S t->(∀(n:Nat) (es:EE) (S':Sto),Web2 n es->n<=31->es.length<=90->TapeS S' t->On t S S'->Q (j3 n es) S')->s [.loc t,.bl g] S Q
theorem Ll(f:Nat->Bool)(i:Nat):(WN (i+1)).filter f=(WN i).filter f++if f i=true then [i] else []:=by
 rw[Xo,Y2]
 congr 1
 rw[Xr];rfl
theorem EG(f:Nat->Bool)(i:Nat):((WN i).filter f).length<=i:=by
 have:=Xu f (WN i)
 rwa [Xh]at this
theorem F9(hΔ:∀ f,MonoN (Δ f)){l3 n:Nat}{v:Nat}{cs:List Nat}{S:Sto}{ρ:EnvS}{Q:List SV->Sto->Prop}(h3:S[l3]?=some (.lst (natS cs)))(hl:cs.length=n)(hn:n<=31)(hρ:ρ=[none,some (.loc l3)])
 (q:Q (natS ((WN n).filter λk=>decide (cs.getD k 0=v))) S):A7 (λ_=>True) (.nm 0) (wEo Δ (.yes (.cmp .Eq (.ix (.var 1) (.var 0)) (.c (.int v))))).2 (wEx Δ (.var 0)).1 ρ Q (Bf 0 (n:Int)) [] S:=by
 subst hρ;refine m7 (j6 hΔ _).2 (a7 hΔ _).1 (λi ys S2=>S2=S/\ys=natS ((WN i).filter λk=>decide (cs.getD k 0=v))) ⟨rfl,rfl⟩ (λ_ _ _ _=>trivial) ?_ ?_
 ·rintro i x ys S2 hx ⟨rfl,rfl⟩;obtain⟨rfl,hi⟩:=n8 hx;rw[Y3]at hi ⊢;have hil:i<cs.length:=by omega
  have hs:=Ll (λk=>decide (cs.getD k 0=v)) i;have hlen:=EG (λk=>decide (cs.getD k 0=v)) i;have hg:cs.getD i 0=cs[i]:=by rw[Wr,WB hil];rfl
  refine⟨_,rfl,_,rfl,_,SV.int (cs[i]:Nat),a8 h3,i5 (Ba (WB hil)),_,rfl,?_⟩;refine ifD (λh=>?_) (λh=>?_)
  ·have h:cs[i]=v:=by have:((cs[i]:Nat):Int)=(v:Int):=h;omega
   rw[iP (decide_eq_true (hg.trans h))]at hs;exact⟨_,rfl,by rw[c8];show _<100000;omega,rfl,by rw[hs,m9];rfl⟩
  ·have h:¬ cs[i]=v:=λz=>h (by show((cs[i]:Nat):Int)=(v:Int);omega);rw[iG (by simp only[hg];simpa using h),XZ]at hs;exact⟨rfl,by rw[hs]⟩
 ·rintro ys S2 ⟨rfl,rfl⟩;rw[v0,show((n:Int) - 0).toNat=n by omega];exact q
theorem OM(hΔ:∀ f,MonoN (Δ f))(hd:v8 (Δ kd)){t n:Nat}{S0 S:Sto}{Q:QE}{o1:Option SV}(T:TapeS S t)(O:On t S0 S)(hn:n<=31)
 (q:∀(es:EE) (S':Sto),Web2 n es->es.length<=90->TapeS S' t->On t S0 S'->Q (j3 n es) S'):
 wSs Δ [t3 kd,t4,t5,t6 kd,t7,t8 kd,t9 kd,t10,t11 kd,t12] (AK Q) [some (.loc t),o1,some (.int n),none,none,none,none,none,none,none,none,none] S:=by
 refine⟨_,rfl,_,rfl,⟨by omega,by omega⟩,?_⟩;refine m7 (j6 hΔ _).2 (a7 hΔ _).1 (λi ys S2=>TapeS S2 t/\On t S0 S2/\∃ cs:List Nat,ys=natS cs/\cs.length=i/\∀ v∈cs,v<2) ⟨T,O,[],rfl,rfl,(λ_ h=>nomatch h)⟩ (λ_ _ _ _=>trivial) ?_ ?_
 ·rintro i x ys S2 hx ⟨T2,O2,cs,rfl,cl,c2⟩;obtain⟨rfl,hi⟩:=n8 hx;refine⟨_,rfl,hd T2 (by decide) (by decide) λr S3 r0 r1 T3 O3 _=>⟨by rw[c8];show _<100000;omega,T3,O2.trans O3,cs++[r.toNat],?_,by rw[W7,cl];rfl,λv hv=>?_⟩⟩
  ·rw[m9];have:(r.toNat:Int)=r:=XH r0;show _=natS cs++[SV.int (r.toNat:Int)];rw[this]
  ·rcases WH.mp hv with hv | hv
   ·exact c2 v hv
   ·rw[W9.mp hv];omega
 ·rintro ys S2 ⟨T2,O2,cs,rfl,cl,c2⟩;rw[v0,show((n:Int) - 0).toNat=n by omega]at cl
  have c2':∀ p,cs.getD p 0<2:=λp=>by
   rw[Wr];cases hp:cs[p]? with
   | none=>show 0<2;omega
   | some v=>exact c2 v (WC hp)
  have T3:=T2.push (o:=SO.lst (natS cs));have O3:=O2.push (o:=SO.lst (natS cs));have h3:(S2++[SO.lst (natS cs)])[S2.length]?=some (.lst (natS cs)):=c6;have n3:S2.length≠t:=by have:=T2.lt;omega
  generalize S2.length=l3 at *;generalize S2++[SO.lst (natS cs)]=S3 at *;refine⟨_,rfl,_,rfl,⟨by omega,by omega⟩,?_⟩;refine F9 (v:=0) hΔ h3 cl hn rfl ?_;have T4:=T3.push (o:=SO.lst (natS ((WN n).filter λk=>decide (cs.getD k 0=0))));have O4:=O3.push (o:=SO.lst (natS ((WN n).filter λk=>decide (cs.getD k 0=0))));have h4:(S3++[SO.lst (natS ((WN n).filter λk=>decide (cs.getD k 0=0)))])[S3.length]?=some (.lst (natS ((WN n).filter λk=>decide (cs.getD k 0=0)))):=c6;have h34:=e6 (o:=SO.lst (natS ((WN n).filter λk=>decide (cs.getD k 0=0)))) h3;have n4:S3.length≠t:=by have:=T3.lt;omega
  generalize S3.length=l4 at *;generalize S3++[SO.lst (natS ((WN n).filter λk=>decide (cs.getD k 0=0)))]=S4 at *;refine⟨_,rfl,_,rfl,⟨by omega,by omega⟩,?_⟩;refine F9 (v:=1) hΔ h34 cl hn rfl ?_;have T5:=T4.push (o:=SO.lst (natS ((WN n).filter λk=>decide (cs.getD k 0=1))));have O5:=O4.push (o:=SO.lst (natS ((WN n).filter λk=>decide (cs.getD k 0=1))));have h5:(S4++[SO.lst (natS ((WN n).filter λk=>decide (cs.getD k 0=1)))])[S4.length]?=some (.lst (natS ((WN n).filter λk=>decide (cs.getD k 0=1)))):=c6;have h45:=e6 (o:=SO.lst (natS ((WN n).filter λk=>decide (cs.getD k 0=1)))) h4;have n5:S4.length≠t:=by have:=T4.lt;omega
  generalize S4.length=l5 at *;generalize S4++[SO.lst (natS ((WN n).filter λk=>decide (cs.getD k 0=1)))]=S5 at *
  have L:Lr n (λk=>cs.getD k 0) ((WN n).filter λk=>decide (cs.getD k 0=0)) ((WN n).filter λk=>decide (cs.getD k 0=1)):=by
   refine⟨λa ha=>?_,λb hb=>?_,Ws (EG _ _) hn,Ws (EG _ _) hn⟩
   ·have:=XX.mp ha;exact⟨Wt.mp this.1,of_decide_eq_true this.2⟩
   ·have:=XX.mp hb;exact⟨Wt.mp this.1,of_decide_eq_true this.2⟩
  exact Qh hΔ hd T5 L h45 h5 n4 n5 hn λes S' he hl T' O'=>q es S' ⟨λe h=>⟨(he e h).1,(he e h).2.1⟩,by omega,by omega,⟨λk=>cs.getD k 0,c2',λe h=>(he e h).2.2⟩⟩ hl T' (O5.trans O')
theorem J9(hΔ:∀ f,MonoN (Δ f))(hd:v8 (Δ kd)){D:Df}(hb:D.body=Hh kd)(hN:D.N.length=12)(hp:D.ps.length=2):Bd (i9 Δ D):=by
 intro t g S Q T q;unfold i9;rw[hb,hN];refine⟨hp.symm,?_⟩;refine⟨_,rfl,hd T (by decide) (by decide) λr1 S2 a0 a1 T2 O2 _=>⟨_,rfl,hd T2 (by decide) (by decide) λr2 S3 b0 b1 T3 O3 _=>⟨by show 2<=big;decide,_,rfl,_,(if g=true then .int (8+r2) else .int r1),a8 c6,?_⟩⟩⟩;have O:=(O2.trans O3).push (o := .lst [.int r1,.int (8+r2)])
 have key:∀(z:Int) (n:Nat),z=n->n<=31->wSs Δ [t3 kd,t4,t5,t6 kd,t7,t8 kd,t9 kd,t10,t11 kd,t12] (AK Q) [some (.loc t),some (.bl g),some (.int z),none,none,none,none,none,none,none,none,none] (S3++[SO.lst [.int r1,.int (8+r2)]]):=by
  rintro _ n rfl hn;exact OM hΔ hd T3.push O hn λes S' W hl T' O'=>q n es S' W hn hl T' O'
 cases g with
 | false=>exact⟨rfl,key r1 r1.toNat (by omega) (by omega)⟩
 | true=>exact⟨rfl,key (8+r2) (8+r2).toNat (by omega) (by omega)⟩
noncomputable def FA(k:Nat):List Stm:=[(.asg (.nm 2) (.call k (.cons (.var 0) (.cons (.var 1) .nil)))),(.loop (.nm 3) (.rng1 (.c (.int 3))) [(.iff (.eqt0 (.ix (.var 2) (.c (.int 1))) (.tup .nil)) [(.asg (.nm 2) (.call k (.cons (.var 0) (.cons (.var 1) .nil))))] [])]),(.ret (.var 2))]
theorem Hi(hΔ:∀ f,MonoN (Δ f)){k:Nat}(h1:Bd (Δ k)){D:Df}(hb:D.body=FA k)(hN:D.N.length=4)(hp:D.ps.length=2):Bd (i9 Δ D):=by
 intro t g S Q T q;unfold i9;rw[hb,hN];refine⟨hp.symm,_,rfl,_,rfl,h1 T λn es S1 W hn hl T1 O1=>?_⟩;refine⟨_,rfl,⟨by decide,by decide⟩,?_⟩;refine v7 (i7 hΔ _) (λi ρ S'=>∃(n:Nat) (es:EE) (o3:Option SV),ρ=[some (.loc t),some (.bl g),some (j3 n es),o3]/\Web2 n es/\n<=31/\es.length<=90/\TapeS S' t/\On t S S') ⟨n,es,none,rfl,W,hn,hl,T1,O1⟩ (λ_ _ _ _=>trivial) ?_ ?_
 ·rintro i x ρ S2 hx ⟨n,es,o3,rfl,W,hn,hl,T2,O2⟩;refine⟨_,rfl,_,_,rfl,rfl,by show 0<=big;decide,_,rfl,rfl,_,rfl,ifB (λh=>?_) (λh=>j4 ⟨n,es,_,rfl,W,hn,hl,T2,O2⟩)⟩;exact⟨_,rfl,_,rfl,h1 T2 λn' es' S3 W' hn' hl' T3 O3=>⟨n',es',_,rfl,W',hn',hl',T3,O2.trans O3⟩⟩
 ·rintro ρ S2 ⟨n,es,o3,rfl,W,hn,hl,T2,O2⟩;exact⟨_,rfl,q n es S2 W hn hl T2 O2⟩
end
theorem KK{ns:List Int}(nd:ns.Nodup):AD ns=ns:=by
 have go:∀ k,k<=ns.length->AD (ns.take k)=ns.take k:=by
  intro k
  induction k with
  | zero=>intro _;rfl
  | succ k ih=>
    intro hk;have hkl:k<ns.length:=by omega
    rw[XE,WB hkl];show AD (ns.take k++[ns[k]])=ns.take k++[ns[k]];rw[D9,ih (by omega)];unfold PyProof.Rows.step_dedup;rw[iG];rw[XR];rintro⟨x,hx,hb⟩;have hb:x=ns[k]:=by simpa using hb
    obtain⟨j,hj⟩:=Wq hx
    have hjl:j<k:=by
     have:=(gM hj).1;rw[Wp]at this;omega
    rw[XU hjl]at hj;have:=(X7.mp nd) j k (by omega) hkl hjl;rw[(gM hj).2]at this;exact this hb
 have:=go ns.length (WJ _)
 rwa [X9]at this
theorem Rg{xs:List Nat}(nd:xs.Nodup):(iN xs).Nodup:=by
 unfold iN;exact Xl.mpr (nd.imp λ{a b} h z=>h (X5.mp z))
theorem Tu{xs:List Nat}(h:xs.Pairwise (·<·)):srt (AD (iN xs))=iN xs:=by
 have nd:=Rg (KH h);rw[KK nd];refine(IN (List.Perm.refl _) ?_).symm;unfold iN;exact Xl.mpr (h.imp λ{a b} h=>by show(a:Int)<=b;omega)
theorem EH(xs:List Nat):EU (natS xs)=some (iN xs):=KG xs
section
variable{Δ:Nat->Sn}
noncomputable def w4(es:EE)(ts:List Nat):List Nat:=ts.flatMap λt=>[(f6 es t).1,(f6 es t).2]
theorem EI(es:EE):∀ ts:List Nat,(w4 es ts).length=2 * ts.length
 | []=>rfl
 | t::ts=>by
   show([(f6 es t).1,(f6 es t).2]++w4 es ts).length=_;rw[W7,EI es ts,X8];simp;omega
theorem Qi{es:EE}{ts:List Nat}(nd:ts.Nodup)(hl:∀ t∈ts,t<es.length)(ha:Apart es ts)(hu:∀ e∈es,e.1<e.2):(w4 es ts).Nodup:=by
 induction ts with
 | nil=>exact Y9
 | cons t ts ih=>
   rw[Xi]at nd;show([(f6 es t).1,(f6 es t).2]++w4 es ts).Nodup;have he:=hu _ (WC (AH (hl t (WW ..))));rw[XJ];refine⟨by simp;omega,ih nd.2 (λt' h=>hl t' (WL _ h)) λa ha' b hb'=>ha a (WL _ ha') b (WL _ hb'),λa hma b hmb z=>?_⟩;subst z;obtain⟨t',ht',hm⟩:=ZH.mp hmb;have e1:a=(f6 es t).1\/a=(f6 es t).2:=by simpa using hma
   have e2:a=(f6 es t').1\/a=(f6 es t').2:=by simpa using hm
   have:=ha t (WW ..) t' (WL _ ht') a e1 e2;exact nd.1 (this▸ht')
structure Rt(n:Nat)(es:EE)(T C:List Nat):Prop where
 tu:T.Pairwise (·<·)
 tl:∀ t∈T,t<es.length
 cu:C.Pairwise (·<·)
 cl:∀ c∈C,c<n
 ln:T.length=C.length
 ap:Apart es T
 cv:Covers es C
 up:∀ e∈es,e.1<e.2
 few:n<=60
 el:es.length<=1000
end
structure Sl(n:Nat)(es:EE)(c:Nat->Nat)(sd:List (Option Nat))(f:Nat->Nat)(op:Nat->Nat->Prop):Prop where
 ls:sd.length=n
 val:∀ p v,sd[p]?=some (some v)->v=(c p+f p) % 2
 cl:∀(t:Nat) (e:Nat×Nat) (p:Nat),es[t]?=some e->(p=e.1\/p=e.2)->IsSet sd p->¬ op p t->IsSet sd (farE e p)/\f (farE e p)=f p
section
variable{n:Nat}{es:EE}{c f:Nat->Nat}{sd:List (Option Nat)}{op op':Nat->Nat->Prop}
theorem Sl.more(G:Sl n es c sd f op)(h:∀ q i,op q i->∀ e,es[i]?=some e->(q=e.1\/q=e.2)->op' q i):Sl n es c sd f op':=⟨G.ls,G.val,λt e p he hp hs ho=>G.cl t e p he hp hs λz=>ho (h p t z e he hp)⟩
theorem Sl.close(G:Sl n es c sd f op){t p:Nat}{e:Nat×Nat}(he:es[t]?=some e)(hf:IsSet sd (farE e p))(hfe:f (farE e p)=f p)(ho:∀ q i,op q i->op' q i\/(q=p/\i=t)):Sl n es c sd f op':=⟨G.ls,G.val,λt' e' p' he' hp' hs' ho'=>by
 by_cases z:op p' t'
 ·rcases ho p' t' z with y | ⟨y,x⟩
  ·exact absurd y ho'
  ·subst y;subst x;rw[he]at he';cases he';exact⟨hf,hfe⟩
 ·exact G.cl t' e' p' he' hp' hs' z⟩
theorem Sl.give(G:Sl n es c sd f op)(H:Sdd n es c){t p v:Nat}{e:Nat×Nat}(he:es[t]?=some e)(hp:p=e.1\/p=e.2)(hv:sd[p]?=some (some v))(hn:sd[farE e p]?=some none)(ho:∀ q i,op q i->op' q i\/(q=p/\i=t))(hw:∀ i,op' (farE e p) i):Sl n es c (sd.set (farE e p) (some (1 - v))) (upd f (farE e p) (f p)) op':=by
 have hl:=(gM hn).1;have ns:∀ q,IsSet sd q->q≠farE e p:=λq ⟨u,hu⟩ z=>by rw[z,hn]at hu;cases hu
 refine⟨by rw[Wc];exact G.ls,λq u hu=>?_,λt' e' q he' hq hs ho'=>?_⟩
 ·by_cases z:q=farE e p
  ·subst z;rw[Wk hl]at hu;cases hu;rw[C6,G.val p v hv];have h1:=(H.far he hp).2.1;have h2:=H.two p;omega
  ·rw[Wx (Ne.symm z)]at hu;rw[upd_ne z];exact G.val q u hu
 ·have hqf:q≠farE e p:=λz=>by rw[z]at ho';exact ho' (hw t')
  have hsq:IsSet sd q:=by obtain⟨u,hu⟩:=hs;rw[Wx (Ne.symm hqf)]at hu;exact⟨u,hu⟩
  rw[upd_ne hqf];by_cases z:op q t'
  ·rcases ho q t' z with y | ⟨y,x⟩
   ·exact absurd y ho'
   ·subst y;subst x;rw[he]at he';cases he';rw[C6];exact⟨⟨_,Wk hl⟩,rfl⟩
  ·obtain⟨a,b⟩:=G.cl t' e' q he' hq hsq z;rw[upd_ne (ns _ a)];exact⟨AY hl a,b⟩
theorem Sl.begin(G:Sl n es c sd f λ_ _=>False){s:Nat}(hn:sd[s]?=some none)(h2:c s<2)(hw:∀ i,op' s i):Sl n es c (sd.set s (some 0)) (upd f s (c s)) op':=by
 have hl:=(gM hn).1;have ns:∀ q,IsSet sd q->q≠s:=λq ⟨u,hu⟩ z=>by rw[z,hn]at hu;cases hu
 refine⟨by rw[Wc];exact G.ls,λq u hu=>?_,λt' e' q he' hq hs ho'=>?_⟩
 ·by_cases z:q=s
  ·subst z;rw[Wk hl]at hu;cases hu;rw[C6];omega
  ·rw[Wx (Ne.symm z)]at hu;rw[upd_ne z];exact G.val q u hu
 ·have hqf:q≠s:=λz=>by rw[z]at ho';exact ho' (hw t')
  have hsq:IsSet sd q:=by obtain⟨u,hu⟩:=hs;rw[Wx (Ne.symm hqf)]at hu;exact⟨u,hu⟩
  obtain⟨a,b⟩:=G.cl t' e' q he' hq hsq id;rw[upd_ne hqf,upd_ne (ns _ a)];exact⟨AY hl a,b⟩
end
section
variable{Δ:Nat->Sn}{kt kf:Nat}
noncomputable def GI2(n:Nat)(es:EE)(c:Nat->Nat)(f0 a b w p m:Nat)(S0:Sto)(sd0:List (Option Nat))(l:Nat)(o:SO)(ts:List Nat)(S:Sto):Prop:=
 S[l]?=some o/\∃ sd bk f wt,Sl n es c sd f (λq i=>q∈wt\/(q=p/\i∈ts))/\Gm a b w S0 S sd bk wt/\bk.length=n/\(∀ q∈wt,IsSet sd q/\f q=f0)/\IsSet sd p/\f p=f0/\2 * (n - sd.countP Xq)+wt.length<=m/\wt.length<=sd.countP Xq/\∀ q,IsSet sd0 q->IsSet sd q
theorem JA(hf:AT (Δ kf)){n f0 s a b w p m j l:Nat}{o:SO}(la:l≠a)(lb:l≠b)(lw:l≠w){es:EE}{c:Nat->Nat}{e:Nat×Nat}{S0 S:Sto}{sd0:List (Option Nat)}{ts:List Nat}{D:EndsS}{o7:Option SV}(H:Sdd n es c)(hn:n<=1000)(he:es[j]?=some e)(hpe:p=e.1\/p=e.2)
 (I:GI2 n es c f0 a b w p m S0 sd0 l o (j::ts) S) (q:∀(o7:Option SV) (S':Sto),GI2 n es c f0 a b w p m S0 sd0 l o ts S'->D.nx [some (j3 n es),some (.int s),some (.loc a),some (.loc b),some (.loc w),some (.int p),some (.int j),o7] S'):
 wSs Δ (zin kf) D [some (j3 n es),some (.int s),some (.loc a),some (.loc b),some (.loc w),some (.int p),some (.int j),o7] S:=by
 obtain⟨hlo,sd,bk,f,wt,G,M,hbl,hwt,hp,hr,hc,hw,h0⟩:=I;obtain⟨hfl,hcf,hff,hfe,hpn⟩:=H.far he hpe;have hcn:=Yn (p:=Xq) (l:=sd);rw[G.ls]at hcn
 have ho:∀(wt':List Nat),(∀ x∈wt,x∈wt')->∀ q i,(q∈wt\/(q=p/\i∈j::ts))->(q∈wt'\/(q=p/\i∈ts))\/(q=p/\i=j):=by
  rintro wt' hs q i (h | ⟨h,h2⟩)
  ·exact .inl (.inl (hs _ h))
  ·rcases WV.mp h2 with h2 | h2
   ·exact .inr ⟨h,h2⟩
   ·exact .inl (.inr ⟨h,h2⟩)
 refine⟨_,rfl,_,rfl,_,rfl,hf he hpe ?_⟩;have hsl:farE e p<sd.length:=by rw[G.ls];exact hfl
 cases hx:sd[farE e p]'hsl with
 | some v=>
   have h:sd[farE e p]?=some (some v):=by rw[WB hsl,hx]
   refine⟨_,rfl,_,rfl,_,_,a8 M.ha,i5 (m5 h),.inl ⟨rfl,_,rfl,ifF rfl ?_⟩⟩;refine q _ _ ⟨hlo,sd,bk,f,wt,G.close he ⟨v,h⟩ ?_ (ho wt λ_ h=>h),M,hbl,hwt,hp,hr,hc,hw,h0⟩;by_cases z:farE e p∈wt
   ·rw[(hwt _ z).2,hr]
   ·have hne:farE e p≠p:=λy=>by rw[y]at hcf;have:=H.two p;omega
    have:=(G.cl j e (farE e p) he hfe ⟨v,h⟩ (λy=>y.elim z λy=>hne y.1)).2;rw[hff]at this;exact this.symm
 | none=>
   have h:sd[farE e p]?=some none:=by rw[WB hsl,hx]
   obtain⟨v,hv⟩:=hp;have hv2:v<2:=by rw[G.val p v hv];omega
   refine⟨_,rfl,_,rfl,_,_,a8 M.ha,i5 (m5 h),.inl ⟨rfl,_,rfl,ifT rfl ?_⟩⟩;refine⟨_,rfl,_,rfl,_,_,a8 M.ha,i5 (m5 hv),_,rfl,_,rfl,_,_,M.ha,DC (by rw[AZ];exact hsl),?_⟩
   have e2:(optsS sd).set (farE e p) ((λ(i j:Int)=>SV.int (i - j)) 1 v)=optsS (sd.set (farE e p) (some (1 - v))):=by
    show(optsS sd).set _ (.int ((1:Int) - (v:Int)))=_;rw[show(1:Int) - (v:Int)=((1 - v:Nat):Int) by omega,DD]
   rw[e2];have M1:=M.seta (sd':=sd.set (farE e p) (some (1 - v)));refine⟨_,rfl,_,rfl,_,rfl,_,_,M1.hb,DC (by rw[AZ,hbl];exact hfl),?_⟩;rw[DD];have M2:=M1.setb (bk':=bk.set (farE e p) (some j));refine⟨_,rfl,⟨_,_,rfl,M2.hw⟩,_,rfl,_,M2.hw,by rw[c8];show _<100000;omega,?_⟩;have M3:=M2.setw (wt':=wt++[farE e p]);rw[m9]at M3;have hns:∀ q,IsSet sd q->q≠farE e p:=λq ⟨v,hv⟩ z=>by rw[z,h]at hv;cases hv
   have hlt:sd.countP Xq<n:=by
    have h1:=Yn (p:=Xq) (l:=sd.set (farE e p) (some 0));rw[CK h,Wc,G.ls]at h1;exact h1
   refine q _ _ ⟨by rw[j0 (Ne.symm lw),j0 (Ne.symm lb),j0 (Ne.symm la)];exact hlo,_,_,_,wt++[farE e p],G.give H he hpe hv h (ho _ λ_ h=>Wa _ h) (λ_ => .inl (by simp)),M3,by rw[Wc];exact hbl,λy hy=>?_,AY hsl ⟨v,hv⟩,?_,?_,?_,λy hy=>AY hsl (h0 y hy)⟩
   ·rcases WH.mp hy with hy | hy
    ·rw[upd_ne (hns _ (hwt y hy).1)];exact⟨AY hsl (hwt y hy).1,(hwt y hy).2⟩
    ·rw[W9.mp hy,C6];exact⟨⟨_,Wk hsl⟩,hr⟩
   ·rw[upd_ne (hns _ ⟨v,hv⟩)];exact hr
   ·rw[CK h,W7];simp;omega
   ·rw[CK h,W7];simp;omega
noncomputable def Fn(s:Sn):Prop:=∀{n st a b:Nat} {es:EE} {c f:Nat->Nat} {sd bk:List (Option Nat)} {S:Sto} {Q:QE},Sdd n es c->es.length<=5000->n<=1000->Sl n es c sd f (λ_ _=>False)->bk.length=n->sd[st]?=some none->a≠b->S[a]?=some (.lst (optsS sd))->S[b]?=some (.lst (optsS bk))->
 (∀(sd' bk':List (Option Nat)) (f':Nat->Nat) (S':Sto),Sl n es c sd' f' (λ_ _=>False)->bk'.length=n->(∀ q,IsSet sd q->IsSet sd' q)->IsSet sd' st->S'[a]?=some (.lst (optsS sd'))->S'[b]?=some (.lst (optsS bk'))->S.length<=S'.length->(∀(k:Nat) (o:SO),k≠a->k≠b->S[k]?=some o->S'[k]?=some o)->Q .non S')->s [j3 n es,.int st,.loc a,.loc b] S Q
theorem ON(hΔ:∀ f,MonoN (Δ f))(ht:BZ (Δ kt))(hf:AT (Δ kf)){D:Df}(hb':D.body=Ra kt kf)(hN:D.N.length=8)(hps:D.ps.length=4):Fn (i9 Δ D):=by
 intro n st a b es c f sd bk S Q H hel hn G0 hbl hst ab hSa hSb q;have hsl:st<sd.length:=(gM hst).1;unfold i9;rw[hb',hN];refine⟨hps.symm,_,rfl,_,rfl,_,_,hSa,DC (by rw[AZ];exact hsl),?_⟩;have e0:(optsS sd).set st (.int 0)=optsS (sd.set st (some 0)):=DD (v:=0);rw[e0];refine⟨_,rfl,by show 1<=big;decide,?_⟩;generalize hw0:(S.set a (.lst (optsS (sd.set st (some 0))))).length=w;have hw1:S.length=w:=by rw[<-hw0,Wc]
 have M0:Gm a b w S (S.set a (.lst (optsS (sd.set st (some 0))))++[.lst (natS [st])]) (sd.set st (some 0)) bk [st]:=
  ⟨e6 (u8 hSa),e6 (by rw[j0 ab];exact hSb),by rw[<-hw0];exact c6,by simp,λk o h1 h2 h=>e6 (by rw[j0 (Ne.symm h1)];exact h),ab,u7 hSa,u7 hSb,by omega⟩
 refine⟨λm ρ S'=>∃ sd' bk' f' wt o5 o6 o7,ρ=[some (j3 n es),some (.int st),some (.loc a),some (.loc b),some (.loc w),o5,o6,o7]/\Sl n es c sd' f' (λq _=>q∈wt)/\Gm a b w S S' sd' bk' wt/\bk'.length=n/\(∀ q∈wt,IsSet sd' q/\f' q=c st)/\2 * (n - sd'.countP Xq)+wt.length<=m/\wt.length<=sd'.countP Xq/\∀ q,IsSet (sd.set st (some 0)) q->IsSet sd' q,
  ⟨_,_,_,_,[st],none,none,none,rfl,G0.begin hst (H.two st) (λ_=>by simp),M0,hbl,λq hq=>?_,WJ _,by rw[CK hst];simp,λ_ h=>h⟩,?_⟩
 ·rw[W9.mp hq,C6];exact⟨⟨_,Wk hsl⟩,rfl⟩
 rintro m ρ S1 ⟨sd1,bk1,f1,wt,o5,o6,o7,rfl,G,M,hbl1,hwt,hm,hwc,hk⟩;refine⟨_,rfl,_,Jz M.hw,?_⟩;rcases DO wt with rfl | ⟨wt',p,rfl⟩
 ·refine ifF rfl ?_;exact q sd1 bk1 f1 S1 (G.more λ_ _ h=>by simp at h) hbl1 (λy hy=>hk y (AY hsl hy)) (hk st ⟨_,Wk hsl⟩) M.ha M.hb M.len M.keep
 refine ifT (by rw[m9];simp[natS]) (Da λEw hw _=>?_);refine⟨_,rfl,⟨_,_,rfl,M.hw⟩,_,_,M.hw,F6,?_⟩;rw[HQ];have M1:=M.setw (wt':=wt');obtain⟨⟨v,hv⟩,hpr⟩:=hwt p (by simp);have hpn:p<n:=by rw[<-G.ls];exact(gM hv).1
 rw[W7]at hm hwc;simp only[X8,Xa]at hm hwc;refine⟨_,rfl,_,rfl,ht hel hpn ⟨_,a8 c6,?_⟩⟩;have M2:=M1.push (o:=SO.lst (natS (l9 es p es.length)));have hnew:=c6 (S:=S1.set w (.lst (natS wt'))) (o:=SO.lst (natS (l9 es p es.length)));have l1:=u7 M1.ha;have l2:=u7 M1.hb;have l3:=u7 M1.hw;generalize (S1.set w (.lst (natS wt'))).length=l at *;generalize (S1.set w (.lst (natS wt')))++[SO.lst (natS (l9 es p es.length))]=S3 at *
 refine Ad (i7 hΔ _) (λi ρ S2=>∃ o6 o7,ρ=[some (j3 n es),some (.int st),some (.loc a),some (.loc b),some (.loc w),some (.int p),o6,o7]/\GI2 n es c (c st) a b w p (m - 1) S (sd.set st (some 0)) l (.lst (natS (l9 es p es.length))) ((l9 es p es.length).drop i) S2)
  ⟨o6,o7,rfl,hnew,sd1,bk1,f1,wt',G.more (λy i h e he hye=>?_),M2,hbl1,λy hy=>hwt y (by simp[hy]),⟨v,hv⟩,hpr,by omega,by omega,hk⟩ ?_ ?_ ?_
 ·rcases WH.mp h with h | h
  ·exact .inl h
  ·have:=W9.mp h;exact .inr ⟨this,mem_tiesAt.mpr ⟨e,he,by rw[<-this];exact hye.imp Eq.symm Eq.symm⟩⟩
 ·rintro i ρ S2 ⟨_,_,_,h,_⟩;show S2[l]?=_;rw[h,hnew]
 ·rintro i x ρ S2 E hE _ hx ⟨o6,o7,rfl,I⟩;have hi:i<(l9 es p es.length).length:=by have:=(gM hx).1;rwa [c8]at this
  have hx2:=Ba (WB hi);rw[hx2]at hx;have hx:=oj hx;subst hx;obtain⟨e,he,hpe⟩:=mem_tiesAt.mp (Ww hi);rw[Wz hi]at I;exact JA hf (by omega) (by omega) (by omega) H hn he (hpe.imp Eq.symm Eq.symm) I λo7 S' I'=>hE _ _ ⟨_,_,rfl,I'⟩
 ·rintro ρ S2 ⟨o6,o7,rfl,_,sd2,bk2,f2,wt2,G2,N2,b2,h1,h2,h3,h4,h5,h6⟩;rw[c8,Xd]at G2;exact hw _ _ ⟨m - 1,by omega,sd2,bk2,f2,wt2,_,_,_,rfl,G2.more (λ_ _ h _ _ _=>h.elim id λh=>by simp at h),N2,b2,h1,h4,h5,h6⟩
end
theorem JB{keep:Sto->Prop}{g g2:Tg}{t t2:WT}{i2:WI}{e:WE}{ρ:EnvS}{Q:List SV->Sto->Prop}(mt:MonoT t)(mi2:MonoI i2)(mt2:MonoT t2)(me:Mono e)(I:Nat->List SV->Sto->Prop){xs:List SV}{S:Sto}(h0:I 0 [] S)(hk:∀ i ys S,I i ys S->keep S)
 (hs:∀ i x ys S,xs[i]?=some x->I i ys S->wTg g x ρ λρ2=>t ρ2 S λb S1=>if b=true then i2 ρ2 S1 λkeep2 xs2 S2=>v6 keep2 g2 t2 e (I (i+1)) xs2 ρ2 ys S2 else I (i+1) ys S1) (hd:∀ ys S,I xs.length ys S->Q ys S):v5 keep g t g2 i2 t2 e ρ Q xs [] S:=by
 have go:∀(zs:List SV) (i:Nat) (ys:List SV) (S:Sto),xs.drop i=zs->i<=xs.length->I i ys S->v5 keep g t g2 i2 t2 e ρ Q zs ys S:=by
  intro zs
  induction zs with
  | nil=>
    intro i ys S e' hi h
    have:i=xs.length:=by
     have:=congrArg Y0 e';rw[XD,Xa]at this;omega
    subst this;unfold v5;exact⟨hk _ _ _ h,hd _ _ h⟩
  | cons y zs ih=>
    intro i ys S e' hi h;have hy:xs[i]?=some y:=by rw[<-Y5,e'];rfl
    have hlt:=(gM hy).1;have e2:xs.drop (i+1)=zs:=by rw[<-YA,e'];rfl
    unfold v5;refine⟨hk _ _ _ h,l8 g (λρ2 q=>mt _ _ _ _ (λb S1 q=>i6 (λq=>mi2 _ _ _ _ (λk2 x2 S2 q=>BJ mt2 me (λys' S3 q=>ih (i+1) ys' S3 e2 hlt q) _ _ _ _ q) q) (λq=>ih (i+1) _ S1 e2 hlt q) q) q) (hs i y ys S hy h)⟩
 exact go xs 0 [] S rfl (XA _) h0
theorem JC{keep:Sto->Prop}{g:Tg}{t:WT}{e:WE}{Q:List SV->Sto->Prop}(mt:MonoT t)(me:Mono e)(I:Nat->EnvS->List SV->Sto->Prop){xs:List SV}{ρ:EnvS}{ys:List SV}{S:Sto}(h0:I 0 ρ ys S)(hk:∀ i ρ ys S,I i ρ ys S->keep S)
 (hs:∀ i x ρ ys S,xs[i]?=some x->I i ρ ys S->wTg g x ρ λρ2=>t ρ2 S λb S1=>if b=true then e ρ2 S1 λy S2=>ys.length<big/\I (i+1) ρ2 (ys++[y]) S2 else I (i+1) ρ2 ys S1) (hd:∀ ρ ys S,I xs.length ρ ys S->Q ys S):v6 keep g t e Q xs ρ ys S:=by
 have go:∀(zs:List SV) (i:Nat) (ρ:EnvS) (ys:List SV) (S:Sto),xs.drop i=zs->i<=xs.length->I i ρ ys S->v6 keep g t e Q zs ρ ys S:=by
  intro zs
  induction zs with
  | nil=>
    intro i ρ ys S e' hi h
    have:i=xs.length:=by
     have:=congrArg Y0 e';rw[XD,Xa]at this;omega
    subst this;unfold v6;exact⟨hk _ _ _ _ h,hd _ _ _ h⟩
  | cons y zs ih=>
    intro i ρ ys S e' hi h;have hy:xs[i]?=some y:=by rw[<-Y5,e'];rfl
    have hlt:=(gM hy).1;have e2:xs.drop (i+1)=zs:=by rw[<-YA,e'];rfl
    unfold v6;refine⟨hk _ _ _ _ h,l8 g (λρ2 q=>mt _ _ _ _ (λb S1 q=>i6 (λq=>me _ _ _ _ (λv S2 q=>⟨q.1,ih (i+1) _ _ S2 e2 hlt q.2⟩) q) (λq=>ih (i+1) _ _ S1 e2 hlt q) q) q) (hs i y ρ ys S hy h)⟩
 exact go xs 0 ρ ys S rfl (XA _) h0
inductive Gd(V:Nat->List SV->Prop):Nat->Nat->SV->Prop where
 | non {k b:Nat}:Gd V k b .non
 | bl {k b:Nat} (c:Bool):Gd V k b (.bl c)
 | int {k b:Nat} {i:Int} (h:-1000000<=i/\i<=1000000):Gd V k b (.int i)
 | str {k b:Nat} {x:Str} (h:Sz 0 10 (.str x)) (hb:10<=b):Gd V k b (.str x)
 | tup {k b c:Nat} {xs:List SV} (h:∀ y∈xs,Gd V k b y) (hl:xs.length<=63) (hc:xs.length * (b+1)<=c):Gd V (k+1) c (.tup xs)
 | lst {k b c l:Nat} {xs:List SV} (hv:V l xs) (h:∀ y∈xs,Gd V k b y) (hl:xs.length<=63) (hc:xs.length * (b+1)<=c):Gd V (k+1) c (.loc l)
theorem Gd.see{V V':Nat->List SV->Prop}(i:∀ l xs,V l xs->V' l xs){k b:Nat}{x:SV}(h:Gd V k b x):Gd V' k b x:=by
 induction h with
 | non=>exact .non
 | bl c=>exact .bl c
 | int h=>exact .int h
 | str h hb=>exact .str h hb
 | tup _ hl hc ih=>exact .tup ih hl hc
 | lst hv _ hl hc ih=>exact .lst (i _ _ hv) ih hl hc
def VS(S:Sto)(l:Nat)(xs:List SV):Prop:=S[l]?=some (.lst xs)
theorem EJ{f:SV->Option PyData}{k b:Nat}:∀{xs:List SV},(∀ y∈xs,∃ d,f y=some d/\Sz k b d)->∃ ds,xs.mapM f=some ds/\SzA k b xs.length ds
 | [],_=>⟨[],rfl,.nil⟩
 | x::xs,h=>by
   obtain⟨d,hd,hz⟩:=h x (WW ..);obtain⟨ds,hs,hzs⟩:=EJ (xs:=xs) λy hy=>h y (WL _ hy);exact⟨d::ds,by rw[YV,hd,hs];rfl,.cons hz hzs⟩
theorem Vz{k b:Nat}{i:Int}(h:-1000000<=i/\i<=1000000):Sz k b (.int i):=by
 obtain⟨d,hd,z⟩:=DN.int (k:=k) (b:=b) (H:=λ_=>none) (i:=i) (Ld h.1 h.2);unfold Dat at hd;cases d with
 | int j=>cases hd;exact z
 | list _=>obtain⟨_,_,h,_⟩:=hd;cases h
 | tuple _=>obtain⟨_,_,h,_⟩:=hd;cases h
 | dict _=>exact hd.elim
 | _=>cases hd
theorem Gd.dat{S:Sto}{k b:Nat}{x:SV}(h:Gd (VS S) k b x):∀ m,k<=m->∃ d,Aj m S x=some d/\Sz k b d:=by
 induction h with
 | non=>exact λm _=>⟨.none,by cases m<;>rfl,by simp[PyData.depth],by simp[PyData.bulk],by simp[PyData.showable],by simp[PyData.leavesShort]⟩
 | bl c=>exact λm _=>⟨.bool c,by cases m<;>rfl,by simp[PyData.depth],by simp[PyData.bulk],by simp[PyData.showable],by simp[PyData.leavesShort]⟩
 | int h=>exact λm _=>⟨.int _,by cases m<;>rfl,Vz h⟩
 | str h hb=>exact λm _=>⟨.str _,by cases m<;>rfl,h.mono (XA _) hb⟩
 | tup _ _ hc ih=>
   intro m hm;obtain⟨m,rfl⟩:∃ j,m=j+1:=⟨m - 1,by omega⟩
   obtain⟨ds,hs,hz⟩:=EJ λy hy=>ih y hy m (by omega);exact⟨.tuple ds,by show(Yf (Aj m S) _).map _=_;rw[hs];rfl,hz.tuple.mono (WJ _) hc⟩
 | lst hv _ _ hc ih=>
   intro m hm;obtain⟨m,rfl⟩:∃ j,m=j+1:=⟨m - 1,by omega⟩
   obtain⟨ds,hs,hz⟩:=EJ λy hy=>ih y hy m (by omega);have hv:S[_]?=some (SO.lst _):=hv;refine⟨.list ds,?_,hz.list.mono (WJ _) hc⟩;show(match S[_]? with | some (SO.lst xs)=>(xs.mapM (Aj m S)).map PyData.list | _=>none)=_;rw[hv];show(Yf (Aj m S) _).map _=_;rw[hs];rfl
def isI:SV->Bool
 | .int _=>true
 | _=>false
section
variable{Δ:Nat->Sn}
noncomputable def Tv(s:Sn):Prop:=∀{x:SV} {S:Sto} {k b:Nat} {Q:QE},Gd (VS S) k b x->Q (.bl (isI x)) S->s [x] S Q
theorem Qj{D:Df}(hb:D.body=J0)(hN:D.N.length=1)(hp:D.ps.length=1):Tv (i9 Δ D):=by
 intro x S k b Q h q;unfold i9;rw[hb,hN];cases h with
 | non=>exact⟨hp.symm,_,rfl,_,nofun,rfl,_,rfl,ifF rfl q⟩
 | bl c=>exact⟨hp.symm,_,rfl,_,nofun,rfl,_,rfl,ifT rfl ⟨_,rfl,_,nofun,rfl,_,rfl,q⟩⟩
 | int h=>exact⟨hp.symm,_,rfl,_,nofun,rfl,_,rfl,ifT rfl ⟨_,rfl,_,nofun,rfl,_,rfl,q⟩⟩
 | str h hb'=>exact⟨hp.symm,_,rfl,_,nofun,rfl,_,rfl,ifF rfl q⟩
 | tup h hl hc=>exact⟨hp.symm,_,rfl,_,nofun,rfl,_,rfl,ifF rfl q⟩
 | lst hv h hl hc=>exact⟨hp.symm,_,rfl,_,nofun,DA hv,_,rfl,ifF rfl q⟩
theorem CM(f:Nat->Bool):∀ n:Nat,blS ((WN n).map λi => .bl (f i))=some ((WN n).map f):=by
 have go:∀ l:List Nat,blS (l.map λi => .bl (f i))=some (l.map f):=λl=>by
  induction l with
  | nil=>rfl
  | cons a l ih=>rw[Wo,Wo];simp[blS,ih]
 exact λn=>go _
theorem all_mapF{f:Nat->Bool}{n:Nat}:((WN n).map f).all id=true↔∀ i,i<n->f i=true:=by
 rw[Wg];constructor
 ·exact λh i hi=>h _ (Wi.mpr ⟨i,Wt.mpr hi,rfl⟩)
 ·rintro h x hx;obtain⟨i,hi,rfl⟩:=Wi.mp hx;exact h i (Wt.mp hi)
theorem OO{f:Nat->Bool}{n:Nat}:((WN n).map f).any id=true↔∃ i,i<n/\f i=true:=by
 rw[XR];constructor
 ·rintro⟨x,hx,z⟩;obtain⟨i,hi,rfl⟩:=Wi.mp hx;exact⟨i,Wt.mp hi,z⟩
 ·rintro⟨i,hi,z⟩;exact⟨_,Wi.mpr ⟨i,Wt.mpr hi,rfl⟩,z⟩
theorem C9(hΔ:∀ f,MonoN (Δ f)){e:Ex}{keep:Sto->Prop}{g:Tg}{ρ:EnvS}{Q:List SV->Sto->Prop}(f:Nat->Bool){xs:List SV}{S:Sto}(hl:xs.length<=1000)(hk:∀ S',Gw S S'->keep S')
 (hs:∀(i:Nat) (x:SV) (S':Sto),xs[i]?=some x->Gw S S'->wTg g x ρ λρ2=>(wEx Δ e).1 ρ2 S' λy S2=>y = .bl (f i)/\Gw S S2)
 (q:∀ S',Gw S S'->Q ((WN xs.length).map λi => .bl (f i)) S'):A7 keep g (wEo Δ .no).2 (wEx Δ e).1 ρ Q xs [] S:=by
 refine m7 (j6 hΔ _).2 (a7 hΔ _).1 (λi ys S'=>Gw S S'/\ys=(WN i).map λi => .bl (f i)) ⟨Gw.refl S,rfl⟩ (λ_ _ _ h=>hk _ h.1) ?_ ?_
 ·rintro i x ys S' hx ⟨G,rfl⟩;have hi:=(gM hx).1;refine l8 g (λρ2 h=>?_) (hs i x S' hx G);refine(a7 hΔ e).1 _ _ _ _ (λy S2 h=>⟨by rw[W8,Xh];show _<100000;omega,h.2,?_⟩) h;rw[h.1,Xo,Wd];rfl
 ·rintro ys S' ⟨G,rfl⟩;exact q S' G
theorem Gd.grow{S S':Sto}{k b:Nat}{x:SV}(h:Gd (VS S) k b x)(G:Gw S S'):Gd (VS S') k b x:=h.see λl xs e=>G.keep l _ e
noncomputable def VU:List Stm:=[(.ret (.bi .isi (.cons (.var 0) (.cons (.tup (.cons (.tyc .list) (.cons (.tyc .tuple) .nil))) .nil))))]
noncomputable def isL:SV->Bool
 | .tup _=>true
 | .loc _=>true
 | _=>false
noncomputable def Tw(s:Sn):Prop:=∀{x:SV} {S:Sto} {k b:Nat} {Q:QE},Gd (VS S) k b x->Q (.bl (isL x)) S->s [x] S Q
theorem Qk{D:Df}(hb:D.body=VU)(hN:D.N.length=1)(hp:D.ps.length=1):Tw (i9 Δ D):=by
 intro x S k b Q h q;unfold i9;rw[hb,hN];have b2:2<=big:=by decide
 cases h with
 | non=>exact⟨hp.symm,_,rfl,b2,_,[.list,.tuple],by decide,rfl,rfl,q⟩
 | bl c=>exact⟨hp.symm,_,rfl,b2,_,[.list,.tuple],by decide,rfl,rfl,q⟩
 | int h=>exact⟨hp.symm,_,rfl,b2,_,[.list,.tuple],by decide,rfl,rfl,q⟩
 | str h hb'=>exact⟨hp.symm,_,rfl,b2,_,[.list,.tuple],by decide,rfl,rfl,q⟩
 | tup h hl hc=>exact⟨hp.symm,_,rfl,b2,_,[.list,.tuple],by decide,rfl,rfl,q⟩
 | lst hv h hl hc=>exact⟨hp.symm,_,rfl,b2,_,[.list,.tuple],by decide,DA hv,rfl,q⟩
noncomputable def bPr:List Stm:=[(.ret (.and (.bi .isi (.cons (.var 0) (.cons (.tyc .tuple) .nil))) (.cmp .Eq (.bi .len (.cons (.var 0) .nil)) (.c (.int 2)))))]
def isP:SV->Bool
 | .tup [_,_]=>true
 | _=>false
noncomputable def PrG(s:Sn):Prop:=∀{x:SV} {S:Sto} {k b:Nat} {Q:QE},Gd (VS S) k b x->Q (.bl (isP x)) S->s [x] S Q
theorem KL{xs:List SV}:decide ((xs.length:Int)=2)=isP (.tup xs):=by
 match xs with
 | []=>rfl
 | [_]=>rfl
 | [_,_]=>rfl
 | _::_::_::xs=>exact decide_eq_false (by simp only[X8];omega)
theorem Tx{D:Df}(hb:D.body=bPr)(hN:D.N.length=1)(hp:D.ps.length=1):PrG (i9 Δ D):=by
 intro x S k b Q h q;unfold i9;rw[hb,hN];cases h with
 | non=>exact⟨hp.symm,_,rfl,_,nofun,rfl,_,rfl,ifF rfl q⟩
 | bl c=>exact⟨hp.symm,_,rfl,_,nofun,rfl,_,rfl,ifF rfl q⟩
 | int h=>exact⟨hp.symm,_,rfl,_,nofun,rfl,_,rfl,ifF rfl q⟩
 | str h hb'=>exact⟨hp.symm,_,rfl,_,nofun,rfl,_,rfl,ifF rfl q⟩
 | @tup k b c xs h hl hc=>
   refine⟨hp.symm,_,rfl,_,nofun,rfl,_,rfl,ifT rfl ⟨_,rfl,_,rfl,?_⟩⟩;have:∀ b,b=isP (.tup xs)->Q (.bl b) S:=by rintro _ rfl;exact q
   exact this _ KL
 | lst hv h hl hc=>exact⟨hp.symm,_,rfl,_,nofun,DA hv,_,rfl,ifF rfl q⟩
end
structure SeqV(S:Sto)(x:SV)(xs:List SV):Prop where
 seq:∀ S',Gw S S'->seqS x S'=some xs
 keep:∀ S1 S',Gw S S1->Gw S S'->keepS x S1 S'
 len:xs.length<=63
 gd:∃ k b,∀ y∈xs,Gd (VS S) k b y
 ls:isL x=true
theorem Gd.split{S:Sto}{k b:Nat}{x:SV}(h:Gd (VS S) k b x):(isL x=false/\∀ xs,seqS x S≠some xs)\/∃ xs,SeqV S x xs:=by
 cases h with
 | non=>exact .inl ⟨rfl,nofun⟩
 | bl c=>exact .inl ⟨rfl,nofun⟩
 | int h=>exact .inl ⟨rfl,nofun⟩
 | str h hb'=>exact .inl ⟨rfl,nofun⟩
 | tup h hl hc=>exact .inr ⟨_,λ_ _=>rfl,λ_ _ _ _=>trivial,hl,⟨_,_,h⟩,rfl⟩
 | lst hv h hl hc=>exact .inr ⟨_,λS' G=>a8 (G.keep _ _ hv),λS1 S' G1 G=>by
    show S'[_]?=S1[_]?;rw[G.keep _ _ hv,G1.keep _ _ hv],hl,⟨_,_,h⟩,rfl⟩
def toI:SV->Int
 | .int i=>i
 | _=>0
theorem KM:∀{xs:List SV},(∀ i,i<xs.length->isI (xs.getD i .non)=true)->xs=(xs.map toI).map SV.int
 | [],_=>rfl
 | x::xs,h=>by
   have h0:=h 0 (Zb _);have e:=KM (xs:=xs) λi hi=>h (i+1) (YL hi);rw[Wo,Wo,<-e];cases x with
   | int i=>rfl
   | _=>cases h0
theorem OP(is:List Int)(i:Nat)(h:i<(is.map SV.int).length):isI ((is.map SV.int).getD i .non)=true:=by
 rw[Wr,WB h,YJ,YD];rfl
theorem w5:∀{a b:List Int},a.map SV.int=b.map SV.int->a=b
 | [],[],_=>rfl
 | x::xs,y::ys,h=>by
   rw[Wo,Wo]at h;have h1:=(Yt.inj h).1;cases h1;rw[w5 (Yt.inj h).2]
 | [],_::_,h=>by cases h
 | _::_,[],h=>by cases h
theorem Dd:∀(is:List Int),(∀ i,i+1<is.length->is.getD i 0<is.getD (i+1) 0)↔is.Pairwise (·<·)
 | []=>⟨λ_ => .nil,λ_ i h=>absurd h (Y4 _)⟩
 | [x]=>⟨λ_=>List.pairwise_singleton ..,λ_ i h=>absurd h (by simp)⟩
 | x::y::l=>by
   rw[Xs,<-Dd (y::l)];constructor
   ·intro h;have t:∀ i,i+1<(y::l).length->(y::l).getD i 0<(y::l).getD (i+1) 0:=λi hi=>h (i+1) (YL hi);refine⟨λz hz=>?_,t⟩;have h0:x<y:=h 0 (by simp);rcases WV.mp hz with rfl | hz
    ·exact h0
    ·exact Int.lt_trans h0 ((Xs.mp ((Dd (y::l)).mp t)).1 z hz)
   ·rintro⟨h1,h2⟩ i hi;cases i with
    | zero=>exact h1 y (WW ..)
    | succ i=>exact h2 i (Nat.lt_of_succ_lt_succ hi)
section
variable{Δ:Nat->Sn}
noncomputable def rg1(kl kn:Nat):Stm:=(.iff (.or (.not (.call kl (.cons (.var 0) .nil))) (.not (.bi .all (.cons (.comp ["item"] [] [] (.nm 0) (.seq (.var 0)) .no (.call kn (.cons (.var 0) .nil))) .nil)))) [(.ret (.c (.bl false)))] [])
noncomputable def rg2:Stm:=(.ret (.bi .all (.cons (.comp ["at"] ["thing"] [0] (.nm 0) (.rng1 (.op .Sub (.bi .len (.cons (.var 0) .nil)) (.c (.int 1)))) .no (.cmp .Lt (.ix (.var 1) (.var 0)) (.ix (.var 1) (.op .Add (.var 0) (.c (.int 1)))))) .nil)))
noncomputable def OQ(kl kn:Nat):List Stm:=[rg1 kl kn,rg2]
noncomputable def Ty(s:Sn):Prop:=∀{x:SV} {S:Sto} {k b:Nat} {Q:QE},Gd (VS S) k b x->(∀(r:Bool) (S':Sto),Gw S S'->(r=true↔∃ is:List Int,seqS x S=some (is.map SV.int)/\is.Pairwise (·<·))->Q (.bl r) S')->s [x] S Q
theorem Ql(hΔ:∀ f,MonoN (Δ f)){kl kn:Nat}(hl:Tw (Δ kl))(hn:Tv (Δ kn)){D:Df}(hb:D.body=OQ kl kn)(hN:D.N.length=1)(hp:D.ps.length=1):Ty (i9 Δ D):=by
 intro x S k b Q h q;unfold i9;rw[hb,hN];refine⟨hp.symm,_,rfl,hl h ?_⟩;rcases h.split with⟨e,no⟩ | ⟨xs,V⟩
 ·rw[e];exact⟨_,rfl,ifT rfl (q false S (Gw.refl S) ⟨nofun,λ⟨is,z,_⟩=>absurd z (no _)⟩)⟩
 rw[V.ls];have s0:=V.seq S (Gw.refl S);have hxl:=V.len;obtain⟨k',b',hg⟩:=V.gd;refine⟨_,rfl,ifF rfl ⟨_,rfl,_,s0,?_⟩⟩;refine C9 hΔ (λi=>isI (xs.getD i .non)) (by omega) (λS' G=>V.keep S S' (Gw.refl S) G) ?_ ?_
 ·intro i y S' hy G;refine⟨_,rfl,hn ((hg y (WC hy)).grow G) ⟨?_,G⟩⟩;rw[Wr,hy];rfl
 intro S1 G1;have G2:=G1.push (o:=SO.lst ((WN xs.length).map λi => .bl (isI (xs.getD i .non))));refine⟨_,_,nofun,a8 c6,CM _ _,_,rfl,?_⟩;generalize S1++[SO.lst ((WN xs.length).map λi => .bl (isI (xs.getD i .non)))]=S2 at *;by_cases hA:((WN xs.length).map λi=>isI (xs.getD i .non)).all id=true
 ·rw[hA];refine ifF rfl (j4 ?_);have ex:=KM (all_mapF.mp hA);generalize xs.map toI=is at *;subst ex;rw[W8]at hxl;have s2:=V.seq S2 G2;refine⟨_,rfl,_,s2,_,rfl,⟨by rw[W8];omega,by rw[W8];omega⟩,?_⟩;have hr:(Bf 0 (((is.map SV.int).length:Int) - 1)).length=is.length - 1:=by rw[v0,W8];omega
  refine C9 hΔ (λi=>decide (is.getD i 0<is.getD (i+1) 0)) (by rw[hr];omega) (λ_ _=>trivial) ?_ ?_
  ·intro i y S' hy G;have hi:i<is.length - 1:=by have:=(gM hy).1;rwa [hr]at this
   obtain⟨rfl,_⟩:=n8 hy;rw[Y3];have e1:∀ j,j<is.length->atI (is.map SV.int) (j:Int)=some (.int (is.getD j 0)):=λj hj=>i5 (by rw[WQ,Wr,WB hj];rfl);have s3:=V.seq S' (G2.trans G);refine⟨_,rfl,_,rfl,_,_,s3,e1 i (by omega),_,rfl,_,rfl,_,_,s3,e1 (i+1) (by omega),rfl,G⟩
  ·intro S3 G3;refine⟨_,_,nofun,a8 c6,CM _ _,?_⟩;refine q _ _ (G2.trans G3).push ?_;rw[all_mapF,hr];constructor
   ·exact λz=>⟨is,s0,(Dd is).mp λi hi=>of_decide_eq_true (z i (by omega))⟩
   ·rintro⟨js,z,u⟩ i hi;rw[s0]at z;rw[w5 (oj z)];exact decide_eq_true ((Dd js).mpr u i (by rw[<-w5 (oj z)];omega))
 ·have hA:((WN xs.length).map λi=>isI (xs.getD i .non)).all id=false:=by simpa using hA
  rw[hA];refine ifT rfl (q false S2 G2 ⟨nofun,λ⟨is,z,_⟩=>?_⟩);rw[s0]at z;have z:=oj z;subst z;rw[all_mapF.mpr (OP is)]at hA;cases hA
noncomputable def InG(s:Sn)(m:Nat->EE->Nat):Prop:=∀{n:Nat} {es:EE} {i:Int} {S:Sto} {Q:QE},Q (.bl (decide (0<=i)&&decide (i<(m n es:Nat)))) S->s [j3 n es,.int i] S Q
theorem Lm{kn:Nat}(hn:∀{i:Int} {S:Sto} {Q:QE},Q (.bl true) S->Δ kn [.int i] S Q){D:Df}(hb:D.body=DB kn)(hN:D.N.length=2)(hp:D.ps.length=2):InG (i9 Δ D) λn _=>n:=by
 intro n es i S Q q;unfold i9;rw[hb,hN];refine⟨hp.symm,_,rfl,hn ⟨_,rfl,ifT rfl ⟨_,rfl,_,rfl,?_⟩⟩⟩;cases z:decide ((0:Int)<=i) with
 | true=>
   rw[z]at q;exact ifT rfl ⟨_,rfl,_,_,rfl,rfl,q⟩
 | false=>
   rw[z]at q;exact ifF rfl q
theorem Qm{kn:Nat}(hn:∀{i:Int} {S:Sto} {Q:QE},Q (.bl true) S->Δ kn [.int i] S Q){D:Df}(hb:D.body=Fa kn)(hN:D.N.length=2)(hp:D.ps.length=2):InG (i9 Δ D) λ_ es=>es.length:=by
 intro n es i S Q q;unfold i9;rw[hb,hN];refine⟨hp.symm,_,rfl,hn ⟨_,rfl,ifT rfl ⟨_,rfl,_,rfl,?_⟩⟩⟩;cases z:decide ((0:Int)<=i) with
 | true=>
   rw[z]at q;refine ifT rfl ⟨_,rfl,_,_,rfl,rfl,_,rfl,?_⟩;rw[W8];exact q
 | false=>
   rw[z]at q;exact ifF rfl q
end
noncomputable def Hj(n:Nat)(es:EE)(S:Sto)(x:SV):Prop:=∃ a b A B,x = .tup [a,b]/\seqS a S=some (natS A)/\seqS b S=some (natS B)/\A.Pairwise (·<·)/\B.Pairwise (·<·)/\A.length=B.length/\(∀ t∈A,t<es.length)/\(∀ p∈B,p<n)/\Apart es A/\Covers es B
theorem Gd.seqEq{S S':Sto}{k b:Nat}{x:SV}(h:Gd (VS S) k b x)(G:Gw S S'):seqS x S'=seqS x S:=by
 cases h with
 | lst hv h hl hc=>rw[a8 hv,a8 (G.keep _ _ hv)]
 | _=>rfl
theorem Gd.parts{S:Sto}{k b:Nat}{x y:SV}(h:Gd (VS S) k b (.tup [x,y])):∃ k' b',Gd (VS S) k' b' x/\Gd (VS S) k' b' y:=by
 cases h with
 | tup h hl hc=>exact⟨_,_,h x (WW ..),h y (WL _ (WW ..))⟩
theorem OR{x:SV}(h:isP x=true):∃ a b,x = .tup [a,b]:=by
 match x,h with
 | .tup [a,b],_=>exact⟨a,b,rfl⟩
theorem A0(A:List Nat):natS A=(iN A).map SV.int:=(Cy A).symm
theorem iN_up{A:List Nat}:(iN A).Pairwise (·<·)↔A.Pairwise (·<·):=by
 unfold iN;rw[Xl];exact⟨λh=>h.imp λ{a b} h=>by have h:(a:Int)<b:=h;omega,λh=>h.imp λ{a b} h=>by show(a:Int)<b;omega⟩
theorem Fo:∀{is:List Int} {m:Nat},(∀ i,i<is.length->(decide (0<=is.getD i 0)&&decide (is.getD i 0<(m:Nat)))=true)->∃ A:List Nat,is=iN A/\∀ t∈A,t<m
 | [],_,_=>⟨[],rfl,λ_ h=>nomatch h⟩
 | x::is,m,h=>by
   obtain⟨A,rfl,hA⟩:=Fo (is:=is) (m:=m) λi hi=>h (i+1) (YL hi);have h0:=h 0 (Zb _);have h0:(decide ((0:Int)<=x)&&decide (x<(m:Nat)))=true:=h0;rw[W6,dQ,dQ]at h0;obtain⟨t,rfl⟩:=Xm h0.1;refine⟨t::A,rfl,λu hu=>?_⟩;rcases WV.mp hu with rfl | hu
   ·have:=h0.2;omega
   ·exact hA u hu
theorem KN{A:List Nat}{m:Nat}(h:∀ t∈A,t<m):∀ i,i<(iN A).length->(decide (0<=(iN A).getD i 0)&&decide ((iN A).getD i 0<(m:Nat)))=true:=by
 intro i hi;unfold iN at hi ⊢;rw[W8]at hi;rw[Wr,WQ,WB hi];have:=h _ (Ww hi);show(decide ((0:Int)<=(A[i]:Nat))&&decide (((A[i]:Nat):Int)<(m:Nat)))=true;rw[decide_eq_true (by omega),decide_eq_true (by omega)];rfl
theorem Hk{es:EE}:∀{A:List Nat},(w4 es A).Nodup->Apart es A
 | [],_=>λ_ h=>nomatch h
 | a::A,nd=>by
   have e:w4 es (a::A)=[(f6 es a).1,(f6 es a).2]++w4 es A:=by unfold w4;rw[List.flatMap_cons]
   rw[e]at nd;obtain⟨_,n2,dj⟩:=XJ.mp nd;have ih:=Hk n2;have mem:∀{t p},t∈A->(p=(f6 es t).1\/p=(f6 es t).2)->p∈w4 es A:=λ{t p} ht hp=>ZH.mpr ⟨t,ht,by rcases hp with rfl | rfl<;>simp⟩;have mem0:∀{p},(p=(f6 es a).1\/p=(f6 es a).2)->p∈[(f6 es a).1,(f6 es a).2]:=λ{p} hp=>by rcases hp with rfl | rfl<;>simp
   intro t ht t' ht' p hp hp';rcases WV.mp ht with h1 | h1<;>rcases WV.mp ht' with h2 | h2
   ·rw[h1,h2]
   ·rw[h1]at hp;exact absurd rfl (dj p (mem0 hp) p (mem h2 hp'))
   ·rw[h2]at hp';exact absurd rfl (dj p (mem0 hp') p (mem h1 hp))
   ·exact ih t h1 t' h2 p hp hp'
theorem Hl{α:Type}[DecidableEq α]:∀ ns:List α,ns.Nodup\/∃ ms:List α,ms.length<ns.length/\∀ x∈ns,x∈ms
 | [] => .inl Y9
 | a::ns=>by
   by_cases z:a∈ns
   ·exact .inr ⟨ns,YK _,λx hx=>(WV.mp hx).elim (λe=>e▸z) id⟩
   ·rcases Hl ns with h | ⟨ms,h1,h2⟩
    ·exact .inl (Xi.mpr ⟨z,h⟩)
    ·exact .inr ⟨a::ms,YL h1,λx hx=>(WV.mp hx).elim (λe=>e▸WW ..) λh=>WL _ (h2 x h)⟩
theorem EK(ns:List Int):(AD ns).Nodup:=by
 have go:∀(l:List Int) (n:Nat),(AD (l.take n)).Nodup:=λl n=>by
  induction n with
  | zero=>exact Y9
  | succ n ih=>
    rw[XE];cases h:l[n]? with
    | none=>rw[Z0,XZ];exact ih
    | some i=>
      rw[Option.toList_some,D9];unfold PyProof.Rows.step_dedup;split
      ·exact ih
      ·rename_i z;refine XJ.mpr ⟨ih,by simp,λa ha b hb y=>?_⟩;rw[W9.mp hb]at y;subst y;exact z (by simpa using ha)
 have:=go ns ns.length
 rwa [X9]at this
theorem OS{ns:List Int}:(AD ns).length=ns.length↔ns.Nodup:=by
 constructor
 ·intro h;rcases Hl ns with z | ⟨ms,h1,h2⟩
  ·exact z
  ·have:=List.Nodup.length_le_of_subset (EK ns) (l₂:=ms) λa ha=>h2 a ((Du ns a).mp ha);omega
 ·intro h;rw[KK h]
theorem OT{A:List Nat}:(iN A).Nodup↔A.Nodup:=by
 constructor
 ·intro h;unfold iN at h;exact(Xl.mp h).imp λ{a b} h z=>h (by rw[z])
 ·exact Rg
section
variable{Δ:Nat->Sn}
noncomputable def sp1(kp:Nat):Stm:=(.iff (.not (.call kp (.cons (.var 1) .nil))) [(.ret (.c (.bl false)))] [])
noncomputable def sp2:Stm:=(.asg (.tup (.cons (.nm 2) (.cons (.nm 3) .nil))) (.var 1))
noncomputable def sp3(kr:Nat):Stm:=(.iff (.or (.not (.call kr (.cons (.var 2) .nil))) (.or (.not (.call kr (.cons (.var 3) .nil))) (.cmp .NotEq (.bi .len (.cons (.var 2) .nil)) (.bi .len (.cons (.var 3) .nil))))) [(.ret (.c (.bl false)))] [])
noncomputable def sp4(kt kq:Nat):Stm:=(.iff (.or (.not (.bi .all (.cons (.comp ["tie"] ["web"] [0] (.nm 0) (.seq (.var 2)) .no (.call kt (.cons (.var 1) (.cons (.var 0) .nil)))) .nil))) (.not (.bi .all (.cons (.comp ["place"] ["web"] [0] (.nm 0) (.seq (.var 3)) .no (.call kq (.cons (.var 1) (.cons (.var 0) .nil)))) .nil)))) [(.ret (.c (.bl false)))] [])
noncomputable def sp5:Stm:=(.asg (.nm 4) (.comp2 ["tie","place"] ["web"] [0] (.nm 0) (.seq (.var 2)) .no (.nm 1) (.seq (.ix (.ix (.var 2) (.c (.int 1))) (.var 0))) .no (.var 1)))
noncomputable def sp6:Stm:=(.iff (.cmp .NotEq (.lenset (.var 4)) (.bi .len (.cons (.var 4) .nil))) [(.ret (.c (.bl false)))] [])
noncomputable def sp7:Stm:=(.ret (.bi .all (.cons (.comp ["one","other"] ["cover"] [3] (.tup (.cons (.nm 0) (.cons (.nm 1) .nil))) (.seq (.ix (.var 0) (.c (.int 1)))) .no (.or (.cmp .In (.var 0) (.var 2)) (.cmp .In (.var 1) (.var 2)))) .nil)))
noncomputable def KO(kp kr kt kq:Nat):List Stm:=[sp1 kp,sp2,sp3 kr,sp4 kt kq,sp5,sp6,sp7]
theorem Ln(hΔ:∀ f,MonoN (Δ f)){n:Nat}{es:EE}{a b:SV}{A B:List Nat}{S S0:Sto}{D:EndsS}{o1 o4:Option SV}(hu:∀ e∈es,e.1<e.2/\e.2<n)(hel:es.length<=1000)(hA:A.length<=63)(hB:B.length<=63)(sa:∀ S',Gw S S'->seqS a S'=some (natS A))(ka:∀ S1 S',Gw S S1->Gw S S'->keepS a S1 S')(sb:∀ S',Gw S S'->seqS b S'=some (natS B))(nb:∀ S',Gw S S'->BE b S'=none)
 (tl:∀ t∈A,t<es.length) (up:A.Pairwise (·<·)) (G0:Gw S0 S) (q:∀(r:Bool) (S':Sto),Gw S0 S'->(r=true↔Apart es A/\Covers es B)->D.rt (.bl r) S'):wSs Δ [sp5,sp6,sp7] D [some (j3 n es),o1,some a,some b,o4] S:=by
 refine⟨_,rfl,_,sa S (Gw.refl S),?_⟩;refine JB (j6 hΔ _).2 (B8 hΔ _) (j6 hΔ _).2 (a7 hΔ _).1 (λi ys S1=>S1=S/\ys=natS (w4 es (A.take i))) ⟨rfl,rfl⟩ (λ_ _ _ h=>by rw[h.1];exact ka S S (Gw.refl S) (Gw.refl S)) ?_ ?_
 ·rintro i x ys S1 hx ⟨rfl,rfl⟩;obtain⟨t,ht,rfl⟩:=Ae hx;have hil:=(gM ht).1;have he:=AH (tl t (WC ht));have el:(w4 es (A.take i)).length<=200:=by rw[EI,Wp];omega
  refine⟨_,rfl,_,_,rfl,rfl,_,rfl,_,pairS (f6 es t),rfl,i5 (by rw[WQ,he];rfl),_,rfl,?_⟩
  have e2:w4 es (A.take (i+1))=w4 es (A.take i)++[(f6 es t).1,(f6 es t).2]:=by
   rw[XE,ht];unfold w4;rw[List.flatMap_append];rfl
  refine JC (j6 hΔ _).2 (a7 hΔ _).1 (λj ρ ys S3=>∃ o,ρ=[some (.int (t:Nat)),o,some (j3 n es)]/\S3=S1/\ys=natS (w4 es (A.take i))++[SV.int (f6 es t).1,SV.int (f6 es t).2].take j) ⟨none,rfl,rfl,by simp⟩ (λ_ _ _ _ _=>trivial) ?_ ?_
  ·rintro j y ρ ys S3 hy ⟨o,rfl,rfl,rfl⟩;have hb:∀ l:List SV,l.length<=2->(natS (w4 es (A.take i))++l).length<big:=λl hl=>by rw[W7,c8];show _<100000;omega
   match j,hy with
   | 0,hy=>cases hy;exact⟨_,rfl,hb _ (by simp),_,rfl,rfl,by simp⟩
   | 1,hy=>cases hy;exact⟨_,rfl,hb _ (by simp),_,rfl,rfl,by simp⟩
   | j+2,hy=>cases hy
  ·rintro ρ ys S3 ⟨o,rfl,rfl,rfl⟩;exact⟨rfl,by rw[e2,m9];rfl⟩
 ·rintro ys S1 ⟨rfl,rfl⟩;rw[c8,X9];have el:(w4 es A).length<=200:=by rw[EI];omega
  have h2:(S1++[SO.lst (natS (w4 es A))])[S1.length]?=some (.lst (natS (w4 es A))):=c6;have G2:Gw S1 (S1++[SO.lst (natS (w4 es A))]):=(Gw.refl S1).push;generalize S1.length=l at *;generalize S1++[SO.lst (natS (w4 es A))]=S2 at *;show wSs Δ [sp6,sp7] D [some (j3 n es),o1,some a,some b,some (.loc l)] S2;refine⟨_,rfl,_,_,nofun,a8 h2,EH _,by unfold iN;rw[W8];omega,_,rfl,_,a8 h2,_,rfl,?_⟩
  have nd:(((AD (iN (w4 es A))).length:Nat):Int)=((natS (w4 es A)).length:Nat)↔(w4 es A).Nodup:=by
   rw[c8,X5,<-OT,<-OS];unfold iN;rw[W8]
  by_cases z:(((AD (iN (w4 es A))).length:Nat):Int)=((natS (w4 es A)).length:Nat)
  ·refine ifF (by rw[decide_eq_true z];rfl) (j4 ?_);have ap:=Hk (nd.mp z);refine⟨_,rfl,_,_,rfl,rfl,_,rfl,?_⟩;refine C9 hΔ (λi=>decide ((f6 es i).1∈B)||decide ((f6 es i).2∈B)) (by rw[W8];exact hel) (λ_ _=>trivial) ?_ ?_
   ·intro i x S' hx G;obtain⟨e,he,rfl⟩:=C5 hx;have ee:=AB he;have sb':=sb S' (G2.trans G);have nb':=nb S' (G2.trans G);refine⟨_,rfl,_,rfl,?_⟩;show match BE b S' with | some ms=>_ | none=>_
    rw[nb'];refine⟨rfl,_,sb',Az _,_,rfl,?_⟩;show if inS (.int e.1) (natS B)=true then _ else _
    rw[ED,ee];refine ifB (λy=>?_) (λy=>?_)
    ·refine⟨?_,G⟩;rw[y];rfl
    ·refine⟨_,rfl,_,rfl,?_⟩;show match BE b S' with | some ms=>_ | none=>_
     rw[nb'];refine⟨rfl,_,sb',Az _,?_,G⟩;show SV.bl (inS (.int e.2) (natS B))=_;rw[ED,y];rfl
   ·intro S3 G3;refine⟨_,_,nofun,a8 c6,CM _ _,?_⟩;refine q _ _ (G0.trans (G2.trans G3)).push ?_;rw[all_mapF,W8];constructor
    ·refine λh=>⟨ap,λe he=>?_⟩
     obtain⟨i,hi,rfl⟩:=YR he;have:=h i hi;rw[AB (WB hi)]at this;simpa using this
    ·rintro⟨_,h⟩ i hi;have:=h _ (Ww hi);rw[AB (WB hi)];simpa using this
  ·refine ifT (by rw[decide_eq_false z];rfl) (q false _ (G0.trans G2) ⟨nofun,λh=>absurd (nd.mpr (Qi (KH up) tl h.1 λe he=>(hu e he).1)) z⟩)
end
theorem Gd.nis{S S':Sto}{k b:Nat}{x:SV}(h:Gd (VS S) k b x)(G:Gw S S'):BE x S'=none:=by
 cases h with
 | lst hv h hl hc=>exact HE (G.keep _ _ hv)
 | _=>rfl
theorem Gd.short{S:Sto}{k b:Nat}{x:SV}{xs:List SV}(h:Gd (VS S) k b x)(e:seqS x S=some xs):xs.length<=63/\∀ S1 S',Gw S S1->Gw S S'->keepS x S1 S':=by
 rcases h.split with⟨_,no⟩ | ⟨ys,V⟩
 ·exact absurd e (no _)
 ·rw[V.seq S (Gw.refl S)]at e;cases e;exact⟨V.len,V.keep⟩
theorem CA{A B:List Nat}(h:natS A=natS B):A=B:=by
 rw[A0,A0]at h;have h:=w5 h;unfold iN at h
 induction A generalizing B with
 | nil=>cases B with
   | nil=>rfl
   | cons b B=>cases h
 | cons a A ih=>cases B with
   | nil=>cases h
   | cons b B=>
     rw[Wo,Wo]at h;obtain⟨h1,h2⟩:=Yt.inj h;rw[X5.mp h1,ih (by unfold iN;rw[h2]) h2]
theorem Hm{n:Nat}{es:EE}{S:Sto}{a b:SV}{A B:List Nat}(sa:seqS a S=some (natS A))(sb:seqS b S=some (natS B))(ua:A.Pairwise (·<·))(ub:B.Pairwise (·<·))(el:A.length=B.length)(ta:∀ t∈A,t<es.length)(tb:∀ p∈B,p<n):Apart es A/\Covers es B↔Hj n es S (.tup [a,b]):=by
 constructor
 ·exact λh=>⟨a,b,A,B,rfl,sa,sb,ua,ub,el,ta,tb,h⟩
 ·rintro⟨a',b',A',B',e,sa',sb',_,_,_,_,_,h⟩;cases e;rw[sa]at sa';rw[sb]at sb';rw[CA (oj sa'),CA (oj sb')];exact h
section
variable{Δ:Nat->Sn}
theorem Hn(hΔ:∀ f,MonoN (Δ f)){kt:Nat}{m:Nat->EE->Nat}(ht:InG (Δ kt) m){n:Nat}{es:EE}{is:List Int}{S:Sto}{keep:Sto->Prop}{Q:List SV->Sto->Prop}{ρ:EnvS}(hρ:ρ=[none,some (j3 n es)])(hl:is.length<=63)(hk:∀ S',Gw S S'->keep S')
 (q:∀ S',Gw S S'->Q ((WN is.length).map λi => .bl (decide (0<=is.getD i 0)&&decide (is.getD i 0<(m n es:Nat)))) S'):A7 keep (.nm 0) (wEo Δ .no).2 (wEx Δ (.call kt (.cons (.var 1) (.cons (.var 0) .nil)))).1 ρ Q (is.map SV.int) [] S:=by
 subst hρ;have e:(is.map SV.int).length=is.length:=W8 ..;refine C9 hΔ (λi=>decide (0<=is.getD i 0)&&decide (is.getD i 0<(m n es:Nat))) (by rw[e];omega) hk ?_ (by rw[e];exact q);intro i x S' hx G;rw[WQ]at hx;cases hi:is[i]? with
 | none=>rw[hi]at hx;cases hx
 | some j=>
   rw[hi]at hx;cases hx;refine⟨_,rfl,_,rfl,ht ⟨?_,G⟩⟩;show SV.bl _=SV.bl (decide (0<=is.getD i 0)&&decide (is.getD i 0<_));rw[Wr,hi];rfl
noncomputable def OU(s:Sn):Prop:=∀{n:Nat} {es:EE} {x:SV} {S:Sto} {k b:Nat} {Q:QE},(∀ e∈es,e.1<e.2/\e.2<n)->es.length<=1000->Gd (VS S) k b x->(∀(r:Bool) (S':Sto),Gw S S'->(r=true↔Hj n es S x)->Q (.bl r) S')->s [j3 n es,x] S Q
theorem Lo(hΔ:∀ f,MonoN (Δ f)){kp kr kt kq:Nat}(hpr:PrG (Δ kp))(hr:Ty (Δ kr))(ht:InG (Δ kt) λ_ es=>es.length)(hq:InG (Δ kq) λn _=>n){D:Df}(hb:D.body=KO kp kr kt kq)(hN:D.N.length=5)(hp:D.ps.length=2):OU (i9 Δ D):=by
 intro n es x S k b Q hu hel h q;unfold i9;rw[hb,hN];refine⟨hp.symm,_,rfl,hpr h ?_⟩;cases z:isP x with
 | false=>exact⟨_,rfl,ifT rfl (q false S (Gw.refl S) ⟨nofun,λ⟨a,b,_,_,e,_⟩=>by rw[e]at z;cases z⟩)⟩
 | true=>
 obtain⟨a,c,rfl⟩:=OR z;obtain⟨k',b',ga,gc⟩:=h.parts;refine⟨_,rfl,ifF rfl (j4 ⟨_,rfl,?_⟩)⟩;show wSs Δ [sp3 kr,sp4 kt kq,sp5,sp6,sp7] _ [some (j3 n es),some (.tup [a,c]),some a,some c,none] S;refine⟨_,rfl,hr ga λr1 S1 G1 e1=>⟨_,rfl,?_⟩⟩;cases r1 with
 | false=>
   refine ifT rfl (q false S1 G1 ⟨nofun,λ⟨a',b',A,B,e,sA,_,uA,_⟩=>?_⟩);cases e;exact e1.mpr ⟨iN A,by rw[sA,A0],iN_up.mpr uA⟩
 | true=>
 obtain⟨is,sA,uA⟩:=e1.mp rfl;refine ifF rfl ⟨_,rfl,hr (gc.grow G1) λr2 S2 G2 e2=>⟨_,rfl,?_⟩⟩;rw[gc.seqEq G1]at e2;have G12:=G1.trans G2;cases r2 with
 | false=>
   refine ifT rfl (q false S2 G12 ⟨nofun,λ⟨a',b',A,B,e,_,sB,_,uB,_⟩=>?_⟩);cases e;exact e2.mpr ⟨iN B,by rw[sB,A0],iN_up.mpr uB⟩
 | true=>
 obtain⟨js,sC,uC⟩:=e2.mp rfl;obtain⟨la,ka⟩:=ga.short sA;obtain⟨lc,kc⟩:=gc.short sC;rw[W8]at la lc;refine ifF rfl ⟨_,rfl,_,(ga.seqEq G12).trans sA,_,rfl,_,(gc.seqEq G12).trans sC,_,rfl,?_⟩;by_cases el:is.length=js.length
 ·refine ifF (by show(!decide (((is.map SV.int).length:Int)=((js.map SV.int).length:Int)))=false;rw[W8,W8,el];simp) (j4 ?_);refine⟨_,rfl,_,(ga.seqEq G12).trans sA,Hn hΔ ht rfl la (λS' G=>ka _ _ G12 (G12.trans G)) λS3 G3=>?_⟩;refine⟨_,_,nofun,a8 c6,CM _ _,_,rfl,?_⟩;have G4:=(G12.trans G3).push (o:=SO.lst ((WN is.length).map λi => .bl (decide (0<=is.getD i 0)&&decide (is.getD i 0<(es.length:Nat)))));generalize S3++[SO.lst ((WN is.length).map λi => .bl (decide (0<=is.getD i 0)&&decide (is.getD i 0<(es.length:Nat))))]=S4 at *;cases w:((WN is.length).map λi=>decide (0<=is.getD i 0)&&decide (is.getD i 0<(es.length:Nat))).all id with
  | false=>
    refine ifT rfl (q false S4 G4 ⟨nofun,λ⟨a',b',A,B,e,sA',_,_,_,_,tA,_⟩=>?_⟩);cases e;rw[sA,A0]at sA';have:=w5 (oj sA');subst this;rw[all_mapF.mpr (KN tA)]at w;cases w
  | true=>
  obtain⟨A,rfl,tA⟩:=Fo (all_mapF.mp w);refine ifF rfl ⟨_,rfl,_,(gc.seqEq G4).trans sC,Hn hΔ hq rfl lc (λS' G=>kc _ _ G4 (G4.trans G)) λS5 G5=>?_⟩;refine⟨_,_,nofun,a8 c6,CM _ _,_,rfl,?_⟩;have G6:=(G4.trans G5).push (o:=SO.lst ((WN js.length).map λi => .bl (decide (0<=js.getD i 0)&&decide (js.getD i 0<(n:Nat)))));generalize S5++[SO.lst ((WN js.length).map λi => .bl (decide (0<=js.getD i 0)&&decide (js.getD i 0<(n:Nat))))]=S6 at *;cases w':((WN js.length).map λi=>decide (0<=js.getD i 0)&&decide (js.getD i 0<(n:Nat))).all id with
  | false=>
    refine ifT rfl (q false S6 G6 ⟨nofun,λ⟨a',b',A',B,e,_,sB',_,_,_,_,tB,_⟩=>?_⟩);cases e;rw[sC,A0]at sB';have:=w5 (oj sB');subst this;rw[all_mapF.mpr (KN tB)]at w';cases w'
  | true=>
  obtain⟨B,rfl,tB⟩:=Fo (all_mapF.mp w');rw[<-A0]at sA sC;have lA:(iN A).length=A.length:=by unfold iN;rw[W8]
  have lB:(iN B).length=B.length:=by unfold iN;rw[W8]
  rw[lA]at la el;rw[lB]at lc el;refine ifF rfl (j4 ?_);refine Ln hΔ hu hel la lc (λS' G=>(ga.seqEq (G6.trans G)).trans sA) (λS1 S' a b=>ka _ _ (G6.trans a) (G6.trans b)) (λS' G=>(gc.seqEq (G6.trans G)).trans sC) (λS' G=>gc.nis (G6.trans G)) tA (iN_up.mp uA) G6 λr S' G e=>q r S' G (e.trans (Hm sA sC (iN_up.mp uA) (iN_up.mp uC) el tA tB))
 ·refine ifT (by show(!decide (((is.map SV.int).length:Int)=((js.map SV.int).length:Int)))=true;rw[W8,W8,decide_eq_false (λy=>el (X5.mp y))];rfl) (q false S2 G12 ⟨nofun,λ⟨a',b',A,B,e,sA',sB',_,_,l,_⟩=>?_⟩);cases e;rw[sA,A0]at sA';rw[sC,A0]at sB';have h1:=w5 (oj sA');have h2:=w5 (oj sB');subst h1;subst h2;exact absurd (by unfold iN;rw[W8,W8,l]) el
end
theorem Lp(ns:List Int):(ns.map SV.int).all Ar=true:=by
 rw[Wg];intro x hx;obtain⟨i,_,rfl⟩:=Wi.mp hx;rfl
theorem Ho:∀{a b:List Int},ET (a.map SV.int) (b.map SV.int)=true↔a=b
 | [],[]=>⟨λ_=>rfl,λ_=>rfl⟩
 | [],_::_=>⟨nofun,nofun⟩
 | _::_,[]=>⟨nofun,nofun⟩
 | x::a,y::b=>by
   have ih:=Ho (a:=a) (b:=b)
   have e:ET ((x::a).map SV.int) ((y::b).map SV.int)=((x == y)&&ET (a.map SV.int) (b.map SV.int)):=by
    show((a.map SV.int).length+1 == (b.map SV.int).length+1&&((x == y)&&_))=((x == y)&&((a.map SV.int).length == (b.map SV.int).length&&_))
    have:((a.map SV.int).length+1 == (b.map SV.int).length+1)=((a.map SV.int).length == (b.map SV.int).length):=by
     rw[X4,bQ,bQ];omega
    rw[this];cases(x == y)<;>cases((a.map SV.int).length == (b.map SV.int).length)<;>rfl
   rw[e,W6,ih,bQ];exact⟨λ⟨p,q⟩=>by rw[p,q],λh=>⟨(Yt.inj h).1,(Yt.inj h).2⟩⟩
theorem OV{A:List Nat}:iN A=srt (AD (iN A))↔A.Pairwise (·<·):=by
 constructor
 ·intro h;have h1:(iN A).Pairwise (·<=·):=by rw[h];exact IM _
  have h2:(iN A).Nodup:=by rw[h];exact(Ai _).nodup_iff.mpr (EK _)
  refine iN_up.mp (h1.imp₂ (λa b (x:a<=b) (y:a≠b)=>?_) h2);omega
 ·exact λh=>(Tu h).symm
theorem Hq{xs:List SV}{i:Nat}(h:i<=xs.length):CU xs none (some (i:Int))=xs.take i:=by
 unfold CU;rw[HT.sIx_nat,Yk h];rfl
section
variable{Δ:Nat->Sn}
noncomputable def lr1:Stm:=(.iff (.not (.bi .isi (.cons (.var 0) (.cons (.tup (.cons (.tyc .list) (.cons (.tyc .tuple) .nil))) .nil)))) [(.ret (.c (.bl false)))] [])
noncomputable def lr2:Stm:=(.iff (.or (.not (.bi .isi (.cons (.var 2) (.cons (.tyc .int) .nil)))) (.or (.bi .isi (.cons (.var 2) (.cons (.tyc .bool) .nil))) (.not (.chn .LtE .Lt (.c (.int 0)) (.var 2) (.var 1))))) [(.ret (.c (.bl false)))] [])
def lr3:Stm:=(.ret (.cmp .Eq (.bi .list (.cons (.var 0) .nil)) (.srtset (.var 0))))
noncomputable def OW:List Stm:=[lr1,(.loop (.nm 2) (.seq (.var 0)) [lr2]),lr3]
noncomputable def OX(s:Sn):Prop:=∀{x:SV} {S:Sto} {k b m:Nat} {Q:QE},Gd (VS S) k b x->(∀(r:Bool) (S':Sto),Gw S S'->(r=true↔∃ A,seqS x S=some (natS A)/\A.Pairwise (·<·)/\∀ t∈A,t<m)->Q (.bl r) S')->s [x,.int m] S Q
theorem OY(hΔ:∀ f,MonoN (Δ f)){D:Df}(hb:D.body=OW)(hN:D.N.length=3)(hp:D.ps.length=2):OX (i9 Δ D):=by
 intro x S k b m Q h q;unfold i9;rw[hb,hN];have b2:2<=big:=by decide
 refine⟨hp.symm,_,rfl,b2,?_⟩
 have main:∀ xs,SeqV S x xs->wSs Δ [(.loop (.nm 2) (.seq (.var 0)) [lr2]),lr3] {nx:=λ_ S=>Q .non S,rt:=Q,bk:=λ_ _=>False,ct:=λ_ _=>False} [some x,some (.int (m:Nat)),none] S:=by
  intro xs V;have s0:=V.seq S (Gw.refl S);have hxl:=V.len;obtain⟨k',b',hg⟩:=V.gd
  have no:(∀ A:List Nat,xs=natS A->(∀ t∈A,t<m)->False)->∀ S',Gw S S'->Q (.bl false) S':=λno S' G=>q false S' G ⟨nofun,λ⟨A,e,_,ha⟩=>by
   rw[s0]at e;exact(no A (oj e) ha).elim⟩
  refine⟨_,rfl,_,s0,?_⟩;refine Ad (i7 hΔ _) (λi ρ S1=>∃ o2,ρ=[some x,some (.int (m:Nat)),o2]/\S1=S/\∃ A:List Nat,xs.take i=natS A/\∀ t∈A,t<m) ⟨none,rfl,rfl,[],by simp[natS],λ_ h=>nomatch h⟩ (λ_ _ S1 h=>by obtain⟨_,_,rfl,_⟩:=h;exact V.keep _ _ (Gw.refl _) (Gw.refl _)) ?_ ?_
  ·rintro i y ρ S1 E hE hrt hy ⟨o2,rfl,rfl,A,eA,hA⟩;have hyn:∀ B:List Nat,xs=natS B->∃ j,B[i]?=some j/\y = .int (j:Nat):=λB e=>by rw[e]at hy;exact Ae hy
   have bad:(∀ j:Nat,y = .int (j:Nat)->j<m->False)->E.rt (.bl false) S1:=λh=>hrt _ _ (no (λB e hB=>by
    obtain⟨j,hj,e2⟩:=hyn B e;exact h j e2 (hB j (WC hj))) S1 (Gw.refl _))
   have gy:=hg y (WC hy);cases gy with
   | non=>exact⟨_,rfl,_,nofun,rfl,_,rfl,ifT rfl (bad nofun)⟩
   | bl c=>exact⟨_,rfl,_,nofun,rfl,_,rfl,ifF rfl ⟨_,rfl,_,nofun,rfl,_,rfl,ifT rfl (bad nofun)⟩⟩
   | str _ _=>exact⟨_,rfl,_,nofun,rfl,_,rfl,ifT rfl (bad nofun)⟩
   | tup _ _ _=>exact⟨_,rfl,_,nofun,rfl,_,rfl,ifT rfl (bad nofun)⟩
   | lst hv _ _ _=>exact⟨_,rfl,_,nofun,DA hv,_,rfl,ifT rfl (bad nofun)⟩
   | @int _ _ j hj=>
     refine⟨_,rfl,_,nofun,rfl,_,rfl,ifF rfl ⟨_,rfl,_,nofun,rfl,_,rfl,ifF rfl ⟨_,rfl,_,rfl,?_⟩⟩⟩;by_cases z:(0:Int)<=j
     ·refine ifT (decide_eq_true z) ⟨_,rfl,_,rfl,?_⟩;by_cases w:j<(m:Nat)
      ·refine ifF (by rw[decide_eq_true w];rfl) (j4 (hE _ _ ⟨_,rfl,rfl,A++[j.toNat],?_,λt ht=>?_⟩))
       ·rw[XE,hy,eA,m9];show _++[SV.int j]=_++[SV.int (j.toNat:Nat)];rw[XH z]
       ·rcases WH.mp ht with ht | ht
        ·exact hA t ht
        ·rw[W9.mp ht];omega
      ·exact ifT (by rw[decide_eq_false w];rfl) (bad λj' e h=>by cases e;omega)
     ·exact ifF (decide_eq_false z) ⟨_,rfl,ifT rfl (bad λj' e h=>by cases e;omega)⟩
  ·rintro ρ S1 ⟨o2,rfl,rfl,A,eA,hA⟩;rw[X9]at eA;subst eA;rw[c8]at hxl;refine⟨_,rfl,_,s0,_,rfl,_,_,V.seq _ (Gw.refl _).push,EH _,by unfold iN;rw[W8];omega,?_⟩;refine⟨_,_,e6 c6,c6,.inl ⟨Az _,Lp _⟩,?_⟩;refine q _ _ (Gw.refl _).push.push ?_;rw[A0 A,Ho,OV];constructor
   ·exact λu=>⟨A,s0,u,hA⟩
   ·rintro⟨B,e,u,_⟩;rw[s0]at e;rw[CA (oj e)];exact u
 have out:(∀ xs,seqS x S≠some xs)->Q (.bl false) S:=λno=>q false S (Gw.refl S) ⟨nofun,λ⟨A,e,_⟩=>absurd e (no _)⟩;cases h with
 | non=>exact⟨_,[.list,.tuple],by decide,rfl,rfl,_,rfl,ifT rfl (out nofun)⟩
 | bl c=>exact⟨_,[.list,.tuple],by decide,rfl,rfl,_,rfl,ifT rfl (out nofun)⟩
 | int h=>exact⟨_,[.list,.tuple],by decide,rfl,rfl,_,rfl,ifT rfl (out nofun)⟩
 | str h hb'=>exact⟨_,[.list,.tuple],by decide,rfl,rfl,_,rfl,ifT rfl (out nofun)⟩
 | tup h hl hc=>exact⟨_,[.list,.tuple],by decide,rfl,rfl,_,rfl,ifF rfl (j4 (main _ ⟨λ_ _=>rfl,λ_ _ _ _=>trivial,hl,⟨_,_,h⟩,rfl⟩))⟩
 | lst hv h hl hc=>exact⟨_,[.list,.tuple],by decide,DA hv,rfl,_,rfl,ifF rfl (j4 (main _ ⟨λS' G=>a8 (G.keep _ _ hv),λS1 S' G1 G=>by
    show S'[_]?=S1[_]?;rw[G.keep _ _ hv,G1.keep _ _ hv],hl,⟨_,_,h⟩,rfl⟩))⟩
structure Rw(S:Sto)(k:Nat)(ls:List Nat)(R:List (List Nat)):Prop where
 at':S[k]?=some (SO.lst (ls.map SV.loc))
 len:ls.length=R.length
 rows:∀(i l:Nat) (r:List Nat),ls[i]?=some l->R[i]?=some r->S[l]?=some (SO.lst (natS r))
theorem Rw.mono{S S':Sto}{k:Nat}{ls:List Nat}{R:List (List Nat)}(h:Rw S k ls R)(g:Gw S S'):Rw S' k ls R:=⟨g.keep _ _ h.at',h.len,λi l r a b=>g.keep _ _ (h.rows i l r a b)⟩
noncomputable def Shr(es:EE)(t u:Nat):Prop:=∃ p,(p=(f6 es t).1\/p=(f6 es t).2)/\(p=(f6 es u).1\/p=(f6 es u).2)
end
theorem JD{es:EE}{A:List Nat}{t:Nat}(h:Apart es A)(no:∀ u∈A,¬ Shr es t u):Apart es (A++[t]):=by
 intro a ha b hb p hp hp';rcases WH.mp ha with ha | ha<;>rcases WH.mp hb with hb | hb
 ·exact h a ha b hb p hp hp'
 ·rw[W9.mp hb]at hp';exact absurd ⟨p,hp',hp⟩ (no a ha)
 ·rw[W9.mp ha]at hp;exact absurd ⟨p,hp,hp'⟩ (no b hb)
 ·rw[W9.mp ha,W9.mp hb]
section
variable{Δ:Nat->Sn}
noncomputable def du1:Stm:=(.iff (.or (.not (.bi .isi (.cons (.var 1) (.cons (.tyc .tuple) .nil)))) (.cmp .NotEq (.bi .len (.cons (.var 1) .nil)) (.c (.int 2)))) [(.ret (.c (.bl false)))] [])
noncomputable def du3(kr:Nat):Stm:=(.iff (.or (.not (.call kr (.cons (.var 2) (.cons (.bi .len (.cons (.ix (.var 0) (.c (.int 1))) .nil)) .nil)))) (.or (.not (.call kr (.cons (.var 3) (.cons (.ix (.var 0) (.c (.int 0))) .nil)))) (.cmp .NotEq (.bi .len (.cons (.var 2) .nil)) (.bi .len (.cons (.var 3) .nil))))) [(.ret (.c (.bl false)))] [])
noncomputable def du4:Stm:=(.iff (.or (.cmp .In (.ix (.ix (.ix (.var 0) (.c (.int 1))) (.var 5)) (.c (.int 0))) (.ix (.ix (.var 0) (.c (.int 1))) (.var 6))) (.cmp .In (.ix (.ix (.ix (.var 0) (.c (.int 1))) (.var 5)) (.c (.int 1))) (.ix (.ix (.var 0) (.c (.int 1))) (.var 6)))) [(.ret (.c (.bl false)))] [])
noncomputable def du5:Stm:=(.loop (.tup (.cons (.nm 4) (.cons (.nm 5) .nil))) (.enum (.var 2)) [(.loop (.nm 6) (.seq (.slc (.var 2) .no (.yes (.var 4)))) [du4])])
noncomputable def du6:Stm:=(.ret (.not (.bi .any (.cons (.comp ["_law_one","_law_other"] ["_law_cover"] [3] (.tup (.cons (.nm 0) (.cons (.nm 1) .nil))) (.seq (.ix (.var 0) (.c (.int 1)))) .no (.and (.cmp .NotIn (.var 0) (.var 2)) (.cmp .NotIn (.var 1) (.var 2)))) .nil))))
noncomputable def VV(kr:Nat):List Stm:=[du1,sp2,du3 kr,du5,du6]
theorem Qn(hΔ:∀ f,MonoN (Δ f)){n:Nat}{es:EE}{b:SV}{B:List Nat}{S:Sto}{D:EndsS}{o1 o2 o4 o5 o6:Option SV}(hel:es.length<=1000)(sb:∀ S',Gw S S'->seqS b S'=some (natS B))(nb:∀ S',Gw S S'->BE b S'=none)
 (q:∀(r:Bool) (S':Sto),Gw S S'->(r=true↔Covers es B)->D.rt (.bl r) S'):wSs Δ [du6] D [some (j3 n es),o1,o2,some b,o4,o5,o6] S:=by
 refine⟨_,rfl,_,_,rfl,rfl,_,rfl,?_⟩;refine C9 hΔ (λi=>!decide ((f6 es i).1∈B)&&!decide ((f6 es i).2∈B)) (by rw[W8];exact hel) (λ_ _=>trivial) ?_ ?_
 ·intro i x S' hx G;obtain⟨e,he,rfl⟩:=C5 hx;have ee:=AB he;have sb':=sb S' G;have nb':=nb S' G;refine⟨_,rfl,_,rfl,?_⟩;show match BE b S' with | some ms=>_ | none=>_
  rw[nb'];refine⟨rfl,_,sb',Az _,_,rfl,?_⟩;show if (!inS (.int e.1) (natS B))=true then _ else _
  rw[ED,ee];by_cases y:e.1∈B
  ·rw[decide_eq_true y];exact ifF rfl ⟨rfl,G⟩
  ·rw[decide_eq_false y];refine ifT rfl ⟨_,rfl,_,rfl,?_⟩;show match BE b S' with | some ms=>_ | none=>_
   rw[nb'];refine⟨rfl,_,sb',Az _,?_,G⟩;show SV.bl (!inS (.int e.2) (natS B))=_;rw[ED];rfl
 ·intro S3 G3;refine⟨_,_,nofun,a8 c6,CM _ _,_,rfl,?_⟩;refine q _ _ G3.push ?_;rw[W8,We,<-ZG,OO];constructor
  ·intro h e he;obtain⟨i,hi,rfl⟩:=YR he;have ee:=AB (WB hi);by_cases y:(es[i]).1∈B
   ·exact .inl y
   ·by_cases z:(es[i]).2∈B
    ·exact .inr z
    ·exact absurd ⟨i,hi,by rw[ee,decide_eq_false y,decide_eq_false z];rfl⟩ h
  ·rintro h ⟨i,hi,z⟩;have ee:=AB (WB hi);rw[ee]at z;rcases h _ (Ww hi) with y | y
   ·rw[decide_eq_true y]at z;cases z
   ·rw[decide_eq_true y]at z;simp at z
theorem OZ{n t u:Nat}{es:EE}{S:Sto}{D:EndsS}{o1 o2 o3 o4:Option SV}(ht:t<es.length)(hu:u<es.length)(yes:Shr es t u->D.rt (.bl false) S)(no:¬ Shr es t u->D.nx [some (j3 n es),o1,o2,o3,o4,some (.int t),some (.int u)] S):wSs Δ [du4] D [some (j3 n es),o1,o2,o3,o4,some (.int t),some (.int u)] S:=by
 have h1:atI (es.map pairS) (t:Int)=some (pairS (f6 es t)):=i5 (by rw[WQ,AH ht];rfl);have h2:atI (es.map pairS) (u:Int)=some (pairS (f6 es u)):=i5 (by rw[WQ,AH hu];rfl);refine⟨_,rfl,_,_,rfl,rfl,_,rfl,_,_,rfl,h1,_,.int ((f6 es t).1:Nat),rfl,rfl,_,rfl,_,_,rfl,rfl,_,rfl,_,_,rfl,h2,rfl,_,rfl,rfl,_,rfl,?_⟩;show if inS (.int (f6 es t).1) [.int (f6 es u).1,.int (f6 es u).2]=true then _ else _
 rw[Fc];refine ifB (λz=>yes ⟨(f6 es t).1,.inl rfl,?_⟩) (λz=>?_)
 ·simp only[Wv,dQ]at z;exact z.imp Eq.symm Eq.symm
 ·refine⟨_,rfl,_,_,rfl,rfl,_,rfl,_,_,rfl,h1,_,.int ((f6 es t).2:Nat),rfl,rfl,_,rfl,_,_,rfl,rfl,_,rfl,_,_,rfl,h2,rfl,_,rfl,rfl,_,rfl,?_⟩;show if inS (.int (f6 es t).2) [.int (f6 es u).1,.int (f6 es u).2]=true then _ else _
  rw[Fc];refine ifB (λz'=>yes ⟨(f6 es t).2,.inr rfl,?_⟩) (λz'=>j4 (no λ⟨p,hp,hq⟩=>?_))
  ·simp only[Wv,dQ]at z';exact z'.imp Eq.symm Eq.symm
  ·simp only[Yp,decide_eq_false_iff_not]at z z';rcases hp with rfl | rfl
   ·rcases hq with y | y
    ·exact z.1 y.symm
    ·exact z.2 y.symm
   ·rcases hq with y | y
    ·exact z'.1 y.symm
    ·exact z'.2 y.symm
theorem Qo{a:SV}{xs:List SV}{i:Nat}{S:Sto}{Q:QE}(V:SeqV S a xs){S1:Sto}(G:Gw S S1)(h:i<=xs.length)(q:∀(y:SV) (S':Sto),Gw S1 S'->seqS y S'=some (xs.take i)->(∀ S2,Gw S' S2->keepS y S' S2)->Q y S'):L5 a none (some (i:Int)) S1 Q:=by
 have hs:=V.seq S1 G;cases a with
 | tup ys=>
   cases hs;show Q (.tup (CU xs none (some (i:Int)))) S1;rw[Hq h];exact q _ _ (Gw.refl _) rfl λ_ _=>trivial
 | loc l=>
   have hl:S1[l]?=some (.lst xs):=by
    have hs:(match S1[l]? with | some (SO.lst xs)=>some xs | _=>none)=some xs:=hs;cases e:S1[l]? with
    | none=>rw[e]at hs;cases hs
    | some o=>
      rw[e]at hs;cases o with
      | lst ys=>cases hs;rfl
      | _=>cases hs
   refine⟨xs,hl,?_⟩;rw[Hq h];exact q _ _ (Gw.refl _).push (a8 c6) λS2 G2=>by show S2[_]?=(S1++_)[_]?;rw[c6,G2.keep _ _ c6]
 | _=>exact absurd V.ls nofun
noncomputable def VW(s:Sn):Prop:=∀{n:Nat} {es:EE} {x:SV} {S:Sto} {k b:Nat} {Q:QE},(∀ e∈es,e.1<e.2/\e.2<n)->es.length<=1000->Gd (VS S) k b x->(∀(r:Bool) (S':Sto),Gw S S'->(r=true↔Hj n es S x)->Q (.bl r) S')->s [j3 n es,x] S Q
theorem Qp(hΔ:∀ f,MonoN (Δ f)){n:Nat}{es:EE}{a b:SV}{A B:List Nat}{S:Sto}{D:EndsS}{o1 o4 o5 o6:Option SV}(hel:es.length<=1000)(V:SeqV S a (natS A))(tl:∀ t∈A,t<es.length)(up:A.Pairwise (·<·))(sb:∀ S',Gw S S'->seqS b S'=some (natS B))(nb:∀ S',Gw S S'->BE b S'=none)
 (q:∀(r:Bool) (S':Sto),Gw S S'->(r=true↔Apart es A/\Covers es B)->D.rt (.bl r) S'):wSs Δ [du5,du6] D [some (j3 n es),o1,some a,some b,o4,o5,o6] S:=by
 have hA:=V.len;rw[c8]at hA;refine⟨_,rfl,_,V.seq S (Gw.refl S),?_⟩;refine Ad (i7 hΔ _) (λi ρ S1=>∃ o4 o5 o6,ρ=[some (j3 n es),o1,some a,some b,o4,o5,o6]/\Gw S S1/\Apart es (A.take i)) ⟨_,_,_,rfl,Gw.refl S,λ_ h=>by simp at h⟩ (λ_ _ S1 h=>by obtain⟨_,_,_,_,G,_⟩:=h;exact V.keep _ _ (Gw.refl S) G) ?_ ?_
 ·rintro i x ρ S1 E hE hrt hx ⟨o4,o5,o6,rfl,G1,ap⟩;obtain⟨y,hy,rfl⟩:=J1 hx;obtain⟨t,ht,rfl⟩:=Ae hy;have hi:=(gM ht).1;have htl:=tl t (WC ht);refine⟨_,rfl,_,rfl,_,rfl,Qo (i:=i) V G1 (by rw[c8];omega) λz S2 G2 sz kz=>⟨_,sz,?_⟩⟩;refine Ad (i7 hΔ _) (λj ρ S3=>∃ o6,ρ=[some (j3 n es),o1,some a,some b,some (.int (i:Nat)),some (.int (t:Nat)),o6]/\S3=S2/\∀ u∈A.take j,¬ Shr es t u) ⟨_,rfl,rfl,λ_ h=>by simp at h⟩ (λ_ _ S3 h=>by obtain⟨_,_,rfl,_⟩:=h;exact kz _ (Gw.refl _)) ?_ ?_
  ·rintro j w ρ S3 E' hE' hrt' hw ⟨o6,rfl,rfl,no⟩;rw[show(natS A).take i=natS (A.take i) by unfold natS;rw[YF]]at hw;obtain⟨u,hu,rfl⟩:=Ae hw;have hj:=(gM hu).1;rw[Wp]at hj;rw[List.getElem?_take,iP (by omega)]at hu;refine OZ htl (tl u (WC hu)) (λsh=>?_) λns=>hE' _ _ ⟨_,rfl,rfl,λv hv=>?_⟩
   ·refine hrt' _ _ (hrt _ _ (q false _ (G1.trans G2) ⟨nofun,λh=>?_⟩));obtain⟨p,h1,h2⟩:=sh;have e:=h.1 t (WC ht) u (WC hu) p h1 h2;have:=(X7.mp up) j i (by omega) hi (by omega);rw[(gM ht).2,(gM hu).2]at this;omega
   ·rw[XE,hu]at hv;rcases WH.mp hv with hv | hv
    ·exact no v hv
    ·rw[W9.mp hv];exact ns
  ·rintro ρ S3 ⟨o6,rfl,rfl,no⟩;rw[Wp,c8,Yk (by omega)]at no;refine hE _ _ ⟨_,_,_,rfl,G1.trans G2,?_⟩;rw[XE,ht];exact JD ap no
 ·rintro ρ S1 ⟨o4,o5,o6,rfl,G1,ap⟩;rw[K7,c8,X9]at ap;exact Qn hΔ hel (λS' G=>sb S' (G1.trans G)) (λS' G=>nb S' (G1.trans G)) λr S' G e=>q r S' (G1.trans G) (e.trans ⟨λc=>⟨ap,c⟩,λc=>c.2⟩)
theorem Qq(hΔ:∀ f,MonoN (Δ f)){kr:Nat}(hr:OX (Δ kr)){D:Df}(hb:D.body=VV kr)(hN:D.N.length=7)(hp:D.ps.length=2):VW (i9 Δ D):=by
 intro n es x S k b Q hu hel h q;have ee:(((es.map pairS).length:Nat):Int)=(es.length:Nat):=by rw[W8]
 unfold i9;rw[hb,hN];have out:isP x=false->Q (.bl false) S:=λz=>q false S (Gw.refl S) ⟨nofun,λ⟨a,b,_,_,e,_⟩=>by rw[e]at z;cases z⟩;cases z:isP x with
 | false=>
   have fin:=out z;clear out;cases h with
   | non=>exact⟨hp.symm,_,rfl,_,nofun,rfl,_,rfl,ifT rfl fin⟩
   | bl c=>exact⟨hp.symm,_,rfl,_,nofun,rfl,_,rfl,ifT rfl fin⟩
   | int h=>exact⟨hp.symm,_,rfl,_,nofun,rfl,_,rfl,ifT rfl fin⟩
   | str h hb'=>exact⟨hp.symm,_,rfl,_,nofun,rfl,_,rfl,ifT rfl fin⟩
   | lst hv h hl hc=>exact⟨hp.symm,_,rfl,_,nofun,DA hv,_,rfl,ifT rfl fin⟩
   | @tup k b c xs h hl hc=>
     refine⟨hp.symm,_,rfl,_,nofun,rfl,_,rfl,ifF rfl ⟨_,rfl,_,rfl,_,rfl,ifT ?_ fin⟩⟩;show(!decide ((xs.length:Int)=2))=true;rw[KL,z];rfl
 | true=>
 obtain⟨a,c,rfl⟩:=OR z;obtain⟨k',b',ga,gc⟩:=h.parts;refine⟨hp.symm,_,rfl,_,nofun,rfl,_,rfl,ifF rfl ⟨_,rfl,_,rfl,_,rfl,ifF rfl (j4 ⟨_,rfl,?_⟩)⟩⟩;show wSs Δ [du3 kr,du5,du6] _ [some (j3 n es),some (.tup [a,c]),some a,some c,none,none,none] S;refine⟨_,rfl,_,rfl,_,_,rfl,rfl,_,rfl,?_⟩;rw[ee];refine hr ga λr1 S1 G1 e1=>⟨_,rfl,?_⟩
 cases r1 with
 | false=>
   refine ifT rfl (q false S1 G1 ⟨nofun,λ⟨a',b',A,B,e,sA,_,uA,_,_,tA,_⟩=>?_⟩);cases e;exact e1.mpr ⟨A,sA,uA,tA⟩
 | true=>
 obtain⟨A,sA,uA,tA⟩:=e1.mp rfl;refine ifF rfl ⟨_,rfl,_,rfl,_,_,rfl,rfl,hr (gc.grow G1) λr2 S2 G2 e2=>⟨_,rfl,?_⟩⟩;rw[gc.seqEq G1]at e2;have G12:=G1.trans G2;cases r2 with
 | false=>
   refine ifT rfl (q false S2 G12 ⟨nofun,λ⟨a',b',A,B,e,_,sB,_,uB,_,_,tB,_⟩=>?_⟩);cases e;exact e2.mpr ⟨B,sB,uB,tB⟩
 | true=>
 obtain⟨B,sB,uB,tB⟩:=e2.mp rfl;refine ifF rfl ⟨_,rfl,_,(ga.seqEq G12).trans sA,_,rfl,_,(gc.seqEq G12).trans sB,_,rfl,?_⟩;by_cases el:A.length=B.length
 ·refine ifF (by show(!decide (((natS A).length:Int)=((natS B).length:Int)))=false;rw[c8,c8,el];simp) (j4 ?_);rcases(ga.grow G12).split with⟨_,no⟩ | ⟨xs,V⟩
  ·exact absurd ((ga.seqEq G12).trans sA) (no _)
  ·have e:=V.seq S2 (Gw.refl S2);rw[ga.seqEq G12,sA]at e;cases e;exact Qp hΔ hel V tA uA (λS' G=>(gc.seqEq (G12.trans G)).trans sB) (λS' G=>gc.nis (G12.trans G)) λr S' G e=>q r S' (G12.trans G) (e.trans (Hm sA sB uA uB el tA tB))
 ·refine ifT (by show(!decide (((natS A).length:Int)=((natS B).length:Int)))=true;rw[c8,c8,decide_eq_false (λy=>el (X5.mp y))];rfl) (q false S2 G12 ⟨nofun,λ⟨a',b',A',B',e,sA',sB',_,_,l,_⟩=>?_⟩);cases e;rw[sA]at sA';rw[sB]at sB';rw[CA (oj sA'),CA (oj sB')]at el;exact absurd l el
end
theorem EL:∀(xs:List Nat) (i:Nat),(natS xs).eraseIdx i=natS (xs.eraseIdx i)
 | [],_=>rfl
 | _::_,0=>rfl
 | x::xs,i+1=>by
   show SV.int x::(natS xs).eraseIdx i=SV.int x::natS (xs.eraseIdx i);rw[EL xs i]
theorem Fp(xs:List Nat):∃ A:List Nat,srt (iN xs)=iN A/\A.Perm xs:=by
 have p:=Ai (iN xs)
 have e:∀ l:List Int,(∀ x∈l,0<=x)->l=iN (l.map YS):=λl h=>by
  induction l with
  | nil=>rfl
  | cons x l ih=>
    have h0:=h x (WW ..);show x::l=((x.toNat:Nat):Int)::iN (l.map YS);rw[XH h0,<-ih λy hy=>h y (WL _ hy)]
 refine⟨(srt (iN xs)).map YS,e _ λx hx=>?_,?_⟩
 ·have:=p.mem_iff.mp hx;unfold iN at this;obtain⟨i,_,rfl⟩:=Wi.mp this;exact YW i
 ·have:=p.map YS;unfold iN at this ⊢;rw[Xg]at this
  have e2:xs.map (YS∘λ(i:Nat)=>(i:Int))=xs:=by
   rw[show(YS∘λ(i:Nat)=>(i:Int))=id from funext λi=>Xf i,Zf]
  rw[e2]at this;exact this
section
variable{Δ:Nat->Sn}
def pk1:Stm:=(.par3 2 3 4 (.lst .nil) (.lst .nil) (.lst .nil))
noncomputable def pk2:Stm:=(.asg (.nm 5) (.lrng1 (.bi .len (.cons (.ix (.var 1) (.c (.int 1))) .nil))))
noncomputable def pk3(kd:Nat):Stm:=(.asg (.nm 6) (.mt .pop (.var 5) (.cons (.call kd (.cons (.var 0) (.cons (.bi .len (.cons (.var 5) .nil)) .nil))) .nil)))
noncomputable def pk5(kd:Nat):Stm:=(.expr (.mt .append (.var 3) (.cons (.ix (.ix (.ix (.var 1) (.c (.int 1))) (.var 6)) (.call kd (.cons (.var 0) (.cons (.c (.int 2)) .nil)))) .nil)))
noncomputable def pk6(kd:Nat):List Stm:=[(.expr (.mt .append (.var 2) (.cons (.var 6) .nil))),(.expr (.mt .extT (.var 4) (.cons (.ix (.ix (.var 1) (.c (.int 1))) (.var 6)) .nil))),pk5 kd]
noncomputable def pk4(kd:Nat):Stm:=(.iff (.and (.cmp .NotIn (.ix (.ix (.ix (.var 1) (.c (.int 1))) (.var 6)) (.c (.int 0))) (.var 4)) (.cmp .NotIn (.ix (.ix (.ix (.var 1) (.c (.int 1))) (.var 6)) (.c (.int 1))) (.var 4))) (pk6 kd) [])
noncomputable def pk7:Stm:=(.ret (.tup (.cons (.bi .sorted (.cons (.var 2) .nil)) (.cons (.bi .sorted (.cons (.var 3) .nil)) .nil))))
noncomputable def KP(kd:Nat):List Stm:=[pk1,pk2,(.whl (.cmp .NotEq (.var 5) (.lst .nil)) [pk3 kd,pk4 kd]),pk7]
structure Pk(t a b c d n:Nat)(es:EE)(S S':Sto)(ts ps tk od:List Nat):Prop where
 tp:TapeS S' t
 on:On t S S'
 ha:S'[a]?=some (.lst (natS ts))
 hb:S'[b]?=some (.lst (natS ps))
 hc:S'[c]?=some (.lst (natS tk))
 hd:S'[d]?=some (.lst (natS od))
 lo:∀ x∈od,x<es.length
 nd:tk.Nodup
 lk:∀ p∈tk,p<n
 l1:tk.length=2 * ts.length
 l2:ps.length=ts.length
 lt:∀ x∈ts,x<es.length
 lp:∀ x∈ps,x<n
 lod:od.length<=1000
noncomputable def Hr(s:Sn):Prop:=∀{t n:Nat} {es:EE} {S:Sto} {Q:QE},TapeS S t->(∀ e∈es,e.1<e.2/\e.2<n)->es.length<=90->n<=60->(∀(l1 l2:Nat) (A B:List Nat) (S':Sto),TapeS S' t->On t S S'->l1≠t->l2≠t->S'[l1]?=some (.lst (natS A))->S'[l2]?=some (.lst (natS B))->A.length<=60->B.length<=60->(∀ x∈A,x<=1000)->(∀ x∈B,x<=1000)->Q (.tup [.loc l1,.loc l2]) S')->s [.loc t,j3 n es] S Q
theorem Qr{kd:Nat}(hd:v8 (Δ kd)){t a b c d n:Nat}{es:EE}{S S':Sto}{ts ps tk od:List Nat}{D:EndsS}{o6:Option SV}(hu:∀ e∈es,e.1<e.2/\e.2<n)(hn:n<=60)(ta:t<a)(ab:a<b)(bc:b<c)(cd:c<d)(sl:S.length<=a)(P:Pk t a b c d n es S S' ts ps tk od)(ne:od≠[])
 (q:∀(S'':Sto) (ts ps tk od':List Nat) (o6:Option SV),od'.length<od.length->Pk t a b c d n es S S'' ts ps tk od'->D.nx [some (.loc t),some (j3 n es),some (.loc a),some (.loc b),some (.loc c),some (.loc d),o6] S''):wSs Δ [pk3 kd,pk4 kd] D [some (.loc t),some (j3 n es),some (.loc a),some (.loc b),some (.loc c),some (.loc d),o6] S':=by
 have ol:0<od.length:=List.length_pos_iff.mpr ne;have hod:=P.lod;refine⟨_,rfl,⟨_,_,rfl,P.hd⟩,_,rfl,_,rfl,_,a8 P.hd,hd P.tp (by rw[c8];omega) (by rw[c8];omega) λr S2 r0 r1 T2 O2 _=>?_⟩;rw[c8]at r1;obtain⟨i,rfl⟩:=Xm r0;have hi:i<od.length:=by omega
 have ei:((i:Nat):Int).toNat=i:=Xf i;refine⟨_,.int (od[i]:Nat),O2.keep _ _ (by omega) P.hd,⟨r0,by rw[c8];exact r1⟩,by rw[c8];show _<=100000;omega,by rw[ei];exact Ba (WB hi),?_⟩;rw[ei,EL];have hx:=P.lo _ (Ww hi);have he:=AH hx;have hee:=hu _ (Nx hx);have P2:Pk t a b c d n es S (S2.set d (.lst (natS (od.eraseIdx i)))) ts ps tk (od.eraseIdx i):=⟨T2.other (by omega),(P.on.trans O2).new (by omega),by rw[j0 (by omega)];exact O2.keep _ _ (by omega) P.ha,by rw[j0 (by omega)];exact O2.keep _ _ (by omega) P.hb,by rw[j0 (by omega)];exact O2.keep _ _ (by omega) P.hc,u8 (O2.keep _ _ (by omega) P.hd),λx h=>P.lo x (List.mem_of_mem_eraseIdx h),P.nd,P.lk,P.l1,P.l2,P.lt,P.lp,by rw[Ys];split<;>omega⟩
 have less:(od.eraseIdx i).length<od.length:=by rw[Ys,iP hi];omega
 generalize od.eraseIdx i=od' at *;generalize S2.set d (.lst (natS od'))=S3 at *;generalize od[i]=u at *;show wSs Δ [pk4 kd] D [some (.loc t),some (j3 n es),some (.loc a),some (.loc b),some (.loc c),some (.loc d),some (.int (u:Nat))] S3;have h1:atI (es.map pairS) (u:Int)=some (pairS (f6 es u)):=i5 (by rw[WQ,he];rfl)
 have nin:∀(p:Nat) (Q:QE),Q (.bl (!decide (p∈tk))) S3->BT .NotIn (.int (p:Nat)) (.loc c) S3 Q:=λp Q q=>by
  show match BE (.loc c) S3 with | some ms=>_ | none=>_
  rw[HE P2.hc];refine⟨rfl,_,a8 P2.hc,Az _,?_⟩;show Q (.bl (!inS (.int (p:Nat)) (natS tk))) S3;rw[ED];exact q
 refine⟨_,rfl,_,_,rfl,rfl,_,rfl,_,_,rfl,h1,_,.int ((f6 es u).1:Nat),rfl,rfl,_,rfl,nin _ _ ⟨_,rfl,?_⟩⟩;by_cases z:(f6 es u).1∈tk
 ·rw[decide_eq_true z];exact ifF rfl (ifF rfl (j4 (q _ _ _ _ _ _ less P2)))
 rw[decide_eq_false z];refine ifT rfl ⟨_,rfl,_,_,rfl,rfl,_,rfl,_,_,rfl,h1,_,.int ((f6 es u).2:Nat),rfl,rfl,_,rfl,nin _ _ ⟨_,rfl,?_⟩⟩;by_cases y:(f6 es u).2∈tk
 ·rw[decide_eq_true y];exact ifF rfl (j4 (q _ _ _ _ _ _ less P2))
 rw[decide_eq_false y];refine ifT rfl ?_;have k1:=P2.l1;have nt:tk.length<=n:=Au P2.nd P2.lk;have k2:=P2.l2;show wSs Δ (pk6 kd) _ [some (.loc t),some (j3 n es),some (.loc a),some (.loc b),some (.loc c),some (.loc d),some (.int (u:Nat))] S3;refine⟨_,rfl,⟨_,_,rfl,P2.ha⟩,_,rfl,_,P2.ha,by rw[c8];show _<100000;omega,?_⟩;have c4:(S3.set a (.lst (natS ts++[SV.int (u:Nat)])))[c]?=some (.lst (natS tk)):=by rw[j0 (by omega)];exact P2.hc
 refine⟨_,rfl,⟨_,_,rfl,c4⟩,_,rfl,_,_,rfl,rfl,_,rfl,_,pairS (f6 es u),rfl,h1,?_⟩;refine⟨_,[SV.int (f6 es u).1,SV.int (f6 es u).2],rfl,c4,by rw[c8];show _+2<=100000;omega,?_⟩
 have nd2:(tk++[(f6 es u).1,(f6 es u).2]).Nodup:=XJ.mpr ⟨P2.nd,by simp;omega,λx hx y' hy e=>by
  subst e;rcases WV.mp hy with e | hy
  ·exact z (e▸hx)
  ·rw[W9.mp hy]at hx;exact y hx⟩
 generalize e5:(S3.set a (.lst (natS ts++[SV.int (u:Nat)]))).set c (.lst (natS tk++[SV.int (f6 es u).1,SV.int (f6 es u).2]))=S5;have T5:TapeS S5 t:=e5▸(P2.tp.other (by omega)).other (by omega);have O5:On t S S5:=e5▸(P2.on.new (by omega)).new (by omega);have a5:S5[a]?=some (.lst (natS (ts++[u]))):=by rw[<-e5,j0 (by omega),u8 P2.ha,m9];rfl
 have b5:S5[b]?=some (.lst (natS ps)):=by rw[<-e5,j0 (by omega),j0 (by omega)];exact P2.hb
 have c5:S5[c]?=some (.lst (natS (tk++[(f6 es u).1,(f6 es u).2]))):=by rw[<-e5,u8 c4,m9];rfl
 have d5:S5[d]?=some (.lst (natS od')):=by rw[<-e5,j0 (by omega),j0 (by omega)];exact P2.hd
 clear e5;refine⟨_,rfl,⟨_,_,rfl,b5⟩,_,rfl,_,_,rfl,rfl,_,rfl,_,pairS (f6 es u),rfl,h1,_,rfl,hd T5 (by decide) (by decide) λr' S6 s0 s1 T6 O6 _=>?_⟩
 have fin:∀ v:Nat,v<n->wSs Δ [] D [some (.loc t),some (j3 n es),some (.loc a),some (.loc b),some (.loc c),some (.loc d),some (.int (u:Nat))] (S6.set b (.lst (natS ps++[SV.int (v:Nat)]))):=λv hv=>by
  refine j4 (q _ (ts++[u]) (ps++[v]) (tk++[(f6 es u).1,(f6 es u).2]) od' _ less ⟨T6.other (by omega),(O5.trans O6).new (by omega),by rw[j0 (by omega)];exact O6.keep _ _ (by omega) a5,?_,by rw[j0 (by omega)];exact O6.keep _ _ (by omega) c5,by rw[j0 (by omega)];exact O6.keep _ _ (by omega) d5,P2.lo,nd2,λp hp=>?_,by rw[W7,W7];show tk.length+2=2 * (ts.length+1);omega,?_,λx hx'=>?_,λx hx'=>?_,P2.lod⟩)
  ·rw[u8 (O6.keep _ _ (by omega) b5),m9];rfl
  ·rcases WH.mp hp with hp | hp
   ·exact P2.lk p hp
   ·rcases WV.mp hp with e | hp
    ·omega
    ·have:=W9.mp hp;omega
  ·rw[W7,W7,k2];rfl
  ·rcases WH.mp hx' with h | h
   ·exact P2.lt x h
   ·rw[W9.mp h];exact hx
  ·rcases WH.mp hx' with h | h
   ·exact P2.lp x h
   ·rw[W9.mp h];exact hv
 have b6:=O6.keep _ _ (by omega) b5;have bnd:(natS ps).length<big:=by rw[c8];show _<100000;omega
 rcases(by omega:r'=0\/r'=1) with rfl | rfl
 ·exact⟨_,.int ((f6 es u).1:Nat),rfl,rfl,_,b6,bnd,fin _ (by omega)⟩
 ·exact⟨_,.int ((f6 es u).2:Nat),rfl,rfl,_,b6,bnd,fin _ (by omega)⟩
theorem Lq{kd:Nat}(hd:v8 (Δ kd)){D:Df}(hb:D.body=KP kd)(hN:D.N.length=7)(hp:D.ps.length=2):Hr (i9 Δ D):=by
 intro t n es S Q T hu hel hn q;have ee:(((es.map pairS).length:Nat):Int)=(es.length:Nat):=by rw[W8]
 unfold i9;rw[hb,hN];have b0:0<=big:=by decide
 refine⟨hp.symm,b0,b0,b0,?_⟩;have tl:t<S.length:=by obtain⟨_,_,e,_⟩:=T.ex;exact u7 e
 refine⟨_,rfl,_,_,rfl,rfl,_,rfl,_,rfl,⟨by rw[ee];omega,by rw[ee];omega⟩,?_⟩;rw[ee,K9];have e1:(S++[SO.lst []]).length=S.length+1:=by rw[W7];rfl
 have e2:(S++[SO.lst []]++[SO.lst []]).length=S.length+2:=by rw[W7,e1];rfl
 have e3:(S++[SO.lst []]++[SO.lst []]++[SO.lst []]).length=S.length+3:=by rw[W7,e2];rfl
 have P0:Pk t S.length (S++[SO.lst []]).length (S++[SO.lst []]++[SO.lst []]).length (S++[SO.lst []]++[SO.lst []]++[SO.lst []]).length n es S (S++[SO.lst []]++[SO.lst []]++[SO.lst []]++[SO.lst (natS (WN es.length))]) [] [] [] (WN es.length):=⟨T.push.push.push.push,(On.refl t S).push.push.push.push,e6 (e6 (e6 c6)),e6 (e6 c6),e6 c6,c6,λx hx=>Wt.mp hx,Y9,(λ_ h=>nomatch h),rfl,rfl,(λ_ h=>nomatch h),(λ_ h=>nomatch h),by rw[Xh];omega⟩
 generalize (S++[SO.lst []]++[SO.lst []]++[SO.lst []]).length=d at *;generalize (S++[SO.lst []]++[SO.lst []]).length=c at *;generalize (S++[SO.lst []]).length=b at *;generalize S++[SO.lst []]++[SO.lst []]++[SO.lst []]++[SO.lst (natS (WN es.length))]=S0 at *;show wSs Δ [(.whl (.cmp .NotEq (.var 5) (.lst .nil)) [pk3 kd,pk4 kd]),pk7] _ [some (.loc t),some (j3 n es),some (.loc S.length),some (.loc b),some (.loc c),some (.loc d),none] S0;refine⟨λm ρ S'=>∃ ts ps tk od o6,ρ=[some (.loc t),some (j3 n es),some (.loc S.length),some (.loc b),some (.loc c),some (.loc d),o6]/\od.length<=m/\Pk t S.length b c d n es S S' ts ps tk od,⟨_,[],[],[],_,_,rfl,WJ _,P0⟩,?_⟩;rintro m ρ S1 ⟨ts,ps,tk,od,o6,rfl,hm,P⟩;have P':Pk t S.length b c d n es S (S1++[SO.lst []]) ts ps tk od:=⟨P.tp.push,P.on.push,e6 P.ha,e6 P.hb,e6 P.hc,e6 P.hd,P.lo,P.nd,P.lk,P.l1,P.l2,P.lt,P.lp,P.lod⟩
 refine⟨_,rfl,b0,_,_,P'.hd,c6,.inr (.inr rfl),_,rfl,?_⟩;rw[BY];cases od with
 | nil=>
   refine ifF rfl ?_;have k1:=P'.l1;have k2:=P'.l2;have nt:tk.length<=n:=Au P'.nd P'.lk;obtain⟨A,eA,pA⟩:=Fp ts;obtain⟨B,eB,pB⟩:=Fp ps;have lA:=pA.length_eq;have lB:=pB.length_eq;refine⟨_,rfl,_,_,nofun,a8 P'.ha,EH _,by unfold iN;rw[W8];omega,_,rfl,_,_,nofun,a8 (e6 P'.hb),EH _,by unfold iN;rw[W8];omega,by show 2<=big;decide,?_⟩;rw[eA,eB,Cy,Cy];have ll:=P'.on.len;refine q _ _ A B _ P'.tp.push.push P'.on.push.push (by omega) (by rw[W7];omega) (e6 c6) c6 (by omega) (by omega) (λx hx=>?_) λx hx=>?_
   ·have:=P.lt x (pA.mem_iff.mp hx);omega
   ·have:=P.lp x (pB.mem_iff.mp hx);omega
 | cons x xs=>
   refine ifT rfl (Da λEw hw _=>?_);refine Qr hd hu hn (by omega) (by omega) (by omega) (by omega) (WJ _) P' nofun λS'' ts ps tk od' o6 hl P''=>hw _ _ ⟨m - 1,by omega,ts,ps,tk,od',o6,rfl,by omega,P''⟩
end
def VH(H:Nat->Prop)(S:Sto)(l:Nat)(xs:List SV):Prop:=¬ H l/\S[l]?=some (.lst xs)
structure HG(H:Nat->Prop)(S S':Sto):Prop where
 len:S.length<=S'.length
 keep:∀(k:Nat) (o:SO),¬ H k->S[k]?=some o->S'[k]?=some o
theorem Gw.hg{H:Nat->Prop}{S S':Sto}(G:Gw S S'):HG H S S':=⟨G.len,λk o _ h=>G.keep k o h⟩
theorem HG.trans{H:Nat->Prop}{S S' S'':Sto}(a:HG H S S')(b:HG H S' S''):HG H S S'':=⟨Ws a.len b.len,λk o n h=>b.keep k o n (a.keep k o n h)⟩
theorem On.hg{H:Nat->Prop}{t:Nat}{S S':Sto}(ht:H t)(O:On t S S'):HG H S S':=⟨O.len,λk o n h=>O.keep k o (λe=>n (e▸ht)) h⟩
theorem Gd.hg{H:Nat->Prop}{S S':Sto}{k b:Nat}{x:SV}(h:Gd (VH H S) k b x)(G:HG H S S'):Gd (VH H S') k b x:=h.see λl xs e=>⟨e.1,G.keep l _ e.1 e.2⟩
theorem Gd.bare{H:Nat->Prop}{S:Sto}{k b:Nat}{x:SV}(h:Gd (VH H S) k b x):Gd (VS S) k b x:=h.see λl xs e=>e.2
def FlatV(y:SV):Prop:=∀(V:Nat->List SV->Prop) (k b:Nat),10<=b->Gd V k b y
theorem FB{i:Nat}(h:i<=1000):FlatV (.int (i:Nat)):=λ_ _ _ _ => .int ⟨by omega,by omega⟩
theorem DG{x:Str}(h:Sz 0 10 (.str x)):FlatV (.str x):=λ_ _ _ hb => .str h hb
def Nw(H:Nat->Prop)(S:Sto):Prop:=∀ k,H k->k<S.length
theorem Nw.on{H:Nat->Prop}{S S':Sto}(h:Nw H S)(l:S.length<=S'.length):Nw H S':=λk hk=>Wu (h k hk) l
theorem Nw.new{H:Nat->Prop}{S:Sto}(h:Nw H S):¬ H S.length:=λz=>Xp _ (h _ z)
section
variable{Δ:Nat->Sn}{H:Nat->Prop}{B:Sto->Prop}{ρ:EnvS}
noncomputable def GE(Δ:Nat->Sn)(H:Nat->Prop)(B:Sto->Prop)(ρ:EnvS)(k b:Nat)(e:Ex):Prop:=∀(S:Sto) (Q:QE),B S->Nw H S->(∀(y:SV) (S':Sto),Gw S S'->Gd (VH H S') k b y->Q y S')->(wEx Δ e).1 ρ S Q
noncomputable def FE(Δ:Nat->Sn)(ρ:EnvS)(e:Ex):Prop:=∀(S:Sto) (Q:QE),(∀ y:SV,FlatV y->Q y S)->(wEx Δ e).1 ρ S Q
noncomputable def LE(Δ:Nat->Sn)(H:Nat->Prop)(B:Sto->Prop)(ρ:EnvS)(m:Nat)(e:Ex):Prop:=∀(S:Sto) (Q:QE),B S->Nw H S->(∀(k:Nat) (xs:List SV) (S':Sto),Gw S S'->¬ H k->S'[k]?=some (.lst xs)->xs.length<=m->(∀ y∈xs,FlatV y)->Q (.loc k) S')->(wEx Δ e).1 ρ S Q
noncomputable def GEs(Δ:Nat->Sn)(H:Nat->Prop)(B:Sto->Prop)(ρ:EnvS)(k b n:Nat)(es:Exs):Prop:=∀(S:Sto) (Q:List SV->Sto->Prop),B S->Nw H S->(∀(ys:List SV) (S':Sto),Gw S S'->ys.length=n->(∀ y∈ys,Gd (VH H S') k b y)->Q ys S')->D6 Δ es ρ S Q
theorem GEs.nil{k b:Nat}:GEs Δ H B ρ k b 0 .nil:=λS Q _ _ q=>q [] S (Gw.refl S) rfl λ_ h=>nomatch h
theorem GEs.cons{k b n:Nat}{e:Ex}{es:Exs}(hB:∀ S S',B S->Gw S S'->B S')(h:GE Δ H B ρ k b e)(hs:GEs Δ H B ρ k b n es):GEs Δ H B ρ k b (n+1) (.cons e es):=λS Q b0 nw q=>
 h S _ b0 nw λy S1 G1 g1=>hs S1 _ (hB _ _ b0 G1) (nw.on G1.len) λys S2 G2 hl hg=>q (y::ys) S2 (G1.trans G2) (by rw[X8,hl]) λz hz=>by
  rcases WV.mp hz with rfl | hz
  ·exact g1.hg G2.hg
  ·exact hg z hz
theorem FE.ge{k b:Nat}{e:Ex}(h:FE Δ ρ e)(hb:10<=b):GE Δ H B ρ k b e:=λS Q _ _ q=>h S Q λy f=>q y S (Gw.refl S) (f _ _ _ hb)
theorem LE.ge{m b:Nat}{k:Nat}{e:Ex}(h:LE Δ H B ρ m e)(hm:m<=63)(hb:m * 11<=b):GE Δ H B ρ (k+1) b e:=λS Q b0 nw q=>
 h S Q b0 nw λl xs S' G nh hl hx hf=>q _ S' G (.lst (k:=k) (b:=10) ⟨nh,hl⟩ (λy hy=>hf y hy _ _ _ (WJ _)) (by omega) (Ws (YO 11 hx) hb))
theorem GE.lst{k b n c:Nat}{es:Exs}(h:GEs Δ H B ρ k b n es)(hn:n<=63)(hc:n * (b+1)<=c):GE Δ H B ρ (k+1) c (.lst es):=λS Q b0 nw q=>
 h S _ b0 nw λys S' G hl hg=>⟨by rw[hl];show n<=100000;omega,q _ _ G.push (.lst ⟨(nw.on G.len).new,c6⟩ (λy hy=>(hg y hy).hg (Gw.refl S').push.hg) (by omega) (by rw[hl];exact hc))⟩
theorem GE.tup{k b n c:Nat}{es:Exs}(h:GEs Δ H B ρ k b n es)(hn:n<=63)(hc:n * (b+1)<=c):GE Δ H B ρ (k+1) c (.tup es):=λS Q b0 nw q=>
 h S _ b0 nw λys S' G hl hg=>⟨by rw[hl];show n<=100000;omega,q _ _ G (.tup hg (by omega) (by rw[hl];exact hc))⟩
theorem LE.one{e:Ex}(h:FE Δ ρ e):LE Δ H B ρ 1 (.lst (.cons e .nil)):=λS Q _ nw q=>h S _ λy f=>⟨by show 1<=100000;decide,q _ _ _ (Gw.refl S).push nw.new c6 (WJ _) λz hz=>by rw[W9.mp hz];exact f⟩
theorem LE.none:LE Δ H B ρ 0 (.lst .nil):=λS Q _ nw q=>⟨by show 0<=100000;decide,q _ _ _ (Gw.refl S).push nw.new c6 (WJ _) λ_ h=>nomatch h⟩
theorem LE.add{m m':Nat}{e e':Ex}(hB:∀ S S',B S->Gw S S'->B S')(h:LE Δ H B ρ m e)(h':LE Δ H B ρ m' e')(hm:m+m'<=1000):LE Δ H B ρ (m+m') (.op .Add e e'):=λS Q b0 nw q=>
 h S _ b0 nw λk xs S1 G1 n1 h1 l1 f1=>h' S1 _ (hB _ _ b0 G1) (nw.on G1.len) λk' ys S2 G2 n2 h2 l2 f2=>by
  refine⟨xs,ys,G2.keep _ _ h1,h2,by show _<=100000;omega,q _ _ _ (G1.trans G2).push (nw.on (G1.trans G2).len).new c6 (by rw[W7];omega) λy hy=>?_⟩;exact(WH.mp hy).elim (f1 y) (f2 y)
structure RowAt(Δ:Nat->Sn)(H:Nat->Prop)(B:Sto->Prop)(ρ:EnvS)(j l n:Nat)(xs:List SV):Prop where
 var:∀(S:Sto) (Q:QE),Q (.loc l) S->(wEx Δ (.var j)).1 ρ S Q
 at':∀ S,B S->S[l]?=some (.lst xs)
 nh:¬ H l
 len:xs.length=n
 fl:∀ y∈xs,FlatV y
noncomputable def IE(Δ:Nat->Sn)(ρ:EnvS)(o:Eo)(i:Option Int):Prop:=∀(S:Sto) (Q:Option Int->Sto->Prop),Q i S->(wEo Δ o).1 ρ S Q
theorem Qs{xs:List SV}{lo hi:Option Int}{y:SV}(h:y∈CU xs lo hi):y∈xs:=YB (Xk h)
theorem Qt(xs:List SV)(lo hi:Option Int):(CU xs lo hi).length<=HT.sIx xs.length xs.length hi - HT.sIx xs.length 0 lo:=by
 unfold CU;rw[Wp];omega
theorem RowAt.le{j l n:Nat}{xs:List SV}(R:RowAt Δ H B ρ j l n xs):LE Δ H B ρ n (.var j):=λS Q b0 nw q=>R.var S Q (q l xs S (Gw.refl S) R.nh (R.at' S b0) (ZV R.len) R.fl)
theorem RowAt.slc{j l n m:Nat}{xs:List SV}{lo hi:Eo}{a b:Option Int}(R:RowAt Δ H B ρ j l n xs)(hl:IE Δ ρ lo a)(hh:IE Δ ρ hi b)(hm:HT.sIx n n b - HT.sIx n 0 a<=m):LE Δ H B ρ m (.slc (.var j) lo hi):=λS Q b0 nw q=>by
 show Pv (wEx Δ (.var j)).1 (wEo Δ lo).1 (wEo Δ hi).1 ρ S Q;exact R.var S _ (hl S _ (hh S _ ⟨xs,R.at' S b0,q _ _ _ (Gw.refl S).push nw.new c6 (Ws (Qt xs a b) (by rw[R.len];exact hm)) λy hy=>R.fl y (Qs hy)⟩))
theorem RowAt.rev{j l n:Nat}{xs:List SV}(R:RowAt Δ H B ρ j l n xs):LE Δ H B ρ n (.rev (.var j)):=λS Q b0 nw q=>by
 show w1 NE (wEx Δ (.var j)).1 ρ S Q;exact R.var S _ ⟨xs,R.at' S b0,q _ _ _ (Gw.refl S).push nw.new c6 (by rw[Yu,R.len];exact WJ _) λy hy=>R.fl y (List.mem_reverse.mp hy)⟩
theorem RowAt.ge{j l n k b:Nat}{xs:List SV}(R:RowAt Δ H B ρ j l n xs)(hn:n<=63)(hb:n * 11<=b):GE Δ H B ρ (k+1) b (.var j):=R.le.ge hn hb
theorem RowAt.tup{j l n k b:Nat}{xs:List SV}(R:RowAt Δ H B ρ j l n xs)(hn:n<=63)(hb:n * 11<=b):GE Δ H B ρ (k+1) b (.bi .tuple (.cons (.var j) .nil)):=λS Q b0 nw q=>
 R.var S _ ⟨xs,a8 (R.at' S b0),q _ S (Gw.refl S) (.tup (k:=k) (b:=10) (λy hy=>R.fl y hy _ _ _ (WJ _)) (by rw[R.len];exact hn) (by rw[R.len];exact hb))⟩
end
section
variable{Δ:Nat->Sn}
def qA1:Eo := .yes (.op .Add (.var 3) (.c (.int 1)))
noncomputable def br1(kd:Nat):Stm:=(.asg (.nm 3) (.call kd (.cons (.var 0) (.cons (.op .Add (.bi .len (.cons (.var 1) .nil)) (.c (.int 1))) .nil))))
noncomputable def br2:Exs:=(.cons (.op .Add (.slc (.var 1) .no (.yes (.var 3))) (.slc (.var 1) qA1 .no)) (.cons (.op .Add (.op .Add (.slc (.var 1) .no (.yes (.var 3))) (.slc (.var 1) (.yes (.var 3)) qA1)) (.slc (.var 1) (.yes (.var 3)) .no)) (.cons (.rev (.var 1)) (.cons (.op .Add (.var 1) (.lst (.cons (.var 2) .nil))) (.cons (.op .Add (.lst (.cons (.neg (.c (.int 1))) .nil)) (.var 1)) .nil)))))
noncomputable def br3(kd:Nat):Stm:=(.asg (.nm 5) (.lst (.cons (.call kd (.cons (.var 0) (.cons (.op .Add (.var 2) (.c (.int 1))) .nil))) .nil)))
noncomputable def br4:Exs:=(.cons (.op .Add (.op .Add (.slc (.var 1) .no (.yes (.var 3))) (.var 5)) (.slc (.var 1) qA1 .no)) (.cons (.op .Add (.op .Add (.slc (.var 1) .no (.yes (.var 3))) (.var 5)) (.slc (.var 1) (.yes (.var 3)) .no)) (.cons (.bi .sorted (.cons (.op .Add (.var 1) (.var 5)) .nil)) .nil)))
noncomputable def br5:Exs:=(.cons (.op .Add (.lst (.cons (.c (.bl true)) .nil)) (.slc (.var 1) (.yes (.c (.int 1))) .no)) (.cons (.op .Add (.var 1) (.lst (.cons (.c (.str "1")) .nil))) (.cons (.op .Add (.var 1) (.lst (.cons (.c .non) .nil))) (.cons (.bi .tuple (.cons (.var 1) .nil)) (.cons (.lst (.cons (.var 1) .nil)) (.cons (.c .non) (.cons (.c (.int 0)) (.cons (.c (.str "")) (.cons (.c (.bl true)) (.cons (.lst (.cons (.lst .nil) .nil)) (.cons (.tup (.cons (.var 1) .nil)) .nil)))))))))))
noncomputable def br6(kd:Nat):Stm:=(.ret (.ix (.var 4) (.call kd (.cons (.var 0) (.cons (.bi .len (.cons (.var 4) .nil)) .nil)))))
noncomputable def Rh(kd:Nat):List Stm:=[br1 kd,(.asg (.nm 4) (.lst br2)),br3 kd,(.asg (.nm 4) (.op .Add (.var 4) (.lst br4))),(.asg (.nm 4) (.op .Add (.var 4) (.lst br5))),br6 kd]
theorem Ob{ρ:EnvS}{v:SV}(h:FlatV v):FE Δ ρ (.c v):=λS Q q=>q v h
theorem JE{x:Str}(h:x.cps.size<=10)(hc:(x.cps.toList.all λc=>decide (c<16 ^ 8))=true):Sz 0 10 (.str x):=by
 obtain⟨d,hd,z⟩:=DN.str (k:=0) (b:=10) (H:=λ_=>none) h hc;unfold Dat at hd;cases d with
 | str j=>cases hd;exact z
 | list _=>obtain⟨_,_,h,_⟩:=hd;cases h
 | tuple _=>obtain⟨_,_,h,_⟩:=hd;cases h
 | dict _=>exact hd.elim
 | _=>cases hd
theorem v9{L:List Nat}(h:∀ x∈L,x<=1000):∀ y∈natS L,FlatV y:=λy hy=>by
 unfold natS at hy;obtain⟨i,hi,rfl⟩:=Wi.mp hy;exact FB (h i hi)
noncomputable def EM(s:Sn):Prop:=∀{t l bl:Nat} {L:List Nat} {H:Nat->Prop} {S:Sto} {Q:QE},TapeS S t->S[l]?=some (.lst (natS L))->H t->¬ H l->Nw H S->L.length<=60->(∀ x∈L,x<=1000)->bl<=1000->(∀(y:SV) (S':Sto),TapeS S' t->On t S S'->Gd (VH H S') 2 1101 y->Q y S')->s [.loc t,.loc l,.int bl] S Q
theorem Gw.on{t:Nat}{S S':Sto}(G:Gw S S'):On t S S':=⟨G.len,λk o _ h=>G.keep k o h⟩
theorem Gw.tape{t:Nat}{S S':Sto}(G:Gw S S')(T:TapeS S t):TapeS S' t:=let ⟨a,b,h,c⟩:=T.ex;⟨a,b,G.keep _ _ h,c⟩
section
variable{H:Nat->Prop}{B:Sto->Prop}{ρ:EnvS}{l n a:Nat}{xs:List SV}
theorem iE0:IE Δ ρ .no none:=λS Q q=>q
theorem sl1(R:RowAt Δ H B ρ 1 l n xs)(i3:IE Δ ρ (.yes (.var 3)) (some (a:Nat))):LE Δ H B ρ a (.slc (.var 1) .no (.yes (.var 3))):=R.slc iE0 i3 (by rw[HT.sIx_nat,HT.sIx_none];omega)
theorem sl2(R:RowAt Δ H B ρ 1 l n xs)(i4:IE Δ ρ qA1 (some ((a+1:Nat):Int))):LE Δ H B ρ (n - a) (.slc (.var 1) qA1 .no):=R.slc i4 iE0 (by rw[HT.sIx_nat,HT.sIx_none];omega)
theorem sl4(R:RowAt Δ H B ρ 1 l n xs)(i3:IE Δ ρ (.yes (.var 3)) (some (a:Nat))):LE Δ H B ρ (n - a) (.slc (.var 1) (.yes (.var 3)) .no):=R.slc i3 iE0 (by rw[HT.sIx_nat,HT.sIx_none];omega)
theorem ge2(R:RowAt Δ H B ρ 1 l n xs)(i3:IE Δ ρ (.yes (.var 3)) (some (a:Nat)))(i4:IE Δ ρ qA1 (some ((a+1:Nat):Int)))(f2:FE Δ ρ (.var 2))(hB:∀ S S',B S->Gw S S'->B S')(hn:n<=60)(ha:a<=n):GEs Δ H B ρ 2 1101 5 br2:=by
 have s1:=sl1 R i3;have s3:LE Δ H B ρ 1 (.slc (.var 1) (.yes (.var 3)) qA1):=R.slc i3 i4 (by rw[HT.sIx_nat,HT.sIx_nat];omega);have f1:FE Δ ρ (.neg (.c (.int 1))):=λS Q q=>q _ λ_ _ _ _ => .int ⟨by decide,by decide⟩;refine GEs.cons hB ((LE.add hB s1 (sl2 R i4) (by omega)).ge (by omega) (by omega)) (GEs.cons hB ((LE.add hB (LE.add hB s1 s3 (by omega)) (sl4 R i3) (by omega)).ge (by omega) (by omega)) (GEs.cons hB (R.rev.ge (by omega) (by omega)) (GEs.cons hB ((LE.add hB R.le (LE.one f2) (by omega)).ge (by omega) (by omega)) (GEs.cons hB ((LE.add hB (LE.one f1) R.le (by omega)).ge (by omega) (by omega)) GEs.nil))))
end
end
section
variable{Δ:Nat->Sn}{t l bl a km v:Nat}{H:Nat->Prop}{L:List Nat}{o4:Option SV}
noncomputable abbrev EB(t l bl a:Nat)(o4 o5:Option SV):EnvS:=[some (.loc t),some (.loc l),some (.int (bl:Nat)),some (.int (a:Nat)),o4,o5]
noncomputable abbrev B4(l km v:Nat)(L:List Nat)(S:Sto):Prop:=S[l]?=some (.lst (natS L))/\S[km]?=some (.lst (natS [v]))
theorem Oc{S S':Sto}(h:B4 l km v L S)(G:Gw S S'):B4 l km v L S':=⟨G.keep _ _ h.1,G.keep _ _ h.2⟩
theorem ge4{B:Sto->Prop}{ρ:EnvS}(R:RowAt Δ H B ρ 1 l L.length (natS L))(R5:RowAt Δ H B ρ 5 km 1 (natS [v]))(i3:IE Δ ρ (.yes (.var 3)) (some (a:Nat)))(i4:IE Δ ρ qA1 (some ((a+1:Nat):Int)))(hB:∀ S S',B S->Gw S S'->B S')(hL:L.length<=60)(ha:a<=L.length)(hx:∀ x∈L,x<=1000)(hv:v<=1000):GEs Δ H B ρ 2 1101 3 br4:=by
 have s5:LE Δ H B ρ (L.length+1) (.bi .sorted (.cons (.op .Add (.var 1) (.var 5)) .nil)):=λS Q b0 nw q=>by
  obtain⟨A,eA,pA⟩:=Fp (L++[v]);have lA:=pA.length_eq;rw[W7]at lA;have lA:A.length=L.length+1:=lA;show w2 IQ (wEx Δ (.var 1)).1 (wEx Δ (.var 5)).1 ρ S _;refine R.var S _ (R5.var S _ ⟨_,_,R.at' S b0,R5.at' S b0,by rw[c8,c8];show _+1<=100000;omega,?_⟩);rw[<-m9];refine⟨_,_,nofun,a8 c6,EH _,by unfold iN;rw[W8,W7];show L.length+1<_;omega,?_⟩;rw[eA,Cy];refine q _ _ _ (Gw.refl S).push.push (nw.on (Gw.refl S).push.len).new c6 (by rw[c8];omega) (v9 λx hx'=>?_);rcases WH.mp (pA.mem_iff.mp hx') with h | h
  ·exact hx x h
  ·rw[W9.mp h];exact hv
 have s1:=LE.add hB (sl1 R i3) R5.le (by omega);exact GEs.cons hB ((LE.add hB s1 (sl2 R i4) (by omega)).ge (by omega) (by omega)) (GEs.cons hB ((LE.add hB s1 (sl4 R i3) (by omega)).ge (by omega) (by omega)) (GEs.cons hB (s5.ge (by omega) (by omega)) GEs.nil))
theorem fls:FlatV .non/\FlatV (.bl true)/\FlatV (.int 0):=⟨λ_ _ _ _ => .non,λ_ _ _ _ => .bl true,λ_ _ _ _ => .int ⟨by decide,by decide⟩⟩
theorem ge5{B:Sto->Prop}{ρ:EnvS}{n:Nat}{xs:List SV}(R:RowAt Δ H B ρ 1 l n xs)(hB:∀ S S',B S->Gw S S'->B S')(hn:n<=60):GEs Δ H B ρ 2 1101 11 br5:=by
 have i1:IE Δ ρ (.yes (.c (.int 1))) (some ((1:Nat):Int)):=λS Q q=>⟨_,rfl,q⟩
 have s1:LE Δ H B ρ n (.slc (.var 1) (.yes (.c (.int 1))) .no):=R.slc i1 iE0 (by rw[HT.sIx_nat,HT.sIx_none];omega);have fs:FlatV (.str "1"):=DG (JE (by decide) (by decide));have fe:FlatV (.str ""):=DG (JE (by decide) (by decide));obtain⟨fn,fb,fi⟩:=fls;have c:∀{u:SV},FlatV u->GE Δ H B ρ 2 1101 (.c u):=λh=>(Ob h).ge (by omega);have g1:GE Δ H B ρ 1 1100 (.var 1):=R.ge (by omega) (by omega);refine GEs.cons hB ((LE.add hB (LE.one (Ob fb)) s1 (by omega)).ge (by omega) (by omega)) (GEs.cons hB ((LE.add hB R.le (LE.one (Ob fs)) (by omega)).ge (by omega) (by omega)) (GEs.cons hB ((LE.add hB R.le (LE.one (Ob fn)) (by omega)).ge (by omega) (by omega)) (GEs.cons hB (R.tup (by omega) (by omega)) (GEs.cons hB (GE.lst (GEs.cons hB g1 GEs.nil) (by omega) (by omega)) ?_))));exact GEs.cons hB (c fn) (GEs.cons hB (c fi) (GEs.cons hB (c fe) (GEs.cons hB (c fb) (GEs.cons hB (GE.lst (b:=0) (GEs.cons hB (LE.none.ge (by omega) (by omega)) GEs.nil) (by omega) (by omega)) (GEs.cons hB (GE.tup (GEs.cons hB g1 GEs.nil) (by omega) (by omega)) GEs.nil)))))
theorem Od{B:Sto->Prop}{ρ:EnvS}{k b n j:Nat}{es:Exs}{rest:List Stm}{D:EndsS}{S:Sto}(h:GEs Δ H B ρ k b n es)(b0:B S)(nw:Nw H S)(hn:n<=1000)(q:∀(ys:List SV) (S':Sto),Gw S S'->ys.length=n->(∀ y∈ys,Gd (VH H S') k b y)->wSs Δ rest D (ρ.set j (some (.loc S'.length))) (S'++[.lst ys])):wSs Δ (.asg (.nm j) (.lst es)::rest) D ρ S:=
 h S _ b0 nw λys S' G hl hg=>⟨by rw[hl];show n<=100000;omega,q ys S' G hl hg⟩
theorem Fq{B:Sto->Prop}{ρ:EnvS}{k b n j k0:Nat}{ys:List SV}{es:Exs}{rest:List Stm}{D:EndsS}{S:Sto}(h:GEs Δ H B ρ k b n es)(b0:B S)(nw:Nw H S)(hv:∀(S:Sto) (Q:QE),Q (.loc k0) S->(wEx Δ (.var j)).1 ρ S Q)(hk:S[k0]?=some (.lst ys))(hn:ys.length+n<=1000)(q:∀(zs:List SV) (S':Sto),Gw S S'->zs.length=n->(∀ y∈zs,Gd (VH H S') k b y)->wSs Δ rest D (ρ.set j (some (.loc (S'++[SO.lst zs]).length))) (S'++[.lst zs]++[.lst (ys++zs)])):wSs Δ (.asg (.nm j) (.op .Add (.var j) (.lst es))::rest) D ρ S:=by
 show w2 IQ (wEx Δ (.var j)).1 (wEx Δ (.lst es)).1 ρ S _;exact hv S _ (h S _ b0 nw λzs S' G hl hg=>⟨by rw[hl];show n<=100000;omega,ys,zs,e6 (G.keep _ _ hk),c6,by rw[hl];show _<=100000;omega,q zs S' G hl hg⟩)
theorem Qu{kd:Nat}(hd:v8 (Δ kd)){D:Df}(hb:D.body=Rh kd)(hN:D.N.length=6)(hp:D.ps.length=3):EM (i9 Δ D):=by
 intro t l bl L H S Q T hl ht nh nw hL hx hbl q;unfold i9;rw[hb,hN];have lt:l≠t:=λe=>nh (e▸ht);refine⟨hp.symm,_,rfl,_,rfl,_,a8 hl,hd T (by rw[c8];omega) (by rw[c8];omega) λr S1 r0 r1 T1 O1 _=>?_⟩;rw[c8]at r1;obtain⟨a,rfl⟩:=Xm r0;have ha:a<=L.length:=by omega
 have l1:=O1.keep _ _ lt hl;have nw1:=nw.on O1.len;show wSs Δ [(.asg (.nm 4) (.lst br2)),br3 kd,(.asg (.nm 4) (.op .Add (.var 4) (.lst br4))),(.asg (.nm 4) (.op .Add (.var 4) (.lst br5))),br6 kd] _ (EB t l bl a none none) S1;refine Od (B:=λS=>S[l]?=some (.lst (natS L))) (ge2 (a:=a) ⟨λS Q q=>⟨_,rfl,q⟩,λS h=>h,nh,c8,v9 hx⟩ (λS Q q=>⟨_,rfl,_,rfl,q⟩) (λS Q q=>⟨_,rfl,_,rfl,q⟩) (λS Q q=>⟨_,rfl,q _ (FB hbl)⟩) (λS S' h G=>G.keep _ _ h) hL ha) l1 nw1 (by decide) λys S2 G2 yl yg=>?_;have T2:=G2.push (o:=SO.lst ys) |>.tape T1
 have O2:On t S (S2++[SO.lst ys]):=(O1.trans G2.on).push;have k2:(S2++[SO.lst ys])[S2.length]?=some (.lst ys):=c6;have n2:¬ H S2.length:=(nw1.on G2.len).new;have yg:∀ y∈ys,Gd (VH H (S2++[SO.lst ys])) 2 1101 y:=λy hy=>(yg y hy).hg (Gw.refl S2).push.hg;generalize S2.length=k at *;generalize S2++[SO.lst ys]=S3 at *;show wSs Δ [br3 kd,(.asg (.nm 4) (.op .Add (.var 4) (.lst br4))),(.asg (.nm 4) (.op .Add (.var 4) (.lst br5))),br6 kd] _ (EB t l bl a (some (.loc k)) none) S3;have kt:k≠t:=λe=>n2 (e▸ht);refine⟨_,rfl,_,rfl,hd T2 (by omega) (by omega) λr S4 s0 s1 T4 O4 _=>⟨by show 1<=big;decide,?_⟩⟩;obtain⟨v,rfl⟩:=Xm s0;have O4':=O2.trans O4;have k4:=e6 (o:=SO.lst [SV.int (v:Nat)]) (O4.keep _ _ kt k2);have m4:(S4++[SO.lst [SV.int (v:Nat)]])[S4.length]?=some (.lst (natS [v])):=c6;have l4:=e6 (o:=SO.lst [SV.int (v:Nat)]) (O4'.keep _ _ lt hl);have n4:¬ H S4.length:=(nw.on O4'.len).new;have yg:∀ y∈ys,Gd (VH H (S4++[SO.lst [SV.int (v:Nat)]])) 2 1101 y:=λy hy=>(yg y hy).hg ((O4.hg ht).trans (Gw.refl S4).push.hg);have T5:=T4.push (o:=SO.lst [SV.int (v:Nat)]);have O5:=O4'.push (o:=SO.lst [SV.int (v:Nat)]);generalize S4.length=km at *;generalize S4++[SO.lst [SV.int (v:Nat)]]=S5 at *;show wSs Δ [(.asg (.nm 4) (.op .Add (.var 4) (.lst br4))),(.asg (.nm 4) (.op .Add (.var 4) (.lst br5))),br6 kd] _ (EB t l bl a (some (.loc k)) (some (.loc km))) S5;have b5:B4 l km v L S5:=⟨l4,m4⟩
 refine Fq (ge4 (a:=a) ⟨λS Q q=>⟨_,rfl,q⟩,λS h=>h.1,nh,c8,v9 hx⟩ ⟨λS Q q=>⟨_,rfl,q⟩,λS h=>h.2,n4,rfl,v9 λx hx=>by rw[W9.mp hx];omega⟩ (λS Q q=>⟨_,rfl,_,rfl,q⟩) (λS Q q=>⟨_,rfl,_,rfl,q⟩) (λS S' h G=>Oc h G) hL ha hx (by omega)) b5 (nw.on O5.len) (λS Q q=>⟨_,rfl,q⟩) k4 (by rw[yl];decide) λzs S6 G6 zl zg=>?_;have G7:=(G6.push (o:=SO.lst zs)).push (o:=SO.lst (ys++zs));have k7:(S6++[SO.lst zs]++[SO.lst (ys++zs)])[(S6++[SO.lst zs]).length]?=some (.lst (ys++zs)):=c6;have n7:¬ H (S6++[SO.lst zs]).length:=(nw.on (O5.trans G6.push.on).len).new
 have yg:∀ y∈ys++zs,Gd (VH H (S6++[SO.lst zs]++[SO.lst (ys++zs)])) 2 1101 y:=λy hy=>by
  rcases WH.mp hy with hy | hy
  ·exact(yg y hy).hg G7.hg
  ·exact(zg y hy).hg (Gw.refl S6).push.push.hg
 have yl:(ys++zs).length=8:=by rw[W7,yl,zl]
 generalize (S6++[SO.lst zs]).length=k' at *;generalize S6++[SO.lst zs]++[SO.lst (ys++zs)]=S7 at *;generalize ys++zs=ws at *;have b7:=Oc b5 G7;have O7:=O5.trans G7.on;have T7:=G7.tape T5;show wSs Δ [(.asg (.nm 4) (.op .Add (.var 4) (.lst br5))),br6 kd] _ (EB t l bl a (some (.loc k')) (some (.loc km))) S7;refine Fq (ge5 (l:=l) ⟨λS Q q=>⟨_,rfl,q⟩,λS h=>h.1,nh,c8,v9 hx⟩ (λS S' h G=>Oc h G) hL) b7 (nw.on O7.len) (λS Q q=>⟨_,rfl,q⟩) k7 (by rw[yl];decide) λus S8 G8 ul ug=>?_;have G9:=(G8.push (o:=SO.lst us)).push (o:=SO.lst (ws++us));have k9:(S8++[SO.lst us]++[SO.lst (ws++us)])[(S8++[SO.lst us]).length]?=some (.lst (ws++us)):=c6;have n9:¬ H (S8++[SO.lst us]).length:=(nw.on (O7.trans G8.push.on).len).new
 have yg:∀ y∈ws++us,Gd (VH H (S8++[SO.lst us]++[SO.lst (ws++us)])) 2 1101 y:=λy hy=>by
  rcases WH.mp hy with hy | hy
  ·exact(yg y hy).hg G9.hg
  ·exact(ug y hy).hg (Gw.refl S8).push.push.hg
 have yl:(ws++us).length=19:=by rw[W7,yl,ul]
 generalize (S8++[SO.lst us]).length=k'' at *;generalize S8++[SO.lst us]++[SO.lst (ws++us)]=S9 at *;generalize ws++us=ws at *;have O9:=O7.trans G9.on;have T9:=G9.tape T7;show wSs Δ [br6 kd] _ (EB t l bl a (some (.loc k'')) (some (.loc km))) S9;refine⟨_,rfl,_,rfl,_,rfl,_,a8 k9,hd T9 (by rw[yl];decide) (by rw[yl];decide) λr S10 u0 u1 T10 O10 _=>?_⟩;rw[yl]at u1;obtain⟨i,rfl⟩:=Xm u0;have hi:i<ws.length:=by omega
 exact⟨_,_,a8 (O10.keep _ _ (λe=>n9 (e▸ht)) k9),i5 (WB hi),q _ _ T10 (O9.trans O10) ((yg _ (Ww hi)).hg (O10.hg ht))⟩
end
section
variable{Δ:Nat->Sn}
noncomputable def pp1:Stm:=(.par 3 4 (.bi .list (.cons (.ix (.var 2) (.c (.int 0))) .nil)) (.bi .list (.cons (.ix (.var 2) (.c (.int 1))) .nil)))
noncomputable def pp2:Exs:=(.cons (.var 2) (.cons (.tup (.cons (.bi .tuple (.cons (.var 3) .nil)) (.cons (.bi .tuple (.cons (.var 4) .nil)) .nil))) (.cons (.lst (.cons (.var 3) (.cons (.var 4) .nil))) (.cons (.tup (.cons (.var 4) (.cons (.var 3) .nil))) (.cons (.tup (.cons (.var 3) .nil)) (.cons (.tup (.cons (.var 3) (.cons (.var 4) (.cons (.tup .nil) .nil)))) .nil))))))
noncomputable def pp3:Exs:=(.cons (.tup (.cons (.var 3) (.cons (.lrng1 (.ix (.var 1) (.c (.int 0)))) .nil))) (.cons (.tup (.cons (.var 3) (.cons (.lst .nil) .nil))) (.cons (.tup (.cons (.lst .nil) (.cons (.var 4) .nil))) (.cons (.tup (.cons (.lst .nil) (.cons (.lst .nil) .nil))) (.cons (.c .non) (.cons (.c (.bl true)) (.cons (.c (.int 0)) (.cons (.c (.str "pair")) (.cons (.tup .nil) (.cons (.lst .nil) .nil))))))))))
noncomputable def be3(kb:Nat):Ex:=(.call kb (.cons (.var 0) (.cons (.var 3) (.cons (.bi .len (.cons (.ix (.var 1) (.c (.int 1))) .nil)) .nil))))
noncomputable def be4(kb:Nat):Ex:=(.call kb (.cons (.var 0) (.cons (.var 4) (.cons (.ix (.var 1) (.c (.int 0))) .nil))))
noncomputable def apd(e e':Ex):Stm:=(.expr (.mt .append (.var 5) (.cons (.tup (.cons e (.cons e' .nil))) .nil)))
noncomputable def KQ(kb:Nat):List Stm:=[pp1,(.asg (.nm 5) (.lst pp2)),(.asg (.nm 5) (.op .Add (.var 5) (.lst pp3))),(.loop (.nm 6) (.rng1 (.c (.int 6))) [apd (be3 kb) (.var 4),apd (.var 3) (be4 kb),(.par 7 8 (be3 kb) (be4 kb)),apd (.var 7) (.var 8)]),(.ret (.var 5))]
noncomputable abbrev EP(t n:Nat)(es:EE)(l1 l2 p3 p4:Nat)(o5 o6 o7 o8:Option SV):EnvS:=[some (.loc t),some (j3 n es),some (.tup [.loc l1,.loc l2]),some (.loc p3),some (.loc p4),o5,o6,o7,o8]
structure B3(l1 l2 p3 p4:Nat)(A B:List Nat)(S:Sto):Prop where
 a1:S[l1]?=some (.lst (natS A))
 a2:S[l2]?=some (.lst (natS B))
 a3:S[p3]?=some (.lst (natS A))
 a4:S[p4]?=some (.lst (natS B))
theorem B3.on{l1 l2 p3 p4:Nat}{A B:List Nat}{S S':Sto}(h:B3 l1 l2 p3 p4 A B S)(G:Gw S S'):B3 l1 l2 p3 p4 A B S':=⟨G.keep _ _ h.a1,G.keep _ _ h.a2,G.keep _ _ h.a3,G.keep _ _ h.a4⟩
section
variable{H:Nat->Prop}{B:Sto->Prop}{ρ:EnvS}{p3 p4 n3 n4:Nat}{xs ys:List SV}
theorem gp2(R3:RowAt Δ H B ρ 3 p3 n3 xs)(R4:RowAt Δ H B ρ 4 p4 n4 ys)(on:∀ S S',B S->Gw S S'->B S')(l3:n3<=60)(l4:n4<=60)(g2:GE Δ H B ρ 3 4000 (.var 2)):GEs Δ H B ρ 3 4000 6 pp2:=by
 have g3:GE Δ H B ρ 2 1100 (.var 3):=R3.ge (by omega) (by omega);have g4:GE Δ H B ρ 2 1100 (.var 4):=R4.ge (by omega) (by omega);have t3:GE Δ H B ρ 2 1100 (.bi .tuple (.cons (.var 3) .nil)):=R3.tup (by omega) (by omega);have t4:GE Δ H B ρ 2 1100 (.bi .tuple (.cons (.var 4) .nil)):=R4.tup (by omega) (by omega);have e0:GE Δ H B ρ 2 1100 (.tup .nil):=GE.tup (b:=0) GEs.nil (by omega) (by omega);exact GEs.cons on g2 (GEs.cons on (GE.tup (GEs.cons on t3 (GEs.cons on t4 GEs.nil)) (by omega) (by omega)) (GEs.cons on (GE.lst (GEs.cons on g3 (GEs.cons on g4 GEs.nil)) (by omega) (by omega)) (GEs.cons on (GE.tup (GEs.cons on g4 (GEs.cons on g3 GEs.nil)) (by omega) (by omega)) (GEs.cons on (GE.tup (GEs.cons on g3 GEs.nil) (by omega) (by omega)) (GEs.cons on (GE.tup (GEs.cons on g3 (GEs.cons on g4 (GEs.cons on e0 GEs.nil))) (by omega) (by omega)) GEs.nil)))))
theorem gp3(R3:RowAt Δ H B ρ 3 p3 n3 xs)(R4:RowAt Δ H B ρ 4 p4 n4 ys)(on:∀ S S',B S->Gw S S'->B S')(l3:n3<=60)(l4:n4<=60)(gr:GE Δ H B ρ 2 1100 (.lrng1 (.ix (.var 1) (.c (.int 0))))):GEs Δ H B ρ 3 4000 10 pp3:=by
 have g3:GE Δ H B ρ 2 1100 (.var 3):=R3.ge (by omega) (by omega);have g4:GE Δ H B ρ 2 1100 (.var 4):=R4.ge (by omega) (by omega);have g0:∀{k b:Nat},GE Δ H B ρ (k+1) b (.lst .nil):=λ{k b}=>LE.none.ge (by omega) (by omega);have e0:GE Δ H B ρ 3 4000 (.tup .nil):=GE.tup (b:=0) GEs.nil (by omega) (by omega);obtain⟨fn,fb,fi⟩:=fls;have fs:FlatV (.str "pair"):=DG (JE (by decide) (by decide));have c:∀{u:SV},FlatV u->GE Δ H B ρ 3 4000 (.c u):=λh=>(Ob h).ge (by omega);refine GEs.cons on (GE.tup (GEs.cons on g3 (GEs.cons on gr GEs.nil)) (by omega) (by omega)) (GEs.cons on (GE.tup (GEs.cons on g3 (GEs.cons on g0 GEs.nil)) (by omega) (by omega)) (GEs.cons on (GE.tup (GEs.cons on g0 (GEs.cons on g4 GEs.nil)) (by omega) (by omega)) (GEs.cons on (GE.tup (k:=2) (b:=0) (GEs.cons on g0 (GEs.cons on g0 GEs.nil)) (by omega) (by omega)) ?_)));exact GEs.cons on (c fn) (GEs.cons on (c fb) (GEs.cons on (c fi) (GEs.cons on (c fs) (GEs.cons on e0 (GEs.cons on g0 GEs.nil)))))
end
theorem Ls{H:Nat->Prop}{S:Sto}{l:Nat}{L:List Nat}(nh:¬ H l)(h:S[l]?=some (.lst (natS L)))(hL:L.length<=60)(hx:∀ x∈L,x<=1000){b:Nat}(hb:1100<=b):Gd (VH H S) 2 b (.loc l) := .lst (k:=1) (b:=10) ⟨nh,h⟩ (λy hy=>v9 hx y hy _ _ _ (WJ _)) (by rw[c8];omega) (by rw[c8];omega)
theorem Tz{V:Nat->List SV->Prop}{y z:SV}(hy:Gd V 2 1101 y)(hz:Gd V 2 1101 z):Gd V 3 4000 (.tup [y,z]):=by
 refine .tup (k:=2) (b:=1101) (λw hw=>?_) (by show 2<=63;decide) (by show 2 * 1102<=4000;decide);rcases WV.mp hw with rfl | hw
 ·exact hy
 ·rw[W9.mp hw];exact hz
structure PS(t f l1 l2 p3 p4:Nat)(A B:List Nat)(S0 S:Sto)(xs:List SV):Prop where
 tp:TapeS S t
 on:On t S0 S
 fa:S[f]?=some (.lst xs)
 gd:∀ x∈xs,Gd (VH (λk=>k=t\/k=f) S) 3 4000 x
 b:B3 l1 l2 p3 p4 A B S
section
variable{t f n l1 l2 p3 p4:Nat}{es:EE}{A B:List Nat}{o6 o7 o8:Option SV}{S0:Sto}
theorem PS.on'{S S':Sto}{xs:List SV}(P:PS t f l1 l2 p3 p4 A B S0 S xs)(ft:f≠t)(m1:l1≠t)(m2:l2≠t)(m3:p3≠t)(m4:p4≠t)(O:On t S S')(T:TapeS S' t):PS t f l1 l2 p3 p4 A B S0 S' xs:=
 ⟨T,P.on.trans O,O.keep _ _ ft P.fa,λx hx=>(P.gd x hx).hg (O.hg (.inl rfl)),O.keep _ _ m1 P.b.a1,O.keep _ _ m2 P.b.a2,O.keep _ _ m3 P.b.a3,O.keep _ _ m4 P.b.a4⟩
structure Sp(t f l1 l2 p3 p4:Nat)(A B:List Nat)(S0:Sto):Prop where
 ft:f≠t
 m1:l1≠t/\l1≠f
 m2:l2≠t/\l2≠f
 m3:p3≠t/\p3≠f
 m4:p4≠t/\p4≠f
 lA:A.length<=60
 lB:B.length<=60
 hA:∀ x∈A,x<=1000
 hB:∀ x∈B,x<=1000
 fo:S0.length<=f
theorem Ri{S:Sto}{xs:List SV}(P:PS t f l1 l2 p3 p4 A B S0 S xs):Nw (λk=>k=t\/k=f) S:=λk hk=>by
 rcases hk with rfl | rfl
 ·obtain⟨_,_,e,_⟩:=P.tp.ex;exact u7 e
 ·exact u7 P.fa
noncomputable def DE(Δ:Nat->Sn)(t f l1 l2 p3 p4:Nat)(A B:List Nat)(S0:Sto)(ρ:EnvS)(e:Ex):Prop:=∀(S:Sto) (xs:List SV) (Q:QE),PS t f l1 l2 p3 p4 A B S0 S xs->(∀(y:SV) (S':Sto),PS t f l1 l2 p3 p4 A B S0 S' xs->HG (λk=>k=t\/k=f) S S'->Gd (VH (λk=>k=t\/k=f) S') 2 1101 y->Q y S')->(wEx Δ e).1 ρ S Q
theorem Rj{kb:Nat}(hb:EM (Δ kb))(C:Sp t f l1 l2 p3 p4 A B S0)(hel:es.length<=90):DE Δ t f l1 l2 p3 p4 A B S0 (EP t n es l1 l2 p3 p4 (some (.loc f)) o6 o7 o8) (be3 kb):=λS xs Q P q=>by
 refine⟨_,rfl,_,rfl,_,rfl,_,_,rfl,rfl,_,rfl,?_⟩;rw[show(((es.map pairS).length:Nat):Int)=(es.length:Nat) by rw[W8]];exact hb P.tp P.b.a3 (.inl rfl) (λz=>z.elim C.m3.1 C.m3.2) (Ri P) C.lA C.hA (by omega) λy S' T O g=>q y S' (P.on' C.ft C.m1.1 C.m2.1 C.m3.1 C.m4.1 O T) (O.hg (.inl rfl)) g
theorem Rk{kb:Nat}(hb:EM (Δ kb))(C:Sp t f l1 l2 p3 p4 A B S0)(hn:n<=60):DE Δ t f l1 l2 p3 p4 A B S0 (EP t n es l1 l2 p3 p4 (some (.loc f)) o6 o7 o8) (be4 kb):=λS xs Q P q=>by
 refine⟨_,rfl,_,rfl,_,rfl,_,_,rfl,rfl,?_⟩;exact hb P.tp P.b.a4 (.inl rfl) (λz=>z.elim C.m4.1 C.m4.2) (Ri P) C.lB C.hB (by omega) λy S' T O g=>q y S' (P.on' C.ft C.m1.1 C.m2.1 C.m3.1 C.m4.1 O T) (O.hg (.inl rfl)) g
theorem HG.refl(H:Nat->Prop)(S:Sto):HG H S S:=⟨WJ _,λ_ _ _ h=>h⟩
theorem W0(C:Sp t f l1 l2 p3 p4 A B S0):DE Δ t f l1 l2 p3 p4 A B S0 (EP t n es l1 l2 p3 p4 (some (.loc f)) o6 o7 o8) (.var 3):=λS xs Q P q=>⟨_,rfl,q _ S P (HG.refl _ S) (Ls (λz=>z.elim C.m3.1 C.m3.2) P.b.a3 C.lA C.hA (by decide))⟩
theorem W3(C:Sp t f l1 l2 p3 p4 A B S0):DE Δ t f l1 l2 p3 p4 A B S0 (EP t n es l1 l2 p3 p4 (some (.loc f)) o6 o7 o8) (.var 4):=λS xs Q P q=>⟨_,rfl,q _ S P (HG.refl _ S) (Ls (λz=>z.elim C.m4.1 C.m4.2) P.b.a4 C.lB C.hB (by decide))⟩
theorem PS.more{S:Sto}{xs:List SV}{y z:SV}(P:PS t f l1 l2 p3 p4 A B S0 S xs)(C:Sp t f l1 l2 p3 p4 A B S0)(hy:Gd (VH (λk=>k=t\/k=f) S) 2 1101 y)(hz:Gd (VH (λk=>k=t\/k=f) S) 2 1101 z):PS t f l1 l2 p3 p4 A B S0 (S.set f (.lst (xs++[.tup [y,z]]))) (xs++[.tup [y,z]]):=by
 have G:HG (λk=>k=t\/k=f) S (S.set f (.lst (xs++[.tup [y,z]]))):=⟨by rw[Wc];exact WJ _,λk o n h=>by rw[j0 (λe=>n (.inr e.symm))];exact h⟩
 refine⟨P.tp.other C.ft,P.on.new C.fo,u8 P.fa,λx hx=>?_,by rw[j0 (Ne.symm C.m1.2)];exact P.b.a1,by rw[j0 (Ne.symm C.m2.2)];exact P.b.a2,by rw[j0 (Ne.symm C.m3.2)];exact P.b.a3,by rw[j0 (Ne.symm C.m4.2)];exact P.b.a4⟩;rcases WH.mp hx with hx | hx
 ·exact(P.gd x hx).hg G
 ·rw[W9.mp hx];exact Tz (hy.hg G) (hz.hg G)
theorem JF{ρ:EnvS}{e e':Ex}{rest:List Stm}{D:EndsS}{S:Sto}{xs:List SV}(C:Sp t f l1 l2 p3 p4 A B S0)(P:PS t f l1 l2 p3 p4 A B S0 S xs)(hv:∀(S:Sto) (Q:QE),Q (.loc f) S->(wEx Δ (.var 5)).1 ρ S Q)(hx:xs.length<=1000)
 (he:∀ Q:List SV->Sto->Prop,(∀(y z:SV) (S':Sto),PS t f l1 l2 p3 p4 A B S0 S' xs->Gd (VH (λk=>k=t\/k=f) S') 2 1101 y->Gd (VH (λk=>k=t\/k=f) S') 2 1101 z->Q [y,z] S')->D6 Δ (.cons e (.cons e' .nil)) ρ S Q)
 (q:∀(y z:SV) (S':Sto),PS t f l1 l2 p3 p4 A B S0 S' (xs++[.tup [y,z]])->wSs Δ rest D ρ S'):wSs Δ (apd e e'::rest) D ρ S:=by
 show wMt .append (wEx Δ (.var 5)).1 (D6 Δ (.cons (.tup (.cons e (.cons e' .nil))) .nil)) ρ S _;refine hv S _ ⟨⟨_,_,rfl,P.fa⟩,?_⟩;show wn Mq (D6 Δ (.cons e (.cons e' .nil))) ρ S _;exact he _ λy z S' P' gy gz=>⟨by show 2<=100000;decide,_,P'.fa,by show _<100000;omega,q y z _ (P'.more C gy gz)⟩
theorem Oe{ρ:EnvS}{e e':Ex}{S:Sto}{xs:List SV}(h:DE Δ t f l1 l2 p3 p4 A B S0 ρ e)(h':DE Δ t f l1 l2 p3 p4 A B S0 ρ e')(P:PS t f l1 l2 p3 p4 A B S0 S xs)(Q:List SV->Sto->Prop)(q:∀(y z:SV) (S':Sto),PS t f l1 l2 p3 p4 A B S0 S' xs->Gd (VH (λk=>k=t\/k=f) S') 2 1101 y->Gd (VH (λk=>k=t\/k=f) S') 2 1101 z->Q [y,z] S'):D6 Δ (.cons e (.cons e' .nil)) ρ S Q:=
 h S xs _ P λy S1 P1 G1 gy=>h' S1 xs _ P1 λz S2 P2 G2 gz=>q y z S2 P2 (gy.hg G2) gz
end
noncomputable def Hs(s:Sn):Prop:=∀{t n l1 l2:Nat} {es:EE} {A B:List Nat} {S:Sto} {Q:QE},TapeS S t->S[l1]?=some (.lst (natS A))->S[l2]?=some (.lst (natS B))->l1≠t->l2≠t->A.length<=60->B.length<=60->(∀ x∈A,x<=1000)->(∀ x∈B,x<=1000)->n<=60->es.length<=90->(∀(f:Nat) (xs:List SV) (S':Sto),TapeS S' t->On t S S'->S'[f]?=some (.lst xs)->xs.length<=63->(∀ x∈xs,Gd (VS S') 3 4000 x)->Q (.loc f) S')->s [.loc t,j3 n es,.tup [.loc l1,.loc l2]] S Q
theorem Lu(hΔ:∀ f,MonoN (Δ f)){kb:Nat}(hb':EM (Δ kb)){D:Df}(hb:D.body=KQ kb)(hN:D.N.length=9)(hp:D.ps.length=3):Hs (i9 Δ D):=by
 intro t n l1 l2 es A B S Q T h1 h2 m1 m2 lA lB hA hB hn hel q;unfold i9;rw[hb,hN];have tl:t<S.length:=by obtain⟨_,_,e,_⟩:=T.ex;exact u7 e
 refine⟨hp.symm,_,rfl,_,_,rfl,rfl,_,a8 h1,_,rfl,_,_,rfl,rfl,_,a8 (e6 h2),?_⟩;have G1:Gw S (S++[SO.lst (natS A)]++[SO.lst (natS B)]):=(Gw.refl S).push.push;have B1:B3 l1 l2 S.length (S++[SO.lst (natS A)]).length A B (S++[SO.lst (natS A)]++[SO.lst (natS B)]):=⟨G1.keep _ _ h1,G1.keep _ _ h2,e6 c6,c6⟩
 have e3:(S++[SO.lst (natS A)]).length=S.length+1:=by rw[W7];rfl
 have l1':=u7 h1;have l2':=u7 h2;have s1:(S++[SO.lst (natS A)]++[SO.lst (natS B)]).length=S.length+2:=by rw[W7,e3];rfl
 generalize (S++[SO.lst (natS A)]).length=p4 at *;generalize hS1:S++[SO.lst (natS A)]++[SO.lst (natS B)]=S1 at *;show wSs Δ [(.asg (.nm 5) (.lst pp2)),(.asg (.nm 5) (.op .Add (.var 5) (.lst pp3))),(.loop (.nm 6) (.rng1 (.c (.int 6))) [apd (be3 kb) (.var 4),apd (.var 3) (be4 kb),(.par 7 8 (be3 kb) (be4 kb)),apd (.var 7) (.var 8)]),(.ret (.var 5))] _ (EP t n es l1 l2 S.length p4 none none none none) S1;have nw1:Nw (λk=>k=t) S1:=λk hk=>by subst hk;omega
 refine Od (H:=λk=>k=t) (B:=B3 l1 l2 S.length p4 A B) (gp2 ⟨λS Q q=>⟨_,rfl,q⟩,λS h=>h.a3,by omega,c8,v9 hA⟩ ⟨λS Q q=>⟨_,rfl,q⟩,λS h=>h.a4,by omega,c8,v9 hB⟩ (λS S' h G=>h.on G) lA lB λS Q b0 nw q=>⟨_,rfl,q _ S (Gw.refl S) (Tz (Ls (H:=λk=>k=t) (b:=1101) m1 b0.a1 lA hA (by decide)) (Ls (H:=λk=>k=t) (b:=1101) m2 b0.a2 lB hB (by decide)))⟩) B1 nw1 (by decide) λys S2 G2 yl yg=>?_;have k2:(S2++[SO.lst ys])[S2.length]?=some (.lst ys):=c6;have G3:=G2.push (o:=SO.lst ys);have yg:∀ y∈ys,Gd (VH (λk=>k=t) (S2++[SO.lst ys])) 3 4000 y:=λy hy=>(yg y hy).hg (Gw.refl S2).push.hg;have B2:=B1.on G3;generalize S2.length=f0 at *;generalize S2++[SO.lst ys]=S3 at *;show wSs Δ [(.asg (.nm 5) (.op .Add (.var 5) (.lst pp3))),(.loop (.nm 6) (.rng1 (.c (.int 6))) [apd (be3 kb) (.var 4),apd (.var 3) (be4 kb),(.par 7 8 (be3 kb) (be4 kb)),apd (.var 7) (.var 8)]),(.ret (.var 5))] _ (EP t n es l1 l2 S.length p4 (some (.loc f0)) none none none) S3
 have rg:GE Δ (λk=>k=t) (B3 l1 l2 S.length p4 A B) (EP t n es l1 l2 S.length p4 (some (.loc f0)) none none none) 2 1100 (.lrng1 (.ix (.var 1) (.c (.int 0)))):=by
  refine LE.ge (m:=n) (λS Q b0 nw q=>?_) (by omega) (by omega);refine⟨_,rfl,_,_,rfl,rfl,_,rfl,⟨by omega,by omega⟩,?_⟩;rw[K9];exact q _ _ _ (Gw.refl S).push nw.new c6 (by rw[c8,Xh];exact WJ _) (v9 λx hx=>by have:=Wt.mp hx;omega)
 refine Fq (H:=λk=>k=t) (B:=B3 l1 l2 S.length p4 A B) (gp3 ⟨λS Q q=>⟨_,rfl,q⟩,λS h=>h.a3,by omega,c8,v9 hA⟩ ⟨λS Q q=>⟨_,rfl,q⟩,λS h=>h.a4,by omega,c8,v9 hB⟩ (λS S' h G=>h.on G) lA lB rg) B2 (nw1.on G3.len) (λS Q q=>⟨_,rfl,q⟩) k2 (by rw[yl];decide) λzs S4 G4 zl zg=>?_;have G5:=(G4.push (o:=SO.lst zs))
 have f5:(S4++[SO.lst zs]++[SO.lst (ys++zs)])[(S4++[SO.lst zs]).length]?=some (.lst (ys++zs)):=c6
 have yg:∀ y∈ys++zs,Gd (VH (λk=>k=t) (S4++[SO.lst zs])) 3 4000 y:=λy hy=>by
  rcases WH.mp hy with hy | hy
  ·exact(yg y hy).hg G5.hg
  ·exact(zg y hy).hg (Gw.refl S4).push.hg
 have yg:∀ y∈ys++zs,Gd (VH (λk=>k=t\/k=(S4++[SO.lst zs]).length) (S4++[SO.lst zs]++[SO.lst (ys++zs)])) 3 4000 y:=λy hy=>(yg y hy).see λl xs e=>⟨λz=>z.elim e.1 λz=>by have:=u7 e.2;omega,e6 e.2⟩
 have yl:(ys++zs).length=16:=by rw[W7,yl,zl]
 have G6:Gw S (S4++[SO.lst zs]++[SO.lst (ys++zs)]):=G1.trans (G3.trans G5.push);have B6:=B2.on (G5.push (o:=SO.lst (ys++zs)));have fl:S.length+2<=(S4++[SO.lst zs]).length:=by have:=(G3.trans G5).len;omega
 generalize (S4++[SO.lst zs]).length=f at *;generalize S4++[SO.lst zs]++[SO.lst (ys++zs)]=S6 at *;generalize ys++zs=xs at *;show wSs Δ [(.loop (.nm 6) (.rng1 (.c (.int 6))) [apd (be3 kb) (.var 4),apd (.var 3) (be4 kb),(.par 7 8 (be3 kb) (be4 kb)),apd (.var 7) (.var 8)]),(.ret (.var 5))] _ (EP t n es l1 l2 S.length p4 (some (.loc f)) none none none) S6;have C:Sp t f l1 l2 S.length p4 A B S:=⟨by omega,⟨m1,by omega⟩,⟨m2,by omega⟩,⟨by omega,by omega⟩,⟨by omega,by omega⟩,lA,lB,hA,hB,by omega⟩
 have P6:PS t f l1 l2 S.length p4 A B S S6 xs:=⟨G6.tape T,G6.on,f5,yg,B6⟩
 refine⟨_,rfl,⟨by decide,by decide⟩,?_⟩;refine Ad (i7 hΔ _) (λi ρ S'=>∃ xs o6 o7 o8,ρ=EP t n es l1 l2 S.length p4 (some (.loc f)) o6 o7 o8/\xs.length=16+3 * i/\PS t f l1 l2 S.length p4 A B S S' xs) ⟨xs,none,none,none,rfl,yl,P6⟩ (λ_ _ _ _=>trivial) ?_ ?_
 ·rintro i x ρ S7 E hE _ hx ⟨xs,o6,o7,o8,rfl,hl,P⟩;have hi:i<6:=(gM hx).1;obtain⟨rfl,_⟩:=n8 hx;rw[Y3];show wSs Δ [apd (be3 kb) (.var 4),apd (.var 3) (be4 kb),(.par 7 8 (be3 kb) (be4 kb)),apd (.var 7) (.var 8)] E (EP t n es l1 l2 S.length p4 (some (.loc f)) (some (.int (i:Nat))) o7 o8) S7;refine JF C P (λS Q q=>⟨_,rfl,q⟩) (by omega) (Oe (Rj hb' C hel) (W3 C) P) λy1 z1 S8 P8=>?_;refine JF C P8 (λS Q q=>⟨_,rfl,q⟩) (by rw[W7];show _+1<=_;omega) (Oe (W0 C) (Rk hb' C hn) P8) λy2 z2 S9 P9=>?_;refine Rj hb' C hel S9 _ _ P9 λy3 Sa Pa Ga ga=>Rk hb' C hn Sa _ _ Pa λz3 Sb Pb Gb gb=>?_;show wSs Δ [apd (.var 7) (.var 8)] E (EP t n es l1 l2 S.length p4 (some (.loc f)) (some (.int (i:Nat))) (some y3) (some z3)) Sb;refine JF C Pb (λS Q q=>⟨_,rfl,q⟩) (by rw[W7,W7];show _+1+1<=_;omega) (λQ q=>⟨_,rfl,_,rfl,q y3 z3 Sb Pb (ga.hg Gb) gb⟩) λy4 z4 Sc Pc=>?_;refine j4 (hE _ _ ⟨_,_,_,_,rfl,?_,Pc⟩);rw[W7,W7,W7];show xs.length+1+1+1=_;omega
 ·rintro ρ S7 ⟨xs,o6,o7,o8,rfl,hl,P⟩;have e:(Bf 0 6).length=6:=rfl;rw[e]at hl;exact⟨_,rfl,q f xs S7 P.tp P.on P.fa (by omega) λx hx=>(P.gd x hx).bare⟩
end
def sdL(sl:List (Option Nat))(p:Nat):Nat:=(sl.getD p none).getD 0
structure SdOk(n:Nat)(es:EE)(sl:List (Option Nat)):Prop where
 get:∀ p,p<n->sl[p]?=some (some (sdL sl p))
 sdd:Sdd n es (sdL sl)
theorem U0{sl:List (Option Nat)}{p v:Nat}(h:sl[p]?=some (some v)):sdL sl p=v:=by
 unfold sdL;rw[Wr,h];rfl
theorem Qv{n:Nat}{es:EE}{c f:Nat->Nat}{sd:List (Option Nat)}(H:Sdd n es c)(G:Sl n es c sd f λ_ _=>False)(hs:∀ p,p<n->IsSet sd p):SdOk n es sd:=by
 have get:∀ p,p<n->sd[p]?=some (some (sdL sd p)):=λp hp=>by
  obtain⟨v,hv⟩:=hs p hp;rw[U0 hv];exact hv
 refine⟨get,H.en,λp=>?_,λe he=>?_⟩
 ·by_cases hp:p<n
  ·have:=G.val _ _ (get p hp);omega
  ·unfold sdL;rw[Wr,Y7 (by rw[G.ls];omega)];show 0<2;omega
 ·have hee:=H.en e he;obtain⟨i,hi,hei⟩:=YR he;have he':es[i]?=some e:=by rw[WB hi,hei]
  have h1:=G.val _ _ (get e.1 (by omega));have h2:=G.val _ _ (get e.2 (by omega));have h3:=(G.cl i e e.1 he' (.inl rfl) (hs e.1 (by omega)) id).2;rw[show farE e e.1=e.2 by unfold farE;rw[iP rfl]]at h3;rw[h3]at h2;have h4:=H.ne e he;have h5:=H.two e.1;have h6:=H.two e.2;omega
section
variable{Δ:Nat->Sn}
noncomputable def JG(s:Sn):Prop:=∀{n:Nat} {es:EE} {c:Nat->Nat} {S:Sto} {Q:QE},Sdd n es c->es.length<=5000->n<=1000->(∀(a:Nat) (sl:List (Option Nat)) (S':Sto),Gw S S'->S'[a]?=some (.lst (optsS sl))->SdOk n es sl->Q (.tup [.str "sides",.loc a]) S')->s [j3 n es] S Q
theorem Qw{kg kr:Nat}(hΔ:∀ f,MonoN (Δ f))(hg:Fn (Δ kg)){D:Df}(hb:D.body=VP kg kr)(hN:D.N.length=7)(hp:D.ps.length=1):JG (i9 Δ D):=by
 intro n es c S Q H hel hn q1;unfold i9;rw[hb,hN];refine⟨hp.symm,by show 1<=big;decide,_,rfl,_,_,rfl,rfl,_,c6,⟨by omega,by omega⟩,by simp;show _<=100000;omega,?_⟩;rw[KA];refine⟨by show 1<=big;decide,_,rfl,_,_,rfl,rfl,_,c6,⟨by omega,by omega⟩,by simp;show _<=100000;omega,?_⟩;rw[KA];generalize ha:(S++[SO.lst [SV.non]]).length=a;have ha1:S.length<a:=by rw[<-ha];simp
 have hSa:(S++[SO.lst [SV.non]]++[SO.lst (optsS (WM n none))])[a]?=some (.lst (optsS (WM n none))):=by rw[<-ha];exact c6
 have G0:Gw S (S++[SO.lst [SV.non]]++[SO.lst (optsS (WM n none))]):=(Gw.refl S).push.push;generalize S++[SO.lst [SV.non]]++[SO.lst (optsS (WM n none))]=S1 at *;generalize hb2:(S1++[SO.lst [SV.non]]).length=b;have hb1:S1.length<b:=by rw[<-hb2];simp
 have hSb:(S1++[SO.lst [SV.non]]++[SO.lst (optsS (WM n none))])[b]?=some (.lst (optsS (WM n none))):=by rw[<-hb2];exact c6
 have hS2:=e6 (o:=SO.lst (optsS (WM n none))) (e6 (o:=SO.lst [SV.non]) hSa);have G2:=(G0.push (o:=SO.lst [SV.non])).push (o:=SO.lst (optsS (WM n none)));have hab:=u7 hSa;generalize S1++[SO.lst [SV.non]]++[SO.lst (optsS (WM n none))]=S2 at *
 have st0:Sl n es c (WM n none) (λ_=>0) λ_ _=>False:=by
  have h:∀ p v,(WM n (none:Option Nat))[p]?=some (some v)->False:=λp v hv=>by
   have:=WC hv;rw[List.mem_replicate]at this;cases this.2
  exact⟨by simp,λp v hv=>(h p v hv).elim,λ_ _ p _ _ hq=>by obtain⟨v,hv⟩:=hq;exact(h p v hv).elim⟩
 refine⟨_,rfl,_,_,rfl,rfl,_,rfl,⟨by omega,by omega⟩,?_⟩
 refine Ad (i7 hΔ _) (λi ρ S'=>∃ sd bk f o3,ρ=[some (j3 n es),some (.loc a),some (.loc b),o3,none,none,none]/\Sl n es c sd f (λ_ _=>False)/\bk.length=n/\(∀ p,p<i->IsSet sd p)/\S'[a]?=some (.lst (optsS sd))/\S'[b]?=some (.lst (optsS bk))/\Gw S S')
  ⟨_,_,_,none,rfl,st0,by simp,λ_ h=>by omega,hS2,hSb,G2⟩ (λ_ _ _ _=>trivial) ?_ ?_
 ·rintro i x ρ S' E hnx _ hx ⟨sd,bk,f,o3,rfl,G,hbl,hs,ha',hb',Gw'⟩;obtain⟨rfl,hi⟩:=n8 hx;rw[Y3]at hi ⊢;have hil:i<sd.length:=by rw[G.ls];omega
  cases hx:sd[i] with
  | some v=>
    have h:sd[i]?=some (some v):=by rw[WB hil,hx]
    refine⟨_,rfl,_,rfl,_,_,a8 ha',i5 (m5 h),.inl ⟨rfl,_,rfl,ifF rfl ?_⟩⟩;refine hnx _ _ ⟨sd,bk,f,_,rfl,G,hbl,λp hp=>?_,ha',hb',Gw'⟩;by_cases hpi:p=i
    ·rw[hpi];exact⟨v,h⟩
    ·exact hs p (by omega)
  | none=>
    have h:sd[i]?=some none:=by rw[WB hil,hx]
    refine⟨_,rfl,_,rfl,_,_,a8 ha',i5 (m5 h),.inl ⟨rfl,_,rfl,ifT rfl ?_⟩⟩;refine⟨_,rfl,_,rfl,_,rfl,_,rfl,hg H hel hn G hbl h (by omega) ha' hb' λsd' bk' f' S'' G' b' k1 k2 h1 h2 h3 h4=>?_⟩;refine hnx _ _ ⟨sd',bk',f',_,rfl,G',b',λp hp=>?_,h1,h2,⟨Ws Gw'.len h3,λk o hk=>h4 k o (by have:=u7 hk;omega) (by have:=u7 hk;omega) (Gw'.keep k o hk)⟩⟩;by_cases hpi:p=i
    ·rw[hpi];exact k2
    ·exact k1 p (hs p (by omega))
 ·rintro ρ S' ⟨sd,bk,f,o3,rfl,G,hbl,hs,ha',hb',Gw'⟩;rw[v0]at hs;refine⟨_,rfl,_,_,rfl,rfl,_,rfl,?_⟩;refine Ad (i7 hΔ _) (λi ρ S2=>∃ o4 o5 o6,ρ=[some (j3 n es),some (.loc a),some (.loc b),o3,o4,o5,o6]/\S2=S') ⟨_,_,_,rfl,rfl⟩ (λ_ _ _ _=>trivial) ?_ ?_
  ·rintro i x ρ _ E hnx _ hx ⟨p4,p5,p6,rfl,rfl⟩;obtain⟨y,hy,rfl⟩:=J1 hx;obtain⟨e,he,rfl⟩:=C5 hy;have hee:=H.en e (WC he);obtain⟨u,hu⟩:=hs e.1 (by omega);obtain⟨v,hv⟩:=hs e.2 (by omega);refine⟨_,rfl,_,rfl,_,_,a8 ha',i5 (m5 hu),_,rfl,_,rfl,_,_,a8 ha',i5 (m5 hv),_,rfl,?_⟩;refine ifD (λh=>False.elim ?_) (λh=>hnx _ _ ⟨_,_,_,rfl,rfl⟩);have h:u=v:=X5.mp h;have h1:=G.val _ _ hu;have h2:=G.val _ _ hv;have h3:=(G.cl i e e.1 he (.inl rfl) ⟨u,hu⟩ id).2;rw[show farE e e.1=e.2 by unfold farE;rw[iP rfl]]at h3;rw[h3]at h2;have h4:=H.ne e (WC he);have h5:=H.two e.1;have h6:=H.two e.2;omega
  ·rintro ρ _ ⟨p4,p5,p6,rfl,rfl⟩;exact⟨_,rfl,by show 2<=big;decide,q1 _ sd _ Gw' ha' (Qv H G λp hp=>hs p (by omega))⟩
noncomputable def EN(s:Sn):Prop:=∀{n:Nat} {es:EE} {c:Nat->Nat} {S:Sto} {Q:QE},Sdd n es c->es.length<=5000->n<=249->(∀(a:Nat) (sl:List (Option Nat)) (S':Sto),Gw S S'->S'[a]?=some (.lst (optsS sl))->SdOk n es sl->Q (.loc a) S')->s [j3 n es] S Q
theorem Lv{k:Nat}(h2:JG (Δ k)){D:Df}(hb:D.body=HS k)(hN:D.N.length=3)(hp:D.ps.length=1):EN (i9 Δ D):=by
 intro n es c S Q H hel hn q;unfold i9;rw[hb,hN];refine⟨hp.symm,_,rfl,h2 H hel (by omega) λa sl S' G h O=>?_⟩;exact⟨_,rfl,_,rfl,ifF (decide_eq_false (by decide)) ⟨_,rfl,q a sl S' G h O⟩⟩
noncomputable def EO(s:Sn):Prop:=∀{n:Nat} {es:EE} {S:Sto} {Q:QE},Web2 n es->(∀(sl:List (Option Nat)) (l1 l2:Nat) (S':Sto),Sdd n es (sdL sl)->Gw S S'->S.length<=l1->S.length<=l2->l1≠l2->S'[l1]?=some (.lst (natS (BA (C7 n es (sdL sl)))))->S'[l2]?=some (.lst (natS (C8 n es (sdL sl))))->Q (.tup [.loc l1,.loc l2]) S')->s [j3 n es] S Q
theorem Ea(hΔ:∀ f,MonoN (Δ f)){kw ko:Nat}(hw:EF (Δ kw))(ho:Cw (Δ ko)){n ld lp:Nat}{sl:List (Option Nat)}{es:EE}{S0 S:Sto}{Q:QE}{o3:Option SV}(W:Web2 n es)(H:Sdd n es (sdL sl))(sdg:∀ p,p<n->(sl)[p]?=some (some (sdL sl p)))(hsd:S[ld]?=some (.lst (optsS (sl))))(hlp:S[lp]?=some (.lst (optsS (C7 n es (sdL sl)))))(G:Gw S0 S)
 (q:∀(l1 l2:Nat) (S':Sto),Gw S0 S'->S0.length<=l1->S0.length<=l2->l1≠l2->S'[l1]?=some (.lst (natS (BA (C7 n es (sdL sl)))))->S'[l2]?=some (.lst (natS (C8 n es (sdL sl))))->Q (.tup [.loc l1,.loc l2]) S'):
 wSs Δ [pg4,pg5 kw,pg6,pg7 ko] (AK Q) [some (j3 n es),some (.loc ld),some (.loc lp),o3,none,none,none] S:=by
 have hn:=W.few;have R:=Bh H n (WJ _);have K:Cons n es (C7 n es (sdL sl)):=R.co;unfold C8 at q;generalize C7 n es (sdL sl)=P at *;have O:=Cu (sd:=sdL sl) K.len;refine⟨_,rfl,_,_,rfl,rfl,_,rfl,⟨by omega,by omega⟩,?_⟩;refine m7 (j6 hΔ _).2 (a7 hΔ _).1 (λi ys S2=>S2=S/\ys=natS (AC i (sdL sl) P)) ⟨rfl,rfl⟩ (λ_ _ _ _=>trivial) ?_ ?_
 ·rintro i x ys S2 hx ⟨rfl,rfl⟩;obtain⟨rfl,hi⟩:=n8 hx;rw[Y3]at hi ⊢;have hi:i<n:=by omega
  have hs:=Hf i (sdL sl) P;have hl:=Hg i (sdL sl) P;have g1:=m5 (sdg i hi);have hPi:=Cb (show i<P.length by rw[K.len];exact hi);have g2:=m5 hPi;refine⟨_,rfl,_,rfl,_,SV.int (sdL sl i),a8 hsd,i5 (v:=SV.int (sdL sl i)) g1,_,rfl,?_⟩;refine ifD (λh=>?_) (λh=>ifF rfl ?_)
  ·have h:sdL sl i=0:=by have:((sdL sl i:Nat):Int)=0:=h;omega
   cases hv:P.getD i none with
   | none=>
     rw[hv]at g2;rw[iP ⟨h,hv⟩]at hs;exact⟨_,rfl,_,rfl,_,SV.non,a8 hlp,i5 (v:=SV.non) g2,.inl ⟨rfl,_,rfl,ifT rfl ⟨_,rfl,by rw[c8];show _<100000;omega,rfl,by rw[hs,m9];rfl⟩⟩⟩
   | some t=>
     rw[hv]at g2;rw[iG (by rw[hv];exact λz=>nomatch z.2),XZ]at hs;exact⟨_,rfl,_,rfl,_,SV.int t,a8 hlp,i5 (v:=SV.int t) g2,.inl ⟨rfl,_,rfl,ifF rfl ⟨rfl,by rw[hs]⟩⟩⟩
  ·have h:¬ sdL sl i=0:=λz=>h (by show((sdL sl i:Nat):Int)=0;omega);rw[iG (λz=>h z.1),XZ]at hs;exact⟨rfl,by rw[hs]⟩
 ·rintro ys S2 ⟨rfl,rfl⟩;rw[v0,show((n:Int) - 0).toNat=n by omega];refine⟨_,rfl,_,rfl,_,rfl,hw H K O (by omega) W.len (e6 hlp) c6 λlc S3 G3 hl3 h3=>?_⟩;rw[W7,Wh]at hl3;have hsd3:=G3.keep _ _ (e6 (o:=SO.lst (natS (AC n (sdL sl) P))) hsd);have hlp3:=G3.keep _ _ (e6 (o:=SO.lst (natS (AC n (sdL sl) P))) hlp);have G4:Gw S0 S3:=G.push.trans G3;generalize Bb n es P (AC n (sdL sl) P)=cm at *;refine⟨_,rfl,_,_,rfl,rfl,_,rfl,⟨by omega,by omega⟩,?_⟩;refine m7 (j6 hΔ _).2 (a7 hΔ _).1 (λi ys S5=>S5=S3/\ys=natS (Ct i (sdL sl) cm)) ⟨rfl,rfl⟩ (λ_ _ _ _=>trivial) ?_ ?_
  ·rintro i x ys S5 hx ⟨rfl,rfl⟩;obtain⟨rfl,hi⟩:=n8 hx;rw[Y3]at hi ⊢;have hi:i<n:=by omega
   have hs:=OI i (sdL sl) cm;have hl:=OJ i (sdL sl) cm;have g1:=m5 (sdg i hi);refine⟨_,rfl,_,rfl,_,_,KF h3,rfl,_,rfl,_,rfl,_,SV.int (sdL sl i),a8 hsd3,i5 (v:=SV.int (sdL sl i)) g1,_,rfl,?_⟩;have eb:(Ci (camS cm) (i:Int)).isSome=(lk cm i).isSome:=by rw[Bi,Xy]
   have e1:(((sdL sl i:Nat):Int) == 1)=decide (sdL sl i=1):=by
    rw[X4,bQ,dQ];omega
   show if ((Ci (camS cm) (i:Int)).isSome == (((sdL sl i:Nat):Int) == 1))=true then _ else _
   rw[eb,e1];refine ifB (λh=>?_) (λh=>?_)
   ·rw[iP h]at hs;exact⟨_,rfl,by rw[c8];show _<100000;omega,rfl,by rw[hs,m9];rfl⟩
   ·rw[iG (by rw[h];decide),XZ]at hs;exact⟨rfl,by rw[hs]⟩
  ·rintro ys S5 ⟨rfl,rfl⟩;rw[v0,show((n:Int) - 0).toNat=n by omega];have hlp5:=e6 (o:=SO.lst (natS (Ct n (sdL sl) cm))) hlp3;refine⟨_,rfl,ho hlp5 (by rw[K.len];exact hn) ⟨_,rfl,by show 2<=big;decide,?_⟩⟩;have g0:=G.len;have g4:=G4.len;refine q _ _ _ G4.push.push (by rw[W7];omega) g4 (by rw[W7];simp) c6 (e6 c6)
theorem Ht(hΔ:∀ f,MonoN (Δ f)){ks kg kw ko:Nat}(hs:EN (Δ ks))(hg:Fk (Δ kg))(hw:EF (Δ kw))(ho:Cw (Δ ko)){D:Df}(hb:D.body=Hd ks kg kw ko)(hN:D.N.length=7)(hp:D.ps.length=1):EO (i9 Δ D):=by
 intro n es S Q W q;have hn:=W.few;obtain⟨c,c2,cn⟩:=W.two;unfold i9;rw[hb,hN];refine⟨hp.symm,_,rfl,hs (c:=c) ⟨W.en,c2,cn⟩ (by have:=W.len;omega) (by omega) λld sl S1 G1 hsd OK=>?_⟩;have sdg:=OK.get;have H:=OK.sdd;refine⟨by show 1<=big;decide,_,rfl,_,_,rfl,rfl,_,c6,⟨by omega,by omega⟩,by show 1 * _<=100000;omega,?_⟩;have er:(WM ((n:Int)).toNat [SV.non]).flatten=optsS (WM n none):=by rw[Xf,He]
 rw[er];have hsd2:=e6 (o:=SO.lst (optsS (WM n none))) (e6 (o:=SO.lst [SV.non]) hsd);have hlp2:((S1++[SO.lst [SV.non]])++[SO.lst (optsS (WM n none))])[(S1++[SO.lst [SV.non]]).length]?=some (.lst (optsS (WM n none))):=c6;have G2:Gw S1 ((S1++[SO.lst [SV.non]])++[SO.lst (optsS (WM n none))]):=(Gw.refl S1).push.push;have ldl:=u7 hsd;have nlp:ld≠(S1++[SO.lst [SV.non]]).length:=by rw[W7];omega
 have lpl:S1.length<=(S1++[SO.lst [SV.non]]).length:=by rw[W7];omega
 generalize (S1++[SO.lst [SV.non]]).length=lp at *;generalize (S1++[SO.lst [SV.non]])++[SO.lst (optsS (WM n none))]=S2 at *;refine⟨_,rfl,_,_,rfl,rfl,_,rfl,⟨by omega,by omega⟩,?_⟩;refine v7 (i7 hΔ _) (λi ρ S3=>∃ o3,ρ=[some (j3 n es),some (.loc ld),some (.loc lp),o3,none,none,none]/\Kp lp S2 S3/\S3[lp]?=some (.lst (optsS (AI n es (sdL sl) i)))) ⟨none,rfl,Kp.refl lp S2,hlp2⟩ (λ_ _ _ _=>trivial) ?_ ?_
 ·rintro i x ρ S3 hx ⟨o3,rfl,K3,h3⟩;obtain⟨rfl,hi⟩:=n8 hx;rw[Y3]at hi ⊢;have hi:i<n:=by omega
  have hsd3:=K3.keep _ _ nlp hsd2;have R:=Bh H i (by omega);have ep:AI n es (sdL sl) (i+1)=if sdL sl i=0 then F8 n es (AI n es (sdL sl) i) i 0 else AI n es (sdL sl) i:=rfl
  refine⟨_,rfl,_,rfl,_,SV.int (sdL sl i),a8 hsd3,i5 (v:=SV.int (sdL sl i)) (m5 (sdg i hi)),_,rfl,?_⟩;refine ifD (λh=>?_) (λh=>j4 ?_)
  ·have h:sdL sl i=0:=by have:((sdL sl i:Nat):Int)=0:=h;omega
   rw[iP h]at ep;have O:Open [i] (sdL sl) n (AI n es (sdL sl) i):=⟨by simp,λp hp=>by rw[W9.mp hp];exact⟨hi,h,R.un i (WJ _) hi h⟩⟩
   refine⟨_,rfl,_,rfl,_,rfl,hg (nd:=0) H R.co O (by omega) W.len h3 λS4 K4 h4=>?_⟩;exact⟨_,rfl,K3.trans K4,by rw[ep];exact h4⟩
  ·have h:¬ sdL sl i=0:=λz=>h (by show((sdL sl i:Nat):Int)=0;omega);rw[iG h]at ep;exact⟨_,rfl,K3,by rw[ep];exact h3⟩
 ·rintro ρ S3 ⟨o3,rfl,K3,h3⟩;rw[v0,show((n:Int) - 0).toNat=n by omega]at h3;have G3:Gw S S3:=⟨by have:=G1.len;have:=G2.len;have:=K3.len;omega,λk o e=>K3.keep k o (λz=>by have:=u7 e;have:=G1.len;omega) (G2.keep k o (G1.keep k o e))⟩
  exact Ea hΔ hw ho W H sdg (K3.keep _ _ nlp hsd2) h3 G3 λl1 l2 S' g a b c d e=>q sl l1 l2 S' H g a b c d e
end
theorem Of{n:Nat}{es:EE}{sd:Nat->Nat}(W:Web2 n es)(H:Sdd n es sd):Rt n es (BA (C7 n es sd)) (C8 n es sd):=by
 obtain⟨K,cv,ln⟩:=Tt H;refine⟨HZ _,K.tlt,?_,λc hc=>?_,ln,K.apart,cv,λe he=>(W.en e he).1,W.few,W.len⟩
 ·unfold C8 Ct;exact List.Pairwise.filter _ Yg
 ·exact(mem_covF.mp hc).1
end Rf
namespace Hue
open PySem L2 Rf
noncomputable def Lx:Stm:=(.asg (.nm 7) (.bi .str (.cons (.var 6) .nil)))
noncomputable def Ly:Stm:=(.asg (.nm 8) (.call 21 (.cons (.var 3) (.cons (.var 6) .nil))))
noncomputable def Lz:Stm:=(.iff (.or (.not (.bi .isi (.cons (.var 8) (.cons (.tyc .bool) .nil)))) (.or (.cmp .NotEq (.var 8) (.call 29 (.cons (.var 3) (.cons (.var 6) .nil)))) (.cmp .NotEq (.bi .str (.cons (.var 6) .nil)) (.var 7)))) [(.ret (.c (.bl false)))] [])
noncomputable def Lg:Stm:=(.loop (.nm 5) (.seq (.var 4)) [(.loop (.nm 6) (.seq (.call 32 (.cons (.var 2) (.cons (.var 3) (.cons (.var 5) .nil))))) [Lx,Ly,Lz])])
noncomputable def top(i:Nat):Stmt:=PySem.Challenge.pw_huedties_k27_pairings_shown.main.body.getD i (.Pass ⟨0,0,0,0⟩)
noncomputable def b0:List Stm:=J0
noncomputable def d0:Df:=⟨"is_number",top 1,["thing"],["thing"],b0⟩
noncomputable def b1:List Stm:=VU
noncomputable def d1:Df:=⟨"is_listed",top 2,["thing"],["thing"],b1⟩
noncomputable def b2:List Stm:=bPr
noncomputable def d2:Df:=⟨"is_pair",top 3,["thing"],["thing"],b2⟩
noncomputable def b3:List Stm:=OQ 1 0
noncomputable def d3:Df:=⟨"is_rising",top 4,["thing"],["thing"],b3⟩
noncomputable def b4:List Stm:=DB 0
noncomputable def d4:Df:=⟨"has_place",top 11,["web","place"],["web","place"],b4⟩
noncomputable def b5:List Stm:=Fa 0
noncomputable def d5:Df:=⟨"has_tie",top 12,["web","tie"],["web","tie"],b5⟩
noncomputable def b6:List Stm:=Fb 4
noncomputable def d6:Df:=⟨"check_place",top 13,["web","place"],["web","place"],b6⟩
noncomputable def b7:List Stm:=Fb 5
noncomputable def d7:Df:=⟨"check_tie",top 14,["web","tie"],["web","tie"],b7⟩
noncomputable def b8:List Stm:=K0 6
noncomputable def d8:Df:=⟨"ties_at",top 15,["web","place"],["web","place"],b8⟩
noncomputable def b9:List Stm:=OE 8
noncomputable def d9:Df:=⟨"count_at",top 16,["web","place"],["web","place"],b9⟩
noncomputable def b10:List Stm:=K5 7
noncomputable def d10:Df:=⟨"far_end",top 17,["web","tie","place"],["web","tie","place","one","other"],b10⟩
noncomputable def b11:List Stm:=Ra 8 10
noncomputable def d11:Df:=⟨"give_sides",top 19,["web","start","sides","back"],["web","start","sides","back","waiting","place","tie","far"],b11⟩
noncomputable def b12:List Stm:=[(.asg (.nm 3) (.lst .nil)),(.whl (.cmp .IsNot (.ix (.var 2) (.var 1)) (.c .non)) [(.expr (.mt .append (.var 3) (.cons (.ix (.var 2) (.var 1)) .nil))),(.asg (.nm 1) (.call 10 (.cons (.var 0) (.cons (.ix (.var 2) (.var 1)) (.cons (.var 1) .nil)))))]),(.ret (.var 3))]
noncomputable def d12:Df:=⟨"way_back",top 20,["web","place","back"],["web","place","back","way"],b12⟩
noncomputable def b13:List Stm:=[(.asg (.tup (.cons (.nm 3) (.cons (.nm 4) .nil))) (.ix (.ix (.var 0) (.c (.int 1))) (.var 1))),(.asg (.nm 5) (.call 12 (.cons (.var 0) (.cons (.var 3) (.cons (.var 2) .nil))))),(.asg (.nm 6) (.call 12 (.cons (.var 0) (.cons (.var 4) (.cons (.var 2) .nil))))),(.whl (.and (.var 5) (.and (.var 6) (.cmp .Eq (.ix (.var 5) (.neg (.c (.int 1)))) (.ix (.var 6) (.neg (.c (.int 1))))))) [(.expr (.mt .pop (.var 5) .nil)),(.expr (.mt .pop (.var 6) .nil))]),(.ret (.op .Add (.op .Add (.var 5) (.rev (.var 6))) (.lst (.cons (.var 1) .nil))))]
noncomputable def d13:Df:=⟨"ring_through",top 21,["web","tie","back"],["web","tie","back","one","other","up","down"],b13⟩
noncomputable def b14:List Stm:=VP 11 13
noncomputable def d14:Df:=⟨"two_sides",top 22,["web"],["web","sides","back","place","tie","one","other"],b14⟩
noncomputable def b15:List Stm:=HS 14
noncomputable def d15:Df:=⟨"sides_of",top 23,["web"],["web","word","row"],b15⟩
noncomputable def b16:List Stm:=Rb 8 10
noncomputable def d16:Df:=⟨"ways_from",top 25,["web","pairs","starts"],["web","pairs","starts","came","waiting","place","tie","far","near"],b16⟩
noncomputable def b17:List Stm:=Rc 10
noncomputable def d17:Df:=⟨"turn_way",top 26,["web","pairs","came","end"],["web","pairs","came","end","tie","near"],b17⟩
noncomputable def b18:List Stm:=OG 16 9 10 17
noncomputable def d18:Df:=⟨"give_pair",top 27,["web","pairs","start","needed"],["web","pairs","start","needed","came","place"],b18⟩
noncomputable def b19:List Stm:=KJ
noncomputable def d19:Df:=⟨"ties_of",top 28,["pairs"],["pairs"],b19⟩
noncomputable def b20:List Stm:=Hd 15 18 16 19
noncomputable def d20:Df:=⟨"pairing",top 29,["web"],["web","sides","pairs","place","starts","came","cover"],b20⟩
noncomputable def b21:List Stm:=KO 2 3 5 4
noncomputable def d21:Df:=⟨"shows_pairing",top 30,["web","thing"],["web","thing","ties","cover","ends"],b21⟩
noncomputable def b22:List Stm:=RX
noncomputable def d22:Df:=⟨"_law_tape",top 32,["_law_script","_law_k"],["_law_script","_law_k","_law_cell","_law_digits"],b22⟩
noncomputable def b23:List Stm:=RY
noncomputable def d23:Df:=⟨"_law_draw",top 33,["_law_tape_here","_law_many"],["_law_tape_here","_law_many","_law_found","_law_once"],b23⟩
noncomputable def b24:List Stm:=Nr 23
noncomputable def d24:Df:=⟨"_law_pairs_by",top 34,["_law_tape_here","_law_great"],["_law_tape_here","_law_great","_law_way","_law_many","_law_found","_law_turn","_law_one","_law_k","_law_sides"],b24⟩
noncomputable def b25:List Stm:=VO 23 24
noncomputable def d25:Df:=⟨"_law_web",top 35,["_law_tape_here","_law_great"],["_law_tape_here","_law_great","_law_many","_law_pairs","_law_ties","_law_one","_law_other"],b25⟩
noncomputable def b26:List Stm:=Hh 23
noncomputable def d26:Df:=⟨"_law_two_once",top 36,["_law_tape_here","_law_great"],["_law_tape_here","_law_great","_law_many","_law_sides","_law_left","_law_right","_law_way","_law_found","_law_one","_law_turn","_law_ties","_law_other"],b26⟩
noncomputable def b27:List Stm:=FA 26
noncomputable def d27:Df:=⟨"_law_two_sided",top 37,["_law_tape_here","_law_great"],["_law_tape_here","_law_great","_law_web_here","_law_turn"],b27⟩
noncomputable def b28:List Stm:=OW
noncomputable def d28:Df:=⟨"_law_is_rising",top 38,["_law_thing","_law_below"],["_law_thing","_law_below","_law_one"],b28⟩
noncomputable def b29:List Stm:=VV 28
noncomputable def d29:Df:=⟨"_law_due",top 39,["_law_web_here","_law_thing"],["_law_web_here","_law_thing","_law_ties","_law_cover","_law_k","_law_tie","_law_other"],b29⟩
noncomputable def b30:List Stm:=KP 23
noncomputable def d30:Df:=⟨"_law_picked",top 40,["_law_tape_here","_law_web_here"],["_law_tape_here","_law_web_here","_law_ties","_law_places","_law_taken","_law_order","_law_tie"],b30⟩
noncomputable def b31:List Stm:=Rh 23
noncomputable def d31:Df:=⟨"_law_bent_row",top 41,["_law_tape_here","_law_row","_law_below"],["_law_tape_here","_law_row","_law_below","_law_at","_law_some","_law_more"],b31⟩
noncomputable def b32:List Stm:=KQ 31
noncomputable def d32:Df:=⟨"_law_papers",top 42,["_law_tape_here","_law_web_here","_law_pair"],["_law_tape_here","_law_web_here","_law_pair","_law_ties","_law_places","_law_found","_law_turn","_law_one","_law_other"],b32⟩
noncomputable def b33:List Stm:=[(.loop (.nm 1) (.rng1 (.op .Add (.c (.int 1)) (.bi .min (.cons (.c (.int 8)) (.cons (.bi .len (.cons (.var 0) .nil)) .nil))))) [(.asg (.nm 2) (.call 22 (.cons (.var 0) (.cons (.var 1) .nil)))),(.asg (.nm 3) (.call 27 (.cons (.var 2) (.cons (.cmp .Eq (.call 23 (.cons (.var 2) (.cons (.c (.int 8)) .nil))) (.c (.int 0))) .nil)))),(.asg (.nm 4) (.lst (.cons (.call 20 (.cons (.var 3) .nil)) (.cons (.call 30 (.cons (.var 2) (.cons (.var 3) .nil))) .nil)))),(.iff (.cmp .IsNot (.call 21 (.cons (.var 3) (.cons (.ix (.var 4) (.c (.int 0))) .nil))) (.c (.bl true))) [(.ret (.c (.bl false)))] []),(.iff (.cmp .Eq (.call 23 (.cons (.var 2) (.cons (.c (.int 2)) .nil))) (.c (.int 0))) [(.asg (.nm 3) (.call 25 (.cons (.var 2) (.cons (.c (.bl false)) .nil)))),(.asg (.nm 4) (.lst (.cons (.call 30 (.cons (.var 2) (.cons (.var 3) .nil))) .nil)))] []),(.loop (.nm 5) (.seq (.var 4)) [(.loop (.nm 6) (.seq (.call 32 (.cons (.var 2) (.cons (.var 3) (.cons (.var 5) .nil))))) [Lx,Ly,Lz])])]),(.ret (.c (.bl true)))]
noncomputable def d33:Df:=⟨"law",top 43,["_law_script"],["_law_script","_law_k","_law_tape_here","_law_web_here","_law_pairs","_law_pair","_law_thing","_law_written","_law_found"],b33⟩
noncomputable def prog:List Df:=[d0,d1,d2,d3,d4,d5,d6,d7,d8,d9,d10,d11,d12,d13,d14,d15,d16,d17,d18,d19,d20,d21,d22,d23,d24,d25,d26,d27,d28,d29,d30,d31,d32,d33]
theorem Hu:prog.all (QR (prog.map (·.name)))=true:=by decide +kernel
theorem hW(d:Nat):∀ f,MonoN (W prog d f):=E8 d
theorem s0(d:Nat):Db (W prog (d+1) 0):=Nu (Δ:=W prog d) (D:=d0) rfl rfl rfl
theorem s0g(d:Nat):Tv (W prog (d+1) 0):=Qj (Δ:=W prog d) (D:=d0) rfl rfl rfl
theorem s1(d:Nat):Tw (W prog (d+1) 1):=Qk (Δ:=W prog d) (D:=d1) rfl rfl rfl
theorem s2(d:Nat):PrG (W prog (d+1) 2):=Tx (Δ:=W prog d) (D:=d2) rfl rfl rfl
theorem s3(d:Nat):Ty (W prog (d+2) 3):=Ql (Δ:=W prog (d+1)) (D:=d3) (hW _) (s1 d) (s0g d) rfl rfl rfl
theorem s4(d:Nat):CZ (W prog (d+2) 4):=HN (Δ:=W prog (d+1)) (D:=d4) (s0 d) rfl rfl rfl
theorem s4g(d:Nat):InG (W prog (d+2) 4) (λn _=>n):=Lm (Δ:=W prog (d+1)) (D:=d4) (s0 d) rfl rfl rfl
theorem s5(d:Nat):EA (W prog (d+2) 5):=La (Δ:=W prog (d+1)) (D:=d5) (s0 d) rfl rfl rfl
theorem s5g(d:Nat):InG (W prog (d+2) 5) (λ_ es=>es.length):=Qm (Δ:=W prog (d+1)) (D:=d5) (s0 d) rfl rfl rfl
theorem s6(d:Nat):Bg (W prog (d+3) 6):=EY (Δ:=W prog (d+2)) (D:=d6) (s4 d) rfl rfl rfl
theorem s7(d:Nat):Ca (W prog (d+3) 7):=HP (Δ:=W prog (d+2)) (D:=d7) (s5 d) rfl rfl rfl
theorem s8(d:Nat):BZ (W prog (d+4) 8):=Lb (Δ:=W prog (d+3)) (D:=d8) (hW _) (s6 d) rfl rfl rfl
theorem s9(d:Nat):Fj (W prog (d+5) 9):=OF (Δ:=W prog (d+4)) (D:=d9) (s8 d) rfl rfl rfl
theorem s10(d:Nat):AT (W prog (d+4) 10):=Lc (Δ:=W prog (d+3)) (D:=d10) (s7 d) rfl rfl rfl
theorem s11(d:Nat):Fn (W prog (d+5) 11):=ON (Δ:=W prog (d+4)) (D:=d11) (hW _) (s8 d) (s10 d) rfl rfl rfl
theorem s14(d:Nat):JG (W prog (d+6) 14):=Qw (Δ:=W prog (d+5)) (D:=d14) (hW _) (s11 d) rfl rfl rfl
theorem s15(d:Nat):EN (W prog (d+7) 15):=Lv (Δ:=W prog (d+6)) (D:=d15) (s14 d) rfl rfl rfl
theorem s16(d:Nat):EF (W prog (d+5) 16):=Qa (Δ:=W prog (d+4)) (D:=d16) (hW _) (s8 d) (s10 d) rfl rfl rfl
theorem s17(d:Nat):J8 (W prog (d+5) 17):=Qc (Δ:=W prog (d+4)) (D:=d17) (s10 d) rfl rfl rfl
theorem s18(d:Nat):Fk (W prog (d+6) 18):=OH (Δ:=W prog (d+5)) (D:=d18) (hW _) (s16 d) (s9 d) (s10 (d+1)) (s17 d) rfl rfl rfl
theorem s19(d:Nat):Cw (W prog (d+1) 19):=Lj (Δ:=W prog d) (D:=d19) (hW _) rfl rfl rfl
theorem s20(d:Nat):EO (W prog (d+8) 20):=Ht (Δ:=W prog (d+7)) (D:=d20) (hW _) (s15 d) (s18 (d+1)) (s16 (d+2)) (s19 (d+6)) rfl rfl rfl
theorem s21(d:Nat):OU (W prog (d+3) 21):=Lo (Δ:=W prog (d+2)) (D:=d21) (hW _) (s2 (d+1)) (s3 d) (s5g d) (s4g d) rfl rfl rfl
theorem s22(d:Nat):Nq (W prog (d+1) 22):=QT (Δ:=W prog d) (D:=d22) rfl rfl rfl
theorem s23(d:Nat):v8 (W prog (d+1) 23):=QS (Δ:=W prog d) (D:=d23) rfl rfl rfl
theorem s24(d:Nat):FY (W prog (d+2) 24):=Nt (Δ:=W prog (d+1)) (D:=d24) (hW _) (s23 d) rfl rfl rfl
theorem s25(d:Nat):RZ (W prog (d+3) 25):=Tr (Δ:=W prog (d+2)) (D:=d25) (hW _) (s23 (d+1)) (s24 d) rfl rfl rfl
theorem s26(d:Nat):Bd (W prog (d+2) 26):=J9 (Δ:=W prog (d+1)) (D:=d26) (hW _) (s23 d) rfl rfl rfl
theorem s27(d:Nat):Bd (W prog (d+3) 27):=Hi (Δ:=W prog (d+2)) (D:=d27) (hW _) (s26 d) rfl rfl rfl
theorem s28(d:Nat):OX (W prog (d+1) 28):=OY (Δ:=W prog d) (D:=d28) (hW _) rfl rfl rfl
theorem s29(d:Nat):VW (W prog (d+2) 29):=Qq (Δ:=W prog (d+1)) (D:=d29) (hW _) (s28 d) rfl rfl rfl
theorem s30(d:Nat):Hr (W prog (d+2) 30):=Lq (Δ:=W prog (d+1)) (D:=d30) (s23 d) rfl rfl rfl
theorem s31(d:Nat):EM (W prog (d+2) 31):=Qu (Δ:=W prog (d+1)) (D:=d31) (s23 d) rfl rfl rfl
theorem s32(d:Nat):Hs (W prog (d+3) 32):=Lu (Δ:=W prog (d+2)) (D:=d32) (hW _) (s31 d) rfl rfl rfl
theorem Fs{f g:SV->Option PyData}:∀{xs:List SV},(∀ y∈xs,f y=g y)->xs.mapM f=xs.mapM g
 | [],_=>rfl
 | x::xs,h=>by rw[YV,YV,h x (WW ..),Fs λy hy=>h y (WL _ hy)]
theorem VX{S S':Sto}{k b:Nat}{x:SV}(h:Gd (VS S) k b x)(G:Gw S S'):∀ m,Aj m S' x=Aj m S x:=by
 induction h with
 | non=>intro m;cases m<;>rfl
 | bl c=>intro m;cases m<;>rfl
 | int h=>intro m;cases m<;>rfl
 | str h hb=>intro m;cases m<;>rfl
 | tup _ _ _ ih=>
   intro m;cases m with
   | zero=>rfl
   | succ m=>
     show(Yf (Aj m S') _).map _=(Yf (Aj m S) _).map _;rw[Fs λy hy=>ih y hy m]
 | @lst k b c l xs hv _ _ _ ih=>
   intro m;cases m with
   | zero=>rfl
   | succ m=>
     have h1:S[l]?=some (SO.lst xs):=hv;show(match S'[l]? with | some (SO.lst xs)=>(xs.mapM (Aj m S')).map PyData.list | _=>none)=(match S[l]? with | some (SO.lst xs)=>(xs.mapM (Aj m S)).map PyData.list | _=>none)
     rw[h1,G.keep _ _ h1];show(Yf (Aj m S') xs).map _=(Yf (Aj m S) xs).map _;rw[Fs λy hy=>ih y hy m]
theorem Lw{n:Nat}{es:EE}{S S':Sto}{k b:Nat}{x:SV}(h:Gd (VS S) k b x)(G:Gw S S'):Hj n es S' x↔Hj n es S x:=by
 constructor
 ·rintro⟨a,c,A,B,rfl,sa,sc,r⟩;obtain⟨_,_,ga,gc⟩:=h.parts;exact⟨a,c,A,B,rfl,(ga.seqEq G).symm.trans sa,(gc.seqEq G).symm.trans sc,r⟩
 ·rintro⟨a,c,A,B,rfl,sa,sc,r⟩;obtain⟨_,_,ga,gc⟩:=h.parts;exact⟨a,c,A,B,rfl,(ga.seqEq G).trans sa,(gc.seqEq G).trans sc,r⟩
theorem JH{D:EndsS}{n:Nat}{es:EE}{S:Sto}{x:SV}{o0 o1 o2 o4 o5 o7 o8:Option SV}(hu:∀ e∈es,e.1<e.2/\e.2<n)(hel:es.length<=90)(g:Gd (VS S) 3 4000 x)(q:∀(o7 o8:Option SV) (S':Sto),Gw S S'->D.nx [o0,o1,o2,some (j3 n es),o4,o5,some x,o7,o8] S'):wSs (W prog 9) [Lx,Ly,Lz] D [o0,o1,o2,some (j3 n es),o4,o5,some x,o7,o8] S:=by
 obtain⟨d,hd,z⟩:=g.dat 20 (by decide);have ft:=z.fit (by decide) (by decide);refine⟨_,rfl,d,hd,ft,_,rfl,_,rfl,s21 6 hu (by omega) g λr S1 G1 e1=>?_⟩;refine⟨_,rfl,_,nofun,rfl,_,rfl,ifF rfl ⟨_,rfl,_,rfl,_,rfl,s29 7 hu (by omega) (g.grow G1) λr' S2 G2 e2=>?_⟩⟩;rw[Lw g G1,<-e1]at e2;have er:r'=r:=X4.mpr e2;subst er;have G12:=G1.trans G2;refine⟨_,rfl,ifF ?_ ⟨_,rfl,d,(VX g G12 20).trans hd,ft,_,rfl,_,rfl,ifF ?_ (j4 (q _ _ _ G12))⟩⟩
 ·cases r'<;>rfl
 ·simp
structure Pr(t:Nat)(S:Sto)(p:Nat×Nat):Prop where
 ex:∃ A B,S[p.1]?=some (.lst (natS A))/\S[p.2]?=some (.lst (natS B))/\A.length<=60/\B.length<=60/\(∀ x∈A,x<=1000)/\∀ x∈B,x<=1000
 n1:p.1≠t
 n2:p.2≠t
theorem Pr.on{t:Nat}{S S':Sto}{p:Nat×Nat}(h:Pr t S p)(O:On t S S'):Pr t S' p:=by
 obtain⟨A,B,a,b,r⟩:=h.ex;exact⟨⟨A,B,O.keep _ _ h.n1 a,O.keep _ _ h.n2 b,r⟩,h.n1,h.n2⟩
theorem JI{D:EndsS}{t n lp:Nat}{es:EE}{ps:EE}{S:Sto}{o0 o1 o5 o6 o7 o8:Option SV}(T:TapeS S t)(hu:∀ e∈es,e.1<e.2/\e.2<n)(hel:es.length<=90)(hn:n<=60)(lt:lp≠t)(hp:S[lp]?=some (.lst (ps.map λp => .tup [.loc p.1,.loc p.2])))(hps:∀ p∈ps,Pr t S p)
 (q:∀(o5 o6 o7 o8:Option SV) (S':Sto),D.nx [o0,o1,some (.loc t),some (j3 n es),some (.loc lp),o5,o6,o7,o8] S'):wSs (W prog 9) [Lg] D [o0,o1,some (.loc t),some (j3 n es),some (.loc lp),o5,o6,o7,o8] S:=by
 refine⟨_,rfl,_,a8 hp,?_⟩;refine Ad (i7 (hW _) _) (λi ρ S1=>∃ o5 o6 o7 o8,ρ=[o0,o1,some (.loc t),some (j3 n es),some (.loc lp),o5,o6,o7,o8]/\TapeS S1 t/\On t S S1) ⟨_,_,_,_,rfl,T,On.refl t S⟩ (λ_ _ S1 h=>by obtain⟨_,_,_,_,_,_,O⟩:=h;show S1[lp]?=S[lp]?;rw[hp,O.keep _ _ lt hp]) ?_ ?_
 ·rintro i x ρ S1 E hE _ hx ⟨o5,o6,o7,o8,rfl,T1,O1⟩;rw[WQ]at hx;cases hi:ps[i]? with
  | none=>rw[hi]at hx;cases hx
  | some p=>
    rw[hi]at hx;have hx:=(oj hx).symm;subst hx;have P:=(hps p (WC hi)).on O1;obtain⟨A,B,a1,a2,lA,lB,hA,hB⟩:=P.ex;refine⟨_,rfl,_,rfl,_,rfl,s32 6 T1 a1 a2 P.n1 P.n2 lA lB hA hB hn hel λf xs S2 T2 O2 hf hl hg=>⟨_,a8 hf,?_⟩⟩;refine Ad (i7 (hW _) _) (λj ρ S3=>∃ o6 o7 o8,ρ=[o0,o1,some (.loc t),some (j3 n es),some (.loc lp),some (.tup [.loc p.1,.loc p.2]),o6,o7,o8]/\Gw S2 S3) ⟨_,_,_,rfl,Gw.refl S2⟩ (λ_ _ S3 h=>by obtain⟨_,_,_,_,G⟩:=h;show S3[f]?=S2[f]?;rw[hf,G.keep _ _ hf]) ?_ ?_
    ·rintro j y ρ S3 E' hE' _ hy ⟨o6,o7,o8,rfl,G3⟩;exact JH hu hel ((hg y (WC hy)).grow G3) λo7 o8 S4 G4=>hE' _ _ ⟨_,_,_,rfl,G3.trans G4⟩
    ·rintro ρ S3 ⟨o6,o7,o8,rfl,G3⟩;exact j4 (Δ:=W prog 9) (hE _ _ ⟨_,_,_,_,rfl,G3.tape T2,(O1.trans O2).trans G3.on⟩)
 ·rintro ρ S1 ⟨o5,o6,o7,o8,rfl,T1,O1⟩;exact j4 (Δ:=W prog 9) (q _ _ _ _ _)
theorem law_main(ns:List Int)(h:ns.length<=63):W prog 10 33 [.ro (ns.map SV.int)] [] λx _=>x = .bl true:=by
 show i9 (W prog 9) d33 _ _ _
 have hj:∃ m:Nat,1+(if ((ns.map SV.int).length:Int)<8 then ((ns.map SV.int).length:Int) else 8)=(m:Int)/\m<=9:=by
  rw[W8];refine⟨1+min 8 ns.length,?_,by omega⟩;split<;>omega
 obtain⟨m,hm,hm9⟩:=hj;refine⟨rfl,_,rfl,_,rfl,m,congrArg SV.int hm,⟨by omega,by omega⟩,?_⟩;refine v7 (i7 (hW _) _) (λi ρ S'=>∃ o1 o2 o3 o4 o5 o6 o7 o8,ρ=[some (.ro (ns.map SV.int)),o1,o2,o3,o4,o5,o6,o7,o8]) ⟨none,none,none,none,none,none,none,none,rfl⟩ (λ_ _ _ _=>trivial) ?_ ?_
 ·rintro i x ρ S hx ⟨o1,o2,o3,o4,o5,o6,o7,o8,rfl⟩;obtain⟨rfl,hi⟩:=n8 hx;rw[Y3]at hi ⊢;have b2:2<=big:=by decide
  refine⟨_,rfl,_,rfl,s22 8 h (by omega) λa b ha hb hb2=>?_⟩;have T1:TapeS (S++[SO.lst [.int a,.int b]]) S.length:=⟨a,b,c6,ha,hb,hb2⟩
  refine⟨_,rfl,_,rfl,s23 8 T1 (by decide) (by decide) λr S2 r0 r1 T2 O2 _=>?_⟩;refine s27 6 T2 λn es S3 Wb hn hl T3 O3=>?_;dsimp only[ZQ];generalize S.length=t at *;have hu:=Wb.en;have tl:t<S3.length:=by obtain⟨_,_,e,_⟩:=T3.ex;exact u7 e
  refine⟨_,rfl,s20 1 Wb λsl l1 l2 S4 H G4 e1 e2 n12 h1 h2=>⟨_,rfl,_,rfl,s30 7 (G4.tape T3) hu hl (by omega) λm1 m2 A B S5 T5 O5 n1 n2 g1 g2 lA lB hA hB=>⟨b2,?_⟩⟩⟩;have R:=Of Wb H;have nl1:l1≠t:=by omega
  have nl2:l2≠t:=by omega
  have lc:=Au (KH R.cu) R.cl;have ln:=R.ln;have P1:Pr t S5 (l1,l2):=⟨⟨_,_,O5.keep _ _ nl1 h1,O5.keep _ _ nl2 h2,by omega,by omega,λx hx=>by have:=R.tl x hx;omega,λx hx=>by have:=R.cl x hx;omega⟩,nl1,nl2⟩
  have P2:Pr t S5 (m1,m2):=⟨⟨_,_,g1,g2,lA,lB,hA,hB⟩,n1,n2⟩
  have k6:(S5++[SO.lst [.tup [.loc l1,.loc l2],.tup [.loc m1,.loc m2]]])[S5.length]?=some (.lst (([(l1,l2),(m1,m2)]:EE).map λp => .tup [.loc p.1,.loc p.2])):=c6;have T6:=T5.push (o:=SO.lst [.tup [.loc l1,.loc l2],.tup [.loc m1,.loc m2]]);have O6:On t S5 (S5++[SO.lst [.tup [.loc l1,.loc l2],.tup [.loc m1,.loc m2]]]):=(On.refl t S5).push;have t5:t<S5.length:=by obtain⟨_,_,e,_⟩:=T5.ex;exact u7 e
  have P1:=P1.on O6;have P2:=P2.on O6;have q1:=e6 (o:=SO.lst [.tup [.loc l1,.loc l2],.tup [.loc m1,.loc m2]]) (O5.keep _ _ nl1 h1);have q2:=e6 (o:=SO.lst [.tup [.loc l1,.loc l2],.tup [.loc m1,.loc m2]]) (O5.keep _ _ nl2 h2);have nk:S5.length≠t:=by omega
  dsimp only[ZQ];generalize S5.length=lp at *;generalize S5++[SO.lst [.tup [.loc l1,.loc l2],.tup [.loc m1,.loc m2]]]=S6 at *;have gd:Gd (VS S6) 3 4000 (.tup [.loc l1,.loc l2]):=(Tz (Ls (H:=λ_=>False) (b:=1101) id q1 (by omega) (λx hx=>by have:=R.tl x hx;omega) (by decide)) (Ls (H:=λ_=>False) (b:=1101) id q2 (by omega) (λx hx=>by have:=R.cl x hx;omega) (by decide))).bare;refine⟨_,rfl,_,rfl,_,SV.tup [.loc l1,.loc l2],a8 k6,rfl,s21 6 hu (by omega) gd λr S7 G7 e7=>?_⟩;have r7:r=true:=e7.mpr ⟨_,_,_,_,rfl,a8 q1,a8 q2,R.tu,R.cu,R.ln,R.tl,R.cl,R.ap,R.cv⟩;subst r7;refine .inr ⟨_,_,rfl,rfl,rfl,_,rfl,ifF rfl (j4 ?_)⟩;have T7:=G7.tape T6;refine⟨_,rfl,s23 8 T7 (by decide) (by decide) λr' S8 w0 w1 T8 O8 _=>⟨_,rfl,?_⟩⟩;have O7:On t S6 S8:=G7.on.trans O8;have go:∀(n:Nat) (es:EE) (lp:Nat) (ps:EE) (S':Sto) (o5 o6 o7 o8:Option SV) (E:EndsS),TapeS S' t->(∀ e∈es,e.1<e.2/\e.2<n)->es.length<=90->n<=60->lp≠t->S'[lp]?=some (.lst (ps.map λp => .tup [.loc p.1,.loc p.2]))->(∀ p∈ps,Pr t S' p)->(∀(o1 o3 o4 o5 o6 o7 o8:Option SV) (S'':Sto),E.nx [some (.ro (ns.map SV.int)),o1,some (.loc t),o3,o4,o5,o6,o7,o8] S'')->wSs (W prog 9) [Lg] E [some (.ro (ns.map SV.int)),some (.int (i:Nat)),some (.loc t),some (j3 n es),some (.loc lp),o5,o6,o7,o8] S':=λn es lp ps S' o5 o6 o7 o8 E a b c d e f g q=>JI a b c d e f g λo5 o6 o7 o8 S''=>q _ _ _ _ _ _ _ _;refine ifD (λ_=>?_) (λ_=>j4 ?_)
  ·refine⟨_,rfl,s25 6 T8 λn' es' S9 Wn T9 O9=>?_⟩;dsimp only[ZQ];refine⟨_,rfl,_,rfl,s30 7 T9 Wn.en (by have:=Wn.len;omega) (by have:=Wn.few;omega) λm1 m2 A B Sa Ta Oa n1 n2 g1 g2 lA lB hA hB=>⟨by show 1<=big;decide,?_⟩⟩;have ta:t<Sa.length:=by obtain⟨_,_,e,_⟩:=Ta.ex;exact u7 e
   have P3:Pr t (Sa++[SO.lst [.tup [.loc m1,.loc m2]]]) (m1,m2):=⟨⟨_,_,e6 g1,e6 g2,lA,lB,hA,hB⟩,n1,n2⟩
   dsimp only[ZQ];refine j4 (Δ:=W prog 9) (go n' es' Sa.length [(m1,m2)] _ _ _ _ _ _ Ta.push Wn.en (by have:=Wn.len;omega) (by have:=Wn.few;omega) (by omega) c6 (λp hp=>by rw[W9.mp hp];exact P3) λ_ _ _ _ _ _ _ _=>⟨_,_,_,_,_,_,_,_,rfl⟩)
  ·refine go n es lp _ S8 _ _ _ _ _ T8 hu hl (by omega) nk (O7.keep _ _ nk k6) (λp hp=>?_) λ_ _ _ _ _ _ _ _=>⟨_,_,_,_,_,_,_,_,rfl⟩
   rcases WV.mp hp with rfl | hp
   ·exact P1.on O7
   ·rw[W9.mp hp];exact P2.on O7
 ·rintro ρ S ⟨o1,o2,o3,o4,o5,o6,o7,o8,rfl⟩;rfl
end Hue
namespace PySem.W.Fast
theorem tw1137575523576993241:True:=⟨⟩
theorem tw2092881440633643232:True:=⟨⟩
theorem tw14977497795377314814:True:=⟨⟩
theorem tw5066117504918191956:True:=⟨⟩
theorem tw6433424878952038539:True:=⟨⟩
theorem tw4042109875705643574:True:=⟨⟩
theorem tw15440284080787036945:True:=⟨⟩
theorem tw17272964544317991188:True:=⟨⟩
theorem tw14807555822611823222:True:=⟨⟩
theorem tw4265639103674182623:True:=⟨⟩
theorem tw3719975453154073991:True:=⟨⟩
theorem tw3833426202554528645:True:=⟨⟩
theorem tw7888425886913555567:True:=⟨⟩
theorem tw9634509569987931414:True:=⟨⟩
theorem tw13169135062964450191:True:=⟨⟩
theorem tw13997445131571406606:True:=⟨⟩
theorem tw3528203414575376310:True:=⟨⟩
theorem tw17820893791601560488:True:=⟨⟩
theorem tw6234752732440350768:True:=⟨⟩
theorem tw8309138847790733428:True:=⟨⟩
theorem tw555873891985087067:True:=⟨⟩
theorem tw4860159073954754538:True:=⟨⟩
theorem tw8138272684362516976:True:=⟨⟩
theorem tw16123931890703576011:True:=⟨⟩
theorem tw6631794985070394058:True:=⟨⟩
theorem tw9502887335317196368:True:=⟨⟩
theorem tw6148505374713743100:True:=⟨⟩
theorem tw14948453649691451349:True:=⟨⟩
theorem tw14578996849983879945:True:=⟨⟩
theorem tw16250697781615511741:True:=⟨⟩
theorem tw10318053736060545354:True:=⟨⟩
theorem tw10481156193454561008:True:=⟨⟩
theorem tw4937759956982961695:True:=⟨⟩
theorem tw3296982312316603497:True:=⟨⟩
theorem tw4408064217382490374:True:=⟨⟩
theorem tw4925817205902023908:True:=⟨⟩
theorem tw16225321376937127431:True:=⟨⟩
theorem tw3757949974547314610:True:=⟨⟩
theorem tw15827361933958307943:True:=⟨⟩
theorem tw15830058167995049606:True:=⟨⟩
theorem tw5193069028854829573:True:=⟨⟩
end PySem.W.Fast
namespace Hue
open PySem L2 Rf
noncomputable def A8(K:W5)(nm:Str)(i:Nat):Prop:=∃(f:Zk) (od an:Option Zk) (sl:Array (Option Zh)) (oc kV dc pm cd ct:Zh),PySem.W.nsIn K Zr nm=some (some (.ref f))/\K.lookup f=some ⟨oc,od,.func (PySem.W.fnOf nm nm (defArgs (top i)) (defBody (top i)) (defScope (top i)) .none kV dc pm an cd ct),sl⟩/\PySem.W.codeIn K cd nm=true/\PySem.W.keepIn K (.ref f)=true
theorem lnkK_mk{K:W5}{nm:Str}{i:Nat}{f:Zk}{od an:Option Zk}{sl:Array (Option Zh)}{oc kV dc pm cd ct:Zh}(a:PySem.W.nsIn K Zr nm=some (some (.ref f)))(l:K.lookup f=some ⟨oc,od,.func (PySem.W.fnOf nm nm (defArgs (top i)) (defBody (top i)) (defScope (top i)) .none kV dc pm an cd ct),sl⟩)(c:PySem.W.codeIn K cd nm=true)(k:PySem.W.keepIn K (.ref f)=true):A8 K nm i:=⟨f,od,an,sl,oc,kV,dc,pm,cd,ct,a,l,c,k⟩
theorem j7{K:W5}{h:Heap}{mg:Str->Option Zh}(X:K.In h)(G:h.Ns Zr mg)(D:Df){i:Nat}(x:A8 K D.name i)(e:D.st=top i)(b:∀(kV doc pm:Zh) (an:Option Zk) (cdv ct:Zh) (us:List Zh),us.length=D.ps.length->bindArgs (PySem.W.fnOf D.name D.name (defArgs (top i)) (defBody (top i)) (defScope (top i)) .none kV doc pm an cdv ct) ⟨us,[]⟩=pure (D.ps.zip us)):PIn K mg D:=by
 obtain⟨_,_,_,_,_,_,_,_,_,_,a,l,c,k⟩:=x;exact⟨_,_,e▸IG (st:=top i) l c k,PySem.W.mg_of X G a,k,(IG (st:=top i) l c k).binds (ps:=D.ps) b⟩
theorem q0{P:Df->Prop}{D:Df}{l:List Df}(a:P D)(b:∀ x∈l,P x):∀ x∈D::l,P x:=List.forall_mem_cons.mpr ⟨a,b⟩
theorem all_mk{l:PySem.W.OpenLaw}{w:Zq}{K:W5}{h:Heap}{mg:Str->Option Zh}{fa:Zk}(X:K.In h)(G:h.Ns Zr mg)(hfa:mg "law"=some (.ref fa))
 (x0:A8 K "is_number" 1)
 (x1:A8 K "is_listed" 2)
 (x2:A8 K "is_pair" 3)
 (x3:A8 K "is_rising" 4)
 (x4:A8 K "has_place" 11)
 (x5:A8 K "has_tie" 12)
 (x6:A8 K "check_place" 13)
 (x7:A8 K "check_tie" 14)
 (x8:A8 K "ties_at" 15)
 (x9:A8 K "count_at" 16)
 (x10:A8 K "far_end" 17)
 (x11:A8 K "give_sides" 19)
 (x12:A8 K "way_back" 20)
 (x13:A8 K "ring_through" 21)
 (x14:A8 K "two_sides" 22)
 (x15:A8 K "sides_of" 23)
 (x16:A8 K "ways_from" 25)
 (x17:A8 K "turn_way" 26)
 (x18:A8 K "give_pair" 27)
 (x19:A8 K "ties_of" 28)
 (x20:A8 K "pairing" 29)
 (x21:A8 K "shows_pairing" 30)
 (x22:A8 K "_law_tape" 32)
 (x23:A8 K "_law_draw" 33)
 (x24:A8 K "_law_pairs_by" 34)
 (x25:A8 K "_law_web" 35)
 (x26:A8 K "_law_two_once" 36)
 (x27:A8 K "_law_two_sided" 37)
 (x28:A8 K "_law_is_rising" 38)
 (x29:A8 K "_law_due" 39)
 (x30:A8 K "_law_picked" 40)
 (x31:A8 K "_law_bent_row" 41)
 (x32:A8 K "_law_papers" 42)
 (x33:A8 K "law" 43)
 (z0:PySem.W.nsIn K Zr "len"=some none)
 (z1:PySem.W.nsIn K Zr "abs"=some none)
 (z2:PySem.W.nsIn K Zr "min"=some none)
 (z3:PySem.W.nsIn K Zr "max"=some none)
 (z4:PySem.W.nsIn K Zr "int"=some none)
 (z5:PySem.W.nsIn K Zr "list"=some none)
 (z6:PySem.W.nsIn K Zr "tuple"=some none)
 (z7:PySem.W.nsIn K Zr "all"=some none)
 (z8:PySem.W.nsIn K Zr "any"=some none)
 (z9:PySem.W.nsIn K Zr "sorted"=some none)
 (z10:PySem.W.nsIn K Zr "isinstance"=some none)
 (z11:PySem.W.nsIn K Zr "str"=some none)
 (z12:PySem.W.nsIn K Zr "range"=some none)
 (z13:PySem.W.nsIn K Zr "enumerate"=some none)
 (z14:PySem.W.nsIn K Zr "zip"=some none)
 (z15:PySem.W.nsIn K Zr "set"=some none)
 (z16:PySem.W.nsIn K Zr "bool"=some none)
 (z17:PySem.W.nsIn K Zr "dict"=some none)
 : ∃ fd:A0o,(∀(s:Zj) (v:Zh),BindsTo s fd ⟨[v],[]⟩ [("_law_script",v)])/\∀ base:Heap,K.In base->base.Ns Zr mg->FnOk l.prog w K mg base CX0 10 fa fd ["_law_script"] (spS K (W prog 10 33)):=by
 have y:=x33;obtain⟨f33,od33,an33,sl33,oc33,kV33,dc33,pm33,cd33,ct33,a33,l33,c33,k33⟩:=x33;have e:=hfa.symm.trans (PySem.W.mg_of X G a33);cases e
 have B:Bl mg:=by
  refine⟨λb=>?_,Wj X G z12,Wj X G z13,Wj X G z14,Wj X G z15,Wj X G z17,λt ht=>?_⟩
  ·cases b with
   | len=>exact Wj X G z0
   | abs=>exact Wj X G z1
   | min=>exact Wj X G z2
   | max=>exact Wj X G z3
   | int=>exact Wj X G z4
   | list=>exact Wj X G z5
   | tuple=>exact Wj X G z6
   | all=>exact Wj X G z7
   | any=>exact Wj X G z8
   | sorted=>exact Wj X G z9
   | isi=>exact Wj X G z10
   | str=>exact Wj X G z11
  ·cases t with
   | int=>exact Wj X G z4
   | bool=>exact Wj X G z16
   | str=>exact Wj X G z11
   | list=>exact Wj X G z5
   | tuple=>exact Wj X G z6
   | none=>exact absurd rfl ht
 have hin:∀ D∈prog,PIn K mg D:=q0 (j7 X G d0 x0 rfl λ_ _ _ _ _ _=>EX λ_=>rfl) (q0 (j7 X G d1 x1 rfl λ_ _ _ _ _ _=>EX λ_=>rfl) (q0 (j7 X G d2 x2 rfl λ_ _ _ _ _ _=>EX λ_=>rfl) (q0 (j7 X G d3 x3 rfl λ_ _ _ _ _ _=>EX λ_=>rfl) (q0 (j7 X G d4 x4 rfl λ_ _ _ _ _ _=>C4 λ_ _=>rfl) (q0 (j7 X G d5 x5 rfl λ_ _ _ _ _ _=>C4 λ_ _=>rfl) (q0 (j7 X G d6 x6 rfl λ_ _ _ _ _ _=>C4 λ_ _=>rfl) (q0 (j7 X G d7 x7 rfl λ_ _ _ _ _ _=>C4 λ_ _=>rfl) (q0 (j7 X G d8 x8 rfl λ_ _ _ _ _ _=>C4 λ_ _=>rfl) (q0 (j7 X G d9 x9 rfl λ_ _ _ _ _ _=>C4 λ_ _=>rfl) (q0 (j7 X G d10 x10 rfl λ_ _ _ _ _ _=>Iz λ_ _ _=>rfl) (q0 (j7 X G d11 x11 rfl λ_ _ _ _ _ _=>To λ_ _ _ _=>rfl) (q0 (j7 X G d12 x12 rfl λ_ _ _ _ _ _=>Iz λ_ _ _=>rfl) (q0 (j7 X G d13 x13 rfl λ_ _ _ _ _ _=>Iz λ_ _ _=>rfl) (q0 (j7 X G d14 x14 rfl λ_ _ _ _ _ _=>EX λ_=>rfl) (q0 (j7 X G d15 x15 rfl λ_ _ _ _ _ _=>EX λ_=>rfl) (q0 (j7 X G d16 x16 rfl λ_ _ _ _ _ _=>Iz λ_ _ _=>rfl) (q0 (j7 X G d17 x17 rfl λ_ _ _ _ _ _=>To λ_ _ _ _=>rfl) (q0 (j7 X G d18 x18 rfl λ_ _ _ _ _ _=>To λ_ _ _ _=>rfl) (q0 (j7 X G d19 x19 rfl λ_ _ _ _ _ _=>EX λ_=>rfl) (q0 (j7 X G d20 x20 rfl λ_ _ _ _ _ _=>EX λ_=>rfl) (q0 (j7 X G d21 x21 rfl λ_ _ _ _ _ _=>C4 λ_ _=>rfl) (q0 (j7 X G d22 x22 rfl λ_ _ _ _ _ _=>C4 λ_ _=>rfl) (q0 (j7 X G d23 x23 rfl λ_ _ _ _ _ _=>C4 λ_ _=>rfl) (q0 (j7 X G d24 x24 rfl λ_ _ _ _ _ _=>C4 λ_ _=>rfl) (q0 (j7 X G d25 x25 rfl λ_ _ _ _ _ _=>C4 λ_ _=>rfl) (q0 (j7 X G d26 x26 rfl λ_ _ _ _ _ _=>C4 λ_ _=>rfl) (q0 (j7 X G d27 x27 rfl λ_ _ _ _ _ _=>C4 λ_ _=>rfl) (q0 (j7 X G d28 x28 rfl λ_ _ _ _ _ _=>C4 λ_ _=>rfl) (q0 (j7 X G d29 x29 rfl λ_ _ _ _ _ _=>C4 λ_ _=>rfl) (q0 (j7 X G d30 x30 rfl λ_ _ _ _ _ _=>C4 λ_ _=>rfl) (q0 (j7 X G d31 x31 rfl λ_ _ _ _ _ _=>Iz λ_ _ _=>rfl) (q0 (j7 X G d32 x32 rfl λ_ _ _ _ _ _=>Iz λ_ _ _=>rfl) (q0 (j7 X G d33 y rfl λ_ _ _ _ _ _=>EX λ_=>rfl) (λ_ h=>nomatch h))))))))))))))))))))))))))))))))));refine⟨PySem.W.fnOf "law" "law" (defArgs (top 43)) (defBody (top 43)) (defScope (top 43)) .none kV33 dc33 pm33 an33 cd33 ct33,λs v => .of_eq rfl,λbase _ _=>?_⟩
 exact Np (P:=l.prog) (w:=w) (base:=base) (k:=9) (Δ:=W prog 9) (D:=d33) (IG (st:=top 43) l33 c33 k33) (Wg.mp Hu d33 (WC (show prog[33]?=some d33 from rfl))) B (λg x hx=>by
  rw[WQ]at hx;cases hg:prog[g]? with
  | none=>rw[hg]at hx;cases hx
  | some D'=>
    rw[hg]at hx;have:D'.name=x:=by simpa using hx
    subst this;exact⟨D'.ps,Jy Hu B hin 9 g D' hg⟩) (E8 9)
theorem walkL{l:PySem.W.OpenLaw}{q:Zo}{loose:List Str}{XP:(Str->Option Zh)->Heap->Prop}{YP:Zq->Heap->Prop}{d:DefRec}{K:Params->W5}(hn:l.most=some 63)(hdf:d.params.defaults=[])
 (hY:∀(w:Zq) (h:Heap),YP w h->(K w.params).In h)
 (F:∀(w:Zq) (mg:Str->Option Zh) (fa:Zk) (h:Heap),(K w.params).In h->h.Ns Zr mg->mg d.name=some (.ref fa)->
   ∃ fd:A0o,(∀(s:Zj) (u:Zh),BindsTo s fd ⟨[u],[]⟩ [("_law_script",u)])/\∀ base:Heap,(K w.params).In base->base.Ns Zr mg->FnOk l.prog w (K w.params) mg base CX0 10 fa fd ["_law_script"] (spS (K w.params) (W prog 10 33))):
 PySem.W.WalkO q loose XP YP l.row.toRowW d [] (λf vs=>PySem.call f vs):=
 L2.walk_of (n:=63) (k:=10) (x:="_law_script") (CX:=λ_=>CX0) (sp:=λw=>spS (K w.params) (W prog 10 33)) hn (by decide) hdf ⟨rfl,by decide,by decide,rfl⟩ hY F (λ_ _ a ns hl hO hS=>Tq (law_main ns hl) hO hS) λ_ _ _ _ _ z=>z
end Hue
open PySem PySem.W PyProof.Rows
set_option maxRecDepth 100000 in
set_option maxHeartbeats 0 in
theorem PySem.Challenge.cw_huedties_k27_pairings_shown_holds : PySem.Challenge.rw_huedties_k27_pairings_shown.Holds := by
 w_on;o_law;k_head;(case hw=>w_witness2)
 k_fill
 refine Hue.walkL (l:=PySem.Challenge.rw_huedties_k27_pairings_shown) rfl rfl (λw h Y=>PySem.W.kIn_of Y) ?F
 case F=>
  intro w mg fa h KX G hmg;refine' Hue.all_mk KX G hmg ?_ ?_ ?_ ?_ ?_ ?_ ?_ ?_ ?_ ?_ ?_ ?_ ?_ ?_ ?_ ?_ ?_ ?_ ?_ ?_ ?_ ?_ ?_ ?_ ?_ ?_ ?_ ?_ ?_ ?_ ?_ ?_ ?_ ?_ ?_ ?_ ?_ ?_ ?_ ?_ ?_ ?_ ?_ ?_ ?_ ?_ ?_ ?_ ?_ ?_ ?_ ?_
  all_goals first | exact Hue.lnkK_mk (by k_is) (by k_is) (by k_is) (by k_is) | k_is
