import PyProof.Rows.All
import Wide.All
import OpenK.AllK
import PySem.Challenge.RW_huedties_k70_glued
set_option Elab.async false
set_option linter.all false
set_option maxRecDepth 100000
noncomputable section
abbrev U(α:Type u):=List α
def J{α:Sort u}{a:α}:a=a:=rfl
open Option renaming some->O
open PySem renaming Value->F
open PySem renaming Addr->Y
open PySem renaming wpAny_bind->Z
open Bool renaming true->aC
open Option renaming some->aA
open Bool renaming false->aD
open Option renaming none->aB
open List renaming length_map->YY,getElem?_eq_getElem->Ya,mem_of_getElem?->Yb,length_append->Yd,range->Ye,getD_eq_getElem?_getD->Yg,mem_cons_of_mem->Yh,mem_cons_self->Yi,getElem?_map->Yj,size_toArray->Yl,map_append->Yo,mem_cons->Yp,mem_range->Yr,mem_singleton->Yt,mem_filter->Yu,replicate->Yv,getElem?_append_left->Yw,mem_append->Yz,length_range->Z0,take_length->Z1,mem_map->Z2,prefix_refl->Z3,getElem?_of_mem->Z4,length_filter_le->Z5,getElem?_concat_length->Z9,take_succ->ZA,filter_cons->ZC,append_nil->ZD,map_cons->ZE,mem_append_right->ZF,length_take->ZG,length_set->ZH,all_eq_true->ZJ,length_cons->ZK,replicate_succ->ZO,nodup_cons->ZP,getElem?_append_right->ZQ,length_singleton->ZS,length_eq_zero_iff->ZT,range_succ->ZV,isEmpty_iff->ZW,getElem?_range->ZZ,find?_cons->Zb,filter_append->Ze,getElem?_set_self->Zf,length_drop->Zg,not_mem_nil->Zi,nodup_range->Zj,flatten_cons->Zk,getD->Zl,all_cons->Zm,any_cons->Zn,prefix_append->Zo,mem_append_left->Zp,getElem?_replicate->Zq,lookup_cons->Zr,getElem_mem->Zs,any_eq_true->Zt,pairwise_lt_range->Zu,filter_eq_nil_iff->Zv,map_congr_left->Zw,eraseIdx_eq_take_drop_succ->Zx,getElem?_eq_none->Zy,length_erase_of_mem->A00,getElem?_set_ne->A01,mem_iff_getElem->A02,nodup_append->A03,getElem?_inj->A04,flatMap_cons->A05,idxOf_lt_length_of_mem->A06,pairwise_cons->A09,getElem?_zipWith->A0b,of_mem_zip->A0c,nil_append->A0d,map_map->A0g,flatMap_append->A0j,length_replicate->A0o,append_assoc->A0q,foldl_append->A0r,drop_eq_getElem_cons->A0t,filterMap_cons->A0u,take_succ_cons->A0w,forIn_cons->A0x,length_nil->A0y,forIn_nil->A0A,mapM_cons->A0B,ext_getElem?->A0C,ext_getElem->A0D,mem_flatMap->A0E,map_drop->A0F,pairwise_append->A0G,eq_nil_of_length_eq_zero->A0H,countP_eq_length_filter->A0J,length_eraseIdx_of_lt->A0M,countP_append->A0P,pairwise_iff_getElem->A0Q,any_eq_false->A0S,filter_congr->A0V,filter->A0W,pairwise_map->A0X,filterMap_cons_none->A0Y,filterMap_cons_some->A0Z,map_take->A11,eq_of_mem_replicate->A12,cons_ne_nil->A19,drop_length->A1a,countP_cons->A1b,mapM->A1c,mem_flatten->A1d,all_map->A1g,find?_cons_of_pos->A1h,find?_cons_of_neg->A1i,head?_drop->A1k,countP_nil->A1l,lookup->A1m,nodup_nil->A1o,tail_drop->A1s,drop_eq_nil_iff->A1t,mem_of_mem_take->A1u,mem_of_mem_drop->A1v,flatten_append->A1x,mem_filterMap->A1z,zip_cons_cons->A1C,getElem_idxOf->A1D,take_sublist->A1E,reverse_cons->A1F,map_nil->A1G,getElem_drop->A1H,mapM_toArray->A1K,map->A1L,any_map->A1M,zipIdx_cons->A1P,flatMap_def->A1R,length->A1S,countP->A1T,zipIdx_nil->A1U,filter_map->A1X,length_zip->A1Y,foldl->A1Z,set->A22,tail_cons->A23,take_zero->A24,mapM_nil->A27,drop_one->A28,any_nil->A2e
open PySem.W renaming Frag->YZ,mg_none_of->Yy
open Bool renaming and_eq_true->Yc,false_ne_true->Yq,not_eq_true'->Yx,false_eq_true->ZR,or_eq_true->ZU,eq_iff_iff->Za,or_false->A10,or_eq_false_iff->A1p,true_and->A1y,false_or->A25,true_or->A2c
open PySem.Heap renaming get?_push_of_some->Yf,lt_size->Yk,get?_push_size->Yn,SameBut->Z7,get?_update_self->ZL,get?_update_other->ZM,size_push->ZN,size_update->A17,ExtBut->A1n,IsTuple->A2b,DictOf->A2h,update->A2i
open Nat renaming le_refl->Ym,ne_of_lt->Ys,le_trans->Z6,lt_of_lt_of_le->Z8,zero_le->ZY,lt_of_le_of_lt->Zz,lt_irrefl->A07,le_add_right->A08,lt_succ_of_lt->A0f,lt_trans->A0h,mul_le_mul->A0k,le_succ->A0l,le_of_lt->A0m,ne_of_gt->A0z,add_le_add_left->A0K,succ_mul->A0L,lt_of_succ_le->A0T,le_succ_of_le->A0U,lt_succ_self->A15,not_lt_of_gt->A16,zero_add->A1e,not_lt_zero->A1j,mul_le_mul_right->A1w,lt_trichotomy->A1J,succ_pos->A1O,min_eq_right->A1Q,le_antisymm->A1V,min_eq_left->A1W,mod_lt->A21,lt_or_ge->A2a,le_total->A2f,sub_self->A2g
open Int renaming natCast_inj->ZI,toNat_natCast->ZX,zero_add->Zd,emod_lt_of_pos->A0a,emod_nonneg->A0n,toNat_of_nonneg->A0v,natCast_add->A0I,natCast_nonneg->A0O,le_refl->A1r,emod_eq_of_lt->A1N,le_trans->A2d
open Array renaming length_toList->Zc,getElem?_toList->A0p,getElem?_eq_some_iff->A0s,getElem?_zip_eq_some->A0N,getElem?_eq_none->A1f,getElem_toList->A1q,forIn_toList->A1B,toList_push->A1I,getD->A20,toList->A29
open Option renaming map_eq_some_iff->Zh,map_some->A0e,isSome_iff_exists->A0i,isNone_iff_eq_none->A0R,getD_none->A13,getD_some->A14,bind_some->A18,isSome_some->A1A,isNone->A26
open PySem renaming wpAny_bind->A2j,Value->A2k,wpAny_pure->A2l,Shared->A2m,Addr->A2n,wpAny->A2o,Expr->A2p,model->A2q,Program->A2r,sizeLine->A2s,mainGlobals->A2t,World->A2u,bootBuiltins->A2v,Around->A2w,starEach->A2x,Heap->A2y,wpAny_newObj_type->A2z,wpAny_holding->A2A,wpAny_callSpecial?_slot->A2B,wpAny_call_entry->A2C,Scope->A2D,wpAny_seqItems->A2E,wpAny_field->A2F,compareOp->A2H,wpAny_truthy_bool->A2I,wpAny_mono->A2J,wpAny_rule->A2K,wpAny_standAt->A2L,plainId_quiet->A2M,codeAny_builtin->A2N,swappedStores->A2O,wpAny_setField->A2P,IsPair->A2Q,SetTable->A2R,sysModules->A2S,wpAny_Call_Name_kw->A2T,wpAny_typeOf->A2U,Stmt->A2V,NameKind->A2W,wpAny_typeNameOfWhole_keyiter->A2X,cellsFrom->A2Y,assignEach->A2Z,binaryOp->A30,wpAny_attempt->A31,wpAny_setField_rec->A32,wpAny_passesOwn->A33,foldedSetIterable->A34,FuncData->A35,wpAny_pyIter_list->A36,wpAny_setState_of->A37,Comprehension->A39,wpAny_typeNameOf_keyiter->A3a,swapsWith->A3b,wpAny_tryCatch->A3c,wpAny_askSetting->A3e,keywordEach->A3f,wpAny_pyIter_tuple->A3g,Operator->A3h,wpAny_notOrdered_dict->A3i,sizeLine_eq->A3j,call_meets->A3k,firstArgMember->A3l,wpAny_isInstance->A3m,swapsWithSole->A3n,letOwnedTupleGo->A3o,wpAny_updateSeq->A3p,getattributeRaised->A3q,sliceBounds->A3r,wpAny_letGo->A3s,wpAny_pyIter_enum->A3t,wpAny_dictEntries->A3u,DictEntry->A3v,merged_length_le->A3w,scanBound->A3x,backToKw->A3z,richCompare->A3A,wpAny_setEntries_of->A3C,codeAny_mono->A3D,builtinsNs->A3E,recursionLimit->A3G,typeLookup->A3H,wpAny_letOwnedTupleGo_enum->A3I,tupleKind_room_in1->A3J,wpAny_fieldsOf->A3K,isSubtype_stop->A3L,wpAny_newTuple->A3M,ZipApart->A3N,fits_of_scanBound->A3O,wpAny_pyIter_slot->A3P,attributeBase->A3Q,tupleKind->A3R,noFill_tuple_add->A3S,compEnvC->A3T,wpAny_pyNext_enum_itemD->A3U,pickOrder->A3V,setField->A3W,wpAny_pyIter_zip->A3X,compStart->A3Y,typeIs_int->A40,codeAny_compStart_list->A41,wpAny_pyNext_enum_endD->A42,wpAny_execs_nil->A43,pushCells_keeps->A44,am_miss_of_fast->A45,wpAny_ite_split->A46,size_of_entries->A47,wpAny_dictEpoch->A48,codeAny_of_tree->A49,theWindowsPlace->A4a,builtinLookup_eq_fast->A4b,wpAny_isOneOf_keyiter->A4c,subscripted->A4d,newFunctionEnv->A4e,wpAny_of_eq->A4f,relayAll->A4g,entryFor_alias->A4h,dictSetDefault->A4k,wpAny_updateSeq_pair->A4l,seqItems?->A4m,wpAny_dictSet_pairs->A4p,assignInOrder->A4q,behindInMarks->A4r,seq_tuple_add->A4s,wpAny_handled->A4u,wpAny_newList->A4v,wpAny_onRaise->A4w,wpAny_notedAt->A4y,comprehension->A4z,sub_AttributeError->A4B,intKind_is->A4C,wpAny_assign_Name->A4D,concat_meets->A4F,wpAny_sequenceKey->A4G,seqIndex_neg->A4H,entryFor->A4I,wpAny_storeSet_of->A4K,PassesOwn->A4L,pushCells->A4M,noteFrame->A4N,kt_code_dict_new->A4O,updateSeq->A4P,seqIndex_of->A4Q,wpAny_throw->A4R,unsupported->A4S,wpAny_specialOf->A4U,typeLookup_type->A4V,entryOfKey->A4X,GenState->A4Y,wpAny_Name->A4Z,bindName->A50,wpAny_bindName->A51,fitsIndex_both->A54,raiseNew->A55,getAttr?->A56,callType_codes->A57,isSubtype_type->A58,setsByText->A59,constantsAlone->A5c,lastMarks->A5d,drawOrder->A5e,wpAny_ite->A5f
open PyProof.Rows renaming step_dedup->A38,wpS_bind->A3d,setPending->A3y,wpS_pure->A3B,assignInOrder_cons->A3F,subscriptTail_builtinR->A3Z,SortKind->A4i,oneType'->A4j,pendingOf->A4n,entry_tuple_getitem->A4o,subscriptTail->A4t,listUpdate_at->A4x,args_tuple_getitem->A4A,assignInOrder_nil->A4E,wpS_forRange->A4J,seqEpoch_at->A4T,entry_list_sort->A4W,slicePart_none->A52,Subscript_->A53,slot_list_sort->A5a,args_list_sort->A5b
abbrev EE:=U (Nat×Nat)
def gM{b:Type}{l:U b}{i:Nat}{a:b}(h:l[i]?=O a):∃h:i<l.length,l[i]=a:=List.getElem?_eq_some_iff.mp h
def oj{c:Type}{a b:c}(h:O a=O b):a=b:=Option.some.inj h
def dQ{p:Prop}[Decidable p]:(decide p=aC)=p:=decide_eq_true_eq
def iG{c:Prop}{h:Decidable c}(k:¬c){a:Sort u}{t e:a}:ite c t e=e:=if_neg k
def iP{c:Prop}{h:Decidable c}(k:c){a:Sort u}{t e:a}:ite c t e=t:=if_pos k
def bQ{c:Type u}[BEq c][LawfulBEq c]{a b:c}:a==b↔a=b:=beq_iff_eq
namespace L2
open PySem PySem.Spec PyProof.Rows
abbrev Key:=Sum Int Str
def Em:Key->F->Bool
 | .inl k,v=>Value.isInt k v
 | .inr x,v=>Value.isStrOf x v
def Xv(w:A2u):Key->Int
 | .inl k=>hashInt k
 | .inr x=>hashStr w x
def t8:∀{k:Key} {v:F},Em k v=aC->(∃ i t,k=Sum.inl i/\v=Value.int i t)\/(∃ x t,k=Sum.inr x/\v=Value.str x t)
 | .inl i,v,h=>by
   obtain⟨t,e⟩:=Value.isInt_shape (k:=i) (v:=v) h;exact .inl ⟨i,t,J,e⟩
 | .inr x,v,h=>by
   obtain⟨t,e⟩:=Value.isStrOf_shape (x:=x) (v:=v) h;exact .inr ⟨x,t,J,e⟩
def LJ(i:Int)(t:Tok):Em (.inl i) (.int i t)=aC:=by simp[Em,Value.isInt]
def LK(x:Str)(t:Tok):Em (.inr x) (.str x t)=aC:=by simp[Em,Value.isStrOf]
def UE(a b:Int):decide ((Sum.inl a:Key)=Sum.inl b)=(a == b):=by
 by_cases e:a=b
 ·subst e;simp
 ·have h:¬ (Sum.inl a:Key)=Sum.inl b:=λq=>e (Sum.inl.inj q);rw[decide_eq_false h];exact(beq_eq_false_iff_ne.mpr e).symm
def UF(a b:Str):decide ((Sum.inr a:Key)=Sum.inr b)=decide (a=b):=by
 by_cases e:a=b
 ·subst e;simp
 ·have h:¬ (Sum.inr a:Key)=Sum.inr b:=λq=>e (Sum.inr.inj q);rw[decide_eq_false h,decide_eq_false e]
def UG(a:Int)(b:Str):decide ((Sum.inl a:Key)=Sum.inr b)=aD:=decide_eq_false (λq=>nomatch q)
def UH(a:Str)(b:Int):decide ((Sum.inr a:Key)=Sum.inl b)=aD:=decide_eq_false (λq=>nomatch q)
noncomputable def j4(prog:A2r)(w:A2u):PySem.KeyKind prog w Key where
 is:=Em
 hash:=Xv w
 inj:=λv a b g f=>by
  rcases t8 g with⟨i,t,rfl,rfl⟩ | ⟨x,t,rfl,rfl⟩
  ·rcases t8 f with⟨j,u,rfl,e⟩ | ⟨y,u,rfl,e⟩
   ·injection e with c _;rw[c]
   ·exact nomatch e
  ·rcases t8 f with⟨j,u,rfl,e⟩ | ⟨y,u,rfl,e⟩
   ·exact nomatch e
   ·injection e with c _;rw[c]
 byValue:=λk v h=>by
   rcases t8 h with⟨i,t,rfl,rfl⟩ | ⟨x,t,rfl,rfl⟩<;>rfl
 pyHash:=λd h=>by
  rcases t8 d with⟨i,t,rfl,rfl⟩ | ⟨x,t,rfl,rfl⟩
  ·exact wpAny_pyHash_int h
  ·exact wpAny_pyHash_str h
 eqBool:=λhu d h=>by
  rcases t8 hu with⟨i,t,rfl,rfl⟩ | ⟨x,t,rfl,rfl⟩
  ·rcases t8 d with⟨j,u,rfl,rfl⟩ | ⟨y,u,rfl,rfl⟩
   ·rw[UE]at h;exact wpAny_eqBool_int h
   ·rw[UG]at h;exact SeqAt.EqAt.int_str i t y u _ _ _ _ h
  ·rcases t8 d with⟨j,u,rfl,rfl⟩ | ⟨y,u,rfl,rfl⟩
   ·rw[UH]at h;exact SeqAt.EqAt.str_int x t j u _ _ _ _ h
   ·rw[UF]at h;exact wpAny_eqBool_str h
 «strs»:=λk x t v h=>by
  rcases t8 h with⟨i,u,rfl,e⟩ | ⟨y,u,rfl,e⟩
  ·exact nomatch e
  ·injection e with c _;subst c;cases v<;>rfl
def Bb(prog:A2r)(w:A2u)(i:Int)(t:Tok):(j4 prog w).is (.inl i) (.int i t)=aC:=LJ i t
def GR(prog:A2r)(w:A2u)(x:Str)(t:Tok):(j4 prog w).is (.inr x) (.str x t)=aC:=LK x t
inductive V where
 | non | bl (b:Bool) | int (i:Int) | str (x:Str) | byt (b:Array UInt8) | flt (b:UInt64) | ref (a:Y) | ty (n:String)
 deriving DecidableEq
def RelV:V->F->Prop
 | .non,u=>u=Value.none
 | .bl b,u=>u=Value.bool b
 | .int i,u=>∃ t,u=Value.int i t
 | .str x,u=>∃ t,u=Value.str x t
 | .byt b,u=>∃ t,u=Value.bytes b t
 | .flt b,u=>∃ t,u=Value.float b t
 | .ref a,u=>u=Value.ref a
 | .ty n,u=>u=Value.type n
abbrev Vals:U V->U F->Prop:=Paired RelV
theorem Vals.length{xs:U V}{a:U A2k}(r:Vals xs a):xs.length=a.length:=Paired.length r
theorem Vals.get:∀{a:U V} {b:U A2k} {i:Nat} {x:V},Vals a b->a[i]?=aA x->∃ u,b[i]?=aA u/\RelV x u
 | _,_,_,_,.nil,e=>by simp at e
 | _,_,0,_,.cons r _,e=>by simp at e;subst e;exact⟨_,rfl,r⟩
 | _,_,i+1,x,.cons _ t,e=>by
   obtain⟨u,c,d⟩:=Vals.get (i:=i) (x:=x) t (by simpa using e);exact⟨u,by simpa using c,d⟩
theorem Vals.set{x:V}{u:A2k}(r:RelV x u):∀{a:U V} {b:U A2k} (i:Nat),Vals a b->Vals (a.set i x) (b.set i u)
 | _,_,_,.nil => .nil
 | _,_,0,.cons _ t => .cons r t
 | _,_,i+1,.cons q t => .cons q (Vals.set r i t)
theorem Vals.append:∀{a b:U V} {c d:U A2k},Vals a c->Vals b d->Vals (a++b) (c++d)
 | _,_,_,_,.nil,s=>s
 | _,_,_,_,.cons r t,s => .cons r (Vals.append t s)
theorem Vals.take:∀{a:U V} {b:U A2k} (n:Nat),Vals a b->Vals (a.take n) (b.take n)
 | _,_,0,_ => .nil
 | _,_,_+1,.nil => .nil
 | _,_,n+1,.cons r t => .cons r (Vals.take n t)
theorem Vals.drop:∀{a:U V} {b:U A2k} (n:Nat),Vals a b->Vals (a.drop n) (b.drop n)
 | _,_,0,r=>r
 | _,_,_+1,.nil => .nil
 | _,_,n+1,.cons _ t=>Vals.drop n t
def RelO:Option V->Option F->Prop
 | some v,O u=>RelV v u
 | none,aB=>True
 | _,_=>False
def KV{a:Type}:U (a×V)->U (a×F)->Prop:=Paired λ(p:a×V) (q:a×F)=>p.1=q.1/\RelV p.2 q.2
def kV:Key->V
 | .inl i => .int i
 | .inr x => .str x
inductive HO where
 | lst (xs:List V)
 | tup (xs:List V)
 | dK (kvs:List (Key×V)) | dT (kvs:List (List Key×V))
 | set (S:Int->Bool) (n:Nat)
 | ins (C dx:Y) (fs:List (Str×V))
 | own (x:Y)
 | xd (fs:List (Str×V))
 | met (f x:Y)
 | rng (lo hi:Int)
 | frz (o:Obj) (u:HO)
 | tbl (ps:Array F)
 | ext (φ:A2y->Prop)
abbrev Hp:=Y->Option HO
def upd(H:Hp)(a:Y)(o:HO):Hp:=λb=>if b=a then O o else H b
def i3{H:Hp}{a:Y}{o:HO}:upd H a o a=O o:=by unfold upd;rw[iP J]
def g7{H:Hp}{a b:Y}{o:HO}(h:b≠a):upd H a o b=H b:=by unfold upd;rw[iG h]
def Jk{H:Hp}{a b:Y}{o u:HO}(h:H a=O o)(c:H b=O u)(d:o≠u):a≠b:=by intro e;subst e;rw[h]at c;exact d (oj c)
def i8{H:Hp}{a b:Y}{o:HO}(h:H a=O o)(c:H b=aB):a≠b:=by intro e;subst e;rw[h]at c;cases c
section
variable(P:A2r)(w:A2u)
noncomputable def ObjOk(H:Hp)(h:A2y)(a:Y):HO->Prop
 | .lst xs=>xs.length<=A2s/\∃(b:U F) (n:Nat),Vals xs b/\h.get? a=O {cls := .type "list",data := .seq b.toArray n}
 | .tup xs=>xs.length<=A2s/\∃ b:U F,Vals xs b/\IsTup h a b.toArray
 | .dK kvs=>kvs.length<=A2s/\(a == A2S)=aD/\∃ vs,KV kvs vs/\h.DictOf (j4 P w) a vs
 | .dT kvs=>kvs.length<=A2s/\(a == A2S)=aD/\∃ xs:U (U Key×Y×F),
    Paired (λ(p:U Key×V) (q:U Key×Y×F)=>p.1=q.1/\H q.2.1=O (.tup (p.1.map kV))/\RelV p.2 q.2.2) kvs xs/\
    ∃ o es ep,h.get? a=O o/\o.ExactDict/\o.data = .dict es ep/\es.toList=xs.map (A4X (A3R (j4 P w)))/\(xs.map (·.1)).Nodup
 | .set S n=>h.SetOf (intKind P w) a S n
 | .ins C d fs=>H d=O (.own a)/\fs.length<=1000/\d≠a/\h.get? a=O (PySem.W.instObj C d)/\
    ∃ c,h.Ns1 d c/\(∀ f,RelO (fs.lookup f) (c f))/\PySem.Within c (fs.map (·.1))
 | .own _=>∃ o,h.get? a=O o
 | .xd fs=>∃ c,h.Ns1 a c/\∀ f,RelO (fs.lookup f) (c f)
 | .rng j k=>∃ t u v,h.get? a=O {cls := .type "range",data := .fields #[.int j t,.int k u,.int 1 v]}
 | .frz o u=>h.get? a=O o/\ObjOk H h a u
 | .tbl ps=>h.get? a=O {cls := .none,data := .fields ps}
 | .met f x=>h.get? a=O (PySem.W.methodObj (.ref f) (.ref x))
 | .ext e=>e h/\(∃ o,h.get? a=O o)/\∀ g i:A2y,e g->(∀ o,g.get? a=O o->i.get? a=O o)->e i
noncomputable def HOk(H:Hp)(h:A2y):Prop:=∀ a o,H a=O o->ObjOk P w H h a o
end
section
variable{P:A2r}{w:A2u}{H H':Hp}{h h':A2y}{a:Y}{o:HO}
theorem ObjOk.lt(x:ObjOk P w H h a o):a<h.objs.size:=by
 cases o with
 | lst c=>obtain⟨_,_,_,_,e⟩:=x;exact Yk e
 | tup c=>obtain⟨_,_,_,p⟩:=x;exact p.lt
 | dK b=>obtain⟨_,_,_,_,o,_,_,e,_⟩:=x;exact Yk e
 | dT b=>obtain⟨_,_,_,_,o,_,_,e,_⟩:=x;exact Yk e
 | set S n=>obtain⟨o,_,_,_,e,_⟩:=x;exact Yk e
 | ins C d fs=>obtain⟨_,_,_,e,_⟩:=x;exact Yk e
 | own y=>obtain⟨_,e⟩:=x;exact Yk e
 | xd fs=>obtain⟨_,⟨_,_,_,e,_⟩,_⟩:=x;exact Yk e
 | rng lo g=>obtain⟨_,_,_,e⟩:=x;exact Yk e
 | frz ob u=>obtain⟨e,_⟩:=x;exact Yk e
 | tbl i=>exact Yk (show h.get? a=aA _ from x)
 | met f y=>exact Yk (show h.get? a=aA _ from x)
 | ext j=>obtain⟨_,⟨_,e⟩,_⟩:=x;exact Yk e
theorem Paired.mapP{e g:Type}{F G:e->g->Prop}:∀{c:U e} {d:U g},Paired F c d->(∀ a b,F a b->G a b)->Paired G c d
 | _,_,.nil,_ => .nil
 | _,_,.cons r t,f => .cons (f _ _ r) (Paired.mapP t f)
def ObjOk.stay(x:ObjOk P w H h a o)(k:∀ b u,(b=a\/H b=aA (.own a))->h.get? b=aA u->h'.get? b=aA u)
 (G:∀ b,H b=aA (.own a)->H' b=aA (.own a)) (I:∀ b m,H b=aA (.tup m)->H' b=aA (.tup m)):ObjOk P w H' h' a o:=by
 induction o with
 | lst m=>obtain⟨z,l,n,r,e⟩:=x;exact⟨z,l,n,r,k _ _ (.inl rfl) e⟩
 | tup m=>obtain⟨z,l,r,g,e,c⟩:=x;exact⟨z,l,r,g,k _ _ (.inl rfl) e,c⟩
 | dK s=>obtain⟨z,y,K,r,g,i,j,e,c⟩:=x;exact⟨z,y,K,r,g,i,j,k _ _ (.inl rfl) e,c⟩
 | dT s=>
   obtain⟨z,y,m,r,g,i,j,e,c⟩:=x;exact⟨z,y,m,Paired.mapP r λp q z=>⟨z.1,I _ _ z.2.1,z.2.2⟩,g,i,j,k _ _ (.inl rfl) e,c⟩
 | set S n=>obtain⟨g,i,j,t,e,c⟩:=x;exact⟨g,i,j,t,k _ _ (.inl rfl) e,c⟩
 | ins C Q fs=>
   obtain⟨d,z,L,e,A,⟨B,i,j,M,c⟩,r⟩:=x;exact⟨G _ d,z,L,k _ _ (.inl rfl) e,A,⟨B,i,j,k _ _ (.inr d) M,c⟩,r⟩
 | own y=>obtain⟨g,e⟩:=x;exact⟨g,k _ _ (.inl rfl) e⟩
 | xd fs=>obtain⟨A,⟨B,i,j,e,c⟩,r⟩:=x;exact⟨A,⟨B,i,j,k _ _ (.inl rfl) e,c⟩,r⟩
 | rng lo R=>obtain⟨t,u,v,e⟩:=x;exact⟨t,u,v,k _ _ (.inl rfl) e⟩
 | frz g u N=>obtain⟨e,q⟩:=x;exact⟨k _ _ (.inl rfl) e,N q⟩
 | tbl D=>
   have e:h.get? a=aA {cls := .none,data := .fields D}:=x;show h'.get? a=aA {cls := .none,data := .fields D};exact k a _ (.inl rfl) e
 | met f y=>
   have e:h.get? a=aA (PySem.W.methodObj (.ref f) (.ref y)):=x;show h'.get? a=aA (PySem.W.methodObj (.ref f) (.ref y));exact k a _ (.inl rfl) e
 | ext T=>obtain⟨p,⟨o,e⟩,E⟩:=x;exact⟨E _ _ p λo q=>k _ _ (.inl rfl) q,⟨o,k _ _ (.inl rfl) e⟩,E⟩
theorem HOk.lt(x:HOk P w H h)(e:H a=aA o):a<h.objs.size:=(x a o e).lt
def HOk.fresh(x:HOk P w H h)(e:h.objs.size<=a):H a=aB:=by
 cases q:H a with
 | none=>rfl
 | some u=>exact absurd (Z8 (x.lt q) e) (A07 _)
def HOk.kept(x:HOk P w H h)(k:∀ b u,h.get? b=aA u->h'.get? b=aA u):HOk P w H h':=λa o e=>
 (x a o e).stay (λb u _ q=>k b u q) (λ_ q=>q) λ_ _ q=>q
def HOk.laid(x:HOk P w H h)(k:∀ b u,h.get? b=aA u->h'.get? b=aA u)(i:h.objs.size<=a)(d:ObjOk P w (upd H a o) h' a o):HOk P w (upd H a o) h':=λb u e=>by
 have f:=x.fresh i;by_cases g:b=a
 ·subst g;rw[i3]at e;cases e;exact d
 ·rw[g7 g]at e;exact(x b u e).stay (λc v _ q=>k c v q) (λc q=>by rw[g7 (i8 q f)];exact q) λc j q=>by rw[g7 (i8 q f)];exact q
end
def Rd(H:Hp)(a:Y)(u:HO):Prop:=H a=O u\/∃ o,H a=O (.frz o u)
def Rd.ok{P:A2r}{w:A2u}{H:Hp}{h:A2y}{a:Y}{u:HO}(r:Rd H a u)(x:HOk P w H h):ObjOk P w H h a u:=by
 rcases r with r | ⟨o,r⟩
 ·exact x a u r
 ·obtain⟨_,q⟩:=x a _ r;exact q
def Mut:Option HO->Prop
 | some (.lst _)=>True
 | some (.dK _)=>True
 | some (.dT _)=>True
 | some (.set _ _)=>True
 | some (.ins _ _ _)=>True
 | some (.ext _)=>True
 | _=>False
section
variable{P:A2r}{w:A2u}{H:Hp}{h h':A2y}{x e:Y}{o':HO}
def HOk.write(s:HOk P w H h)(g:Mut (H x))(o:e=x\/H e=aA (.own x))(k:∀ b u,b≠e->h.get? b=aA u->h'.get? b=aA u)(m:∃ u,h'.get? e=aA u)
 (n:ObjOk P w (upd H x o') h' x o'):HOk P w (upd H x o') h':=λb u q=>by
 have d:∀ c y,H c=aA (.own y)->c≠x:=λc y r z=>by subst z;rw[r]at g;exact g
 have f:∀ c i,H c=aA (.tup i)->c≠x:=λc i r z=>by subst z;rw[r]at g;exact g
 by_cases j:b=x
 ·subst j;rw[i3]at q;cases q;exact n
 ·rw[g7 j]at q;by_cases a:b=e
  ·have p:H b=aA (.own x):=by
    rcases o with z | z
    ·exact absurd (a.trans z) j
    ·rw[a];exact z
   rw[q]at p;cases p;obtain⟨v,t⟩:=m;exact⟨v,by rw[a];exact t⟩
  ·refine(s b u q).stay (λc v l r=>k c v ?_ r) (λc r=>by rw[g7 (d c b r)];exact r) λc i r=>by rw[g7 (f c i r)];exact r
   rcases l with rfl | l
   ·exact a
   ·rintro rfl;rcases o with z | z
    ·exact d c b l z
    ·rw[l]at z;cases z;exact j rfl
end
structure Un(fs ex:List Y)(H H':Hp)(h h':A2y):Prop where
 keep:∀ b o,h.get? b=O o->H b=aB->b∉fs->b∉ex->h'.get? b=O o
 slot:∀ b o,h.get? b=O o->H b=aB->b∈fs->b∉ex->∃ sl,h'.get? b=O {o with slots:=sl}
 free:∀ b o,h.get? b=O o->H b=aB->b∉ex->H' b=aB
 there:∀ b o,h.get? b=O o->b∉ex->∃ o',h'.get? b=O o'
 tups:∀ b xs,H b=O (.tup xs)->H' b=O (.tup xs)
 frzs:∀ b o u,H b=O (.frz o (.lst u))->H' b=O (.frz o (.lst u))
 tbls:∀ b ps,H b=O (.tbl ps)->∃ more,H' b=O (.tbl (ps++more))
section
variable{fs fs' ex ex':U Y}{H H1 H2:Hp}{h h1 h2 h':A2y}{a x e:Y}{o:HO}
def Un.any(u:Un fs ex H H1 h h1){b:Y}{c:Obj}(q:h.get? b=aA c)(n:H b=aB)(d:b∉ex):∃ g,h1.get? b=aA {c with slots:=g}:=by
 by_cases f:b∈fs
 ·exact u.slot b c q n f d
 ·exact⟨c.slots,u.keep b c q n f d⟩
def Un.kept(k:∀ b u,h.get? b=aA u->h'.get? b=aA u):Un fs ex H H h h':=
 ⟨λb c q _ _ _=>k b c q,λb c q _ _ _=>⟨c.slots,k b c q⟩,λ_ _ _ n _=>n,λb c q _=>⟨c,k b c q⟩,λ_ _ q=>q,λ_ _ _ q=>q,λ_ d q=>⟨#[],by rw[q];simp⟩⟩
def Un.refl:Un fs ex H H h h:=Un.kept λ_ _ q=>q
def Un.laid(k:∀ b u,h.get? b=aA u->h'.get? b=aA u)(d:h.objs.size<=a)(c:H a=aB):Un fs ex H (upd H a o) h h' where
 keep:=λb u q _ _ _=>k b u q
 slot:=λb u q _ _ _=>⟨u.slots,k b u q⟩
 free:=λb u q n _=>by rw[g7 (Ys (Z8 (Yk q) d))];exact n
 there:=λb u q _=>⟨u,k b u q⟩
 tups:=λb f q=>by rw[g7 (i8 q c)];exact q
 frzs:=λb u f q=>by rw[g7 (i8 q c)];exact q
 tbls:=λb g q=>⟨#[],by rw[g7 (i8 q c),q];simp⟩
def Un.write(d:Mut (H x))(l:e=x\/H e=aA (.own x))(k:∀ b u,b≠e->h.get? b=aA u->h'.get? b=aA u)(f:∃ u,h'.get? e=aA u):Un fs ex H (upd H x o) h h':=by
 have i:∀ b,H b=aB->b≠x:=λb n z=>by subst z;rw[n]at d;exact d
 have j:∀ b,H b=aB->b≠e:=λb n z=>by
  subst z;rcases l with r | r
  ·exact i b n r
  ·rw[n]at r;cases r
 have g:∀ b u,H b=aA u->¬ Mut (aA u)->b≠x:=λb u q nm z=>by subst z;rw[q]at d;exact nm d
 refine⟨λb u q n _ _=>k b u (j b n) q,λb u q n _ _=>⟨u.slots,k b u (j b n) q⟩,λb u q n _=>by rw[g7 (i b n)];exact n,λb u q _=>?_,
  λb m q=>by rw[g7 (g b _ q λz=>z)];exact q,λb u m q=>by rw[g7 (g b _ q λz=>z)];exact q,λb p q=>⟨#[],by rw[g7 (g b _ q λz=>z),q];simp⟩⟩
 by_cases c:b=e
 ·subst c;exact f
 ·exact⟨u,k b u c q⟩
end
def trk(h:A2y)(H:Hp):U A2n:=(Ye h.objs.size).filter λa=>(H a).isSome
noncomputable def FT(h:A2y)(H:Hp):A2y:=PySem.W.hideAll h (trk h H)
def LL(h:A2y)(H:Hp):(FT h H).objs.size=h.objs.size:=PySem.W.hideAll_size _ _
def N6{h:A2y}{H:Hp}{b:Y}{o:Obj}(e:h.get? b=O o)(n:H b=aB):(FT h H).get? b=O o:=
 PySem.W.hideAll_get _ e λa=>by
  have q:(H b).isSome=aC:=(Yu.mp a).2;rw[n]at q;simp at q
def Qq{h:A2y}{H:Hp}{b:Y}{o:Obj}(e:(FT h H).get? b=O o):h.get? b=O o/\H b=aB:=by
 have a:h.get? b=O o:=PySem.W.of_hideAll (trk h H) e;refine⟨a,?_⟩;cases q:H b with
 | none=>rfl
 | some x=>
   have c:b∈trk h H:=Yu.mpr ⟨Yr.mpr (Yk a),by simp[q]⟩;have z:(FT h H).get? b=aB:=PySem.W.hideAll_none (trk h H) c;rw[z]at e;cases e
def BmAt(c:Str->Option F)(h:A2y):Prop:=∃ b a,c "__builtins__"=O (.ref b)/\b≠A3E/\h.get? b=O a/\a.cls = .type "module"/\a.dict=O A3E/\a.data = .plain
structure Mod(K:YZ)(mg:Str->Option F)(base:A2y):Prop where
 kin:K.In base
 glob:base.Ns A2t mg
 blt:∃ mb,base.Ns A3E mb/\∀ x:Str,x≠"__name__"->mb x=A2v x
 nolimit:base.NoLimit
 bm:BmAt mg base
structure Cx where
 prog:A2r
 w:A2u
 K:YZ
 mg:Str->Option F
 base:A2y
 A:A2w
 N:List Str
 s₀:A2m
 H₀:Hp
 env:Env
 outer:List Env
 stack:List Env
 ex:List Y
 fn:Str->Bool
 calm:Bool
 pn:List (Y×Obj)
 xe:F->A2m->Prop
noncomputable def frs(l:U Env):U A2n:=l.filterMap (·.frame)
abbrev Cx.fs(X:Cx):U A2n:=frs X.outer
def Vis(a:A2D)(x:Str):Prop:=a.names.lookup x=O .local\/a.names.lookup x=O .cell\/a.names.lookup x=O .free
def Loc(a:A2D)(x:Str):Prop:=a.names.lookup x=O .local\/a.names.lookup x=O .cell
def Look(env:Env)(h:A2y)(m:Str->Option F)(x:Str)(u:F):Prop:=
 (env.kindOf x=O .local/\m x=O u)\/((env.kindOf x=O .cell\/env.kindOf x=O .free)/\∃ c,env.cells.lookup x=O c/\h.IsCell c (O u))
structure Cx.Ok(X:Cx):Prop where
 mod:Mod X.K X.mg X.base
 kind:X.env.scope.kind = .function
 glob:X.env.globals=A2t
 blt:X.env.builtins=A3E
 above:X.s₀.heap.objs.size<=X.env.locals
 inj:∀ x y c,X.env.cells.lookup x=O c->X.env.cells.lookup y=O c->x=y
 has:∀ x,(X.env.kindOf x=O .cell\/X.env.kindOf x=O .free)->∃ c,X.env.cells.lookup x=O c
 cab:∀ x c,X.fn x=aC->X.env.cells.lookup x=O c->X.s₀.heap.objs.size<=c
 hd:X.calm=aC->X.A.handled=aB
 frames:X.A.frames=O X.stack
 stk:X.stack=X.outer\/(X.stack=X.env::X.outer/\X.env.frame=O X.env.locals)
 exf:∀ b∈X.ex,b≠X.env.locals/\∀ x c,X.env.cells.lookup x=O c->c≠b
 bs:∀ b o,X.base.get? b=O o->X.s₀.heap.get? b=O o/\X.H₀ b=aB
 bsz:X.base.objs.size<=X.s₀.heap.objs.size
 noex:∀ b o,X.base.get? b=O o->b∉X.ex
 exfs:∀ b∈X.ex,b∉X.fs
 funs:X.s₀.heap.FunFrames X.base X.outer
 frf:∀ b∈X.fs,X.H₀ b=aB
structure Inv(X:Cx)(pins:List (Y×Obj))(σ:List (Option V))(H:Hp)(s:A2m):Prop where
 ok:X.Ok
 os:s.os=X.s₀.os
 bare:AllBare s.gens
 base:Un X.fs X.ex X.H₀ H X.s₀.heap s.heap
 loc:∃ m,s.heap.Ns X.env.locals m/\∀(i:Nat) (x:Str) (v:V),X.N[i]?=O x->σ[i]?=O (O v)->Vis X.env.scope x->∃ u,RelV v u/\Look X.env s.heap m x u
 cell:∀ x c,X.env.cells.lookup x=O c->∃ v,s.heap.IsCell c v
 free:H X.env.locals=aB
 freeC:∀ x c,X.env.cells.lookup x=O c->H c=aB
 pin:∀ p∈X.pn++pins,s.heap.get? p.1=O p.2/\H p.1=aB/\p.1≠X.env.locals/\p.1∉X.fs/\∀ v,p.2.data ≠ .cell v
 hok:HOk X.prog X.w H s.heap
 len:σ.length=X.N.length
section
variable{X:Cx}{pins:U (Y×Obj)}{σ:U (Option V)}{H H':Hp}{s:A2m}{h':A2y}
def Cx.Ok.nofr(a:X.Ok){b:Y}{o:Obj}(e:X.base.get? b=aA o):b∉X.fs:=λc=>by
 have:=(a.funs.mem c).1;rw[e]at this;cases this
theorem Inv.bs(I:Inv X pins σ H s):∀ b o,X.base.get? b=aA o->s.heap.get? b=aA o/\H b=aB:=λb o e=>
 ⟨I.base.keep b o (I.ok.bs b o e).1 (I.ok.bs b o e).2 (I.ok.nofr e) (I.ok.noex b o e),I.base.free b o (I.ok.bs b o e).1 (I.ok.bs b o e).2 (I.ok.noex b o e)⟩
def Inv.bk(I:Inv X pins σ H s):∀ b o,X.base.get? b=aA o->s.heap.get? b=aA o:=λb o e=>(I.bs b o e).1
theorem Inv.mod(I:Inv X pins σ H s):Mod X.K X.mg X.base:=I.ok.mod
def Inv.kIn(I:Inv X pins σ H s):X.K.In s.heap:=I.ok.mod.kin.keeps I.bk
theorem Inv.nolimit(I:Inv X pins σ H s):s.heap.NoLimit:=I.ok.mod.nolimit.keeps I.bk
def Inv.fr(I:Inv X pins σ H s):∃ m,Fr X.base X.env.locals s.heap m:=
 let ⟨m,a,_⟩:=I.loc
 ⟨m,a,I.bk,Z6 I.ok.bsz I.ok.above⟩
theorem Inv.lt(I:Inv X pins σ H s):X.env.locals<s.heap.objs.size:=by obtain⟨_,a,_⟩:=I.loc;exact a.lt
def Inv.sz(I:Inv X pins σ H s):X.s₀.heap.objs.size<=s.heap.objs.size:=Z6 I.ok.above (A0m I.lt)
def Inv.nofs(I:Inv X pins σ H s){a:Y}(h:s.heap.objs.size<=a):a∉X.fs:=λb=>by
 obtain⟨_,o,c,_⟩:=I.ok.funs.mem b;exact absurd (Z8 (Yk c) (Z6 I.sz h)) (A07 _)
def Inv.cne(I:Inv X pins σ H s):∀ x c,X.env.cells.lookup x=aA c->c≠X.env.locals:=λx c e z=>by
 obtain⟨v,o,d,f⟩:=I.cell x c e;obtain⟨m,⟨g,h,i,a,b,_⟩,_⟩:=I.loc;rw[z,a]at d;cases d;rw[b]at f;cases f
theorem Inv.funs(I:Inv X pins σ H s):s.heap.FunFrames X.base X.outer:=by
 have all:∀(l:U Env),(∀ b∈frs l,b∈X.fs)->X.s₀.heap.FunFrames X.base l->s.heap.FunFrames X.base l:=by
  intro l
  induction l with
  | nil=>intro _ _;trivial
  | cons env r g=>
    intro f h;obtain⟨i,⟨L,o,a,j,k,m⟩,n⟩:=h;have c:L∈X.fs:=f L (by unfold frs;rw[A0u,a];exact Yi);obtain⟨p,e⟩:=I.base.slot L o k (I.ok.frf L c) c λz=>I.ok.exfs L z c;exact⟨i,⟨L,_,a,j,e,m⟩,g (λb d=>f b (by unfold frs;rw[A0u,a];exact Yh _ d)) n⟩
 exact all X.outer (λ_ d=>d) I.ok.funs
theorem Inv.stack(I:Inv X pins σ H s):s.heap.FunFrames X.base X.stack:=by
 rcases I.ok.stk with e | ⟨e,hf⟩
 ·rw[e];exact I.funs
 ·rw[e];obtain⟨m,a,_⟩:=I.loc;refine .cons (by rw[I.ok.kind];decide) hf a ?_ I.funs;exact Heap.get?_none_of_le (Z6 I.ok.bsz I.ok.above)
def Inv.stkSub(I:Inv X pins σ H s):∀ b∈frs X.stack,b∈X.env.locals::X.fs:=λb a=>by
 rcases I.ok.stk with e | ⟨e,hf⟩
 ·rw[e]at a;exact Yh _ a
 ·rw[e]at a;unfold frs at a;rw[A0u,hf]at a;exact a
def Inv.stkFree(I:Inv X pins σ H s):∀ b∈frs X.stack,H b=aB:=λb a=>by
 rcases Yp.mp (I.stkSub b a) with e | a
 ·rw[e];exact I.free
 ·obtain⟨_,o,c,_⟩:=I.ok.funs.mem a;exact I.base.free b o c (I.ok.frf b a) λz=>I.ok.exfs b z a
def Inv.step{g':Array A4Y}{t':Nat}{d':Drawn}{ch:U Y}(I:Inv X pins σ H s)
 (g:∀ b∈ch,(b∈X.ex\/X.s₀.heap.objs.size<=b)/\b≠X.env.locals/\(∀ x c,X.env.cells.lookup x=aA c->c≠b)/\∀ p∈X.pn++pins,p.1≠b)
 (h:∀ b o,b≠X.env.locals->b∉X.fs->b∉ch->s.heap.get? b=aA o->H b=aB->h'.get? b=aA o)
 (B:∀ b o,b≠X.env.locals->b∈X.fs->b∉ch->s.heap.get? b=aA o->H b=aB->∃ T,h'.get? b=aA {o with slots:=T}) (f:∀ b o,b∉ch->s.heap.get? b=aA o->H b=aB->H' b=aB)
 (D:∀ b o,b∉ch->s.heap.get? b=aA o->∃ K,h'.get? b=aA K)
 (L:∀ b C,H b=aA (.tup C)->H' b=aA (.tup C)) (M:∀ b o u,H b=aA (.frz o (.lst u))->H' b=aA (.frz o (.lst u))) (N:∀ b S,H b=aA (.tbl S)->∃ P,H' b=aA (.tbl (S++P)))
 (ns:∀ m,s.heap.Ns X.env.locals m->h'.Ns X.env.locals m) (V:HOk X.prog X.w H' h') (hg:AllBare g'):
 Inv X pins σ H' {s with heap:=h',gens:=g',drawn:=d',toks:=t'}:=by
 have Q:∀ b o,X.s₀.heap.get? b=aA o->b≠X.env.locals:=λb o e=>Ys (Z8 (Yk e) I.ok.above)
 have y:∀ b o,X.s₀.heap.get? b=aA o->b∉X.ex->b∉ch:=λb o e a E=>by
  rcases(g b E).1 with z | z
  ·exact a z
  ·exact absurd (Z8 (Yk e) z) (A07 _)
 have j:∀ x c,X.env.cells.lookup x=aA c->∀ v,s.heap.IsCell c v->h'.IsCell c v:=λx c e v ⟨o,G,W⟩=>by
  have t:c∉ch:=λz=>(g c z).2.2.1 x c e rfl;by_cases hc:c∈X.fs
  ·obtain⟨T,q⟩:=B c o (I.cne x c e) hc t G (I.freeC x c e);exact⟨_,q,W⟩
  ·exact⟨o,h c o (I.cne x c e) hc t G (I.freeC x c e),W⟩
 refine⟨I.ok,I.os,hg,⟨λb o e n E a=>?_,λb o e n E a=>?_,λb o e n a=>?_,λb o e a=>?_,λb C e=>L b C (I.base.tups b C e),λb o C e=>M b o C (I.base.frzs b o C e),λb S e=>?_⟩,?_,λx c e=>?_,?_,λx c e=>?_,λp hp=>?_,V,I.len⟩
 ·exact h b o (Q b o e) E (y b o e a) (I.base.keep b o e n E a) (I.base.free b o e n a)
 ·obtain⟨T,A⟩:=I.base.slot b o e n E a;obtain⟨a0,R⟩:=B b _ (Q b o e) E (y b o e a) A (I.base.free b o e n a);exact⟨a0,R⟩
 ·obtain⟨K,A⟩:=I.base.there b o e a;exact f b K (y b o e a) A (I.base.free b o e n a)
 ·obtain⟨K,A⟩:=I.base.there b o e a;exact D b K (y b o e a) A
 ·obtain⟨m1,A⟩:=I.base.tbls b S e;obtain⟨m2,R⟩:=N b _ A;exact⟨m1++m2,by rw[R,Array.append_assoc]⟩
 ·obtain⟨m,hn,hl⟩:=I.loc;refine⟨m,ns m hn,λi x v A R e3=>?_⟩;obtain⟨u,r,l⟩:=hl i x v A R e3;refine⟨u,r,?_⟩;rcases l with l | ⟨k,c,e,z⟩
  ·exact .inl l
  ·exact .inr ⟨k,c,e,j x c e _ z⟩
 ·obtain⟨v,z⟩:=I.cell x c e;exact⟨v,j x c e v z⟩
 ·obtain⟨m,⟨o,_,_,G,_⟩,_⟩:=I.loc;exact f _ o (λz=>(g _ z).2.1 rfl) G I.free
 ·obtain⟨v,o,G,W⟩:=I.cell x c e;exact f c o (λz=>(g c z).2.2.1 x c e rfl) G (I.freeC x c e)
 ·obtain⟨e,n,ne,nf,d⟩:=I.pin p hp;have t:p.1∉ch:=λz=>(g p.1 z).2.2.2 p hp rfl;exact⟨h p.1 p.2 ne nf t e n,f p.1 p.2 t e n,ne,nf,d⟩
def Inv.un{t':Nat}(I:Inv X pins σ H s)(u:Un X.fs [] H H' s.heap h')(c:HOk X.prog X.w H' h'):Inv X pins σ H' {s with heap:=h',toks:=t'}:=by
 obtain⟨m,⟨o,l,p,h,r⟩,_⟩:=id I.loc;obtain⟨q,i⟩:=u.any h I.free (by simp)
 exact I.step (g':=s.gens) (d':=s.drawn) (ch:=[]) (λ_ z=>nomatch z) (λb o _ d _ e n=>u.keep b o e n d (by simp)) (λb o _ d _ e n=>u.slot b o e n d (by simp)) (λb o _ e n=>u.free b o e n (by simp)) (λb o _ e=>u.there b o e (by simp)) u.tups u.frzs u.tbls (λt j=>by
  obtain⟨v,f,g,a,k⟩:=j;rw[h]at a;cases a;exact⟨_,f,g,i,k⟩) c I.bare
def Inv.call{g':Array A4Y}{t':Nat}{d':Drawn}{ch:U Y}(I:Inv X pins σ H s)(u:Un (frs X.stack) ch H H' s.heap h')(g:HOk X.prog X.w H' h')(l:AllBare g')
 (d:∀ b∈ch,(b∈X.ex\/X.s₀.heap.objs.size<=b)/\b≠X.env.locals/\(∀ x c,X.env.cells.lookup x=aA c->c≠b)/\∀ p∈X.pn++pins,p.1≠b):
 Inv X pins σ H' {s with heap:=h',gens:=g',drawn:=d',toks:=t'}:=by
 obtain⟨m,⟨o,y,A,k,r⟩,_⟩:=id I.loc;obtain⟨B,h⟩:=u.any k I.free λz=>(d _ z).2.1 rfl
 exact I.step (ch:=ch) d (λb o h q a e n=>u.keep b o e n (λz=>(Yp.mp (I.stkSub b z)).elim h q) a) (λb o _ _ a e n=>u.any e n a) (λb o a e n=>u.free b o e n a) (λb o a e=>u.there b o e a) u.tups u.frzs u.tbls (λC t=>by
  obtain⟨D,i,j,f,v⟩:=t;rw[k]at f;cases f;exact⟨_,i,j,h,v⟩) g l
def Inv.turned{t':Nat}{a:Y}(I:Inv X pins σ H s)(k:∀ b o,b≠a->s.heap.get? b=aA o->h'.get? b=aA o)(h:H a=aB)(g:a≠X.env.locals)
 (i:a∈X.ex\/X.s₀.heap.objs.size<=a) (j:∀ x c,X.env.cells.lookup x=aA c->c≠a) (l:∀ p∈X.pn++pins,p.1≠a):Inv X pins σ H {s with heap:=h',toks:=t'}:=by
 have f:∀ b u,H b=aA u->b≠a:=λb u e z=>by rw[z,h]at e;cases e
 refine I.step (g':=s.gens) (d':=s.drawn) (ch:=[a]) (λb t=>?_) (λb o _ _ d e _=>k b o (λz=>d (by simp[z])) e) (λb o _ _ d e _=>⟨o.slots,k b o (λz=>d (by simp[z])) e⟩) (λ_ _ _ _ n=>n)
  (λb o d e=>⟨o,k b o (λz=>d (by simp[z])) e⟩) (λ_ _ e=>e) (λ_ _ _ e=>e) (λb C e=>⟨#[],by rw[e];simp⟩) (λm w=>?_) (λb u e=>?_) I.bare
 ·have e:b=a:=by simpa using t
  subst e;exact⟨i,g,j,l⟩
 ·obtain⟨o,y,A,B,r⟩:=w;exact⟨o,y,A,k _ o (Ne.symm g) B,r⟩
 ·refine(I.hok b u e).stay (λc v d q=>k c v ?_ q) (λ_ q=>q) λ_ _ q=>q;rcases d with z | z
  ·rw[z];exact f b u e
  ·exact f c _ z
def Inv.tok(I:Inv X pins σ H s)(t:Nat):Inv X pins σ H {s with toks:=t}:=I.un (h':=s.heap) (t':=t) Un.refl I.hok
theorem Inv.kept{t':Nat}(I:Inv X pins σ H s)(k:∀ b u,s.heap.get? b=aA u->h'.get? b=aA u):Inv X pins σ H {s with heap:=h',toks:=t'}:=I.un (Un.kept k) (I.hok.kept k)
theorem Inv.laid{a:Y}{o:HO}{t':Nat}(I:Inv X pins σ H s)(k:∀ b u,s.heap.get? b=aA u->h'.get? b=aA u)(c:s.heap.objs.size<=a)(d:ObjOk X.prog X.w (upd H a o) h' a o):
 Inv X pins σ (upd H a o) {s with heap:=h',toks:=t'}:=I.un (Un.laid k c (I.hok.fresh c)) (I.hok.laid k c d)
theorem Inv.write{x e:Y}{o:HO}{t':Nat}(I:Inv X pins σ H s)(d:Mut (H x))(f:e=x\/H e=aA (.own x))(k:∀ b u,b≠e->s.heap.get? b=aA u->h'.get? b=aA u)(a:∃ u,h'.get? e=aA u)
 (c:ObjOk X.prog X.w (upd H x o) h' x o):Inv X pins σ (upd H x o) {s with heap:=h',toks:=t'}:=I.un (Un.write d f k a) (I.hok.write d f k a c)
def Inv.weak{a:U (Option V)}(I:Inv X pins σ H s)(c:a.length=σ.length)(w:∀(i:Nat) v,a[i]?=aA (aA v)->σ[i]?=aA (aA v)):Inv X pins a H s:=
 ⟨I.ok,I.os,I.bare,I.base,let ⟨m,d,b⟩:=I.loc;⟨m,d,λi x v e f g=>b i x v e (w i v f) g⟩,I.cell,I.free,I.freeC,I.pin,I.hok,c.trans I.len⟩
def Inv.pins_of{a:U (Y×Obj)}(I:Inv X pins σ H s)(h:∀ p∈a,s.heap.get? p.1=aA p.2/\H p.1=aB/\p.1≠X.env.locals/\p.1∉X.fs/\∀ v,p.2.data ≠ .cell v):Inv X a σ H s:=
 ⟨I.ok,I.os,I.bare,I.base,I.loc,I.cell,I.free,I.freeC,λp b=>(Yz.mp b).elim (λz=>I.pin p (Zp _ z)) (h p),I.hok,I.len⟩
def GT{N:U Str}(c:N.Nodup){i j:Nat}{x:Str}(a:N[i]?=O x)(b:N[j]?=O x):i=j:=by obtain⟨f,d⟩:=gM a;obtain⟨g,e⟩:=gM b;exact(List.getElem_inj c).mp (d.trans e.symm)
theorem Ep{M:Model}{A:A2w}{E:F->A2m->Prop}{i:Nat}{x:Str}{v:V}{u:F}{Q:Unit->A2m->Prop}(I:Inv X pins σ H s)(hN:X.N.Nodup)(T:X.N[i]?=O x)(B:Loc X.env.scope x)(r:RelV v u)
 (h:∀ s',Inv X pins (σ.set i (O v)) H s'->(∃ a,Z7 a s.heap s'.heap/\(a=X.env.locals\/X.env.cells.lookup x=O a))->Q () s') (hf:X.fn x=aC\/X.env.scope.names.lookup x=O .local:=by first | exact .inl J | exact .inr J | assumption):A2o M A (storeName X.env x u) Q E s:=by
 obtain⟨m,hn,hl⟩:=id I.loc;have W:(X.env.scope.kind == .class||(X.env.scope.kind == .module&&X.env.locals != X.env.globals))=aD:=by rw[I.ok.kind];rfl
 have G:i<σ.length:=by rw[I.len];exact(gM T).1
 have L:=I.cne
 have g:∀{a:Y} {h':A2y},(∃ o,s.heap.get? a=O o/\H a=aB)->Z7 a s.heap h'->HOk X.prog X.w H h':=λ{a h'} ha f b ob e=>by
  obtain⟨_,_,C⟩:=ha;refine(I.hok b ob e).stay (λc w' t q=>(f.2 c ?_).trans q) (λ_ q=>q) λ_ _ q=>q;rintro rfl;rcases t with rfl | t
  ·rw[C]at e;cases e
  ·rw[C]at t;cases t
 rcases B with K | K
 ·refine wpAny_storeName_local K hn (λh' a4 f=>?_) W;obtain⟨oL,_,_,a5,_⟩:=id hn;refine h _ ⟨I.ok,I.os,I.bare,⟨λb o e n P B=>?_,λb o e n P B=>?_,I.base.free,λb o e B=>?_,I.base.tups,I.base.frzs,I.base.tbls⟩,⟨_,a4,λj y v' l D e3=>?_⟩,λy c e=>?_,I.free,I.freeC,λp hp=>?_,g ⟨oL,a5,I.free⟩ f,by simpa using I.len⟩ ⟨_,f,.inl J⟩
  ·exact(f.2 b (Ys (Z8 (Yk e) I.ok.above))).trans (I.base.keep b o e n P B)
  ·obtain⟨sl,l⟩:=I.base.slot b o e n P B;exact⟨sl,(f.2 b (Ys (Z8 (Yk e) I.ok.above))).trans l⟩
  ·obtain⟨o',l⟩:=I.base.there b o e B;exact⟨o',(f.2 b (Ys (Z8 (Yk e) I.ok.above))).trans l⟩
  ·by_cases R:j=i
   ·subst R;rw[T]at l;cases l;rw[Zf G]at D;cases D;exact⟨u,r,.inl ⟨K,by simp⟩⟩
   ·rw[A01 (Ne.symm R)]at D;obtain⟨u',r',q⟩:=hl j y v' l D e3;refine⟨u',r',?_⟩;rcases q with⟨k,e⟩ | ⟨k,c,e,z⟩
    ·refine .inl ⟨k,?_⟩;have:y≠x:=λe=>R (GT hN l (e▸T));simp[this,e]
    ·exact .inr ⟨k,c,e,z.sameBut f (L y c e)⟩
  ·obtain⟨w',z⟩:=I.cell y c e;exact⟨w',z.sameBut f (L y c e)⟩
  ·obtain⟨e,n,ne,nf,d⟩:=I.pin p hp;exact⟨(f.2 p.1 ne).trans e,n,ne,nf,d⟩
 ·have S:X.fn x=aC:=by
   rcases hf with z | z
   ·exact z
   ·rw[z]at K;cases K
  obtain⟨c,t⟩:=I.ok.has x (.inl K);obtain⟨w',z⟩:=I.cell x c t;refine wpAny_storeName_cell I.ok.kind K t z (λh' a0 f=>?_);obtain⟨oc,a1,a2⟩:=id z;refine h {s with heap:=h'} ⟨I.ok,I.os,I.bare,⟨λb o e n P B=>?_,λb o e n P B=>?_,I.base.free,λb o e B=>?_,I.base.tups,I.base.frzs,I.base.tbls⟩,⟨m,hn.sameBut f (Ne.symm (L x c t)),λj y v' l D e3=>?_⟩,λy c' e=>?_,I.free,I.freeC,λp hp=>?_,g ⟨oc,a1,I.freeC x c t⟩ f,by simpa using I.len⟩ ⟨c,f,.inr t⟩
  ·exact(f.2 b (Ys (Z8 (Yk e) (I.ok.cab x c S t)))).trans (I.base.keep b o e n P B)
  ·obtain⟨sl,l⟩:=I.base.slot b o e n P B;exact⟨sl,(f.2 b (Ys (Z8 (Yk e) (I.ok.cab x c S t)))).trans l⟩
  ·obtain⟨o',l⟩:=I.base.there b o e B;exact⟨o',(f.2 b (Ys (Z8 (Yk e) (I.ok.cab x c S t)))).trans l⟩
  ·by_cases R:j=i
   ·subst R;rw[T]at l;cases l;rw[Zf G]at D;cases D;exact⟨u,r,.inr ⟨.inl K,c,t,a0⟩⟩
   ·rw[A01 (Ne.symm R)]at D;obtain⟨u',r',q⟩:=hl j y v' l D e3;refine⟨u',r',?_⟩;rcases q with q | ⟨k,c',e,z'⟩
    ·exact .inl q
    ·refine .inr ⟨k,c',e,z'.sameBut f ?_⟩;rintro rfl;exact R (GT hN l (I.ok.inj _ _ _ e t▸T))
  ·by_cases a3:c'=c
   ·subst a3;exact⟨_,a0⟩
   ·obtain⟨w2,z2⟩:=I.cell y c' e;exact⟨w2,z2.sameBut f a3⟩
  ·obtain⟨e,n,ne,nf,d⟩:=I.pin p hp;refine⟨(f.2 p.1 ?_).trans e,n,ne,nf,d⟩;intro q;rw[q,a1]at e;have q':oc=p.2:=oj e;exact d w' (by rw[<-q'];exact a2)
def CT{M:Model}{A:A2w}{E:F->A2m->Prop}{i:Nat}{x:Str}{v:V}{u:F}{Q:Unit->A2m->Prop}(I:Inv X pins σ H s)(b:X.N.Nodup)(c:X.N[i]?=O x)(d:Loc X.env.scope x)(r:RelV v u)
 (h:∀ a,Inv X pins (σ.set i (O v)) H a->Q () a) (e:X.fn x=aC\/X.env.scope.names.lookup x=O .local:=by first | exact .inl J | exact .inr J | assumption):A2o M A (storeName X.env x u) Q E s:=
 Ep I b c d r (λa f _=>h a f) e
def Inv.call'{a:A2m}{ch:U Y}(I:Inv X pins σ H s)(g:a.os=s.os)(u:Un (frs X.stack) ch H H' s.heap a.heap)(d:HOk X.prog X.w H' a.heap)(h:AllBare a.gens)
 (f:∀ b∈ch,(b∈X.ex\/X.s₀.heap.objs.size<=b)/\b≠X.env.locals/\(∀ x c,X.env.cells.lookup x=aA c->c≠b)/\∀ p∈X.pn++pins,p.1≠b):Inv X pins σ H' a:=by obtain⟨h',g',d',t',i⟩:=a;have e:i=s.os:=g;subst e;exact I.call (g':=g') (t':=t') (d':=d') u d h f
end
abbrev XK:=F->Option Y->Hp->Prop
abbrev St:=U (Option V)
abbrev VK:=V->Hp->Prop
abbrev TE:=St->Hp->VK->Prop
abbrev TT:=St->Hp->(Bool->Hp->Prop)->Prop
abbrev TA:=St->Hp->(U V->Hp->Prop)->Prop
structure Ends where
 nx:St->Hp->Prop
 rt:VK
 bk:St->Hp->Prop:=λ_ _=>False
 ct:St->Hp->Prop:=λ_ _=>False
abbrev TS:=Ends->St->Hp->Prop
def EP(X:Cx)(a:U (Y×Obj))(c:St)(Q:VK)(u:F)(d:A2m):Prop:=∃ v b,Inv X a c b d/\RelV v u/\Q v b
def TP(X:Cx)(a:U (Y×Obj))(d:St)(Q:Bool->Hp->Prop)(b:Bool)(e:A2m):Prop:=∃ c,Inv X a d c e/\Q b c
def AP(X:Cx)(a:U (Y×Obj))(c:St)(Q:U V->Hp->Prop)(d:U F)(e:A2m):Prop:=∃ vs b,Inv X a c b e/\Vals vs d/\Q vs b
def SP(X:Cx)(b:U (Y×Obj))(D:Ends)(f:Flow)(d:A2m):Prop:=
 match f with
 | .next=>∃ a c,Inv X b a c d/\D.nx a c
 | .brk=>∃ a c,Inv X b a c d/\D.bk a c
 | .cont=>∃ a c,Inv X b a c d/\D.ct a c
 | .ret u=>∃ v a c,Inv X b a c d/\RelV v u/\D.rt v c
noncomputable def PE(X:Cx)(e:A2p)(t:TE):Prop:=
 ∀(a:U (Y×Obj)) (s:A2m) (b:St) (H:Hp) (Q:VK),Inv X a b H s->t b H Q->A2o (A2q X.prog X.w) X.A (eval e X.env) (EP X a b Q) X.xe s
noncomputable def PT(X:Cx)(e:A2p)(t:TT):Prop:=
 ∀(a:U (Y×Obj)) (s:A2m) (b:St) (H:Hp) (Q:Bool->Hp->Prop),Inv X a b H s->t b H Q->A2o (A2q X.prog X.w) X.A (isTrue e X.env (eval e X.env)) (TP X a b Q) X.xe s
noncomputable def PW(X:Cx)(e:A2p)(t:TT):Prop:=
 ∀(b:Sem F) (a:U (Y×Obj)) (s:A2m) (c:St) (H:Hp) (Q:Bool->Hp->Prop),Inv X a c H s->t c H Q->A2o (A2q X.prog X.w) X.A (isTrue e X.env b) (TP X a c Q) X.xe s
def PW.pt{X:Cx}{e:A2p}{t:TT}(h:PW X e t):PT X e t:=h _
noncomputable def PA(X:Cx)(es:U A2p)(t:TA):Prop:=
 ∀(pos:Pos) (a:U (Y×Obj)) (s:A2m) (b:St) (H:Hp) (Q:U V->Hp->Prop),Inv X a b H s->t b H Q->A2o (A2q X.prog X.w) X.A (spliced (backTo pos (A2x es X.env))) (AP X a b Q) X.xe s
noncomputable def PS(X:Cx)(st:A2V)(t:TS):Prop:=
 ∀(a:U (Y×Obj)) (s:A2m) (b:St) (H:Hp) (D:Ends),Inv X a b H s->t D b H->A2o (A2q X.prog X.w) X.A (exec st X.env) (SP X a D) X.xe s
noncomputable def PSs(X:Cx)(st:U A2V)(t:TS):Prop:=
 ∀(a:U (Y×Obj)) (s:A2m) (b:St) (H:Hp) (D:Ends),Inv X a b H s->t D b H->A2o (A2q X.prog X.w) X.A (execs st X.env) (SP X a D) X.xe s
def thn{b:Type}{t:Sem b}{Q c:b->A2m->Prop}{M:Model}{A:A2w}{E:F->A2m->Prop}{s:A2m}(h:A2o M A t Q E s)(d:∀ a s,Q a s->c a s):A2o M A t c E s:=A2J h d λ_ _ x=>x
section
variable{X:Cx}
def N7(i:Nat):TE:=λa H Q=>∃ v,a[i]?=O (O v)/\Q v H
def tC(v:V):TE:=λ_ H Q=>Q v H
def N8{i:Nat}{x:Str}{g:Pos}(o:X.N[i]?=O x)(p:Vis X.env.scope x)(j:(x == ("__debug__":Str))=aD:=by decide)(k:(x == ("__classdict__":Str))=aD:=by decide):PE X (.Name x g) (N7 i):=by
 intro f s q H Q I h;obtain⟨v,e,h⟩:=h;obtain⟨m,t,w⟩:=I.loc;obtain⟨u,r,l⟩:=w i x v o e p;have b:EP X f q Q u s:=⟨v,H,I,r,h⟩
 rcases l with⟨d,y⟩ | ⟨d,c,n,a⟩
 ·exact A4Z (wpAny_loadName_local I.ok.kind d t y b) j
 ·rcases d with d | d
  ·exact A4Z (wpAny_loadName_cell I.ok.kind d n a b) j
  ·exact A4Z (wpAny_loadName_free I.ok.kind d n a b k) j
def UI{i j pos}:PE X (.Constant (.int i) j pos) (tC (.int i)):=λ_ _ _ H _ I h=>wpAny_Constant_int ⟨.int i,H,I.tok _,⟨_,J⟩,h⟩
def W7{b j pos}:PE X (.Constant (.bool b) j pos) (tC (.bl b)):=λ_ _ _ H _ I h=>Constant_bool ⟨.bl b,H,I,J,h⟩
def UJ{j pos}:PE X (.Constant .none j pos) (tC .non):=λ_ _ _ H _ I h=>Constant_none ⟨.non,H,I,J,h⟩
def UK{x j pos}:PE X (.Constant (.str x) j pos) (tC (.str x)):=λ_ _ _ H _ I h=>Calls.Constant_str ⟨.str x,H,I.tok _,⟨_,J⟩,h⟩
def Gl(X:Cx)(x:Str):Prop:=X.env.kindOf x=O .globalImplicit
def Qr{E:F->A2m->Prop}{a:U (Y×Obj)}{s:A2m}{c:St}{H:Hp}{x:Str}{u:F}{b:Pos}{Q:F->A2m->Prop}(I:Inv X a c H s)(d:Gl X x)(e:X.mg x=O u)(h:Q u s)
 (f:(x == ("__debug__":Str))=aD:=by decide):A2o (A2q X.prog X.w) X.A (eval (.Name x b) X.env) Q E s:=
 Calls.Name_function_global I.ok.kind d (Calls.loadGlobal_global (by rw[I.ok.glob];exact I.mod.glob.keeps I.bk) e h) f
def AW{E:F->A2m->Prop}{a:U (Y×Obj)}{s:A2m}{c:St}{H:Hp}{x:Str}{u:F}{b:Pos}{Q:F->A2m->Prop}(I:Inv X a c H s)(d:Gl X x)(e:X.mg x=aB)(f:A2v x=O u)(h:Q u s)
 (g:x≠"__name__":=by decide) (i:(x == ("__debug__":Str))=aD:=by decide):A2o (A2q X.prog X.w) X.A (eval (.Name x b) X.env) Q E s:=by obtain⟨l,j,k⟩:=I.mod.blt;exact Calls.Name_function_global I.ok.kind d (Calls.loadGlobal_builtin (by rw[I.ok.glob];exact I.mod.glob.keeps I.bk) e (by rw[I.ok.blt];exact j.keeps I.bk) ((k x g).trans f) h) i
def Qs{x:Str}{v:V}{u:F}{a:Pos}(b:Gl X x)(c:X.mg x=aB)(d:A2v x=O u)(r:RelV v u)(e:x≠"__name__":=by decide)(f:(x == ("__debug__":Str))=aD:=by decide):PE X (.Name x a) (tC v):=
 λ_ _ _ H _ I h=>AW I b c d ⟨v,H,I,r,h⟩ e f
variable{a b:A2p}{ta tb:TE}{pos:Pos}
variable{tA tB':TT}{rest:U A2p}
def W8(t u:TT):TT:=λd H Q=>t d H λc e=>if c=aC then u d e Q else Q aD e
def tOr(t u:TT):TT:=λd H Q=>t d H λc e=>if c=aC then Q aC e else u d e Q
def W9(t:TT):TT:=λd H Q=>t d H λc e=>Q (!c) e
def Qt(f:PT X a tA):PW X (.BoolOp .And [a] pos) tA:=by
 intro i d s g H Q I h;refine isTrue_and (thn (f d s g H Q I h) λc j e=>?_);cases c with
 | true=>exact isTrue_and_nil e
 | false=>exact e
def UL(f:PT X a tA):PW X (.BoolOp .Or [a] pos) tA:=by
 intro i d s g H Q I h;refine isTrue_or (thn (f d s g H Q I h) λc j e=>?_);cases c with
 | false=>exact isTrue_or_nil e
 | true=>exact e
def N9(i:PT X a tA)(j:PW X (.BoolOp .And (b::rest) pos) tB'):PW X (.BoolOp .And (a::b::rest) pos) (W8 tA tB'):=by
 intro k d s e H Q I h;refine isTrue_and (thn (i d s e H _ I h) λc l ⟨f,g,q1⟩=>?_);cases c with
 | true=>exact j k d l e f Q g q1
 | false=>exact⟨f,g,q1⟩
def TZ(i:PT X a tA)(j:PW X (.BoolOp .Or (b::rest) pos) tB'):PW X (.BoolOp .Or (a::b::rest) pos) (tOr tA tB'):=by
 intro k d s e H Q I h;refine isTrue_or (thn (i d s e H _ I h) λc l ⟨f,g,q1⟩=>?_);cases c with
 | true=>exact⟨f,g,q1⟩
 | false=>exact j k d l e f Q g q1
def UM(e:PT X a tA):PT X (.UnaryOp .Not a pos) (W9 tA):=by intro d s f H Q I h;exact isTrue_not (e d s f H (λc g=>Q (!c) g) I h)
def Ta(ta f:TE):TE:=λd H Q=>ta d H λx e=>∃ c,x = .bl c/\if c=aC then f d e Q else Q (.bl aD) e
def WB(ta f:TE):TE:=λd H Q=>ta d H λx e=>∃ c,x = .bl c/\if c=aC then Q (.bl aC) e else f d e Q
def Tb(ta:TE):TE:=λd H Q=>ta d H λx e=>∃ c,x = .bl c/\Q (.bl (!c)) e
def NA{op}{t:TE}(h:PE X a t):PE X (.BoolOp op [a] pos) t:=λc s d H Q I e=>BoolOp_one (h c s d H Q I e)
def NB(i:PE X a ta)(j:PE X (.BoolOp .And (b::rest) pos) tb):PE X (.BoolOp .And (a::b::rest) pos) (Ta ta tb):=by
 intro d s e H Q I h;refine BoolOp_and (thn (i d s e H _ I h) λv k l=>?_);obtain⟨x,f,g,m,q1⟩:=l;obtain⟨c,rfl,q1⟩:=q1;cases m;refine A2I ?_;cases c with
 | true=>exact j d k e f Q g q1
 | false=>exact⟨.bl aD,f,g,J,q1⟩
def Tc(i:PE X a ta)(j:PE X (.BoolOp .Or (b::rest) pos) tb):PE X (.BoolOp .Or (a::b::rest) pos) (WB ta tb):=by
 intro d s e H Q I h;refine BoolOp_or (thn (i d s e H _ I h) λv k l=>?_);obtain⟨x,f,g,m,q1⟩:=l;obtain⟨c,rfl,q1⟩:=q1;cases m;refine A2I ?_;cases c with
 | false=>exact j d k e f Q g q1
 | true=>exact⟨.bl aC,f,g,J,q1⟩
def UN(e:PE X a ta):PE X (.UnaryOp .Not a pos) (Tb ta):=by intro d s f H Q I h;refine UnaryOp_ (thn (e d s f H _ I h) λv l g=>?_);obtain⟨x,i,j,k,q1⟩:=g;obtain⟨c,rfl,q1⟩:=q1;cases k;exact not_of (A2I ⟨.bl (!c),i,j,J,q1⟩)
def tIf(t:TT)(ta f:TE):TE:=λd H Q=>t d H λc e=>if c=aC then ta d e Q else f d e Q
def NC{c:A2p}(k:PT X c tA)(l:PE X a ta)(m:PE X b tb):PE X (.IfExp c a b pos) (tIf tA ta tb):=by
 intro e s f H Q I h;refine wpAny_IfExp (thn (k e s f H _ I h) λd g ⟨i,j,q1⟩=>?_);cases d with
 | true=>exact l e g f i Q j q1
 | false=>exact m e g f i Q j q1
end
def SqL(K:YZ)(H:Hp)(a:Y)(xs:U V):Prop:=
 Rd H a (.lst xs)\/
  ∃(o:Obj) (b:Array F) (n:Nat),K.lookup a=O o/\o.cls = .type "list"/\o.dict=aB/\o.data = .seq b n/\b.size<=A2s/\Vals xs b.toList
def SqT(K:YZ)(H:Hp)(a:Y)(xs:U V):Prop:=
 Rd H a (.tup xs)\/
  ∃(o:Obj) (b:Array F) (n:Nat),K.lookup a=O o/\o.cls = .type "tuple"/\o.data = .seq b n/\b.size<=A2s/\Vals xs b.toList
def Xw:F->Option V
 | .none=>O .non
 | .bool b=>O (.bl b)
 | .int i _=>O (.int i)
 | .str x _=>O (.str x)
 | .bytes b _=>O (.byt b)
 | .float b _=>O (.flt b)
 | .ref a=>O (.ref a)
 | .type n=>O (.ty n)
 | _=>aB
def RelV.abs{x:V}{u:A2k}(r:RelV x u):Xw u=aA x:=by
 cases x with
 | non=>cases r;rfl
 | bl _=>cases r;rfl
 | int _=>obtain⟨t,rfl⟩:=r;rfl
 | str _=>obtain⟨t,rfl⟩:=r;rfl
 | byt _=>obtain⟨t,rfl⟩:=r;rfl
 | flt _=>obtain⟨t,rfl⟩:=r;rfl
 | ref _=>cases r;rfl
 | ty _=>cases r;rfl
def RelV.inj{x y:V}{u:A2k}(r:RelV x u)(q:RelV y u):x=y:=oj (r.abs.symm.trans q.abs)
theorem Vals.inj:∀{a b:U V} {c:U A2k},Vals a c->Vals b c->a=b
 | _,_,_,.nil,.nil=>rfl
 | _,_,_,.cons r t,.cons d e=>by rw[r.inj d,Vals.inj t e]
section
variable{X:Cx}{pins:U (Y×Obj)}{σ:St}{H:Hp}{s:A2m}{a:Y}{xs ys:U V}
def SqL.of{K:YZ}(h:H a=aA (.lst xs)):SqL K H a xs := .inl (.inl h)
def SqT.of{K:YZ}(h:H a=aA (.tup xs)):SqT K H a xs := .inl (.inl h)
def Inv.list(I:Inv X pins σ H s)(h:SqL X.K H a xs):∃ b:U A2k,Vals xs b/\PlainL s.heap a b.toArray/\xs.length<=A2s:=by
 rcases h with h | ⟨o,b,n,hk,hc,hd,hs,hz,r⟩
 ·obtain⟨z,b,n,r,e⟩:=h.ok I.hok;exact⟨b,r,⟨_,n,e,rfl,rfl,rfl⟩,z⟩
 ·refine⟨b.toList,r,⟨o,n,I.kIn a o hk,hc,hd,by simpa using hs⟩,?_⟩;have e:=r.length;simp only[Zc]at e
  lia
def Inv.tuple(I:Inv X pins σ H s)(h:SqT X.K H a xs):∃ b:U A2k,Vals xs b/\IsTup s.heap a b.toArray/\xs.length<=A2s:=by
 rcases h with h | ⟨o,b,n,hk,hc,hs,hz,r⟩
 ·obtain⟨z,b,r,p⟩:=h.ok I.hok;exact⟨b,r,p,z⟩
 ·refine⟨b.toList,r,⟨o,I.kIn a o hk,hc,n,by simpa using hs⟩,?_⟩;have e:=r.length;simp only[Zc]at e
  lia
def Inv.list_inj(I:Inv X pins σ H s)(h:SqL X.K H a xs)(i:SqL X.K H a ys):xs=ys:=by
 obtain⟨c,r,⟨o,n,e,_,_,d⟩,_⟩:=I.list h;obtain⟨b,j,⟨k,l,f,_,_,g⟩,_⟩:=I.list i;rw[e]at f;cases f;rw[d]at g;injection g with d1 _;have:c=b:=by simpa using congrArg A29 d1
 subst this;exact r.inj j
def Inv.tuple_inj(I:Inv X pins σ H s)(h:SqT X.K H a xs)(i:SqT X.K H a ys):xs=ys:=by
 obtain⟨c,r,⟨o,e,_,n,d⟩,_⟩:=I.tuple h;obtain⟨b,j,⟨k,f,_,l,g⟩,_⟩:=I.tuple i;rw[e]at f;cases f;rw[d]at g;injection g with d1 _;have:c=b:=by simpa using congrArg A29 d1
 subst this;exact r.inj j
end
abbrev Cx.wish(X:Cx)(E:A2k->A2m->Prop):Cx:={X with xe:=E}
abbrev Cx.nox(X:Cx):Cx:=X.wish λ_ _=>False
theorem Cx.Ok.wish{X:Cx}(a:X.Ok)(E:A2k->A2m->Prop):(X.wish E).Ok:=
 ⟨a.mod,a.kind,a.glob,a.blt,a.above,a.inj,a.has,a.cab,a.hd,a.frames,a.stk,a.exf,a.bs,a.bsz,a.noex,a.exfs,a.funs,a.frf⟩
def Cx.Ok.unwish{X:Cx}{E:A2k->A2m->Prop}(a:(X.wish E).Ok):X.Ok:=
 ⟨a.mod,a.kind,a.glob,a.blt,a.above,a.inj,a.has,a.cab,a.hd,a.frames,a.stk,a.exf,a.bs,a.bsz,a.noex,a.exfs,a.funs,a.frf⟩
section
variable{X:Cx}{pins:U (Y×Obj)}{σ:St}{H:Hp}{s:A2m}{E:F->A2m->Prop}
theorem Inv.wish(I:Inv X pins σ H s)(E:A2k->A2m->Prop):Inv (X.wish E) pins σ H s:=⟨I.ok.wish E,I.os,I.bare,I.base,I.loc,I.cell,I.free,I.freeC,I.pin,I.hok,I.len⟩
theorem Inv.unwish(I:Inv (X.wish E) pins σ H s):Inv X pins σ H s:=⟨I.ok.unwish,I.os,I.bare,I.base,I.loc,I.cell,I.free,I.freeC,I.pin,I.hok,I.len⟩
theorem SP.unwish{D:Ends}{f:Flow}{c:A2m}(h:SP (X.wish E) pins D f c):SP X pins D f c:=by
 cases f with
 | next=>obtain⟨a,b,I,q⟩:=h;exact⟨a,b,I.unwish,q⟩
 | brk=>obtain⟨a,b,I,q⟩:=h;exact⟨a,b,I.unwish,q⟩
 | cont=>obtain⟨a,b,I,q⟩:=h;exact⟨a,b,I.unwish,q⟩
 | ret u=>obtain⟨v,a,b,I,r,q⟩:=h;exact⟨v,a,b,I.unwish,r,q⟩
theorem PSs.nox{a:U A2V}{t:TS}(h:PSs X.nox a t):PSs X a t:=λpins s σ H D I b=>
 A2J (h pins s σ H D (I.wish _) b) (λ_ _ q=>q.unwish) λ_ _ z=>False.elim z
end
section
variable{X:Cx}{st:A2V}{rest:U A2V}{t u:TS}{e:A2p}{te:TE}{pos:Pos}
def WC:TS:=λD a H=>D.nx a H
def Xx(t u:TS):TS:=λD a H=>t {D with nx:=u D} a H
def Qu:PSs X [] WC:=λ_ _ a H _ I h=>A43 ⟨a,H,I,h⟩
def ND(c:PS X st t)(d:PSs X rest u):PSs X (st::rest) (Xx t u):=by
 intro a s g H D I h;refine wpAny_execs_cons (thn (c a s g H {D with nx:=u D} I h) λf i q=>?_);cases f with
 | next=>
   obtain⟨b,j,k,q⟩:=q;exact d a i b j D k q
 | ret v=>exact q
 | brk=>exact q
 | cont=>exact q
def Inv.quiet{a:U (Y×Obj)}{b:St}{H:Hp}{s:A2m}(I:Inv X a b H s):interactive X.env=aD:=by simp[interactive,I.ok.kind]
def WD(b:TE):TS:=λD a H=>b a H λ_ c=>D.nx a c
def Qv(c:PE X e te)(d:A3b e aB pos.line X.env=pure aD:=by rfl):PS X (.Expr e pos) (WD te):=by intro a s b H D I h;exact wpAny_Expr_any (thn (c a s b H _ I h) (by rintro v i ⟨x,f,g,j,q1⟩;exact⟨b,f,g,q1⟩)) I.quiet d
def Xy(a:TE):TS:=λD b H=>a b H D.rt
def UO(c:PE X e te):PS X (.Return (O e) pos) (Xy te):=by intro a s b H D I h;exact wpAny_Return_some (thn (c a s b H _ I h) (by rintro v i ⟨x,d,f,g,q1⟩;exact⟨x,b,d,f,g,q1⟩))
def WF(c:TT)(t u:TS):TS:=λD a H=>c a H λb d=>if b=aC then t D a d else u D a d
def WG{c:A2p}{a b:U A2V}{i:TT}(m:PT X c i)(n:PSs X a t)(o:PSs X b u):PS X (.If c a b pos) (WF i t u):=by
 intro f s g H D I h;refine wpAny_If (thn (m f s g H _ I h) λd j ⟨k,l,q1⟩=>?_);cases d with
 | true=>exact n f j g k D l q1
 | false=>exact o f j g k D l q1
end
abbrev TG:=V->St->Hp->(St->Hp->Prop)->Prop
abbrev TGs:=U V->St->Hp->(St->Hp->Prop)->Prop
noncomputable def PG(X:Cx)(a:A2p)(t:TG):Prop:=
 ∀(b:U (Y×Obj)) (s:A2m) (d:St) (H:Hp) (v:V) (u:F) (Q:St->Hp->Prop),Inv X b d H s->RelV v u->t v d H Q->
  A2o (A2q X.prog X.w) X.A (assign a X.env u) (λ_ f=>∃ c e,Inv X b c e f/\Q c e) X.xe s
noncomputable def PGs(X:Cx)(ts:U A2p)(t:TGs):Prop:=
 ∀(a:U (Y×Obj)) (s:A2m) (c:St) (H:Hp) (vs:U V) (d:U F) (Q:St->Hp->Prop),Inv X a c H s->Vals vs d->t vs c H Q->
  A2o (A2q X.prog X.w) X.A (A4q ((A2Z ts X.env).map (·.2)) d) (λ_ f=>∃ b e,Inv X a b e f/\Q b e) X.xe s
abbrev NE:=V->V->V->Hp->(Hp->Prop)->Prop
noncomputable def UP(X:Cx)(t:NE):Prop:=
 ∀(a:U (Y×Obj)) (s:A2m) (b:St) (H:Hp) (o i v:V) (c d u:F) (Q:Hp->Prop),Inv X a b H s->RelV o c->RelV i d->RelV v u->t o i v H Q->
  A2o (A2q X.prog X.w) X.A (setItem c d u) (λ_ f=>∃ e,Inv X a b e f/\Q e) X.xe s
abbrev TIp:=V->V->Hp->VK->Prop
noncomputable def PIp(X:Cx)(op:A3h)(t:TIp):Prop:=
 ∀(a:U (Y×Obj)) (s:A2m) (b:St) (H:Hp) (x y:V) (v u:F) (Q:VK),Inv X a b H s->RelV x v->RelV y u->t x y H Q->
  A2o (A2q X.prog X.w) X.A (inplaceOp op v u) (EP X a b Q) X.xe s
section
variable{X:Cx}{pos:Pos}
def GU(i:Nat):TG:=λv a H Q=>Q (a.set i (O v)) H
def Qw{i:Nat}{x:Str}(b:X.N.Nodup)(c:X.N[i]?=O x)(d:Loc X.env.scope x)(e:X.fn x=aC\/X.env.scope.names.lookup x=O .local:=by first | exact .inl J | exact .inr J | assumption):PG X (.Name x pos) (GU i):=by intro a s g H v u Q I r h;exact A4D (CT I b c d r (λj f=>⟨_,H,f,h⟩) e)
def Xz:TGs:=λvs a H Q=>vs=[]/\Q a H
def WH(t:TG)(u:TGs):TGs:=λvs b H Q=>∃ v r,vs=v::r/\t v b H λa c=>u r a c Q
def Qx:PGs X [] Xz:=by intro a s b H c d Q I r h;obtain⟨e,h⟩:=h;subst e;cases r;exact A4E ⟨b,H,I,h⟩
def NF{e:A2p}{b:U A2p}{t:TG}{u:TGs}(d:PG X e t)(f:PGs X b u)
 (g:(A2Z (e::b) X.env).map (·.2)=assign e X.env::(A2Z b X.env).map (·.2):=by rfl):PGs X (e::b) (WH t u):=by
 intro a s i H p q Q I r h;obtain⟨v,w,j,h⟩:=h;subst j;cases r with
 | cons r k=>
   rw[g];refine A3F (thn (d a s i H _ _ _ I r h) λ_ l m=>?_);obtain⟨c,n,o,q1⟩:=m;exact f a l c n _ _ Q o k q1
def Y0(K:YZ)(n:Nat)(t:TGs):TG:=λv b H Q=>∃ a xs,v = .ref a/\SqT K H a xs/\xs.length=n/\t xs b H Q
def UQ{d:U A2p}{k:Nat}{t:TGs}{n:Nat}(l:X.calm=aC)(h:PGs X d t)
 (m:(A2Z d X.env).length=n:=by rfl) (f:(A2Z d X.env).findIdx? (·.1)=aB:=by rfl):PG X (.Tuple d k pos) (Y0 X.K n t):=by intro c s i H v u Q I r g;obtain⟨a,p,q,w,x,g⟩:=g;subst q;cases r;obtain⟨y,j,z,D⟩:=I.tuple w;refine assign_Tuple_tuple (I.ok.hd l) z (by simp[m,<-x,j.length]) f λA B=>?_;have C:Inv X c i H {s with heap:=A}:=I.kept (t':=s.toks) λb o e=>B b o (Ys (Yk e)) e;exact h c _ i H p _ Q C (by simpa using j) g
def WJ(b c:TE)(t:NE):TG:=λv a H Q=>b a H λo d=>c a d λi e=>t o i v e λf=>Q a f
def UR{o i:A2p}{f g:TE}{t:NE}(j:PE X o f)(k:PE X i g)(l:UP X t)
 (m:∀ v,assign (.Subscript o i pos) X.env v=(do
   let b <- holding [v] (eval o X.env)
   let c <- holding [v,b] (eval i X.env)
   standAt pos
   holding [v,b,c] (setItem b c v)
   release [v,b,c] []):=by intro _;rfl):PG X (.Subscript o i pos) (WJ f g t):=by intro a s d H v u Q I r h;rw[m];refine Z (A2A (thn (j a s d H _ I h) λb n e=>?_));obtain⟨x,p,q,w,q1⟩:=e;refine Z (A2A (thn (k a n d p _ q q1) λc z e=>?_));obtain⟨y,A,B,C,q2⟩:=e;refine Z (A2L (Z (A2A (thn (l a z d A x y v b c u _ B w C r q2) λ_ G ⟨D,E,q3⟩=>?_))));exact wpAny_release ⟨d,D,E,q3⟩
def IL(b:TE)(g:TG):TS:=λD a H=>b a H λx c=>g x a c D.nx
def NG{b e:A2p}{c:TE}{g:TG}(f:PE X e c)(i:PG X b g)(j:A3n [b] e pos.line X.env=pure aD:=by rfl)(k:A2O [b] e X.env=pure aB:=by rfl)
 (l:(A2Z [b] X.env).map (·.2)=[assign b X.env]:=by rfl):PS X (.Assign [b] e pos) (IL c g):=by intro a s d H D I h;refine wpAny_Assign_stores (thn (f a s d H _ I h) λv m ⟨x,n,o,p,q1⟩=>?_) j k;rw[l];exact thn (i a m d n x v _ o p q1) λ_ r q=>q
def US{i:Nat}{x:Str}{e:A2p}{c:TE}{a:Pos}(d:X.N.Nodup)(f:X.N[i]?=O x)(g:Loc X.env.scope x)(j:PE X e c)(k:A3b e (O (.Name x a)) pos.line X.env=pure aD:=by rfl)(l:X.fn x=aC\/X.env.scope.names.lookup x=O .local:=by first | exact .inl J | exact .inr J | assumption):
 PS X (.Assign [.Name x a] e pos) (IL c (GU i)):=by intro b s m H D I h;refine wpAny_Assign_Name (thn (j b s m H _ I h) λv r ⟨y,n,o,p,q1⟩=>?_) k;exact CT o d f g p (λt q=>⟨_,n,q,q1⟩) l
def WK(i j:Nat)(ta:TA):TS:=λD a H=>ta a H λvs b=>∃ v w,vs=[v,w]/\D.nx ((a.set i (O v)).set j (O w)) b
def UT{i j:Nat}{x y:Str}{a b:A2p}{r:TA}{f g k:Pos}{kt k2 pt2}(G:X.calm=aC)(t:X.N.Nodup)(K:X.N[i]?=O x)(L:X.N[j]?=O y)(l:i≠j)
 (u:X.env.scope.names.lookup x=O .local) (z:X.env.scope.names.lookup y=O .local) (M:PA X [a,b] r)
 (P:A2O [.Tuple [.Name x f,.Name y g] kt k] (.Tuple [a,b] k2 pt2) X.env=pure (O [x,y]))
 (Q:A3n [.Tuple [.Name x f,.Name y g] kt k] (.Tuple [a,b] k2 pt2) pos.line X.env=pure aD:=by rfl):
 PS X (.Assign [.Tuple [.Name x f,.Name y g] kt k] (.Tuple [a,b] k2 pt2) pos) (WK i j r):=by
 intro c s B H D I h;rw[exec_Assign_arm];refine Z (A2L ?_);rw[Q];refine Z (A2l ?_);rw[iG (by decide)];refine Z (Tuple_ (thn (M _ c s B H _ I h) λR d S=>?_));obtain⟨vs,C,T,V,q1⟩:=S;obtain⟨v,w,W,q1⟩:=q1;subst W
 obtain⟨u1,u2,rfl,rv,m⟩:∃ u1 u2,R=[u1,u2]/\RelV v u1/\RelV w u2:=by
  cases V with
  | cons p q=>
    cases q with
    | cons p' q'=>
      cases q';exact⟨_,_,J,p,p'⟩
 refine A2z ?_ (by show 2<=A2s;decide);have I2:Inv X c B C {d with heap:=d.heap.push {cls := .type "tuple",data := .seq [u1,u2].toArray}}:=T.kept (t':=d.toks) λb o e=>Yf _ e;rw[P];refine Z (A2l ?_);show A2o (A2q X.prog X.w) X.A (do rule "assign.swapped-stores";let items <- unpackItems (.ref d.heap.objs.size) 2 aB;A4q [λv=>A50 X.env y v,λv=>A50 X.env x v] items.reverse;pure Flow.next) _ _ _;refine Z (A2K (Z (unpackItems_tuple (items:=#[u1,u2]) (I.ok.hd G) (IsTup.new d.heap _) λh' n=>?_)));have I3:=I2.kept (h':=h') (t':=d.toks) λb o e=>n b o (Ys (Yk e)) e;show A2o _ _ (A4q [λv=>A50 X.env y v,λv=>A50 X.env x v] [u2,u1] >>= λ_=>pure Flow.next) _ _ _;refine Z (A3F (A51 (CT I3 t L (.inl z) m (λs2 I4=>?_) (.inr z))));refine A3F (A51 (CT I4 t K (.inl u) rv (λs3 E=>A4E (A2l ?_)) (.inr u)));rw[List.set_comm _ _ (Ne.symm l)]at E;exact⟨_,C,E,q1⟩
def Td(e f g:TE)(a:V->V->Hp->VK->Prop)(d:TIp)(b:NE):TS:=λD c H=>e c H λo h=>f c h λi j=>a o i j λx k=>g c k λy l=>d x y l λz m=>b o i z m λn=>D.nx c n
noncomputable def WL(X:Cx)(t:V->V->Hp->VK->Prop):Prop:=
 ∀(a:U (Y×Obj)) (s:A2m) (b:St) (H:Hp) (o i:V) (c d:F) (Q:VK),Inv X a b H s->RelV o c->RelV i d->t o i H Q->
  A2o (A2q X.prog X.w) X.A (getItem c d) (EP X a b Q) X.xe s
def Qy{o i e:A2p}{p q r:TE}{c:V->V->Hp->VK->Prop}{l:TIp}{d:NE}{op:A3h}{m:Pos}(y:PE X o p)(z:PE X i q)(A:WL X c)(B:PE X e r)(C:PIp X op l)(E:UP X d)
 (G:∀ f g b,augStore i f g b=(do holding [b,f,g] (setItem f g b);release [b,f,g] [];pure .next):=by intros;rfl):PS X (.AugAssign (.Subscript o i m) op e pos) (Td p q r c l d):=by intro a s j H D I h;refine wpAny_AugAssign_SubscriptAny (thn (y a s j H _ I h) λf K ⟨t,L,M,u,q1⟩=>?_) G;refine thn (z a K j L _ M q1) λg N k=>?_;obtain⟨w,P,Q,x,q2⟩:=k;refine thn (A a N j P t w f g _ Q u x q2) λn R k=>?_;obtain⟨S,T,W,r3,q3⟩:=k;refine thn (B a R j T _ W q3) λv s4 k=>?_;obtain⟨x4,H4,I4,r4,q4⟩:=k;refine thn (C a s4 j H4 S x4 n v _ I4 r3 r4 q4) λb s5 k=>?_;obtain⟨x5,H5,I5,r5,q5⟩:=k;exact thn (E a s5 j H5 t w x5 f g b _ I5 u x r5 q5) (by rintro _ s6 ⟨H6,I6,q6⟩;exact⟨j,H6,I6,q6⟩)
def ipI(f:Int->Int->Int):TIp:=λx y H Q=>∃ i j,x = .int i/\y = .int j/\Q (.int (f i j)) H
def UU:PIp X .Add (ipI λi j=>i+j):=by intro a s f H x y v u Q I b c h;obtain⟨i,j,d,e,q⟩:=h;subst d;subst e;obtain⟨t,rfl⟩:=b;obtain⟨g,rfl⟩:=c;exact iadd_int ⟨.int _,H,I.tok _,⟨_,J⟩,q⟩
noncomputable def NH(c:TT)(h:TS):TS:=λD a H=>∃ W:Nat->St->Hp->Prop,(∃ m,W m a H)/\∀ m a H,W m a H->
 c a H λb e=>if b=aC then ∃ N:St->Hp->Prop,(∀ d f,N d f->∃ g,g<m/\W g d f)/\h {D with nx:=N,ct:=N,bk:=D.nx} a e else D.nx a e
def NI{c:A2p}{g:U A2V}{r:TT}{t:TS}(u:A4L (A2q X.prog X.w) X.A X.env X.xe)(E:PT X c r)(G:PSs X g t):PS X (.While c g [] pos) (NH r t):=by
 intro a s K H D I h;obtain⟨W,⟨L,M⟩,i⟩:=h;refine wpAny_While (codeAny_whileLoop (λn P=>∃ j x,Inv X a j x P/\W n j x) ?_ L ⟨K,H,I,M⟩);rintro n Q ⟨e,y,R,w1⟩;refine A33 u (thn (E a Q e y _ R (i n e y w1)) λb S ⟨z,B,q2⟩=>?_);cases b with
 | true=>
   obtain⟨N,C,q2⟩:=q2;rw[iP J];refine A33 u (thn (G a S e z _ B q2) λf T q3=>?_);cases f with
   | next=>
     obtain⟨d,k,l,m⟩:=q3;obtain⟨o,p,q⟩:=C d k m;exact⟨o,p,d,k,l,q⟩
   | cont=>
     obtain⟨d,k,l,m⟩:=q3;obtain⟨o,p,q⟩:=C d k m;exact⟨o,p,d,k,l,q⟩
   | brk=>exact q3
   | ret v=>exact q3
 | false=>
   rw[iG Yq];exact A43 ⟨e,z,B,q2⟩
end
structure It where
 go:Nat->Hp->Prop
 yld:Nat->Hp->V->Hp->Prop
 stop:Nat->Hp->Prop
def FpOk(X:Cx)(a:U (Y×Obj))(H:Hp)(b:Y):Prop:=
 H b=aB/\b≠X.env.locals/\b∉X.fs/\(b∈X.ex\/X.s₀.heap.objs.size<=b)/\(∀ x c,X.env.cells.lookup x=O c->c≠b)/\∀ p∈X.pn++a,p.1≠b
def Inv.fpOk{X:Cx}{a:U (Y×Obj)}{g:St}{H f:Hp}{s:A2m}{b:Y}(I:Inv X a g H s)(d:s.heap.objs.size<=b)(h:f b=aB):FpOk X a f b:=by
 refine⟨h,A0z (Z8 I.lt d),I.nofs d,.inr (Z6 I.sz d),λx c e z=>?_,λp i z=>?_⟩
 ·obtain⟨v,q⟩:=I.cell x c e;exact absurd (Z8 q.lt (by rw[z];exact d)) (A07 _)
 ·exact absurd (Z8 (Yk (I.pin p i).1) (by rw[z];exact d)) (A07 _)
structure Turn(P:A2r)(w:A2u)(K:YZ)(tg:A2p)(J:It)(fp:List Y)(it:Y)(tn:Nat->A2y->Prop):Prop where
 mem:it∈fp
 obj:∀ i h,tn i h->∀ b∈fp,∃ o,h.get? b=O o/\∀ v,o.data ≠ .cell v
 keep:∀ i h h',tn i h->(∀ b∈fp,∀ o,h.get? b=O o->h'.get? b=O o)->tn i h'
 item:∀(X:Cx),X.prog=P->X.w=w->X.K=K->X.calm=aC->∀(i:Nat) (pins:List (Y×Obj)) (s:A2m) (σ:St) (H:Hp) (E:F->A2m->Prop),Inv X pins σ H s->(∀ b∈fp,FpOk X pins H b)->tn i s.heap->J.go i H->
  A2o (A2q P w) X.A (pyNext (.ref it)) (λr s1=>∃ u,r=O u/\
   A2o (A2q P w) X.A (A3o tg (.ref it) u) (λ_ s2=>∃ x H',Inv X pins σ H' s2/\RelV x u/\J.yld i H x H'/\tn (i+1) s2.heap/\∀ b∈fp,H' b=aB) E s1) E s
 done:∀(X:Cx),X.prog=P->X.w=w->X.K=K->X.calm=aC->∀(i:Nat) (pins:List (Y×Obj)) (s:A2m) (σ:St) (H:Hp) (E:F->A2m->Prop),Inv X pins σ H s->(∀ b∈fp,FpOk X pins H b)->tn i s.heap->J.stop i H->
   A2o (A2q P w) X.A (pyNext (.ref it)) (λr s1=>r=aB/\Inv X pins σ H s1) E s
 self:∀(A:A2w) (i:Nat) (s:A2m) (Q:F->A2m->Prop) (E:F->A2m->Prop),tn i s.heap->Q (.ref it) s->A2o (A2q P w) A (pyIter (.ref it)) Q E s
abbrev TI:=St->Hp->(It->Hp->Prop)->Prop
noncomputable def PIE(X:Cx)(a:U (Y×Obj))(i:St)(j:A2p)(R:It->Hp->Prop)(c:F)(e:A2m):Prop:=
 ∃(f:Y) (g:U Y) (h:Nat->A2y->Prop) (J:It) (d:Hp),c = .ref f/\Inv X a i d e/\Turn X.prog X.w X.K j J g f h/\h 0 e.heap/\(∀ b∈g,FpOk X a d b)/\R J d
noncomputable def PI(X:Cx)(d b:A2p)(e:TI):Prop:=
 ∀(a:U (Y×Obj)) (s:A2m) (c:St) (H:Hp) (R:It->Hp->Prop),Inv X a c H s->e c H R->
  A2o (A2q X.prog X.w) X.A (eval b X.env) (λv f=>A2o (A2q X.prog X.w) X.A (pyIter v) (PIE X a c d R) X.xe f) X.xe s
def Jl{M:Model}{A:A2w}{E:F->A2m->Prop}{s:A2m}{b:A2p}{c:Y}{u:F}{o:Obj}{n:String}{d:Array F}{Q:Unit->A2m->Prop}(e:s.heap.get? c=O o)(f:o.cls = .type n)(g:o.data = .fields d)
 (i:["enumerate","zip","dict_itemiterator","dict_reverseitemiterator","odict_iterator","itertools.zip_longest","itertools.pairwise"].contains n=aD) (a:Q () s):A2o M A (A3o b (.ref c) u) Q E s:=by
 unfold A3o
 cases b<;>first
  | exact A2l a
  | (cases u<;>first
      | exact A2l a
      | (refine Z (wpAny_load e ?_)
         rw[f,g];show A2o M A (if (["enumerate","zip","dict_itemiterator","dict_reverseitemiterator","odict_iterator","itertools.zip_longest","itertools.pairwise"].contains n&&d[0]? == O (rawInt _))=aC then _ else _) Q E s;rw[iG (by intro h;rw[i,Bool.false_and]at h;cases h)];exact A2l a))
def Itl(K:YZ)(a:Y):It:=
 ⟨λi H=>∃ xs x,SqL K H a xs/\xs[i]?=O x,λi H x b=>b=H/\∀ xs,SqL K H a xs->xs[i]?=O x,λi H=>∃ xs,SqL K H a xs/\xs.length<=i⟩
def Itt(K:YZ)(a:Y):It:=
 ⟨λi H=>∃ xs x,SqT K H a xs/\xs[i]?=O x,λi H x b=>b=H/\∀ xs,SqT K H a xs->xs[i]?=O x,λi H=>∃ xs,SqT K H a xs/\xs.length<=i⟩
def Itr(a:Int)(n:Nat):It:=⟨λi _=>i<n,λi H x b=>b=H/\x = .int (a+i),λi _=>n<=i⟩
def LM{P:A2r}{w:A2u}{K:YZ}{V:A2p}(a j:Y):Turn P w K V (Itl K a) [j] j (λi h=>h.IsListIter j a i) where
 mem:=by simp
 obj:=λi h f b l=>by
  have e:b=j:=by simpa using l
  subst e;obtain⟨o,e,c,d⟩:=f;exact⟨o,e,λv z=>by rw[d]at z;cases z⟩
 keep:=λi h n f k=>f.at λo e=>k j (by simp) o e
 item:=by
  intro X t y A S i g s T H E I q f B;subst t y A;obtain⟨W,x,r,C⟩:=B;obtain⟨D,G,p,hz⟩:=I.list r;obtain⟨u,hu,ru⟩:=G.get C;obtain⟨L,M,f2,N,Q,R⟩:=q j (by simp);refine wpAny_pyNext_list_item f p.isList (x:=u) (by simpa using hu) λn m sb=>?_;have I1:Inv X g T H {s with heap:=n}:=I.turned (t':=s.toks) (λb o l e=>(sb.2 b l).trans e) L M N Q R;obtain⟨o,e,c,d⟩:=id m;exact⟨u,J,Jl (s:={s with heap:=n}) e c d (by decide) ⟨x,H,I1,ru,⟨J,λys hy=>by rw[I.list_inj hy r];exact C⟩,m,λb l=>(q b l).1⟩⟩
 done:=by
   intro X t y A S i g s T H E I q f B;subst t y A;obtain⟨W,r,C⟩:=B;obtain⟨D,G,p,hz⟩:=I.list r;obtain⟨L,M,f2,N,Q,R⟩:=q j (by simp);have hl:=G.length;exact wpAny_pyNext_list_end (I.ok.hd S) f p.isList (by simp;lia) λn eb=>⟨J,I.turned (t':=s.toks) (λb o l e=>eb b o l e) L M N Q R⟩
 self:=λ_ _ _ _ _ f h=>wpAny_pyIter_listiter f h
def IM{P:A2r}{w:A2u}{K:YZ}{V:A2p}(a j:Y):Turn P w K V (Itt K a) [j] j (λi h=>h.IsTupleIter j a i) where
 mem:=by simp
 obj:=λi h f b l=>by
  have e:b=j:=by simpa using l
  subst e;obtain⟨o,e,c,d⟩:=f;exact⟨o,e,λv z=>by rw[d]at z;cases z⟩
 keep:=λi h q f k=>f.at λo e=>k j (by simp) o e
 item:=by
  intro X y A B S i g s T H E I r f C;subst y A B;obtain⟨W,x,t,D⟩:=C;obtain⟨m,G,p,hz⟩:=I.tuple t;obtain⟨u,hu,ru⟩:=G.get D;obtain⟨L,M,f2,N,Q,R⟩:=r j (by simp);refine wpAny_pyNext_tuple_item f (show s.heap.IsTuple a m.toArray from p) (x:=u) (by simpa using hu) λq n sb=>?_;have I1:Inv X g T H {s with heap:=q}:=I.turned (t':=s.toks) (λb o l e=>(sb.2 b l).trans e) L M N Q R;obtain⟨o,e,c,d⟩:=id n;exact⟨u,J,Jl (s:={s with heap:=q}) e c d (by decide) ⟨x,H,I1,ru,⟨J,λys hy=>by rw[I.tuple_inj hy t];exact D⟩,n,λb l=>(r b l).1⟩⟩
 done:=by
   intro X y A B S i g s T H E I r f C;subst y A B;obtain⟨W,t,D⟩:=C;obtain⟨m,G,p,hz⟩:=I.tuple t;obtain⟨L,M,f2,N,Q,R⟩:=r j (by simp);have hl:=G.length;exact wpAny_pyNext_tuple_end (I.ok.hd S) f (show s.heap.IsTuple a m.toArray from p) (by simp;lia) λq eb=>⟨J,I.turned (t':=s.toks) (λb o l e=>eb b o l e) L M N Q R⟩
 self:=λ_ _ _ _ _ f h=>wpAny_pyIter_tupleiter f h
def IN{P:A2r}{w:A2u}{K:YZ}{M:A2p}(c:Y)(j:Int)(n:Nat):Turn P w K M (Itr j n) [c] c (λi h=>IsRangeIter h c (j+(i:Nat) * 1) ((n:Int) - (i:Nat)) 1) where
 mem:=by simp
 obj:=λi h a b f=>by
  have e:b=c:=by simpa using f
  subst e
  exact⟨_,a,λv z=>by
   have N:Data.fields _=Data.cell v:=z;cases N⟩
 keep:=λi h l a k=>k c (by simp) _ a
 item:=by
  intro X p q r u i d s G H E I m a x;subst p q r;obtain⟨y,A,Q,B,C,D⟩:=m c (by simp);have W:=Walks.range (prog:=X.prog) (w:=X.w) (I.ok.hd u) c j 1 n;refine W.item i s _ _ x a λv l L R g S=>?_;obtain⟨t,rfl⟩:=R;have T:Inv X d G H {s with heap:=l,toks:=L}:=I.turned (λb o f e=>S b o (by simpa using f) e) y A B C D;refine⟨_,J,Jl (s:={s with heap:=l,toks:=L}) (n:="range_iterator") g J J (by decide) ⟨.int (j+i),H,T,⟨t,?_⟩,⟨J,J⟩,g,λb f=>(m b f).1⟩⟩;rw[Int.mul_one]
 done:=by
   intro X p q r u i d s G H E I m a x;subst p q r;obtain⟨y,A,Q,B,C,D⟩:=m c (by simp);exact wpAny_pyNext_range_end (I.ok.hd u) a (by have:n<=i:=x;lia) λl V=>⟨J,I.turned (t':=s.toks) (λb o f e=>V b o f e) y A B C D⟩
 self:=λ_ _ _ _ _ a h=>wpAny_pyIter_rangeiter a h
section
variable{X:Cx}{tg:A2p}
def GV{d:U (Y×Obj)}{f:St}{H:Hp}{s:A2m}{R:It->Hp->Prop}{E:F->A2m->Prop}{a c:Int}{t u v:Tok}{g:Nat}(I:Inv X d f H s)(i:-(2 ^ 62)<=a)(j:a<2 ^ 62)(k:-(2 ^ 62)<=c)(l:c<2 ^ 62)
 (q:R (Itr a (c - a).toNat) H):A2o (A2q X.prog X.w) X.A (pyIter (.ref s.heap.objs.size)) (PIE X d f tg R) E {s with heap:=s.heap.push {cls := .type "range",data := .fields #[.int a t,.int c u,.int 1 v]},toks:=g}:=by
 refine wpAny_pyIter_range (IsRange.new ..) (small_one i j k l) ?_;have h:Inv X d f H {s with heap:=s.heap.push {cls := .type "range",data := .fields #[.int a t,.int c u,.int 1 v]},toks:=g}:=I.kept λb o e=>Yf _ e
 refine⟨(s.heap.push {cls := .type "range",data := .fields #[.int a t,.int c u,.int 1 v]}).objs.size,[(s.heap.push {cls := .type "range",data := .fields #[.int a t,.int c u,.int 1 v]}).objs.size],_,_,H,J,
  h.kept (t':=g) λb o e=>Yf _ e,IN _ a (c - a).toNat,?_,λb m=>?_,q⟩
 ·have n:a+((0:Nat):Int) * 1=a:=by simp
  have p:(((c - a).toNat:Nat):Int) - ((0:Nat):Int)=Builtin.Range.rangeSize a c 1:=by rw[rangeSize_one];split<;>lia
  show IsRangeIter _ _ (a+((0:Nat):Int) * 1) ((((c - a).toNat:Nat):Int) - ((0:Nat):Int)) 1;rw[n,p];exact Yn _ J
 ·have e:b=(s.heap.push {cls := .type "range",data := .fields #[.int a t,.int c u,.int 1 v]}).objs.size:=by simpa using m
  subst e;exact h.fpOk (Ym _) (h.hok.fresh (Ym _))
def WN(ta:TA):TI:=λa H R=>ta a H λvs b=>∃ j:Int,vs=[.int j] /\ -(2 ^ 62)<=j/\j<2 ^ 62/\R (Itr 0 j.toNat) b
def WP(ta:TA):TI:=λa H R=>ta a H λvs b=>∃ i j:Int,vs=[.int i,.int j]/\(-(2 ^ 62)<=i/\i<2 ^ 62 /\ -(2 ^ 62)<=j/\j<2 ^ 62)/\R (Itr i (j - i).toNat) b
def LN{a:A2p}{d:TA}{p b:Pos}(f:Gl X "range")(g:X.mg "range"=aB)(i:PA X [a] d)(k:A2x [a] X.env=[(aD,eval a X.env)]:=by rfl):PI X tg (.Call (.Name "range" p) [a] [] b) (WN d):=by
 intro c s l H R I h;refine Call_ (AW I f g boot_range (PyProof.Rows.callWith_type1 (thn (i b c s l H _ I h) λu v ⟨w,x,m,n,q1⟩=>?_) k J));obtain⟨j,e,q1,q2,q⟩:=q1;subst e;cases n with
 | cons r o=>
   cases o;obtain⟨t,rfl⟩:=r;exact call_range_1 (GV m (by lia) (by lia) q1 q2 (by simpa using q))
def LO{a b:A2p}{k:TA}{p c:Pos}(l:Gl X "range")(m:X.mg "range"=aB)(n:PA X [a,b] k)(o:A2x [a,b] X.env=[(aD,eval a X.env),(aD,eval b X.env)]:=by rfl)(d:A2x [b] X.env=[(aD,eval b X.env)]:=by rfl):
 PI X tg (.Call (.Name "range" p) [a,b] [] c) (WP k):=by
 intro f s u H R I h;refine Call_ (AW I l m boot_range (PyProof.Rows.callWith_type1 (thn (n c f s u H _ I h) λx y ⟨z,A,v,w,q1⟩=>?_) (by rw[o,d]) (by rw[d];rfl)));obtain⟨i,j,e,⟨q1,q2,q3,q4⟩,q⟩:=q1;subst e;cases w with
 | cons r g=>
   cases g with
   | cons r' g=>
     cases g;obtain⟨t,rfl⟩:=r;obtain⟨B,rfl⟩:=r';exact call_range_2 (GV v q1 q2 q3 q4 q)
noncomputable def WQ(f:TI)(g:TG)(h:TS):TS:=λD a H=>f a H λJ j=>∃ W:Nat->Nat->St->Hp->Prop,(∃ m,W 0 m a j)/\∀ i m a H,W i m a H->
 (J.stop i H/\D.nx a H)\/(J.go i H/\∃ N:St->Hp->Prop,(∀ b c,N b c->∃ e,e<m/\W (i+1) e b c)/\∀ x c,J.yld i H x c->g x a c λd k=>h {D with nx:=N,ct:=N,bk:=D.nx} d k)
def Bc(a:U Y)(h:A2y):U (Y×Obj):=a.filterMap λb=>(h.get? b).map λo=>(b,o)
def AL{a:U Y}{h:A2y}{b:Y}{o:Obj}(c:b∈a)(e:h.get? b=O o):(b,o)∈Bc a h:=A1z.mpr ⟨b,c,by rw[e];rfl⟩
def LP{a:U Y}{h:A2y}{p:Y×Obj}(c:p∈Bc a h):p.1∈a/\h.get? p.1=O p.2:=by
 obtain⟨b,d,e⟩:=A1z.mp c;cases q:h.get? b with
 | none=>rw[q]at e;cases e
 | some o=>
   rw[q]at e;have f:(b,o)=p:=oj e;subst f;exact⟨d,q⟩
def Inv.pinned{a:U (Y×Obj)}{f:St}{H:Hp}{s:A2m}{c:U Y}(I:Inv X a f H s)(i:∀ b∈c,FpOk X a H b)(j:∀ b∈c,∃ o,s.heap.get? b=aA o/\∀ v,o.data ≠ .cell v):Inv X (a++Bc c s.heap) f H s:=
 I.pins_of λp k=>(Yz.mp k).elim (λz=>I.pin p (ZF _ z)) λz=>by
  obtain⟨g,e⟩:=LP z;obtain⟨l,m,n,_⟩:=i p.1 g;obtain⟨o,h,d⟩:=j p.1 g;rw[e]at h;cases h;exact⟨e,l,m,n,d⟩
def Inv.unpinned{a c:U (Y×Obj)}{b:St}{H:Hp}{s:A2m}(I:Inv X (a++c) b H s):Inv X a b H s:=I.pins_of λp d=>I.pin p (ZF _ (Zp _ d))
def UV{j:A2p}{C:U A2V}{wi:TI}{g:TG}{tb:TS}{a0:Pos}(G:A4L (A2q X.prog X.w) X.A X.env X.xe)(hc:X.calm=aC)(hi:PI X tg j wi)(hg:PG X tg g)(k:PSs X C tb)
 (hs:∀ x,A34 j X.env x=pure x:=by intro _;rfl):PS X (.For tg j C [] a0) (WQ wi g tb):=by
 intro a s σ H D I h;refine wpAny_For (thn (hi a s σ H _ I h) λv s1 h1=>thn h1 λa5 s2 h2=>?_) hs;obtain⟨it,K,tn,J,H2,e,I2,T,a1,f2,W,⟨m0,w0⟩,L⟩:=h2;subst e;have l:∀{B:Hp},(∀ b∈K,B b=aB)->∀ b∈K,FpOk X a B b:=λhn b k=>⟨hn b k,(f2 b k).2⟩
 refine codeAny_forLoop_any (λn s'=>∃ i p B,Inv X a p B s'/\tn i s'.heap/\(∀ b∈K,B b=aB)/\W i n p B) ?_ m0 ⟨0,σ,H2,I2,a1,λb k=>(f2 b k).1,w0⟩;rintro n s3 ⟨i,q,V,I3,M,P,w3⟩;rcases L i n q V w3 with⟨Q,qn⟩ | ⟨go,N,hN,R⟩
 ·refine A33 G (thn (T.done X rfl rfl rfl hc i a s3 q V X.xe I3 (l P) M Q) λr s4 ⟨hr,I4⟩=>?_);subst hr;exact A43 ⟨q,V,I4,qn⟩
 ·refine A33 G (thn (T.item X rfl rfl rfl hc i a s3 q V X.xe I3 (l P) M go) λr s4 ⟨u,hr,h4⟩=>?_);subst hr;refine A33 G (thn h4 λ_ s5 hz=>?_);obtain⟨x,H5,I5,r5,y5,E,a2⟩:=hz;have a3:=I5.pinned (l a2) (T.obj _ _ E);refine A33 G (thn (hg _ s5 q H5 x u _ a3 r5 (R x H5 y5)) λ_ s6 hz=>?_);obtain⟨a4,H6,I6,q6⟩:=hz;refine A33 G (thn (k _ s6 a4 H6 _ I6 q6) λf s7 q7=>?_)
  have t:∀{c:St} {y:Hp},Inv X (a++Bc K s5.heap) c y s7->N c y->∃ m,m<n/\∃ i p B,Inv X a p B s7/\tn i s7.heap/\(∀ b∈K,B b=aB)/\W i m p B:=λ{c y} z S=>by
   obtain⟨m',hm,w7⟩:=hN c y S;refine⟨m',hm,i+1,c,y,z.unpinned,T.keep _ _ _ E λb k o e=>(z.pin (b,o) (ZF _ (ZF _ (AL k e)))).1,λb k=>?_,w7⟩;obtain⟨o,e,d⟩:=T.obj _ _ E b k;exact(z.pin (b,o) (ZF _ (ZF _ (AL k e)))).2.1
  cases f with
  | next=>obtain⟨c,y,z,S⟩:=q7;exact t z S
  | cont=>obtain⟨c,y,z,S⟩:=q7;exact t z S
  | brk=>obtain⟨c,y,z,q7⟩:=q7;exact⟨c,y,z.unpinned,q7⟩
  | ret v=>obtain⟨x7,c,y,z,r7,q7⟩:=q7;exact⟨x7,c,y,z.unpinned,r7,q7⟩
end
abbrev R2:=V->V->Hp->VK->Prop
noncomputable def OpR(X:Cx)(f:F->F->Sem F)(r:R2):Prop:=
 ∀(a:U (Y×Obj)) (s:A2m) (b:St) (H:Hp) (x y:V) (v u:F) (Q:VK),Inv X a b H s->RelV x v->RelV y u->r x y H Q->
  A2o (A2q X.prog X.w) X.A (f v u) (EP X a b Q) X.xe s
noncomputable def CallR(X:Cx)(f:F)(r:U V->Hp->VK->Prop):Prop:=
 ∀(a:U (Y×Obj)) (s:A2m) (b:St) (H:Hp) (xs:U V) (c:U F) (Q:VK),Inv X a b H s->Vals xs c->r xs H Q->
  A2o (A2q X.prog X.w) X.A (call f c) (EP X a b Q) X.xe s
noncomputable def Y1(X:Cx)(r:V->Hp->(Bool->Hp->Prop)->Prop):Prop:=
 ∀(a:U (Y×Obj)) (s:A2m) (b:St) (H:Hp) (x:V) (v:F) (Q:Bool->Hp->Prop),Inv X a b H s->RelV x v->r x H Q->
  A2o (A2q X.prog X.w) X.A (truthy v) (TP X a b Q) X.xe s
def tOp(r:R2)(ta b:TE):TE:=λa H Q=>ta a H λx c=>b a c λy d=>r x y d Q
def rI(C:Int->Int->Prop)(g:Int->Int->V):R2:=λx y H Q=>∃ i j,x = .int i/\y = .int j/\C i j/\Q (g i j) H
def rI0(g:Int->Int->V):R2:=λx y H Q=>∃ i j,x = .int i/\y = .int j/\Q (g i j) H
section
variable{X:Cx}{a b c:A2p}{ta tb tc:TE}{pos:Pos}
def UW(n:PE X a ta)(o:PE X b tb){d:U (Y×Obj)}{s:A2m}{e:St}{H:Hp}{R:V->V->Hp->Prop}(I:Inv X d e H s)
 (h:ta e H λx l=>tb e l λy g=>R x y g) {Q:F->A2m->Prop} {f:F->F->Sem F}
 (p:∀ v u k x y g,Inv X d e g k->RelV x v->RelV y u->R x y g->A2o (A2q X.prog X.w) X.A (f v u) Q X.xe k):
 A2o (A2q X.prog X.w) X.A (eval a X.env) (λv i=>A2o (A2q X.prog X.w) X.A (eval b X.env) (λu j=>A2o (A2q X.prog X.w) X.A (f v u) Q X.xe j) X.xe i) X.xe s:=by refine thn (n d s e H _ I h) λv q m=>?_;obtain⟨x,l,r,t,q1⟩:=m;refine thn (o d q e l _ r q1) λu k m=>?_;obtain⟨y,g,z,B,q2⟩:=m;exact p v u k x y g z t B q2
def WR{op:A3h}{r:R2}(e:OpR X (A30 op) r)(f:PE X a ta)(g:PE X b tb):PE X (.BinOp a op b pos) (tOp r ta tb):=by intro d s i H Q I h;exact wpAny_BinOp (UW f g I h λv u j x y k l m n q=>e d j i k x y v u Q l m n q)
def opI{f:F->F->Sem F}{C:Int->Int->Prop}{g:Int->Int->Int}
 (d:∀(i j:Int) (t u:Tok) (s:A2m) (Q:F->A2m->Prop) (E:F->A2m->Prop),C i j->Q (.int (g i j) s.toks) {s with toks:=s.toks+1}->A2o (A2q X.prog X.w) X.A (f (.int i t) (.int j u)) Q E s):
 OpR X f (rI C λi j => .int (g i j)):=by intro e s o H x y v u Q I k l h;obtain⟨i,j,rfl,rfl,m,q⟩:=h;obtain⟨t,rfl⟩:=k;obtain⟨n,rfl⟩:=l;exact d i j t n s _ _ m ⟨.int (g i j),H,I.tok _,⟨_,J⟩,q⟩
def WU{f:F->F->Sem F}{g:Int->Int->Int}
 (d:∀(i j:Int) (t u:Tok) (s:A2m) (Q:F->A2m->Prop) (E:F->A2m->Prop),Q (.int (g i j) s.toks) {s with toks:=s.toks+1}->A2o (A2q X.prog X.w) X.A (f (.int i t) (.int j u)) Q E s):
 OpR X f (rI0 λi j => .int (g i j)):=by intro e s n H x y v u Q I k l h;obtain⟨i,j,rfl,rfl,q⟩:=h;obtain⟨t,rfl⟩:=k;obtain⟨m,rfl⟩:=l;exact d i j t m s _ _ ⟨.int (g i j),H,I.tok _,⟨_,J⟩,q⟩
def Qz{f:F->F->Sem F}{g:Int->Int->Bool}
 (d:∀(i j:Int) (t u:Tok) (s:A2m) (Q:F->A2m->Prop) (E:F->A2m->Prop),Q (.bool (g i j)) s->A2o (A2q X.prog X.w) X.A (f (.int i t) (.int j u)) Q E s):
 OpR X f (rI0 λi j => .bl (g i j)):=by intro e s n H x y v u Q I k l h;obtain⟨i,j,rfl,rfl,q⟩:=h;obtain⟨t,rfl⟩:=k;obtain⟨m,rfl⟩:=l;exact d i j t m s _ _ ⟨.bl (g i j),H,I,J,q⟩
def WV(i j:Int):Prop:=0<j/\j<1073741824
def WW(i j:Int):Prop:=0<=j/\j<=1000000/\i.natAbs<2 ^ 64
def CMul(i j:Int):Prop:=(-(2 ^ 64)<i/\i<2 ^ 64)\/(-(2 ^ 64)<j/\j<2 ^ 64)
def CMul.ok{i j:Int}(h:CMul i j):IntMulOk i j:=by
 rcases h with⟨d,e⟩ | ⟨d,e⟩
 ·exact .of_left (intBits_le_64 d e)
 ·exact .of_right (intBits_le_64 d e)
def op_add:OpR X (A30 .Add) (rI0 λi j => .int (i+j)):=WU λ_ _ _ _ _ _ _ q=>add_int q
def UX:OpR X (A30 .Sub) (rI0 λi j => .int (i - j)):=WU λ_ _ _ _ _ _ _ q=>sub_int q
def op_mul:OpR X (A30 .Mult) (rI CMul λi j => .int (i * j)):=opI λ_ _ _ _ _ _ _ d q=>mul_int q d.ok
def R0:OpR X (A30 .FloorDiv) (rI WV λi j => .int (i / j)):=opI λi j _ _ _ _ _ d q=>by
 have e:(0:Int)<j:=d.1;have f:j<1073741824:=d.2;exact floordiv_int (by lia) (by rw[Int.fdiv_eq_ediv_of_nonneg i (by lia)];exact q) (.inl (PyProof.noPylong_small (by lia)))
def UY:OpR X (A30 .Mod) (rI (λ_ j=>0<j) λi j => .int (i % j)):=opI λi j _ _ _ _ _ d q=>by
 have e:(0:Int)<j:=d;exact mod_int' (by lia) (by rw[Int.fmod_eq_emod_of_nonneg i (by lia)];exact q)
def UZ:OpR X (A30 .Pow) (rI WW λi j => .int (i ^ j.toNat)):=opI λ_ _ _ _ _ _ _ d q=>pow_int_small d.1 d.2.1 d.2.2 q
end
def Ua:V->V->Bool
 | .non,.non=>aC | .non,.int _=>aC | .int _,.non=>aC | .non,.bl _=>aC | .bl _,.non=>aC | .non,.str _=>aC | .str _,.non=>aC
 | .int _,.int _=>aC | .bl _,.bl _=>aC | .str _,.str _=>aC | .byt _,.byt _=>aC
 | .int _,.str _=>aC | .str _,.int _=>aC | .bl _,.str _=>aC | .str _,.bl _=>aC
 | _,_=>aD
def rEq:R2:=λx y H Q=>Ua x y=aC/\Q (.bl (decide (x=y))) H
def rNe:R2:=λx y H Q=>Ua x y=aC/\Q (.bl (!decide (x=y))) H
def Jm{i j:Int}:decide (V.int i=V.int j)=(i == j):=by rw[Za];simp
def NJ{i j:Bool}:decide (V.bl i=V.bl j)=(i == j):=by rw[Za];simp
def Jn{i j:Str}:decide (V.str i=V.str j)=(i == j):=by rw[Za];simp
def Jo{i j:Array UInt8}:decide (V.byt i=V.byt j)=(i.toList == j.toList):=by rw[Za];cases i;cases j;simp
section
variable{X:Cx}{a b c:A2p}{ta tb tc:TE}{pos:Pos}
def l9{d:U (Y×Obj)}{f:St}{H:Hp}{s:A2m}{Q:VK}{k g:Bool}(I:Inv X d f H s)(q:Q (.bl k) H)(e:k=g):EP X d f Q (.bool g) s:=by subst e;exact⟨.bl k,H,I,J,q⟩
def op_eq:OpR X (A2H .Eq) rEq:=by
 intro k s l H x y v u Q I g d h;obtain⟨f,q⟩:=h;cases x with
 | non=>
   cases g;cases y with
   | non=>cases d;exact PySem.EqNone.eq_none_none (l9 I q (by simp))
   | bl j=>cases d;exact PySem.EqNone.eq_none_bool (l9 I q (by simp))
   | int j=>obtain⟨e,rfl⟩:=d;exact PySem.EqNone.eq_none_int (l9 I q (by simp))
   | str j=>obtain⟨e,rfl⟩:=d;exact PySem.EqNone.eq_none_str (l9 I q (by simp))
   | _=>exact absurd (show aD=aC from f) Yq
 | bl i=>
   cases g;cases y with
   | non=>cases d;exact PySem.EqNone.eq_bool_none (l9 I q (by simp))
   | bl j=>cases d;exact eq_bool (l9 I q NJ)
   | str j=>obtain⟨e,rfl⟩:=d;exact PySem.EqMixed.eq_bool_str (l9 I q (by simp))
   | _=>exact absurd (show aD=aC from f) Yq
 | int i=>
   obtain⟨t,rfl⟩:=g;cases y with
   | non=>cases d;exact PySem.EqNone.eq_int_none (l9 I q (by simp))
   | int j=>obtain⟨e,rfl⟩:=d;exact eq_int (l9 I q Jm)
   | str j=>obtain⟨e,rfl⟩:=d;exact PySem.EqMixed.eq_int_str (l9 I q (by simp))
   | _=>exact absurd (show aD=aC from f) Yq
 | str i=>
   obtain⟨t,rfl⟩:=g;cases y with
   | non=>cases d;exact PySem.EqNone.eq_str_none (l9 I q (by simp))
   | bl j=>cases d;exact PySem.EqMixed.eq_str_bool (l9 I q (by simp))
   | int j=>obtain⟨e,rfl⟩:=d;exact PySem.EqMixed.eq_str_int (l9 I q (by simp))
   | str j=>obtain⟨e,rfl⟩:=d;exact eq_str (l9 I q Jn)
   | _=>exact absurd (show aD=aC from f) Yq
 | byt i=>
   obtain⟨t,rfl⟩:=g;cases y with
   | byt j=>obtain⟨e,rfl⟩:=d;exact PySem.W.eq_bytes (l9 I q Jo)
   | _=>exact absurd (show aD=aC from f) Yq
 | _=>cases y<;>exact absurd (show aD=aC from f) Yq
def op_ne:OpR X (A2H .NotEq) rNe:=by
 intro k s l H x y v u Q I g d h;obtain⟨f,q⟩:=h;cases x with
 | non=>
   cases g;cases y with
   | non=>cases d;exact PySem.EqNone.ne_none_none (l9 I q (by simp))
   | bl j=>cases d;exact PySem.EqNone.ne_none_bool (l9 I q (by simp))
   | int j=>obtain⟨e,rfl⟩:=d;exact PySem.EqNone.ne_none_int (l9 I q (by simp))
   | str j=>obtain⟨e,rfl⟩:=d;exact PySem.EqNone.ne_none_str (l9 I q (by simp))
   | _=>exact absurd (show aD=aC from f) Yq
 | bl i=>
   cases g;cases y with
   | non=>cases d;exact PySem.EqNone.ne_bool_none (l9 I q (by simp))
   | bl j=>cases d;exact ne_bool (l9 I q (congrArg not NJ))
   | str j=>obtain⟨e,rfl⟩:=d;exact PySem.EqMixed.ne_bool_str (l9 I q (by simp))
   | _=>exact absurd (show aD=aC from f) Yq
 | int i=>
   obtain⟨t,rfl⟩:=g;cases y with
   | non=>cases d;exact PySem.EqNone.ne_int_none (l9 I q (by simp))
   | int j=>obtain⟨e,rfl⟩:=d;exact ne_int (l9 I q (congrArg not Jm))
   | str j=>obtain⟨e,rfl⟩:=d;exact PySem.EqMixed.ne_int_str (l9 I q (by simp))
   | _=>exact absurd (show aD=aC from f) Yq
 | str i=>
   obtain⟨t,rfl⟩:=g;cases y with
   | non=>cases d;exact PySem.EqNone.ne_str_none (l9 I q (by simp))
   | bl j=>cases d;exact PySem.EqMixed.ne_str_bool (l9 I q (by simp))
   | int j=>obtain⟨e,rfl⟩:=d;exact PySem.EqMixed.ne_str_int (l9 I q (by simp))
   | str j=>obtain⟨e,rfl⟩:=d;exact ne_str (l9 I q (congrArg not Jn))
   | _=>exact absurd (show aD=aC from f) Yq
 | byt i=>
   obtain⟨t,rfl⟩:=g;cases y with
   | byt j=>obtain⟨e,rfl⟩:=d;exact PySem.W.ne_bytes (l9 I q (congrArg not Jo))
   | _=>exact absurd (show aD=aC from f) Yq
 | _=>cases y<;>exact absurd (show aD=aC from f) Yq
def WX:OpR X (A2H .Lt) (rI0 λi j => .bl (decide (i<j))):=Qz λ_ _ _ _ _ _ _ q=>lt_int q
def WY:OpR X (A2H .LtE) (rI0 λi j => .bl (decide (i<=j))):=Qz λ_ _ _ _ _ _ _ q=>le_int q
def WZ:OpR X (A2H .Gt) (rI0 λi j => .bl (decide (j<i))):=Qz λ_ _ _ _ _ _ _ q=>gt_int q
def Wa:OpR X (A2H .GtE) (rI0 λi j => .bl (decide (j<=i))):=Qz λ_ _ _ _ _ _ _ q=>ge_int q
def Ub:OpR X (A2H .Is) (λx y H Q=>y = .non/\Q (.bl (decide (x = .non))) H):=by
 intro d s g H x y v u Q I e f h;obtain⟨rfl,q⟩:=h;cases f;refine is_none_gen (l9 I q ?_)
 cases x<;>first
  | (cases e;rfl)
  | (obtain⟨t,rfl⟩:=e;rfl)
def op_notN:OpR X (A2H .IsNot) (λx y H Q=>y = .non/\Q (.bl (!decide (x = .non))) H):=by
 intro d s g H x y v u Q I e f h;obtain⟨rfl,q⟩:=h;cases f;refine isnot_none_gen (l9 I q ?_)
 cases x<;>first
  | (cases e;rfl)
  | (obtain⟨t,rfl⟩:=e;rfl)
def OpR.or{f:A2k->A2k->Sem A2k}{r e:R2}(h:OpR X f r)(k:OpR X f e):OpR X f (λx y H Q=>r x y H Q\/e x y H Q):=by
 intro d s g H x y v u Q I i j q;rcases q with q | q
 ·exact h d s g H x y v u Q I i j q
 ·exact k d s g H x y v u Q I i j q
def R1{op:CmpOp}{r:R2}(e:OpR X (A2H op) r)(f:PE X a ta)(g:PE X b tb)(i:A4r op b=aD):PE X (.Compare a [op] [b] pos) (tOp r ta tb):=by intro d s j H Q I h;exact wpAny_Compare1 (UW f g I h λv u k x y l m n o q=>e d k j l x y v u Q m n o q) i
def Te(t:TE):TT:=λd H Q=>t d H λx e=>∃ k,x = .bl k/\Q k e
def R3{op:CmpOp}{r:R2}(g:OpR X (A2H op) r)(i:PE X a ta)(j:PE X b tb)(l:A4r op b=aD):PT X (.Compare a [op] [b] pos) (Te (tOp r ta tb)):=by
 intro d s f H Q I h
 refine wpAny_isTrue_Compare1 (thn (i d s f H _ I h) λv m ⟨x,n,o,p,q1⟩=>thn (j d m f n _ o q1) λu q ⟨y,t,w,A,q2⟩=>
  thn (g d q f t x y v u _ w p A q2) λc E ⟨z,B,C,D,k,e,q3⟩=>?_) l
 subst e;cases D;exact A2I ⟨B,C,q3⟩
def IO(r f:R2)(ta g h:TE):TE:=λd H Q=>ta d H λx i=>g d i λy j=>r x y j λz e=>∃ k,z = .bl k/\
 (if k=aC then h d e λl m=>f y l m Q else Q (.bl aD) e)
def NK{op g:CmpOp}{r l:R2}(p:OpR X (A2H op) r)(j:OpR X (A2H g) l)(q:PE X a ta)(t:PE X b tb)(w:PE X c tc)
 (A:A5d [op,g] [b,c]=aD:=by with_unfolding_all rfl):PE X (.Compare a [op,g] [b,c] pos) (IO r l ta tb tc):=by
 intro f s i H Q I h
 refine Compare_chain (thn (q f s i H _ I h) λv B ⟨x,C,D,E,q1⟩=>chain_link (thn (t f B i C _ D q1) λu G ⟨y,K,L,m,q2⟩=>
  thn (p f G i K x y v u _ L E m q2) λd M ⟨z,n,o,N,k,e,q3⟩=>?_)) A
 subst e;cases N;refine A2I ?_;cases k with
 | false=>exact ite_ff ⟨.bl aD,n,o,J,q3⟩
 | true=>exact ite_tt (chain_last (thn (w f M i n _ o q3) (by rintro P R ⟨S,T,V,W,q4⟩;exact j f R i T y S u P Q V m W q4)))
def NL{op g:CmpOp}{r l:R2}(p:OpR X (A2H op) r)(j:OpR X (A2H g) l)(q:PE X a ta)(t:PE X b tb)(w:PE X c tc)
 (A:A5d [op,g] [b,c]=aD:=by with_unfolding_all rfl):PT X (.Compare a [op,g] [b,c] pos) (Te (IO r l ta tb tc)):=by
 intro f s i H Q I h
 refine isTrue_chain (thn (q f s i H _ I h) λv B ⟨x,C,D,E,q1⟩=>test_link (thn (t f B i C _ D q1) λu G ⟨y,K,L,m,q2⟩=>
  thn (p f G i K x y v u _ L E m q2) λd M ⟨z,n,o,N,k,e,q3⟩=>?_)) A
 subst e;cases N;refine A2I ?_;cases k with
 | false=>
   obtain⟨k',P,R⟩:=q3;cases P;exact ite_ff ⟨n,o,R⟩
 | true=>
   refine ite_tt (test_last (thn (w f M i n _ o q3) λS T ⟨V,W,I4,r4,q4⟩=>thn (j f T i W y V u S _ I4 m r4 q4) λd' s5 hz=>?_));obtain⟨z2,H5,I5,r5,k2,e2,q5⟩:=hz;subst e2;cases r5;exact A2I ⟨H5,I5,q5⟩
def R4(K:YZ)(x:V)(H:Hp)(k:Bool):Prop:=
 match x with
 | .non=>k=aD
 | .bl b=>k=b
 | .int i=>k=(i != 0)
 | .str y=>y.length<=A2s/\k=((y.length:Int) != 0)
 | .byt y=>y.size<=A2s/\k=((y.size:Int) != 0)
 | .ref p=>(∃ xs,SqL K H p xs/\k=!xs.isEmpty)\/(∃ xs,SqT K H p xs/\k=!xs.isEmpty)\/∃ kvs,H p=O (.dK kvs)/\k=!kvs.isEmpty
 | _=>False
def IP{e:Type}{d:U (e×V)}{f:U (e×F)}(r:KV d f):(!f.isEmpty)=!d.isEmpty:=by cases r<;>rfl
def DX{e:U V}{d:U F}(r:Vals e d):(!d.toArray.isEmpty)=!e.isEmpty:=by cases r<;>simp
def CF:(A2s:Nat)<2 ^ 63:=by rw[A3j];decide
def Uc:Y1 X (λx H Q=>∃ k,R4 X.K x H k/\Q k H):=by
 intro A s E H x v Q I l h;obtain⟨k,e,q⟩:=h;have G:=CF;have L:A2s=16777216:=A3j;cases x with
 | non=>
   cases l;have d:k=aD:=e;subst d;exact truthy_none ⟨H,I,q⟩
 | bl b=>
   cases l;have d:k=b:=e;subst d;exact A2I ⟨H,I,q⟩
 | int i=>
   obtain⟨t,rfl⟩:=l;have d:k=(i != 0):=e;subst d;exact PySem.P.truthy_int ⟨H,I,q⟩
 | str y=>
   obtain⟨t,rfl⟩:=l;obtain⟨C,d⟩:y.length<=A2s/\k=((y.length:Int) != 0):=e;subst d;exact PySem.P.truthy_str (by lia) ⟨H,I.tok _,q⟩
 | byt y=>
   obtain⟨t,rfl⟩:=l;obtain⟨C,d⟩:y.size<=A2s/\k=((y.size:Int) != 0):=e;subst d;exact PySem.W.truthy_bytes (by lia) ⟨H,I.tok _,q⟩
 | ref p=>
   cases l;have d:(∃ j,SqL X.K H p j/\k=!j.isEmpty)\/(∃ j,SqT X.K H p j/\k=!j.isEmpty)\/∃ f,H p=O (.dK f)/\k=!f.isEmpty:=e;rcases d with⟨j,n,d⟩ | ⟨j,n,d⟩ | ⟨f,n,d⟩
   ·subst d;obtain⟨u,r,z,B⟩:=I.list n;have g:=r.length;exact wpAny_truthy_list z.isList (by simp only[Yl];lia) ⟨H,I.tok _,by rw[DX r];exact q⟩
   ·subst d;obtain⟨u,r,z,B⟩:=I.tuple n;have g:=r.length;exact truthy_tuple z (by simp only[Yl];lia) ⟨H,I.tok _,by rw[DX r];exact q⟩
   ·subst d;obtain⟨B,D,o,r,m⟩:f.length<=A2s/\(p == A2S)=aD/\∃ o,KV f o/\s.heap.DictOf (j4 X.prog X.w) p o:=I.hok p _ n;have g:f.length=o.length:=Paired.length r;exact wpAny_truthy_dict D m (by lia) ⟨H,I.tok _,by rw[IP r];exact q⟩
 | _=>exact(show False from e).elim
def NM(i:PE X a ta)(j:∀ d,isTrue a X.env d=(do let v <- d;standAt a.pos;holding [v] (truthy v))):
 PT X a (λf H Q=>ta f H λx g=>∃ k,R4 X.K x g k/\Q k g):=by intro e s f H Q I h;exact isTrue_plain (thn (i e s f H _ I h) (by rintro v l ⟨x,m,n,o,q1⟩;exact Uc e l f m x v Q n o q1)) (j _)
def IQ:OpR X (A30 .Add) (λx y H Q=>∃ i j,x = .str i/\y = .str j/\i.length+j.length<=A2s/\Q (.str (i++j)) H):=by intro d s l H x y v u Q I e f h;obtain⟨i,j,rfl,rfl,g,q⟩:=h;obtain⟨t,rfl⟩:=e;obtain⟨k,rfl⟩:=f;exact add_str (λk m=>⟨.str (i++j),H,I.tok _,⟨_,J⟩,q⟩) g
def Af{x:V}{d:U F}(r:Vals [x] d):∃ u,d=[u]/\RelV x u:=by
 cases r with
 | cons r1 e=>cases e;exact⟨_,J,r1⟩
def NN{x y:V}{d:U F}(r:Vals [x,y] d):∃ u e,d=[u,e]/\RelV x u/\RelV y e:=by
 cases r with
 | cons r1 f=>
   cases f with
   | cons r3 g=>cases g;exact⟨_,_,J,r1,r3⟩
def NO:CallR X (.builtin "abs") (λd H Q=>∃ i,d=[.int i]/\Q (.int (if i<0 then -i else i)) H):=by intro e s f H d g Q I r h;obtain⟨i,rfl,q⟩:=h;obtain⟨u,rfl,t,rfl⟩:=Af r;exact call_abs_int λu j=>⟨.int (if i<0 then -i else i),H,I.tok _,⟨_,J⟩,q⟩
def LQ(g:X.calm=aC):CallR X (.builtin "max") (λe H Q=>∃ i j,e=[.int i,.int j]/\Q (.int (if j>i then j else i)) H):=by
 intro f s l H e m Q I r h;obtain⟨i,j,rfl,q⟩:=h;obtain⟨u,n,rfl,⟨t,rfl⟩,⟨o,rfl⟩⟩:=NN r;refine max_two_ints (I.ok.hd g) λp v k=>⟨_,H,I.kept k,?_,q⟩
 by_cases d:j>i
 ·rw[iP d,iP d];exact⟨_,J⟩
 ·rw[iG d,iG d];exact⟨_,J⟩
def LR(g:X.calm=aC):CallR X (.builtin "min") (λe H Q=>∃ i j,e=[.int i,.int j]/\Q (.int (if j<i then j else i)) H):=by
 intro f s l H e m Q I r h;obtain⟨i,j,rfl,q⟩:=h;obtain⟨u,n,rfl,⟨t,rfl⟩,⟨o,rfl⟩⟩:=NN r;refine min_two_ints (I.ok.hd g) λp v k=>⟨_,H,I.kept k,?_,q⟩
 by_cases d:j<i
 ·rw[iP d,iP d];exact⟨_,J⟩
 ·rw[iG d,iG d];exact⟨_,J⟩
def LS:CallR X (.type "int") (λd H Q=>(∃ i,d=[.int i]/\Q (.int i) H)\/∃ k,d=[.bl k]/\Q (.int (if k then 1 else 0)) H):=by
 intro e s g H d j Q I r h;rcases h with⟨i,rfl,q⟩ | ⟨k,rfl,q⟩
 ·obtain⟨u,rfl,t,rfl⟩:=Af r;exact call_int_int ⟨.int i,H,I,⟨_,J⟩,q⟩
 ·obtain⟨u,rfl,f⟩:=Af r;cases f;exact call_int_bool ⟨.int (if k then 1 else 0),H,I.tok _,⟨_,J⟩,q⟩
end
structure ObjM(h:A2y)(x dx C:Y)(mA:Str->Option F):Prop where
 obj:h.get? x=O (PySem.W.instObj C dx)
 ns:h.Ns1 dx mA
 ne:dx≠x
def LU{h:A2y}{c:Y}{d:Str->Option F}(n:h.Ns1 c d):∃ f,h.get? c=O f/\∀ name,PySem.W.lookIn name f=O (d name):=by
 obtain⟨o,g,r,i,j,k,_,l⟩:=n;refine⟨o,i,λname=>?_⟩;have e:=l name;unfold nsFind findBy at e;rw[<-Array.find?_toList]at e;unfold PySem.W.lookIn;rw[j];dsimp only;split
 ·rename_i y q;rw[q]at e;exact congrArg O e
 ·rename_i q;rw[q]at e
  have a:g.toList.any (·.refKey)=aD:=by
   rw[A0S];intro y m;obtain⟨z,t,b⟩:=k y (Array.mem_toList_iff.mp m);simp[DictEntry.refKey,b]
  have p:¬ g.toList.any (·.refKey)=aC:=by rw[a];exact Yq
  rw[iG p];exact congrArg O e
def ObjM.look{h:A2y}{x b C:Y}{c:Str->Option A2k}(I:ObjM h x b C c):∃ a,PySem.W.InstAt h x (PySem.W.instObj C b) C (aA a)/\∀ name,PySem.W.lookIn name a=aA (c name):=
 let ⟨a,d,e⟩:=LU I.ns
 ⟨a,⟨I.obj,rfl,rfl,d⟩,e⟩
def RelO.some_of{v:V}{o:Option A2k}(r:RelO (aA v) o):∃ u,o=aA u/\RelV v u:=by
 cases o with
 | none=>exact(show False from r).elim
 | some u=>exact⟨u,rfl,r⟩
section
variable{P:A2r}{w:A2u}{H H':Hp}{h h':A2y}{a C dx:Y}{fs fs':U (Str×V)}
def Jp(c:HOk P w H h)(e:H a=O (.ins C dx fs)):∃ b,ObjM h a dx C b/\(∀ f,RelO (fs.lookup f) (b f))/\PySem.Within b (fs.map (·.1))/\fs.length<=1000/\H dx=O (.own a):=by
 obtain⟨d,z,g,i,b,n,r,q⟩:=(show ObjOk P w H h a (.ins C dx fs) from c a _ e)
 exact⟨b,⟨i,n,g⟩,r,q,z,d⟩
end
structure Cls(K:YZ)(C:Y):Prop where
 pg:PySem.W.plainGet K C Str.empty=aC
 hd:PySem.W.hasDictIn K C=aC
 po:PySem.W.plainOver K C=aC
 sa:PySem.W.findIn K (.ref C) "__setattr__"=O (O (.builtin "object.__setattr__"))
def Cls.get{K:YZ}{C:Y}(c:Cls K C)(f:Str):PySem.W.plainGet K C f=aC:=c.pg
section
variable{X:Cx}{pins:U (Y×Obj)}{σ:St}{H:Hp}{s:A2m}{A:A2w}{E:F->A2m->Prop}{Q:F->A2m->Prop}{c:F}{b:Bool}
inductive TyOf(K:YZ)(H:Hp):V->F->Prop where
 | non:TyOf K H .non (.type "NoneType")
 | bl (x:Bool):TyOf K H (.bl x) (.type "bool")
 | int (i:Int):TyOf K H (.int i) (.type "int")
 | str (x:Str):TyOf K H (.str x) (.type "str")
 | flt (x:UInt64):TyOf K H (.flt x) (.type "float")
 | lst {a:Y} {xs:List V} (e:H a=O (.lst xs)):TyOf K H (.ref a) (.type "list")
 | frz {a:Y} {o:Obj} {xs:List V} (e:H a=O (.frz o (.lst xs))):TyOf K H (.ref a) (.type "list")
 | tup {a:Y} {xs:List V} (e:H a=O (.tup xs)):TyOf K H (.ref a) (.type "tuple")
 | dK {a:Y} {kvs:List (Key×V)} (e:H a=O (.dK kvs)):TyOf K H (.ref a) (.type "dict")
 | dT {a:Y} {kvs:List (List Key×V)} (e:H a=O (.dT kvs)):TyOf K H (.ref a) (.type "dict")
 | ins {a C dx:Y} {fs:List (Str×V)} (e:H a=O (.ins C dx fs)) (cl:Cls K C) (ha:PySem.W.findIn K (.ref C) "__class__"=O (O (.builtin "object.__class__")))
    (hn:PySem.W.specialIn K (.builtin "object.__class__") "__get__"=O (O (.builtin "getset_descriptor.__get__"))) (htk:PySem.W.takesIn K (.builtin "object.__class__")=O aC)
    (hm:PySem.W.mroIn K C (.type "object")=O aC):TyOf K H (.ref a) (.ref C)
def LV{x:V}{u t:F}(I:Inv X pins σ H s)(d:RelV x u)(ty:TyOf X.K H x t)(e:PySem.W.kitOne X.K t c=aA b)(h:∀ v,Q (.bool b) {s with toks:=v}):
 A2o (A2q X.prog X.w) A (call (.builtin "isinstance") [u,c]) Q E s:=by
 cases ty with
 | non=>cases(show u=Value.none from d);exact PySem.W.kia_one PySem.W.kitx_none I.kIn True.intro e (λz=>nomatch z) h
 | bl y=>cases(show u=Value.bool y from d);exact PySem.W.kia_one PySem.W.kitx_bool I.kIn True.intro e (λz=>nomatch z) h
 | int i=>obtain⟨t,q⟩:=(show ∃ t,u=Value.int i t from d);cases q;exact PySem.W.kia_one PySem.W.kitx_int I.kIn True.intro e (λz=>nomatch z) h
 | str y=>obtain⟨t,q⟩:=(show ∃ t,u=Value.str y t from d);cases q;exact PySem.W.kia_one PySem.W.kitx_str I.kIn True.intro e (λz=>nomatch z) h
 | flt y=>obtain⟨t,q⟩:=(show ∃ t,u=Value.float y t from d);cases q;exact PySem.W.kia_one PySem.W.kitx_float I.kIn True.intro e (λz=>nomatch z) h
 | @lst a k f=>
   cases(show u=Value.ref a from d);obtain⟨_,_,n,_,g⟩:=(show ObjOk X.prog X.w H s.heap a (.lst k) from I.hok a _ f)
   exact PySem.W.kia_one PySem.W.kitx_list I.kIn ⟨_,g,rfl⟩ e (λz=>nomatch z) h
 | @frz a B k f=>
   cases(show u=Value.ref a from d);obtain⟨_,_,_,n,_,g⟩:=(show ObjOk X.prog X.w H s.heap a (.frz B (.lst k)) from I.hok a _ f)
   exact PySem.W.kia_one PySem.W.kitx_list I.kIn ⟨_,g,rfl⟩ e (λz=>nomatch z) h
 | @tup a k f=>
   cases(show u=Value.ref a from d);obtain⟨_,_,_,p⟩:=(show ObjOk X.prog X.w H s.heap a (.tup k) from I.hok a _ f)
   obtain⟨o,g,l,_⟩:=p;exact PySem.W.kia_one PySem.W.kitx_tuple I.kIn ⟨o,g,l⟩ e (λz=>nomatch z) h
 | @dK a j f=>
   cases(show u=Value.ref a from d);obtain⟨_,_,P,_,p⟩:=(show ObjOk X.prog X.w H s.heap a (.dK j) from I.hok a _ f)
   obtain⟨o,D,G,g,l,_⟩:=p;exact PySem.W.kia_one PySem.W.kitx_dict I.kIn ⟨o,g,l.1⟩ e (λz=>nomatch z) h
 | @dT a j f=>
   cases(show u=Value.ref a from d);obtain⟨_,_,k,_,o,D,G,g,l,_⟩:=(show ObjOk X.prog X.w H s.heap a (.dT j) from I.hok a _ f)
   exact PySem.W.kia_one PySem.W.kitx_dict I.kIn ⟨o,g,l.1⟩ e (λz=>nomatch z) h
 | @ins a C R fs f r L M m N=>
   cases(show u=Value.ref a from d);obtain⟨S,O,_⟩:=Jp I.hok f;obtain⟨T,J,_⟩:=O.look;exact PySem.W.kia_one (PySem.W.kitx_own (r.get _) r.hd L M m N) I.kIn J e (λz=>nomatch z) h
end
structure Room(k:Nat)(A:A2w):Prop where
 hd:A.handled=aB
 dp:A.depth+3 * k+5<A3G
 un:A.units+16 * k+200<cLine
 gd:A.guards=O []
def Room.mono{j k:Nat}{A:A2w}(r:Room k A)(h:j<=k):Room j A:=⟨r.hd,by have:=r.dp;lia,by have:=r.un;lia,r.gd⟩
theorem Room.deeper{k:Nat}{A:A2w}(r:Room (k+1) A)(a:Env):Room k (A.deeper a):=
 ⟨r.hd,by have:=r.dp;show A.depth+1+3 * k+5<_;lia,by have:=r.un;show A.units+3+16 * k+200<_;lia,r.gd⟩
theorem Room.depth{k:Nat}{A:A2w}(r:Room k A):A.depth<A3G:=by have:=r.dp;lia
def R5:TA:=λ_ H Q=>Q [] H
def GW(ta:TE)(b:TA):TA:=λa H Q=>ta a H λx c=>b a c λxs d=>Q (x::xs) d
section
variable{X:Cx}{e:A2p}{es:U A2p}{te:TE}{t:TA}{pos:Pos}
def A7:PA X [] R5:=λ_ _ _ _ H Q I h=>Calls.spliced_nil ⟨[],H,I,.nil,h⟩
def n0(c:PE X e te)(d:PA X es t)(f:A2x (e::es) X.env=(aD,eval e X.env)::A2x es X.env:=by rfl):PA X (e::es) (GW te t):=by intro pos a s b H Q I h;rw[f];show A2o _ _ (spliced ((aD,eval e X.env)::backTo pos (A2x es X.env))) _ _ s;refine Calls.spliced_cons (thn (c a s b H _ I h) λu g i=>?_);obtain⟨x,j,k,l,q1⟩:=i;exact thn (d pos a g b j _ k q1) (by rintro q r ⟨m,n,o,p,q2⟩;exact⟨x::m,n,o,.cons l p,q2⟩)
def Wc(t:TA):TE:=λb H Q=>t b H λxs a=>xs.length<=A2s/\∀ p,a p=aB->Q (.ref p) (upd a p (.tup xs))
def Wd(t:TA):TE:=λb H Q=>t b H λxs a=>xs.length<=A2s/\∀ p,a p=aB->Q (.ref p) (upd a p (.lst xs))
def Ud{x1}(h:PA X es t):PE X (.Tuple es x1 pos) (Wc t):=by intro a s g H Q I i;refine wpAny_Tuple_spliced (thn (h pos a s g H _ I i) λj c ⟨k,d,f,r,z,q⟩=>⟨by rw[<-r.length];exact z,?_⟩);have l:d c.heap.objs.size=aB:=f.hok.fresh (Ym _);refine⟨.ref c.heap.objs.size,upd d c.heap.objs.size (.tup k),f.laid (t':=c.toks) (λb u e=>Yf _ e) (Ym _) ?_,J,q _ l⟩;exact⟨z,j,r,⟨_,Yn _ J,J,_,J⟩⟩
def Ue(h:PA X es t):PE X (.List es pos) (Wd t):=by intro a s g H Q I i;refine wpAny_List_spliced (thn (h pos a s g H _ I i) λj c ⟨k,d,f,r,z,q⟩=>⟨by rw[<-r.length];exact z,?_⟩);have l:d c.heap.objs.size=aB:=f.hok.fresh (Ym _);refine⟨.ref c.heap.objs.size,upd d c.heap.objs.size (.lst k),f.laid (t':=c.toks) (λb u e=>Yf _ e) (Ym _) ?_,J,q _ l⟩;exact⟨z,j,0,r,Yn _ J⟩
end
abbrev Sp:=U V->Hp->VK->XK->Prop
abbrev CXT:=U Env->Hp->A2m->XK->F->A2m->Prop
structure Env0(P:A2r)(w:A2u)(K:YZ)(mg:Str->Option F)(base:A2y)(A:A2w)(outer:List Env)(s:A2m)(H:Hp):Prop where
 frames:A.frames=O outer
 mod:Mod K mg base
 bs:∀ b o,base.get? b=O o->s.heap.get? b=O o/\H b=aB
 bsz:base.objs.size<=s.heap.objs.size
 funs:s.heap.FunFrames base outer
 frf:∀ b∈frs outer,H b=aB
 hok:HOk P w H s.heap
 bare:AllBare s.gens
noncomputable def CE(outer:U Env)(P:A2r)(w:A2u)(H:Hp)(s:A2m)(Q:VK)(u:F)(a:A2m):Prop:=
 ∃ v b,a.os=s.os/\AllBare a.gens/\Un (frs outer) [] H b s.heap a.heap/\HOk P w b a.heap/\RelV v u/\Q v b
noncomputable def CR(CX:CXT)(outer:U Env)(P:A2r)(w:A2u)(H:Hp)(s:A2m)(Q:VK)(E:XK)(r:Result)(a:A2m):Prop:=
 match r with
 | .ok (.ret u)=>CE outer P w H s Q u a
 | .ok _=>False
 | .error e=>CX outer H s E e a
structure FnOk(P:A2r)(w:A2u)(K:YZ)(mg:Str->Option F)(base:A2y)(CX:CXT)(k:Nat)(f:Y)(fd:A35)(ps:List Str)(sp:Sp):Prop where
 len:∀ vs H Q E,sp vs H Q E->vs.length=ps.length
 run:∀(A:A2w) (outer:List Env) (s:A2m) (H:Hp) (args:Args) (us:List F) (vs:List V) (Q:VK) (E:XK),Room k A->Env0 P w K mg base A outer s H->BindsTo s fd args (ps.zip us)->Vals vs us->sp vs H Q E->
  codeAny (A2q P w) A (.call (.ref f) args) (CR CX outer P w H s Q E) s
def FnOk.imp{P:A2r}{w:A2u}{K:YZ}{g:Str->Option A2k}{a:A2y}{i:CXT}{k:Nat}{f:Y}{j:A35}{l:U Str}{m d:Sp}(F:FnOk P w K g a i k f j l m)
 (h:∀ c H Q E,d c H Q E->m c H Q E):FnOk P w K g a i k f j l d:=
 ⟨λc H Q E q=>F.len c H Q E (h _ _ _ _ q),λA b s H e n c Q E o p r t u=>F.run A b s H e n c Q E o p r t (h _ _ _ _ u)⟩
section
variable{X:Cx}{pins:U (Y×Obj)}{σ:St}{H:Hp}{s s':A2m}
def Inv.env0(I:Inv X pins σ H s):Env0 X.prog X.w X.K X.mg X.base X.A X.stack s H:=
 ⟨I.ok.frames,I.ok.mod,I.bs,Z6 I.ok.bsz I.sz,I.stack,I.stkFree,I.hok,I.bare⟩
def Inv.after{Q:VK}{u:A2k}(I:Inv X pins σ H s)(h:CE X.stack X.prog X.w H s Q u s'):EP X pins σ Q u s':=by obtain⟨v,f,i,a,j,c,r,q⟩:=h;obtain⟨k,g,d,t,e⟩:=s';obtain rfl:e=s.os:=i;exact⟨v,f,I.call (h':=k) (g':=g) (d':=d) (t':=t) (ch:=[]) j c a (λb z=>absurd z (by simp)),r,q⟩
end
def Tf(sp:Sp)(a:U V)(E:XK)(t:TA):TE:=λb H Q=>t b H λvs c=>sp (vs++a) c Q E
def Binds(K:YZ)(c:A35)(ps:U Str)(b:U F):Prop:=
 ∀(s:A2m) (a:U F),K.In s.heap->(a++b).length=ps.length->BindsTo s c ⟨a,[]⟩ (ps.zip (a++b))
def Binds.all{K:YZ}{c:A35}{b:U Str}(h:∀ a:U A2k,a.length=b.length->bindArgs c ⟨a,[]⟩=pure (b.zip a)):Binds K c b []:=λs a _ d=>by
 rw[ZD]at d ⊢;exact .of_eq (h a d)
def IR(CX:CXT)(X:Cx)(E:XK):Prop:=∀(a:U (Y×Obj)) (c:St) (H:Hp) (s:A2m) (e:F) (b:A2m),Inv X a c H s->CX X.stack H s E e b->X.xe e b
section
variable{X:Cx}{CX:CXT}{k:Nat}{f C:Y}{fd:A35}{ps:U Str}{sp:Sp}{dvs:U V}{ds:U F}{E:XK}{x m:Str}{p pos apos:Pos}{e o:A2p}{es:U A2p}{ta:TE}{t:TA}
def Uf{a:U (Y×Obj)}{g:St}{H:Hp}{s:A2m}{Q:VK}{b:U A2k}{d:U V}(F:FnOk X.prog X.w X.K X.mg X.base CX k f fd ps sp)(j:Room k X.A)(l:Binds X.K fd ps ds)(n:Vals dvs ds)(q:IR CX X E)
 (I:Inv X a g H s) (r:Vals d b) (h:sp (d++dvs) H Q E):A2o (A2q X.prog X.w) X.A (call (.ref f) b) (EP X a g Q) X.xe s:=by
 have i:Vals (d++dvs) (b++ds):=r.append n;have v:(b++ds).length=ps.length:=by rw[<-i.length];exact F.len _ _ _ _ h
 refine wpAny_call (A3D (F.run X.A X.stack s H ⟨b,[]⟩ (b++ds) (d++dvs) Q E j I.env0 (l s b I.kIn v) i h) λr y c=>?_);cases r with
 | error e=>exact q a g H s e y I c
 | ok z=>
   cases z with
   | ret u=>exact I.after c
   | next=>exact False.elim c
   | brk=>exact False.elim c
   | cont=>exact False.elim c
def R6(F:FnOk X.prog X.w X.K X.mg X.base CX k f fd ps sp)(g:Room k X.A)(i:Gl X x)(j:X.mg x=O (.ref f))(l:PySem.W.keepIn X.K (.ref f)=aC)(n:Binds X.K fd ps ds)(u:Vals dvs ds)(v:IR CX X E)
 (y:PA X (e::es) t) (b:(x == ("__debug__":Str))=aD:=by decide) (z:A2x (e::es) X.env=(aD,eval e X.env)::A2x es X.env:=by rfl) (c:(backTo pos (A2x es X.env)).any (·.1)=aD:=by rfl):
 PE X (.Call (.Name x p) (e::es) [] pos) (Tf sp dvs E t):=by intro a s B H Q I h;refine A2T (Qr I i j ?_ b);refine PySem.W.callWith_K (h₀:=X.base) I.ok.mod.kin l (thn (y pos a s B H _ I h) λD G ⟨L,M,d,r,q⟩=>⟨d.kIn,?_⟩) z c;exact Uf F g n u v d r q
end
noncomputable def PK(X:Cx)(b:U Keyword)(t:TA):Prop:=
 ∀(pos:Pos) (a:U (Y×Obj)) (s:A2m) (c:St) (H:Hp) (Q:U V->Hp->Prop),Inv X a c H s->t c H Q->A2o (A2q X.prog X.w) X.A (evalAll ((A3z pos (A3f b X.env)).map (·.2))) (AP X a c Q) X.xe s
section
variable{X:Cx}{CX:CXT}{k:Nat}{f C:Y}{fd:A35}{ps ks:U Str}{sp:Sp}{E:XK}{x m:Str}{p pos apos kpos:Pos}{e o:A2p}{es:U A2p}{kws:U Keyword}{te ta:TE}{t tk:TA}{nm:Option Str}
def Ug:PK X [] R5:=λ_ _ _ _ H Q I h=>wpAny_evalAll_nil ⟨[],H,I,.nil,h⟩
def R7(c:PE X e te)(d:PK X kws t):PK X (⟨nm,e,kpos⟩::kws) (GW te t):=by intro pos a s b H Q I h;show A2o _ _ (evalAll ((do let v <- eval e X.env;standAt pos;pure v)::(A3z pos (A3f kws X.env)).map (·.2))) _ _ s;refine wpAny_evalAll_cons (Z (thn (c a s b H _ I h) λu g ⟨x,i,j,l,q1⟩=>Z (A2L (A2l ?_))));exact thn (d pos a g b i _ j q1) (by rintro y z ⟨n,q,r,w,q2⟩;exact⟨x::n,q,r,.cons l w,q2⟩)
variable{g:U F->U F->U F}{gV:U V->U V->U V}
end
structure FnScope(N P:List Str)(sc:A2D):Prop where
 kind:sc.kind = .function
 co:sc.isCoroutine=aD
 gen:sc.isGenerator=aD
 nd:N.Nodup
 pre:N.take P.length=P
 par:∀ x∈P,sc.names.lookup x=O .local\/sc.names.lookup x=O .cell
 nofree:∀ y∈sc.names,y.2 ≠ .free
theorem Er{b:Str->Option A2W}{x:Str}:∀{a:U (Str×F)} {m:Str->Option F},(∀ v,(x,v)∉a)->bindL b a m x=m x
 | [],_,_=>rfl
 | (n,v)::r,m,h=>by
   unfold bindL;rw[Er λw c=>h w (Yh _ c)];split
   ·have:x≠n:=by rintro rfl;exact h v Yi
    simp[this]
   ·rfl
theorem Es{b:Str->Option A2W}{x:Str}:∀{a:U (Str×F)} {m:Str->Option F},(∀ v,(x,v)∉a)->bindC b a m x=m x
 | [],_,_=>rfl
 | (n,v)::r,m,h=>by
   unfold bindC;rw[Es λw c=>h w (Yh _ c)];split
   ·rfl
   ·have:x≠n:=by rintro rfl;exact h v Yi
    simp[this]
theorem Et{a:Str->Option A2W}{x:Str}{v:F}:∀{P:U Str} {b:U F} {i:Nat} {m:Str->Option F},P.Nodup->P[i]?=O x->b[i]?=O v->a x=O .local->
 bindL a (P.zip b) m x=O v
 | [],_,_,_,_,h,_,_=>by simp at h
 | _::_,[],_,_,_,_,h,_=>by simp at h
 | p::P,w::b,0,m,e,c,d,f=>by
   simp at c d;subst c;subst d;show bindL a ((p,w)::P.zip b) m p=_;unfold bindL;rw[Er λv g=>(ZP.mp e).1 (A0c g).1,iP f];simp
 | p::P,w::b,i+1,m,e,c,d,f=>by
   show bindL a ((p,w)::P.zip b) m x=_;unfold bindL;exact Et (i:=i) (ZP.mp e).2 (by simpa using c) (by simpa using d) f
theorem Eu{a:Str->Option A2W}{x:Str}{v:F}:∀{P:U Str} {b:U F} {i:Nat} {m:Str->Option F},P.Nodup->P[i]?=O x->b[i]?=O v->a x≠O .local->
 bindC a (P.zip b) m x=O v
 | [],_,_,_,_,h,_,_=>by simp at h
 | _::_,[],_,_,_,_,h,_=>by simp at h
 | p::P,w::b,0,m,e,c,d,f=>by
   simp at c d;subst c;subst d;show bindC a ((p,w)::P.zip b) m p=_;unfold bindC;rw[Es λv g=>(ZP.mp e).1 (A0c g).1,iG f];simp
 | p::P,w::b,i+1,m,e,c,d,f=>by
   show bindC a ((p,w)::P.zip b) m x=_;unfold bindC;exact Eu (i:=i) (ZP.mp e).2 (by simpa using c) (by simpa using d) f
def start(N:U Str)(vs:U V):St:=vs.map O++Yv (N.length - vs.length) aB
noncomputable def IS(CX:CXT)(P:A2r)(w:A2u)(K:YZ)(mg:Str->Option F)(base:A2y)(N:U Str)(qual:Str)(scope:A2D)(f:Y)(cd:F)(A:A2w)(outer:U Env)(s:A2m)(H:Hp)(E:XK):Cx where
 prog:=P
 w:=w
 K:=K
 mg:=mg
 base:=base
 A:=A.deeper (envOfC qual scope s.heap.objs.size f cd)
 N:=N
 s₀:=s
 H₀:=H
 env:=envOfC qual scope s.heap.objs.size f cd
 outer:=outer
 stack:=envOfC qual scope s.heap.objs.size f cd::outer
 ex:=[]
 calm:=aC
 fn:=λ_=>aC
 pn:=[]
 xe:=λe s'=>A2o (A2q P w) (A.deeper (envOfC qual scope s.heap.objs.size f cd)) (leaving (envOfC qual scope s.heap.objs.size f cd) e) (λ_ s''=>CX outer H s E e s'') (λe' s''=>CX outer H s E e' s'') s'
def GX{a:A2D}{n:Nat}{x:Str}(h:a.names.lookup x=O .cell):∃ c,(A2Y n a.names []).lookup x=O c:=by have q:=PySem.W.cellsFrom_some a.names n [] (.inl h);exact A0i.mp q
def LW{W:CXT}{P:A2r}{w:A2u}{K:YZ}{R:Str->Option F}{m:A2y}{N t:U Str}{j:Str}{d:A2D}{f:Y}{L:F}{A:A2w}{g:U Env}{s X:A2m}{H:Hp}{E:XK}{T:U F}{B:U V}
 (S:FnScope N t d) (hd:A.handled=aB) (o:Env0 P w K R m A g s H) (hl:B.length=t.length) (r:Vals B T)
 (x:InCallC s s.heap.objs.size (bindL (envOfC j d s.heap.objs.size f L).kindOf (t.zip T) λ_=>aB) (A2Y (s.heap.objs.size+1) d.names []) (bindC (envOfC j d s.heap.objs.size f L).kindOf (t.zip T) λ_=>aB) X):
 Inv (IS W P w K R m N j d f L A g s H E) [] (start N B) H X:=by
 have a0:t.length<=N.length:=by have:=congrArg A1S S.pre;rw[ZG]at this;lia
 obtain⟨M,tk,rfl,hk⟩:=x.done;have C:∀ b:Y,b∉(IS W P w K R m N j d f L A g s H E).ex:=λb z=>absurd (show b∈([]:U Y) from z) (by simp)
 refine⟨⟨o.mod,S.kind,J,J,Ym _,λy z c M l=>?_,λy D=>?_,λy c _ h=>?_,λ_=>hd,Around.frames_deeper o.frames,.inr ⟨J,J⟩,λb z=>absurd z (C b),o.bs,o.bsz,λb _ _=>C b,λb z=>absurd z (C b),o.funs,o.frf⟩,
  rfl,o.bare,Un.kept hk,⟨_,x.toInCall.ns,λi y v M l h3=>?_⟩,λy c h=>⟨_,x.cell y c h⟩,o.hok.fresh (Ym _),λy c h=>?_,λp G=>absurd (show p∈([]:U (Y×Obj)) from G) (by simp),o.hok.kept hk,?_⟩
 ·exact name_of_addr x.apart (PySem.mem_of_lookup M) (PySem.mem_of_lookup l)
 ·have D:d.names.lookup y=O .cell\/d.names.lookup y=O .free:=D;rcases D with D | D
  ·exact GX D
  ·exact absurd J (S.nofree _ (PySem.mem_of_lookup D))
 ·exact A0m (x.above y c (PySem.mem_of_lookup h))
 ·have Q:i<B.length:=by
   unfold start at l;by_cases Q:i<B.length
   ·exact Q
   ·rw[ZQ (by simpa using Q)]at l;rw[Zq]at l;split at l<;>cases l
  have ha:B[i]?=O v:=by
   unfold start at l;rw[Yw (by simpa using Q),Yj]at l;cases e:B[i]? with
   | none=>rw[e]at l;cases l
   | some a=>rw[e]at l;cases l;rfl
  obtain⟨u,hu,rv⟩:=r.get ha
  have G:t[i]?=O y:=by
   rw[<-S.pre,List.getElem?_take_of_lt (by lia)];exact M
  have I:t.Nodup:=by rw[<-S.pre];exact S.nd.sublist (A1E _ _)
  refine⟨u,rv,?_⟩;rcases S.par y (Yb G) with k | k
  ·exact .inl ⟨k,Et I G hu k⟩
  ·obtain⟨c,e⟩:=GX (n:=s.heap.objs.size+1) k;refine .inr ⟨.inl k,c,e,?_⟩;have q:=x.cell y c e;rw[Eu I G hu (by show d.names.lookup y≠_;rw[k];decide)]at q;exact q
 ·exact o.hok.fresh (A0m (x.above y c (PySem.mem_of_lookup h)))
 ·unfold start;show _=N.length;rw[Yd,YY,A0o]
  lia
def We{R:CXT}{P:A2r}{w:A2u}{K:YZ}{T:Str->Option F}{h:A2y}{k:Nat}{f:Y}{name d:Str}{i:Arguments}{j:U A2V}{a:A2D}{dV kV D pm g ct oc:F}{an od:Option Y}
 {a0:Array (Option F)} {N X:U Str} {sp:Sp} (lk:K.lookup f=O ⟨oc,od,.func (PySem.W.fnOf name d i j a dV kV D pm an g ct),a0⟩) (a1:PySem.W.codeIn K g d=aC) (S:FnScope N X a)
 (len:∀ l H Q E,sp l H Q E->l.length=X.length)
 (z:∀(A:A2w) (c:U Env) (s:A2m) (H:Hp) (l:U V) (Q:VK) (E:XK),Room k (A.deeper (envOfC d a s.heap.objs.size f g))->sp l H Q E->
   ∃ t,PSs (IS R P w K T h N d a f g A c s H E) j t/\t {nx:=λ_ p=>Q .non p,rt:=Q} (start N l) H):
 FnOk P w K T h R (k+1) f (PySem.W.fnOf name d i j a dV kV D pm an g ct) X sp:=by
 refine⟨len,λA c s H a3 us l Q E hr G hb r L=>?_⟩;have hl:=len _ _ _ _ L;have KX:K.In s.heap:=G.mod.kin.keeps λb o e=>(G.bs b o e).1;have a2:s.heap.NoLimit:=G.mod.nolimit.keeps λb o e=>(G.bs b o e).1
 have B:∀ y∈X.zip us,a.names.lookup y.1=O .local\/(a.names.lookup y.1=O .cell/\((A2Y (s.heap.objs.size+1) a.names []).lookup y.1).isSome=aC):=λ⟨n,v⟩ hy=>by
  rcases S.par n (A0c hy).1 with q | q
  ·exact .inl q
  ·exact .inr ⟨q,PySem.W.cellsFrom_some _ _ _ (.inl q)⟩
 refine codeAny_call_function hr.depth (KX _ _ lk) rfl S.co S.gen rfl (PySem.W.codeRec_of KX a1) (hb _ _ _ _ ?_);refine wpAny_newFunctionEnv_cells S.kind B λa4 he s1 x=>?_;subst he;refine⟨a2.keeps x.toInCall.keep,codeAny_func ?_⟩;obtain⟨t,ht,hq⟩:=z A c s H l Q E (hr.deeper _) L;have I:Inv (IS R P w K T h N d a f g A c s H E) [] (start N l) H s1:=LW S hr.hd G hl r x;refine A2J (ht [] s1 (start N l) H _ I hq) (λfl s' C=>?_) λe s' C=>C
 have M:∀{m:St} {p:Hp} {v:V} {u:F},Inv (IS R P w K T h N d a f g A c s H E) [] m p s'->RelV v u->Q v p->CE c P w H s Q u s':=
  λ{m p v u} J rv q=>⟨v,p,J.os,J.bare,J.base,J.hok,rv,q⟩
 cases fl with
 | ret u=>
   obtain⟨v,m,p,J,rv,q⟩:=C;exact M J rv q
 | next=>
   obtain⟨m,p,J,q⟩:=C;exact M (v:=V.non) (u:=Value.none) J rfl q
 | brk=>
   obtain⟨_,_,_,q⟩:=C;exact False.elim q
 | cont=>
   obtain⟨_,_,_,q⟩:=C;exact False.elim q
section
variable{X:Cx}{x:Str}{p pos:Pos}{e:A2p}{es:U A2p}{t:TA}{id T:String}{r:U V->Hp->VK->Prop}
def tCB(r:U V->Hp->VK->Prop)(t:TA):TE:=λa H Q=>t a H λvs b=>r vs b Q
def w4(f:CallR X (.builtin id) r)(g:Gl X x)(i:X.mg x=aB)(j:A2v x=O (.builtin id))(k:PA X (e::es) t)(l:x≠"__name__":=by decide)(b:(x == ("__debug__":Str))=aD:=by decide)
 (m:A2x (e::es) X.env=(aD,eval e X.env)::A2x es X.env:=by rfl) (c:(backTo pos (A2x es X.env)).any (·.1)=aD:=by rfl):PE X (.Call (.Name x p) (e::es) [] pos) (tCB r t):=by intro a s d H Q I h;refine A2T (AW I g i j ?_ l b);exact PyProof.Rows.callWith_builtin1 (thn (k pos a s d H _ I h) (by rintro n o ⟨q,u,v,w,q1⟩;exact f a o d u q n Q v w q1)) m c
def y0(f:CallR X (.type T) r)(g:Gl X x)(i:X.mg x=aB)(j:A2v x=O (.type T))(k:PA X (e::es) t)(l:x≠"__name__":=by decide)(b:(x == ("__debug__":Str))=aD:=by decide)
 (m:A2x (e::es) X.env=(aD,eval e X.env)::A2x es X.env:=by rfl) (c:(backTo pos (A2x es X.env)).any (·.1)=aD:=by rfl):PE X (.Call (.Name x p) (e::es) [] pos) (tCB r t):=by intro a s d H Q I h;refine A2T (AW I g i j ?_ l b);exact PyProof.Rows.callWith_type1 (thn (k pos a s d H _ I h) (by rintro n o ⟨q,u,v,w,q1⟩;exact f a o d u q n Q v w q1)) m c
def IT(c:CallR X (.type T) r)(d:Gl X x)(f:X.mg x=aB)(g:A2v x=O (.type T))(i:x≠"__name__":=by decide)(b:(x == ("__debug__":Str))=aD:=by decide):
 PE X (.Call (.Name x p) [] [] pos) (tCB r R5):=by intro a s j H Q I h;refine A2T (AW I d f g ?_ i b);exact PyProof.Rows.callWith_type0 (c a s j H [] [] Q I .nil h)
end
end L2
namespace HT
open PySem PyProof.Rows
def lexLt:U Int->U Int->Bool
 | [],[]=>aD
 | [],_::_=>aC
 | _::_,[]=>aD
 | x::xs,y::ys=>if x=y then lexLt xs ys else decide (x<y)
def rcLt_int(A:A2w)(s:A2m)(a:Int)(t:Tok)(c:Int)(u:Tok)(prog:A2r)(w:A2u)(E:F->A2m->Prop)(Q:F->A2m->Prop)(h:Q (.bool (decide (a<c))) s):
 A2o (A2q prog w) A (A3A .Lt (.int a t) (.int c u)) Q E s:=
 (PyProof.Rows.lt_int h:A2o (A2q prog w) A (A2H .Lt (.int a t) (.int c u)) Q E s)
section
variable{prog:A2r}{w:A2u}{A:A2w}{E:F->A2m->Prop}{s:A2m}
def cat_tup{t b:Y}{d a:U A2k}{Q:A2k->A2m->Prop}(z:IsTup s.heap t d.toArray)(B:IsTup s.heap b a.toArray)(o:d≠[])
 (C:a=[]->Q (.ref t) s) (D:a≠[]->Q (.ref s.heap.objs.size) {s with heap:=s.heap.push {cls := .type "tuple",data := .seq (d++a).toArray}})
 (l:d.length+a.length<=A2s):A2o (A2q prog w) A (A30 .Add (.ref t) (.ref b)) Q E s:=by
 obtain⟨⟨G,p,q,r⟩,j,u,n,v⟩:=id z;obtain⟨⟨x,f,m,g⟩,c,h,y,i⟩:=id B;simp only at u v h i;subst u v h i;have e:d.toArray++a.toArray=(d++a).toArray:=by simp
 by_cases k:a=[]
 ·exact A4F ⟨_,j,J⟩ ⟨_,c,J⟩ A3S A4s PySem.F.slot_tuple_add PySem.F.entry_tuple_add (PySem.F.args_tuple_add_2 _ _)
   (tuple_addW1 t b d.toArray a.toArray n y p f r g (by simpa using o) (by simp[k])) ⟨j,c,C k⟩
 ·refine A4F ⟨_,j,J⟩ ⟨_,c,J⟩ A3S A4s PySem.F.slot_tuple_add PySem.F.entry_tuple_add (PySem.F.args_tuple_add_2 _ _)
   (tuple_addW2 t b d.toArray a.toArray n y p f r g (by simpa using o) (by simpa using k) (by rw[Yl,Yl];exact l)) ⟨j,c,?_⟩
  rw[e];exact D k
def sIx(n d:Nat):Option Int->Nat
 | none=>d
 | some v=>if v<0 then (v+(n:Int)).toNat else min v.toNat n
def sIx_none(n d:Nat):sIx n d aB=d:=J
def sIx_nat(n d k:Nat):sIx n d (O (k:Int))=min k n:=by show(if (k:Int)<0 then ((k:Int)+(n:Int)).toNat else min (k:Int).toNat n)=min k n;rw[iG (by lia),ZX]
def Uh(n d:Nat)(b:d<=n)(o:Option Int):sIx n d o<=n:=by
 cases o with
 | none=>exact b
 | some v=>
   show(if v<0 then (v+(n:Int)).toNat else min v.toNat n)<=n;by_cases a:v<0
   ·rw[iP a];lia
   ·rw[iG a];exact Nat.min_le_right _ _
def Jq(v:Int)(n d:Nat):(if v<0 then max (v+(n:Int)) 0 else min v (n:Int))=((sIx n d (O v):Nat):Int):=by
 show(if v<0 then max (v+(n:Int)) 0 else min v (n:Int))=(((if v<0 then (v+(n:Int)).toNat else min v.toNat n):Nat):Int)
 by_cases a:v<0
 ·simp only[iP a];lia
 ·simp only[iG a];lia
def IU(a b:Option Int)(n:Nat):Builtin.Slice.sliceAdjust a b 1 (n:Int)=(((sIx n 0 a:Nat):Int),((sIx n n b:Nat):Int)):=by
 have c:¬ ((1:Int)<0):=by lia
 unfold Builtin.Slice.sliceAdjust;simp only[c,if_false];refine Prod.ext ?_ ?_
 ·cases a with
  | none=>rfl
  | some v=>exact Jq v n 0
 ·cases b with
  | none=>rfl
  | some v=>exact Jq v n n
def IV(i j:Nat):Builtin.Slice.slicePlaces (i:Int) (j:Int) 1=j - i:=by
 unfold Builtin.Slice.slicePlaces;have a:(1:Int)>0:=by lia
 simp only[a,if_true,Int.ediv_one];split<;>lia
def DY{v:F}{o:Option Int}{Q:Option Int->A2m->Prop}(p:IsPart v o)(h:Q o s):A2o (A2q prog w) A (Builtin.Slice.slicePartIndex v) Q E s:=by
 cases p with
 | none=>exact A52 h
 | int i t=>exact slicePart_int h
def B9{g:Y}{e f:F}{a b:Option Int}{n:Nat}{Q:Int×Int×Nat->A2m->Prop}(i:s.heap.IsSliceOf g e f .none)(j:IsPart e a)(k:IsPart f b)
 (h:Q (((sIx n 0 a:Nat):Int),1,sIx n n b - sIx n 0 a) s):A2o (A2q prog w) A (Builtin.Slice.sliceApplied (.ref g) (pure (n:Int))) Q E s:=by obtain⟨m,c,l,d⟩:=id i;unfold Builtin.Slice.sliceApplied Builtin.Slice.sliceFields;refine Z (Z (A2F c d (x:=e) J (Z (A2F c d (x:=f) J (Z (A2F c d (x := .none) J (A2l ?_)))))));refine Z (A52 ?_);show A2o _ _ (if ((1:Int) == 0)=aC then _ else _) _ _ s;rw[iG (by decide)];refine Z (DY j (Z (DY k (Z (A2l ?_)))));show A2o _ _ (match Builtin.Slice.sliceAdjust a b 1 (n:Int) with | (a,b)=>pure (a,(1:Int),Builtin.Slice.slicePlaces a b 1)) _ _ s;rw[IU a b n];show A2o _ _ (pure (((sIx n 0 a:Nat):Int),(1:Int),Builtin.Slice.slicePlaces ((sIx n 0 a:Nat):Int) ((sIx n n b:Nat):Int) 1)) _ _ s;rw[IV];exact A2l h
def NP(a:Array F)(i k:Nat):((Ye k).filterMap λ(m:Nat)=>a[((i:Int)+(m:Int) * 1).toNat]?).toArray=((a.toList.drop i).take k).toArray:=by
 have e:(λ(m:Nat)=>a[((i:Int)+(m:Int) * 1).toNat]?)=λm=>a[i+m]?:=by
  funext m
  have:((i:Int)+(m:Int) * 1).toNat=i+m:=by lia
  rw[this]
 rw[e];have:=pick_run a i k;rw[List.filterMap_map]at this;have b:((λx=>a[x]?)∘λx=>i+x)=λm=>a[i+m]?:=J;rw[b]at this;rw[this]
def getItem_tuple_cut{t f:Y}{a:Array F}{l n:F}{c d:Option Int}{Q:F->A2m->Prop}(e:IsTup s.heap t a)(o:s.heap.IsSliceOf f l n .none)(p:IsPart l c)(r:IsPart n d)
 (u:¬ (sIx a.size 0 c=0/\sIx a.size a.size d=a.size))
 (h:Q (.ref s.heap.objs.size) {s with heap:=s.heap.push {cls := .type "tuple",data := .seq ((a.toList.drop (sIx a.size 0 c)).take (sIx a.size a.size d - sIx a.size 0 c)).toArray}})
 (v:a.size<=A2s):A2o (A2q prog w) A (getItem (.ref t) (.ref f)) Q E s:=by
 have b:sizeOk (.seq ((a.toList.drop (sIx a.size 0 c)).take (sIx a.size a.size d - sIx a.size 0 c)).toArray):=by
  show((a.toList.drop (sIx a.size 0 c)).take (sIx a.size a.size d - sIx a.size 0 c)).toArray.size<=A2s;rw[Yl,ZG,Zg,Zc]
  lia
 have z:sIx a.size a.size d<=a.size:=Uh _ _ (Ym _) d;obtain⟨x,g,i,y⟩:=id o;have j:s.TypeIs (.ref f) "slice":=⟨x,g,i⟩
 unfold getItem
 try with_reducible refine A2A ?_
 first | refine Z (A2l ?_) | skip
 refine Z (A4G e.typeIs (by decide) ?_)
 refine Z (A2B (name:=Str.ofString "__getitem__") e.typeIs PyProof.Rows.slot_tuple_getitem
  (A2C PyProof.Rows.slot_tuple_getitem e.typeIs A4o ?_ (A4A _ _)))
 show A2o _ _ (Builtin.Tuple.tupleItemsOf (.ref t) >>= _) _ _ s;refine Z (tupleItemsOf_ e ?_);refine Z (A2U j ?_);rw[iP (by decide)];refine Z (B9 o p r ?_)
 have k:¬ ((((sIx a.size 0 c:Nat):Int) == 0&&(1:Int) == 1&&(sIx a.size a.size d - sIx a.size 0 c) == a.size)=aC):=by
  intro q;rw[Yc,Yc]at q;have q1:((sIx a.size 0 c:Nat):Int)=0:=eq_of_beq q.1.1;have q2:sIx a.size a.size d - sIx a.size 0 c=a.size:=eq_of_beq q.2;exact u ⟨by lia,by lia⟩
 show A2o _ _ (if (((sIx a.size 0 c:Nat):Int) == 0&&(1:Int) == 1&&(sIx a.size a.size d - sIx a.size 0 c) == a.size)=aC then _ else _) _ _ s;rw[iG k,NP]
 first
  | exact Z (m:=Builtin.Tuple.tupleExact _) (A2z (A2l ⟨_,J,A2l h⟩) b)
  | exact Z (m:=Builtin.Tuple.tupleExact _) (A2z (Z (A2l (A2l ⟨_,J,A2l h⟩))) b)
  | exact Z (Z (m:=Builtin.Tuple.tupleExact _) (A2z (A2l (A2l ⟨_,J,A2l h⟩)) b))
  | exact Z (Z (m:=Builtin.Tuple.tupleExact _) (A2z (A2l ⟨_,J,A2l h⟩) b))
end
end HT
namespace L2
open PySem PySem.Spec PyProof.Rows
abbrev TO:=St->Hp->(Option Int->Hp->Prop)->Prop
noncomputable def PO(X:Cx)(e:Option A2p)(t:TO):Prop:=
 ∀(a:U (Y×Obj)) (s:A2m) (b:St) (H:Hp) (Q:Option Int->Hp->Prop),Inv X a b H s->t b H Q->
  A2o (A2q X.prog X.w) X.A (evalPart e X.env) (λu d=>∃ o c,Inv X a b c d/\IsPart u o/\Q o c) X.xe s
def R8:TO:=λ_ H Q=>Q aB H
def Wf(t:TE):TO:=λa H Q=>t a H λx b=>∃ i,x = .int i/\Q (O i) b
section
variable{X:Cx}{e:A2p}{te:TE}{lo hi:Option A2p}{tl th:TO}{pos p2:Pos}
def R9:PO X aB R8:=by intro a s b H Q I h;rw[evalPart_none];exact A2l ⟨aB,H,I,.none,h⟩
def RA(h:PE X e te):PO X (O e) (Wf te):=by intro a s b H Q I c;rw[evalPart_some];refine thn (h a s b H _ I c) λu k d=>?_;obtain⟨x,f,g,j,q1⟩:=d;obtain⟨i,rfl,q⟩:=q1;obtain⟨t,rfl⟩:=j;exact⟨O i,f,g,.int i t,q⟩
noncomputable def SlR(X:Cx)(r:V->Option Int->Option Int->Hp->VK->Prop):Prop:=
 ∀(a:U (Y×Obj)) (s:A2m) (b:St) (H:Hp) (x:V) (v c d:F) (lo hi:Option Int) (f:Y) (Q:VK),Inv X a b H s->RelV x v->s.heap.IsSliceOf f c d .none->IsPart c lo->IsPart d hi->r x lo hi H Q->
  ∃ T id,A3H (.type T) "__getitem__"=pure (O (.builtin id))/\s.TypeIs v T/\A2o (A2q X.prog X.w) X.A (getItem v (.ref f)) (EP X a b Q) X.xe s
def SlR.or{r b:V->Option Int->Option Int->Hp->VK->Prop}(h:SlR X r)(m:SlR X b):SlR X (λx lo hi H Q=>r x lo hi H Q\/b x lo hi H Q):=by
 intro a s c H x v d f lo hi g Q I i j k l q;rcases q with q | q
 ·exact h a s c H x v d f lo hi g Q I i j k l q
 ·exact m a s c H x v d f lo hi g Q I i j k l q
def tSl(r:V->Option Int->Option Int->Hp->VK->Prop)(b:TE)(c d:TO):TE:=λa H Q=>b a H λx f=>c a f λl g=>d a g λu h=>r x l u h Q
def NQ{r:V->Option Int->Option Int->Hp->VK->Prop}(k:SlR X r)(m:PE X e te)(n:PO X lo tl)(hu:PO X hi th):PE X (.Subscript e (.Slice lo hi aB p2) pos) (tSl r te tl th):=by intro a s d H Q I h;refine A53 (thn (m a s d H _ I h) λv o i=>?_);obtain⟨x,p,t,y,q1⟩:=i;refine wpAny_Slice (thn (n a o d p _ t q1) λf z ⟨l,B,C,D,q2⟩=>thn (hu a z d B _ C q2) λg c i=>?_);obtain⟨u,j,E,G,q3⟩:=i;rw[evalPart_none];refine A2l ?_;have K:Inv X a d j {c with heap:=c.heap.push {cls := .type "slice",data := .fields #[f,g,.none]}}:=E.kept (t':=c.toks) λb P q=>Yf _ q;obtain⟨T,id,L,M,N⟩:=k a {c with heap:=c.heap.push {cls := .type "slice",data := .fields #[f,g,.none]}} d j x v f g l u c.heap.objs.size Q K y (Heap.IsSliceOf.new ..) D G q3;show A2o (A2q X.prog X.w) X.A (A4t e (.Slice lo hi aB p2) v (.ref c.heap.objs.size)) (EP X a d Q) X.xe {c with heap:=c.heap.push {cls := .type "slice",data := .fields #[f,g,.none]}};exact tail_any (ops:=[.ref c.heap.objs.size,v]) M L N (by with_unfolding_all rfl)
def GY(xs:U V)(a b:Option Int):U V:=(xs.drop (HT.sIx xs.length 0 a)).take (HT.sIx xs.length xs.length b - HT.sIx xs.length 0 a)
def DD(a:U V)(b c:Option Int):(GY a b c).length<=a.length:=by
 unfold GY;rw[ZG,Zg]
 lia
def Wg(K:YZ):V->Option Int->Option Int->Hp->VK->Prop:=λx lo hi H Q=>∃ a xs,x = .ref a/\SqT K H a xs/\
 ¬ (HT.sIx xs.length 0 lo=0/\HT.sIx xs.length xs.length hi=xs.length)/\∀ p,H p=aB->Q (.ref p) (upd H p (.tup (GY xs lo hi)))
def sl_tup:SlR X (Wg X.K):=by
 intro g s u H x v w y lo hi z Q I k l m n h;obtain⟨a,d,rfl,p,t,q⟩:=h;cases k;obtain⟨f,r,i,j⟩:=I.tuple p;have c:f.toArray.size=d.length:=by rw[Yl];exact r.length.symm
 refine⟨"tuple",_,PyProof.Rows.slot_tuple_getitem.lookup,i.typeIs,?_⟩;refine HT.getItem_tuple_cut i l m n (by rw[c];exact t) ?_ (by rw[c];exact j);rw[c];refine⟨.ref s.heap.objs.size,_,I.laid (t':=s.toks) (o := .tup (GY d lo hi)) (λb A q=>Yf _ q) (Ym _) ?_,J,q _ (I.hok.fresh (Ym _))⟩;exact⟨Z6 (DD d lo hi) j,_,(r.drop (HT.sIx d.length 0 lo)).take (HT.sIx d.length d.length hi - HT.sIx d.length 0 lo),IsTup.new _ _⟩
def NR(K:YZ):R2:=λx y H Q=>∃ a b xs ys,x = .ref a/\y = .ref b/\SqT K H a xs/\SqT K H b ys/\xs≠[]/\xs.length+ys.length<=A2s/\
 (ys=[]->Q (.ref a) H)/\(ys≠[]->∀ p,H p=aB->Q (.ref p) (upd H p (.tup (xs++ys))))
def Vals.nil_iff{a:U V}{b:U A2k}(r:Vals a b):b=[]↔a=[]:=by
 cases r with
 | nil=>simp
 | cons _ _=>simp
def op_catT:OpR X (A30 .Add) (NR X.K):=by intro f s B H x y v u Q I j k h;obtain⟨a,b,l,m,rfl,rfl,n,p,r,g,q1,q2⟩:=h;cases j;cases k;obtain⟨t,d,A,_⟩:=I.tuple n;obtain⟨i,c,p2,_⟩:=I.tuple p;refine HT.cat_tup A p2 (λz=>r (d.nil_iff.mp z)) (λz=>⟨.ref a,H,I,J,q1 (c.nil_iff.mp z)⟩) (λz=>?_) (by rw[<-d.length,<-c.length];exact g);refine⟨.ref s.heap.objs.size,_,I.laid (t':=s.toks) (o := .tup (l++m)) (λb C q=>Yf _ q) (Ym _) ?_,J,q2 (λw=>z (c.nil_iff.mpr w)) _ (I.hok.fresh (Ym _))⟩;exact⟨by rw[Yd];exact g,_,d.append c,IsTup.new _ _⟩
end
def ixN(n:Nat)(i:Int):Option Nat:=if 0<=i then (if i<n then O i.toNat else aB) else if -(n:Int)<=i then O (i+n).toNat else aB
def atI{α:Type}(xs:U α)(i:Int):Option α:=(ixN xs.length i).bind λj=>xs[j]?
def Jr{n:Nat}{i:Int}{j:Nat}(h:ixN n i=O j):seqIndex? i n=O j/\j<n /\ -(n:Int)<=i/\i<n:=by
 unfold ixN at h;by_cases b:0<=i
 ·rw[iP b]at h;by_cases a:i<n
  ·rw[iP a]at h;have e:i.toNat=j:=oj h;exact⟨by rw[A4Q b a,e],by lia,by lia,a⟩
  ·rw[iG a]at h;cases h
 ·rw[iG b]at h;by_cases a:-(n:Int)<=i
  ·rw[iP a]at h;have e:(i+n).toNat=j:=oj h;exact⟨by rw[A4H (by lia) a,e],by lia,a,by lia⟩
  ·rw[iG a]at h;cases h
def Js{b:Type}{a:U b}{i:Int}{v:b}(h:atI a i=O v):∃ j,seqIndex? i a.length=O j/\a[j]?=O v/\j<a.length /\ -(a.length:Int)<=i/\i<a.length:=by
 unfold atI at h;cases e:ixN a.length i with
 | none=>rw[e]at h;cases h
 | some j=>
   rw[e]at h;obtain⟨c,d,f,g⟩:=Jr e;exact⟨j,c,h,d,f,g⟩
def j3{a:Type}{xs:U a}{j:Nat}{v:a}(h:xs[j]?=O v):atI xs (j:Int)=O v:=by
 have b:j<xs.length:=(gM h).1
 have e:ixN xs.length (j:Int)=O j:=by
  unfold ixN;rw[iP (by lia),iP (by lia)];simp
 unfold atI;rw[e];exact h
def Jt(b:A2p):Prop:=∀ o i,A4d b aD o i=operate [o,i] (getItem o i)
noncomputable def IxR(X:Cx)(r:R2):Prop:=
 ∀(c a:A2p) (b:U (Y×Obj)) (s:A2m) (d:St) (H:Hp) (x y:V) (v u:F) (Q:VK),Inv X b d H s->RelV x v->RelV y u->r x y H Q->
  A4d a aD v u=operate [v,u] (getItem v u)->A2o (A2q X.prog X.w) X.A (A4t c a v u) (EP X b d Q) X.xe s
noncomputable def MtR(X:Cx)(id:String)(r:V->U V->Hp->VK->Prop):Prop:=
 ∀(a:U (Y×Obj)) (s:A2m) (b:St) (H:Hp) (x:V) (xs:U V) (v:F) (c:U F) (Q:VK),Inv X a b H s->RelV x v->Vals xs c->r x xs H Q->
  A2o (A2q X.prog X.w) X.A (call (.builtin id) (v::c)) (EP X a b Q) X.xe s
section
variable{X:Cx}{a b:A2p}{ta tb:TE}{pos:Pos}
def IxR.or{r f:R2}(h:IxR X r)(l:IxR X f):IxR X (λx y H Q=>r x y H Q\/f x y H Q):=by
 intro c d e s g H x y v u Q I i j q k;rcases q with q | q
 ·exact h c d e s g H x y v u Q I i j q k
 ·exact l c d e s g H x y v u Q I i j q k
def Wh{r:R2}(d:IxR X r)(e:PE X a ta)(f:PE X b tb)(g:Jt b):PE X (.Subscript a b pos) (tOp r ta tb):=by intro c s i H Q I h;exact A53 (UW e f I h λv u j x y k l m n q=>d a b c j i k x y v u Q l m n q (g _ _))
def Wi(K:YZ):R2:=λx y H Q=>∃ p xs i v,x = .ref p/\y = .int i/\SqL K H p xs/\atI xs i=O v/\Q v H
def Wj(K:YZ):R2:=λx y H Q=>∃ p xs i v,x = .ref p/\y = .int i/\SqT K H p xs/\atI xs i=O v/\Q v H
def ix_list:IxR X (Wi X.K):=by
 intro f g c s o H x y v u Q I D E h A;obtain⟨p,T,i,z,rfl,rfl,G,L,q⟩:=h;cases D;obtain⟨t,rfl⟩:=E;obtain⟨k,r,l,V⟩:=I.list G;obtain⟨j,e,M,W,N,P⟩:=Js L;obtain⟨w,B,m⟩:=r.get M;have R:=r.length;have hn:=CF;have d:EP X c o Q w s:=⟨z,H,I,m,q⟩
 by_cases C:0<=i
 ·have n:i.toNat=j:=by
   rw[A4Q C P]at e;exact oj e
  exact item_listR l.isList C (by lia) (by rw[n];simpa using B) d A
 ·have n:(i+(k.toArray.size:Int)).toNat=j:=by
   rw[A4H (by lia) N]at e;rw[Yl,<-R];exact oj e
  exact A3Z (x:=w) l.isList.typeIs slot_list_getitem.lookup
   (wpAny_getItem_list_neg (Q:=λr S=>r=w/\EP X c o Q r S) l.isList (by lia) (by rw[Yl]<;>lia) (by lia) (by rw[n];simpa using B) ⟨J,d⟩) A
def Ui:IxR X (Wj X.K):=by
 intro d e c s k H x y v u Q I m n h o;obtain⟨p,N,i,z,rfl,rfl,A,B,q⟩:=h;cases m;obtain⟨t,rfl⟩:=n;obtain⟨C,r,l,P⟩:=I.tuple A;obtain⟨j,D,E,R,S,T⟩:=Js B;obtain⟨w,G,f⟩:=r.get E;have L:=r.length;have V:=CF;have g:EP X c k Q w s:=⟨z,H,I,f,q⟩
 exact A3Z (x:=w) l.typeIs slot_tuple_getitem.lookup
  (getItem_tuple (j:=j) (Q:=λr M=>r=w/\EP X c k Q r M) l (by lia) (by lia) (by rw[Yl,<-L];exact D) (by simpa using G) ⟨J,g⟩) o
def IW(c:U F)(n j:Nat)(u:F):Obj.mapSeq (·.setIfInBounds j u) {cls := .type "list",data := .seq c.toArray n}={cls := .type "list",data := .seq (c.set j u).toArray n}:=by simp[Obj.mapSeq]
theorem Inv.lst{d:U (Y×Obj)}{f:St}{H:Hp}{s:A2m}{p:Y}{xs:U V}(I:Inv X d f H s)(h:H p=aA (.lst xs)):
 ∃(c:U A2k) (n:Nat),Vals xs c/\s.heap.get? p=aA {cls := .type "list",data := .seq c.toArray n}/\xs.length<=A2s:=by obtain⟨z,c,n,r,e⟩:=I.hok p _ h;exact⟨c,n,r,e,z⟩
def Inv.lstUpd{d:U (Y×Obj)}{k:St}{H:Hp}{s:A2m}{p:Y}{m i:U V}{g c:U A2k}{n j:Nat}{f:Obj->Obj}(I:Inv X d k H s)(h:H p=aA (.lst m))
 (o:s.heap.get? p=aA {cls := .type "list",data := .seq g.toArray n}) (l:f {cls := .type "list",data := .seq g.toArray n}={cls := .type "list",data := .seq c.toArray j}) (r:Vals i c) (v:i.length<=A2s) (t:Nat):
 Inv X d k (upd H p (.lst i)) {s with heap:=s.heap.update p f,toks:=t}:=by
 have e:(s.heap.update p f).get? p=aA {cls := .type "list",data := .seq c.toArray j}:=by
  rw[ZL f o (by rw[l]<;>rfl),l]
 refine I.write (x:=p) (e:=p) (by rw[h];trivial) (.inl rfl) (λb u w q=>(ZM _ _ (Ne.symm w)).trans q) ⟨_,e⟩ ?_;exact⟨v,c,j,r,e⟩
def Ju:V->V->V->Hp->(Hp->Prop)->Prop:=λo i v H Q=>∃ p xs k j,o = .ref p/\i = .int k/\H p=O (.lst xs)/\ixN xs.length k=O j/\Q (upd H p (.lst (xs.set j v)))
def GZ:UP X Ju:=by
 intro c s A H o i v K L u Q I ro B C h;obtain⟨p,D,k,j,rfl,rfl,m,E,q⟩:=h;cases ro;obtain⟨t,rfl⟩:=B;obtain⟨d,n,r,f,G⟩:=I.lst m;obtain⟨e,M,w,x⟩:=Jr E;have g:=r.length;have N:=CF
 have y:Inv X c A (upd H p (.lst (D.set j v))) {s with heap:=s.heap.update p (Obj.mapSeq (·.setIfInBounds j u))}:=
  I.lstUpd m f (IW d n j u) (r.set C j) (by rw[ZH];exact G) s.toks
 by_cases z:0<=k
 ·have l:k.toNat=j:=by
   rw[A4Q z x]at e;exact oj e
  exact PySem.W.ki_setAt f z (by lia) (by rw[Yl,<-g];exact x) (by rw[l];exact⟨_,y,q⟩)
 ·have l:(k+(d.toArray.size:Int)).toNat=j:=by
   rw[A4H (by lia) w]at e;rw[Yl,<-g];exact oj e
  exact PySem.W.ki_setBack f (by lia) (by rw[Yl,<-g];exact w) (by lia) (by rw[l];exact⟨_,y,q⟩)
def FU(c d:Option Int)(n:Nat):(A3r c d aB n).1=((HT.sIx n 0 c:Nat):Int)/\(A3r c d aB n).2.1=((HT.sIx n n d:Nat):Int)/\(A3r c d aB n).2.2=1:=by
 refine⟨?_,?_,J⟩
 ·cases c with
  | none=>simp[A3r,HT.sIx]
  | some i=>
    simp only[A3r,HT.sIx,A13,show(1:Int)>0 by decide,if_true];by_cases h:i<0
    ·simp only[h,if_true]<;>lia
    ·simp only[h,if_false]<;>lia
 ·cases d with
  | none=>simp[A3r,HT.sIx]
  | some i=>
    simp only[A3r,HT.sIx,A13,show(1:Int)>0 by decide,if_true];by_cases h:i<0
    ·simp only[h,if_true]<;>lia
    ·simp only[h,if_false]<;>lia
def EU(c:U F)(d e:Option Int):slicePick c.toArray d e aB=((c.drop (HT.sIx c.length 0 d)).take (HT.sIx c.length c.length e - HT.sIx c.length 0 d)).toArray:=by obtain⟨f,g,h⟩:=FU d e c.toArray.size;unfold slicePick;rw[f,g,h];simp only[sliceRange_one,pick_run,Yl]<;>rfl
def Wk(K:YZ):V->Option Int->Option Int->Hp->VK->Prop:=λx c d H Q=>∃ a xs,x = .ref a/\SqL K H a xs/\∀ p,H p=aB->Q (.ref p) (upd H p (.lst (GY xs c d)))
def sl_list:SlR X (Wk X.K):=by intro g s u H x v w y e f z Q I j k l m h;obtain⟨a,c,rfl,n,q⟩:=h;cases j;obtain⟨p,r,i,t⟩:=I.list n;have d:=r.length;refine⟨"list",_,slot_list_getitem.lookup,i.isList.typeIs,?_⟩;refine wpAny_getItem_list_slice i.isList k l m .none (by simp) ?_ (by rw[Yl]<;>lia);rw[EU,<-d];refine⟨.ref s.heap.objs.size,_,I.laid (t':=s.toks) (o := .lst (GY c e f)) (λb A q=>Yf _ q) (Ym _) ?_,J,q _ (I.hok.fresh (Ym _))⟩;exact⟨Z6 (DD c e f) t,_,0,(r.drop (HT.sIx c.length 0 e)).take (HT.sIx c.length c.length f - HT.sIx c.length 0 e),Yn _ J⟩
def AI:V->Bool
 | .non=>aC
 | .bl _=>aC
 | .int _=>aC
 | .str _=>aC
 | _=>aD
def eqV:V->V->Bool
 | .non,.non=>aC
 | .bl a,.bl b=>a == b
 | .bl a,.int b=>(if a then 1 else 0) == b
 | .int a,.bl b=>a == (if b then 1 else 0)
 | .int a,.int b=>a == b
 | .str a,.str b=>a == b
 | _,_=>aD
def NS{A:A2w}{s:A2m}{y x:V}{u v:F}(e:RelV y u)(c:RelV x v)(g:AI y=aC)(f:AI x=aC):SeqAt.EqAt A s u v (eqV y x):=by
 cases y with
 | non=>
   cases e;cases x with
   | non=>cases c;exact SeqAt.EqAt.same _
   | bl b=>cases c;exact SeqAt.EqAt.none_bool b
   | int b=>obtain⟨t,rfl⟩:=c;exact SeqAt.EqAt.none_int b t
   | str b=>obtain⟨t,rfl⟩:=c;exact SeqAt.EqAt.none_str b t
   | _=>exact absurd (show aD=aC from f) Yq
 | bl a=>
   cases e;cases x with
   | non=>cases c;exact SeqAt.EqAt.bool_none a
   | bl b=>cases c;exact SeqAt.EqAt.bool_bool a b
   | int b=>obtain⟨t,rfl⟩:=c;exact SeqAt.EqAt.bool_int a b t
   | str b=>obtain⟨t,rfl⟩:=c;exact SeqAt.EqAt.bool_str a b t
   | _=>exact absurd (show aD=aC from f) Yq
 | int a=>
   obtain⟨d,rfl⟩:=e;cases x with
   | non=>cases c;exact SeqAt.EqAt.int_none a d
   | bl b=>cases c;exact SeqAt.EqAt.int_bool a d b
   | int b=>obtain⟨t,rfl⟩:=c;exact SeqAt.EqAt.int_int a d b t
   | str b=>obtain⟨t,rfl⟩:=c;exact SeqAt.EqAt.int_str a d b t
   | _=>exact absurd (show aD=aC from f) Yq
 | str a=>
   obtain⟨d,rfl⟩:=e;cases x with
   | non=>cases c;exact SeqAt.EqAt.str_none a d
   | bl b=>cases c;exact SeqAt.EqAt.str_bool a d b
   | int b=>obtain⟨t,rfl⟩:=c;exact SeqAt.EqAt.str_int a d b t
   | str b=>obtain⟨t,rfl⟩:=c;exact SeqAt.EqAt.str_str a d b t
   | _=>exact absurd (show aD=aC from f) Yq
 | _=>exact absurd (show aD=aC from g) Yq
def eqU(x:V)(u:F):Bool:=match u with
 | .none=>eqV .non x
 | .bool b=>eqV (.bl b) x
 | .int i _=>eqV (.int i) x
 | .str z _=>eqV (.str z) x
 | _=>aD
def NT{x y:V}{u:F}(r:RelV y u)(f:AI y=aC):eqU x u=eqV y x:=by
 cases y with
 | non=>cases r;rfl
 | bl b=>cases r;rfl
 | int i=>obtain⟨t,rfl⟩:=r;rfl
 | str z=>obtain⟨t,rfl⟩:=r;rfl
 | _=>exact absurd (show aD=aC from f) Yq
theorem CU{x:V}:∀{c:U V} {d:U F},Vals c d->c.all AI=aC->d.any (eqU x)=c.any λy=>eqV y x
 | _,_,.nil,_=>rfl
 | y::c,u::d,.cons r t,f=>by
   rw[Zm,Yc]at f;rw[Zn,Zn,NT r f.1,CU t f.2]
theorem Bd{A:A2w}{s:A2m}{x:V}{v:F}(e:RelV x v)(g:AI x=aC):∀{c:U V} {d:U F},Vals c d->c.all AI=aC->∀ u∈d,SeqAt.EqAt A s u v (eqU x u)
 | _,_,.nil,_=>λu hu=>by cases hu
 | y::c,u::d,.cons r t,f=>λh hu=>by
   rw[Zm,Yc]at f;rcases Yp.mp hu with rfl | hu
   ·rw[NT r f.1];exact NS r e f.1 g
   ·exact Bd e g t f.2 h hu
def inV(x:V)(xs:U V):Bool:=xs.any λy=>eqV y x
def rIn(K:YZ)(c:Bool):R2:=λx y H Q=>∃ p xs,y = .ref p/\(SqL K H p xs\/SqT K H p xs)/\AI x=aC/\xs.all AI=aC/\Q (.bl (if c then !inV x xs else inV x xs)) H
def LX:OpR X (A2H .In) (rIn X.K aD):=by
 intro g s m H x y v u Q I i k h;obtain⟨p,n,rfl,d,j,fs,q⟩:=h;cases k;rcases d with d | d
 ·obtain⟨c,r,e,l⟩:=I.list d;refine SeqAt.in_listAt (eqU x) e.isList (λw f=>Bd i j r fs w (by simpa using f)) ⟨.bl _,H,I,J,?_⟩;rw[show c.toArray.any (eqU x)=c.any (eqU x) by simp,CU r fs];exact q
 ·obtain⟨c,r,e,l⟩:=I.tuple d;refine SeqAt.in_tupleAt (eqU x) e (λw f=>Bd i j r fs w (by simpa using f)) ⟨.bl _,H,I,J,?_⟩;rw[show c.toArray.any (eqU x)=c.any (eqU x) by simp,CU r fs];exact q
def FV:OpR X (A2H .NotIn) (rIn X.K aC):=by
 intro g s m H x y v u Q I i k h;obtain⟨p,n,rfl,d,j,fs,q⟩:=h;cases k;rcases d with d | d
 ·obtain⟨c,r,e,l⟩:=I.list d;refine SeqAt.notIn_listAt (eqU x) e.isList (λw f=>Bd i j r fs w (by simpa using f)) ⟨.bl _,H,I,J,?_⟩;rw[show c.toArray.any (eqU x)=c.any (eqU x) by simp,CU r fs];exact q
 ·obtain⟨c,r,e,l⟩:=I.tuple d;refine SeqAt.notIn_tupleAt (eqU x) e (λw f=>Bd i j r fs w (by simpa using f)) ⟨.bl _,H,I,J,?_⟩;rw[show c.toArray.any (eqU x)=c.any (eqU x) by simp,CU r fs];exact q
def FW:CallR X (.builtin "len") (λj H Q=>∃ p d,j=[.ref p]/\(SqL X.K H p d\/SqT X.K H p d)/\Q (.int d.length) H):=by
 intro k s n H j o Q I r h;obtain⟨p,d,rfl,e,q⟩:=h;obtain⟨u,rfl,l⟩:=Af r;cases l;have t:=CF;rcases e with e | e
 ·obtain⟨f,g,i,m⟩:=I.list e;have c:=g.length;exact Calls.call_len_list i.isList (by simp only[Yl]<;>lia) ⟨.int d.length,H,I.tok _,⟨s.toks+1,by rw[Yl,c]⟩,q⟩
 ·obtain⟨f,g,i,m⟩:=I.tuple e;have c:=g.length;exact len_tuple i (by simp only[Yl]<;>lia) ⟨.int d.length,H,I.tok _,⟨s.toks+1,by rw[Yl,c]⟩,q⟩
def CallR.or{f:A2k}{r e:U V->Hp->VK->Prop}(h:CallR X f r)(k:CallR X f e):CallR X f (λd H Q=>r d H Q\/e d H Q):=by
 intro c s g H d i Q I j q;rcases q with q | q
 ·exact h c s g H d i Q I j q
 ·exact k c s g H d i Q I j q
def FX:CallR X (.type "list") (λC H Q=>∃ p f,C=[.ref p]/\(SqL X.K H p f\/SqT X.K H p f)/\∀ l,H l=aB->Q (.ref l) (upd H l (.lst f))):=by
 intro j s E H C L Q I r h;obtain⟨p,f,rfl,k,q⟩:=h;obtain⟨u,rfl,G⟩:=Af r;cases G
 have m:∀(c:U F),Vals f c->f.length<=A2s->∀(d:A2y) (g:Nat),(∀ b D,s.heap.get? b=O D->d.get? b=O D)->
  d.get? s.heap.objs.size=O {cls := .type "list",dict:=aB,data := .seq c.toArray g,slots:=#[]}->EP X j E Q (.ref s.heap.objs.size) {s with heap:=d}:=λc i t d g v e=>
  ⟨.ref s.heap.objs.size,_,I.laid (t':=s.toks) v (Ym _) (show ObjOk X.prog X.w _ d _ (.lst f) from ⟨t,c,g,i,e⟩),J,q _ (I.hok.fresh (Ym _))⟩
 rcases k with k | k
 ·obtain⟨c,i,y,t⟩:=I.list k;have x:=i.length;obtain⟨o,z,A,n,B⟩:=y.isList;exact call_list_seq p (.inl J) z A B (λd g v e=>m c i t d g v e) (by simp only[Yl]<;>lia)
 ·obtain⟨c,i,y,t⟩:=I.tuple k;have x:=i.length;obtain⟨o,z,A,n,B⟩:=y;exact call_list_seq p (.inr J) z A B (λd g v e=>m c i t d g v e) (by simp only[Yl]<;>lia)
def EV:CallR X (.type "tuple") (λm H Q=>∃ p f,m=[.ref p]/\((SqL X.K H p f/\∀ l,H l=aB->Q (.ref l) (upd H l (.tup f)))\/(SqT X.K H p f/\Q (.ref p) H))):=by
 intro c s n H m B Q I r h;obtain⟨p,f,rfl,h⟩:=h;obtain⟨u,rfl,y⟩:=Af r;cases y;rcases h with⟨i,q⟩ | ⟨i,q⟩
 ·obtain⟨d,j,k,t⟩:=I.list i;have v:=j.length;refine call_tuple_list k.isList (λg z=>?_) (by simp only[Yl]<;>lia);have x:Inv X c n H {s with heap:=g}:=I.kept (t':=s.toks) z
  have A:Inv X c n (upd H g.objs.size (.tup f)) {s with heap:=g.push {cls := .type "tuple",data := .seq d.toArray}}:=
   x.laid (t':=s.toks) (λb o e=>Yf _ e) (Ym _) (show ObjOk X.prog X.w _ _ _ (.tup f) from ⟨t,d,j,IsTup.new _ _⟩)
  exact⟨.ref g.objs.size,_,A,J,q _ (x.hok.fresh (Ym _))⟩
 ·obtain⟨d,j,k,t⟩:=I.tuple i;exact call_tuple_same k ⟨.ref p,H,I,J,q⟩
def tyV(K:YZ)(T:String)(x:V)(H:Hp):Prop:=match x with
 | .str _=>T="str"
 | .int _=>T="int"
 | .ref p=>(T="list"/\∃ xs,SqL K H p xs)\/(T="tuple"/\∃ o,K.lookup p=O o/\o.cls = .type "tuple"/\o.dict=aB)\/
    (T="dict"/\((∃ kvs,H p=O (.dK kvs))\/∃ kvs,H p=O (.dT kvs)))\/(T="set"/\∃ S n,H p=O (.set S n))
 | _=>False
def NU{g:U (Y×Obj)}{q:St}{H:Hp}{s:A2m}{T:String}{x:V}{v:F}(I:Inv X g q H s)(r:RelV x v)(ty:tyV X.K T x H):
 s.TypeIs v T/\∀ a,v = .ref a->∃ l,s.heap.get? a=O l/\l.dict=aB:=by
 cases x with
 | str z=>
   obtain⟨t,rfl⟩:=r;cases(show T="str" from ty);exact⟨typeIs_str s z t,λ_ e=>nomatch e⟩
 | int i=>
   obtain⟨t,rfl⟩:=r;cases(show T="int" from ty);exact⟨A40 s i t,λ_ e=>nomatch e⟩
 | ref p=>
   cases r;rcases ty with⟨rfl,A,u⟩ | ⟨rfl,o,d,w,h⟩ | ⟨rfl,d⟩ | ⟨rfl,S,n,d⟩
   ·obtain⟨y,_,m,_⟩:=I.list u;refine⟨m.isList.typeIs,λa e=>?_⟩;cases e;obtain⟨o,n,e,c,h,_⟩:=m;exact⟨o,e,h⟩
   ·refine⟨⟨o,I.kIn p o d,w⟩,λa e=>?_⟩;cases e;exact⟨o,I.kIn _ o d,h⟩
   ·have z:∃ o,s.heap.get? p=O o/\o.ExactDict:=by
     rcases d with⟨j,d⟩ | ⟨j,d⟩
     ·obtain⟨_,_,_,_,o,_,_,e,f,_⟩:=I.hok p _ d;exact⟨o,e,f⟩
     ·obtain⟨_,_,_,_,o,_,_,e,f,_⟩:=I.hok p _ d;exact⟨o,e,f⟩
    obtain⟨o,e,f⟩:=z;refine⟨⟨o,e,f.1⟩,λa k=>?_⟩;cases k;exact⟨o,e,f.2.1⟩
   ·obtain⟨o,_,_,_,e,f,_⟩:=I.hok p _ d;refine⟨⟨o,e,f.1⟩,λa k=>?_⟩;cases k;exact⟨o,e,f.2.1⟩
 | _=>exact False.elim ty
def Uj(K:YZ)(T:String)(r:V->U V->Hp->VK->Prop)(d:TE):TE:=λe H Q=>d e H λx c=>tyV K T x c/\r x [] c Q
def tBM(K:YZ)(T:String)(r:V->U V->Hp->VK->Prop)(e:TE)(t:TA):TE:=λc H Q=>e c H λx d=>tyV K T x d/\t c d λxs f=>r x xs f Q
variable{o e:A2p}{es:U A2p}{to:TE}{t:TA}{name:Str}{apos cpos:Pos}{T id:String}{r:V->U V->Hp->VK->Prop}
def FY(m:PlainAttrs T)(g:Slot T name id)(i:typeOf (.builtin id)=pure (.type "method_descriptor"))(n:MtR X id r)(p:PE X o to)
 (d:A3Q o name X.env (eval o X.env)=eval o X.env:=by rfl) (f:(apos.endLine == cpos.line)=aC:=by rfl):PE X (.Call (.Attribute o name apos) [] [] cpos) (Uj X.K T r to):=by intro c s j H Q I h;refine wpAny_Call_method0_late d f (thn (p c s j H _ I h) λv q u=>?_);obtain⟨x,w,k,l,ty,q1⟩:=u;obtain⟨y,z⟩:=NU k l ty;exact⟨T,id,m,g,i,y,z,Calls.callWith_builtin J (PySem.evalArgs_none (n c q j w x [] v [] Q k l .nil q1))⟩
def Ga(q:PlainAttrs T)(i:Slot T name id)(k:typeOf (.builtin id)=pure (.type "method_descriptor"))(u:MtR X id r)(w:PE X o to)(y:PA X (e::es) t)
 (f:A3Q o name X.env (eval o X.env)=eval o X.env:=by rfl)
 (j:((backTo cpos (A2x (e::es) X.env)).all (λx=>!x.1)&&(A3z cpos (A3f [] X.env)).all (λx=>x.1.isSome)
   && decide ((e::es).length+([]:U Keyword).length+(if ([]:U Keyword).isEmpty then 0 else 1)<30))=aC:=by rfl)
 (g:(apos.endLine == cpos.line)=aC:=by rfl) (z:A2x (e::es) X.env=(aD,eval e X.env)::A2x es X.env:=by rfl) (d:(backTo cpos (A2x es X.env)).any (·.1)=aD:=by rfl):
 PE X (.Call (.Attribute o name apos) (e::es) [] cpos) (tBM X.K T r to t):=by intro c s l H Q I h;refine wpAny_Call_method_late f j g J (thn (w c s l H _ I h) λv A B=>?_);obtain⟨x,C,m,n,ty,q1⟩:=B;obtain⟨D,E⟩:=NU m n ty;refine⟨T,id,q,i,k,D,E,?_⟩;have p:=y cpos c A l C _ m q1;rw[z]at p ⊢;refine Calls.callWith_builtin (by show(aD||(backTo cpos (A2x es X.env)).any (·.1))=aD;rw[d]<;>rfl) (Calls.evalArgs_plain ?_);exact thn p (by rintro G L ⟨M,N,P,R,q2⟩;exact u c L l N x M v G Q P n R q2)
end
noncomputable def MtM(X:Cx)(id:String)(r:V->U V->Hp->VK->Prop):Prop:=
 ∀(a:U (Y×Obj)) (s:A2m) (b:St) (H:Hp) (x:V) (xs:U V) (v:F) (c:U F) (Q:VK),Inv X a b H s->RelV x v->Vals xs c->r x xs H Q->
  A2o (A2q X.prog X.w) X.A (call (.builtin id) (v::c)) (EP X a b Q) X.xe s
def Vals.one{x:V}{a:U A2k}(h:Vals [x] a):∃ u,a=[u]/\RelV x u:=by
 cases h with
 | cons r q=>cases q;exact⟨_,rfl,r⟩
def Vals.two{x y:V}{a:U A2k}(h:Vals [x,y] a):∃ u v,a=[u,v]/\RelV x u/\RelV y v:=by
 cases h with
 | cons r q=>
   obtain⟨v,rfl,s⟩:=Vals.one q;exact⟨_,v,rfl,r,s⟩
def Vals.zero:∀{a:U A2k},Vals [] a->a=[]
 | _,.nil=>rfl
theorem Vals.eraseIdx:∀{a:U V} {b:U A2k} (i:Nat),Vals a b->Vals (a.eraseIdx i) (b.eraseIdx i)
 | _,_,_,.nil => .nil
 | _,_,0,.cons _ t=>t
 | _,_,i+1,.cons r t => .cons r (Vals.eraseIdx i t)
theorem Vals.reverse{a:U V}{b:U A2k}(h:Vals a b):Vals a.reverse b.reverse:=by
 induction h with
 | nil=>exact .nil
 | cons r t c=>rw[A1F,A1F];exact Vals.append c (.cons r .nil)
theorem Vals.rep{a:U V}{b:U A2k}(h:Vals a b):∀ k:Nat,Vals (Yv k a).flatten (Yv k b).flatten
 | 0 => .nil
 | k+1=>by
   rw[ZO,ZO,Zk,Zk];exact Vals.append h (Vals.rep h k)
theorem Ev{a:Type}:∀(l:U a) (i:Nat),(l.eraseIdx i).length<=l.length
 | [],_=>Ym _
 | _::_,0=>A0l _
 | _::r,i+1=>Nat.succ_le_succ (Ev r i)
theorem Ew(a:U F):∀(k:Nat) (b:U F),
 A1Z (λc d=>c++d) b.toArray (Yv k a.toArray)=(b++(Yv k a).flatten).toArray
 | 0,b=>by simp
 | k+1,b=>by
   have e:b.toArray++a.toArray=(b++a).toArray:=by simp
   have f:(b++a)++(Yv k a).flatten=b++(Yv (k+1) a).flatten:=by
    rw[ZO,Zk,A0q]
   rw[<-f,<-Ew a k (b++a),<-e,ZO,List.foldl_cons]
section
variable{X:Cx}{pins:U (Y×Obj)}{σ:St}{H:Hp}{s:A2m}{l b:Y}{xs ys zs:U V}
def Inv.lset{a its':U A2k}{n:Nat}{f:Array A2k->Array A2k}{c:Nat}(I:Inv X pins σ H s)(d:H l=aA (.lst xs))
 (e:s.heap.get? l=aA {cls := .type "list",data := .seq a.toArray n}) (g:f a.toArray=its'.toArray) (h:Vals ys its') (i:ys.length<=A2s):
 Inv X pins σ (upd H l (.lst ys)) {s with heap:=s.heap.update l (Obj.mapSeq f),toks:=c}:=by have q:=PySem.IsL.update e f;rw[g]at q;refine I.write (x:=l) (e:=l) (by rw[d];exact trivial) (.inl rfl) (λk u j hu=>(ZM s.heap (Obj.mapSeq f) (Ne.symm j)).trans hu) ⟨_,q⟩ ?_;exact⟨i,its',_,h,q⟩
def Inv.lnew{a:U A2k}{t':Nat}(I:Inv X pins σ H s)(c:Vals ys a)(d:ys.length<=A2s):
 Inv X pins σ (upd H s.heap.objs.size (.lst ys)) {s with heap:=s.heap.push {cls := .type "list",data := .seq a.toArray},toks:=t'}:=
 I.laid (λ_ _ q=>Yf _ q) (Ym _) ⟨d,a,0,c,Yn _ rfl⟩
theorem Inv.fresh(I:Inv X pins σ H s):H s.heap.objs.size=aB:=I.hok.fresh (Ym _)
def Inv.lstM(I:Inv X pins σ H s)(c:H l=aA (.lst xs)):xs.length<=A2s/\∃(a:U A2k) (n:Nat),Vals xs a/\xs.length=a.length/\s.heap.get? l=aA {cls := .type "list",data := .seq a.toArray n}:=by obtain⟨z,a,n,r,e⟩:=I.hok l _ c;exact⟨z,a,n,r,r.length,e⟩
def Gb{n:Nat}(h:n<=A2s):Builtin.List.listTooLong n=aD:=by unfold Builtin.List.listTooLong;exact decide_eq_false (by lia)
end
section
variable{X:Cx}
def Jv:V->U V->Hp->VK->Prop:=λx vs H Q=>∃ l xs y,x = .ref l/\vs=[y]/\H l=O (.lst xs)/\xs.length<A2s/\Q .non (upd H l (.lst (xs++[y])))
def Cr:MtM X "list.append" Jv:=by
 intro b s i H x j v k Q I d f h;obtain⟨l,m,y,rfl,rfl,c,o,q⟩:=h;cases d;obtain⟨u,rfl,g⟩:=f.one;obtain⟨z,a,n,r,p,e⟩:=I.lstM c;refine A3k F.slot_list_append ⟨_,e,J⟩ F.entry_list_append (F.args_list_append_2 _ _) (PySem.list_append l a.toArray n u (by rw[Yl];lia)) ⟨e,?_⟩;refine⟨.non,_,I.lset (its':=a++[u]) c e (by simp) (r.append (.cons g .nil)) ?_,J,q⟩;rw[Yd,ZS]
 lia
def Jw:V->U V->Hp->VK->Prop:=λx vs H Q=>∃ l b xs a,x = .ref l/\vs=[.ref b]/\H l=O (.lst xs)/\H b=O (.lst a)/\xs.length+a.length<=A2s/\Q .non (upd H l (.lst (xs++a)))
def Ey:MtM X "list.extend" Jw:=by
 intro g s A H x B v C Q I j k h;obtain⟨l,b,D,E,rfl,rfl,i,m,G,q⟩:=h;cases j;obtain⟨u,rfl,o⟩:=k.one;cases o;obtain⟨z,c,n,r,K,e⟩:=I.lstM i;obtain⟨L,a,p,t,w,y⟩:=I.lstM m;have f:c.toArray.size+a.toArray.size<=A2s:=by rw[Yl,Yl];lia
 have d:¬ (!c.toArray.isEmpty&&Builtin.List.listTooLong (c.toArray.size+a.toArray.size))=aC:=by
  rw[Gb f,Bool.and_false];exact Yq
 refine A3k F.slot_list_extend ⟨_,e,J⟩ F.entry_list_extend (F.args_list_extend_2 _ _)
  (AutoSeq1.list_extend_list_list_0 l c.toArray n b a.toArray p d (by rw[Yl];lia) (by lia)) ⟨e,y,?_⟩
 refine⟨.non,_,I.lset (its':=c++a) i e (by simp) (r.append t) ?_,J,q⟩;rw[Yd]
 lia
def Wl:R2:=λx y H Q=>∃ l b xs a,x = .ref l/\y = .ref b/\H l=O (.lst xs)/\H b=O (.lst a)/\xs.length+a.length<=A2s/\∀ p,H p=aB->Q (.ref p) (upd H p (.lst (xs++a)))
def Uk:OpR X (A30 .Add) Wl:=by
 intro d s t H x y v u Q I f g h;obtain⟨l,b,w,A,rfl,rfl,i,j,B,q⟩:=h;cases f;cases g;obtain⟨z,c,n,r,C,e⟩:=I.lstM i;obtain⟨D,a,E,k,m,o⟩:=I.lstM j;refine PySem.P.add_list e o ?_ (by rw[Yl,Yl];lia);have p:c.toArray++a.toArray=(c++a).toArray:=by simp
 rw[p];exact⟨.ref _,_,I.lnew (t':=s.toks) (r.append k) (by rw[Yd];lia),J,q _ I.fresh⟩
def Wm:R2:=λx y H Q=>∃ l k xs,x = .ref l/\y = .int k/\H l=O (.lst xs) /\ -(2 ^ 63)<=k/\k<2 ^ 63/\xs.length * k.toNat<=A2s/\
 ∀ p,H p=aB->Q (.ref p) (upd H p (.lst (Yv k.toNat xs).flatten))
def RC{b:Type}(a:U b)(k:Nat):(Yv k a).flatten.length=k * a.length:=by
 induction k with
 | zero=>simp
 | succ k c=>rw[ZO,Zk,Yd,c,A0L,Nat.add_comm]
def Ul:OpR X (A30 .Mult) Wm:=by
 intro p s M H x y v u Q I A B h;obtain⟨l,k,N,rfl,rfl,C,D,E,w,q⟩:=h;cases A;obtain⟨t,rfl⟩:=B;obtain⟨z,b,n,r,G,e⟩:=I.lstM C;have d:b.toArray.size * k.toNat<=A2s:=by rw[Yl,<-G];exact w
 have f:¬ b.toArray.size * k.toNat>(2 ^ 63 - 1) / 8:=by
  have:(A2s:Nat)<=(2 ^ 63 - 1) / 8:=by decide
  lia
 have g:¬ (!Builtin.List.listFitsIndex k)=aC:=by
  rw[A54 D E];exact Yq
 have c:¬ Builtin.List.listTooLong (b.toArray.size * k.toNat)=aC:=by
  rw[Gb d];exact Yq
 have i:A1Z (λj o=>j++o) #[] (Yv (if b.toArray.isEmpty=aC then 0 else k.toNat) b.toArray)=(Yv k.toNat b).flatten.toArray:=by
  have K:∀ m:Nat,A1Z (λj o=>j++o) #[] (Yv m b.toArray)=(Yv m b).flatten.toArray:=λm=>by
   have:=Ew b m [];rw[A0d]at this;exact this
  rw[K];cases b with
  | nil=>simp
  | cons a P=>rw[iG (by simp)]
 refine wpAny_binaryOp_repeat_ref (T:="list") (U:="int") (by decide) ⟨_,e,J⟩ (λL=>A40 L k t) noFill_list_mul F.fills_int_mul F.slot_int_rmul repeat_list F.slot_int_index.lookup
  (A3k F.slot_int_rmul (A40 s k t) F.entry_int_rmul (F.args_int_rmul_2 _ _) (int___rmul___int_list k t l b.toArray n)
    ⟨e,J,⟨_,e,J⟩,A3k F.slot_list_mul ⟨_,e,J⟩ F.entry_list_mul (F.args_list_mul_2 _ _) (AutoListH.list___mul___list_int_3 l b.toArray n k t g f c) ⟨e,?_⟩⟩)
 rw[i];exact⟨.ref _,_,I.lnew (t':=s.toks) (r.rep k.toNat) (by rw[RC,Nat.mul_comm];exact w),J,q _ I.fresh⟩
end
end L2
namespace Att
open PySem PySem.W PySem.Calls PyProof.Rows
def DJ{P:Params}{h:A2y}:∀(c:U Int) (d:U F),WellAll P h d (c.map WData.int)->IntsAre d c:=by
 intro c
 induction c with
 | nil=>
   intro d w;rw[A1G]at w;cases w;exact .nil
 | cons n c e=>
   intro d w;rw[ZE]at w;cases w with
   | cons a b=>
     cases a;exact .cons _ _ (e _ b)
def LY{l:OpenLaw}{n:Nat}(t:l.most=O n){P:Params}{h:A2y}{b:U WData}{e:U F}
 (f:l.row.toRowW.claim.pre b=aC) (m:WellAll P h e b):
 ∃ a p c,e=[Value.ref a]/\b=[WData.list (c.map WData.int)]/\h.get? a=O {cls := .type "list",data := .seq p.toArray}/\IntsAre p c/\c.length<=n:=by
 have o:WShape.hasAll [] b [.list .int]=aC:=(pre_splitW f).1;have s:l.pre.holds [] {args:=b}=aC:=(pre_splitW f).2;obtain⟨d,r,rfl,u,v⟩:=hasAllW_cons o;obtain rfl:=hasAllW_nil v;obtain⟨y,rfl,w⟩:=hasW_list u;obtain⟨c,rfl⟩:=items_int w
 have g:c.length<=n:=by
  unfold OpenLaw.pre at s
  have j:(WTm.not (.lt (.lit (.int (n:Int))) (.len (.arg 0)))).holds [] {args:=[.list (c.map .int)]}=aC:=by
   have j:=(holds_andW s).1;rw[t]at j;exact j
  have k:=condW_of j (w_not (w_lt w_lit (w_len_list (w_arg J))));rw[YY]at k;refine Nat.le_of_not_lt λq=>?_;have x:(n:Int)<((c.length:Nat):Int):=by lia
  first
   | (rw[decide_eq_true x]at k;exact absurd k (by decide))
   | (simp at k;lia)
 cases m with
 | cons w1 w2=>
   cases w2;cases w1 with
   | list ho i=>exact⟨_,_,c,J,J,ho,DJ c _ i,g⟩
def LZ(l:OpenLaw)(a:U WData):l.row.toRowW.claim.post a (.bool aC) a=aC:=
 postW_of (r:=l.row.toRowW) (X:=(aC == aC))
  (show WShape.has [] (.bool aC) .bool=aC by first | rfl | decide | simp[WShape.has,WShape.arms,WShape.armsAll])
  (show(WTm.eq .res (.lit (.bool aC))).value [] {args:=a,res:=O (.bool aC),after:=a}=O (.bool (aC == aC)) from w_eq_bool (w_res J) w_lit) J
def attach_call{l:OpenLaw}{n:Nat}{q:A2r}{c:U Str}{D:(Str->Option F)->A2y->Prop}{E:A2u->A2y->Prop}{d:DefRec}
 (M:l.most=O n) (x:d.params.defaults=[])
 (call:∀(w:A2u) (e b:A2m) (s y:Str->Option F) (j:A2n) (o:Obj) (z t g:F) (a:A2n) (i:U F) (u:U Int),
   Ground q c [] D w e s y b.heap->E w b.heap->
   b.heap.get? j=O o->o.data = .func (docDef d.name d.params d.body d.scope z t g)->b.heap.CodeRec t d.name->s d.name=O (.ref j)->
   b.heap.get? a=O {cls := .type "list",data := .seq i.toArray}->IntsAre i u->u.length<=n->b.gens=#[]->
   codeAny (A2q l.prog w) callerA (.call (.ref j) ⟨[.ref a],[]⟩) (λr v=>r = .ok (.ret (.bool aC))/\OldK b.heap v.heap/\v.os=b.os/\AllBare v.gens) b):
 WalkO q c D E l.row.toRowW d [] (λf i=>PySem.call f i):=by intro w e b s y G Y j o z t g N kV P Q A H B R I K as k L S C T;obtain rfl:N = .none:=Dflts.none H x;obtain rfl:kV = .none:=Dflts.noKw H;obtain⟨a,i,u,rfl,rfl,m,h,p⟩:=LY M k C;refine enter_call (A3D (call w e b s y j o z t g a i u G Y P (fd_plain Q) A B m h p R) λr v V=>?_);obtain⟨rfl,W,X,h4⟩:=V;exact⟨.inl ⟨.bool aC,.bool aC,[],J,λ_=>rfl,.bool aC,LZ l _,λ_=>⟨List.Pairwise.nil,λ_ hm=>(nomatch hm)⟩⟩,W,X,h4⟩
end Att
namespace L2
open PySem PySem.Spec PyProof.Rows
theorem Ez:∀{a:U F} {b:U Int},IntsAre a b->Vals (b.map V.int) a
 | _,_,.nil => .nil
 | _,_,.cons n t h => .cons ⟨t,J⟩ (Ez h)
def RD(H:Hp):Prop:=∀ b,H b=aB\/∃ o xs,H b=O (.frz o (.lst xs))
theorem NV{P:A2r}{w:A2u}{K:YZ}{y W:Str->Option A2k}{CX:CXT}{k:Nat}{X a:Y}{fd:A35}{x:Str}{sp:Sp}{c:A2m}{p:U A2k}{A:U Int}
 (KX:K.In c.heap) (B:c.heap.Ns A2t y) (f:c.heap.Ns A3E W) (a0:∀ x:Str,x≠"__name__"->W x=A2v x) (C:c.heap.NoLimit) (a1:BmAt y c.heap) (hg:c.gens=#[])
 (D:c.heap.get? a=O {cls := .type "list",data := .seq p.toArray}) (hi:IntsAre p A) (hl:A.length<=A2s) (hr:Room k callerA)
 (F:∀ g:A2y,K.In g->g.Ns A2t y->FnOk P w K y g CX k X fd [x] sp) (t:∀(s:A2m) (u:A2k),BindsTo s fd ⟨[u],[]⟩ [(x,u)])
 (a2:∀ H:Hp,RD H->SqL K H a (A.map V.int)->sp [.ref a] H (λv _=>v = .bl aC) λ_ _ _=>False)
 (a3:∀ H e i,CX [] H c (λ_ _ _=>False) e i->False):
 codeAny (A2q P w) callerA (.call (.ref X) ⟨[.ref a],[]⟩) (λr i=>r = .ok (.ret (.bool aC))/\OldK c.heap i.heap/\i.os=c.os/\AllBare i.gens) c:=by
 have rv:=Ez hi;have E:=hi.length
 have l:∀ H:Hp,RD H->SqL K H a (A.map V.int)->HOk P w H c.heap->(∀ b,H b≠aB->b=a)->(H a≠aB->K.lookup a=aB)->
  codeAny (A2q P w) callerA (.call (.ref X) ⟨[.ref a],[]⟩) (λr i=>r = .ok (.ret (.bool aC))/\OldK c.heap i.heap/\i.os=c.os/\AllBare i.gens) c:=by
  intro H hO hS G hA hK;have v6:∀{b:Y} {o:Obj},c.heap.get? b=O o->H b=aB->(FT c.heap H).get? b=O o:=λe n=>N6 e n
  have a4:∀{b:Y} {o:Obj} {I:Array A3v} {L:Nat},c.heap.get? b=O o->o.data = .dict I L->H b=aB:=λ{b o I L} e d=>by
   cases q:H b with
   | none=>rfl
   | some u=>
     have M:b=a:=hA b (by rw[q];simp);subst M;rw[D]at e;cases e;have d':Data.seq p.toArray _=Data.dict I L:=d;cases d'
  have j:∀{b:Y} {m:Str->Option A2k},c.heap.Ns b m->(FT c.heap H).Ns b m:=λ{b m} ⟨o,I,L,e,d,r⟩=>⟨o,I,L,v6 e (a4 e d),d,r⟩
  have N:K.In (FT c.heap H):=λb o e=>v6 (KX b o e) (by
   cases q:H b with
   | none=>rfl
   | some u=>
     have M:b=a:=hA b (by rw[q];simp);subst M;rw[hK (by rw[q];simp)]at e;cases e)
  have hM:Mod K y (FT c.heap H):=⟨N,j B,⟨W,j f,a0⟩,let ⟨mc,h1,h2⟩:=C;⟨mc,j h1,h2⟩,let ⟨T,ob,b1,b2,b3,b4,b5,b6⟩:=a1;⟨T,ob,b1,b2,v6 b3 (by
   cases q:H T with
   | none=>rfl
   | some u=>
     have M:T=a:=hA T (by rw[q];simp);rw[M,D]at b3;cases b3;exact absurd b4 (by simp)),b4,b5,b6⟩⟩
  have e0:Env0 P w K y (FT c.heap H) callerA [] c H:=⟨J,hM,λb o e=>Qq e,Nat.le_of_eq (LL _ _),trivial,λb f=>absurd (show b∈([]:U Y) from f) (by simp),G,.of_eq hg⟩
  refine A3D ((F _ N (j B)).run callerA [] c H ⟨[.ref a],[]⟩ [.ref a] [.ref a] _ _ hr e0 (t c (.ref a)) (.cons J .nil) (a2 H hO hS)) λr i h=>?_;cases r with
  | error e=>exact(a3 H e i h).elim
  | ok fl=>
    cases fl with
    | next=>exact False.elim h
    | brk=>exact False.elim h
    | cont=>exact False.elim h
    | ret u=>
      obtain⟨v,H',os,Q,un,R,r',q⟩:=h;have q':v = .bl aC:=q;subst q';obtain rfl:u=Value.bool aC:=r';refine⟨J,OldK.of_keep λb o e=>?_,os,Q⟩;cases q:H b with
      | none=>exact un.keep b o e q (by intro z;exact absurd (show b∈([]:U Y) from z) (by simp)) (by simp)
      | some u=>
        rcases hO b with z | ⟨ob,xs,z⟩
        ·rw[q]at z;cases z
        ·have z2:=un.frzs b ob _ z;obtain⟨e1,_⟩:=G b _ z;obtain⟨e2,_⟩:=R b _ z2;rw[e]at e1;cases e1;exact e2
 cases hk:K.lookup a with
 | some o=>
   have e:=KX a o hk;rw[D]at e;cases e;refine l (λ_=>aB) (λ_ => .inl J) (.inr ⟨_,p.toArray,_,hk,J,J,J,by rw[Yl,E];exact hl,by simpa using rv⟩) (λb u z=>by have S:(none:Option HO)=O u:=z;cases S) (λb z=>absurd J z) λz=>absurd J z
 | none=>
   refine l (λb=>if b=a then O (.frz {cls := .type "list",data := .seq p.toArray} (.lst (A.map V.int))) else aB) (λb=>?_) (.inl (.inr ⟨{cls := .type "list",data := .seq p.toArray},iP J⟩)) (λb u z=>?_) (λb z=>?_) λ_=>hk
   ·by_cases f:b=a
    ·exact .inr ⟨_,_,iP f⟩
    ·exact .inl (iG f)
   ·by_cases f:b=a
    ·have S:=(iP f).symm.trans z;cases S;subst f;exact⟨D,by rw[YY];exact hl,p,_,rv,D⟩
    ·have S:=(iG f).symm.trans z;cases S
   ·by_cases f:b=a
    ·exact f
    ·exact absurd (iG f) z
def walk_of{l:PySem.W.OpenLaw}{n k:Nat}{q:A2r}{j:U Str}{R:(Str->Option A2k)->A2y->Prop}{M:A2u->A2y->Prop}{d:DefRec}{K:Params->YZ}{CX:A2u->CXT}{sp:A2u->Sp}{x:Str}
 (S:l.most=O n) (A:n<=A2s) (B:d.params.defaults=[]) (X:Room k callerA)
 (hY:∀(w:A2u) (h:A2y),M w h->(K w.params).In h)
 (F:∀(w:A2u) (p:Str->Option A2k) (y:A2n) (h:A2y),(K w.params).In h->h.Ns A2t p->p d.name=O (.ref y)->
   ∃ C:A35,(∀(s:A2m) (u:A2k),BindsTo s C ⟨[u],[]⟩ [(x,u)])/\
    ∀ c:A2y,(K w.params).In c->c.Ns A2t p->FnOk l.prog w (K w.params) p c (CX w) k y C [x] (sp w))
 (D:∀(w:A2u) (H:Hp) (a:A2n) (z:U Int),z.length<=n->RD H->SqL (K w.params) H a (z.map V.int)->sp w [.ref a] H (λv _=>v = .bl aC) λ_ _ _=>False)
 (E:∀(w:A2u) (H:Hp) (s:A2m) (e:A2k) (I:A2m),CX w [] H s (λ_ _ _=>False) e I->False):
 PySem.W.WalkO q j R M l.row.toRowW d [] (λf N=>PySem.call f N):=by refine Att.attach_call S B λw P r p mb y o pm cd a0 a N z G Y ho hd a1 L t m i hg=>?_;have Q:=hY w _ Y;obtain⟨C,hb,hF⟩:=F w p y _ Q G.T.g L;exact NV Q G.T.g G.T.b G.T.builtins G.T.nolimit G.T.bmain hg t m (Z6 i A) X hF hb (λH hO hS=>D w H a z i hO hS) λH e I=>E w H r e I
def defArgs(s:A2V):Arguments:=match s with
 | .FunctionDef _ a _ _ _ _ _ _ _ _=>a
 | _=>{posonlyargs:=[],args:=[],vararg:=aB,kwonlyargs:=[],kw_defaults:=[],kwarg:=aB,defaults:=[]}
def defBody(s:A2V):U A2V:=match s with
 | .FunctionDef _ _ b _ _ _ _ _ _ _=>b
 | _=>[]
def defScope(s:A2V):A2D:=match s with
 | .FunctionDef _ _ _ _ _ _ a _ _ _=>a
 | _=>{kind := .function,names:=[],isGenerator:=aD,isCoroutine:=aD}
abbrev CX0:CXT:=λ_ _ _ _ _ _=>False
abbrev E0:XK:=λ_ _ _=>False
def Wn{X:Cx}:IR CX0 X E0:=λ_ _ _ _ _ _ _ h=>h.elim
structure Fun(K:YZ)(x qual:Str)(st:A2V)(f:Y)(fd:A35):Prop where
 ex:∃(oc:F) (od:Option Y) (kV doc pm:F) (an:Option Y) (cdv ct:F) (osl:Array (Option F)),
  fd=PySem.W.fnOf x qual (defArgs st) (defBody st) (defScope st) .none kV doc pm an cdv ct/\K.lookup f=O ⟨oc,od,.func fd,osl⟩/\PySem.W.codeIn K cdv qual=aC
 kp:PySem.W.keepIn K (.ref f)=aC
section
variable{P:A2r}{w:A2u}{K:YZ}{mg:Str->Option F}{base:A2y}
def Fun.binds{x a:Str}{d:A2V}{f:Y}{k:A35}{ps:U Str}(F:Fun K x a d f k)
 (h:∀(kV b e:A2k) (g:Option Y) (c i:A2k) (j:U A2k),j.length=ps.length->bindArgs (PySem.W.fnOf x a (defArgs d) (defBody d) (defScope d) .none kV b e g c i) ⟨j,[]⟩=pure (ps.zip j)):Binds K k ps []:=by obtain⟨n,o,kV,b,e,g,c,i,l,rfl,p,m⟩:=F.ex;exact .all (h kV b e g c i)
def IY{x a:Str}{st:A2V}{f:Y}{j:F}{m g:Option Y}{e:Array (Option F)}{kV d h b i:F}(l:K.lookup f=O ⟨j,m,.func (PySem.W.fnOf x a (defArgs st) (defBody st) (defScope st) .none kV d h g b i),e⟩)
 (c:PySem.W.codeIn K b a=aC) (k:PySem.W.keepIn K (.ref f)=aC):Fun K x a st f (PySem.W.fnOf x a (defArgs st) (defBody st) (defScope st) .none kV d h g b i):=⟨⟨j,m,kV,d,h,g,b,i,e,J,l,c⟩,k⟩
end
def La{n:Nat}(h:n<=1000):n<A2s:=Zz h (by decide)
section
variable{X:Cx}
def pv(i:Nat){x:Str}{a:Pos}(c:X.N[i]?=O x:=by rfl)(d:Vis X.env.scope x:=by first | exact Or.inl J | exact Or.inr (Or.inl J) | exact Or.inr (Or.inr J))(e:(x == ("__debug__":Str))=aD:=by decide)
 (b:(x == ("__classdict__":Str))=aD:=by decide):PE X (.Name x a) (N7 i):=N8 c d e b
end
end L2
set_option maxHeartbeats 4000000
namespace L2
open PySem PySem.Spec PyProof.Rows
def AJ(env:Env):U (Str×A2W)->U (Str×Y)->U (Str×Y)
 | [],a=>a
 | (n,k)::r,a=>if k == .free then AJ env r ((n,(env.cells.lookup n).getD 0)::a) else AJ env r a
def Cs{d:Env}{b:A2D}(h:∀ x∈b.names,x.2 = .free->∃ c,d.cells.lookup x.1=O c):closureFor b d=pure (AJ d b.names []):=by
 unfold closureFor
 have o:∀(a:U (Str×A2W)) (e:U (Str×Y)),(∀ x∈a,x.2 = .free->∃ c,d.cells.lookup x.1=O c)->
  (forIn a e λx r=>match x with
    | (name,f)=>if (f == NameKind.free)=aC then do let __do_lift <- cellOf d name;pure (ForInStep.yield ((name,__do_lift)::r)) else pure (ForInStep.yield r):Sem (U (Str×Y)))=pure (AJ d a e):=by
  intro a
  induction a with
  | nil=>intro e _;rfl
  | cons x r i=>
    intro e j;obtain⟨n,k⟩:=x;rw[A0x];have l:=λy p=>j y (Yh _ p);by_cases m:k = .free
    ·subst m;obtain⟨c,q⟩:=j (n,.free) Yi J;have g:d.cells.lookup n=O c:=q;unfold AJ;simp only[beq_self_eq_true,if_true,cellOf,g,A14,pure_bind];exact i _ l
    ·have s:(k == NameKind.free)=aD:=by simpa using m
     unfold AJ;simp only[s,ZR,if_false,pure_bind];exact i _ l
 have:=o b.names [] h;simp only[this]
 first | rfl | simp
theorem Ct{env:Env}:∀(a:U (Str×A2W)) (b:U (Str×Y)),(∀ x∈a,x.2 = .free->∃ c,env.cells.lookup x.1=O c)->(∀ p∈b,env.cells.lookup p.1=O p.2)->
 ∀ p∈AJ env a b,env.cells.lookup p.1=O p.2
 | [],_,_,e,p,d=>e p d
 | (n,k)::r,b,h,e,p,d=>by
   unfold AJ at d;have j:=λy l=>h y (Yh _ l);split at d
   ·rename_i f;have f:k = .free:=by simpa using f
    obtain⟨c,m⟩:=h (n,k) Yi f;have g:env.cells.lookup n=O c:=m;refine Ct r _ j (λq i=>?_) p d;rcases Yp.mp i with rfl | i
    ·show env.cells.lookup n=O ((env.cells.lookup n).getD 0);rw[g];rfl
    ·exact e q i
   ·exact Ct r b j e p d
theorem Cu{d:Env}:∀(b:U (Str×A2W)) (a:U (Str×Y)),∀ p∈a,p∈AJ d b a
 | [],_,_,c=>c
 | (n,k)::r,a,p,c=>by
   unfold AJ;split
   ·exact Cu r _ p (Yh _ c)
   ·exact Cu r a p c
theorem Cv{env:Env}:∀(a:U (Str×A2W)) (b:U (Str×Y)) (n:Str),(n,NameKind.free)∈a->∃ c,(n,c)∈AJ env a b
 | (m,k)::r,b,n,d=>by
   unfold AJ;rcases Yp.mp d with e | d
   ·cases e;simp only[beq_self_eq_true,if_true];exact⟨_,Cu r _ _ Yi⟩
   ·split
    ·exact Cv r _ n d
    ·exact Cv r _ n d
theorem Be{env:Env}:∀(a:U (Str×A2W)) (b:U (Str×Y)),∀ p∈AJ env a b,p∈b\/(p.1,NameKind.free)∈a
 | [],_,_,c => .inl c
 | (n,k)::r,b,p,c=>by
   unfold AJ at c;split at c
   ·rename_i d;have d:k = .free:=by simpa using d
    subst d;rcases Be r _ p c with z | z
    ·rcases Yp.mp z with rfl | z
     ·exact .inr Yi
     ·exact .inl z
    ·exact .inr (Yh _ z)
   ·rcases Be r _ p c with z | z
    ·exact .inl z
    ·exact .inr (Yh _ z)
theorem AO:∀(a:U (Str×A2W)) (n:Nat) (b:U (Str×Y)),∀ p∈A2Y n a b,p∈b\/(n<=p.2/\(p.1,NameKind.cell)∈a)
 | [],_,_,_,c => .inl c
 | (x,k)::r,n,b,p,c=>by
   unfold A2Y at c;split at c
   ·rename_i d;have d:k = .cell:=by simpa using d
    subst d;rcases AO r (n+1) _ p c with z | ⟨z,w⟩
    ·rcases Yp.mp z with rfl | z
     ·exact .inr ⟨Ym _,Yi⟩
     ·exact .inl z
    ·exact .inr ⟨Nat.le_of_succ_le z,Yh _ w⟩
   ·rcases AO r n b p c with z | ⟨z,w⟩
    ·exact .inl z
    ·exact .inr ⟨z,Yh _ w⟩
theorem AQ:∀(a:U (Str×A2W)) (n:Nat) (b:U (Str×Y)),∀ p∈b,p∈A2Y n a b
 | [],_,_,_,c=>c
 | (x,k)::r,n,b,p,c=>by
   unfold A2Y;split
   ·exact AQ r _ _ p (Yh _ c)
   ·exact AQ r _ _ p c
theorem B3:∀(a:U (Str×A2W)) (n:Nat) (b:U (Str×Y)) (x:Str),(x,NameKind.cell)∈a->∃ c,(x,c)∈A2Y n a b
 | (y,k)::r,n,b,x,d=>by
   unfold A2Y;rcases Yp.mp d with e | d
   ·cases e;simp only[beq_self_eq_true,if_true];exact⟨_,AQ r _ _ _ Yi⟩
   ·split
    ·exact B3 r _ _ x d
    ·exact B3 r _ _ x d
theorem B4:∀(a:U (Str×A2W)) (h:A2y) (b:U (Str×Y)),∀ p∈A2Y h.objs.size a b,p∈b\/(A4M h a).IsCell p.2 aB
 | [],_,_,_,c => .inl c
 | (x,k)::r,h,b,p,c=>by
   unfold A2Y at c;unfold A4M;split at c
   ·rename_i d;rw[iP d];have:=B4 r (h.push {cls := .type "cell",data := .cell aB}) ((x,h.objs.size)::b) p (by rw[ZN];exact c);rcases this with z | z
    ·rcases Yp.mp z with rfl | z
     ·exact .inr ⟨_,A44 _ _ _ _ (Yn _ J),J⟩
     ·exact .inl z
    ·exact .inr z
   ·rename_i d;rw[iG d];exact B4 r h b p c
theorem AX:∀(b:U (Str×A2W)) (n:Nat) (a:U (Str×Y)),(a.Pairwise λx y=>x.2≠y.2)->(∀ p∈a,p.2<n)->(A2Y n b a).Pairwise λx y=>x.2≠y.2
 | [],_,_,h,_=>h
 | (x,k)::r,n,a,h,c=>by
   unfold A2Y;split
   ·refine AX r (n+1) _ (A09.mpr ⟨λy f e=>?_,h⟩) λp d=>?_
    ·have g:=c y f;have i:n=y.2:=e;exact absurd g (by rw[<-i];exact A07 _)
    ·rcases Yp.mp d with rfl | d
     ·exact A15 _
     ·exact A0f (c p d)
   ·exact AX r n a h c
theorem Bf{a:Env}(inj:∀ x y c,a.cells.lookup x=O c->a.cells.lookup y=O c->x=y):∀(b:U (Str×A2W)) (d:U (Str×Y)),(b.map (·.1)).Nodup->
 (∀ x∈b,x.2 = .free->∃ c,a.cells.lookup x.1=O c)->(d.Pairwise λx y=>x.2≠y.2)->(∀ p∈d,a.cells.lookup p.1=O p.2/\p.1∉b.map (·.1))->(AJ a b d).Pairwise λx y=>x.2≠y.2
 | [],_,_,_,h,_=>h
 | (n,k)::r,d,u,o,h,j=>by
   unfold AJ;have f:=ZP.mp u;have s:=λy l=>o y (Yh _ l);split
   ·rename_i m;have m:k = .free:=by simpa using m
    obtain⟨c,v⟩:=o (n,k) Yi m;have g:a.cells.lookup n=O c:=v;refine Bf inj r _ f.2 s (A09.mpr ⟨λy l e=>?_,h⟩) λp i=>?_
    ·have t:(a.cells.lookup n).getD 0=y.2:=e;rw[g]at t;have w:c=y.2:=t;have q:=(j y l).1;have:=inj n y.1 c g (by rw[w];exact q);exact(j y l).2 (by rw[<-this];exact Yi)
    ·rcases Yp.mp i with rfl | i
     ·refine⟨?_,f.1⟩;show a.cells.lookup n=O ((a.cells.lookup n).getD 0);rw[g];rfl
     ·exact⟨(j p i).1,λz=>(j p i).2 (Yh _ z)⟩
   ·exact Bf inj r d f.2 s h λp i=>⟨(j p i).1,λz=>(j p i).2 (Yh _ z)⟩
theorem Ag{env:Env}:∀(a:U (Str×A2W)) (x:Str),
 (a.map λ(n,k)=>if (k == NameKind.free&&env.scope.kind == .function&&env.kindOf n == O .cell) then (n,NameKind.cell) else (n,k)).lookup x=
   (a.lookup x).map λk=>if (k == NameKind.free&&env.scope.kind == .function&&env.kindOf x == O .cell) then NameKind.cell else k
 | [],x=>rfl
 | (n,k)::r,x=>by
   have c:=Ag (env:=env) r x;rw[ZE];show A1m x ((if (k == NameKind.free&&env.scope.kind == .function&&env.kindOf n == O .cell)=aC then (n,NameKind.cell) else (n,k))::_)=_;split
   ·rename_i b;rw[Zr,Zr];cases hx:x == n with
    | false=>exact c
    | true=>
      have e:x=n:=by simpa using hx
      subst e;simp only[A0e];rw[iP b]
   ·rename_i b;rw[Zr,Zr];cases hx:x == n with
    | false=>exact c
    | true=>
      have e:x=n:=by simpa using hx
      subst e;simp only[A0e];rw[iG b]
theorem y6{b:Type}:∀{l:U (Str×b)} {n:Str} {c:b},(l.map (·.1)).Nodup->(n,c)∈l->l.lookup n=O c
 | (k,v)::r,n,c,d,h=>by
   have a:=ZP.mp d;rw[Zr];rcases Yp.mp h with e | h2
   ·cases e;simp
   ·cases hb:n == k with
    | true=>
      have e:n=k:=by simpa using hb
      exact absurd (Z2.mpr ⟨(n,c),h2,e⟩:k∈r.map (·.1)) a.1
    | false=>exact y6 a.2 h2
theorem CB{a:Type}:∀{l:U (Str×a)} {n:Str} {c:a},(n,c)∈l->∃ d,l.lookup n=O d
 | (k,v)::r,n,c,h=>by
   rw[Zr];cases hb:n == k with
   | true=>exact⟨v,J⟩
   | false=>
     rcases Yp.mp h with e | h
     ·cases e;simp at hb
     ·exact CB h
noncomputable abbrev w5(X:Cx)(a:A2D)(b:U Str)(c:A2m)(d:Hp)(cs:U (Str×Y))(C:Y)(e:U Y):Cx where
 prog:=X.prog
 w:=X.w
 K:=X.K
 mg:=X.mg
 base:=X.base
 A:=X.A
 N:=b
 s₀:=c
 H₀:=d
 env:=A3T a cs C X.env
 outer:=X.stack
 stack:=X.stack
 ex:=e
 fn:=λx=>a.names.lookup x == O .cell
 calm:=X.calm
 pn:=X.pn
 xe:=λ_ _=>False
def AB(b a:A2D)(own c N:U Str)(js:U Nat):Bool:=
 (decide (a.kind = .function))&&(a.names.all λx=>!decide (x.2 = .free)||decide (b.names.lookup x.1=O .cell)||decide (b.names.lookup x.1=O .free))
 && decide ((a.names.map (·.1)).Nodup)&&(own.all λx=>decide (a.names.lookup x=O .local)||decide (a.names.lookup x=O .cell))&&(c.all λx=>decide (a.names.lookup x=O .free))
 && decide ((own++c).Nodup)&&decide (js.map (λj=>N[j]?)=c.map O)
def CG(k:Nat)(js:U Nat)(a:St):St:=Yv k aB++js.map λj=>(a[j]?).join
noncomputable def DZ(X:Cx)(b:U A2p)(t:TT):Prop:=
 ∀(a:U (Y×Obj)) (s:A2m) (d:St) (H:Hp) (Q:Bool->Hp->Prop),Inv X a d H s->t d H Q->
  A2o (A2q X.prog X.w) X.A (forIn b aC λc r=>if r=aC then do let e <- isTrue c X.env (eval c X.env);pure (ForInStep.yield e) else pure (ForInStep.yield r)) (TP X a d Q) X.xe s
def NW{X:Cx}:DZ X [] (λ_ H Q=>Q aC H):=λ_ _ _ H _ I h=>wpAny_tests_nil ⟨H,I,h⟩
def NX{X:Cx}{c:A2p}{t:TT}(h:PT X c t):DZ X [c] t:=λa s b H Q I d=>wpAny_tests_one (h a s b H Q I d)
def NY{M:Model}{A:A2w}{E:F->A2m->Prop}{s:A2m}{a:A2D}{b:Env}{e:U (Str×Y)}{Q:Env->A2m->Prop}
 (h:Q (newEnv a s.heap.objs.size b.globals (A2Y (s.heap.objs.size+1) a.names e) b.qual aB .none (O b) A3E) {s with heap:=A4M (s.heap.push {cls := .type "dict",data := .dict #[]}) a.names}):
 A2o M A (A4e a b.globals e [] b.qual aB .none (O b)) Q E s:=by simp only[A4e,A1A,if_true];refine Z (wpAny_alloc ?_);refine Z (wpAny_layCells _ (λname c d=>by cases hkc:c == NameKind.cell<;>simp[hkc]) _ _ _ _ ?_);rw[show({s with heap:=s.heap.push {cls := .type "dict",data := .dict #[]}}:A2m).heap.objs.size=s.heap.objs.size+1 from ZN ..];refine Z ?_;rw[A0A];exact A2l (A2l h)
structure CForm(prog:A2r)(w:A2u)(A:A2w)(E tg iter:A2p)(ifs:List A2p)(emit:F->Env->Sem Unit)(dp:Nat:=0):Prop where
 turn:∀(it:F) (D:Y) (env:Env),compTurn E dp it (.ref D) env=(do
  standAt iter.pos
  match <- pyNext it with
  | none=>pure (.done .next)
  | some v=>
    A3o tg it v
    assign tg env v
    let mut ok:=aC
    for c in ifs do
     if ok then ok <- isTrue c env (eval c env)
    if ok then emit (.ref D) env
    again (.compLoop E dp it (.ref D) env))
 und:∀(it acc:F) (env:Env),A.under (.compLoop E dp it acc env)=A
 den:∀(it acc:F) (env:Env),(A2q prog w).den (.compLoop E dp it acc env)=(compTurn E dp it acc env).onRaise (λx=>do A4N x env;theTreesLotGoes x)
 start:∀{R:Result->A2m->Prop} {s:A2m} {it acc:F} {env:Env},codeAny (A2q prog w) A (.compLoop E dp it acc env) R s->A2o (A2q prog w) A (pyIter it) (λit' s'=>codeAny (A2q prog w) A (.compLoop E dp it' acc env) R s') (notedBy (A2q prog w) A env λx s'=>R (.error x) s') s->
  codeAny (A2q prog w) A (.compStart E dp it acc env) R s
def CForm.loop{prog:A2r}{w:A2u}{A:A2w}{E z p:A2p}{q:U A2p}{g:A2k->Env->Sem Unit}{C:Nat}(F:CForm prog w A E z p q g C){R:Result->A2m->Prop}{s:A2m}{B:A2k}{D:Y}{a:Env}(I:Nat->A2m->Prop)
 (t:∀ n s,I n s->A2o (A2q prog w) A (pyNext B) (λr b=>match r with
   | none=>R (.ok .next) b
   | some v=>A2o (A2q prog w) A (A3o z B v) (λ_ d=>A2o (A2q prog w) A (assign z a v) (λ_ i=>
      A2o (A2q prog w) A (forIn q aC λc r=>if r=aC then do let u <- isTrue c a (eval c a);pure (ForInStep.yield u) else pure (ForInStep.yield r)) (λu e=>
       if u=aC then A2o (A2q prog w) A (g (.ref D) a) (λ_ j=>∃ m,m<n/\I m j) (λ_ _=>False) e
       else ∃ m,m<n/\I m e) (λ_ _=>False) i) (λ_ _=>False) d) (λ_ _=>False) b) (λ_ _=>False) s)
 (n:Nat) (h:I n s):
 codeAny (A2q prog w) A (.compLoop E C B (.ref D) a) R s:=by
 refine codeAny_loop rfl I (λn s G=>?_) n h;rw[F.und,F.den];refine wpAny_noted ?_;rw[F.turn];refine Z (A2L (Z (A2J (t n s G) (λr b k=>?_) λ_ _ f=>False.elim f)));cases r with
 | none=>exact A2l k
 | some v=>
   refine Z (A2J k (λ_ d o=>?_) λ_ _ f=>False.elim f);refine Z (A2J o (λ_ i x=>Z (A2J x (λu e l=>?_) λ_ _ f=>False.elim f)) λ_ _ f=>False.elim f);cases u with
   | false=>exact A2l ⟨rfl,l⟩
   | true=>exact Z (A2J l (λ_ j y=>A2l ⟨rfl,y⟩) λ_ _ f=>False.elim f)
noncomputable def NZ{α:Type}(J:It)(g:TG)(k:TT)(tem:α->St->Hp->(α->Hp->Prop)->Prop)(e:St)(Q:Hp->Prop)(W:Nat->Nat->α->Hp->Prop):Prop:=
 ∀ i m a H,W i m a H->(J.stop i H/\Q H)\/(J.go i H/\∃ N:α->Hp->Prop,(∀ f c,N f c->∃ h,h<m/\W (i+1) h f c)/\∀ x c,J.yld i H x c->g x e c λd l=>k d l λb j=>if b=aC then tem a d j N else N a j)
def Na(a:A2p)(b:F)(env:Env):Sem Unit:=do
 let x <- eval a env
 let _ <- call (.builtin "list.append") [b,x]
def IZ{prog:A2r}{w:A2u}{A:A2w}{c f a:A2p}{d:U A2p}{b:A2D}{e:Pos}:CForm prog w A (.ListComp c [⟨f,a,d,0⟩] b e) f a d (Na c) where
 turn:=λ_ _ _=>compTurn_list ..
 und:=λ_ _ _=>rfl
 den:=λ_ _ _=>rfl
 start:=λg h=>A41 g h
def Wo(b:TE)(D:Y)(ys:U V)(c:St)(H:Hp)(N:U V->Hp->Prop):Prop:=b c H λv a=>a D=O (.lst ys)/\ys.length<A2s/\N (ys++[v]) (upd a D (.lst (ys++[v])))
section
variable{X:Cx}{pins:U (Y×Obj)}{σ:St}{H2:Hp}{s2:A2m}{tg elt iter:A2p}{ifs:U A2p}{scope:A2D}{pos:Pos}{own cn:U Str}{js:U Nat}{g:TG}{tt:TT}{te:TE}
theorem Gc{α:Type}{E:A2p}{b4:A2k->Env->Sem Unit}{mk:Sem A2k}{o0:Obj}{u0:HO}{a0:α}{c9:Y->α->St->Hp->(α->Hp->Prop)->Prop}(F:CForm X.prog X.w X.A E tg iter ifs b4)(g0:∀{Q:A2k->A2m->Prop},Q (.ref s2.heap.objs.size) {s2 with heap:=s2.heap.push o0}->A2o (A2q X.prog X.w) X.A mk Q X.xe s2)(g1:o0.isFreed=aD)(d0:∀(H:Hp) (h:A2y),h.get? s2.heap.objs.size=O o0->ObjOk X.prog X.w H h s2.heap.objs.size u0)(c1:AB X.env.scope scope own cn X.N js=aC)(hc:X.calm=aC)
 (hg:∀ s2 H2 f C t,PG (w5 X scope (own++cn) s2 H2 f C t) tg g) (ht:∀ s2 H2 f C t,DZ (w5 X scope (own++cn) s2 H2 f C t) ifs tt) (g2:∀ D s2 H2 f C t pins s σ H (a:α) (N:α->Hp->Prop),Inv (w5 X scope (own++cn) s2 H2 f C t) pins σ H s->c9 D a σ H N->A2o (A2q X.prog X.w) X.A (b4 (.ref D) (A3T scope f C X.env)) (λ_ s1=>∃ g3 a1 H1,Inv (w5 X scope (own++cn) s2 H2 f C t) pins g3 H1 s1/\N a1 H1) (λ_ _=>False) s)
 (B:Inv X pins σ H2 s2) {it:Y} {t:U Y} {tn:Nat->A2y->Prop} {J:It} (T:Turn X.prog X.w X.K tg J t it tn) (b3:tn 0 s2.heap) (f2:∀ b∈t,FpOk X pins H2 b)
 {Qe:Hp->Prop} (hW:∃ W:Nat->Nat->α->Hp->Prop,(∃ m,W 0 m a0 (upd H2 s2.heap.objs.size u0))/\NZ J g tt (c9 s2.heap.objs.size) (CG own.length js σ) Qe W)
 {RR:A2k->Y->Result->A2m->Prop}
 (g4:∀ C I s',Inv X pins σ I s'->FpOk X pins I C->(∃ m,s'.heap.Ns C m)->Qe I->RR (.ref s2.heap.objs.size) C (.ok .next) s'):
 A2o (A2q X.prog X.w) X.A mk (λd1 d2=>A2o (A2q X.prog X.w) X.A (A4e scope X.env.globals (AJ X.env scope.names []) [] X.env.qual aB .none (O X.env)) (λb5 d3=>
  codeAny (A2q X.prog X.w) X.A (.compStart E 0 (.ref it) d1 {b5 with scope:=relabel scope X.env}) (RR d1 b5.locals) d3) X.xe d2) X.xe s2:=by
 unfold AB at c1;simp only[Yc,dQ,ZJ,ZU,Yx,decide_eq_false_iff_not]at c1;obtain⟨⟨⟨⟨⟨⟨k1,k2⟩,k3⟩,k4⟩,k5⟩,k6⟩,k7⟩:=c1
 have R:∀ x∈scope.names,x.2 = .free->X.env.kindOf x.1=O .cell\/X.env.kindOf x.1=O .free:=λx hx hf=>by
  rcases k2 x hx with(z | z) | z
  ·exact absurd hf z
  ·exact .inl z
  ·exact .inr z
 have a5:∀ x∈scope.names,x.2 = .free->∃ c,X.env.cells.lookup x.1=O c:=λx hx hf=>B.ok.has x.1 (R x hx hf);refine g0 (NY ?_);have b6:(s2.heap.push o0).objs.size=s2.heap.objs.size+1:=ZN ..;dsimp only;generalize d4:s2.heap.push o0=h3 at b6 ⊢;have d5:∀ b o,s2.heap.get? b=O o->h3.get? b=O o:=λb o e=>d4▸Yf _ e;have g5:h3.get? s2.heap.objs.size=O o0:=d4▸Yn _ g1;generalize a6:A2Y (h3.objs.size+1) scope.names (AJ X.env scope.names [])=f;generalize c2:A4M (h3.push {cls := .type "dict",data := .dict #[]}) scope.names=h4;have b7:∀ b o,h3.get? b=O o->h4.get? b=O o:=λb o e=>c2▸A44 _ _ b o (Yf _ e);have P:∀ b o,s2.heap.get? b=O o->h4.get? b=O o:=λb o e=>b7 b o (d5 b o e);have g6:h4.get? s2.heap.objs.size=O o0:=b7 _ _ g5;have d6:h4.Ns h3.objs.size (λ_=>aB):=c2▸(Heap.Ns.new h3 (.type "dict")).keeps (A44 _ _);generalize hC:h3.objs.size=C at d6 a6 ⊢;have i2:@Eq Nat C (s2.heap.objs.size+1):=by rw[<-hC];exact b6
 have c3:=Ct (env:=X.env) scope.names [] a5 (λp hp=>absurd hp (by simp));have S:∀ x c,X.env.cells.lookup x=O c->@LT.lt Nat _ c s2.heap.objs.size:=λx c e=>by obtain⟨v,z⟩:=B.cell x c e;exact z.lt
 have c4:f.Pairwise λx y=>x.2≠y.2:=by
  rw[<-a6];refine AX _ _ _ (Bf B.ok.inj scope.names [] k3 a5 List.Pairwise.nil λp hp=>absurd hp (by simp)) λp hp=>?_;have:=S _ _ (c3 p hp);show @LT.lt Nat _ p.2 (C+1)
  lia
 have a7:∀ p∈f,X.env.cells.lookup p.1=O p.2\/(C+1<=p.2/\(p.1,NameKind.cell)∈scope.names/\h4.IsCell p.2 aB):=λp hp=>by
  have i3:=hp;rw[<-a6]at hp;rcases AO _ _ _ p hp with z | ⟨z,y⟩
  ·exact .inl (c3 p z)
  ·have e:h3.objs.size+1=(h3.push {cls := .type "dict",data := .dict #[]}).objs.size:=by rw[ZN]
   have d7:=hp;rw[<-hC,e]at d7;rcases B4 _ _ _ p d7 with q | q
   ·exact .inl (c3 p q)
   ·exact .inr ⟨z,y,c2▸q⟩
 have hX:(w5 X scope (own++cn) s2 H2 f C t).Ok:=by
  refine⟨B.ok.mod,k1,B.ok.glob,B.ok.blt,by show @LE.le Nat _ s2.heap.objs.size C;lia,λx y c h1 h2=>name_of_addr c4 (PySem.mem_of_lookup h1) (PySem.mem_of_lookup h2),λx hx=>?_,λx c hf hx=>?_,B.ok.hd,B.ok.frames,.inl rfl,λb G=>?_,B.bs,Z6 B.ok.bsz B.sz,λb o e G=>?_,λb G hf=>?_,B.stack,B.stkFree⟩
  ·have a2:(relabel scope X.env).names.lookup x=O .cell\/(relabel scope X.env).names.lookup x=O .free:=hx
   have hl:scope.names.lookup x=O .cell\/scope.names.lookup x=O .free:=by
    unfold relabel at a2;dsimp only at a2;rw[Ag]at a2;cases e:scope.names.lookup x with
    | none=>rw[e]at a2;simp at a2
    | some k=>
      rw[e]at a2;cases k<;>simp_all
   have:∃ c,(x,c)∈f:=by
    rw[<-a6];rcases hl with hl | hl
    ·exact B3 _ _ _ x (PySem.mem_of_lookup hl)
    ·obtain⟨c,c5⟩:=Cv (env:=X.env) scope.names [] x (PySem.mem_of_lookup hl);exact⟨c,AQ _ _ _ _ c5⟩
   obtain⟨c,hm⟩:=this;exact CB hm
  ·have g8:scope.names.lookup x=O .cell:=by simpa using hf
   have hm:=PySem.mem_of_lookup (show f.lookup x=O c from hx);rcases a7 _ hm with z | ⟨z,_⟩
   ·
    rw[<-a6]at hm;rcases AO _ _ _ _ hm with q | ⟨q,_⟩
    ·rcases Be (env:=X.env) scope.names [] _ q with q' | q'
     ·exact absurd q' (by simp)
     ·have:=y6 k3 q';have h2:scope.names.lookup x=O .free:=this;rw[g8]at h2;cases h2
    ·show @LE.le Nat _ s2.heap.objs.size c;have q2:@LE.le Nat _ (C+1) c:=q
     lia
   ·show @LE.le Nat _ s2.heap.objs.size c;have z2:@LE.le Nat _ (C+1) c:=z
    lia
  ·obtain⟨f0,f1,a3,f3,f4,f5⟩:=f2 b G;obtain⟨o,ho,_⟩:=T.obj 0 _ b3 b G;have i4:@LT.lt Nat _ b s2.heap.objs.size:=Yk ho;refine⟨?_,λx c e=>?_⟩
   ·show @Ne Nat b C
    lia
   ·rcases a7 _ (PySem.mem_of_lookup (show f.lookup x=O c from e)) with z | ⟨z,_⟩
    ·exact f4 x c z
    ·have z2:@LE.le Nat _ (C+1) c:=z;show @Ne Nat c b
     lia
  ·obtain⟨f0,f1,a3,f3,f4,f5⟩:=f2 b G;rcases f3 with z | z
   ·exact B.ok.noex b o e z
   ·exact absurd (Z8 (Yk e) (Z6 B.ok.bsz z)) (A07 _)
  ·obtain⟨f0,f1,a3,_⟩:=f2 b G;rcases Yp.mp (B.stkSub b hf) with z | z
   ·exact f1 z
   ·exact a3 z
 have b8:∀{H:Hp} {s:A2m},Inv X pins σ H s->∀{i:Nat} {x:Str} {v:V},(own++cn)[i]?=O x->(CG own.length js σ)[i]?=O (O v)->∃ u,RelV v u/\((A3T scope f C X.env).kindOf x=O .cell\/(A3T scope f C X.env).kindOf x=O .free)/\∃ c,f.lookup x=O c/\s.heap.IsCell c (O u):=λ{H s} IX {i x v} e1 e2=>by
  have hi:own.length<=i:=by
   rcases A2a i own.length with z | z
   ·exfalso;unfold CG at e2;rw[Yw (by simpa using z),Zq,iP z]at e2;cases e2
   ·exact z
  have d8:cn[i - own.length]?=O x:=by
   have:(own++cn)[i]?=O x:=e1;rw[ZQ hi]at this;exact this
  have a8:(js.map λj=>(σ[j]?).join)[i - own.length]?=O (O v):=by
   unfold CG at e2;rw[ZQ (by simpa using hi)]at e2;simpa using e2
  rw[Yj]at a8;cases hj:js[i - own.length]? with
  | none=>rw[hj]at a8;cases a8
  | some j=>
    rw[hj]at a8;have L:(σ[j]?).join=O v:=by simpa using a8
    have g9:σ[j]?=O (O v):=by
     cases q:σ[j]? with
     | none=>rw[q]at L;cases L
     | some z=>rw[q]at L;simp at L;rw[L]
    have h0:X.N[j]?=O x:=by
     have:=congrArg (λl=>l[i - own.length]?) k7;simp only[Yj,hj,d8,A0e]at this;exact oj this
    have c6:scope.names.lookup x=O .free:=k5 x (Yb d8);have hK:=R (x,.free) (PySem.mem_of_lookup c6) rfl;have d9:X.env.kindOf x=O .cell\/X.env.kindOf x=O .free:=hK;obtain⟨m,hn,hl⟩:=IX.loc
    have e0:Vis X.env.scope x:=by
     rcases d9 with z | z
     ·exact .inr (.inl z)
     ·exact .inr (.inr z)
    obtain⟨u,r,l⟩:=hl j x v h0 g9 e0;rcases l with⟨l1,_⟩ | ⟨l1,c,l2,l3⟩
    ·rcases d9 with z | z
     ·rw[z]at l1;cases l1
     ·rw[z]at l1;cases l1
    ·have e4:(A3T scope f C X.env).kindOf x=O .cell\/(A3T scope f C X.env).kindOf x=O .free:=by
      show(relabel scope X.env).names.lookup x=_\/(relabel scope X.env).names.lookup x=_;unfold relabel;dsimp only;rw[Ag,c6];simp only[A0e];split
      ·exact .inl rfl
      ·exact .inr rfl
     refine⟨u,r,e4,c,?_,l3⟩;obtain⟨c',c5⟩:=hX.has x e4;have e5:f.lookup x=O c':=c5;rw[e5];have hm:=PySem.mem_of_lookup e5
     have:X.env.cells.lookup x=O c':=by
      rcases a7 _ hm with z | ⟨_,z,_⟩
      ·exact z
      ·have:=y6 k3 z;have h2:scope.names.lookup x=O .cell:=this;rw[c6]at h2;cases h2
     rw[l2]at this;exact this.symm
 have h5:H2 s2.heap.objs.size=aB:=B.fresh;have h6:H2 C=aB:=B.hok.fresh (show @LE.le Nat _ s2.heap.objs.size C by lia)
 have b0:∀ b,b≠X.env.locals->b∉X.fs->b∉frs X.stack:=λb h1 h2 G=>by
  rcases Yp.mp (B.stkSub b G) with z | z
  ·exact h1 z
  ·exact h2 z
 have I4:Inv (w5 X scope (own++cn) s2 H2 f C t) pins (CG own.length js σ) (upd H2 s2.heap.objs.size u0) {s2 with heap:=h4}:=by
  refine⟨hX,rfl,B.bare,Un.laid P (Ym _) h5,⟨λ_=>aB,d6,λi x v e1 e2 e3=>?_⟩,λx c e=>?_,?_,λx c e=>?_,λp hp=>?_,B.hok.laid P (Ym _) (d0 _ _ g6),?_⟩
  ·obtain⟨u,r,hr,c,l2,l3⟩:=b8 B e1 e2;exact⟨u,r,.inr ⟨hr,c,l2,l3.keeps λb o e=>P b o e⟩⟩
  ·rcases a7 _ (PySem.mem_of_lookup (show f.lookup x=O c from e)) with z | ⟨_,_,z⟩
   ·obtain⟨v,q⟩:=B.cell _ _ z;exact⟨v,q.keeps λb o e=>P b o e⟩
   ·exact⟨aB,z⟩
  ·show upd H2 s2.heap.objs.size u0 C=aB;rw[g7 (show @Ne Nat C s2.heap.objs.size by lia)];exact h6
  ·have e6:c≠s2.heap.objs.size/\H2 c=aB:=by
    rcases a7 _ (PySem.mem_of_lookup (show f.lookup x=O c from e)) with z | ⟨z,_,_⟩
    ·exact⟨Ys (S _ _ z),B.freeC _ _ z⟩
    ·have z2:@LE.le Nat _ (C+1) c:=z;exact⟨show @Ne Nat c s2.heap.objs.size by lia,B.hok.fresh (show @LE.le Nat _ s2.heap.objs.size c by lia)⟩
   rw[g7 e6.1];exact e6.2
  ·obtain⟨e,n,ne,nf,d⟩:=B.pin p hp;have h7:@LT.lt Nat _ p.1 s2.heap.objs.size:=Yk e;refine⟨P _ _ e,?_,?_,b0 _ ne nf,d⟩
   ·rw[g7 (Ys h7)];exact n
   ·show @Ne Nat p.1 C
    lia
  ·show(CG own.length js σ).length=(own++cn).length;unfold CG;have hl:=congrArg A1S k7;simp only[YY]at hl;simp[hl]
 have b1:∀{I:Hp},(∀ b∈t,I b=aB)->∀ b∈t,FpOk (w5 X scope (own++cn) s2 H2 f C t) pins I b:=λhn b G=>by
  obtain⟨f0,f1,a3,f3,f4,f5⟩:=f2 b G;exact⟨hn b G,(hX.exf b G).1,b0 b f1 a3,.inl G,λx c e=>(hX.exf b G).2 x c e,f5⟩
 have b9:∀{e7:St} {I:Hp} {s':A2m},Inv (w5 X scope (own++cn) s2 H2 f C t) pins e7 I s'->Inv X pins σ I s':=λ{e7 I s'} J'=>
  B.call' (ch:=t) J'.os J'.base J'.hok J'.bare λb G=>by
   obtain⟨f0,f1,a3,f3,f4,f5⟩:=f2 b G;exact⟨f3,f1,f4,f5⟩
 obtain⟨W,⟨m0,w0⟩,e8⟩:=hW
 have loop:codeAny (A2q X.prog X.w) X.A (.compLoop E 0 (.ref it) (.ref s2.heap.objs.size) (A3T scope f C X.env)) (RR (.ref s2.heap.objs.size) C) {s2 with heap:=h4}:=by
  refine F.loop (λn s'=>∃ i ys I,Inv (w5 X scope (own++cn) s2 H2 f C t) pins (CG own.length js σ) I s'/\tn i s'.heap/\(∀ b∈t,I b=aB)/\W i n ys I) ?_ m0
   ⟨0,a0,_,I4,T.keep _ _ _ b3 λb G o e=>P b o e,λb G=>?_,w0⟩
  ·rintro n s3 ⟨i,ys,H3,I3,e9,f6,w3⟩;rcases e8 i n ys H3 w3 with⟨f7,q⟩ | ⟨go,N,hN,f8⟩
   ·refine thn (T.done (w5 X scope (own++cn) s2 H2 f C t) rfl rfl rfl hc i pins s3 _ H3 _ I3 (b1 f6) e9 f7) λr s4 ⟨hr,I5⟩=>?_;subst hr;obtain⟨m,hn,_⟩:=I5.loc;exact g4 C H3 s4 (b9 I5) (B.fpOk (show @LE.le Nat _ s2.heap.objs.size C by lia) I5.free) ⟨m,hn⟩ q
   ·refine thn (T.item (w5 X scope (own++cn) s2 H2 f C t) rfl rfl rfl hc i pins s3 _ H3 _ I3 (b1 f6) e9 go) λr s4 ⟨u,hr,h8⟩=>?_;subst hr;refine thn h8 λ_ s5 hz=>?_;obtain⟨x,H5,I5,r5,y5,c7,h9⟩:=hz;have i0:=I5.pinned (b1 h9) (T.obj _ _ c7);refine thn (hg s2 H2 f C t _ s5 _ H5 x u _ i0 r5 (f8 x H5 y5)) λ_ s6 hz=>?_;obtain⟨f9,H6,I6,q6⟩:=hz;refine thn (ht s2 H2 f C t _ s6 f9 H6 _ I6 q6) λb s7 ⟨H7,I7,q7⟩=>?_
    have b2:∀{a4:St} {H8:Hp} {s8:A2m} {c8:α},Inv (w5 X scope (own++cn) s2 H2 f C t) (pins++Bc t s5.heap) a4 H8 s8->(∀(j:Nat) v,(CG own.length js σ)[j]?=O (O v)->a4[j]?=O (O v))->(∃ m',m'<n/\W (i+1) m' c8 H8)->
     ∃ m,m<n/\∃ i ys I,Inv (w5 X scope (own++cn) s2 H2 f C t) pins (CG own.length js σ) I s8/\tn i s8.heap/\(∀ b∈t,I b=aB)/\W i m ys I:=λ{a4 H8 s8 c8} M i1 ⟨m',hm,w8⟩=>by
     refine⟨m',hm,i+1,c8,H8,M.unpinned.weak (by rw[M.len,I4.len]) i1,T.keep _ _ _ c7 λb G o e=>(M.pin (b,o) (ZF _ (ZF _ (AL G e)))).1,λb G=>?_,w8⟩;obtain⟨o,e,d⟩:=T.obj _ _ c7 b G;exact(M.pin (b,o) (ZF _ (ZF _ (AL G e)))).2.1
    have c0:∀{a4:St} {H8:Hp} {s8:A2m},Inv (w5 X scope (own++cn) s2 H2 f C t) (pins++Bc t s5.heap) a4 H8 s8->Inv (w5 X scope (own++cn) s2 H2 f C t) (pins++Bc t s5.heap) (CG own.length js σ) H8 s8:=λ{a4 H8 s8} M=>by
     have IX:=b9 M.unpinned;refine⟨M.ok,M.os,M.bare,M.base,?_,M.cell,M.free,M.freeC,M.pin,M.hok,I4.len⟩;obtain⟨m,hn,_⟩:=M.loc;refine⟨m,hn,λi x v e1 e2 e3=>?_⟩;obtain⟨u,r,z⟩:=b8 IX e1 e2;exact⟨u,r,.inr z⟩
    cases b with
    | false=>
      rw[iG Yq];rw[iG Yq]at q7;exact b2 (c0 I7) (λ_ _ e=>e) (hN _ _ q7)
    | true=>
      rw[iP rfl];rw[iP rfl]at q7;exact thn (g2 _ s2 H2 f C t _ s7 f9 H7 _ _ I7 q7) (by rintro _ s9 ⟨i5,a9,H9,I9,q9⟩;exact b2 (c0 I9) (λ_ _ e=>e) (hN _ _ q9))
  ·obtain⟨f0,_⟩:=f2 b G;obtain⟨o,ho,_⟩:=T.obj 0 _ b3 b G;rw[g7 (Ys (Yk ho))];exact f0
 exact F.start loop (T.self _ 0 _ _ _ (T.keep _ _ _ b3 λb G o e=>P b o e) loop)
end
end L2
namespace PySem
open AutoSeq1 (wpAny_loadPart')
section
variable{prog:A2r}{w:A2u}{A:A2w}{E:F->A2m->Prop}{s:A2m}
def Ba{b l:Y}{i:Nat}{items}{x:A2k}{Q:A2k->A2m->Prop}(a:s.heap.IsTupleIter b l i)
 (h:s.heap.IsTuple l items) (j:items[i]?=O x)
 (k:∀ e,e.IsTupleIter b l (i+1)->Z7 b s.heap e->Q x {s with heap:=e}):
 A2o (A2q prog w) A (Builtin.SmallTypes.nextOf (.ref b)) Q E s:=by
 obtain⟨o,d,m,c⟩:=id a;obtain⟨n,f,_,p,g⟩:=h;unfold Builtin.SmallTypes.nextOf
 refine Z (A2B (name:=Str.ofString "__next__") a.typeIs F.slot_tuple_iterator_next
  (A2C F.slot_tuple_iterator_next a.typeIs F.entry_tuple_iterator_next ?_ (F.args_tuple_iterator_next_1 _)))
 show A2o _ _ (field (.ref b) 0 >>= _) _ _ s;refine Z (A2F d c (x := .ref l) J ?_);show A2o _ _ (if (Value.ref l == Value.none)=aC then _ else _) _ _ s;rw[iG (show ¬ ((Value.ref l == Value.none)=aC) from Yq)];show A2o _ _ (field (.ref b) 1 >>= _) _ _ s;refine Z (A2F d c (x := .int i 0) J ?_);show A2o _ _ (A4m (.ref l) >>= _) _ _ s;refine Z (A2E f g ?_);simp only[ZX,j];refine Z (A2P d c (by simp) (A2l ⟨x,J,A2l (k _ ?_ (Z7.update ..))⟩))
 exact⟨_,ZL _ d (Obj.isFreed_of_fields (Obj.data_mapFields c _)),(Obj.cls_mapFields ..).trans m,by
  rw[Obj.data_mapFields c];simp[rawInt]⟩
def Bg{c l:Y}{i:Nat}{items}{Q:A2k->A2m->Prop}(k:A.handled=aB)
 (b:s.heap.IsTupleIter c l i) (n:s.heap.IsTuple l items) (p:items[i]?=aB)
 (q:∀ d e,A1n c s.heap d->(∃ o,d.get? e=O o/\o.cls = .type "StopIteration")->E (.ref e) {s with heap:=d}):
 A2o (A2q prog w) A (Builtin.SmallTypes.nextOf (.ref c)) Q E s:=by
 obtain⟨o,f,r,g⟩:=id b;obtain⟨t,h,_,u,j⟩:=n;unfold Builtin.SmallTypes.nextOf
 refine Z (A2B (name:=Str.ofString "__next__") b.typeIs F.slot_tuple_iterator_next
  (A2C F.slot_tuple_iterator_next b.typeIs F.entry_tuple_iterator_next ?_ (F.args_tuple_iterator_next_1 _)))
 show A2o _ _ (field (.ref c) 0 >>= _) _ _ s;refine Z (A2F f g (x := .ref l) J ?_);show A2o _ _ (if (Value.ref l == Value.none)=aC then _ else _) _ _ s;rw[iG (show ¬ ((Value.ref l == Value.none)=aC) from Yq)];show A2o _ _ (field (.ref c) 1 >>= _) _ _ s;refine Z (A2F f g (x := .int i 0) J ?_);show A2o _ _ (A4m (.ref l) >>= _) _ _ s;refine Z (A2E h j ?_);simp only[ZX,p];refine Z (A2K (Z (A2P f g (by simp) ?_)))
 first
  | refine Z (A3s ?_)
  | skip
 show A2o _ _ (newExc (.type "StopIteration") [] >>= _) _ _ _;refine Z ?_;simp only[newExc,newTuple];refine Z (A2z ?_ (by size_fits));refine Z (m:=A3l _ _) (A4f (a:=Value.none) (by first | rfl | (simp only[A3l];rfl)) ?_);refine A2z ?_ (by size_fits);simp only[A55];refine Z (A4u ?_)
 first | rw[show A.in1.handled=aB from k] | rw[k]
 refine Z (A2l (A4R ?_));exact q _ _ (((Z7.update ..).extBut.push _).push _) ⟨_,Yn _ J,J⟩
end
def AY{prog:A2r}{w:A2u}{A:A2w}(n:A.handled=aB)(c l:Y)(g:l≠c)(a:Array F):
 Draws prog w A c [c,l] a.size (λi v=>a[i]?=O v) (λi h=>h.IsTupleIter c l i/\h.IsTuple l a) where
 live:=λ_ _ b=>let ⟨o,j,_⟩:=b.1;⟨o,j⟩
 frame:=λ_ _ _ b k=>⟨b.1.at λo e=>k c (by simp) o e,let ⟨o,j,r⟩:=b.2;⟨o,k l (by simp) o j,r⟩⟩
 item:=λi s Q E m b p=>by
  refine Ba b.1 b.2 (x:=a[i]) (by simp[m]) λq d f=>?_;exact p _ q s.toks (by simp[m]) ⟨d,b.2.extBut f.extBut g⟩ f
 done:=λs Q E b t=>Bg n b.1 b.2 (by simp) t
def CH(l:Y)(a:Array F)(n:Nat)(dct:Option Y)(i:Array (Option F)):
 Meets (Builtin.«enumerate.__new__» ⟨[.type "enumerate",.ref l],[]⟩) (λ_ R s=>s.heap.get? l=O {cls := .type "tuple",dict:=dct,data := .seq a n,slots:=i}/\
  R (.ok (.ret (.ref (s.heap.push {cls := .type "tuple_iterator",data := .fields #[.ref l,.int 0 0]}).objs.size)))
   {s with heap:=(s.heap.push {cls := .type "tuple_iterator",data := .fields #[.ref l,.int 0 0]}).push {cls := .type "enumerate",data := .fields #[.none,.bool aD,.ref s.heap.objs.size,rawInt 0,.none,.none]}}):=
 .of_wp λprog w A R s h=>by
  obtain⟨j,g,d,k,m⟩:=s;obtain⟨b,h⟩:=h;have f:=sub_enumerate;have e:A2b (Shared.heap ⟨j,g,d,k,m⟩) l a:=⟨_,b,J,n,J⟩
  wp_walk using wpAny_loadPart' b
  refine wpAny_stack_any λo=>A2l ?_;split
  ·rename_i c _ _ _ _ _;cases(c == Value.type "enumerate")
   ·wp_walk using wpAny_loadPart' b,A3g e
    exact⟨_,J,h⟩
   ·wp_walk using wpAny_loadPart' b,A3g e
    exact⟨_,J,h⟩
  ·wp_walk using wpAny_loadPart' b,A3g e
   exact⟨_,J,h⟩
section
variable{prog:A2r}{w:A2u}{A:A2w}{E:F->A2m->Prop}{s:A2m}
def B5{l:Y}{a:Array A2k}{Q:A2k->A2m->Prop}(k:s.heap.IsTuple l a)
 (h:∀ d,IsEnum d (s.heap.objs.size+1) s.heap.objs.size 0 .none->d.IsTupleIter s.heap.objs.size l 0->d.objs.size=s.heap.objs.size+2->
   (∀ b o,s.heap.get? b=O o->d.get? b=O o)->Q (.ref (s.heap.objs.size+1)) {s with heap:=d}):
 A2o (A2q prog w) A (call (.type "enumerate") [.ref l]) Q E s:=by
 obtain⟨⟨c,dct,m,p⟩,q,e,n,f⟩:=k;replace e:c = .type "tuple":=e;replace f:m = .seq a n:=f;subst e f
 refine callType_new F.called_enumerate (by decide) (F.typeCall_enumerate_1 _) (F.newCall_enumerate_1 _) (λg=>F.args_object_init_2 g _) F.entry_enumerate_new
  (CH l a n dct p) ⟨q,?_⟩
 have i:(s.heap.push {cls := .type "tuple_iterator",data := .fields #[.ref l,.int 0 0]}).objs.size=s.heap.objs.size+1:=ZN ..;show _/\_;rw[i]
 have j:IsEnum ((s.heap.push {cls := .type "tuple_iterator",data := .fields #[.ref l,.int 0 0]}).push
  {cls := .type "enumerate",data := .fields #[.none,.bool aD,.ref s.heap.objs.size,rawInt 0,.none,.none]}) (s.heap.objs.size+1) s.heap.objs.size 0 .none:=by
  have:=Yn (s.heap.push {cls := .type "tuple_iterator",data := .fields #[.ref l,.int 0 0]})
   (o:={cls := .type "enumerate",data := .fields #[.none,.bool aD,.ref s.heap.objs.size,rawInt 0,.none,.none]}) J
  rw[i]at this;exact this
 refine⟨⟨_,j,J⟩,h _ j ⟨_,Yf _ (Yn _ J),J,J⟩ (by rw[ZN,i]) λb o x=>Yf _ (Yf _ x)⟩
end
end PySem
namespace L2
open PySem PySem.Spec PyProof.Rows
section
variable{X:Cx}{pins:U (Y×Obj)}{σ:St}{H:Hp}{s:A2m}{h':A2y}
def Inv.turnedL{t':Nat}{ch:U Y}(I:Inv X pins σ H s)(k:∀ b o,b∉ch->s.heap.get? b=aA o->h'.get? b=aA o)(f:∀ b∈ch,FpOk X pins H b):Inv X pins σ H {s with heap:=h',toks:=t'}:=by
 have d:∀ b u,H b=aA u->b∉ch:=λb u e z=>by rw[(f b z).1]at e;cases e
 refine I.step (g':=s.gens) (d':=s.drawn) (ch:=ch) (λb g=>?_) (λb o _ _ a e _=>k b o a e) (λb o _ _ a e _=>⟨o.slots,k b o a e⟩) (λ_ _ _ _ n=>n)
  (λb o a e=>⟨o,k b o a e⟩) (λ_ _ e=>e) (λ_ _ _ e=>e) (λb y e=>⟨#[],by rw[e];simp⟩) (λm h=>?_) (λb u e=>?_) I.bare
 ·obtain⟨A,i,B,j,l,p⟩:=f b g;exact⟨j,i,l,p⟩
 ·obtain⟨o,t,w,x,r⟩:=h;exact⟨o,t,w,k _ o (λz=>(f _ z).2.1 rfl) x,r⟩
 ·refine(I.hok b u e).stay (λc v a q=>k c v ?_ q) (λ_ q=>q) λ_ _ q=>q;rcases a with z | z
  ·rw[z];exact d b u e
  ·exact d c _ z
def Inv.turnLay{t':Nat}{ch:U Y}{o:HO}(I:Inv X pins σ H s)(k:∀ b u,b∉ch->s.heap.get? b=aA u->h'.get? b=aA u)(h:∀ b∈ch,FpOk X pins H b)
 (i:ObjOk X.prog X.w (upd H s.heap.objs.size o) h' s.heap.objs.size o):Inv X pins σ (upd H s.heap.objs.size o) {s with heap:=h',toks:=t'}:=by
 have d:H s.heap.objs.size=aB:=I.fresh;have f:∀ b u,H b=aA u->b∉ch:=λb u e z=>by rw[(h b z).1]at e;cases e
 have l:∀ b u,s.heap.get? b=aA u->b≠s.heap.objs.size:=λb u e=>Ys (Yk e)
 refine I.step (g':=s.gens) (d':=s.drawn) (ch:=ch) (λb g=>?_) (λb o _ _ a e _=>k b o a e) (λb o _ _ a e _=>⟨o.slots,k b o a e⟩) (λb u _ e n=>by rw[g7 (l b u e)];exact n)
  (λb o a e=>⟨o,k b o a e⟩) (λb j e=>by rw[g7 (i8 e d)];exact e) (λb u j e=>by rw[g7 (i8 e d)];exact e) (λb E e=>⟨#[],by rw[g7 (i8 e d),e];simp⟩) (λm p=>?_) (λb u e=>?_) I.bare
 ·obtain⟨G,t,K,x,y,A⟩:=h b g;exact⟨x,t,y,A⟩
 ·obtain⟨o,B,C,D,r⟩:=p;exact⟨o,B,C,k _ o (λz=>(h _ z).2.1 rfl) D,r⟩
 ·by_cases g:b=s.heap.objs.size
  ·subst g;rw[i3]at e;cases e;exact i
  ·rw[g7 g]at e;refine(I.hok b u e).stay (λc v a q=>k c v ?_ q) (λc q=>by rw[g7 (i8 q d)];exact q) λc j q=>by rw[g7 (i8 q d)];exact q
   rcases a with z | z
   ·rw[z];exact f b u e
   ·exact f c _ z
end
def Um(K:YZ)(a:Y):It:=
 ⟨λi H=>∃ xs x,SqL K H a xs/\xs[i]?=O x,λi H x b=>∃ p v,H p=aB/\x = .ref p/\(∀ xs,SqL K H a xs->xs[i]?=O v)/\b=upd H p (.tup [.int i,v]),λi H=>∃ xs,SqL K H a xs/\xs.length=i⟩
def Uo(K:YZ)(a:Y):It:=
 ⟨λi H=>∃ xs x,SqT K H a xs/\xs[i]?=O x,λi H x b=>∃ p v,H p=aB/\x = .ref p/\(∀ xs,SqT K H a xs->xs[i]?=O v)/\b=upd H p (.tup [.int i,v]),λi H=>∃ xs,SqT K H a xs/\xs.length=i⟩
def Ia:2<=A2s:=by decide
def Ib{P:A2r}{w:A2u}{K:YZ}{D:U A2p}{kx:Nat}{tp:Pos}(a e j:Y)(B:e≠j)(T:a≠e)(G:a≠j):Turn P w K (.Tuple D kx tp) (Um K a) [e,j] e (λi h=>(∃ g,IsEnum h e j i g)/\h.IsListIter j a i) where
 mem:=by simp
 obj:=λi h n b f=>by
  rcases Yp.mp f with rfl | f
  ·obtain⟨⟨g,z⟩,_⟩:=n;exact⟨_,z,λv q=>by cases q⟩
  ·have V:b=j:=by simpa using f
   subst V;obtain⟨o,q,c,d⟩:=n.2;exact⟨o,q,λv z=>by rw[d]at z;cases z⟩
 keep:=λi h M n k=>⟨let ⟨g,z⟩:=n.1;⟨g,k e (by simp) _ z⟩,n.2.at λo q=>k j (by simp) o q⟩
 item:=by
  intro X W hw hK hc i l s σ H E I N n hg;subst W hw hK;obtain⟨xs,x,Q,hx⟩:=hg;obtain⟨m,rv,p,hz⟩:=I.list Q;obtain⟨u,hu,ru⟩:=rv.get hx;obtain⟨⟨g,R⟩,r⟩:=n
  have a0:i<m.toArray.size:=by
   have:=(gM hu).1;simpa using this
  refine A3U (Draws.list (prog:=X.prog) (w:=X.w) (A:=X.A.in1) (show X.A.in1.handled=aB from I.ok.hd hc) j a G m.toArray) R ⟨r,p.isList⟩ a0 B (by simp[B,Ne.symm T]) λy M C S ho a1 hT a5 hk=>?_
  have a2:y=u:=by
   have:m.toArray[i]?=O u:=by simpa using hu
   rw[this]at S;exact(oj S).symm
  subst a2;refine⟨_,J,?_⟩
  have I1:Inv X l σ (upd H s.heap.objs.size (.tup [.int i,x])) {s with heap:=M,toks:=C+1}:=
   I.turnLay (ch:=[e,j]) (λb o f q=>hk b o (λz=>f (by simp[z])) (λz=>f (by simp[z])) q) N ⟨Ia,[.int i C,y],.cons ⟨C,J⟩ (.cons ru .nil),⟨_,hT,J,_,J⟩⟩
  refine A3I ho λh2 a3 L=>?_
  have t:∀ b∈[e,j],FpOk X l (upd H s.heap.objs.size (.tup [.int i,x])) b:=λb f=>by
   obtain⟨f0,f1⟩:=N b f
   have a4:b≠s.heap.objs.size:=by
    rcases Yp.mp f with rfl | f
    ·exact Ys (Yk R)
    ·have V:b=j:=by simpa using f
     subst V;obtain⟨o,q,_⟩:=r;exact Ys (Yk q)
   exact⟨by rw[g7 a4];exact f0,f1⟩
  have I2:Inv X l σ (upd H s.heap.objs.size (.tup [.int i,x])) {s with heap:=h2,toks:=C+1}:=
   Inv.turnedL (s:={s with heap:=M,toks:=C+1}) (t':=C+1) (ch:=[e,j]) I1 (λb o f q=>(L.2 b (λz=>f (by simp[z]))).trans q) t
  refine⟨.ref s.heap.objs.size,_,I2,J,⟨_,x,I.fresh,J,λys S=>by rw[I.list_inj S Q];exact hx,J⟩,⟨⟨y,by simpa using a3⟩,a1.1.extBut L.extBut (Ne.symm B)⟩,λb f=>(t b f).1⟩
 done:=by
   intro X W hw hK hc i l s σ H E I N n hg;subst W hw hK;obtain⟨xs,Q,hx⟩:=hg;obtain⟨m,rv,p,hz⟩:=I.list Q;obtain⟨⟨g,R⟩,r⟩:=n;have hl:=rv.length;have hn:m.toArray.size=i:=by simp;lia
   refine A42 (Draws.list (prog:=X.prog) (w:=X.w) (A:=X.A.in1) (show X.A.in1.handled=aB from I.ok.hd hc) j a G m.toArray) R (by rw[hn];exact⟨r,p.isList⟩) λM eb=>⟨J,I.turnedL (t':=s.toks) (ch:=[e,j]) (λb o f q=>eb b o (λz=>f (by simp[z])) q) N⟩
 self:=λ_ _ _ _ _ n h=>let ⟨g,z⟩:=n.1;A3t z h
def Ic{P:A2r}{w:A2u}{K:YZ}{D:U A2p}{kx:Nat}{tp:Pos}(a e j:Y)(B:e≠j)(T:a≠e)(G:a≠j):Turn P w K (.Tuple D kx tp) (Uo K a) [e,j] e (λi h=>(∃ g,IsEnum h e j i g)/\h.IsTupleIter j a i) where
 mem:=by simp
 obj:=λi h n b f=>by
  rcases Yp.mp f with rfl | f
  ·obtain⟨⟨g,z⟩,_⟩:=n;exact⟨_,z,λv q=>by cases q⟩
  ·have V:b=j:=by simpa using f
   subst V;obtain⟨o,q,c,d⟩:=n.2;exact⟨o,q,λv z=>by rw[d]at z;cases z⟩
 keep:=λi h M n k=>⟨let ⟨g,z⟩:=n.1;⟨g,k e (by simp) _ z⟩,n.2.at λo q=>k j (by simp) o q⟩
 item:=by
  intro X W hw hK hc i l s σ H E I N n hg;subst W hw hK;obtain⟨xs,x,Q,hx⟩:=hg;obtain⟨m,rv,p,hz⟩:=I.tuple Q;obtain⟨u,hu,ru⟩:=rv.get hx;obtain⟨⟨g,R⟩,r⟩:=n
  have a0:i<m.toArray.size:=by
   have:=(gM hu).1;simpa using this
  refine A3U (AY (prog:=X.prog) (w:=X.w) (A:=X.A.in1) (show X.A.in1.handled=aB from I.ok.hd hc) j a G m.toArray) R ⟨r,p⟩ a0 B (by simp[B,Ne.symm T]) λy M C S ho a1 hT a5 hk=>?_
  have a2:y=u:=by
   have:m.toArray[i]?=O u:=by simpa using hu
   rw[this]at S;exact(oj S).symm
  subst a2;refine⟨_,J,?_⟩
  have I1:Inv X l σ (upd H s.heap.objs.size (.tup [.int i,x])) {s with heap:=M,toks:=C+1}:=
   I.turnLay (ch:=[e,j]) (λb o f q=>hk b o (λz=>f (by simp[z])) (λz=>f (by simp[z])) q) N ⟨Ia,[.int i C,y],.cons ⟨C,J⟩ (.cons ru .nil),⟨_,hT,J,_,J⟩⟩
  refine A3I ho λh2 a3 L=>?_
  have t:∀ b∈[e,j],FpOk X l (upd H s.heap.objs.size (.tup [.int i,x])) b:=λb f=>by
   obtain⟨f0,f1⟩:=N b f
   have a4:b≠s.heap.objs.size:=by
    rcases Yp.mp f with rfl | f
    ·exact Ys (Yk R)
    ·have V:b=j:=by simpa using f
     subst V;obtain⟨o,q,_⟩:=r;exact Ys (Yk q)
   exact⟨by rw[g7 a4];exact f0,f1⟩
  have I2:Inv X l σ (upd H s.heap.objs.size (.tup [.int i,x])) {s with heap:=h2,toks:=C+1}:=
   Inv.turnedL (s:={s with heap:=M,toks:=C+1}) (t':=C+1) (ch:=[e,j]) I1 (λb o f q=>(L.2 b (λz=>f (by simp[z]))).trans q) t
  refine⟨.ref s.heap.objs.size,_,I2,J,⟨_,x,I.fresh,J,λys S=>by rw[I.tuple_inj S Q];exact hx,J⟩,⟨⟨y,by simpa using a3⟩,a1.1.extBut L.extBut (Ne.symm B)⟩,λb f=>(t b f).1⟩
 done:=by
   intro X W hw hK hc i l s σ H E I N n hg;subst W hw hK;obtain⟨xs,Q,hx⟩:=hg;obtain⟨m,rv,p,hz⟩:=I.tuple Q;obtain⟨⟨g,R⟩,r⟩:=n;have hl:=rv.length;have hn:m.toArray.size=i:=by simp;lia
   refine A42 (AY (prog:=X.prog) (w:=X.w) (A:=X.A.in1) (show X.A.in1.handled=aB from I.ok.hd hc) j a G m.toArray) R (by rw[hn];exact⟨r,p⟩) λM eb=>⟨J,I.turnedL (t':=s.toks) (ch:=[e,j]) (λb o f q=>eb b o (λz=>f (by simp[z])) q) N⟩
 self:=λ_ _ _ _ _ n h=>let ⟨g,z⟩:=n.1;A3t z h
section
variable{X:Cx}
def Wp(K:YZ)(ta:TA):TI:=λc H R=>ta c H λvs b=>∃ a,vs=[.ref a]/\(((∃ xs,SqL K b a xs)/\R (Um K a) b)\/((∃ xs,SqT K b a xs)/\R (Uo K a) b))
def Da:A2v "enumerate"=O (.type "enumerate"):=by decide +kernel
def Ge:A2v "zip"=O (.type "zip"):=by decide +kernel
def RE{a:A2p}{E:TA}{p k:Pos}{m:U A2p}{G:Nat}{L:Pos}(M:Gl X "enumerate")(N:X.mg "enumerate"=aB)(P:PA X [a] E)(Q:A2x [a] X.env=[(aD,eval a X.env)]:=by rfl):
 PI X (.Tuple m G L) (.Call (.Name "enumerate" p) [a] [] k) (Wp X.K E):=by
 intro d s x H R I h;refine Call_ (AW I M N Da (PyProof.Rows.callWith_type1 (thn (P k d s x H _ I h) λus c ⟨vs,w,g,S,q1⟩=>?_) Q J));obtain⟨l,e,q1⟩:=q1;subst e;cases S with
 | cons r T=>
   cases T;cases r;rcases q1 with⟨⟨V,y⟩,q⟩ | ⟨⟨V,y⟩,q⟩
   ·obtain⟨t,W,u,hz⟩:=g.list y;have z:@LT.lt Nat _ l c.heap.objs.size:=by obtain⟨o,n,e,_⟩:=u;exact Yk e
    refine call_enumerate_list u.isList λA v i B C=>?_;refine A3t v ?_;have D:Inv X d x w {c with heap:=A}:=g.kept (t':=c.toks) C;refine⟨c.heap.objs.size+1,[c.heap.objs.size+1,c.heap.objs.size],_,_,w,J,D,Ib l _ c.heap.objs.size (show @Ne Nat _ _ by lia) (show @Ne Nat _ _ by lia) (show @Ne Nat _ _ by lia),⟨⟨_,v⟩,i⟩,λb j=>?_,q⟩
    have f:@LE.le Nat _ c.heap.objs.size b:=by
     rcases Yp.mp j with rfl | j
     ·exact A0l _
     ·have e:b=c.heap.objs.size:=by simpa using j
      rw[e];exact Ym _
    exact g.fpOk f (g.hok.fresh f)
   ·obtain⟨t,W,u,hz⟩:=g.tuple y;have z:@LT.lt Nat _ l c.heap.objs.size:=by obtain⟨o,e,_⟩:=u;exact Yk e
    refine B5 (show c.heap.IsTuple l t.toArray from u) λA v i B C=>?_;refine A3t v ?_;have D:Inv X d x w {c with heap:=A}:=g.kept (t':=c.toks) C;refine⟨c.heap.objs.size+1,[c.heap.objs.size+1,c.heap.objs.size],_,_,w,J,D,Ic l _ c.heap.objs.size (show @Ne Nat _ _ by lia) (show @Ne Nat _ _ by lia) (show @Ne Nat _ _ by lia),⟨⟨_,v⟩,i⟩,λb j=>?_,q⟩
    have f:@LE.le Nat _ c.heap.objs.size b:=by
     rcases Yp.mp j with rfl | j
     ·exact A0l _
     ·have e:b=c.heap.objs.size:=by simpa using j
      rw[e];exact Ym _
    exact g.fpOk f (g.hok.fresh f)
end
def Lb(a:U F)(k:Nat)(y:F):(a.toArray.extract 0 k).push y++a.toArray.extract k=(a.take k++y::a.drop k).toArray:=by
 apply Array.toList_inj.mp;simp
 first
  | done
  | exact List.take_of_length_le (by simp)
section
variable{X:Cx}
def Jx:V->U V->Hp->VK->Prop:=λx vs H Q=>∃ l xs i y,x = .ref l/\vs=[.int i,y]/\H l=O (.lst xs)/\0<=i/\i<=xs.length/\xs.length<A2s/\Q .non (upd H l (.lst (xs.take i.toNat++y::xs.drop i.toNat)))
def F0:MtM X "list.insert" Jx:=by
 intro b s m H x o v p Q I d f h;obtain⟨l,u,i,y,rfl,rfl,c,w,A,B,q⟩:=h;cases d;obtain⟨u1,u2,rfl,⟨t,rfl⟩,g⟩:=Vals.two f;obtain⟨z,a,n,r,C,e⟩:=I.lstM c;have D:=CF;refine A3k F.slot_list_insert ⟨_,e,J⟩ F.entry_list_insert (F.args_list_insert_3 _ _ _) (AutoSeq1.list_insert_list_int_val_1 l a.toArray n i t u2 (by rw[A54 (by lia) (by lia)];exact Yq) (by rw[Yl];lia)) ⟨e,?_⟩;refine⟨.non,_,I.lset (its':=a.take i.toNat++u2::a.drop i.toNat) c e ?_ (Vals.append (r.take _) (.cons g (r.drop _))) ?_,J,q⟩
 ·have j:(if i<0 then (i+(a.toArray.size:Int)).toNat else min i.toNat a.toArray.size)=i.toNat:=by
   rw[iG (by lia),Yl];lia
  show(let k:=if i<0 then (i+(a.toArray.size:Int)).toNat else min i.toNat a.toArray.size;(a.toArray.extract 0 k).push u2++a.toArray.extract k)=_;rw[j];exact Lb a i.toNat u2
 ·rw[Yd,ZG,ZK,Zg]
  lia
def B6(xs ys:U V):Bool:=xs.length == ys.length&&(xs.zip ys).all λp=>eqV p.1 p.2
def RF(K:YZ)(c:Bool):R2:=λx y H Q=>∃ a b xs ys,x = .ref a/\y = .ref b/\SqL K H a xs/\SqL K H b ys/\((xs.all AI=aC/\ys.all AI=aC)\/xs=[]\/ys=[])/\Q (.bl (if c then !B6 xs ys else B6 xs ys)) H
def Db{a c:U V}(g:a.length=c.length):(Ye a.length).all (λj=>eqV (a.getD j .non) (c.getD j .non))=B6 a c:=by
 have i:B6 a c=(a.zip c).all λp=>eqV p.1 p.2:=by unfold B6;simp[g]
 rw[i,Za,ZJ,ZJ];constructor
 ·intro h p k;obtain⟨j,f,e⟩:=A02.mp k;have b:j<a.length:=by simp at f;lia
  have d:j<c.length:=by lia
  have:=h j (Yr.mpr b);rw[<-e];simpa[Zl,b,d] using this
 ·intro h j f;have b:j<a.length:=Yr.mp f;have d:j<c.length:=by lia
  have:=h (a[j],c[j]) (A02.mpr ⟨j,by simp;lia,by simp⟩);simpa[Zl,b,d] using this
def Dc{a b:U V}{e g:U F}{A:A2w}{s:A2m}(k:Vals a e)(l:Vals b g)(f:(a.all AI=aC/\b.all AI=aC)\/a=[]\/b=[]):
 ∀ j (m:j<e.toArray.size) (n:j<g.toArray.size),SeqAt.EqAt A s e.toArray[j] g.toArray[j] (eqV (a.getD j .non) (b.getD j .non)):=by
 intro j m n;have l1:=k.length;have l2:=l.length;simp only[Yl]at m n;have c:j<a.length:=by lia
 have d:j<b.length:=by lia
 obtain⟨o,p⟩:a.all AI=aC/\b.all AI=aC:=by
  rcases f with f | f | f
  ·exact f
  ·subst f;simp at c
  ·subst f;simp at d
 obtain⟨u,r,t⟩:=k.get (i:=j) (x:=a[j]) (by simp[c]);obtain⟨v,w,h⟩:=l.get (i:=j) (x:=b[j]) (by simp[d])
 have y:e.toArray[j]=u:=by
  have:=gM r;obtain⟨_,q⟩:=this;simpa using q
 have z:g.toArray[j]=v:=by
  obtain⟨_,q⟩:=gM w;simpa using q
 rw[y,z];have B:a.getD j .non=a[j]:=by simp[Zl,c]
 have C:b.getD j .non=b[j]:=by simp[Zl,d]
 rw[B,C];exact NS t h (ZJ.mp o _ (Zs c)) (ZJ.mp p _ (Zs d))
def Uq(hu:X.A.units<cLine):OpR X (A2H .Eq) (RF X.K aD):=by
 intro g s z H x y v u Q I p r h;obtain⟨a,b,c,d,rfl,rfl,t,w,f,q⟩:=h;cases p;cases r;obtain⟨i,j,k,_⟩:=I.list t;obtain⟨l,m,n,_⟩:=I.list w;have l1:=j.length;have l2:=m.length;by_cases o:c.length=d.length
 ·refine SeqAt.eq_listAt k.isList n.isList (by simp;lia) hu (Dc j m f) ⟨.bl _,H,I,J,?_⟩;rw[Yl,<-l1,Db o];exact q
 ·refine SeqAt.eq_list_lengthsAt k.isList n.isList (by simp;lia) hu ⟨.bl aD,H,I,J,?_⟩;have e:B6 c d=aD:=by unfold B6;simp[o]
  rw[show(if aD=aC then !B6 c d else B6 c d)=B6 c d from J,e]at q;exact q
def Ur(hu:X.A.units<cLine):OpR X (A2H .NotEq) (RF X.K aC):=by
 intro g s z H x y v u Q I p r h;obtain⟨a,b,c,d,rfl,rfl,t,w,f,q⟩:=h;cases p;cases r;obtain⟨i,j,k,_⟩:=I.list t;obtain⟨l,m,n,_⟩:=I.list w;have l1:=j.length;have l2:=m.length;by_cases o:c.length=d.length
 ·refine(SeqAt.RcNeAt.lists k.isList n.isList (by simp;lia) hu (Dc j m f)) _ _ _ _ ?_;refine⟨.bl _,H,I,J,?_⟩;rw[Yl,<-l1,Db o];exact q
 ·refine(SeqAt.RcNeAt.lists_lengths k.isList n.isList (by simp;lia) hu) _ _ _ _ ?_;refine⟨.bl aC,H,I,J,?_⟩;have e:B6 c d=aD:=by unfold B6;simp[o]
  rw[show(if aC=aC then !B6 c d else B6 c d)=!B6 c d from J,e]at q;exact q
def call_isi1:CallR X (.builtin "isinstance") (λa H Q=>∃ x T t b,a=[x,.ty T]/\TyOf X.K H x t/\PySem.W.kitOne X.K t (.type T)=O b/\Q (.bl b) H):=by intro c s i H a j Q I r h;obtain⟨x,T,t,b,rfl,ty,e,q⟩:=h;obtain⟨u1,u2,rfl,d,f⟩:=Vals.two r;cases f;exact LV I d ty e λg=>⟨.bl b,H,I.tok g,J,q⟩
def Id{l:U (Y×Obj)}{G:St}{H:Hp}{s:A2m}{A:A2w}{E:F->A2m->Prop}{Q:F->A2m->Prop}{b:Bool}{x:V}{u t:F}{B:Y}{L:Option Y}{m:U F}{n:Nat}{M:Array (Option F)}(I:Inv X l G H s)(d:RelV x u)(ty:TyOf X.K H x t)
 (c:s.heap.get? B=aA ⟨.type "tuple",L,.seq m.toArray n,M⟩) (e:PySem.W.kitAny X.K t m=aA b) (h:∀ N,Q (.bool b) {s with toks:=N}):
 A2o (A2q X.prog X.w) A (call (.builtin "isinstance") [u,.ref B]) Q E s:=by
 cases ty with
 | non=>cases(show u=Value.none from d);exact PySem.W.kia_tup PySem.W.kitx_none I.kIn True.intro c e (λz=>nomatch z) h
 | bl y=>cases(show u=Value.bool y from d);exact PySem.W.kia_tup PySem.W.kitx_bool I.kIn True.intro c e (λz=>nomatch z) h
 | int i=>obtain⟨t,q⟩:=(show ∃ t,u=Value.int i t from d);cases q;exact PySem.W.kia_tup PySem.W.kitx_int I.kIn True.intro c e (λz=>nomatch z) h
 | str y=>obtain⟨t,q⟩:=(show ∃ t,u=Value.str y t from d);cases q;exact PySem.W.kia_tup PySem.W.kitx_str I.kIn True.intro c e (λz=>nomatch z) h
 | flt y=>obtain⟨t,q⟩:=(show ∃ t,u=Value.float y t from d);cases q;exact PySem.W.kia_tup PySem.W.kitx_float I.kIn True.intro c e (λz=>nomatch z) h
 | @lst a k f=>
   cases(show u=Value.ref a from d);obtain⟨_,_,n,_,g⟩:=(show ObjOk X.prog X.w H s.heap a (.lst k) from I.hok a _ f)
   exact PySem.W.kia_tup PySem.W.kitx_list I.kIn ⟨_,g,rfl⟩ c e (λz=>nomatch z) h
 | @frz a P k f=>
   cases(show u=Value.ref a from d);obtain⟨_,_,_,n,_,g⟩:=(show ObjOk X.prog X.w H s.heap a (.frz P (.lst k)) from I.hok a _ f)
   exact PySem.W.kia_tup PySem.W.kitx_list I.kIn ⟨_,g,rfl⟩ c e (λz=>nomatch z) h
 | @tup a k f=>
   cases(show u=Value.ref a from d);obtain⟨_,_,_,p⟩:=(show ObjOk X.prog X.w H s.heap a (.tup k) from I.hok a _ f)
   obtain⟨o,g,r,_⟩:=p;exact PySem.W.kia_tup PySem.W.kitx_tuple I.kIn ⟨o,g,r⟩ c e (λz=>nomatch z) h
 | @dK a j f=>
   cases(show u=Value.ref a from d);obtain⟨_,_,vs,_,p⟩:=(show ObjOk X.prog X.w H s.heap a (.dK j) from I.hok a _ f)
   obtain⟨o,R,S,g,r,_⟩:=p;exact PySem.W.kia_tup PySem.W.kitx_dict I.kIn ⟨o,g,r.1⟩ c e (λz=>nomatch z) h
 | @dT a j f=>
   cases(show u=Value.ref a from d);obtain⟨_,_,k,_,o,R,S,g,r,_⟩:=(show ObjOk X.prog X.w H s.heap a (.dT j) from I.hok a _ f)
   exact PySem.W.kia_tup PySem.W.kitx_dict I.kIn ⟨o,g,r.1⟩ c e (λz=>nomatch z) h
 | @ins a C dx fs f D T hn v hm=>
   cases(show u=Value.ref a from d);obtain⟨mA,O,_⟩:=Jp I.hok f;obtain⟨od,J,_⟩:=O.look;exact PySem.W.kia_tup (PySem.W.kitx_own (D.get _) D.hd T hn v hm) I.kIn J c e (λz=>nomatch z) h
theorem Jy:∀(a:U String) {b:U F},Vals (a.map V.ty) b->b=a.map Value.type
 | [],_,.nil=>rfl
 | T::r,_,.cons h t=>by cases h;rw[Jy r t];rfl
def Lc:CallR X (.builtin "isinstance") (λg H Q=>∃(x:V) (p:Y) (a:U String) (t:F) (b:Bool),g=[x,.ref p]/\H p=O (.tup (a.map V.ty))/\TyOf X.K H x t/\PySem.W.kitAny X.K t (a.map Value.type)=O b/\Q (.bl b) H):=by
 intro i s A H g B Q I r h;obtain⟨x,p,a,t,b,rfl,j,ty,e,q⟩:=h;obtain⟨u1,u2,rfl,k,l⟩:=Vals.two r;cases l;obtain⟨_,m,o,⟨⟨c,C,u,D⟩,v,d,n,f⟩⟩:=(show ObjOk X.prog X.w H s.heap p (.tup (a.map V.ty)) from I.hok p _ j)
 have y:=Jy a o;subst y;replace d:c = .type "tuple":=d;replace f:u = .seq (a.map Value.type).toArray n:=f;subst d f;exact Id I k ty v e λz=>⟨.bl b,H,I.tok z,J,q⟩
def Lp:CallR X (.type "range") (λc H Q=>∃ a b,c=[.int a,.int b]/\∀ p,H p=aB->Q (.ref p) (upd H p (.rng a b))):=by intro d s f H c g Q I r h;obtain⟨a,b,rfl,q⟩:=h;obtain⟨u1,u2,rfl,⟨t,rfl⟩,⟨i,rfl⟩⟩:=Vals.two r;refine call_range_2 ⟨.ref s.heap.objs.size,_,I.laid (o := .rng a b) (λb o e=>Yf _ e) (Ym _) ⟨_,_,_,Yn _ J⟩,J,q _ I.fresh⟩
def Lq:CallR X (.type "range") (λa H Q=>∃ b,a=[.int b]/\∀ p,H p=aB->Q (.ref p) (upd H p (.rng 0 b))):=by intro c s d H a f Q I r h;obtain⟨b,rfl,q⟩:=h;obtain⟨u1,rfl,⟨t,rfl⟩⟩:=Af r;refine call_range_1 ⟨.ref s.heap.objs.size,_,I.laid (o := .rng 0 b) (λb o e=>Yf _ e) (Ym _) ⟨_,_,_,Yn _ J⟩,J,q _ I.fresh⟩
def Lr(a:Int)(n:Nat):U V:=(Ye n).map λ(i:Nat)=>V.int (a+(i:Int))
def Gf(a:Int)(n:Nat):(Lr a n).length=n:=by unfold Lr;simp
def CV(z:X.calm=aC):CallR X (.type "list") (λo H Q=>∃ p a b,o=[.ref p]/\H p=O (.rng a b) /\ -(2 ^ 62)<=a/\a<2 ^ 62 /\ -(2 ^ 62)<=b/\b<2 ^ 62/\(b - a).toNat<=100000/\∀ l,H l=aB->Q (.ref l) (upd H l (.lst (Lr a (b - a).toNat)))):=by
 intro y s σ H o us Q I r h;obtain⟨p,a,b,rfl,A,B,C,D,E,G,q⟩:=h;obtain⟨u,rfl,K⟩:=Af r;cases K;obtain⟨t,L,v,M⟩:=(show ObjOk X.prog X.w H s.heap p (.rng a b) from I.hok p _ A)
 have N:Builtin.Range.rangeSize a b 1=(((b - a).toNat:Nat):Int):=by rw[rangeSize_one];split<;>lia
 refine call_list_range (I.ok.hd z) (show IsRange s.heap p a b 1 t L v from M) (small_one B C D E) N (by lia) λP tk g R S e T=>?_;have W:(b - a).toNat<=A2s:=Z6 G (by decide);refine⟨.ref s.heap.objs.size,_,I.laid S (Ym _) (show ObjOk X.prog X.w _ P _ (.lst (Lr a (b - a).toNat)) from ⟨by rw[Gf];exact W,g.toList,R,?_,by simpa using e⟩),J,q _ I.fresh⟩;obtain⟨hs,d⟩:=T
 have k:∀(n:Nat) (l:U F) (c:Int),l.length=n->(∀(j:Nat) (v:F),l[j]?=O v->∃ t,v=Value.int (c+(j:Int)) t)->Vals ((Ye n).map λ(i:Nat)=>V.int (c+(i:Int))) l:=by
  intro n
  induction n with
  | zero=>intro l c f _;cases l with | nil=>exact .nil | cons _ _=>simp at f
  | succ n ih=>
    intro l c f d;cases l with
    | nil=>simp at f
    | cons x r=>
      rw[List.range_succ_eq_map,ZE,A0g];refine .cons ?_ ?_
      ·obtain⟨t,e⟩:=d 0 x (by simp);exact⟨t,e⟩
      ·have:=ih r (c+1) (by simpa using f) λj v m=>by
        obtain⟨t,e⟩:=d (j+1) v (by simpa using m);refine⟨t,?_⟩;rw[e]
        congr 1
        lia
       have e2:((λ(i:Nat)=>V.int (c+(i:Int)))∘Nat.succ)=λ(i:Nat)=>V.int (c+1+(i:Int)):=by
        funext i
        show V.int (c+((i+1:Nat):Int))=V.int (c+1+(i:Int))
        congr 1
        lia
       rw[e2];exact this
 refine k _ _ a (by simpa using hs) λj v m=>?_;obtain⟨t,e⟩:=d j v (by simpa using m);exact⟨t,by rw[e];congr 1;lia⟩
end
def srt(c:U Int):U Int:=c.mergeSort (λa b=>decide (a<=b))
def Dd(a:U Int):(srt a).Perm a:=List.mergeSort_perm _ _
def Us(d:U Int):(srt d).Pairwise (·<=·):=by have h:=List.pairwise_mergeSort (le:=λ(a b:Int)=>decide (a<=b)) (λa b c e f=>by simp only[dQ]at *;lia) (λa b=>by simp only[ZU,dQ];lia) d;exact h.imp λh=>of_decide_eq_true h
def Ut{d c:U Int}(e:c.Perm d)(f:c.Pairwise (·<=·)):c=srt d:=
 List.Perm.eq_of_pairwise (λ_ _ _ _ a b=>Int.le_antisymm a b) f (Us d) (e.trans (Dd d).symm)
theorem F1:∀{a:U Int} {b:U F},IntsAre b a->Vals (a.map V.int) b
 | _,_,.nil => .nil
 | _,_,.cons _ _ t => .cons ⟨_,J⟩ (F1 t)
def Nb:A2v "sorted"=O (.builtin "sorted"):=by decide +kernel
section
variable{κ:Type}[DecidableEq κ]
def AZ(kvs:U (κ×V))(k:κ):Option V:=(kvs.find? λkv=>decide (kv.1=k)).map (·.2)
def AM(kvs:U (κ×V))(k:κ)(v:V):U (κ×V):=
 if (kvs.any λkv=>decide (kv.1=k))=aC then kvs.map (λkv=>if kv.1=k then (kv.1,v) else kv) else kvs++[(k,v)]
def CW{p:κ×V}{r:U (κ×V)}{k:κ}(e:p.1=k):AZ (p::r) k=O p.2:=by simp[AZ,Zb,e]
def CY{p:κ×V}{r:U (κ×V)}{k:κ}(e:¬ p.1=k):AZ (p::r) k=AZ r k:=by simp[AZ,Zb,e]
theorem De(k:κ):∀ a:U (κ×V),(a.any λb=>decide (b.1=k))=(AZ a k).isSome
 | []=>rfl
 | p::r=>by
   rw[Zn];by_cases e:p.1=k
   ·simp only[CW e,decide_eq_true e,A2c,A1A]
   ·rw[CY e,decide_eq_false e,A25];exact De k r
def Bh(a:U (κ×V))(k:κ)(v:V):(AM a k v).length<=a.length+1:=by
 unfold AM;split
 ·rw[YY];lia
 ·rw[Yd,ZK,A0y];lia
def Nc{a:U (κ×V)}{k:κ}(v:V)(h:AZ a k=aB):AM a k v=a++[(k,v)]:=by unfold AM;rw[De,h];exact iG (by decide)
def RelO.isSome_eq{o:Option V}{u:Option A2k}(r:RelO o u):o.isSome=u.isSome:=by
 cases o with
 | none=>cases u with
   | none=>rfl
   | some _=>exact(show False from r).elim
 | some _=>cases u with
   | none=>exact(show False from r).elim
   | some _=>rfl
theorem RelO.getD{o:Option V}{u:Option A2k}{d:V}{a:A2k}(r:RelO o u)(b:RelV d a):RelV (o.getD d) (u.getD a):=by
 cases o with
 | none=>cases u with
   | none=>exact b
   | some _=>exact(show False from r).elim
 | some _=>cases u with
   | none=>exact(show False from r).elim
   | some _=>exact r
def KV.val{a:U (κ×V)}{f:U (κ×A2k)}(r:KV a f)(k:κ):RelO (AZ a k) (valueAt f k):=by
 unfold KV at r
 induction r with
 | nil=>exact True.intro
 | @cons p q l c h t i=>
   obtain⟨g,j⟩:=h;by_cases e:p.1=k
   ·have d:q.1=k:=g.symm.trans e;have b:valueAt (q::c) k=aA q.2:=by simp[valueAt,Zb,d]
    rw[CW e,b];exact j
   ·have d:¬ q.1=k:=λz=>e (g.trans z);have b:valueAt (q::c) k=valueAt c k:=by simp[valueAt,Zb,d]
    rw[CY e,b];exact i
theorem KV.any{a:U (κ×V)}{c:U (κ×A2k)}(r:KV a c)(k:κ):(a.any λb=>decide (b.1=k))=c.any λb=>decide (b.1=k):=by
 unfold KV at r
 induction r with
 | nil=>rfl
 | cons h t d=>rw[Zn,Zn,d,h.1]
def KV.repl{b:U (κ×V)}{d:U (κ×A2k)}(r:KV b d)(k:κ){y:V}{u:A2k}(f:RelV y u):
 KV (b.map λa=>if a.1=k then (a.1,y) else a) (d.map λa=>if a.1=k then (a.1,u) else a):=by
 unfold KV at r ⊢
 induction r with
 | nil=>exact .nil
 | @cons p q j l h t g=>
   rw[ZE,ZE];refine .cons ?_ g;obtain⟨c,i⟩:=h;by_cases e:p.1=k
   ·rw[iP e,iP (c.symm.trans e)];exact⟨c,f⟩
   ·rw[iG e,iG (λz=>e (c.trans z))];exact⟨c,i⟩
def KV.put{a:U (κ×V)}{b:U (κ×A2k)}(r:KV a b)(k:κ){y:V}{u:A2k}(c:RelV y u):KV (AM a k y) (stored b k u):=by
 unfold AM stored;rw[r.any k];by_cases e:(b.any λd=>decide (d.1=k))=aC
 ·rw[iP e,iP e];exact r.repl k c
 ·rw[iG e,iG e];exact Paired.snoc r ⟨rfl,c⟩
def KV.keys{a:U (κ×V)}{b:U (κ×A2k)}(r:KV a b):a.map (·.1)=b.map (·.1):=by
 unfold KV at r
 induction r with
 | nil=>rfl
 | cons h t c=>rw[ZE,ZE,c,h.1]
theorem KV.length{a:U (κ×V)}{b:U (κ×A2k)}(r:KV a b):a.length=b.length:=Paired.length r
end
def Nd{P:A2r}{w:A2u}{k:Key}{u:F}(r:RelV (kV k) u):(j4 P w).is k u=aC:=by
 cases k with
 | inl i=>obtain⟨t,e⟩:=(show ∃ t,u=Value.int i t from r);subst e;exact Bb P w i t
 | inr x=>obtain⟨t,e⟩:=(show ∃ t,u=Value.str x t from r);subst e;exact GR P w x t
theorem F3{P:A2r}{w:A2u}:∀{a:U Key} {b:U F},Vals (a.map kV) b->ItemsAre (j4 P w) a b
 | [],_,r=>by rw[A1G]at r;cases r;exact .nil
 | k::a,_,r=>by
   rw[ZE]at r;cases r with
   | cons h t=>exact .cons (Nd h) (F3 t)
abbrev KT(H:Hp):U (U Key×V)->U (U Key×Y×F)->Prop:=Paired λp q=>p.1=q.1/\H q.2.1=O (.tup (p.1.map kV))/\RelV p.2 q.2.2
def KT.val{H:Hp}{a:U (U Key×V)}{f:U (U Key×Y×A2k)}(r:KT H a f)(k:U Key):RelO (AZ a k) ((atKey f k).map (·.2)):=by
 induction r with
 | nil=>exact True.intro
 | @cons p q l c h t i=>
   obtain⟨g,_,j⟩:=h;by_cases e:p.1=k
   ·have d:q.1=k:=g.symm.trans e;have b:atKey (q::c) k=aA q.2:=by simp[atKey,Zb,d]
    rw[CW e,b];exact j
   ·have d:¬ q.1=k:=λz=>e (g.trans z);have b:atKey (q::c) k=atKey c k:=by simp[atKey,Zb,d]
    rw[CY e,b];exact i
def KT.repl{H:Hp}{a:U (U Key×V)}{d:U (U Key×Y×A2k)}(r:KT H a d)(k:U Key){y:V}{u:A2k}(g:RelV y u):
 KT H (a.map λc=>if c.1=k then (c.1,y) else c) (d.map (putAt k u)):=by
 induction r with
 | nil=>exact .nil
 | @cons p q l m h t i=>
   rw[ZE,ZE];refine .cons ?_ i;obtain⟨b,f,j⟩:=h;unfold putAt;by_cases e:p.1=k
   ·rw[iP e,iP (b.symm.trans e)];exact⟨b,f,g⟩
   ·rw[iG e,iG (λz=>e (b.trans z))];exact⟨b,f,j⟩
def KT.put{H:Hp}{a:U (U Key×V)}{c:U (U Key×Y×A2k)}(r:KT H a c)(k:U Key){b:Y}{y:V}{u:A2k}(f:H b=aA (.tup (k.map kV)))(d:RelV y u):
 KT H (AM a k y) (storedH c k b u):=by
 have e:(a.any λg=>decide (g.1=k))=(atKey c k).isSome:=by
  rw[De,(r.val k).isSome_eq,Option.isSome_map]
 unfold AM storedH;rw[e];by_cases q:(atKey c k).isSome=aC
 ·rw[iP q,iP q];exact r.repl k d
 ·rw[iG q,iG q];exact Paired.snoc r ⟨rfl,f,d⟩
def KT.keeps{H c:Hp}{a:U (U Key×V)}{d:U (U Key×Y×A2k)}(r:KT H a d)(f:∀ b e,H b=aA (.tup e)->c b=aA (.tup e)):KT c a d:=
 Paired.mapP r λ_ _ z=>⟨z.1,f _ _ z.2.1,z.2.2⟩
section
variable{P:A2r}{w:A2u}{H:Hp}{h:A2y}{a:Y}
def Th{u:HO}(b:HOk P w H h)(e:Rd H a u):ObjOk P w H h a u:=e.ok b
def Jz{b:U (Key×V)}(d:HOk P w H h)(e:Rd H a (.dK b)):b.length<=A2s/\(a == A2S)=aD/\∃ c,KV b c/\h.DictOf (j4 P w) a c:=
 show ObjOk P w H h a (.dK b) from Th d e
def Wq{b:U (Key×V)}(d:HOk P w H h)(e:H a=O (.dK b)):b.length<=A2s/\(a == A2S)=aD/\∃ c,KV b c/\h.DictOf (j4 P w) a c:=Jz d (.inl e)
def key_of{b:U Key}(d:HOk P w H h)(e:H a=O (.tup (b.map kV))):(A3R (j4 P w)).is h b a:=by
 obtain⟨_,c,r,o,f,g,n,i⟩:=(show ObjOk P w H h a (.tup (b.map kV)) from d a _ e)
 exact⟨o,c.toArray,n,f,g,i,by simpa using F3 r⟩
def K0{b:U (U Key×V)}(f:HOk P w H h)(e:Rd H a (.dT b)):b.length<=A2s/\(a == A2S)=aD/\
 ∃ d,KT H b d/\h.DictOfH (A3R (j4 P w)) a d:=by
 obtain⟨z,y,d,r,o,i,j,k,n,s,u,v⟩:=(show ObjOk P w H h a (.dT b) from Th f e)
 refine⟨z,y,d,r,o,i,j,k,n,s,u,λx c=>?_,v⟩
 have all:∀{l:U (U Key×V)} {m:U (U Key×Y×F)},KT H l m->∀ x∈m,(A3R (j4 P w)).is h x.1 x.2.1:=by
  intro l m q
  induction q with
  | nil=>intro x c;exact nomatch c
  | @cons p q B C g t A=>
    intro x c;rcases Yp.mp c with e | c
    ·subst e;exact key_of f (by rw[<-g.1];exact g.2.1)
    ·exact A x c
 exact all r x c
def Ti{b:U (U Key×V)}(d:HOk P w H h)(e:H a=O (.dT b)):b.length<=A2s/\(a == A2S)=aD/\
 ∃ c,KT H b c/\h.DictOfH (A3R (j4 P w)) a c:=K0 d (.inl e)
end
def DGet(H:Hp)(a:Y)(y:V)(r:Option V):Prop:=
 (∃ kvs k,Rd H a (.dK kvs)/\y=kV k/\r=AZ kvs k)\/∃ kvs k b,Rd H a (.dT kvs)/\y = .ref b/\H b=O (.tup (k.map kV))/\r=AZ kvs k
def DPut(H:Hp)(a:Y)(y v:V)(c:Hp):Prop:=
 (∃ kvs k,H a=O (.dK kvs)/\y=kV k/\kvs.length<A2s/\c=upd H a (.dK (AM kvs k v)))\/
 ∃ kvs k b,H a=O (.dT kvs)/\y = .ref b/\H b=O (.tup (k.map kV))/\kvs.length<A2s/\c=upd H a (.dT (AM kvs k v))
def DGet.t{H:Hp}{a b:Y}{kvs:U (U Key×V)}{k:U Key}(e:H a=aA (.dT kvs))(c:H b=aA (.tup (k.map kV))):DGet H a (.ref b) (AZ kvs k) := .inr ⟨kvs,k,b,.inl e,rfl,c,rfl⟩
def DPut.t{H:Hp}{a b:Y}{kvs:U (U Key×V)}{k:U Key}{v:V}(e:H a=aA (.dT kvs))(c:H b=aA (.tup (k.map kV)))(d:kvs.length<A2s):
 DPut H a (.ref b) v (upd H a (.dT (AM kvs k v))) := .inr ⟨kvs,k,b,e,rfl,c,d,rfl⟩
section
variable{X:Cx}{pins:U (Y×Obj)}{σ:St}{H:Hp}{s:A2m}{a:Y}{y v:V}{u r:F}{o:Option V}{A:A2w}{E:F->A2m->Prop}
def Inv.big(I:Inv X pins σ H s):A2S<s.heap.objs.size:=by have h:A2t<s.heap.objs.size:=(I.mod.glob.keeps I.bk).lt;exact A0h (by decide) h
def Ls{Q:F->A2m->Prop}(hu:A.units+1<cLine)(I:Inv X pins σ H s)(g:DGet H a y (O v))(t:RelV y u)(h:∀ f x,Inv X pins σ H x->RelV v f->Q f x):
 A2o (A2q X.prog X.w) A (getItem (.ref a) u) Q E s:=by
 rcases g with⟨i,k,e,j,l⟩ | ⟨i,k,b,e,j,B,l⟩
 ·subst j;obtain⟨z,C,D,c,m⟩:=Jz I.hok e;obtain⟨f,n,d⟩:=RelO.some_of (v:=v) (o:=valueAt D k) (by rw[l];exact c.val k);exact wpAny_getItem_of (Nd t) m.mapOf n (h f _ (I.tok _) d)
 ·subst j;cases(show u=Value.ref b from t);obtain⟨z,C,G,c,m⟩:=K0 I.hok e;obtain⟨f,n,d⟩:=RelO.some_of (v:=v) (o:=(atKey G k).map (·.2)) (by rw[l];exact c.val k);obtain⟨p,K,q⟩:=Zh.mp n;refine wpAny_getItem_heap (A3J hu) (key_of I.hok B) m K ?_;rw[q];exact h f _ (I.tok _) d
def FZ{c:A2y}{g:Nat}{d:HO}(I:Inv X pins σ H s)(h:Mut (H a))(i:Z7 a s.heap c)(j:∃ q,c.get? a=O q)(f:ObjOk X.prog X.w (upd H a d) c a d):
 Inv X pins σ (upd H a d) {s with heap:=c,toks:=g}:=
 I.write (x:=a) (e:=a) h (.inl J) (λb q k z=>(i.2 b k).trans z) j f
def Ie{P:A2r}{w:A2u}{f:Hp}{e:A2y}{b:U (Key×V)}{c:U (Key×F)}(z:b.length<=A2s)(g:(a == A2S)=aD)(d:KV b c)(h:e.DictOf (j4 P w) a c):
 ObjOk P w f e a (.dK b):=⟨z,g,c,d,h⟩
def Lu{D:Hp}{Q:Unit->A2m->Prop}(hu:A.units+1<cLine)(I:Inv X pins σ H s)(g:DPut H a y v D)(G:RelV y u)(K:RelV v r)(h:∀ L,Inv X pins σ D L->Q () L):
 A2o (A2q X.prog X.w) A (setItem (.ref a) u r) Q E s:=by
 rcases g with⟨d,k,e,m,l,n⟩ | ⟨d,k,b,e,m,M,l,n⟩
 ·subst m n;obtain⟨z,p,R,f,t⟩:=Wq I.hok e;have x:R.length<=A2s:=by rw[<-f.length];exact z
  have B:(AM d k v).length<=A2s:=by have:=Bh d k v;lia
  refine wpAny_setItem_pairs (hsz:=x) (Nd G) t λN i C=>h _ ?_;have S:∃ q,N.get? a=O q:=let ⟨q,_,_,j,_⟩:=i;⟨q,j⟩
  exact FZ I (by rw[e];exact True.intro) C S (Ie B p (f.put k K) i)
 ·subst m n;cases(show u=Value.ref b from G);obtain⟨z,p,T,f,t⟩:=Ti I.hok e;have x:T.length<=A2s:=by rw[<-Paired.length f];exact z
  have B:(AM d k v).length<=A2s:=by have:=Bh d k v;lia
  refine wpAny_setItem_heap (hsz:=x) (A3J hu) (key_of I.hok M) t λN i C=>h _ ?_;obtain⟨q,V,W,j,h2,h3,h4,_,h5⟩:=i;refine FZ I (by rw[e];exact True.intro) C ⟨q,j⟩ ⟨B,p,_,(f.put k M K).keeps λc ys P=>?_,q,V,W,j,h2,h3,h4,h5⟩;rw[g7 (Jk P e (λz=>nomatch z))];exact P
end
def Wr(i:A2p):Prop:=∀ a b,A4d i aD a b=operate [a,b] (getItem a b)
def RG{prog:A2r}{w:A2u}{A:A2w}{E:F->A2m->Prop}{s:A2m}{g:Env}{b a:A2p}{m:Pos}{T id:String}{Q:F->A2m->Prop}
 (p:A3H (.type T) "__getitem__"=pure (O (.builtin id))) (q:Wr a)
 (h:A2o (A2q prog w) A (eval b g) (λo e=>A2o (A2q prog w) A (eval a g) (λi c=>c.TypeIs o T/\A2o (A2q prog w) A (getItem o i) Q E c) E e) E s):
 A2o (A2q prog w) A (eval (.Subscript b a m) g) Q E s:=by
 refine A53 (A2J h (λo e k=>A2J k (λi c d=>?_) λ_ _ x=>x) λ_ _ x=>x);obtain⟨n,d⟩:=d;unfold A4t;refine Z ?_;rw[getitemInPython_of_ne n.not_modules];refine Z (A4U n p ?_)
 have j:A2o (A2q prog w) A (A4d a aD o i) (λr f=>A2o (A2q prog w) A (letTemporaryGo b o r >>= λ_=>pure r) Q E f) E c:=by
  rw[q o i];exact wpAny_operating (A2J d (λr f l=>Z (wpAny_letTemporaryGo (A2l l))) λ_ _ x=>x)
 first
  | exact A2l (Z j)
  | exact Z (A2l (Z j))
  | exact Z j
def Gg{X:Cx}{c:U (Y×Obj)}{h:St}{H:Hp}{s:A2m}{a:Y}{y:V}{o:Option V}(I:Inv X c h H s)(g:DGet H a y o):s.TypeIs (.ref a) "dict":=by
 rcases g with⟨d,k,e,_,_⟩ | ⟨d,k,b,e,_,_,_⟩
 ·obtain⟨_,_,i,_,f⟩:=Jz I.hok e;exact f.typeIs
 ·obtain⟨_,_,j,_,f⟩:=K0 I.hok e;exact f.typeIs
def Ws(d ty:TE):TE:=λb H Q=>d b H λx e=>ty b e λy c=>∃ a v,x = .ref a/\DGet c a y (O v)/\Q v c
section
variable{X:Cx}{o i e value:A2p}{pos pos' tpos:Pos}{td ty tv:TE}
def K1(hu:X.A.units+1<cLine)(j:PE X o td)(k:PE X i ty)(l:Wr i):PE X (.Subscript o i pos) (Ws td ty):=by intro b s d H Q I h;refine RG PySem.F.slot_dict_getitem.lookup l (thn (j b s d H _ I h) λu m ⟨x,n,p,q,q1⟩=>thn (k b m d n _ p q1) λC D r=>?_);obtain⟨y,t,f,w,a,v,z,g,q2⟩:=r;subst z;obtain rfl:u=Value.ref a:=q;exact⟨Gg f g,Ls hu f g w λE G B c=>⟨v,t,B,c,q2⟩⟩
end
def Nf{P:A2r}{w:A2u}{H:Hp}(h:A2y)(a:A2S<h.objs.size):ObjOk P w H (h.push {cls := .type "dict",data := .dict #[]}) h.objs.size (.dT []):=
 ⟨ZY _,beq_eq_false_iff_ne.mpr (Ne.symm (Ys a)),[],.nil,_,#[],0,Yn _ J,⟨J,J,J⟩,J,J,A1o⟩
def Uu:TE:=λ_ H Q=>∀ p,H p=aB->Q (.ref p) (upd H p (.dT []))
section
variable{X:Cx}{pos:Pos}
def Ng:PE X (.Dict [] [] pos) Uu:=λb s c H Q I h=>
 wpAny_Dict_empty ⟨.ref s.heap.objs.size,_,I.laid (a:=s.heap.objs.size) (o := .dT []) (t':=s.toks) (λ_ _ q=>Yf _ q) (Ym _) (Nf s.heap I.big),J,h _ (I.hok.fresh (Ym _))⟩
end
def Aa(kvs more:U (Key×V)):U (Key×V):=more.foldl (λa kv=>AM a kv.1 kv.2) kvs
def KV.merge:∀{more:U (Key×V)} {b:U (Key×A2k)} {kvs:U (Key×V)} {a:U (Key×A2k)},KV more b->KV kvs a->KV (Aa kvs more) (merged a b):=by
 intro more b kvs a r;unfold KV at r
 induction r generalizing kvs a with
 | nil=>intro q;exact q
 | @cons p q f g h t c=>
   intro d
   have e:KV (AM kvs p.1 p.2) (stored a q.1 q.2):=by
    have:=d.put p.1 h.2;rw[<-h.1];exact this
   exact c e
structure M2(X:Cx)(o:A2p)(m:Str)(apos:Pos)(e f:A2p)(cpos:Pos):Prop where
 base:A3Q o m X.env (eval o X.env)=eval o X.env
 few:((backTo cpos (A2x [e,f] X.env)).all (λx=>!x.1)&&(A3z cpos (A3f [] X.env)).all (λx=>x.1.isSome)
  && decide (([e,f]:List A2p).length+([]:List Keyword).length+(if ([]:List Keyword).isEmpty then 0 else 1)<30))=aC
 line:(apos.endLine == cpos.line)=aC
 trees:backTo cpos (A2x [e,f] X.env)=[(aD,eval e X.env),(aD,eval f X.env)]
def IsD(H:Hp)(a:Y):Prop:=(∃ kvs,Rd H a (.dK kvs))\/∃ kvs,Rd H a (.dT kvs)
def Uv{X:Cx}{f:U (Y×Obj)}{l:St}{H:Hp}{s:A2m}{a:Y}(I:Inv X f l H s)(d:IsD H a):
 s.TypeIs (.ref a) "dict"/\(∀ b,Value.ref a = .ref b->∃ c,s.heap.get? b=O c/\c.dict=aB)/\(a == A2S)=aD:=by
 rcases d with⟨h,e⟩ | ⟨h,e⟩
 ·obtain⟨_,i,m,_,g⟩:=Jz I.hok e;refine⟨g.typeIs,λb q=>?_,i⟩;cases q;obtain⟨c,_,_,j,k,_⟩:=g;exact⟨c,j,k.2.1⟩
 ·obtain⟨_,i,n,_,g⟩:=K0 I.hok e;refine⟨g.typeIs,λb q=>?_,i⟩;cases q;obtain⟨c,_,_,j,k,_⟩:=g;exact⟨c,j,k.2.1⟩
end L2
set_option maxHeartbeats 1000000
namespace L2
open PySem PySem.Spec PyProof.Rows
section
variable{X:Cx}{pins:U (Y×Obj)}{σ:St}{H:Hp}{s:A2m}{a:Y}{u u':HO}
def Inv.retag(I:Inv X pins σ H s)(hu:H a=aA u)(k:∀ f,u ≠ .tup f)(r:∀ y,u ≠ .own y)(t:∀ i,u ≠ .tbl i)(v:∀ o f,u ≠ .frz o (.lst f))(j:ObjOk X.prog X.w (upd H a u') s.heap a u'):Inv X pins σ (upd H a u') s:=by
 have h:∀ b,H b=aB->b≠a:=λb n z=>by rw[z,hu]at n;cases n
 refine⟨I.ok,I.os,I.bare,⟨I.base.keep,I.base.slot,λb o e n A=>?_,I.base.there,λb f e=>?_,λb o w e=>?_,λb i e=>?_⟩,I.loc,I.cell,?_,λx c e=>?_,λp B=>?_,λb o e=>?_,I.len⟩
 ·have q:=I.base.free b o e n A;rw[g7 (h b q)];exact q
 ·have q:=I.base.tups b f e;by_cases d:b=a
  ·rw[d,hu]at q;exact absurd (oj q) (k f)
  ·rw[g7 d];exact q
 ·have q:=I.base.frzs b o w e;by_cases d:b=a
  ·rw[d,hu]at q;exact absurd (oj q) (v o w)
  ·rw[g7 d];exact q
 ·obtain⟨m,q⟩:=I.base.tbls b i e;by_cases d:b=a
  ·rw[d,hu]at q;exact absurd (oj q) (t _)
  ·exact⟨m,by rw[g7 d];exact q⟩
 ·rw[g7 (h _ I.free)];exact I.free
 ·rw[g7 (h _ (I.freeC x c e))];exact I.freeC x c e
 ·obtain⟨C,l,D⟩:=I.pin p B;exact⟨C,by rw[g7 (h _ l)];exact l,D⟩
 ·by_cases d:b=a
  ·subst d;rw[i3]at e;cases e;exact j
  ·rw[g7 d]at e;refine(I.hok b o e).stay (λ_ _ _ q=>q) (λc q=>?_) (λc f q=>?_)
   ·by_cases g:c=a
    ·rw[g,hu]at q;exact absurd (oj q) (r _)
    ·rw[g7 g];exact q
   ·by_cases g:c=a
    ·rw[g,hu]at q;exact absurd (oj q) (k _)
    ·rw[g7 g];exact q
def Inv.melt{b:U (Key×V)}{o:Obj}(I:Inv X pins σ H s)(hu:H a=aA (.frz o (.dK b))):Inv X pins σ (upd H a (.dK b)) s:=
 I.retag hu nofun nofun nofun (λc d z=>by injection z with e z2;cases z2) (show ObjOk X.prog X.w H s.heap a (.frz o (.dK b)) from I.hok a _ hu).2
end
section
variable{X:Cx}{tg:A2p}
def Y2(H b:Hp):Prop:=∃ a o ks,H a=O (.frz o (.dK ks))/\b=upd H a (.dK ks)
def Nh(f ty g:TE):TS:=λD c H=>g c H λv h=>f c h λx i=>ty c i λy d=>∃ a b e,x = .ref a/\(b=d\/Y2 d b)/\DPut b a y v e/\D.nx c e
def Ni{o i c:A2p}{f e:Pos}{n ty p:TE}(hu:X.A.units+1<cLine)(t:PE X o n)(w:PE X i ty)(z:PE X c p)(B:A3b c (O (.Subscript o i e)) f.line X.env=pure aD):
 PS X (.Assign [.Subscript o i e] c f) (Nh n ty p):=by
 intro d s j H D I h;refine wpAny_Assign_Subscript (thn (z d s j H _ I h) λr C ⟨v,E,G,K,q1⟩=>thn (t d C j E _ G q1) λu L ⟨x,M,N,P,q2⟩=>thn (w d L j M _ N q2) λW Q ⟨y,H3,q,R,a,k,S,T,m,g,q3⟩=>?_) B;subst T;obtain rfl:u=Value.ref a:=P
 have l:Inv X d j k Q:=by
  rcases m with rfl | ⟨b,o',ks,e1,rfl⟩
  ·exact q
  ·exact q.melt e1
 exact Lu hu l g R K λs4 V=>⟨j,S,V,q3⟩
end
def Bw:A4I table "dict.update.loop"=O Builtin.«dict.update.loop»:=entryFor_of_tree (by kernel_rfl)
def AD:plainId "dict.update.loop"=aC:=by decide +kernel
def Lv:A3H (.type "list") "keys"=pure aB:=A45 (by kernel_rfl)
section
variable{prog:A2r}{w:A2u}{A:A2w}{E:F->A2m->Prop}{s:A2m}
def Lw{a:Y}{xs:Array A2k}{Q:Option A2k->A2m->Prop}(hl:PlainL s.heap a xs)(hA:A.handled=aB)
 (h:∀ h' tk,(∀ b ob,s.heap.get? b=O ob->h'.get? b=O ob)->Q aB {s with heap:=h',toks:=tk}):A2o (A2q prog w) A (A56 (.ref a) "keys") Q E s:=by
 obtain⟨⟨c,dct,dat,sl⟩,k,hx,hc,hd,hdat⟩:=hl;simp only at hc hdat hd;subst hc hdat hd;obtain⟨hp,g,d,tk,os⟩:=s;have hT:∀ tk',(⟨hp,g,d,tk',os⟩:A2m).TypeIs (.ref a) "list":=λ_=>⟨_,hx,J⟩
 have f1:=A4B;have f3:=F.slot_list_getattribute.lookup;have f4:=F.slot_list_getattribute.bind (.ref a);have f5:=am_list_getattr_none;unfold A56 getAttrBy? getAttrBy
 repeat (any_goals (first | assumption | exact hT _ | ((with_reducible show A2o _ _ (call (Value.builtin "list.__getattribute__") _ _) _ _ _);refine A3k F.slot_list_getattribute (hT _) am_entry_list_getattribute (F.args_list_getattribute_2 _ _) (meets_getattribute_miss_list a xs k sl "keys" _ Lv (by decide +kernel) (by size_fits)) ⟨hx,hA,λh' tk' e hx'=>?_⟩) | wp_step))
 obtain⟨t',u',he⟩:=hx'.there;show A2o _ _ (A3q _ _ _ _ _ _ _) _ _ _;unfold A3q
 repeat (any_goals (first | assumption | wp_step))
 exact h _ _ hx'.keeps
end
section
variable{prog:A2r}{w:A2u}{A:A2w}{R:Result->A2m->Prop}{I:Y}{fp wr:U Y}{G:Array A4Y->Array A4Y->Prop}{n:Nat}{P:Nat->F->Prop}{St:Nat->A2m->Prop}
noncomputable def TupsAt(prog:A2r)(w:A2u)(h:A2y)(n:Nat)(ta:Nat->Y)(kv:Nat->Key×F):Prop:=∀ i,i<n->∃ a,(j4 prog w).is (kv i).1 a=aC/\h.IsTuple (ta i) #[a,(kv i).2]
def TupsAt.keep{h c:A2y}{a:Nat->Y}{d:Nat->Key×A2k}(t:TupsAt prog w h n a d)(k:∀ i o,i<n->h.get? (a i)=aA o->c.get? (a i)=aA o):TupsAt prog w c n a d:=λi e=>by
 obtain⟨b,f,o,g,r⟩:=t i e;exact⟨b,f,o,k i o e g,r⟩
def Y3(W:WalksS prog w A.in1 I fp wr G n P St)(d:Y)(h:d∉fp)(l:Nat->Y)(a:Nat->Key×F)(p:∀ i v,i<n->P i v->v = .ref (l i))(q:∀ i,i<n->l i∉wr/\l i≠d)(x:n<=A2s):
 ∀(k i:Nat) (s:A2m) (j:Int) (C:Tok),i+k=n->St i s->TupsAt prog w s.heap n l a->s.heap.DictOf (j4 prog w) d (merged [] ((Ye i).map a))->
  (∀ t,Moved (d::wr) G s t->t.heap.DictOf (j4 prog w) d (merged [] ((Ye n).map a))->R (.ok (.ret .none)) t)->
  codeAny (A2q prog w) A (.builtin "dict.update.loop" ⟨[.ref d,.ref I,.int j C,.none],[]⟩) R s:=by
 have X:d∉wr:=λz=>h (W.sub _ z);have up:∀ b∈wr,b∈d::wr:=λb x=>Yh _ x;intro k
 induction k with
 | zero=>
   intro i s j C hk c hT D E;obtain rfl:i=n:=hk;refine A2N Bw ?_;rw[Around.under_plainId AD _];refine Z (m:=pyNext (.ref I)) (W.done s _ _ c λt f=>?_);show A2o _ _ (Builtin.Dict.addKeywords d [] >>= _) _ _ _;refine Z (A2l (A2l (E t (f.mono up) ?_)));obtain⟨o,H,K,g,r⟩:=D;exact⟨o,H,K,f.heap d o X g,r⟩
 | succ k ih=>
   intro i s j C hk c hT D E;refine A2N Bw ?_;rw[Around.under_plainId AD _];refine Z (m:=pyNext (.ref I)) (W.item i s _ _ (by lia) c λv y hP L f=>?_);obtain rfl:=p i v (by lia) hP;have T1:TupsAt prog w y.heap n l a:=hT.keep λM o N e=>f.heap _ o (q M N).1 e;obtain⟨a0,u,o,g,hc,m,hd⟩:=T1 i (by lia)
   have X1:y.heap.DictOf (j4 prog w) d (merged [] ((Ye i).map a)):=by
    obtain⟨o,H,K,g,r⟩:=D;exact⟨o,H,K,f.heap d o X g,r⟩
   have len:(merged [] ((Ye i).map a)).length<=A2s:=by
    have:=A3w [] ((Ye i).map a);rw[YY,Z0]at this;simp at this
    lia
   refine Z (A2A (Z (A3c ?_)));unfold Builtin.Dict.pairItems;refine Z (A2U (T:="tuple") ⟨o,g,hc⟩ ?_);rw[iP (by decide)];refine Z (A2E g hd (A2l ?_));refine A2A (A4p u X1 (λh2 B Q=>?_) len)
   have B:h2.DictOf (j4 prog w) d (merged [] ((Ye (i+1)).map a)):=by
    rw[ZV,Yo];unfold merged at B ⊢;rw[A0r];exact B
   have oth:∀ b o,b≠d->y.heap.get? b=O o->h2.get? b=O o:=λb o S e=>(Q.2 b S).trans e;refine A2l ⟨A2M AD _,ih (i+1) _ _ _ (by lia) (W.frame _ y _ _ L (A0l _) λb V o e=>oth b o (λz=>h (z▸V)) e) (T1.keep λM o N e=>oth _ o (q M N).2 e) B λs3 m3 X3=>?_⟩;exact E s3 (Moved.trans W.gtrans ((f.mono up).then_heap (A0l _) λb o x e=>oth b o (λz=>x (by rw[z];exact Yi)) e) m3) X3
end
section
variable{prog:A2r}{w:A2u}{A:A2w}{E:F->A2m->Prop}{s:A2m}
def Uw{l:Y}{items:Array A2k}{ta:Nat->Y}{kv:Nat->Key×A2k}{Q:A2k->A2m->Prop}(K:A.handled=aB)(P:PlainL s.heap l items)(x:∀(i:Nat) (v:A2k),items[i]?=O v->v=Value.ref (ta i))(L:TupsAt prog w s.heap items.size ta kv)(R:items.size<=A2s)
 (h:∀(j:A2y) (S:Nat),j.DictOf (j4 prog w) s.heap.objs.size (merged [] ((Ye items.size).map kv))->(∀ b o,s.heap.get? b=O o->j.get? b=O o)->Q (.ref s.heap.objs.size) {s with heap:=j,toks:=S}):
 A2o (A2q prog w) A (call (.type "dict") [.ref l]) Q E s:=by
 refine A57 (Q₁:=λk f=>k = .ref s.heap.objs.size/\f={s with heap:=s.heap.push {cls := .type "dict",data := .dict #[]}}) F.kt_called_dict (F.kt_typeCall_dict_1 _) F.entry_dict_init (A4O _ ⟨J,J⟩) ?_;rintro k f ⟨rfl,rfl⟩;have c:(s.heap.push {cls := .type "dict",data := .dict #[]}).DictOf (j4 prog w) s.heap.objs.size []:=A2h.new s.heap;obtain⟨m,M,n,y,V,p⟩:=P;have d:(s.heap.push {cls := .type "dict",data := .dict #[]}).get? l=O m:=Yf _ n;refine⟨c.typeIs,F.args_dict_init_2 _ _,?_⟩;unfold Builtin.«dict.__init__»;refine Z ?_;unfold Builtin.Dict.selfAndRest;refine Z (A3i c.typeIs ?_);show A2o _ _ (pure (s.heap.objs.size,[Value.ref l])) _ _ _;refine A2l ?_;show A2o _ _ (Builtin.Dict.updateFrom "dict.__init__" s.heap.objs.size (.ref l) [] .none) _ _ _;unfold Builtin.Dict.updateFrom;refine Z (A2U (T:="list") ⟨m,d,y⟩ ?_);rw[iP (by decide)];refine Z (Lw ⟨m,M,d,y,V,p⟩ (by simp[K]) λg W a=>?_);simp only[A26,if_true];refine Z (A2K ?_);have X:l<s.heap.objs.size:=Yk n;have dS:g.get? s.heap.objs.size=O {cls := .type "dict",data := .dict #[]}:=a _ _ (Yn _ J);have N:g.get? l=O m:=a _ _ d;have q:g.IsList l items:=⟨m,N,y,M,p⟩
 refine Z (A36 q ?_);have B:s.heap.objs.size<g.objs.size:=Yk dS;have lI:l≠g.objs.size:=Ys (Yk N)
 have C:s.heap.objs.size∉[g.objs.size,l]:=by
  intro z;rcases Yp.mp z with z | z
  ·exact absurd z (Ys B)
  ·exact absurd (Yt.mp z) (A0z X)
 have T1:TupsAt prog w g items.size ta kv:=L.keep λi o _ e=>a _ _ (Yf _ e)
 have D:∀ i,i<items.size->ta i∉[g.objs.size]/\ta i≠s.heap.objs.size:=λi x=>by
  obtain⟨_,_,o,G,_⟩:=L i x;have t:=Yk G;exact⟨λz=>absurd (Yt.mp z) (Ys (A0h t B)),Ys t⟩
 refine A2l ⟨A2M AD _,?_⟩
 refine Y3 ((Walks.list (by simp[K]) _ l lI items).toS) s.heap.objs.size C ta kv (λi v _ hv=>x i v hv) D R items.size 0 _ _ _ (A1e _)
  ⟨⟨_,Yn _ J,J,J⟩,q.push _⟩ (T1.keep λi o _ e=>Yf _ e) ?_ λs' u X'=>?_
 ·obtain⟨o,es,ep,G,r⟩:=c;exact⟨o,es,ep,Yf _ (a _ _ G),r⟩
 ·obtain⟨j,g',d',H,I⟩:=s';obtain rfl:g'=s.gens:=u.gens;obtain rfl:d'=s.drawn:=u.drawn;obtain rfl:I=s.os:=u.os;refine⟨J,h j H X' λb o e=>u.heap b o (λz=>?_) (Yf _ (a _ _ (Yf _ e)))⟩;have t:=Yk e;rcases Yp.mp z with z | z
  ·exact absurd z (Ys t)
  ·exact absurd (Yt.mp z) (Ys (A0h t B))
end
section
variable{X:Cx}
theorem K2{a:U (Y×Obj)}{k:St}{H:Hp}{s:A2m}(I:Inv X a k H s):∀(b:U (Y×Int×V)),(∀ t∈b,H t.1=O (.tup [.int t.2.1,t.2.2]))->∃ d:U (Key×F),KV (b.map λt=>((.inl t.2.1:Key),t.2.2)) d/\∀(i:Nat) (t:Y×Int×V),b[i]?=O t->∃ c r,d[i]?=O r/\(j4 X.prog X.w).is r.1 c=aC/\s.heap.IsTuple t.1 #[c,r.2]
 | [],_=>⟨[],.nil,λi t e=>by cases e⟩
 | t::b,g=>by
   obtain⟨d,l,h⟩:=K2 I b λu hu=>g u (Yh _ hu);obtain⟨p,m,n,_⟩:=I.tuple (.inl (.inl (g t (Yi ..))));obtain⟨u,v,rfl,o,f⟩:=NN m;obtain⟨q,rfl⟩:=o;refine⟨(.inl t.2.1,v)::d,.cons ⟨J,f⟩ l,λi j e=>?_⟩;cases i with
   | zero=>
     obtain rfl:t=j:=oj e;exact⟨_,_,J,Bb _ _ _ _,n⟩
   | succ i=>exact h i j e
theorem K3:∀{b:U (Y×Int×V)} {a:U F},Vals (b.map λt=>V.ref t.1) a->∀(i:Nat) (v:F),a[i]?=O v->v=Value.ref ((b.getD i (0,0,.non)).1)
 | [],a,r,i,v,e=>by cases r;cases e
 | t::b,a,r,i,v,e=>by
   cases r with
   | cons h r=>
     cases i with
     | zero=>
       cases e;exact h
     | succ i=>exact K3 r i v e
def Ig(w:X.calm=aC):CallR X (.type "dict") (λj H Q=>∃(p:Y) (a:U (Y×Int×V)),j=[.ref p]/\SqL X.K H p (a.map λt=>V.ref t.1)/\(∀ t∈a,H t.1=O (.tup [.int t.2.1,t.2.2]))/\a.length<=900/\∀ l,H l=aB->Q (.ref l) (upd H l (.dK (Aa [] (a.map λt=>((.inl t.2.1:Key),t.2.2)))))):=by
 intro k s P H j R Q I r h;obtain⟨p,a,rfl,x,y,S,q⟩:=h;obtain⟨u,rfl,z⟩:=Af r;cases z;obtain⟨b,m,A,T⟩:=I.list x;have d:=m.length;rw[YY]at d;obtain⟨c,kv,B⟩:=K2 I a y;have W:c.length=a.length:=by have:=KV.length kv;rw[YY]at this;exact this.symm
 have ref:∀(i:Nat) (v:F),b[i]?=O v->v=Value.ref ((a.getD i (0,0,.non)).1):=K3 m
 have C:(Ye b.toArray.size).map (λi=>c.getD i (.inl 0,.none))=c:=by
  apply A0D
  ·simp;lia
  ·intro i h1 D;simp[Ya D]
 refine Uw (items:=b.toArray) (ta:=λi=>(a.getD i (0,0,.non)).1) (kv:=λi=>c.getD i (.inl 0,.none)) (I.ok.hd w) A (λi v e=>ref i v (by simpa using e)) (λi f=>?_) (by simp only[Yl];rw[A3j];lia) λh' E n G=>?_
 ·simp only[Yl]at f;have f:i<a.length:=by lia
  obtain⟨g,r,e,L,M⟩:=B i a[i] (Ya f);refine⟨g,?_⟩;simp only[Yg,e,Ya f,A14];exact⟨L,M⟩
 ·rw[C]at n;have o:KV (Aa [] (a.map λt=>((.inl t.2.1:Key),t.2.2))) (merged [] c):=KV.merge kv .nil
  have N:(Aa [] (a.map λt=>((.inl t.2.1:Key),t.2.2))).length<=A2s:=by
   rw[KV.length o];have:=A3w [] c;simp at this;rw[A3j];lia
  exact⟨.ref s.heap.objs.size,_,I.laid (t':=E) G (Ym _) (Ie N (beq_eq_false_iff_ne.mpr (Ne.symm (Ys I.big))) o n),J,q _ (I.hok.fresh (Ym _))⟩
end
end L2
set_option maxHeartbeats 2000000
namespace L2
open PySem PySem.Spec PyProof.Rows
theorem KV.at{c:Type}{d:U (c×V)}{e:U (c×A2k)}(r:KV d e):∀{i:Nat} {p:c×V},d[i]?=aA p->∃ v,e[i]?=aA (p.1,v)/\RelV p.2 v:=by
 intro i
 induction r generalizing i with
 | nil=>exact λh=>by simp at h
 | @cons a b _ _ h _ g=>
   intro p f;cases i with
   | zero=>cases f;exact⟨b.2,by rw[h.1];rfl,h.2⟩
   | succ i=>exact g f
mutual
noncomputable def Dat(H:Hp):V->PyData->Prop
 | x,.none=>x = .non
 | x,.bool b=>x = .bl b
 | x,.int i=>x = .int i
 | x,.str s=>x = .str s
 | x,.list c=>∃ a xs,x = .ref a/\H a=O (.lst xs)/\DatAll H xs c
 | x,.tuple c=>∃ a xs,x = .ref a/\H a=O (.tup xs)/\DatAll H xs c
 | _,.dict _=>False
noncomputable def DatAll(H:Hp):U V->U PyData->Prop
 | [],[]=>True
 | x::xs,d::a=>Dat H x d/\DatAll H xs a
 | [],_::_=>False
 | _::_,[]=>False
end
mutual
theorem Dat.mono{H j:Hp}(k:∀ b o,H b=aA o->j b=aA o):∀(x:V) (d:PyData),Dat H x d->Dat j x d
 | _,.none,h=>by unfold Dat at h ⊢;exact h
 | _,.bool _,h=>by unfold Dat at h ⊢;exact h
 | _,.int _,h=>by unfold Dat at h ⊢;exact h
 | _,.str _,h=>by unfold Dat at h ⊢;exact h
 | x,.list f,h=>by
   unfold Dat at h ⊢;obtain⟨a,c,e,g,i⟩:=h;exact⟨a,c,e,k _ _ g,DatAll.mono k c f i⟩
 | x,.tuple f,h=>by
   unfold Dat at h ⊢;obtain⟨a,c,e,g,i⟩:=h;exact⟨a,c,e,k _ _ g,DatAll.mono k c f i⟩
 | _,.dict _,h=>by unfold Dat at h;exact h.elim
theorem DatAll.mono{H e:Hp}(k:∀ b o,H b=aA o->e b=aA o):∀(a:U V) (c:U PyData),DatAll H a c->DatAll e a c
 | [],[],_=>by unfold DatAll;trivial
 | x::a,d::c,h=>by
   unfold DatAll at h ⊢;exact⟨Dat.mono k x d h.1,DatAll.mono k a c h.2⟩
 | [],_::_,h=>by unfold DatAll at h;exact h.elim
 | _::_,[],h=>by unfold DatAll at h;exact h.elim
end
section
variable{X:Cx}{pins:U (Y×Obj)}{σ:St}{H:Hp}{s:A2m}
mutual
theorem Inv.reads(I:Inv X pins σ H s):∀(x:V) (d:PyData) (v:A2k),Dat H x d->RelV x v->∃ c,Reads s.heap v d c
 | _,.none,_,h,r=>by unfold Dat at h;subst h;cases r;exact⟨_,.none⟩
 | _,.bool _,_,h,r=>by unfold Dat at h;subst h;cases r;exact⟨_,.bool _⟩
 | _,.int _,_,h,r=>by unfold Dat at h;subst h;obtain⟨t,rfl⟩:=r;exact⟨_,.int _ _⟩
 | _,.str _,_,h,r=>by unfold Dat at h;subst h;obtain⟨t,rfl⟩:=r;exact⟨_,.str _ _⟩
 | x,.list e,v,h,r=>by
   unfold Dat at h;obtain⟨a,f,rfl,g,i⟩:=h;cases r;obtain⟨b,j,k,_⟩:=I.list (SqL.of g);obtain⟨o,n,l,m,_,p⟩:=k;obtain⟨c,q⟩:=Inv.readsAll I f e b i j;exact⟨_,.list l m p (by simpa using q)⟩
 | x,.tuple e,v,h,r=>by
   unfold Dat at h;obtain⟨a,f,rfl,g,i⟩:=h;cases r;obtain⟨b,j,k,_⟩:=I.tuple (SqT.of g);obtain⟨o,l,m,n,p⟩:=k;obtain⟨c,q⟩:=Inv.readsAll I f e b i j;exact⟨_,.tuple l m p (by simpa using q)⟩
 | _,.dict _,_,h,_=>by unfold Dat at h;exact h.elim
theorem Inv.readsAll(I:Inv X pins σ H s):∀(a:U V) (b:U PyData) (c:U A2k),DatAll H a b->Vals a c->∃ e,ReadsAll s.heap c b e
 | [],[],_,_,r=>by cases r;exact⟨_,.nil⟩
 | x::a,d::b,_,h,r=>by
   unfold DatAll at h;cases r with
   | cons r1 f=>
     obtain⟨e,g⟩:=Inv.reads I x d _ h.1 r1;obtain⟨j,i⟩:=Inv.readsAll I a b _ h.2 f;exact⟨_,.cons g i⟩
 | [],_::_,_,h,_=>by unfold DatAll at h;exact h.elim
 | _::_,[],_,h,_=>by unfold DatAll at h;exact h.elim
end
end
mutual
theorem Dat.noDict{H:Hp}:∀(x:V) (d:PyData),Dat H x d->d.hasDict=aD
 | _,.none,_=>by simp only[PyData.hasDict]
 | _,.bool _,_=>by simp only[PyData.hasDict]
 | _,.int _,_=>by simp only[PyData.hasDict]
 | _,.str _,_=>by simp only[PyData.hasDict]
 | x,.list b,h=>by
   unfold Dat at h;obtain⟨a,c,e,g,f⟩:=h;simp only[PyData.hasDict];exact DatAll.noDict c b f
 | x,.tuple b,h=>by
   unfold Dat at h;obtain⟨a,c,e,g,f⟩:=h;simp only[PyData.hasDict];exact DatAll.noDict c b f
 | _,.dict _,h=>by unfold Dat at h;exact h.elim
theorem DatAll.noDict{H:Hp}:∀(b:U V) (a:U PyData),DatAll H b a->PyData.hasDictAll a=aD
 | [],[],_=>by simp only[PyData.hasDictAll]
 | x::b,d::a,h=>by
   unfold DatAll at h;simp only[PyData.hasDictAll,A1p];exact⟨Dat.noDict x d h.1,DatAll.noDict b a h.2⟩
 | [],_::_,h=>by unfold DatAll at h;exact h.elim
 | _::_,[],h=>by unfold DatAll at h;exact h.elim
end
def Ih:PyData->Str
 | .str x=>x
 | d=>d.shown
section
variable{X:Cx}
structure Fit(d:PyData):Prop where
 sh:d.showable=aC
 sz:d.shown.length<=A2s
 dp:d.depth<=40
def Lx(n:X.A.guards=O [])(hu:X.A.units+100<cLine):CallR X (.type "str") (λm H Q=>∃ x d,m=[x]/\Dat H x d/\Fit d/\Q (.str (Ih d)) H):=by
 intro l s o H m D Q I r h;obtain⟨x,d,rfl,c,f,q⟩:=h;obtain⟨u,rfl,k⟩:=Af r
 have j:∀ a,u = .ref a->(∀ z,d ≠ .str z)->A2o (A2q X.prog X.w) X.A (call (.type "str") [u]) (EP X l o Q) X.xe s:=λa e p=>by
  subst e;obtain⟨E,v⟩:=I.reads x d _ c k;refine str_of_reads v f.sh (PyData.noDict_hsm (Dat.noDict x d c)) n (by have:=f.dp;lia) (λ_ _ e=>e) (λG u y B=>?_) f.sz;refine⟨.str d.shown,H,I.kept (t':=y) B,⟨_,J⟩,?_⟩
  have e:Ih d=d.shown:=by
   cases d with
   | str z=>exact absurd J (p z)
   | _=>rfl
  rw[<-e];exact q
 cases d with
 | none=>unfold Dat at c;subst c;cases k;exact P.str_of_none ⟨.str "None",H,I.tok _,⟨_,J⟩,q⟩
 | bool b=>unfold Dat at c;subst c;cases k;exact P.str_of_bool ⟨.str (if b then "True" else "False"),H,I.tok _,⟨_,J⟩,by cases b<;>exact q⟩
 | int i=>unfold Dat at c;subst c;obtain⟨t,rfl⟩:=k;exact P.str_of_int (by have:=f.sh;simpa[PyData.showable] using this) ⟨.str (toString i),H,I.tok _,⟨_,J⟩,q⟩
 | str z=>unfold Dat at c;subst c;obtain⟨t,rfl⟩:=k;exact P.str_of_str ⟨.str z,H,I,⟨_,J⟩,q⟩
 | list C=>
   have g:=c;unfold Dat at g;obtain⟨a,m,rfl,_⟩:=g;exact j a k (λz e=>nomatch e)
 | tuple C=>
   have g:=c;unfold Dat at g;obtain⟨a,m,rfl,_⟩:=g;exact j a k (λz e=>nomatch e)
 | dict _=>unfold Dat at c;exact c.elim
end
section
variable{X:Cx}{a b:A2p}{ta:TE}{pos:Pos}
def Ly:OpR X (A2H .IsNot) (λx y H Q=>∃ c d,x = .bl c/\y = .bl d/\Q (.bl (c != d)) H):=by intro e s i H x y v u Q I f g h;obtain⟨c,d,rfl,rfl,q⟩:=h;cases f;cases g;exact isnot_bool ⟨.bl (c != d),H,I,J,q⟩
end
section
variable{X:Cx}
def Nj{prog:A2r}{w:A2u}{A:A2w}{E:A2k->A2m->Prop}{s:A2m}{t b:Y}{h:U A2k}{Q:A2k->A2m->Prop}(o:IsTup s.heap t #[])(p:IsTup s.heap b h.toArray)(q:Q (.ref b) s):
 A2o (A2q prog w) A (A30 .Add (.ref t) (.ref b)) Q E s:=by
 obtain⟨⟨r,u,i,v⟩,j,k,n,l⟩:=id o;obtain⟨⟨m,e,f,g⟩,a,c,x,d⟩:=id p;simp only at k l c d;subst k l c d
 exact A4F ⟨_,j,J⟩ ⟨_,a,J⟩ A3S A4s PySem.F.slot_tuple_add PySem.F.entry_tuple_add (PySem.F.args_tuple_add_2 _ _)
  (tuple_addW0 t b #[] h.toArray n x u e v g (by simp)) ⟨j,a,q⟩
def Nk(K:YZ):R2:=λx y H Q=>∃ a b ys,x = .ref a/\y = .ref b/\SqT K H a []/\SqT K H b ys/\Q (.ref b) H
def RH:OpR X (A30 .Add) (Nk X.K):=by intro c s n H x y v u Q I e f h;obtain⟨a,b,o,rfl,rfl,g,i,q⟩:=h;cases e;cases f;obtain⟨j,k,l,_⟩:=I.tuple g;obtain⟨d,p,m,_⟩:=I.tuple i;cases k;exact Nj l m ⟨.ref b,H,I,J,q⟩
def RI:OpR X (A30 .Add) (λx y H Q=>NR X.K x y H Q\/Nk X.K x y H Q):=op_catT.or RH
end
section
variable{prog:A2r}{w:A2u}{A:A2w}{E:F->A2m->Prop}{s:A2m}
open HT in
def EW{t f:Y}{a:Array F}{k l:F}{b e:Option Int}{Q:F->A2m->Prop}(c:IsTup s.heap t a)(m:s.heap.IsSliceOf f k l .none)(o:IsPart k b)(p:IsPart l e)
 (n:sIx a.size 0 b=0/\sIx a.size a.size e=a.size) (h:Q (.ref t) s):A2o (A2q prog w) A (getItem (.ref t) (.ref f)) Q E s:=by
 obtain⟨q,g,i,r⟩:=id m;have j:s.TypeIs (.ref f) "slice":=⟨q,g,i⟩
 unfold getItem
 try with_reducible refine A2A ?_
 first | refine Z (A2l ?_) | skip
 refine Z (A4G c.typeIs (by decide) ?_)
 refine Z (A2B (name:=Str.ofString "__getitem__") c.typeIs PyProof.Rows.slot_tuple_getitem
  (A2C PyProof.Rows.slot_tuple_getitem c.typeIs A4o ?_ (A4A _ _)))
 show A2o _ _ (Builtin.Tuple.tupleItemsOf (.ref t) >>= _) _ _ s;refine Z (tupleItemsOf_ c ?_);refine Z (A2U j ?_);rw[iP (by decide)];refine Z (B9 m o p ?_)
 have d:(((sIx a.size 0 b:Nat):Int) == 0&&(1:Int) == 1&&(sIx a.size a.size e - sIx a.size 0 b) == a.size)=aC:=by
  rw[n.1,n.2];simp
 show A2o _ _ (if (((sIx a.size 0 b:Nat):Int) == 0&&(1:Int) == 1&&(sIx a.size a.size e - sIx a.size 0 b) == a.size)=aC then _ else _) _ _ s;rw[iP d];unfold Builtin.Tuple.tupleIsExact;refine Z (Z (A2U c.typeIs (A2l ?_)));rw[iP (by decide)];exact Z (A2K (A2l ⟨_,J,A2l h⟩))
end
section
variable{X:Cx}
def Wt(K:YZ):V->Option Int->Option Int->Hp->VK->Prop:=λx b c H Q=>∃ a xs,x = .ref a/\SqT K H a xs/\(HT.sIx xs.length 0 b=0/\HT.sIx xs.length xs.length c=xs.length)/\Q (.ref a) H
def RJ:SlR X (Wt X.K):=by
 intro d s n H x v o p t u w Q I f g i j h;obtain⟨a,k,rfl,l,m,q⟩:=h;cases f;obtain⟨c,r,e,y⟩:=I.tuple l;have b:c.toArray.size=k.length:=by rw[Yl];exact r.length.symm
 exact⟨"tuple",_,PyProof.Rows.slot_tuple_getitem.lookup,e.typeIs,EW e g i j (by rw[b];exact m) ⟨.ref a,H,I,J,q⟩⟩
end
def b_set:A2v "set"=O (.type "set"):=by decide +kernel
section
variable{prog:A2r}{w:A2u}{A:A2w}{E:F->A2m->Prop}{s:A2m}
def Ii{b:SortSt}{n:Nat}{Q:AscSt->SortSt->Prop}(i:1<=n)(d:∀ x,1<=x->x<n->∀ f:Option Bool->SortSt->Prop,f (O aD) b->wpS (A2q prog w) A E s (ltAt' x (x - 1)) f b)
 (h:Q (aB,n) b):wpS (A2q prog w) A E s (ascLoop 1 n) Q b:=by
 unfold ascLoop;refine A4J (I:=λx c a=>a=b/\c=(aB,x)) ?step ?fin ⟨J,J⟩
 case fin=>
  rintro c a ⟨rfl,rfl⟩;rw[show max 1 n=n by lia];exact h
 case step=>
  rintro x c a e g ⟨rfl,rfl⟩;dsimp only;refine A3d (d x e (by lia) _ ?_);simp only[ZR,if_false];exact A3B ⟨J,J⟩
theorem CI{c b:Type}{f:c->Sem b}{M:Model}:∀(a:U c) (g:c->b) {Q:U b->A2m->Prop},(∀ v∈a,∀(d:b->A2m->Prop),d (g v) s->A2o M A (f v) d E s)->Q (a.map g) s->A2o M A (a.mapM f) Q E s
 | [],g,Q,_,h=>by rw[A27];exact A2l h
 | v::a,g,Q,e,h=>by
   rw[A0B];exact Z (e v (Yi ..) _ (Z (CI a g (λu hu=>e u (Yh _ hu)) (A2l h))))
def IsPr(h:A2y)(v:F)(a b:Int):Prop:=∃ p o n t u,v = .ref p/\h.get? p=O o/\o.cls = .type "tuple"/\o.data = .seq #[.int a t,.int b u] n
def Cw(v:F):firstOfTuple' v=(do
 if (<- typeOf v) != .type "tuple" then return aB
 return (<- Builtin.List.listItems v)[0]?):=J
def IsPr.at{h h':A2y}{v:A2k}{a b:Int}(x:IsPr h v a b)(k:∀ p o,h.get? p=aA o->o.cls = .type "tuple"->h'.get? p=aA o):IsPr h' v a b:=by obtain⟨p,o,n,d,f,e,g,c,i⟩:=x;exact⟨p,o,n,d,f,e,k p o g c,c,i⟩
end
def Up(xs:Array Nat):Prop:=∀ i j (a:i<xs.size) (b:j<xs.size),i<j->xs[i]<xs[j]
def up_list{d:Array Nat}:Up d↔d.toList.Pairwise (·<·):=by
 rw[A0Q]
 exact⟨λh i j b c a=>by simpa using h i j (by simpa using b) (by simpa using c) a,λh i j b c a=>by
  have:=h i j (by simpa using b) (by simpa using c) a
  rwa [A1q,A1q]at this⟩
def Nl{a:Array Nat}(hu:Up a)(j:Nat):∀(f c b:Nat),b<=a.size->c<=b->b - c<=f->(∀ i (h:i<a.size),i<c->a[i]<j)->(∀ i (h:i<a.size),b<=i->j<=a[i])->
 (SetTable.below.go a j f c b)<=a.size/\(∀ i (h:i<a.size),i<SetTable.below.go a j f c b->a[i]<j)/\(∀ i (h:i<a.size),SetTable.below.go a j f c b<=i->j<=a[i]):=by
 intro f
 induction f with
 | zero=>
   intro c b g q r k l;have:c=b:=by lia
   subst this;unfold SetTable.below.go;exact⟨g,k,l⟩
 | succ f p=>
   intro c b g q r k l;unfold SetTable.below.go;by_cases d:c<b
   ·rw[iP d];have n:(c+b) / 2<a.size:=by lia
    have e:a.getD ((c+b) / 2) j=a[(c+b) / 2]:=by simp[A20,n]
    dsimp only;rw[e];by_cases m:a[(c+b) / 2]<j
    ·rw[iP m];refine p _ _ g (by lia) (by lia) (λi h o=>?_) l;by_cases z:i=(c+b) / 2
     ·subst z;exact m
     ·exact A0h (hu i _ h n (by lia)) m
    ·rw[iG m];refine p _ _ (by lia) (by lia) (by lia) k (λi h o=>?_);by_cases z:i=(c+b) / 2
     ·subst z;lia
     ·have:=hu _ i n h (by lia);lia
   ·rw[iG d];have:c=b:=by lia
    subst this;exact⟨g,k,l⟩
def Gh{a:Array Nat}(hu:Up a)(j:Nat):SetTable.below a j<=a.size/\(∀ i (h:i<a.size),i<SetTable.below a j->a[i]<j)/\(∀ i (h:i<a.size),SetTable.below a j<=i->j<=a[i]):=
 Nl hu j a.size 0 a.size (Ym _) (ZY _) (by lia) (λi _ h=>absurd h (A1j _)) (λi h b=>absurd h (Nat.not_lt.mpr b))
def Ux{c:Array Nat}(hu:Up c){j:Nat}(s:c[SetTable.below c j]?≠O j):Up (SetTable.insertAt c (SetTable.below c j) j):=by
 obtain⟨w,t,p⟩:=Gh hu j;rw[up_list,SetTable.toList_insertAt];have q:=up_list.mp hu
 have f:∀ i (h:i<c.size),SetTable.below c j<=i->j<c[i]:=by
  intro i h d;have:=p i h d;by_cases z:SetTable.below c j=i
  ·have:c[i]≠j:=λe=>s (by rw[z];simp[h,e])
   lia
  ·have a:=hu _ i (by lia) h (Nat.lt_of_le_of_ne d z);have b:=p (SetTable.below c j) (by lia) (Ym _)
   lia
 rw[A0G];refine⟨q.take,?_,?_⟩
 ·rw[A09];refine⟨λy g=>?_,q.drop⟩;obtain⟨i,d,e⟩:=A02.mp g;rw[A1H]at e;have m:SetTable.below c j+i<c.size:=by simp at d;lia
  have:=f _ m (A08 _ _);rw[<-e];simpa using this
 ·intro x u y g;obtain⟨i,d,e⟩:=A02.mp u;have n:i<SetTable.below c j:=by simp at d;lia
  have o:x<j:=by
   rw[<-e,List.getElem_take];have:=t i (by lia) n;simpa using this
  rcases Yp.mp g with rfl | g
  ·exact o
  ·obtain⟨k,v,r⟩:=A02.mp g;rw[A1H]at r;have l:SetTable.below c j+k<c.size:=by simp at v;lia
   have:=f _ l (A08 _ _);have h:c.toList[SetTable.below c j+k]'(by simpa using l)=c[SetTable.below c j+k]:=by simp
   rw[h]at r
   lia
structure Tab(w:A2u)(t:A2R):Prop where
 up:Up t.place
 no:t.dummies=#[]
 led:t.led=!w.params.followText "set-order"
def Nm{w:A2u}{t:A2R}(T:Tab w t)(j:Nat):t.slot j ≠ .dummy:=by
 unfold SetTable.slot;rw[T.no];dsimp only;split
 ·exact λz=>nomatch z
 ·have:SetTable.has #[] j=aD:=J;rw[this];exact λz=>nomatch z
def Uy{w:A2u}{t:A2R}(T:Tab w t)(g:Nat->Int)(h:Int):∀(f:Nat) (p:SetTable.Probe) (j:Nat) (d:Option Nat),p.dummy=aB->SetTable.probe.go t g h f p=O (.empty j d)->t.slot j = .empty/\d=aB:=by
 intro f
 induction f with
 | zero=>intro p j d _ e;unfold SetTable.probe.go at e;cases e
 | succ f k=>
   intro p j d c e
   have a:∀ q:SetTable.Probe,q.dummy=aB->(t.advance q).dummy=aB:=by
    intro q i;unfold SetTable.advance;split
    ·exact i
    ·exact i
   unfold SetTable.probe.go at e;split at e
   ·rename_i b;cases e;exact⟨b,c⟩
   ·rename_i b;exact absurd b (Nm T _)
   ·split at e
    ·cases e
    ·exact k _ _ _ (a _ c) e
def Nn{w:A2u}{t:A2R}(T:Tab w t){h:Int}{j:Nat}{b:Bool}(e:t.freeSlot h=O (j,b)):t.place[SetTable.below t.place j]?≠O j:=by
 unfold SetTable.freeSlot at e;split at e
 ·rename_i i d c;unfold SetTable.probe at c;obtain⟨a,f⟩:=Uy T _ _ _ _ _ _ J c;subst f;cases e;unfold SetTable.slot at a;dsimp only[A13]at a ⊢;split at a
  ·cases a
  ·rename_i g;intro z;exact g (by rw[z];simp)
 ·cases e
def Bx{w:A2u}{t:A2R}(T:Tab w t)(n:Nat):Tab w (t.standIn n):=by refine⟨?_,J,T.led⟩;show Up (Array.range n);intro i j b c a;simpa using a
def Uz{w:A2u}{t:A2R}(T:Tab w t)(n:Nat):Tab w (t.orStandIn n):=by
 unfold SetTable.orStandIn;split
 ·exact T
 ·exact Bx T n
def RK{w:A2u}{t:A2R}(T:Tab w t)(a:Array (Int×F))(h:Int)(x:F):Tab w (layNew t a h x).2.1:=by
 unfold layNew;split
 ·rename_i j b e;refine Uz (t:=(t.put j).1) ⟨Ux T.up (Nn T e),?_,T.led⟩ _;show(if SetTable.has t.dummies j=aC then _ else t.dummies)=#[];rw[T.no];rfl
 ·exact Bx T _
def Lz{w:A2u}{t:A2R}(T:Tab w t)(i:Array (Int×F))(n:Nat):Tab w (A4g t i n).2.1:=by
 unfold A4g;split
 ·rename_i o f e;dsimp only;split
  ·unfold SetTable.relaid SetTable.laid at e;obtain⟨c,_,e⟩:=Option.bind_eq_some_iff.mp e;have k:=oj e;have m:=congrArg Prod.fst k;subst m;refine⟨?_,J,T.led⟩;rw[up_list]
   have g:∀ l:U Nat,l.Pairwise (·<·)->((l.filterMap λj=>(c.getD j aB).map (j,·)).map (·.1)).Pairwise (·<·):=by
    intro l h
    have:(l.filterMap λj=>(c.getD j aB).map (j,·)).map (·.1)=l.filter λj=>(c.getD j aB).isSome:=by
     induction l with
     | nil=>rfl
     | cons a l d=>
       have d:=d (A09.mp h).2;cases ho:c.getD a aB with
       | none=>rw[A0Y (by rw[ho];rfl),List.filter_cons_of_neg (by rw[ho];simp),d]
       | some b=>rw[A0Z (b:=(a,b)) (by rw[ho];rfl),List.filter_cons_of_pos (by rw[ho];rfl),ZE,d]
    rw[this];exact h.filter _
   simpa using g _ Zu
  ·exact Bx T _
 ·exact Bx T _
noncomputable def SetX(prog:A2r)(w:A2u)(h:A2y)(a:Y)(L:U Int):Prop:=
 ∃ o es ep t,h.get? a=O o/\o.ExactSet/\o.data = .set es ep t/\ElemsOf (intKind prog w) es.toList/\es.size<A3x/\t.fits es.size=aC/\Tab w t/\(es.toList.map λe=>numOf e.2).Perm L
section
variable{prog:A2r}{w:A2u}{A:A2w}{E:F->A2m->Prop}{s:A2m}
def SetX.keep{h b:A2y}{a:Y}{L:U Int}(x:SetX prog w h a L)(k:∀ o,h.get? a=aA o->b.get? a=aA o):SetX prog w b a L:=by obtain⟨o,c,d,t,e,r⟩:=x;exact⟨o,c,d,t,k o e,r⟩
def DO{k:Int}{v:F}(h:(intKind prog w).is k v=aC):numOf v=k:=by obtain⟨t,rfl⟩:=Value.isInt_shape (k:=k) (v:=v) h;rfl
def No{h:A2y}{a:Y}{o:Obj}{i b:Array (Int×F)}{d:Nat}{t c:A2R}{L:U Int}(j:h.get? a=O o)(k:o.ExactSet)(f:o.data = .set i d t)
 (l:ElemsOf (intKind prog w) b.toList) (m:b.size<A3x) (n:c.fits b.size=aC) (p:Tab w c) (q:(b.toList.map λe=>numOf e.2).Perm L):
 (h.update a (Obj.putSet b c)).get? a=O {o with data := .set b (d+1) c}/\SetX prog w (h.update a (Obj.putSet b c)) a L:=by have g:=ZL (Obj.putSet b c) j (by rw[putSet_of b c f];rfl);rw[putSet_of b c f]at g;exact⟨g,_,b,d+1,c,g,k,J,l,m,n,p,q⟩
def Tj{g:Bool->Sem Unit}(D:∀(b:Bool) (f:A2m) (p:Unit->A2m->Prop),p () f->A2o (A2q prog w) A (g b) p E f){a:Y}{o:Obj}{G c:Array (Int×F)}{H:Nat}{t d:A2R}{L:U Int}{q:Bool}
 {R:Option Bool->A2m->Prop} (r:s.heap.get? a=O o) (u:o.ExactSet) (v:o.data = .set G H t) (x:ElemsOf (intKind prog w) c.toList) (k:c.size<A3x) (I:d.fits c.size=aC) (y:Tab w d) (z:(c.toList.map λe=>numOf e.2).Perm L)
 (h:∀ l,Z7 a s.heap l->SetX prog w l a L->R (O aC) {s with heap:=l}):
 A2o (A2q prog w) A (do
  storeSet a c d
  if (!q&&d.tooFull)=aC then do
      g (A4g d c (SetTable.grown c.size)).2.2
      storeSet a (A4g d c (SetTable.grown c.size)).1 (A4g d c (SetTable.grown c.size)).2.1
      pure (O aC)
   else pure (O aC)) R E s:=by
 obtain⟨B,K⟩:=No (prog:=prog) r u v x k I y z;have b1:=Z7.update s.heap a (Obj.putSet c d);refine Z (A4K r v ?_ (A3O k));by_cases C:(!q&&d.tooFull)=aC
 ·rw[iP C];have i:=relayAll_perm d c (SetTable.grown c.size);have m:=relayAll_fits d c (SetTable.grown c.size);have n:=Lz y c (SetTable.grown c.size)
  have j:(A4g d c (SetTable.grown c.size)).1.size<A3x:=by
   rw[<-Zc,i.length_eq,Zc];exact k
  obtain⟨_,M⟩:=No (prog:=prog) B u J (x.perm i) j m n ((i.map _).trans z);exact Z (D _ _ _ (Z (A4K B J (A2l (h _ (b1.trans (Z7.update _ a _)) M)) (A3O j))))
 ·rw[iG C];exact A2l (h _ b1 K)
def Y4{a:Y}{L:U Int}{k:Int}{u:Tok}{Q:Bool->A2m->Prop}(hX:SetX prog w s.heap a L)(l:L.length+1<A3x)
 (h:∀ m b,Z7 a s.heap m->SetX prog w m a (A38 L k)->Q b {s with heap:=m}):A2o (A2q prog w) A (setAddHashed a (.int k u) ((intKind prog w).hash k)) Q E s:=by
 obtain⟨o,g,ep,t,v,M,B,d,X,N,hT,C⟩:=hX;have i:(intKind prog w).is k (.int k u)=aC:=A4C _ _ _ _;have P:g.size=L.length:=by rw[<-C.length_eq,YY,Zc]
 unfold setAddHashed setAddHashedIn;refine A2A (Z (A37 v B N ?_));dsimp only;rw[byScan_of (knd:=intKind prog w) J X d,iP J];unfold setAddByScan;refine Z (Z (A2K (Z (wpAny_setScan_of i v B N d ?_))))
 have D:(L.any (· == k))=aC↔∃ e∈g.toList,(intKind prog w).is k e.2=aC:=by
  rw[Zt];constructor
  ·rintro⟨x,R,e⟩;obtain⟨y,K,ey⟩:=Z2.mp (C.mem_iff.mpr R);obtain⟨⟨k',c,_⟩,_⟩:=d y K;have:numOf y.2=k':=DO c;have:k'=k:=by rw[<-this,ey];simpa using e
   subst this;exact⟨y,K,c⟩
  ·rintro⟨y,K,c⟩;refine⟨k,C.mem_iff.mp (Z2.mpr ⟨y,K,DO c⟩),by simp⟩
 cases hr:List.findIdx? (λe=>(intKind prog w).is k e.2) g.toList with
 | some j=>
   obtain⟨hj,S,_⟩:=List.findIdx?_eq_some_iff_getElem.mp hr;have T:A38 L k=L:=by unfold A38;rw[iP (D.mpr ⟨_,Zs hj,S⟩)]
   refine A2l (A2l ?_);exact h s.heap _ (Z7.refl a s.heap) (by rw[T];exact⟨o,g,ep,t,v,M,B,d,X,N,hT,C⟩)
 | none=>
   have T:A38 L k=L++[k]:=by
    unfold A38;rw[iG];intro z;obtain⟨e,he,c⟩:=D.mp z;have:=List.findIdx?_eq_none_iff.mp hr e he;rw[c]at this;cases this
   have q1:=layNew_perm t g ((intKind prog w).hash k) (.int k u);have q2:=layNew_fits t g ((intKind prog w).hash k) (.int k u);have q3:=RK hT g ((intKind prog w).hash k) (.int k u);generalize layNew t g ((intKind prog w).hash k) (.int k u)=V at q1 q2 q3 ⊢;obtain⟨n,t1,dm,gv⟩:=V;dsimp only at q1 q2 q3 ⊢;rw[A1I]at q1;have G:ElemsOf (intKind prog w) n.toList:=(d.push i J).perm q1
   have H:n.size<A3x:=by
    rw[<-Zc,q1.length_eq,Yd,Zc,P];simpa using l
   have I:(n.toList.map λe=>numOf e.2).Perm (A38 L k):=by
    rw[T];refine(q1.map _).trans ?_;rw[Yo];exact C.append_right _
   have p:∀(b:Bool) (f:A2m) (W:Unit->A2m->Prop),W () f->A2o (A2q prog w) A (match b with | true=>rule "set.scan.the-table-gave-way" | false=>pure ()) W E f:=
    λb f W hq=>by cases b<;>first | exact A2l hq | exact A2K hq
   refine Z (p _ _ _ ?_);split
   ·refine Z ?_;rw[hashByValue_scannable 8 J];refine A2l (Tj p v M B G H q2 q3 I λm q r=>?_);exact A2l (h m _ q r)
   ·refine Z (A2l ?_);rw[iP J];refine Tj p v M B G H q2 q3 I λm q r=>?_;exact A2l (h m _ q r)
abbrev set0(w:A2u):Obj:={cls := .type "set",dict:=aB,data := .set #[] 0 (.fresh 0 0 (!w.params.followText "set-order"))}
def V0(h:A2y):SetX prog w (h.push (set0 w)) h.objs.size []:=
 ⟨_,#[],0,_,Yn _ J,⟨J,J,J⟩,J,λe a=>by simp at a,by decide,J,⟨λi j b=>absurd b (A1j _),J,J⟩,by simp⟩
end
namespace SiF
def slot_si_next:Slot "set_iterator" "__next__" "set_iterator.__next__":=
 .of (owner:="set_iterator") (n:="__next__") (by rw[A4V,A4b];kernel_rfl) (by decide +kernel) (by decide +kernel) (by decide +kernel)
  (by first | exact .inl (by decide +kernel) | exact .inr (by decide +kernel)) (by rw[A58];kernel_rfl)
def entry_si_next:A4I table "set_iterator.__next__"=O Builtin.«set_iterator.__next__»:=entryFor_of_fast (by kernel_rfl)
def args_si_next(a:F):argsOk "set_iterator.__next__" ⟨[a],[]⟩:=by unfold argsOk;kernel_rfl
def slot_si_iter:Slot "set_iterator" "__iter__" "set_iterator.__iter__":=
 .of (owner:="set_iterator") (n:="__iter__") (by rw[A4V,A4b];kernel_rfl) (by decide +kernel) (by decide +kernel) (by decide +kernel)
  (by first | exact .inl (by decide +kernel) | exact .inr (by decide +kernel)) (by rw[A58];kernel_rfl)
def entry_si_iter:A4I table "set_iterator.__iter__"=O Builtin.«dict_keyiterator.__iter__»:=A4h (id':="dict_keyiterator.__iter__") (by kernel_rfl) J (by decide +kernel) (by kernel_rfl)
def args_si_iter(a:F):argsOk "set_iterator.__iter__" ⟨[a],[]⟩:=by unfold argsOk;kernel_rfl
def entry_set_iter:A4I table "set.__iter__"=O Builtin.«frozenset.__iter__»:=A4h (id':="frozenset.__iter__") (by kernel_rfl) J (by decide +kernel) (by kernel_rfl)
end SiF
theorem CJ{b:Type}:∀{l:U b} {i:Nat} (h:i<l.length),(l[i]::l.eraseIdx i).Perm l
 | a::l,0,h => .rfl
 | a::l,i+1,h=>(List.Perm.swap a _ _).trans ((CJ (l:=l) (i:=i) (by simpa using h)).cons a)
section
variable{prog:A2r}{w:A2u}{A:A2w}{E:F->A2m->Prop}
def RL{a:Source}{n:Nat}(b:n≠0){s:A2m}{Q:Nat->A2m->Prop}(h:∀ i d,i<n->Q i {s with drawn:=d}):A2o (A2q prog w) A (choose a n) Q E s:=by intro e p c;show Sem.wp _ _ (.choose a n .pure) _ _ _ _;rw[Sem.wp_choose];exact⟨b,h _ _ (A21 _ (Nat.pos_of_ne_zero b))⟩
theorem Tk{f:Type}:∀(n:Nat) (a:U f) (s:A2m) (Q:U f->A2m->Prop),a.length=n->(∀ c d,c.Perm a->Q c {s with drawn:=d})->A2o (A2q prog w) A (A5e n a) Q E s
 | 0,a,s,Q,b,h=>by
   unfold A5e;have:a=[]:=A0H b;subst this;exact A2l (h [] s.drawn .rfl)
 | n+1,[],s,Q,b,h=>by cases b
 | n+1,x::a,s,Q,b,h=>by
   unfold A5e;refine Z (RL (by simp) λi d e=>?_);rw[Ya e];dsimp only;refine Z (Tk n _ _ _ (by rw[A0M e];simp at b ⊢;lia) λc g j=>A2l (h _ g ?_));exact((j.cons _)).trans (CJ e)
end
theorem K4{c:Type}(f:Nat->Nat):∀(n k:Nat) (left:U c) (a:Array c),left.length=n->(pickOrder.go f n k left a).toList.Perm (a.toList++left)
 | 0,k,left,a,d=>by
   have:left=[]:=A0H d;subst this;unfold pickOrder.go;simp
 | n+1,k,left,a,d=>by
   unfold pickOrder.go;have b:f k % left.length<left.length:=A21 _ (by lia);rw[Ya b];dsimp only;refine(K4 f n (k+1) _ _ (by rw[A0M b];lia)).trans ?_;rw[A1I,A0q];exact List.Perm.append_left _ (CJ b)
def M0{b:Type}(f:Nat->Nat)(a:Array b):(A3V f a).toList.Perm a.toList:=by unfold A3V;simpa using K4 f a.size 0 a.toList #[] (by simp)
end L2
set_option maxHeartbeats 400000
namespace L2
open PySem PySem.Spec PyProof.Rows
def SetAt(w:A2u)(h:A2y)(a:Y)(es:Array (Int×F))(ep:Nat)(t:A2R):Prop:=∃ o,h.get? a=O o/\o.cls = .type "set"/\o.data = .set es ep t/\t.fits es.size=aC/\Tab w t
def SetAt.keep{w:A2u}{h b:A2y}{a:Y}{c:Array (Int×A2k)}{d:Nat}{t:A2R}(x:SetAt w h a c d t)(k:∀ o,h.get? a=aA o->b.get? a=aA o):SetAt w b a c d t:=by obtain⟨o,e,r⟩:=x;exact⟨o,k o e,r⟩
def slotAt(t:A2R)(i:Nat):Nat:=if i=0 then 0 else t.place.getD (i - 1) 0+1
def Ij{w:A2u}{t:A2R}(T:Tab w t){i:Nat}(h:i<=t.place.size):SetTable.below t.place (slotAt t i)=i:=by
 obtain⟨f,d,g⟩:=Gh T.up (slotAt t i);by_cases z:i=0
 ·subst z;have e:slotAt t 0=0:=J;rw[e]at d f ⊢;by_cases q:SetTable.below t.place 0=0
  ·exact q
  ·have:=d 0 (by lia) (by lia)
   lia
 ·have e:slotAt t i=t.place[i - 1]'(by lia)+1:=by unfold slotAt;rw[iG z];simp[A20,show i - 1<t.place.size by lia]
  rw[e]at f d g ⊢;rcases A1J (SetTable.below t.place (t.place[i - 1]'(by lia)+1)) i with q | q | q
  ·have:=g (i - 1) (by lia) (by lia)
   lia
  ·exact q
  ·have c:i<t.place.size:=by lia
   have a:=d i c q;have b:=T.up (i - 1) i (by lia) c (by lia)
   lia
inductive Way(w:A2u)(h:A2y)(T0 S:Y)(es:Array (Int×F))(ep:Nat)(t:A2R)(fs:List (Int×F))(i:Nat):F->Prop where
 | text (hw:w.params.followText "set-order"=aC) (hf:fs=(A3V (w.params.setOrder S ep) es).toList):Way w h T0 S es ep t fs i (.int 0 0)
 | table (hw:w.params.followText "set-order"=aD) (hd:(!t.plain&&decide (es.size>1))=aD) (hf:fs=es.toList):Way w h T0 S es ep t fs i (.int (slotAt t i:Nat) 0)
 | drawn (hw:w.params.followText "set-order"=aD) (pl:List Nat) (o:Obj) (n:Nat) (ho:h.get? T0=O o) (hd:o.data = .seq (pl.map λk=>Value.int (k:Nat) 0).toArray n) (hl:pl.length=fs.length)
    (hf:∀(k:Nat) p,pl[k]?=O p->es[p]?=fs[k]?):Way w h T0 S es ep t fs i (.ref T0)
def Sit(w:A2u)(h:A2y)(a I S:Y)(es:Array (Int×F))(ep:Nat)(t:A2R)(fs:U (Int×F))(i:Nat):Prop:=
 ∃ o first,h.get? I=O o/\o.cls = .type "set_iterator"/\o.data = .fields #[first,.int (i:Nat) 0,.ref S,.int (es.size:Nat) 0,.int (ep:Nat) 0]/\Way w h a S es ep t fs i first
section
variable{prog:A2r}{w:A2u}{A:A2w}{E:F->A2m->Prop}{s:A2m}{T0 I S:Y}{es:Array (Int×F)}{ep:Nat}{t:A2R}{fs:U (Int×F)}{i:Nat}
def Sit.typeIs(x:Sit w s.heap T0 I S es ep t fs i):s.TypeIs (.ref I) "set_iterator":=by obtain⟨o,_,e,c,_⟩:=x;exact⟨o,e,c⟩
def BA{b:Bool}(a:w.params.followText "set-order"=b){Q:Bool->A2m->Prop}(h:Q b s):A2o (A2q prog w) A A59 Q E s:=by unfold A59;refine Z (A3e (A2l ?_));show Q (w.params.followText "set-order") s;rw[a];exact h
def CZ{b:Nat}{Q:Option (F×Nat)->A2m->Prop}(y:SetAt w s.heap S es ep t)(c:w.params.followText "set-order"=aC)(h:Q (((A3V (w.params.setOrder S ep) es)[i]?).map λe=>(e.2,b)) s):
 A2o (A2q prog w) A (setNext S b i ep) Q E s:=by obtain⟨g,hoS,f,a,d,T⟩:=y;unfold setNext;refine Z (A37 hoS a d ?_);dsimp only;refine Z (BA c ?_);rw[iP J,iG (by simp)];refine Z ?_;unfold setWalk;refine Z (A37 hoS a d ?_);dsimp only;refine Z (BA c ?_);rw[iP J];refine Z (A3e (A2l ?_));exact A2l h
def CC{Q:Option (F×Nat)->A2m->Prop}(y:SetAt w s.heap S es ep t)(c:w.params.followText "set-order"=aD)(d:(!t.plain&&decide (es.size>1))=aD)(g:i<=es.size)
 (h:Q (match es[i]?,t.place[i]? with | some (_,x),O j=>O (x,j+1) | _,_=>aB) s):A2o (A2q prog w) A (setNext S (slotAt t i) i ep) Q E s:=by
 obtain⟨k,hoS,e,a,b,T⟩:=y
 have f:t.place.size=es.size:=by
  simp only[SetTable.fits,Yc,bQ]at b;exact b.1
 unfold setNext;refine Z (A37 hoS a b ?_);dsimp only;refine Z (BA c ?_);rw[iG Yq];show A2o _ _ (if (!t.plain&&decide (es.size>1))=aC then _ else _) _ _ _;rw[d,iG Yq];show A2o _ _ ((if (!t.led&&!es.isEmpty)=aC then A4S "set:maker-not-led" else pure ()) >>= _) _ _ _;rw[T.led,c];refine Z ?_;rw[show(!(!false)&&!es.isEmpty)=aD from J,iG Yq];refine A2l (A2l ?_);rw[Ij T (by lia)];exact h
theorem M1{e:Int×F}{Q:Option F->A2m->Prop}(x:Sit w s.heap T0 I S es ep t fs i)(y:SetAt w s.heap S es ep t)(hl:fs.length=es.size)(hi:fs[i]?=O e)
 (hQ:∀ h',Z7 I s.heap h'->Sit w h' T0 I S es ep t fs (i+1)->Q (O e.2) {s with heap:=h'}):A2o (A2q prog w) A (pyNext (.ref I)) Q E s:=by
 obtain⟨o,first,ho,hc,hd,W⟩:=id x;obtain⟨oS,hoS,hcS,hdS,hf,T⟩:=id y;have hlt:i<es.size:=by rw[<-hl];exact(gM hi).1
 unfold pyNext;refine Z (A31 (A2B (name:=Str.ofString "__next__") x.typeIs SiF.slot_si_next (A2C SiF.slot_si_next x.typeIs SiF.entry_si_next ?_ (SiF.args_si_next _))));unfold Builtin.«set_iterator.__next__»;refine Z (m:=slotArgs "__next__" 0 ⟨[.ref I],[]⟩) (A2l ?_);refine Z (A3K ho hd ?_);dsimp only;refine Z (A3C hoS hdS hf ?_);rw[iG (by simp)]
 have step2:∀(nx:Nat) (v:F),v=e.2->(∀ h',(∀ T o,T≠I->s.heap.get? T=O o->h'.get? T=O o)->Way w h' T0 S es ep t fs (i+1) (.int nx 0))->
  A2o (A2q prog w) A.in1 (do A3W (.ref I) 0 (rawInt nx);A3W (.ref I) 1 (rawInt ((i:Int)+1));ret v) (λfin s'=>∃ v,fin=Fin.done (Flow.ret v)/\A2o (A2q prog w) A (pure (O v)) Q E s')
   (λe s'=>A2o (A2q prog w) A (do let __do_lift <- isInstance e (Value.type "StopIteration");if __do_lift=aC then pure aB else throw e) Q E s') s:=by
  intro nx v hv hW;subst hv;refine Z (A2P ho hd (by simp) ?_);have g1:=ZL (Obj.mapFields (·.setIfInBounds 0 (rawInt nx))) ho (Obj.isFreed_of_fields (Obj.data_mapFields hd _));refine Z (A2P g1 (Obj.data_mapFields hd _) (by simp) ?_);have g2:=ZL (Obj.mapFields (·.setIfInBounds 1 (rawInt ((i:Int)+1)))) g1 (Obj.isFreed_of_fields (Obj.data_mapFields (Obj.data_mapFields hd _) _));refine A2l ⟨_,J,A2l (hQ _ ((Z7.update _ I _).trans (Z7.update _ I _)) ⟨_,_,g2,?_,?_,hW _ λT o hT e=>?_⟩)⟩
  ·exact((Obj.cls_mapFields ..).trans (Obj.cls_mapFields ..)).trans hc
  ·rw[Obj.data_mapFields (Obj.data_mapFields hd _)];simp[rawInt]
  ·exact(ZM _ _ (Ne.symm hT)).trans ((ZM _ _ (Ne.symm hT)).trans e)
 cases W with
 | text hw hf'=>
   dsimp only;refine Z (CZ (i:=i) (ep:=ep) y hw ?_);have:(A3V (w.params.setOrder S ep) es)[i]?=O e:=by rw[<-A0p,<-hf'];exact hi
   rw[this];exact step2 0 e.2 J λh' _ => .text hw hf'
 | table hw hd' hf'=>
   dsimp only;refine Z (CC (i:=i) (ep:=ep) y hw hd' (by lia) ?_)
   have hsz:t.place.size=es.size:=by
    simp only[SetTable.fits,Yc,bQ]at hf;exact hf.1
   have e1:es[i]?=O e:=by rw[<-A0p,<-hf'];exact hi
   have e2:t.place[i]?=O (t.place[i]'(by lia)):=by simp[show i<t.place.size by lia]
   rw[e1,e2];refine step2 _ e.2 J λh' _=>?_;have:t.place[i]'(by lia)+1=slotAt t (i+1):=by unfold slotAt;rw[iG (by lia)];simp[A20,show i<t.place.size by lia]
   rw[this];exact .table hw hd' hf'
 | drawn hw pl oT nT hoT hdT hlT hfT=>
   dsimp only;refine Z (A2E hoT hdT ?_);have hip:i<pl.length:=by lia
   have e1:pl[i]?=O (pl[i]'hip):=by simp
   have e2:(pl.map λk=>Value.int (k:Nat) 0).toArray[(i:Int).toNat]?=O (.int ((pl[i]'hip:Nat):Int) 0):=by simp[hip]
   dsimp only;rw[e2];dsimp only;have e3:es[pl[i]'hip]?=O e:=by rw[hfT i _ e1];exact hi
   refine Z ?_;unfold setNextDrawn;refine Z (A37 hoS hdS hf ?_);dsimp only;rw[iG (by simp),ZX,e3];refine A2l (Z (A2P ho hd (by simp) ?_));have g1:=ZL (Obj.mapFields (·.setIfInBounds 1 (rawInt ((i:Int)+1)))) ho (Obj.isFreed_of_fields (Obj.data_mapFields hd _));have hTI:T0≠I:=λz=>by subst z;rw[ho]at hoT;cases hoT;rw[hd]at hdT;cases hdT
   refine A2l ⟨_,J,A2l (hQ _ (Z7.update _ I _) ⟨_,_,g1,(Obj.cls_mapFields ..).trans hc,?_,.drawn hw pl oT nT ((ZM _ _ (Ne.symm hTI)).trans hoT) hdT hlT hfT⟩)⟩;rw[Obj.data_mapFields hd];simp[rawInt]
def Np{Q:Option F->A2m->Prop}(h:A.handled=aB)(j:∀ c,A1n I s.heap c->Q aB {s with heap:=c})(k:Sem Unit)(l:∀(g:Unit->A2m->Prop) (n:F->A2m->Prop),(∀ c,Z7 I s.heap c->g () {s with heap:=c})->A2o (A2q prog w) A.in1 k g n s):
 A2o (A2q prog w) A.in1 (k >>= λ_=>newExc (.type "StopIteration") [] >>= λe=>A55 (α:=Fin) e) (λd f=>∃ v,d=Fin.done (Flow.ret v)/\A2o (A2q prog w) A (pure (O v)) Q E f)
  (λe f=>A2o (A2q prog w) A (do let __do_lift <- isInstance e (Value.type "StopIteration");if __do_lift=aC then pure aB else throw e) Q E f) s:=by refine Z (l _ _ λc o=>?_);refine Z ?_;simp only[newExc,newTuple];refine Z (A2z ?_ (by size_fits));refine Z (m:=A3l _ _) (A4f (a:=Value.none) (by first | rfl | (simp only[A3l];rfl)) ?_);refine A2z ?_ (by size_fits);simp only[A55];refine Z (A4u ?_);rw[show A.in1.handled=aB from h];refine Z (A2l (A4R ?_));refine Z (A3m (T:="StopIteration") (b:=aC) ⟨_,Yn _ J,J⟩ A3L ?_);exact A2l (j _ ((o.extBut.push _).push _))
def Nq{Q:Option F->A2m->Prop}(h:A.handled=aB)(x:Sit w s.heap T0 I S es ep t fs es.size)(y:SetAt w s.heap S es ep t)(K:fs.length=es.size)
 (j:∀ a,A1n I s.heap a->Q aB {s with heap:=a}):A2o (A2q prog w) A (pyNext (.ref I)) Q E s:=by
 obtain⟨o,first,f,L,b,W⟩:=id x;obtain⟨M,hoS,v,l,z,T⟩:=id y;unfold pyNext;refine Z (A31 (A2B (name:=Str.ofString "__next__") x.typeIs SiF.slot_si_next (A2C SiF.slot_si_next x.typeIs SiF.entry_si_next ?_ (SiF.args_si_next _))));unfold Builtin.«set_iterator.__next__»;refine Z (m:=slotArgs "__next__" 0 ⟨[.ref I],[]⟩) (A2l ?_);refine Z (A3K f b ?_);dsimp only;refine Z (A3C hoS l z ?_);rw[iG (by simp)];have c:∀(g:Unit->A2m->Prop) (n:F->A2m->Prop),(∀ a,Z7 I s.heap a->g () {s with heap:=a})->A2o (A2q prog w) A.in1 (A3W (.ref I) 2 .none) g n s:=λg n q=>A2P f b (by simp) (q _ (Z7.update ..));cases W with
 | text hw d=>
   dsimp only;refine Z (CZ (i:=es.size) (ep:=ep) y hw ?_);have:(A3V (w.params.setOrder S ep) es)[es.size]?=aB:=by rw[<-A0p,<-d];exact Zy (by lia)
   rw[this];exact Np h j _ c
 | table hw p d=>
   dsimp only;refine Z (CC (i:=es.size) (ep:=ep) y hw p (Ym _) ?_);rw[show es[es.size]?=aB by simp];exact Np h j _ c
 | drawn hw B N P r u C D=>
   dsimp only;refine Z (A2E r u ?_);have G:(B.map λk=>Value.int (k:Nat) 0).toArray[((es.size:Nat):Int).toNat]?=aB:=by simp;lia
   dsimp only;rw[G];dsimp only
   have e:=Np (prog:=prog) (w:=w) (A:=A) (E:=E) (s:=s) (I:=I) (Q:=Q) h j (A3W (.ref I) 0 (rawInt 0) >>= λ_=>A3W (.ref I) 2 .none) λg n q=>by
    refine Z (A2P f b (by simp) ?_);have H:=ZL (Obj.mapFields (·.setIfInBounds 0 (rawInt 0))) f (Obj.isFreed_of_fields (Obj.data_mapFields b _));exact A2P H (Obj.data_mapFields b _) (by simp) (q _ ((Z7.update _ I _).trans (Z7.update _ I _)))
   rw[bind_assoc]at e;exact e
def M3{Q:F->A2m->Prop}(x:Sit w s.heap T0 I S es ep t fs i)(h:Q (.ref I) s):A2o (A2q prog w) A (pyIter (.ref I)) Q E s:=by refine A3P x.typeIs SiF.slot_si_iter (A2C SiF.slot_si_iter x.typeIs SiF.entry_si_iter ?_ (SiF.args_si_iter _));show A2o _ _ (ret (.ref I)) _ _ s;exact A2l ⟨_,J,"set_iterator",_,x.typeIs,SiF.slot_si_next.lookup,h⟩
def Sit.keep{h e:A2y}(x:Sit w h T0 I S es ep t fs i)(k:∀ b,b=I\/b=T0->∀ o,h.get? b=aA o->e.get? b=aA o):Sit w e T0 I S es ep t fs i:=by
 obtain⟨o,first,f,g,j,W⟩:=x;refine⟨o,first,k I (.inl rfl) _ f,g,j,?_⟩;cases W with
 | text hw a=>exact .text hw a
 | table hw l a=>exact .table hw l a
 | drawn hw m p n c d q a=>exact .drawn hw m p n (k T0 (.inr rfl) _ c) d q a
def Wu(r:A.handled=aB)(m I S:Y)(j:S≠I)(g:Array (Int×F))(n:Nat)(t:A2R)(fs:U (Int×F))(p:fs.length=g.size):
 Walks prog w A I [I,S,m] [I] g.size (λi v=>∃ e,fs[i]?=O e/\e.2=v) (λi h=>Sit w h m I S g n t fs i/\SetAt w h S g n t) where
 sub:=λb c=>by simp at c;simp[c]
 frame:=λ_ _ _ a q=>⟨a.1.keep λb c o e=>q b (by rcases c with rfl | rfl<;>simp) o e,a.2.keep λo e=>q S (by simp) o e⟩
 item:=λi s Q E y a d=>by
  have u:i<fs.length:=by lia
  refine M1 (e:=fs[i]) a.1 a.2 p (by simp) λk f x=>?_;exact d fs[i].2 k s.toks ⟨fs[i],by simp,J⟩ ⟨x,a.2.keep λo e=>f.extBut _ _ j e⟩ λb o c e=>f.extBut b o (λh=>c (by simp[h])) e
 done:=λs Q E a d=>Nq r a.1 a.2 p λk l=>d k s.toks λb o c e=>l b o (λh=>c (by simp[h])) e
 self:=λ_ _ _ _ a d=>M3 a.1 d
theorem Wv{Q:A2k->A2m->Prop}(y:SetAt w s.heap S es ep t)(R:es.size<=A2s)
 (V:∀ g d I T0 fs,(∀ b o,s.heap.get? b=O o->g.get? b=O o)->s.heap.objs.size<=I->s.heap.objs.size<=T0->g.objs.size=I+1->fs.Perm es.toList->Sit w g T0 I S es ep t fs 0->Q (.ref I) {s with heap:=g,drawn:=d}):A2o (A2q prog w) A (pyIter (.ref S)) Q E s:=by
 obtain⟨W,hoS,u,j,x,T⟩:=id y;have G:s.TypeIs (.ref S) "set":=⟨W,hoS,u⟩
 refine A3P G F.slot_set_iter (A2C F.slot_set_iter G SiF.entry_set_iter ?_ (F.args_set_iter_1 _));unfold Builtin.«frozenset.__iter__»;refine Z (m:=Builtin.Frozenset.slot0 "__iter__" ⟨[.ref S],[]⟩) (A2l ?_);refine Z (m:=Builtin.Frozenset.sizeOf S) ?_;unfold Builtin.Frozenset.sizeOf;refine Z (A3C hoS j x (A2l ?_));refine Z ?_;unfold setDrawn;refine Z (A37 hoS j x ?_);dsimp only
 have c:∀(first:A2k) (h:A2y) (d:Drawn) (fs:U (Int×A2k)) (T0:Y),(∀ b o,s.heap.get? b=O o->h.get? b=O o)->s.heap.objs.size<=h.objs.size->s.heap.objs.size<=T0->fs.Perm es.toList->(∀ g,(∀ b o,h.get? b=O o->g.get? b=O o)->Way w g T0 S es ep t fs 0 first)->
  A2o (A2q prog w) A.in1 (setEpoch S >>= λe=>newFields "set_iterator" [first,rawInt 0,.ref S,rawInt (es.size:Nat),rawInt e] >>= λv=>ret v)
   (λc H=>∃ r,c=Fin.done (Flow.ret r)/\∃ K z,H.TypeIs r K/\A3H (.type K) "__next__"=pure (O z)/\Q r H) E {s with heap:=h,drawn:=d}:=by
  intro first h d fs T0 L X h2 n hW
  refine Z (wpAny_setEpoch_of (L _ _ hoS) j x ?_);refine Z (A2z ?_ (by size_fits));refine A2l ⟨_,J,"set_iterator",_,⟨_,Yn _ J,J⟩,SiF.slot_si_next.lookup,?_⟩;have M:∀ b o,h.get? b=O o->(h.push {cls := .type "set_iterator",data := .fields #[first,rawInt 0,.ref S,rawInt (es.size:Nat),rawInt (ep:Nat)]}).get? b=O o:=λb o e=>Yf _ e;exact V _ d h.objs.size T0 fs (λb o e=>M b o (L b o e)) X h2 (ZN _ _) n ⟨_,first,Yn _ J,J,J,hW _ M⟩
 cases hw:w.params.followText "set-order" with
 | true=>
   refine Z (BA hw (A2l ?_));show A2o _ _ (if (!true&&(!t.plain&&decide (es.size>1)))=aC then _ else _) _ _ _;rw[iG (by simp)];refine Z (A2l ?_);exact c _ s.heap s.drawn _ s.heap.objs.size (λ_ _ e=>e) (Ym _) (Ym _) (M0 (w.params.setOrder S ep) es) λg _ => .text hw J
 | false=>
   refine Z (BA hw (A2l ?_));show A2o _ _ (if (!false&&(!t.plain&&decide (es.size>1)))=aC then _ else _) _ _ _;cases hpl:(!t.plain&&decide (es.size>1)) with
   | false=>
     rw[iG (by simp)];refine Z (A2l ?_);exact c _ s.heap s.drawn es.toList s.heap.objs.size (λ_ _ e=>e) (Ym _) (Ym _) .rfl λg _ => .table hw hpl J
   | true=>
     rw[iP (by simp)];refine Z (Tk es.size (Ye es.size) s _ (by simp) λq d n=>?_);refine Z (A3M ?_ (by rw[YY,n.length_eq,Z0];exact R));have B:∀ p∈q,p<es.size:=λp C=>Yr.mp (n.mem_iff.mp C);have f:∃ fs:U (Int×A2k),fs=q.filterMap (λp=>es[p]?):=⟨_,J⟩
     obtain⟨fs,f⟩:=f
     have D:∀(l:U Nat),(∀ p∈l,p<es.size)->(l.filterMap λp=>es[p]?).length=l.length/\∀(k:Nat) p,l[k]?=O p->es[p]?=(l.filterMap λp=>es[p]?)[k]?:=by
      intro l
      induction l with
      | nil=>intro _;exact⟨J,λk p h=>by simp at h⟩
      | cons a l ih=>
        intro N;obtain⟨i1,i2⟩:=ih λp n=>N p (Yh _ n);have P:=N a (Yi ..);have ea:es[a]?=O es[a]:=by simp[P]
        rw[A0Z ea];refine⟨by simp[i1],λk p h=>?_⟩;cases k with
        | zero=>simp at h;subst h;simp[P]
        | succ k=>simpa using i2 k p (by simpa using h)
     obtain⟨l1,l2⟩:=D q B;refine c _ _ d fs s.heap.objs.size (λb o e=>Yf _ e) (by rw[ZN];exact A0l _) (Ym _) ?_ λg k=>?_
     ·rw[f];exact(n.filterMap _).trans (by rw[filterMap_getElem?_range])
     ·exact .drawn hw q _ 0 (k _ _ (Yn _ J)) J (by rw[f,l1]) (λk p h=>by rw[f];exact l2 k p h)
end
end L2
set_option maxHeartbeats 800000
namespace L2
open PySem PySem.Spec PyProof.Rows
section
variable{prog:A2r}{w:A2u}{A:A2w}{E:F->A2m->Prop}{s:A2m}{S:Y}{es:Array (Int×F)}{ep:Nat}{t:A2R}
def Ww{Q:Bool->A2m->Prop}(c:s.TypeIs (.ref S) "set")(h:Q aD s):A2o (A2q prog w) A (Builtin.List.listLengthHint (.ref S)) Q E s:=by
 unfold Builtin.List.listLengthHint;refine Z (A4U c PySem.F.slot_set_len.lookup ?_);generalize a:("set.__len__":String)=d
 wp_delta
 rw[show splitId d=O ("set","__len__") from by subst a;decide +kernel];subst a;refine Z (A3m (T:="set") (b:=aC) c sub_set_self ?_);refine A46 (λz=>absurd z (by decide)) (λ_=>?_);refine A46 (λ_=>?_) (λz=>absurd (by decide +kernel) z);exact Z (A2U c (A2l h))
theorem Nr{Q:U A2k->A2m->Prop}(hh:A.handled=aB)(y:SetAt w s.heap S es ep t)(hz:es.size<=A2s)
 (hQ:∀ g N d (f:U A2k) (fs:U (Int×A2k)),(∀ b o,s.heap.get? b=O o->g.get? b=O o)->s.heap.objs.size<=g.objs.size->fs.Perm es.toList->f=fs.map (·.2)->Q f {s with heap:=g,toks:=N,drawn:=d}):
 A2o (A2q prog w) A (collect (.ref S)) Q E s:=by
 obtain⟨oS,hoS,B,a1,hf,T⟩:=id y;unfold collect;refine Z (wpAny_runValue (A2N PySem.F.entry_proto_collect ?_));rw[Around.under_plainId PySem.F.plain_proto_collect _];refine Z (m:=newList []) (A2z ?_);refine A2l ⟨A2M PySem.F.plain_list_iadd _,A2N PySem.F.entry_list_iadd ?_⟩;rw[Around.under_plainId PySem.F.plain_list_iadd _];show A2o _ A.in1 (Builtin.List.listExtendWith (.ref s.heap.objs.size) (.ref S) (.ref s.heap.objs.size)) _ _ {s with heap:=s.heap.push {cls := .type "list",data := .seq ([]:U A2k).toArray}};have y1:SetAt w (s.heap.push {cls := .type "list",data := .seq ([]:U A2k).toArray}) S es ep t:=y.keep λo e=>Yf _ e;have q:s.heap.objs.size≠S:=λz=>by rw[<-z]at hoS;exact absurd (Yk hoS) (A07 _)
 have hL:(s.heap.push {cls := .type "list",data := .seq ([]:U A2k).toArray}).get? s.heap.objs.size=O {cls := .type "list",data := .seq #[]}:=Yn _ J;have p:(s.heap.push {cls := .type "list",data := .seq ([]:U A2k).toArray}).objs.size=s.heap.objs.size+1:=ZN _ _;unfold Builtin.List.listExtendWith;refine Z (A2U (T:="set") ⟨oS,Yf _ hoS,B⟩ ?_);have b1:Builtin.List.listSameRef (.ref s.heap.objs.size) (.ref S)=aD:=by simp[Builtin.List.listSameRef,q]
 have b2:(Value.type "set" == Value.type "list")=aD:=by decide
 have b3:(Value.type "set" == Value.type "tuple")=aD:=by decide
 simp only[b1,b2,b3,A10,ZR,if_false];refine Z (Wv (s:={s with heap:=s.heap.push {cls := .type "list",data := .seq ([]:U A2k).toArray}}) y1 hz λC d I P fs R u D a2 hp x2=>?_);have y2:SetAt w C S es ep t:=y1.keep λo e=>R _ _ e;refine Z (A2A (Ww (s:={s with heap:=C,drawn:=d}) ⟨oS,R _ _ (Yf _ hoS),B⟩ ?_));have n:=R _ _ hL;have LI:s.heap.objs.size≠I:=by rw[p]at u;exact Ys u
 have LT:s.heap.objs.size≠P:=by rw[p]at D;exact Ys D
 have SI:S≠I:=λz=>by
  have h1:=Yk hoS;rw[p,<-z]at u;exact absurd (A0T u) (A16 h1)
 have nf:s.heap.objs.size∉[I,S,P]:=by
  simp only[Yp,Zi,or_false,not_or];exact⟨LI,q,LT⟩
 have G:fs.length=es.size:=by rw[hp.length_eq,Zc]
 have W:=(Wu (prog:=prog) (w:=w) (A:=A.in1) hh P I S SI es ep t fs G).toS
 have H:∀(h:A2y) (c N:Nat),Sit w h P I S es ep t fs 0->SetAt w h S es ep t->(∀ b o,b≠s.heap.objs.size->C.get? b=O o->h.get? b=O o)->h.get? s.heap.objs.size=O {cls := .type "list",dict:=aB,data := .seq #[] c,slots:=#[]}->s.heap.objs.size<=h.objs.size->
  codeAny (A2q prog w) A (.builtin "list.extend.loop" ⟨[.ref s.heap.objs.size,.ref I,.ref s.heap.objs.size],[]⟩) (wants (λv l=>∃ g j f x,v = .ref s.heap.objs.size/\l={s with heap:=g,toks:=j,drawn:=d}/\(∀ b o,s.heap.get? b=O o->g.get? b=O o)/\s.heap.objs.size<=g.objs.size/\g.get? s.heap.objs.size=O {cls := .type "list",dict:=aB,data := .seq f x,slots:=#[]}/\ItemsOf (λi v=>∃ e,fs[i]?=O e/\e.2=v) f es.size) E) {s with heap:=h,toks:=N,drawn:=d}:=by
  intro h c N x3 y3 k3 a0 a3;refine codeAny_extend_loopS W hz s.heap.objs.size nf (.ref s.heap.objs.size) es.size 0 _ #[] c J (ZY _) ⟨x3,y3⟩ a0 (ItemsOf.nil _) λl f x hm K L=>?_;rw[Moved.eq_with hm];refine⟨l.heap,l.toks,f,x,J,J,λb o e=>hm.heap b o (λz=>?_) (k3 b o (Ys (Yk e)) (R _ _ (Yf _ e))),A0m (Yk K),K,L⟩;rcases Yp.mp z with z | z
  ·exact absurd z (Ys (Yk e))
  ·have z':=Yt.mp z;rw[p]at u;have:=Yk e;rw[z']at this;exact absurd this (A16 (A0T u))
 have M:∀ r l,wants (λv l=>∃ g j f x,v = .ref s.heap.objs.size/\l={s with heap:=g,toks:=j,drawn:=d}/\(∀ b o,s.heap.get? b=O o->g.get? b=O o)/\s.heap.objs.size<=g.objs.size/\g.get? s.heap.objs.size=O {cls := .type "list",dict:=aB,data := .seq f x,slots:=#[]}/\ItemsOf (λi v=>∃ e,fs[i]?=O e/\e.2=v) f es.size) E r l->
  wants (λv l=>A2o (A2q prog w) A (match v with | .ref a=>load a >>= λo=>(match o.data with | .seq xs _=>pure xs.toList | _=>A4S "internal:collect") | _=>A4S "internal:collect") Q E l) E r l:=by
  intro r l hr;cases r with
  | error e=>exact hr
  | ok fl=>
    cases fl with
    | ret v=>
      obtain⟨g,j,f,x,rfl,rfl,h3,h4,h5,V⟩:=hr;refine Z (wpAny_load (s:={s with heap:=g,toks:=j,drawn:=d}) h5 (A2l (hQ g j d _ fs h3 h4 hp ?_)));refine A0C λk=>?_;rw[Yj,A0p];by_cases hk:k<es.size
      ·have ha:f[k]?=O (f[k]'(by rw[V.1];exact hk)):=by simp[V.1,hk]
       obtain⟨e,he,ev⟩:=V.2 k _ ha;rw[ha,he,<-ev];rfl
      ·rw[A1f (by rw[V.1];lia),Zy (by lia)];rfl
    | _=>exact hr.elim
 refine A46 (λ_=>?_) (λ_=>A2l ⟨A2M PySem.F.plain_extend_loop _,A3D (H _ _ _ x2 y2 (λ_ _ _ e=>e) n (A0m (Yk n))) M⟩);refine Z (A2K (Z ?_));show A2o _ _ (A4P s.heap.objs.size (·.push .none) >>= λ_=>A4P s.heap.objs.size (·.pop)) _ _ _;refine Z (A3p n J ?_);have u1:=ZL (Obj.mapSeq (·.push Value.none)) n J;refine A3p (hz:=by seq_fits) u1 J ?_;have u2:=ZL (Obj.mapSeq (·.pop)) u1 J;have oth:∀ b o,b≠s.heap.objs.size->C.get? b=O o->((C.update s.heap.objs.size (Obj.mapSeq (·.push Value.none))).update s.heap.objs.size (Obj.mapSeq (·.pop))).get? b=O o:=λb o X e=>(ZM _ _ (Ne.symm X)).trans ((ZM _ _ (Ne.symm X)).trans e);refine A2l ⟨A2M PySem.F.plain_extend_loop _,A3D (H _ _ _ (x2.keep λb X o e=>oth b o (by rcases X with rfl | rfl;exact LI.symm;exact LT.symm) e) (y2.keep λo e=>oth _ o q.symm e) oth u2 ?_) M⟩;rw[A17,A17];exact A0m (Yk n)
end
def _root_.L2.Inv.dr{X:Cx}{a:U (Y×Obj)}{b:St}{H:Hp}{s:A2m}(I:Inv X a b H s)(d:Drawn):Inv X a b H {s with drawn:=d}:=
 ⟨I.ok,I.os,I.bare,I.base,I.loc,I.cell,I.free,I.freeC,I.pin,I.hok,I.len⟩
section
variable{prog:A2r}{w:A2u}{A:A2w}{E:F->A2m->Prop}{s:A2m}
def RM{S:Y}{L:U Int}{Q:F->A2m->Prop}(K:A.handled=aB)(x:SetX prog w s.heap S L)(M:L.length<64)
 (h:∀(h':A2y) (r:Nat) (d:Drawn) (l:Y) (out:Array F) (e:Nat),(∀ b o,s.heap.get? b=O o->h'.get? b=O o)->s.heap.objs.size<=l->h'.get? l=O (seqObj "list" out e)->IntsAre out.toList (srt L)->Q (.ref l) {s with heap:=h',toks:=r,drawn:=d}):
 A2o (A2q prog w) A (call (.builtin "sorted") [.ref S]) Q E s:=by
 obtain⟨o,es,ep,t,N,P,R,y,T,V,W,X⟩:=x;refine Calls.call_function_entry kind_sorted plain_sorted entry_sorted (args_sorted1 _) ?_;unfold Builtin.«sorted»;refine Z (m:=checkCount "sorted" 1 1 _) (A2l ?_);refine Z (Nr (A:=A.in1) K ⟨o,N,P.1,R,V,W⟩ (A3O T) λu r d a fs G z i c=>?_)
 have f:∀ v∈a,∃ n B,v=Value.int n B:=by
  intro v H;rw[c]at H;obtain⟨e,C,rfl⟩:=Z2.mp H;obtain⟨⟨k,hk,_⟩,_⟩:=y e (i.mem_iff.mp C);obtain⟨B,e2⟩:=Value.isInt_shape (k:=k) (v:=e.2) hk;exact⟨k,B,e2⟩
 have hI:IntsAre a (a.map numOf):=intsAre_map a f
 have j:(a.map numOf).Perm L:=by
  rw[c,A0g];exact(i.map _).trans X
 have p:a.length<64:=by have:=j.length_eq;rw[YY]at this;lia
 refine Z (A4v ?_ (by rw[A3j];lia));have g:(u.push (seqObj "list" a.toArray 0)).get? u.objs.size=O (seqObj "list" a.toArray 0):=Yn _ J;refine Z (A2A (A2C (s:={s with heap:=u.push (seqObj "list" a.toArray 0),toks:=r,drawn:=d}) A5a ⟨_,g,J⟩ A4W (list_sort_tree g hI p λout D a1 a2 a3=>⟨_,J,?_⟩) (A5b _)));have en:D=srt L:=Ut (a2.trans j) a3;subst en;obtain⟨e,C⟩:=sortedHeap_at (vs:=a) (out:=out) g;refine A2l ⟨_,J,h _ r d u.objs.size out e (λb o I=>?_) z C a1⟩;have q:=Yk (G b o I);rw[sortedHeap_old (Ys q) (by rw[ZN];exact A0f q)];exact Yf _ (G b o I)
end
section
variable{X:Cx}
def F4:A2v "sorted"=O (.builtin "sorted"):=by decide +kernel
def BB(a:U Int):U Int:=firstMet (λi=>a.getD i 0) a.length
end
open PySem.AutoSeq1 (wpAny_loadPart')
open PySem.MeetsSeq PySem.MeetsSeq2 PySem.MeetsSeq3
def rcLt_int{prog:A2r}{w:A2u}{A:A2w}{E:F->A2m->Prop}{s:A2m}{a b:Int}{t u:Tok}{Q:F->A2m->Prop}(h:Q (.bool (decide (a<b))) s):A2o (A2q prog w) A (A3A .Lt (.int a t) (.int b u)) Q E s:=by exact wpAny_richCompare_same (A40 s a t) (A40 s b u) slot_int_lt (call_int_lt ⟨(λx=>nomatch x),h⟩)
section
variable{prog:A2r}{w:A2u}{A:A2w}{E:F->A2m->Prop}{s:A2m}{a₀:Array Keyed}
structure SBk(κ:A4i)(a₀:Array Keyed)(st:SortSt):Prop where
 perm:(arrOf st).Perm a₀
 kind:kindOf st=κ
 failed:failedOf st=aB
 pend:A4n st=#[]
theorem SBk.size{b:A4i}{a:SortSt}(h:SBk b a₀ a):(arrOf a).size=a₀.size:=h.perm.size_eq
theorem SBk.setArr{b:A4i}{a:SortSt}(h:SBk b a₀ a){c:Array Keyed}(d:c.Perm (arrOf a)):SBk b a₀ (setArr a c):=⟨d.trans h.perm,h.kind,h.failed,h.pend⟩
variable{κ:A4i}
end
section
variable{X:Cx}
noncomputable def Nt(X:Cx)(f:F)(ks:U Str)(r:U V->U V->Hp->VK->Prop):Prop:=
 ∀(a:U (Y×Obj)) (s:A2m) (b:St) (H:Hp) (vs c:U V) (d e:U F) (Q:VK),Inv X a b H s->Vals vs d->Vals c e->r vs c H Q->A2o (A2q X.prog X.w) X.A (call f d (ks.zip e)) (EP X a b Q) X.xe s
def Y5(r:U V->U V->Hp->VK->Prop)(t b:TA):TE:=λa H Q=>t a H λvs c=>b a c λd e=>r vs d e Q
def M4{id:String}{n:U Str}{r:U V->U V->Hp->VK->Prop}{x:Str}{p a:Pos}{e:A2p}{d:U A2p}{b:U Keyword}{t o:TA}(q:Nt X (.builtin id) n r)(u:Gl X x)(v:X.mg x=aB)(w:A2v x=O (.builtin id))(y:PA X (e::d) t)(g:PK X b o)
 (i:(A3z a (A3f b X.env)).filterMap (·.1)=n:=by rfl) (z:x≠"__name__":=by decide) (j:(x == ("__debug__":Str))=aD:=by decide)
 (A:backTo a (A2x (e::d) X.env)=(aD,eval e X.env)::backTo a (A2x d X.env):=by rfl) (k:(backTo a (A2x (e::d) X.env)).any (·.1)=aD:=by rfl)
 (f:(A3z a (A3f b X.env)).all (·.1.isSome)=aC:=by rfl) (l:(A3z a (A3f b X.env)).any (·.1.isNone)=aD:=by rfl):PE X (.Call (.Name x p) (e::d) b a) (Y5 r t o):=by intro c s m H Q I h;refine A2T (AW I u v w ?_ z j);refine callWith_kw (thn (y a c s m H _ I h) λB C ⟨D,E,G,K,q1⟩=>thn (g a c C m E _ G q1) λL M ⟨N,P,R,S,q2⟩=>?_) A k f l;rw[i];exact q c M m P D N B L Q R K S q2
def lt2(p q:Int×Int):Bool:=HT.lexLt [p.1,p.2] [q.1,q.2]
end
section
variable{X:Cx}{pins:U (Y×Obj)}{σ:St}{H:Hp}{s:A2m}{A:A2w}{q:Str}{sc:A2D}{ps cn:U Str}{js:U Nat}{f c':Y}{vs:U V}{us:U F}{h':A2y}{tk:Nat}
def Y6(a:Y)(q:Str):HO := .ext λh=>h.CodeRec (.ref a) q
end
section
variable{X:Cx}{pins:U (Y×Obj)}{σ:St}{H:Hp}{s:A2m}{A:A2w}{E:F->A2m->Prop}{a k:Y}{vs:U F}{P:PySem.Fin->A2m->Prop}{e:Nat}{kz:U Int}{h':A2y}
def Inv.take{i:Nat}{o:HO}(I:Inv X pins σ H s)(j:FpOk X pins H a)(g:ObjOk X.prog X.w (upd H a o) s.heap a o):Inv X pins σ (upd H a o) {s with toks:=i}:=by
 obtain⟨d,l,B,p,r,t⟩:=j
 refine I.step (h':=s.heap) (g':=s.gens) (d':=s.drawn) (ch:=[a]) (λb f=>?_) (λb o _ _ _ e _=>e) (λb o _ _ _ e _=>⟨o.slots,e⟩) (λb u x e n=>by rw[g7 (λz=>x (by simp[z]))];exact n)
  (λb o _ e=>⟨o,e⟩) (λb h e=>by rw[g7 (i8 e d)];exact e) (λb u h e=>by rw[g7 (i8 e d)];exact e) (λb C e=>⟨#[],by rw[g7 (i8 e d),e];simp⟩) (λm y=>y) (λb u e=>?_) I.bare
 ·rw[Yt.mp f];exact⟨p,l,r,t⟩
 ·by_cases f:b=a
  ·subst f;rw[i3]at e;cases e;exact g
  ·rw[g7 f]at e;exact(I.hok b u e).stay (λc v _ q=>q) (λc q=>by rw[g7 (i8 q d)];exact q) λc h q=>by rw[g7 (i8 q d)];exact q
end
def Wx(H:Hp)(q:Str)(pos:Pos)(ps:Array F):Prop:=TriplesOk ps.toList/\(codeAmong pos ps.toList=aB\/∃ a,codeAmong pos ps.toList=O (.ref a)/\H a=O (Y6 a q))
def ObjOk.here{P:A2r}{w:A2u}{H:Hp}{h:A2y}{a:Y}{o:HO}(x:ObjOk P w H h a o):∃ c,h.get? a=aA c:=by
 cases o with
 | lst d=>obtain⟨_,_,_,_,e⟩:=x;exact⟨_,e⟩
 | tup d=>obtain⟨_,_,_,o,e,_⟩:=x;exact⟨_,e⟩
 | dK b=>obtain⟨_,_,_,_,o,_,_,e,_⟩:=x;exact⟨_,e⟩
 | dT b=>obtain⟨_,_,_,_,o,_,_,e,_⟩:=x;exact⟨_,e⟩
 | set S n=>obtain⟨o,_,_,_,e,_⟩:=x;exact⟨_,e⟩
 | ins C g fs=>obtain⟨_,_,_,e,_⟩:=x;exact⟨_,e⟩
 | own y=>exact x
 | xd fs=>obtain⟨_,⟨_,_,_,e,_⟩,_⟩:=x;exact⟨_,e⟩
 | rng lo i=>obtain⟨_,_,_,e⟩:=x;exact⟨_,e⟩
 | frz c u=>obtain⟨e,_⟩:=x;exact⟨_,e⟩
 | tbl j=>exact⟨_,(show h.get? a=aA _ from x)⟩
 | met f y=>exact⟨_,(show h.get? a=aA _ from x)⟩
 | ext k=>obtain⟨_,e,_⟩:=x;exact e
structure Xc(h0 h:A2y)(H:Hp)(x:Y)(C:F):Prop where
 fresh:h0.get? x=aB
 free:H x=aB
 obj:∃(oe:Obj) (vs:Array F) (a0:F),h.get? x=O oe/\oe.cls=C/\oe.data = .fields vs/\vs[0]?=O a0/\
  (vs[1]?=O .none\/∃(T:Y) (oT:Obj) (ts:Array F),vs[1]?=O (.ref T)/\T≠x/\h0.get? T=aB/\H T=aB/\h.get? T=O oT/\oT.data = .fields ts/\ts[3]?=O .none)
structure Xt(h0 h:A2y)(H:Hp)(x:Y)(C:F):Prop where
 fresh:h0.get? x=aB
 free:H x=aB
 newer:∀ b,h.get? b=aB->h0.get? b=aB
 obj:∃(oe:Obj) (vs:Array F) (a0:F) (T:Y) (oT:Obj) (ts:Array F),h.get? x=O oe/\oe.cls=C/\oe.data = .fields vs/\vs[0]?=O a0/\vs[1]?=O (.ref T)/\T≠x/\h0.get? T=aB/\H T=aB/\h.get? T=O oT/\oT.data = .fields ts/\ts[3]?=O .none
def Xt.xc{c h:A2y}{H:Hp}{x:Y}{C:A2k}(t:Xt c h H x C):Xc c h H x C:=by obtain⟨d,e,a0,T,f,g,i,j,k,l,m,n,o,p,q,a,b⟩:=t.obj;exact⟨t.fresh,t.free,d,e,a0,i,j,k,l,.inr ⟨T,f,g,m,n,o,p,q,a,b⟩⟩
section
variable{X:Cx}{pins:U (Y×Obj)}{σ:St}{H:Hp}{s:A2m}{E:XK}
def Catch(X:Cx)(E:XK):Prop:=∀(pins:U (Y×Obj)) (σ:St) (H:Hp) (s:A2m) (x:Y) (C:F),Inv X pins σ H s->Xc X.s₀.heap s.heap H x C->E C aB H->X.xe (.ref x) s
def Xc.since{a c h:A2y}{x:Y}{C:A2k}(d:Xc c h H x C)(k:∀ b,c.get? b=aB->a.get? b=aB):Xc a h H x C:=by obtain⟨f,e,g,i,a0,j,l,m,n,o⟩:=d;refine⟨k _ f,e,g,i,a0,j,l,m,n,o.imp id ?_⟩;rintro⟨T,p,r,q1,q2,q3,q⟩;exact⟨T,p,r,q1,q2,k _ q3,q⟩
structure Since(X:Cx)(pins:List (Y×Obj))(h0:A2y):Prop where
 old:∀ b,h0.get? b=aB->X.s₀.heap.get? b=aB
 pin:∀ p∈X.pn++pins,h0.get? p.1≠aB
def V1(X:Cx)(E:XK):Prop:=∀(pins:U (Y×Obj)) (σ:St) (H:Hp) (s:A2m) (a:A2y) (x:Y) (C:F),Inv X pins σ H s->Since X pins a->Xt a s.heap H x C->E C aB H->X.xe (.ref x) s
def Catch.t(c:Catch X E):V1 X E:=λpins σ H s d x C I S a b=>c pins σ H s x C I (a.xc.since S.old) b
end
section
variable{X:Cx}{pins:U (Y×Obj)}{σ:St}{H:Hp}{s:A2m}
def Wy(x:Y)(C:F):HO := .ext λh=>∃ o,h.get? x=O o/\o.cls=C
abbrev Cx.held(X:Cx)(x:Y):Cx:={X with A:=X.A.mark (aA (.ref x)),calm:=aD,xe:=λ_ _=>False}
theorem Inv.held(I:Inv X pins σ H s)(x:Y):Inv (X.held x) pins σ H s:=
 ⟨⟨I.ok.mod,I.ok.kind,I.ok.glob,I.ok.blt,I.ok.above,I.ok.inj,I.ok.has,I.ok.cab,(λz=>nomatch z),I.ok.frames,I.ok.stk,I.ok.exf,I.ok.bs,I.ok.bsz,I.ok.noex,I.ok.exfs,I.ok.funs,I.ok.frf⟩,I.os,I.bare,I.base,I.loc,I.cell,I.free,I.freeC,I.pin,I.hok,I.len⟩
end
structure ExcT(K:YZ)(D:Y):Prop where
 cl:(PySem.W.clsIn K D).isSome=aC
 obj:PySem.W.mroIn K D (.type "object")=O aC
 bas:PySem.W.mroIn K D (.type "BaseException")=O aC
 get:PySem.W.findIn K (.ref D) "__class__"=O (O (.builtin "object.__class__"))
 gat:PySem.W.findIn K (.ref D) "__getattribute__"=O (O (.builtin "BaseException.__getattribute__"))
 gno:PySem.W.findIn K (.ref D) "__getattr__"=O aB
abbrev bmVE:U A2k:=[.type "ValueError",.type "Exception",.type "BaseException",.type "object"]
end L2
namespace Rf
open PySem L2
inductive TyN where
 | int | bool | str | list | tuple | none
 deriving DecidableEq
noncomputable def TyN.nm:TyN->String
 | .int=>"int" | .bool=>"bool" | .str=>"str" | .list=>"list" | .tuple=>"tuple" | .none=>"NoneType"
structure XCls where
 ad:Y
 un:List Y
 tb:List (Str×Y×Bool)
 deriving DecidableEq
inductive SV where
 | non | bl (b:Bool) | int (i:Int) | str (x:Str) | tup (xs:List SV) | loc (k:Nat) | ro (xs:List SV) | ty (t:TyN) | exc (c:XCls)
inductive SO where
 | lst (xs:List SV)
 | iset (ms:List Int)
 | dtp (kvs:List ((Int×Int)×Int)) | dtl (kvs:List (List Int×SV)) | dtf (o:Obj) (us:List (List Key×V)) (kvs:List (List Int×SV)) | dct (kvs:List (Int×SV)) | dcf (o:Obj) (ks:List (Key×V)) (kvs:List (Int×SV)) | tbl (x:Str) (lp:Pos)
abbrev Sto:=U SO
abbrev EnvS:=U (Option SV)
def FzL(K:YZ)(H:Hp)(a:Y)(vs:U V):Prop:=(∃ o,H a=O (.frz o (.lst vs)))\/
 ∃(o:Obj) (b:Array F) (n:Nat),K.lookup a=O o/\o.cls = .type "list"/\o.dict=aB/\o.data = .seq b n/\b.size<=A2s/\Vals vs b.toList
def FzL.sq{K:YZ}{H:Hp}{a:Y}{b:U V}(h:FzL K H a b):SqL K H a b:=h.imp (by rintro⟨o,e⟩;exact .inr ⟨o,e⟩) id
structure ClsK(K:YZ)(c:XCls):Prop where
 t:ExcT K c.ad
 x:PySem.W.excIn K c.ad bmVE "ValueError.__new__"=aC
 un:∀ D∈c.un,PySem.W.mroIn K c.ad (.ref D)=O aC
 nv:PySem.W.nsIn K A2t "ValueError"=O aB
 kv:PySem.W.kitOne K (.ref c.ad) (.type "ValueError")=O aC
 tb:∀ p∈c.tb,PySem.W.nsIn K A2t p.1=O (O (.ref p.2.1))/\PySem.W.kitOne K (.ref c.ad) (.ref p.2.1)=O p.2.2
mutual
noncomputable def Rl(K:YZ)(as:U Y)(H:Hp):V->SV->Prop
 | v,.non=>v = .non
 | v,.bl b=>v = .bl b
 | v,.int i=>v = .int i
 | v,.str x=>v = .str x
 | v,.tup xs=>∃ p vs,v = .ref p/\H p=O (.tup vs)/\RlAll K as H vs xs
 | v,.loc k=>∃ a,as[k]?=O a/\v = .ref a
 | v,.ro xs=>∃ a vs,v = .ref a/\FzL K H a vs/\RlAll K as H vs xs
 | v,.ty t=>v = .ty t.nm
 | v,.exc c=>∃ a,v = .ref a/\H a=O (Wy a (.ref c.ad))/\ClsK K c
noncomputable def RlAll(K:YZ)(as:U Y)(H:Hp):U V->U SV->Prop
 | vs,[]=>vs=[]
 | vs,x::xs=>∃ v r,vs=v::r/\Rl K as H v x/\RlAll K as H r xs
end
def imm:HO->Bool
 | .tup _=>aC
 | .frz _ (.lst _)=>aC
 | .ext _=>aC
 | _=>aD
def KeepU(H a:Hp):Prop:=∀ b o,H b=O o->imm o=aC->a b=O o
def KeepU.refl(H:Hp):KeepU H H:=λ_ _ h _=>h
def KeepU.trans{H d c:Hp}(a:KeepU H d)(b:KeepU d c):KeepU H c:=λx o h i=>b x o (a x o h i) i
def y7{H:Hp}{p:Y}{o:HO}(a:H p=aB):KeepU H (upd H p o):=λb u h _=>by
 rw[g7 (i8 h a)];exact h
def Cy{H:Hp}{a:Y}{u o:HO}(h:H a=O u)(i:imm u=aD):KeepU H (upd H a o):=λb v c d=>by
 rw[g7 (Jk c h (by intro z;rw[z,i]at d;cases d))];exact c
def FzL.mono{K:YZ}{H b:Hp}{a:Y}{c:U V}(k:KeepU H b)(h:FzL K H a c):FzL K b a c:=h.imp (by rintro⟨o,e⟩;exact⟨o,k _ _ e rfl⟩) id
def DP{c:Type}{d b:U c}(h:d <+: b){k:Nat}{a:c}(e:d[k]?=O a):b[k]?=O a:=by obtain⟨t,rfl⟩:=h;rw[Yw ((gM e).1)];exact e
mutual
theorem Rl.mono{K:YZ}{l b:U Y}{H m:Hp}(g:l <+: b)(d:KeepU H m):∀(x:SV) (v:V),Rl K l H v x->Rl K b m v x
 | .non,v,h=>by unfold Rl at h ⊢;exact h
 | .bl _,v,h=>by unfold Rl at h ⊢;exact h
 | .int _,v,h=>by unfold Rl at h ⊢;exact h
 | .str _,v,h=>by unfold Rl at h ⊢;exact h
 | .tup i,v,h=>by
   unfold Rl at h ⊢;obtain⟨p,f,e,j,h⟩:=h;exact⟨p,f,e,d p _ j rfl,RlAll.mono g d i f h⟩
 | .ro i,v,h=>by
   unfold Rl at h ⊢;obtain⟨p,f,e,j,h⟩:=h;exact⟨p,f,e,j.mono d,RlAll.mono g d i f h⟩
 | .ty _,v,h=>by unfold Rl at h ⊢;exact h
 | .exc c,v,h=>by
   unfold Rl at h ⊢;obtain⟨a,e,z,q⟩:=h;exact⟨a,e,d a _ z rfl,q⟩
 | .loc k,v,h=>by
   unfold Rl at h ⊢;obtain⟨a,e,z⟩:=h;exact⟨a,DP g e,z⟩
theorem RlAll.mono{K:YZ}{d a:U Y}{H f:Hp}(g:d <+: a)(i:KeepU H f):∀(b:U SV) (c:U V),RlAll K d H c b->RlAll K a f c b
 | [],c,h=>by unfold RlAll at h ⊢;exact h
 | x::b,c,h=>by
   unfold RlAll at h ⊢;obtain⟨v,r,e,j,k⟩:=h;exact⟨v,r,e,Rl.mono g i x v j,RlAll.mono g i b r k⟩
end
section
variable{K:YZ}{as:U Y}{H:Hp}
def rl_non{v:V}:Rl K as H v .non↔v = .non:=by unfold Rl;exact Iff.rfl
def rl_bl{v:V}{b:Bool}:Rl K as H v (.bl b)↔v = .bl b:=by unfold Rl;exact Iff.rfl
def rl_int{v:V}{i:Int}:Rl K as H v (.int i)↔v = .int i:=by unfold Rl;exact Iff.rfl
def rl_str{v:V}{x:Str}:Rl K as H v (.str x)↔v = .str x:=by unfold Rl;exact Iff.rfl
def rl_tup{v:V}{a:U SV}:Rl K as H v (.tup a)↔∃ p b,v = .ref p/\H p=O (.tup b)/\RlAll K as H b a:=by rw[Rl]
def rl_loc{v:V}{k:Nat}:Rl K as H v (.loc k)↔∃ a,as[k]?=O a/\v = .ref a:=by unfold Rl;exact Iff.rfl
def rl_ro{v:V}{b:U SV}:Rl K as H v (.ro b)↔∃ a c,v = .ref a/\FzL K H a c/\RlAll K as H c b:=by rw[Rl]
def rl_exc{v:V}{c:XCls}:Rl K as H v (.exc c)↔∃ a,v = .ref a/\H a=O (Wy a (.ref c.ad))/\ClsK K c:=by unfold Rl;exact Iff.rfl
def rl_ty{v:V}{n:TyN}:Rl K as H v (.ty n)↔v = .ty n.nm:=by unfold Rl;exact Iff.rfl
def rla_nil{a:U V}:RlAll K as H a []↔a=[]:=by unfold RlAll;exact Iff.rfl
def rla_cons{a:U V}{x:SV}{b:U SV}:RlAll K as H a (x::b)↔∃ v r,a=v::r/\Rl K as H v x/\RlAll K as H r b:=by rw[RlAll]
def RlAll.nil:RlAll K as H [] []:=rla_nil.mpr rfl
def RlAll.cons{v:V}{x:SV}{a:U V}{b:U SV}(h:Rl K as H v x)(t:RlAll K as H a b):RlAll K as H (v::a) (x::b):=rla_cons.mpr ⟨v,a,rfl,h,t⟩
theorem RlAll.length:∀{xs:U SV} {a:U V},RlAll K as H a xs->a.length=xs.length
 | [],_,h=>by rw[rla_nil.mp h];rfl
 | x::xs,_,h=>by
   obtain⟨v,r,rfl,_,t⟩:=rla_cons.mp h;simp[t.length]
theorem RlAll.get:∀{b:U SV} {c:U V} {i:Nat} {x:SV},RlAll K as H c b->b[i]?=aA x->∃ v,c[i]?=aA v/\Rl K as H v x
 | [],_,i,_,_,e=>by simp at e
 | y::b,_,0,_,h,e=>by
   obtain⟨v,r,rfl,a,_⟩:=rla_cons.mp h;simp at e;subst e;exact⟨v,rfl,a⟩
 | y::b,_,i+1,_,h,e=>by
   obtain⟨v,r,rfl,_,t⟩:=rla_cons.mp h;simpa using t.get (by simpa using e)
theorem RlAll.append:∀{b d:U SV} {e f:U V},RlAll K as H e b->RlAll K as H f d->RlAll K as H (e++f) (b++d)
 | [],_,_,_,h,c=>by rw[rla_nil.mp h];exact c
 | x::b,_,_,_,h,c=>by
   obtain⟨v,r,rfl,a,t⟩:=rla_cons.mp h;exact .cons a (t.append c)
theorem RlAll.take:∀{b:U SV} {c:U V} (n:Nat),RlAll K as H c b->RlAll K as H (c.take n) (b.take n)
 | _,_,0,_=>by simpa using RlAll.nil
 | [],_,n+1,h=>by rw[rla_nil.mp h];exact .nil
 | x::b,_,n+1,h=>by
   obtain⟨v,r,rfl,a,t⟩:=rla_cons.mp h;exact .cons a (t.take n)
theorem RlAll.drop:∀{b:U SV} {c:U V} (n:Nat),RlAll K as H c b->RlAll K as H (c.drop n) (b.drop n)
 | _,_,0,h=>h
 | [],_,n+1,h=>by rw[rla_nil.mp h];exact .nil
 | x::b,_,n+1,h=>by
   obtain⟨v,r,rfl,a,t⟩:=rla_cons.mp h;exact t.drop n
theorem RlAll.set{x:SV}{v:V}(c:Rl K as H v x):∀{b:U SV} {d:U V} (n:Nat),RlAll K as H d b->RlAll K as H (d.set n v) (b.set n x)
 | [],_,n,h=>by rw[rla_nil.mp h];exact .nil
 | y::b,_,0,h=>by
   obtain⟨_,r,rfl,_,t⟩:=rla_cons.mp h;exact .cons c t
 | y::b,_,n+1,h=>by
   obtain⟨_,r,rfl,a,t⟩:=rla_cons.mp h;exact .cons a (t.set c n)
def RlAll.ins{x:SV}{v:V}(c:Rl K as H v x){a:U SV}{b:U V}(h:RlAll K as H b a)(n:Nat):RlAll K as H (b.take n++v::b.drop n) (a.take n++x::a.drop n):=(h.take n).append (.cons c (h.drop n))
def RlAll.ints{a:U Int}:RlAll K as H (a.map V.int) (a.map SV.int):=by
 induction a with
 | nil=>exact .nil
 | cons i a b=>exact .cons (rl_int.mpr rfl) b
end
noncomputable def RlD(K:YZ)(as:U Y)(H:Hp):U (Key×V)->U (Int×SV)->Prop
 | ks,[]=>ks=[]
 | ks,p::r=>∃ v t,ks=(.inl p.1,v)::t/\Rl K as H v p.2/\RlD K as H t r
theorem RlD.mono{K:YZ}{c a:U Y}{H d:Hp}(f:c <+: a)(g:KeepU H d):∀(b:U (Int×SV)) (i:U (Key×V)),RlD K c H i b->RlD K a d i b
 | [],_,h=>h
 | p::r,_,⟨v,t,e,j,k⟩=>⟨v,t,e,Rl.mono f g p.2 v j,RlD.mono f g r t k⟩
noncomputable def RlT(K:YZ)(as:U Y)(H:Hp):U (U Key×V)->U (U Int×SV)->Prop
 | a,[]=>a=[]
 | a,p::r=>∃ v t,a=(p.1.map Sum.inl,v)::t/\Rl K as H v p.2/\RlT K as H t r
theorem RlT.mono{K:YZ}{c a:U Y}{H d:Hp}(f:c <+: a)(g:KeepU H d):∀(b:U (U Int×SV)) (i:U (U Key×V)),RlT K c H i b->RlT K a d i b
 | [],_,h=>h
 | p::r,_,⟨v,t,e,j,k⟩=>⟨v,t,e,Rl.mono f g p.2 v j,RlT.mono f g r t k⟩
def dtV(kvs:U ((Int×Int)×Int)):U (U Key×V):=kvs.map λp=>([.inl p.1.1,.inl p.1.2],V.int p.2)
noncomputable def TabK(K:YZ)(x:Str)(c P:Y):Prop:=PySem.W.tabIn K x=O (c,P)/\PySem.W.codeHdIn K c P=aC
abbrev Y7(x:Str):Str:=x++".<locals>."++"<lambda>"
noncomputable def RlO(K:YZ)(as:U Y)(H:Hp)(a:Y):SO->Prop
 | .lst xs=>∃ vs,H a=O (.lst vs)/\RlAll K as H vs xs
 | .iset ms=>∃ F,H a=O (.set F ms.length)/\∀ k,F k=decide (k∈ms)
 | .dtp kvs=>H a=O (.dT (dtV kvs))
 | .dtl kvs=>∃ b,H a=O (.dT b)/\RlT K as H b kvs
 | .dtf o b kvs=>H a=O (.frz o (.dT b))/\RlT K as H b kvs
 | .dct kvs=>∃ ks,H a=O (.dK ks)/\RlD K as H ks kvs
 | .dcf o ks kvs=>H a=O (.frz o (.dK ks))/\RlD K as H ks kvs
 | .tbl x d=>∃ c ps,H a=O (.tbl ps)/\TabK K x c a/\Wx H (Y7 x) d ps
structure Ok(K:YZ)(as:List Y)(H:Hp)(S:Sto):Prop where
 len:as.length=S.length
 nd:as.Nodup
 obj:∀(k:Nat) (o:SO) (a:Y),S[k]?=O o->as[k]?=O a->RlO K as H a o
noncomputable def EnvOk(K:YZ)(as:U Y)(H:Hp)(a:St)(b:EnvS):Prop:=a.length=b.length/\∀(i:Nat) (x:SV),b[i]?=O (O x)->∃ v,a[i]?=O (O v)/\Rl K as H v x
theorem EnvOk.mono{K:YZ}{d c:U Y}{H f:Hp}{g:St}{j:EnvS}(h:EnvOk K d H g j)(k:d <+: c)(l:KeepU H f):EnvOk K c f g j:=⟨h.1,λi x e=>let ⟨v,a,b⟩:=h.2 i x e;⟨v,a,Rl.mono k l x v b⟩⟩
theorem EnvOk.set{K:YZ}{b:U Y}{H:Hp}{d:St}{c:EnvS}(h:EnvOk K b H d c){i:Nat}{v:V}{x:SV}(g:Rl K b H v x):EnvOk K b H (d.set i (aA v)) (c.set i (aA x)):=⟨by rw[ZH,ZH];exact h.1,λj y e=>by
 by_cases a:i=j
 ·subst a;have f:i<c.length:=by have:=(gM e).1;rwa [ZH]at this
  rw[Zf f]at e;rw[Zf (by rw[h.1];exact f)];cases e;exact⟨v,rfl,g⟩
 ·rw[A01 a]at e ⊢;exact h.2 j y e⟩
section
variable{K:YZ}{as:U Y}{H:Hp}{S:Sto}
theorem RlO.mono{h:U Y}{l:Hp}{a:Y}(i:as <+: h)(g:KeepU H l)(e:∀ u,H a=aA u->l a=aA u):∀{o:SO},RlO K as H a o->RlO K h l a o
 | .lst p,⟨m,d,f⟩=>⟨m,e _ d,RlAll.mono i g p m f⟩
 | .iset v,⟨F,d,f⟩=>⟨F,e _ d,f⟩
 | .dtp b,d=>e _ d
 | .dtl b,⟨j,d,f⟩=>⟨j,e _ d,RlT.mono i g b j f⟩
 | .dtf _ j b,⟨d,f⟩=>⟨e _ d,RlT.mono i g b j f⟩
 | .dct b,⟨k,d,f⟩=>⟨k,e _ d,RlD.mono i g b k f⟩
 | .dcf _ k b,⟨d,f⟩=>⟨e _ d,RlD.mono i g b k f⟩
 | .tbl x w,⟨c,q,d,f,n⟩=>⟨c,q,e _ d,f,n.1,n.2.imp id (by rintro⟨r,s,t⟩;exact⟨r,s,g _ _ t rfl⟩)⟩
def RlO.some{a:Y}:∀{o:SO},RlO K as H a o->∃ u,H a=aA u/\imm u=aD
 | .lst _,⟨_,h,_⟩=>⟨_,h,rfl⟩
 | .iset _,⟨_,h,_⟩=>⟨_,h,rfl⟩
 | .dtp _,h=>⟨_,h,rfl⟩
 | .dtl _,⟨_,h,_⟩=>⟨_,h,rfl⟩
 | .dtf _ _ _,⟨h,_⟩=>⟨_,h,rfl⟩
 | .dct _,⟨_,h,_⟩=>⟨_,h,rfl⟩
 | .dcf _ _ _,⟨h,_⟩=>⟨_,h,rfl⟩
 | .tbl _ _,⟨_,_,h,_⟩=>⟨_,h,rfl⟩
def Ok.at(h:Ok K as H S){k:Nat}{o:SO}(e:S[k]?=aA o):∃ a,as[k]?=aA a/\RlO K as H a o:=by
 have b:k<as.length:=by rw[h.len];exact(gM e).1
 exact⟨as[k],Ya b,h.obj k o _ e (Ya b)⟩
def Ok.of(h:Ok K as H S){k:Nat}{a:Y}(e:as[k]?=aA a):∃ o,S[k]?=aA o/\RlO K as H a o:=by
 have b:k<S.length:=by rw[<-h.len];exact(gM e).1
 exact⟨S[k],Ya b,h.obj k _ a (Ya b) e⟩
def Ok.new(h:Ok K as H S){p:Y}{o:HO}(b:H p=aB):Ok K as (upd H p o) S:=⟨h.len,h.nd,λk u a e c=>by
 have r:=h.obj k u a e c;obtain⟨z,d,_⟩:=r.some;exact r.mono (Z3 as) (y7 b) λg f=>by rw[g7 (i8 d b)];exact f⟩
def Ok.free(h:Ok K as H S){p:Y}(b:H p=aB):p∉as:=λc=>by
 obtain⟨k,d⟩:=Z4 c;obtain⟨o,_,r⟩:=h.of d;obtain⟨z,a,_⟩:=r.some;rw[b]at a;cases a
def Ok.pushO(h:Ok K as H S){p:Y}(g:H p=aB){u:HO}{x:SO}(r:RlO K (as++[p]) (upd H p u) p x):Ok K (as++[p]) (upd H p u) (S++[x]):=by
 have d:as <+: as++[p]:=Zo _ _;refine⟨by rw[Yd,Yd,h.len];rfl,?_,λk o a e c=>?_⟩
 ·rw[A03];refine⟨h.nd,by simp,λa j b l=>?_⟩;rw[Yt.mp l];intro z;subst z;exact h.free g j
 ·by_cases i:k<S.length
  ·rw[Yw i]at e;rw[Yw (by rw[h.len];exact i)]at c;exact((h.new (o:=u) g).obj k o a e c).mono d (KeepU.refl _) λ_ z=>z
  ·have f:k=S.length:=by
    have:=(gM e).1;rw[Yd,ZS]at this
    lia
   subst f;rw[Z9]at e;rw[<-h.len,Z9]at c;cases e;cases c;exact r
def Ok.push(h:Ok K as H S){p:Y}(c:H p=aB){a:U V}{b:U SV}(r:RlAll K as H a b):Ok K (as++[p]) (upd H p (.lst a)) (S++[.lst b]):=h.pushO c ⟨a,i3,RlAll.mono (Zo _ _) (y7 c) b a r⟩
def Ok.writeO(h:Ok K as H S){k:Nat}{a:Y}{y x:SO}{u:HO}(e:S[k]?=aA y)(c:as[k]?=aA a)(r:KeepU H (upd H a u)->RlO K as (upd H a u) a x):Ok K as (upd H a u) (S.set k x)/\KeepU H (upd H a u):=by
 obtain⟨z,m,n⟩:=(h.obj k _ a e c).some;have g:KeepU H (upd H a u):=Cy m n;refine⟨⟨by rw[ZH];exact h.len,h.nd,λj o b d f=>?_⟩,g⟩;by_cases i:k=j
 ·subst i;rw[Zf ((gM e).1)]at d;rw[c]at f;cases d;cases f;exact r g
 ·rw[A01 i]at d
  have l:b≠a:=λz=>by
   subst z;exact i ((A04 ((gM c).1) h.nd).mp (c.trans f.symm))
  exact(h.obj j o b d f).mono (Z3 as) g λq p=>by rw[g7 l];exact p
def Ok.write(h:Ok K as H S){k:Nat}{a:Y}{d c:U SV}{b:U V}(e:S[k]?=aA (.lst d))(f:as[k]?=aA a)(r:RlAll K as H b c):Ok K as (upd H a (.lst b)) (S.set k (.lst c))/\KeepU H (upd H a (.lst b)):=h.writeO e f λg=>⟨b,i3,RlAll.mono (Z3 as) g c b r⟩
end
structure Go(as:List Y)(H:Hp)(as':List Y)(H':Hp):Prop where
 pre:as <+: as'
 keep:∀ b o,H b=O o->b∉as->H' b=O o/\b∉as'
def Go.refl(a:U Y)(H:Hp):Go a H a H:=⟨Z3 _,λ_ _ h n=>⟨h,n⟩⟩
theorem Go.trans{e c d:U Y}{H f g:Hp}(a:Go e H c f)(b:Go c f d g):Go e H d g:=⟨a.pre.trans b.pre,λx o h n=>let ⟨i,j⟩:=a.keep x o h n;b.keep x o i j⟩
def Go.new{a:U Y}{H:Hp}{p:Y}{o:HO}(c:H p=aB):Go a H a (upd H p o):=⟨Z3 _,λb u h n=>⟨by rw[g7 (i8 h c)];exact h,n⟩⟩
def Go.push{a:U Y}{H:Hp}{p:Y}{o:HO}(c:H p=aB):Go a H (a++[p]) (upd H p o):=⟨Zo _ _,λb u h n=>⟨by rw[g7 (i8 h c)];exact h,by
 rw[Yz,Yt];rintro(z | z)
 ·exact n z
 ·exact i8 h c z⟩⟩
def Go.write{c:U Y}{H:Hp}{a:Y}{o:HO}(d:a∈c):Go c H c (upd H a o):=⟨Z3 _,λb u h n=>⟨by rw[g7 (λz=>n (by rw[z];exact d))];exact h,n⟩⟩
section
variable{K:YZ}{as as':U Y}{H H':Hp}{S:Sto}
def Ok.away(h:Ok K as H S){b:Y}{o:HO}(e:H b=aA o)(i:imm o=aC):b∉as:=λd=>by
 obtain⟨k,f⟩:=Z4 d;obtain⟨_,_,r⟩:=h.of f;obtain⟨z,a,c⟩:=r.some;rw[e]at a;cases a;rw[i]at c;cases c
def Go.ku(g:Go as H as' H')(a:Ok K as H S):KeepU H H':=λb o h i=>(g.keep b o h (a.away h i)).1
end
end Rf
namespace L2
open PySem PySem.Spec PyProof.Rows
open PySem.AutoSeq1 (wpAny_loadPart')
section
variable{prog:A2r}{w:A2u}{A:A2w}{E:F->A2m->Prop}{s:A2m}
def Ik{v:F}{Q:Option F->A2m->Prop}(a:s.TypeIs v "list")(h:Q aB s):A2o (A2q prog w) A (firstOfTuple' v) Q E s:=by
 rw[Cw];refine Z (A2U (T:="list") a ?_);have b:(Value.type "list" != Value.type "tuple")=aC:=by decide
 rw[b];simp only[if_true];exact A2l h
def Il{v:F}{a:U F}{Q:A4i->A2m->Prop}(d:∀ u∈v::a,s.TypeIs u "list")(h:Q A4j s):A2o (A2q prog w) A (keyKind' (v::a).toArray) Q E s:=by
 rw[keyKind'_eq,A1K];refine Z ?_;rw[map_eq_pure_bind];refine Z (CI (v::a) (λ_=>aB) (λu hu e c=>Ik (d u hu) c) (A2l ?_));have f:¬ ((A1L (λ(_:F)=>(none:Option F)) (v::a)).toArray.all λx=>x.isSome)=aC:=by simp
 rw[iG f];have g:¬ (((A1L (λ(_:F)=>(none:Option F)) (v::a)).toArray[0]?).bind id).isSome=aC:=by simp
 rw[iG g,oneTypeOnly'_eq,A1K];refine Z ?_;rw[map_eq_pure_bind];refine Z (Z (CI (v::a) (λ_=>Value.type "list") (λu hu e c=>A2U (d u hu) c) (A2l ?_)))
 have b:((A1L (λ(_:F)=>Value.type "list") (v::a)).toArray.all λx=>x == Value.type "list")=aC:=by
  simp only[List.all_toArray,A1g,ZJ];intro _ _;rfl
 have i:(A1L (λ(_:F)=>Value.type "list") (v::a)).toArray[0]?=O (Value.type "list"):=by simp
 rw[i];dsimp only;rw[iP b];exact A2l (A2l h)
end
theorem Ca:∀{a:U Y} {b:U F},Vals (a.map V.ref) b->b=a.map Value.ref
 | [],_,.nil=>rfl
 | _::a,_,.cons c d=>by cases c;rw[Ca d];rfl
section
variable{X:Cx}
def Wz:A2v "any"=O (.builtin "any"):=by decide +kernel
def M5(D:X.calm=aC):CallR X (.builtin "any") (λz H Q=>∃(a:Y) (c:U Bool),z=[.ref a]/\SqL X.K H a (c.map V.bl)/\Q (.bl (c.any id)) H):=by
 intro f s E H z us Q I r h;obtain⟨a,c,rfl,G,q⟩:=h;obtain⟨u,rfl,L⟩:=Af r;cases L;obtain⟨d,A,p,hz⟩:=I.list G;have B:=A.length;rw[YY]at B;refine call_any_walk (A36 p.isList ?_);have t:a<s.heap.objs.size:=by obtain⟨o,n,e,_⟩:=p;exact Yk e
 refine⟨s.heap.objs.size,_,_,_,_,_,λi=>c.getD i aD,J,Walks.list (by exact I.ok.hd D) s.heap.objs.size a (Ys t) d.toArray,⟨⟨_,Yn _ J,J,J⟩,p.isList.push _⟩,?_,λM N P=>?_⟩
 ·intro i v R S E' T w;have g:d[i]?=O v:=by simpa using T
  have hi:i<d.length:=(gM g).1;have x:(c.map V.bl)[i]?=O (.bl (c[i]'(by lia))):=by simp
  obtain⟨u',C,y⟩:=A.get x;rw[g]at C;cases C;cases y;have W:c.getD i aD=c[i]'(by lia):=by simp[Zl,show i<c.length by lia]
  have k:S (c.getD i aD) R:=w;rw[W]at k;exact A2I k
 ·have I1:Inv X f E H {s with heap:=M,toks:=N}:=I.kept λb o e=>P b o (by simp;exact Ys (Yk e)) (Yf _ e);refine⟨.bl _,H,I1,J,?_⟩
  have e:(Ye d.toArray.size).any (λi=>c.getD i aD)=c.any id:=by
   rw[Yl,<-B,Za,Zt,Zt];constructor
   ·rintro⟨j,m,e⟩;have l:j<c.length:=Yr.mp m;exact⟨c[j],Zs l,by simpa[Zl,l] using e⟩
   ·rintro⟨b,x,e⟩;obtain⟨j,m,e2⟩:=A02.mp x;exact⟨j,Yr.mpr m,by simpa[Zl,m,e2] using e⟩
  rw[e];exact q
end
end L2
namespace Rf
open PySem L2
abbrev QE:=SV->Sto->Prop
abbrev WE:=EnvS->Sto->QE->Prop
abbrev WA:=EnvS->Sto->(U SV->Sto->Prop)->Prop
abbrev WT:=EnvS->Sto->(Bool->Sto->Prop)->Prop
noncomputable def Post(K:YZ)(as:U Y)(H:Hp)(Q:VK):QE:=λx S'=>∀ a b v,Go as H a b->Ok K a b S'->Rl K a b v x->Q v b
noncomputable def X0(K:YZ)(as:U Y)(H:Hp)(Q:U V->Hp->Prop):U SV->Sto->Prop:=λxs S'=>∀ a b vs,Go as H a b->Ok K a b S'->RlAll K a b vs xs->Q vs b
def PostT(K:YZ)(as:U Y)(H:Hp)(Q:Bool->Hp->Prop):Bool->Sto->Prop:=λb S'=>∀ a c,Go as H a c->Ok K a c S'->Q b c
noncomputable def lift(K:YZ)(w:WE):TE:=λb H Q=>∃ as a S,Ok K as H S/\EnvOk K as H b a/\w a S (Post K as H Q)
noncomputable def liftA(K:YZ)(w:WA):TA:=λb H Q=>∃ as a S,Ok K as H S/\EnvOk K as H b a/\w a S (X0 K as H Q)
noncomputable def liftT(K:YZ)(w:WT):TT:=λb H Q=>∃ as a S,Ok K as H S/\EnvOk K as H b a/\w a S (PostT K as H Q)
def Mono(w:WE):Prop:=∀ a S (P b:QE),(∀ x S',P x S'->b x S')->w a S P->w a S b
def MonoA(w:WA):Prop:=∀ a S (P b:U SV->Sto->Prop),(∀ x S',P x S'->b x S')->w a S P->w a S b
def MonoT(w:WT):Prop:=∀ a S (P b:Bool->Sto->Prop),(∀ x S',P x S'->b x S')->w a S P->w a S b
def j5{X:Cx}{e:A2p}{t:TE}(d:TE)(h:PE X e t)(c:∀ a H Q,d a H Q->t a H Q):PE X e d:=λb s a H Q I f=>h b s a H Q I (c a H Q f)
def Fb{X:Cx}{e:A2p}{t:TT}(d:TT)(h:PT X e t)(c:∀ a H Q,d a H Q->t a H Q):PT X e d:=λb s a H Q I f=>h b s a H Q I (c a H Q f)
def Nu{X:Cx}{e:U A2p}{t:TA}(d:TA)(h:PA X e t)(c:∀ a H Q,d a H Q->t a H Q):PA X e d:=λp b s a H Q I f=>h p b s a H Q I (c a H Q f)
section
variable{K:YZ}{as as1 as2:U Y}{H H1 H2:Hp}
def Post.mono{Q:VK}{x:SV}{S:Sto}(h:Post K as H Q x S)(g:Go as H as1 H1):Post K as1 H1 Q x S:=λa b v c=>h a b v (g.trans c)
end
abbrev S2:=SV->SV->Sto->QE->Prop
abbrev S1:=SV->Sto->QE->Prop
abbrev Sn:=U SV->Sto->QE->Prop
def w2(s:S2)(a b:WE):WE:=λρ S Q=>a ρ S λx S1=>b ρ S1 λy S2=>s x y S2 Q
def w1(s:S1)(a:WE):WE:=λρ S Q=>a ρ S λx S1=>s x S1 Q
def wn(s:Sn)(a:WA):WE:=λb S Q=>a b S λxs S1=>s xs S1 Q
def Mono2(s:S2):Prop:=∀ x y S (P a:QE),(∀ x S',P x S'->a x S')->s x y S P->s x y S a
def Nv(s:S1):Prop:=∀ x S (P a:QE),(∀ x S',P x S'->a x S')->s x S P->s x S a
def MonoN(s:Sn):Prop:=∀ x S (P a:QE),(∀ x S',P x S'->a x S')->s x S P->s x S a
def Mono.two{s:S2}{a b:WE}(c:Mono2 s)(d:Mono a)(e:Mono b):Mono (w2 s a b):=λf S P g i h=>d _ _ _ _ (λ_ _ h=>e _ _ _ _ (λ_ _ h=>c _ _ _ _ _ i h) h) h
def Mono.one{s:S1}{a:WE}(b:Nv s)(c:Mono a):Mono (w1 s a):=λd S P e i h=>c _ _ _ _ (λ_ _ h=>b _ _ _ _ i h) h
def Mono.n{s:Sn}{a:WA}(hs:MonoN s)(b:MonoA a):Mono (wn s a):=λc S P d i h=>b _ _ _ _ (λ_ _ h=>hs _ _ _ _ i h) h
noncomputable def Bi(K:YZ)(s:S2)(r:R2):Prop:=∀ as H S x y v u Q,Ok K as H S->Rl K as H v x->Rl K as H u y->s x y S (Post K as H Q)->r v u H Q
noncomputable def X6(K:YZ)(s:Sn)(r:U V->Hp->VK->Prop):Prop:=∀ as H S xs vs Q,Ok K as H S->RlAll K as H vs xs->s xs S (Post K as H Q)->r vs H Q
def By{K:YZ}{s:S2}{r:R2}{b c:WE}(d:Bi K s r)(o:Mono2 s)(p:Mono b)(q:Mono c):∀ e H Q,lift K (w2 s b c) e H Q->tOp r (lift K b) (lift K c) e H Q:=by rintro e H Q ⟨t,l,S,m,n,h⟩;refine⟨t,l,S,m,n,p _ _ _ _ (λx S1 w f G v g a A=>?_) h⟩;refine⟨f,l,S1,a,n.mono g.pre (g.ku m),q _ _ _ _ (λy S2 B i C u j k D=>?_) w⟩;exact d i C S2 x y v u Q k (Rl.mono j.pre (j.ku a) x v A) D (o _ _ _ _ _ (λz I E=>E.mono (g.trans j)) B)
def X8{K:YZ}{s:Sn}{r:U V->Hp->VK->Prop}{a:WA}(b:X6 K s r)(f:MonoN s)(g:MonoA a):∀ c H Q,lift K (wn s a) c H Q->tCB r (liftA K a) c H Q:=by rintro c H Q ⟨i,j,S,k,l,h⟩;refine⟨i,j,S,k,l,g _ _ _ _ (λx S1 m d n v o e p=>?_) h⟩;exact b d n S1 x v Q e p (f _ _ _ _ (λz t q=>q.mono o) m)
def F5:WA:=λ_ S Q=>Q [] S
def Dh(a:WE)(b:WA):WA:=λc S Q=>a c S λx S1=>b c S1 λxs S2=>Q (x::xs) S2
def MonoA.nil:MonoA F5:=λ_ _ _ _ i h=>i _ _ h
def MonoA.cons{a:WE}{b:WA}(c:Mono a)(d:MonoA b):MonoA (Dh a b):=λ_ _ _ _ i h=>c _ _ _ _ (λ_ _ h=>d _ _ _ _ (λ_ _ h=>i _ _ h) h) h
def RN{X:Cx}{K:YZ}:PA X [] (liftA K F5):=Nu _ A7 (by rintro c H Q ⟨a,d,S,b,e,h⟩;exact h a H [] (Go.refl _ _) b .nil)
def Nw{K:YZ}{a:WE}{b:WA}(n:Mono a)(o:MonoA b):∀ d H Q,liftA K (Dh a b) d H Q->GW (lift K a) (liftA K b) d H Q:=by rintro d H Q ⟨p,k,S,l,m,h⟩;refine⟨p,k,S,l,m,n _ _ _ _ (λx S1 q e w v f c r=>?_) h⟩;refine⟨e,k,S1,c,m.mono f.pre (f.ku l),o _ _ _ _ (λy S2 s g t z i j u=>?_) q⟩;exact s g t _ (f.trans i) j (.cons (Rl.mono i.pre (i.ku c) x v r) u)
def Nx{X:Cx}{K:YZ}{e:A2p}{c:U A2p}{a:WE}{b:WA}(d:Mono a)(f:MonoA b)(g:PE X e (lift K a))(h:PA X c (liftA K b))(i:A2x (e::c) X.env=(aD,eval e X.env)::A2x c X.env):PA X (e::c) (liftA K (Dh a b)):=Nu _ (n0 g h i) (Nw d f)
def V2(i:Nat):WE:=λa S Q=>∃ x,a[i]?=O (O x)/\Q x S
def wC(x:SV):WE:=λ_ S Q=>Q x S
def Mono.var{i:Nat}:Mono (V2 i):=by rintro _ _ _ _ i ⟨x,a,b⟩;exact⟨x,a,i _ _ b⟩
def Mono.c{x:SV}:Mono (wC x):=λ_ _ _ _ i h=>i _ _ h
def RO{K:YZ}{i:Nat}:∀ a H Q,lift K (V2 i) a H Q->N7 i a H Q:=by rintro a H Q ⟨b,j,S,c,d,x,e,h⟩;obtain⟨v,f,g⟩:=d.2 i x e;exact⟨v,f,h b H v (Go.refl _ _) c g⟩
def Gi{K:YZ}{x:SV}{v:V}(c:∀ a H,Rl K a H v x):∀ b H Q,lift K (wC x) b H Q->tC v b H Q:=by rintro b H Q ⟨a,e,S,d,f,h⟩;exact h a H v (Go.refl _ _) d (c a H)
def big:Nat:=100000
def AS{n:Nat}(h:n<=big):n<=A2s:=Z6 h (by decide)
def Di{n:Nat}(h:n<big):n<A2s:=Z8 h (by decide)
def RP:Sn:=λxs S Q=>xs.length<=big/\Q (.tup xs) S
def RQ:Sn:=λxs S Q=>xs.length<=big/\Q (.loc S.length) (S++[.lst xs])
def MonoN.tup:MonoN RP:=λ_ _ _ _ i h=>⟨h.1,i _ _ h.2⟩
def MonoN.lst:MonoN RQ:=λ_ _ _ _ i h=>⟨h.1,i _ _ h.2⟩
def V3{K:YZ}{a:U Y}{H:Hp}{S:Sto}{p:Y}(b:Ok K a H S):Rl K (a++[p]) (upd H p (.lst vs)) (.ref p) (.loc S.length):=rl_loc.mpr ⟨p,by rw[<-b.len,Z9],J⟩
def AT{K:YZ}{a:U Y}{H:Hp}{S:Sto}{Q:VK}{b:U SV}{c:U V}(d:Ok K a H S)(r:RlAll K a H c b)(h:Post K a H Q (.loc S.length) (S++[.lst b])):∀ p,H p=aB->Q (.ref p) (upd H p (.lst c)):=λp e=>
 h (a++[p]) _ (.ref p) (Go.push e) (d.push e r) (V3 d)
def Bj{K:YZ}{a:U Y}{H:Hp}{S:Sto}{Q:VK}{c:U SV}{b:U V}(e:Ok K a H S)(r:RlAll K a H b c)(h:Post K a H Q (.tup c) S):∀ p,H p=aB->Q (.ref p) (upd H p (.tup b)):=λp d=>
 h a _ (.ref p) (Go.new d) (e.new d) (rl_tup.mpr ⟨p,b,J,i3,RlAll.mono (Z3 _) (y7 d) c b r⟩)
def RS{K:YZ}{a:WA}(f:MonoA a):∀ b H Q,lift K (wn RP a) b H Q->Wc (liftA K a) b H Q:=by rintro b H Q ⟨g,i,S,j,k,h⟩;refine⟨g,i,S,j,k,f _ _ _ _ (λn S1 d l o p m c e=>?_) h⟩;exact⟨by rw[e.length];exact AS d.1,Bj c e (d.2.mono m)⟩
def RT{K:YZ}{a:WA}(f:MonoA a):∀ b H Q,lift K (wn RQ a) b H Q->Wd (liftA K a) b H Q:=by rintro b H Q ⟨g,i,S,j,k,h⟩;refine⟨g,i,S,j,k,f _ _ _ _ (λn S1 d l o p m c e=>?_) h⟩;exact⟨by rw[e.length];exact AS d.1,AT c e (d.2.mono m)⟩
end Rf
namespace L2
open PySem PySem.Spec PyProof.Rows
section
variable{prog:A2r}{w:A2u}{A:A2w}{E:F->A2m->Prop}{s:A2m}
def SetX.kind{h:A2y}{a:Y}{L:U Int}(x:SetX prog w h a L):h.SetOf (intKind prog w) a (λk=>decide (k∈L)) L.length:=by
 obtain⟨o,g,i,t,j,l,m,b,n,p,q,f⟩:=x;refine⟨o,g,i,t,j,l,m,b,λk=>?_,n,p,by rw[<-f.length_eq];simp⟩;rw[dQ,<-f.mem_iff,Z2];constructor
 ·rintro⟨e,c,rfl⟩;obtain⟨⟨k,d,_⟩,_⟩:=b e c;exact⟨e,c,by rw[DO d];exact d⟩
 ·rintro⟨e,c,d⟩;exact⟨e,c,DO d⟩
end
section
variable{X:Cx}
def K5(a:U Int):U Int:=firstMet (λi=>a.getD i 0) a.length
def Gj(a:U Int)(k:Int):k∈K5 a↔k∈a:=by
 have e:=firstMet_any (λi=>a.getD i 0) a.length k
 have d:(Ye a.length).map (λi=>a.getD i 0)=a:=by
  apply A0D
  ·simp
  ·intro i c b;simp[Ya b]
 rw[d]at e;have c:(K5 a).any (· == k)=aC↔k∈K5 a:=by simp
 have b:a.any (· == k)=aC↔k∈a:=by simp
 rw[<-c,<-b];unfold K5;rw[e]
def Ny:OpR X (A2H .In) (λx y H Q=>∃(k:Int) (p:Y) (S:Int->Bool) (n:Nat),x = .int k/\y = .ref p/\H p=O (.set S n)/\Q (.bl (S k)) H):=by intro a s f H x y v u Q I b c h;obtain⟨k,p,S,n,rfl,rfl,d,q⟩:=h;obtain⟨t,rfl⟩:=b;cases c;have e:s.heap.SetOf (intKind X.prog X.w) p S n:=I.hok p _ d;exact wpAny_inSet_of (k:=k) (A4C _ _ _ _) J e ⟨.bl _,H,I.tok _,J,q⟩
def M6:CallR X (.type "set") (λc H Q=>c=[]/\∀ l,H l=aB->Q (.ref l) (upd H l (.set (λ_=>aD) 0))):=by intro d s f H c g Q I r h;obtain⟨rfl,q⟩:=h;cases r;refine call_set_0 λa=>?_;refine⟨.ref s.heap.objs.size,_,I.laid (t':=s.toks) (o := .set (λ_=>aD) 0) (λb o e=>Yf _ e) (Ym _) ?_,J,q _ (I.hok.fresh (Ym _))⟩;exact(setObjOf_fresh a).setOf (Yn _ J) (by decide)
def XA:V->U V->Hp->VK->Prop:=λx vs H Q=>∃(l:Y) (S:Int->Bool) (n:Nat) (k:Int),x = .ref l/\vs=[.int k]/\H l=O (.set S n)/\n<=900/\Q .non (upd H l (.set (λj=>S j||decide (j=k)) (if S k then n else n+1)))
def V4:MtM X "set.add" XA:=by intro d s y H x z v A Q I g i h;obtain⟨l,S,n,k,rfl,rfl,f,B,q⟩:=h;cases g;obtain⟨u,rfl,j⟩:=i.one;obtain⟨t,rfl⟩:=j;have m:s.heap.SetOf (intKind X.prog X.w) l S n:=I.hok l _ f;refine call_set_add (k:=k) (A4C _ _ _ _) J m (by show n+1<4096;lia) λC c a=>?_;refine⟨.non,_,I.write (x:=l) (e:=l) (t':=s.toks+1) (by rw[f];trivial) (.inl J) (λb u p e=>(c.2 b p).trans e) (let ⟨o,_,_,_,r,_⟩:=a;⟨o,r⟩) ?_,J,q⟩;exact a
end
open PySem PySem.Spec PyProof.Rows PySem.SeqAt
section
variable{X:Cx}
def Tm(K:YZ):R2:=λx y H Q=>∃ a t,x = .ref a/\y = .str t/\((∃ xs,SqL K H a xs)\/∃ xs,SqT K H a xs)/\Q (.bl aD) H
def RU(hu:X.A.units<cLine):OpR X (A2H .Eq) (Tm X.K):=by
 intro b s i H x y v u Q I j k h;obtain⟨a,t,rfl,rfl,c,q⟩:=h;cases j;obtain⟨f,rfl⟩:=k
 have e:A2o (A2q X.prog X.w) X.A (A3A .Eq (.ref a) (.str t f)) (EP X b i Q) X.xe s:=by
  rcases c with⟨l,c⟩ | ⟨l,c⟩
  ·obtain⟨d,m,g,_⟩:=I.list c;exact RcAt.list_str t f g.isList hu _ _ _ _ ⟨.bl aD,H,I,J,q⟩
  ·obtain⟨d,m,g,_⟩:=I.tuple c;exact RcAt.tuple_str (items:=d.toArray) t f g hu _ _ _ _ ⟨.bl aD,H,I,J,q⟩
 exact e
end
end L2
namespace Rf
open PySem L2
def AE:SV->Bool
 | .non=>aC | .bl _=>aC | .int _=>aC | .str _=>aC | _=>aD
def toV:SV->V
 | .non => .non | .bl b => .bl b | .int i => .int i | .str x => .str x | _ => .non
def eqF:SV->SV->Bool
 | .non,.non=>aC
 | .bl a,.bl b=>a == b
 | .bl a,.int b=>(if a then 1 else 0) == b
 | .int a,.bl b=>a == (if b then 1 else 0)
 | .int a,.int b=>a == b
 | .str a,.str b=>a == b
 | _,_=>aD
def EX(xs ys:U SV):Bool:=xs.length == ys.length&&(xs.zip ys).all λp=>eqF p.1 p.2
def inS(x:SV)(xs:U SV):Bool:=xs.any λy=>eqF y x
section
variable{K:YZ}{as:U Y}{H:Hp}
def K6{x:SV}{v:V}(f:AE x=aC)(r:Rl K as H v x):v=toV x:=by
 cases x with
 | non=>exact rl_non.mp r
 | bl _=>exact rl_bl.mp r
 | int _=>exact rl_int.mp r
 | str _=>exact rl_str.mp r
 | _=>cases f
theorem BC:∀{a:U SV} {b:U V},a.all AE=aC->RlAll K as H b a->b=a.map toV
 | [],_,_,r=>rla_nil.mp r
 | x::a,_,f,r=>by
   rw[Zm,Yc]at f;obtain⟨v,b,rfl,c,d⟩:=rla_cons.mp r;rw[K6 f.1 c,BC f.2 d];rfl
def Gk{x:SV}(f:AE x=aC):AI (toV x)=aC:=by cases x<;>first | rfl | cases f
def Cz{a:U SV}(f:a.all AE=aC):(a.map toV).all AI=aC:=by rw[ZJ]at f ⊢;intro v b;obtain⟨x,c,rfl⟩:=Z2.mp b;exact Gk (f x c)
def Fc{x y:SV}(a:AE x=aC)(b:AE y=aC):eqV (toV x) (toV y)=eqF x y:=by cases x<;>first | cases a;done | (cases y<;>first | rfl | cases b)
def V5{x:SV}{b:U SV}(c:AE x=aC)(f:b.all AE=aC):inV (toV x) (b.map toV)=inS x b:=by
 unfold inV inS;rw[A1M];rw[ZJ]at f;rw[Za,Zt,Zt];constructor
 ·rintro⟨y,a,e⟩;exact⟨y,a,by rw[<-Fc (f y a) c];exact e⟩
 ·rintro⟨y,a,e⟩;exact⟨y,a,by show eqV (toV y) (toV x)=aC;rw[Fc (f y a) c];exact e⟩
def RV:∀{d e:U SV},d.all AE=aC->e.all AE=aC->B6 (d.map toV) (e.map toV)=EX d e:=by
 intro d e f g;unfold B6 EX;rw[YY,YY,List.zip_map,A1g]
 congr 1
 rw[Za,ZJ,ZJ];rw[ZJ]at f g;constructor
 ·rintro h ⟨a,b⟩ c;have:=h (a,b) c;rw[<-Fc (f a (A0c c).1) (g b (A0c c).2)];exact this
 ·rintro h ⟨a,b⟩ c;have:=h (a,b) c;show eqV (toV a) (toV b)=aC;rw[Fc (f a (A0c c).1) (g b (A0c c).2)];exact this
def Ai:SV->Sto->Option (U SV)
 | .tup xs,_=>O xs
 | .ro xs,_=>O xs
 | .loc k,S=>match S[k]? with | some (.lst xs)=>O xs | _=>aB
 | _,_=>aB
def Fd{x:SV}{v:V}{S:Sto}{e:U SV}(g:Ok K as H S)(r:Rl K as H v x)(h:Ai x S=O e):∃ a b,v = .ref a/\(SqL K H a b\/SqT K H a b)/\RlAll K as H b e:=by
 cases x with
 | tup f=>
   cases h;obtain⟨p,b,rfl,d,c⟩:=rl_tup.mp r;exact⟨p,b,J,.inr (SqT.of d),c⟩
 | ro f=>
   cases h;obtain⟨p,b,rfl,d,c⟩:=rl_ro.mp r;exact⟨p,b,J,.inl d.sq,c⟩
 | loc k=>
   obtain⟨a,i,rfl⟩:=rl_loc.mp r;unfold Ai at h;cases hs:S[k]? with
   | none=>simp only[hs]at h;cases h
   | some o=>
     cases o with
     | lst f=>
       simp only[hs]at h;cases h;obtain⟨b,j,c⟩:=g.obj k _ a hs i;exact⟨a,b,J,.inl (SqL.of j),c⟩
     | iset _=>simp only[hs]at h;cases h
     | dtl _=>simp only[hs]at h;cases h
     | dtf _ _ _=>simp only[hs]at h;cases h
     | dtp _=>simp only[hs]at h;cases h
     | dct _=>simp only[hs]at h;cases h
     | dcf _ _ _=>simp only[hs]at h;cases h
     | tbl _ _=>simp only[hs]at h;cases h
 | _=>cases h
def p0{k:Nat}{v:V}{S:Sto}{c:U SV}(e:Ok K as H S)(r:Rl K as H v (.loc k))(h:S[k]?=O (.lst c)):∃ a b,v = .ref a/\as[k]?=O a/\H a=O (.lst b)/\RlAll K as H b c:=by obtain⟨a,d,rfl⟩:=rl_loc.mp r;obtain⟨b,f,g⟩:=e.obj k _ a h d;exact⟨a,b,J,d,f,g⟩
end
def V6:S2
 | .int i,.int j,S,Q=>Q (.int (i+j)) S
 | .str i,.str j,S,Q=>i.length+j.length<=big/\Q (.str (i++j)) S
 | .tup xs,.tup ys,S,Q=>xs.length+ys.length<=big/\Q (.tup (xs++ys)) S
 | .loc k,.loc l,S,Q=>∃ xs ys,S[k]?=O (.lst xs)/\S[l]?=O (.lst ys)/\xs.length+ys.length<=big/\Q (.loc S.length) (S++[.lst (xs++ys)])
 | _,_,_,_=>False
def Im(C:Int->Int->Prop)(g:Int->Int->SV):S2
 | .int i,.int j,S,Q=>C i j/\Q (g i j) S
 | _,_,_,_=>False
def Cb(g:Int->Int->SV):S2
 | .int i,.int j,S,Q=>Q (g i j) S
 | _,_,_,_=>False
def V7:S2
 | .int i,.int j,S,Q=>CMul i j/\Q (.int (i * j)) S
 | .loc k,.int j,S,Q=>∃ xs,S[k]?=O (.lst xs)/\(-1000000<j/\j<1000000)/\xs.length * j.toNat<=big/\Q (.loc S.length) (S++[.lst (Yv j.toNat xs).flatten])
 | _,_,_,_=>False
def Mono2.add:Mono2 V6:=λx y S P a i h=>by
 cases x with
 | int=>cases y with
   | int=>exact i _ _ h
   | _=>exact h.elim
 | str=>cases y with
   | str=>exact⟨h.1,i _ _ h.2⟩
   | _=>exact h.elim
 | tup=>cases y with
   | tup=>exact⟨h.1,i _ _ h.2⟩
   | _=>exact h.elim
 | loc=>cases y with
   | loc=>exact h.imp λ_ => .imp λ_ z=>⟨z.1,z.2.1,z.2.2.1,i _ _ z.2.2.2⟩
   | _=>exact h.elim
 | _=>exact h.elim
def Mono2.int{C:Int->Int->Prop}{g:Int->Int->SV}:Mono2 (Im C g):=λx y S P a i h=>by
 unfold Im at h ⊢;split at h
 ·exact⟨h.1,i _ _ h.2⟩
 ·exact h.elim
def Mono2.int0{g:Int->Int->SV}:Mono2 (Cb g):=λx y S P a i h=>by
 unfold Cb at h ⊢;split at h
 ·exact i _ _ h
 ·exact h.elim
def Mono2.mul:Mono2 V7:=λx y S P a i h=>by
 cases x with
 | int=>cases y with
   | int=>exact⟨h.1,i _ _ h.2⟩
   | _=>exact h.elim
 | loc=>cases y with
   | int=>exact h.imp λ_ z=>⟨z.1,z.2.1,z.2.2.1,i _ _ z.2.2.2⟩
   | _=>exact h.elim
 | _=>exact h.elim
section
variable{K:YZ}
def Post.here{a:U Y}{H:Hp}{Q:VK}{x:SV}{S:Sto}{v:V}(h:Post K a H Q x S)(b:Ok K a H S)(r:Rl K a H v x):Q v H:=h a H v (Go.refl _ _) b r
def Fe{C:Int->Int->Prop}{g:Int->Int->SV}{a:Int->Int->V}(e:∀ b H i j,Rl K b H (a i j) (g i j)):Bi K (Im C g) (rI C a):=λb H S x y v u Q f c d h=>by
 unfold Im at h;split at h
 ·rw[rl_int]at c d;exact⟨_,_,c,d,h.1,h.2.here f (e _ _ _ _)⟩
 ·exact h.elim
def Bk{g:Int->Int->SV}{a:Int->Int->V}(e:∀ b H i j,Rl K b H (a i j) (g i j)):Bi K (Cb g) (rI0 a):=λb H S x y v u Q f c d h=>by
 unfold Cb at h;split at h
 ·rw[rl_int]at c d;exact⟨_,_,c,d,h.here f (e _ _ _ _)⟩
 ·exact h.elim
def XB(K:YZ):R2:=λx y H Q=>(((rI0 λi j => .int (i+j)) x y H Q\/Wl x y H Q)\/(NR K x y H Q\/Nk K x y H Q))\/∃ i j,x = .str i/\y = .str j/\i.length+j.length<=A2s/\Q (.str (i++j)) H
def RW{X:Cx}:OpR X (A30 .Add) (XB X.K):=((op_add.or Uk).or RI).or IQ
def RX:Bi K V6 (XB K):=λt H S x y v u Q c d e h=>by
 cases x with
 | int=>cases y with
   | int=>
     rw[rl_int]at d e;exact .inl (.inl (.inl ⟨_,_,d,e,Post.here h c (rl_int.mpr J)⟩))
   | _=>exact h.elim
 | str=>cases y with
   | str=>
     rw[rl_str]at d e;exact .inr ⟨_,_,d,e,AS h.1,h.2.here c (rl_str.mpr J)⟩
   | _=>exact h.elim
 | tup m=>cases y with
  | tup n=>
   obtain⟨a,i,rfl,j,f⟩:=rl_tup.mp d;obtain⟨b,k,rfl,l,g⟩:=rl_tup.mp e;have l1:=f.length;have l2:=g.length;by_cases o:i=[]
   ·subst o;have:m=[]:=ZT.mp (by rw[<-l1];rfl);subst this;exact .inl (.inr (.inr ⟨a,b,k,J,J,SqT.of j,SqT.of l,h.2.here c e⟩))
   ·refine .inl (.inr (.inl ⟨a,b,i,k,J,J,SqT.of j,SqT.of l,o,by rw[l1,l2];exact AS h.1,λz=>?_,λ_=>Bj c (f.append g) h.2⟩));have:n=[]:=ZT.mp (by rw[<-l2,z];rfl);subst this;have h:=h.2;rw[ZD]at h;exact h.here c d
  | _=>exact h.elim
 | loc=>cases y with
  | loc=>
   obtain⟨m,n,p,q,r,s⟩:=h;obtain⟨a,i,rfl,_,j,f⟩:=p0 c d p;obtain⟨b,k,rfl,_,l,g⟩:=p0 c e q;exact .inl (.inl (.inr ⟨a,b,i,k,J,J,j,l,by rw[f.length,g.length];exact AS r,AT c (f.append g) s⟩))
  | _=>exact h.elim
 | _=>exact h.elim
theorem RlAll.rep{a:U Y}{H:Hp}{b:U V}{c:U SV}(h:RlAll K a H b c):∀ n,RlAll K a H (Yv n b).flatten (Yv n c).flatten
 | 0=>by simpa using RlAll.nil
 | n+1=>by
   rw[ZO,ZO,Zk,Zk];exact h.append (RlAll.rep h n)
def RY:Bi K V7 (λx y H Q=>(rI CMul λi j => .int (i * j)) x y H Q\/Wm x y H Q):=λo H S x y v u Q c d b h=>by
 cases x with
 | int=>cases y with
  | int=>
   rw[rl_int]at d b;exact .inl ⟨_,_,d,b,h.1,h.2.here c (rl_int.mpr J)⟩
  | _=>exact h.elim
 | loc k=>cases y with
  | int j=>
   obtain⟨p,f,q,g,l⟩:=h;obtain⟨a,m,rfl,_,n,e⟩:=p0 c d f;rw[rl_int]at b;subst b;exact .inr (⟨a,j,m,J,J,n,by lia,by lia,by rw[e.length];exact AS g,AT c (e.rep _) l⟩)
  | _=>exact h.elim
 | _=>exact h.elim
end
def scS:SV->SV->Option Bool
 | .int i,.int j=>O (decide (i=j))
 | .bl i,.bl j=>O (decide (i=j))
 | .str i,.str j=>O (decide (i=j))
 | .non,.non=>O aC
 | .non,.int _=>O aD | .int _,.non=>O aD | .non,.bl _=>O aD | .bl _,.non=>O aD | .non,.str _=>O aD | .str _,.non=>O aD
 | .int _,.str _=>O aD | .str _,.int _=>O aD | .bl _,.str _=>O aD | .str _,.bl _=>O aD
 | _,_=>aB
def Io:SV->SV->Sto->(Bool->Prop)->Prop
 | .loc k,.loc l,S,Q=>∃ xs ys,S[k]?=O (.lst xs)/\S[l]?=O (.lst ys)/\((xs.all AE=aC/\ys.all AE=aC)\/xs=[]\/ys=[])/\Q (EX xs ys)
 | _,_,_,_=>False
def M7:SV->SV->Sto->(Bool->Prop)->Prop
 | .loc k,.loc l,S,Q=>∃ xs ys,S[k]?=O (.lst xs)/\S[l]?=O (.lst ys)/\((xs.all AE=aC/\ys.all AE=aC)\/xs=[]\/ys=[])/\Q (EX xs ys)
 | .loc k,.str _,S,Q=>(∃ xs,S[k]?=O (.lst xs))/\Q aD
 | .tup _,.str _,_,Q=>Q aD
 | _,_,_,_=>False
def V8{x y:SV}{S:Sto}{Q:Bool->Prop}(h:M7 x y S Q):Io x y S Q\/(∃ t,y = .str t/\((∃ k a,x = .loc k/\S[k]?=O (.lst a))\/∃ a,x = .tup a)/\Q aD):=by
 unfold M7 at h;split at h
 ·exact .inl h
 ·obtain⟨⟨a,e⟩,q⟩:=h;exact .inr ⟨_,J,.inl ⟨_,a,J,e⟩,q⟩
 ·exact .inr ⟨_,J,.inr ⟨_,J⟩,h⟩
 ·exact h.elim
def M8{x y:SV}{S:Sto}{P e:Bool->Prop}(i:∀ b,P b->e b)(h:M7 x y S P):M7 x y S e:=by
 unfold M7 at h ⊢;split at h
 ·obtain⟨f,g,a,b,c,d⟩:=h;exact⟨f,g,a,b,c,i _ d⟩
 ·exact⟨h.1,i _ h.2⟩
 ·exact i _ h
 ·exact h.elim
def sEq:S2:=λx y S Q=>match scS x y with | some b=>Q (.bl b) S | none=>M7 x y S λb=>Q (.bl b) S
def sNe:S2:=λx y S Q=>match scS x y with | some b=>Q (.bl (!b)) S | none=>Io x y S λb=>Q (.bl (!b)) S
def Aj:SV->Sto->Option (U Int)
 | .loc k,S=>match S[k]? with | some (.iset ms)=>O ms | _=>aB
 | _,_=>aB
def sIn(a:Bool):S2:=λx y S Q=>match Aj y S with
 | some ms=>∃ i,x = .int i/\a=aD/\Q (.bl (decide (i∈ms))) S
 | none=>AE x=aC/\∃ ys,Ai y S=O ys/\ys.all AE=aC/\Q (.bl (if a then !inS x ys else inS x ys)) S
def F6:SV->Bool
 | .non=>aC
 | _=>aD
def Nz(a:Bool):S2:=λx y S Q=>(y = .non/\Q (.bl (if a then !F6 x else F6 x)) S)\/∃ c d,a=aC/\x = .bl c/\y = .bl d/\Q (.bl (c != d)) S
def M9{x y:SV}{S:Sto}{P e:Bool->Prop}(i:∀ b,P b->e b)(h:Io x y S P):Io x y S e:=by
 unfold Io at h ⊢;split at h
 ·obtain⟨f,g,a,b,c,d⟩:=h;exact⟨f,g,a,b,c,i _ d⟩
 ·exact h.elim
def Mono2.eq:Mono2 sEq:=λx y S P a i h=>by
 unfold sEq at h ⊢;split at h
 ·exact i _ _ h
 ·exact M8 (λ_=>i _ _) h
def Mono2.ne:Mono2 sNe:=λx y S P a i h=>by
 unfold sNe at h ⊢;split at h
 ·exact i _ _ h
 ·exact M9 (λ_=>i _ _) h
def Mono2.in'{n:Bool}:Mono2 (sIn n):=λx y S P d i h=>by
 unfold sIn at h ⊢;split at h
 ·obtain⟨j,e,z,h⟩:=h;exact⟨j,e,z,i _ _ h⟩
 ·obtain⟨f,c,a,b,h⟩:=h;exact⟨f,c,a,b,i _ _ h⟩
def Mono2.isN{n:Bool}:Mono2 (Nz n):=λx y S P e i h=>h.imp (λh=>⟨h.1,i _ _ h.2⟩) (by rintro⟨c,d,z,a,b,h⟩;exact⟨c,d,z,a,b,i _ _ h⟩)
section
variable{K:YZ}
def O0{a:U Y}{H:Hp}{x y:SV}{v u:V}{b:Bool}(e:scS x y=O b)(c:Rl K a H v x)(d:Rl K a H u y):Ua v u=aC/\decide (v=u)=b:=by cases x<;>first | (unfold scS at e;cases e;done) | (cases y<;>first | (unfold scS at e;cases e;done) | (simp only[rl_non,rl_bl,rl_int,rl_str]at c d;subst c d;unfold scS at e;injection e with e;subst e;exact⟨J,by simp⟩))
def K7{m:U Y}{H:Hp}{S:Sto}{x y:SV}{v u:V}{Q:Bool->Prop}(n:Ok K m H S)(q:Rl K m H v x)(r:Rl K m H u y)(h:Io x y S Q):∃ a b d f,v = .ref a/\u = .ref b/\SqL K H a d/\SqL K H b f/\((d.all AI=aC/\f.all AI=aC)\/d=[]\/f=[])/\Q (B6 d f):=by
 unfold Io at h;split at h
 ·obtain⟨d,f,s,t,c,w⟩:=h;obtain⟨a,o,rfl,_,z,g⟩:=p0 n q s;obtain⟨b,p,rfl,_,A,i⟩:=p0 n r t;refine⟨a,b,o,p,J,J,SqL.of z,SqL.of A,?_,?_⟩
  ·rcases c with⟨j,k⟩ | c | c
   ·rw[BC j g,BC k i];exact .inl ⟨Cz j,Cz k⟩
   ·subst c;exact .inr (.inl (rla_nil.mp g))
   ·subst c;exact .inr (.inr (rla_nil.mp i))
  ·have e:B6 o p=EX d f:=by
    rcases c with⟨j,k⟩ | c | c
    ·rw[BC j g,BC k i,RV j k]
    ·subst c;have:=rla_nil.mp g;subst this;have l:=i.length;unfold B6 EX;simp[l]
    ·subst c;have:=rla_nil.mp i;subst this;have l:=g.length;unfold B6 EX;simp[l]
   rw[e];exact w
 ·exact h.elim
def V9:Bi K sEq (λx y H Q=>rEq x y H Q\/(RF K aD x y H Q\/Tm K x y H Q)):=λB H S x y v u Q c d f h=>by
 unfold sEq at h;split at h
 ·rename_i b e;obtain⟨g,i⟩:=O0 e d f;exact .inl ⟨g,by rw[i];exact h.here c (rl_bl.mpr J)⟩
 ·rcases V8 h with h | ⟨t,rfl,h,q⟩
  ·obtain⟨a,b,j,m,n,o,g,i,r,s⟩:=K7 c d f h;exact .inr (.inl ⟨a,b,j,m,n,o,g,i,r,s.here c (rl_bl.mpr J)⟩)
  ·rw[rl_str]at f;subst f;rcases h with⟨k,j,rfl,w⟩ | ⟨j,rfl⟩
   ·obtain⟨a,l,rfl,_,z,_⟩:=p0 c d w;exact .inr (.inr ⟨a,t,J,J,.inl ⟨l,SqL.of z⟩,Post.here q c (rl_bl.mpr J)⟩)
   ·obtain⟨p,l,rfl,A,_⟩:=rl_tup.mp d;exact .inr (.inr ⟨p,t,J,J,.inr ⟨l,SqT.of A⟩,Post.here q c (rl_bl.mpr J)⟩)
def VA:Bi K sNe (λx y H Q=>rNe x y H Q\/RF K aC x y H Q):=λp H S x y v u Q c g i h=>by
 unfold sNe at h;split at h
 ·rename_i b e;obtain⟨d,f⟩:=O0 e g i;exact .inl ⟨d,by rw[f];exact h.here c (rl_bl.mpr J)⟩
 ·obtain⟨a,b,j,k,l,m,d,f,n,o⟩:=K7 c g i h;exact .inr ⟨a,b,j,k,l,m,d,f,n,o.here c (rl_bl.mpr J)⟩
def RZ{c:U Y}{H:Hp}{S:Sto}{y:SV}{u:V}{b:U Int}(e:Ok K c H S)(r:Rl K c H u y)(h:Aj y S=O b):∃ a k F,y = .loc k/\u = .ref a/\c[k]?=O a/\S[k]?=O (.iset b)/\H a=O (.set F b.length)/\∀ k,F k=decide (k∈b):=by
 cases y with
 | loc k=>
   obtain⟨a,d,rfl⟩:=rl_loc.mp r;unfold Aj at h;cases hs:S[k]? with
   | none=>simp only[hs]at h;cases h
   | some o=>
     cases o with
     | lst i=>simp only[hs]at h;cases h
     | iset j=>
       simp only[hs]at h;cases h;obtain⟨F,f,g⟩:=e.obj k _ a hs d;exact⟨a,k,F,J,J,d,hs,f,g⟩
     | dtl _=>simp only[hs]at h;cases h
     | dtf _ _ _=>simp only[hs]at h;cases h
     | dtp _=>simp only[hs]at h;cases h
     | dct _=>simp only[hs]at h;cases h
     | dcf _ _ _=>simp only[hs]at h;cases h
     | tbl _ _=>simp only[hs]at h;cases h
 | _=>cases h
def VB(K:YZ)(a:Bool):R2:=λx y H Q=>rIn K a x y H Q\/(a=aD/\∃(k:Int) (p:Y) (S:Int->Bool) (n:Nat),x = .int k/\y = .ref p/\H p=O (.set S n)/\Q (.bl (S k)) H)
def VC{X:Cx}:OpR X (A2H .In) (VB X.K aD):=λa s b H x y v u Q I c d h=>h.elim (LX a s b H x y v u Q I c d) λh=>Ny a s b H x y v u Q I c d h.2
def MA{X:Cx}:OpR X (A2H .NotIn) (VB X.K aC):=λa s b H x y v u Q I c d h=>h.elim (FV a s b H x y v u Q I c d) λh=>by cases h.1
def O6{n:Bool}:Bi K (sIn n) (VB K n):=λr H S x y v u Q b c d h=>by
 unfold sIn at h;split at h
 ·rename_i s g;obtain⟨i,rfl,rfl,h⟩:=h;obtain⟨a,k,F,rfl,rfl,t,e,j,l⟩:=RZ b d g;rw[rl_int]at c;exact .inr ⟨J,i,a,F,_,c,J,j,by rw[l];exact h.here b (rl_bl.mpr J)⟩
 ·obtain⟨f,w,m,fs,h⟩:=h;obtain⟨a,z,rfl,o,p⟩:=Fd b d m;have q:=K6 f c;have e:=BC fs p;subst q e;exact .inl ⟨a,_,J,o,Gk f,Cz fs,by rw[V5 f fs];exact h.here b (rl_bl.mpr J)⟩
def Gm{a:U Y}{H:Hp}{x:SV}{v:V}(r:Rl K a H v x):decide (v=V.non)=F6 x:=by
 cases x with
 | non=>rw[rl_non.mp r];rfl
 | bl _=>rw[rl_bl.mp r];rfl
 | int _=>rw[rl_int.mp r];rfl
 | str _=>rw[rl_str.mp r];rfl
 | tup _=>obtain⟨p,b,rfl,_⟩:=rl_tup.mp r;rfl
 | loc _=>obtain⟨p,_,rfl⟩:=rl_loc.mp r;rfl
 | ro _=>obtain⟨p,b,rfl,_⟩:=rl_ro.mp r;rfl
 | ty _=>rw[rl_ty.mp r];rfl
 | exc _=>obtain⟨p,rfl,_⟩:=rl_exc.mp r;rfl
def Ra:Bi K (Nz aD) (λx y H Q=>y = .non/\Q (.bl (decide (x = .non))) H):=λg H S x y v u Q a b f h=>by
 rcases h with⟨e,h⟩ | ⟨c,d,z,_⟩
 ·subst e;exact⟨rl_non.mp f,by rw[Gm b];exact h.here a (rl_bl.mpr J)⟩
 ·cases z
def OA:Bi K (Nz aC) (λx y H Q=>(y = .non/\Q (.bl (!decide (x = .non))) H)\/∃ c d,x = .bl c/\y = .bl d/\Q (.bl (c != d)) H):=λg H S x y v u Q a b f h=>by
 rcases h with⟨e,h⟩ | ⟨c,d,_,rfl,rfl,h⟩
 ·subst e;exact .inl ⟨rl_non.mp f,by rw[Gm b];exact h.here a (rl_bl.mpr J)⟩
 ·exact .inr ⟨c,d,rl_bl.mp b,rl_bl.mp f,h.here a (rl_bl.mpr J)⟩
end
def sIx:S2
 | x,.int i,S,Q=>∃ xs y,Ai x S=O xs/\atI xs i=O y/\Q y S
 | _,_,_,_=>False
def Mono2.ix:Mono2 sIx:=λx y S P e i h=>by
 unfold sIx at h ⊢;split at h
 ·obtain⟨d,z,a,b,c⟩:=h;exact⟨d,z,a,b,i _ _ c⟩
 ·exact h.elim
section
variable{K:YZ}
theorem RlAll.atI{b:U Y}{H:Hp}{a:U SV}{c:U V}{i:Int}{y:SV}(h:RlAll K b H c a)(e:L2.atI a i=aA y):∃ v,L2.atI c i=aA v/\Rl K b H v y:=by
 unfold L2.atI at e ⊢;rw[h.length];cases hj:ixN a.length i with
 | none=>rw[hj]at e;cases e
 | some j=>
   rw[hj]at e;exact h.get e
def VD:Bi K sIx (λx y H Q=>Wi K x y H Q\/Wj K x y H Q):=λn H S x y v u Q d j e h=>by
 unfold sIx at h;split at h
 ·obtain⟨o,z,k,l,f⟩:=h;obtain⟨a,g,rfl,b,m⟩:=Fd d j k;obtain⟨w,i,c⟩:=m.atI l;rw[rl_int]at e;rcases b with b | b
  ·exact .inl ⟨a,g,_,w,J,e,b,i,f.here d c⟩
  ·exact .inr ⟨a,g,_,w,J,e,b,i,f.here d c⟩
 ·exact h.elim
end
end Rf
namespace L2
open PySem PySem.Spec PyProof.Rows
section
variable{prog:A2r}{w:A2u}{κ:Type}[DecidableEq κ]{knd:HeapKind prog w κ}{A:A2w}{E:F->A2m->Prop}{s:A2m}
def Ip{d a:Y}{o:Obj}{m:Array A3v}{n:Nat}{b:U (κ×Y×F)}{k:κ}{v:F}(e:knd.is s.heap k a)(h:s.heap.get? d=O o)(q:o.ExactDict)(g:o.data = .dict m n)(r:m.toList=b.map (A4X knd))(i:∀ x∈b,knd.is s.heap x.1 x.2.1)(t:(b.map (·.1)).Nodup)
 (j:atKey b k=aB) (f:k∉b.map (·.1)):(s.heap.update d (Obj.mapDictKeys (·.push ⟨knd.hash k,.ref a,v⟩))).DictOfH knd d (storedH b k a v):=by
 have same:Z7 d s.heap (s.heap.update d (Obj.mapDictKeys (·.push ⟨knd.hash k,.ref a,v⟩))):=Z7.update ..;rw[storedH_new j];refine⟨_,_,n+1,ZL _ h (Obj.isFreed_of_dict (Obj.data_mapDictKeys g _)),q.mapDictKeys _,Obj.data_mapDictKeys g _,by simp[r,A4X],λx l=>?_,?_⟩
 ·have c:x∈b\/x=(k,a,v):=by simpa using l
  rcases c with c | rfl
  ·exact knd.keeps (i x c) h g same
  ·exact knd.keeps e h g same
 ·rw[Yo];exact A03.mpr ⟨t,by simp,λx l y p z=>f (by simp at p;subst p;rw[<-z];exact l)⟩
def OB{d a:Y}{c:U (κ×Y×F)}{k:κ}{v:F}{Q:F->A2m->Prop}(hu:knd.room A)(b:knd.is s.heap k a)(u:s.heap.DictOfH knd d c)
 (x:∀ p,atKey c k=O p->∀ m,Q p.2 {s with toks:=m})
 (y:atKey c k=aB->∀ n m,n.DictOfH knd d (storedH c k a v)->Z7 d s.heap n->Q v {s with heap:=n,toks:=m}) (z:c.length<=A2s):A2o (A2q prog w) A (A4k d (.ref a) v) Q E s:=by
 obtain⟨o,C,D,h,B,i,l,f,q⟩:=id u;unfold A4k
 try with_reducible refine A2A ?_
 refine Z (knd.pyHash hu b (Z (wpAny_dictFind_heap (s:={s with toks:=s.toks+knd.draws k}) hu b h i l f q (λg=>?_) (λj p r=>?_))))
 ·have t:=atKey_none_of_get g;refine Z (A2K (Z (wpAny_updateDictKeys (hz:=by have e:=A47 l;lia) (s:={s with toks:=s.toks+knd.draws k}) h i (A2l ?_))));exact y t _ _ (Ip b h B i l f q t (not_mem_keys_of_get g)) (Z7.update ..)
 ·refine Z (A3u (s:={s with toks:=s.toks+knd.draws k}) h i ?_);rw[entry_at l j,r];exact Z (A2K (A2l (x p (atKey_of_get q r) _)))
def Dj(d a:Y)(h:(d == A2S)=aD)(v:F):
 MeetsIn prog w (Builtin.«dict.setdefault» ⟨[.ref d,.ref a,v],[]⟩) (λA R s=>knd.room A.in1/\∃ k c,knd.is s.heap k a/\s.heap.DictOfH knd d c/\c.length<=A2s/\s.TypeIs (.ref d) "dict"/\
  (∀ p,atKey c k=O p->∀ b,R (.ok (.ret p.2)) {s with toks:=b})/\
  (atKey c k=aB->∀ f b,f.DictOfH knd d (storedH c k a v)->Z7 d s.heap f->R (.ok (.ret v)) {s with heap:=f,toks:=b})):=
 .of_wp λA R s ⟨hu,k,c,g,i,j,l,m,n⟩=>by
  unfold Builtin.«dict.setdefault»;refine Z ?_;unfold Builtin.Dict.keyAndDefault;refine Z (A3i l ?_);refine A2l ?_;show A2o _ _ (if (d == A2S)=aC then _ else (A4k d (.ref a) v >>= _)) _ _ s;rw[h];rw[iG Yq];exact Z (OB hu g i (λp e b=>A2l ⟨p.2,J,m p e b⟩) (λe f b o q=>A2l ⟨v,J,n e f b o q⟩) j)
end
section
variable{X:Cx}{o e f:A2p}{apos cpos:Pos}{td ty tx:TE}
def XC(h ty i:TE):TE:=λd H Q=>h d H λx g=>∃ a,x = .ref a/\IsD g a/\ty d g λy j=>i d j λz c=>∃ kvs k b,y = .ref b/\c a=O (.dT kvs)/\c b=O (.tup (k.map kV))/\kvs.length<A2s/\
 (∀ v,AZ kvs k=O v->Q v c)/\(AZ kvs k=aB->Q z (upd c a (.dT (AM kvs k z))))
def Rb(hu:X.A.units+1<cLine)(V:PE X o td)(W:PE X e ty)(hf:PE X f tx)(m:M2 X o "setdefault" apos e f cpos):PE X (.Call (.Attribute o "setdefault" apos) [e,f] [] cpos) (XC td ty tx):=by
 intro g s t H Q I h;refine wpAny_Call_method m.base m.few m.line PySem.F.plainAttrs_dict PySem.F.slot_dict_setdefault PySem.F.type_dict_setdefault (thn (V g s t H _ I h) λu s1 K=>?_);obtain⟨x,H1,L,rx,a,ex,d,q1⟩:=K;subst ex;obtain rfl:u=Value.ref a:=rx;obtain⟨t1,t2,_⟩:=Uv L d;refine⟨t1,t2,?_⟩;rw[m.trees]
 refine Calls.callWith_builtin J (Calls.evalArgs_plain (Calls.spliced_cons (thn (W g s1 t H1 _ L q1) λiv s2 ⟨y,H2,I2,ry,q2⟩=>
  Calls.spliced_cons (thn (hf g s2 t H2 _ I2 q2) λfv s3 ⟨z,H3,r,rz,i,k,b,ey,B,M,K,qs,qn⟩=>Calls.spliced_nil ?_))))
 subst ey;cases ry;obtain⟨hl,N,P,j,C⟩:=Ti r.hok B;have D:P.length<=A2s:=by rw[<-Paired.length j];exact hl
 refine call_meetsIn PySem.F.slot_dict_setdefault C.typeIs PySem.F.entry_dict_setdefault (PySem.F.args_dict_setdefault_3 _ _ _) (Dj (knd:=A3R (j4 X.prog X.w)) a b N fv) ⟨A3J hu,k,P,key_of r.hok M,C,D,C.typeIs,λp e R=>?_,λe h' R E hs=>?_⟩
 ·have l:=j.val k;rw[e]at l;cases n:AZ i k with
  | none=>rw[n]at l;exact l.elim
  | some v=>rw[n]at l;exact⟨v,H3,r.tok R,l,qs v n⟩
 ·have n:AZ i k=aB:=by
   have l:=j.val k;rw[e]at l;cases n:AZ i k with
   | none=>rfl
   | some v=>rw[n]at l;exact l.elim
  refine⟨z,_,?_,rz,qn n⟩;obtain⟨q,es,ep,S,h2,h3,h4,_,h5⟩:=E;have G:(AM i k z).length<=A2s:=by have:=Bh i k z;lia
  refine FZ r (by rw[B];exact True.intro) hs ⟨q,S⟩ ⟨G,N,_,(j.put k M rz).keeps λc ys T=>?_,q,es,ep,S,h2,h3,h4,h5⟩;rw[g7 (Jk T B (λz=>nomatch z))];exact T
end
section
variable{prog:A2r}{w:A2u}{A:A2w}{R:Result->A2m->Prop}{I:Y}{fp wr:U Y}{n:Nat}{P:Nat->F->Prop}{St:Nat->A2y->Prop}
structure CmpMx(prog:A2r)(w:A2u)(A:A2w)(wr:List Y)(S:Y)(P:Nat->F->Prop)(bt:Nat->Nat->Bool)(G:A2y->Prop):Prop where
 keep:∀ h h',G h->(∀ b o,b∉wr->b≠S->h.get? b=O o->h'.get? b=O o)->G h'
 cmp:∀(s:A2m),G s.heap->∀(i j:Nat) (vi vj:F) (Q:F->A2m->Prop) (E:F->A2m->Prop),P i vi->P j vj->Q (.bool (bt i j)) s->A2o (A2q prog w) A (A3A .Gt vi vj) Q E s
def Ff{kw:U (Str×A2k)}(W:Walks prog w A.in1 I fp wr n P St){t:Nat->Nat->Bool}{S:Y}{G:A2y->Prop}(C:CmpMx prog w A.in1 wr S P t G)(x:S∉fp)(k:Nat):
 ∀(j:Nat) (s:A2m) (g:A2k) (c:Nat),n=j+1+k->St (j+1) s.heap->G s.heap->P (argBest t j) g->
 s.heap.get? S=O {cls := .type "list",dict:=aB,data := .seq #[g,g] c,slots:=#[]}->
 (∀ v h' H,P (argBest t (n - 1)) v->(∀ b o,b∉wr->b≠S->s.heap.get? b=O o->h'.get? b=O o)->R (.ok (.ret v)) {s with heap:=h',toks:=H})->
 codeAny (A2q prog w) A (.builtin "max.loop" ⟨[.ref I,.none,.ref S],kw⟩) R s:=by
 have y:S∉wr:=λz=>x (W.sub _ z);have nm:(toString "max"++toString ".loop":String)="max.loop":=by decide
 induction k with
 | zero=>
   intro j s g c L i hG h B K;refine A2N F.entry_max_loop ?_;rw[Around.under_plainId F.plain_max_loop _];refine Z (m:=A4m (.ref S)) (A2E B J ?_);have D:St n s.heap:=by rw[L];exact i
   refine Z (m:=tryCatch (pyNext (.ref I)) _) (A3c (W.done s _ _ D λM H l=>?_));have a:=l S _ y B;refine Z (m:=A4P S (λ_=>#[])) (A3p a J (Z (A3s (A2l ?_))));exact K g _ H (by rw[L];exact h) λb o u f e=>(ZM _ _ (Ne.symm f)).trans (l b o u e)
 | succ k ih=>
   intro j s g c L i hG h B K;refine A2N F.entry_max_loop ?_;rw[Around.under_plainId F.plain_max_loop _];refine Z (m:=A4m (.ref S)) (A2E B J ?_);refine Z (m:=tryCatch (pyNext (.ref I)) _) (A3c (W.item (j+1) s _ _ (by lia) i λv M H hP E l=>?_));have a:=l S _ y B;have p:=C.keep _ _ hG λb o u _ e=>l b o u e;refine Z (m:=tryCatch (holding [v,v] (A3A .Gt v g >>= _)) _) (A3c (A2A (Z (C.cmp _ p (j+1) (argBest t j) v g _ _ hP h ?_))));refine Z (A2A (A2I (Z (A3s (A2l ?_)))));cases u:t (j+1) (argBest t j) with
   | true=>
     simp only[if_true];refine Z (A3p a J (Z (A3s ?_)));rw[nm];have N:∀ b o,b≠S->M.get? b=O o->(A2i M S (Obj.mapSeq λ_=>#[v,v])).get? b=O o:=λb o f e=>(ZM _ _ (Ne.symm f)).trans e;refine A2l ⟨A2M F.plain_max_loop _,ih (j+1) _ v _ (by lia) (W.frame _ _ _ E λb Q o e=>N b o (λz=>x (z▸Q)) e) (C.keep _ _ p λb o _ f e=>N b o f e) ?_ (ZL _ a J) λT V q r X=>?_⟩
     ·simp only[argBest,u,if_true];exact hP
     ·exact K T V q r λb o d f e=>X b o d f (N b o f (l b o d e))
   | false=>
     simp only[ZR,if_false];refine Z (A3s ?_);rw[nm];refine A2l ⟨A2M F.plain_max_loop _,ih (j+1) _ g c (by lia) E p ?_ a λT V q r X=>?_⟩
     ·simp only[argBest,u,ZR,if_false];exact h
     ·exact K T V q r λb o d f e=>X b o d f (l b o d e)
def EY{d:A2k}(W:Walks prog w A.in1 I fp wr n P St){D:Nat->Nat->Bool}{S:Y}{G:A2y->Prop}(C:CmpMx prog w A.in1 wr S P D G)(f:S∉fp){s:A2m}{c:Nat}(h:St 0 s.heap)(H:G s.heap)
 (E:s.heap.get? S=O {cls := .type "list",dict:=aB,data := .seq #[] c,slots:=#[]})
 (K:n=0->∀ i g,(∀ b o,b∉wr->b≠S->s.heap.get? b=O o->i.get? b=O o)->R (.ok (.ret d)) {s with heap:=i,toks:=g})
 (L:0<n->∀ v i g,P (argBest D (n - 1)) v->(∀ b o,b∉wr->b≠S->s.heap.get? b=O o->i.get? b=O o)->R (.ok (.ret v)) {s with heap:=i,toks:=g}):
 codeAny (A2q prog w) A (.builtin "max.loop" ⟨[.ref I,.none,.ref S],[(Str.ofString "default",d)]⟩) R s:=by
 have q:S∉wr:=λz=>f (W.sub _ z);have nm:(toString "max"++toString ".loop":String)="max.loop":=by decide
 refine A2N F.entry_max_loop ?_;rw[Around.under_plainId F.plain_max_loop _];refine Z (m:=A4m (.ref S)) (A2E E J ?_);by_cases a:n=0
 ·subst a;refine Z (m:=tryCatch (pyNext (.ref I)) _) (A3c (W.done s _ _ h λp g j=>?_));exact Z (A2K (A2l (K J p g λb o r _ e=>j b o r e)))
 ·refine Z (m:=tryCatch (pyNext (.ref I)) _) (A3c (W.item 0 s _ _ (by lia) h λv p g M t j=>?_));have k:=j S _ q E;have u:∀ b o,b≠S->p.get? b=O o->(A2i p S (Obj.mapSeq λ_=>#[v,v])).get? b=O o:=λb o a e=>(ZM _ _ (Ne.symm a)).trans e;refine Z (m:=A4P S (λ_=>#[v,v])) (A3p k J ?_);rw[nm];refine A2l ⟨A2M F.plain_max_loop _,Ff W C f (n - 1) 0 _ v _ (by lia) (W.frame _ _ _ t λb x o e=>u b o (λz=>f (z▸x)) e) (C.keep _ _ (C.keep _ _ H λb o r _ e=>j b o r e) λb o _ a e=>u b o a e) M (ZL _ k J) λN Q y B T=>?_⟩;exact L (by lia) N Q y B λb o l a e=>T b o l a (u b o a (j b o l e))
end
def Fg(a v:F):argsOk "max" ⟨[a],[(Str.ofString "default",v)]⟩:=by unfold argsOk;kernel_rfl
section
variable{prog:A2r}{w:A2u}{A:A2w}{E:F->A2m->Prop}{s:A2m}
def Fh{l:Y}{a:Array A2k}{d:A2k}{Q:A2k->A2m->Prop}(L:A.handled=aB)(t:s.heap.IsList l a)(u:Nat->Nat->Bool)(G:A2y->Prop)(M:G s.heap)
 (f:∀ h c,G h->(∀ b o,b<s.heap.objs.size->h.get? b=O o->c.get? b=O o)->G c)
 (p:∀(x:A2m),G x.heap->∀(i j:Nat) (H I:A2k) (Q:A2k->A2m->Prop) (E:A2k->A2m->Prop),a[i]?=O H->a[j]?=O I->Q (.bool (u i j)) x->A2o (A2q prog w) A.in1 (A3A .Gt H I) Q E x)
 (N:a.size=0->∀ c n,(∀ b o,s.heap.get? b=O o->c.get? b=O o)->Q d {s with heap:=c,toks:=n})
 (P:0<a.size->∀ v c n,a[argBest u (a.size - 1)]?=O v->(∀ b o,s.heap.get? b=O o->c.get? b=O o)->Q v {s with heap:=c,toks:=n}):
 A2o (A2q prog w) A (call (.builtin "max") [.ref l] [(Str.ofString "default",d)]) Q E s:=by
 have nm:(toString "max"++toString ".loop":String)="max.loop":=by decide
 have q:l<s.heap.objs.size:=by obtain⟨o,R,_⟩:=t;exact Yk R
 refine kmb_tree F.kind_max F.plain_max F.entry_max (Fg _ _) ?_;refine Z (m:=Builtin.Builtins.bindParams "max" ["key","default"] 0 ⟨[],[(Str.ofString "default",d)]⟩) (A4f (show Builtin.Builtins.bindParams "max" ["key","default"] 0 ⟨[],[(Str.ofString "default",d)]⟩=pure [aB,O d] from J) ?_);refine Z (A2l ?_);refine Z (A36 t ?_);refine Z (A2z ?_);rw[nm];have W:=Walks.list (prog:=prog) (w:=w) (A:=A.in1) L s.heap.objs.size l (Ys q) a;have y:∀ b o,s.heap.get? b=O o->((s.heap.push {cls := .type "list_iterator",data := .fields #[.ref l,.int 0 0]}).push {cls := .type "list",data := .seq ([]:U A2k).toArray}).get? b=O o:=λb o e=>Yf _ (Yf _ e);have B:(s.heap.push {cls := .type "list_iterator",data := .fields #[.ref l,.int 0 0]}).objs.size=s.heap.objs.size+1:=by simp[ZN]
 have C:CmpMx prog w A.in1 [s.heap.objs.size] (s.heap.push {cls := .type "list_iterator",data := .fields #[.ref l,.int 0 0]}).objs.size (λi v=>a[i]?=O v) u G:=⟨λh c g k=>f h c g λb o K e=>k b o (by simp;exact Ys K) (by rw[B];exact Ys (A0f K)) e,p⟩
 have r:∀(h:A2y),(∀ b o,b∉[s.heap.objs.size]->b≠(s.heap.push {cls := .type "list_iterator",data := .fields #[.ref l,.int 0 0]}).objs.size->((s.heap.push {cls := .type "list_iterator",data := .fields #[.ref l,.int 0 0]}).push {cls := .type "list",data := .seq ([]:U A2k).toArray}).get? b=O o->h.get? b=O o)->∀ b o,s.heap.get? b=O o->h.get? b=O o:=λh k b o e=>k b o (by simp;exact Ys (Yk e)) (by rw[B];have:=Yk e;exact Ys (A0f this)) (y b o e);refine A2l ⟨A2M F.plain_max_loop _,EY (d:=d) W C ?_ ?_ (f _ _ M λb o _ e=>y b o e) (Yn _ J) (λD c n k=>N D c n (r c k)) (λD v c n S k=>P D v c n S (r c k))⟩
 ·rw[B];simp only[Yp,Zi,or_false,not_or];exact⟨Nat.succ_ne_self _,λz=>absurd q (by rw[<-z];exact A16 (A15 _))⟩
 ·exact⟨⟨_,Yf _ (Yn _ J),J,J⟩,t.at λo e=>y _ _ e⟩
end
section
variable{X:Cx}
def gtB(c:U Int)(a b:Nat):Bool:=decide (c.getD a 0>c.getD b 0)
theorem K8(a:U Int):∀ k j,j<=k->a.getD j 0<=a.getD (argBest (gtB a) k) 0
 | 0,j,d=>by
   have:j=0:=by lia
   subst this;exact A1r _
 | k+1,j,d=>by
   have c:=K8 a k;simp only[argBest];split
   ·rename_i b;have b:=of_decide_eq_true b;by_cases e:j=k+1
    ·subst e;exact A1r _
    ·have:=c j (by lia)
     lia
   ·rename_i b;have b:¬ a.getD (k+1) 0>a.getD (argBest (gtB a) k) 0:=λz=>b (decide_eq_true z);by_cases e:j=k+1
    ·subst e;lia
    ·exact c j (by lia)
theorem Gn(a:Nat->Nat->Bool):∀ k,argBest a k<=k
 | 0=>Ym _
 | k+1=>by
   simp only[argBest];split
   ·exact Ym _
   ·exact A0U (Gn a k)
def Grt(a:U Int)(m:Int):Prop:=m∈a/\∀ n∈a,n<=m
def Gp{a:U Int}(h:0<a.length):Grt a (a.getD (argBest (gtB a) (a.length - 1)) 0):=by
 have f:=Gn (gtB a) (a.length - 1);have b:argBest (gtB a) (a.length - 1)<a.length:=by lia
 refine⟨by rw[show a.getD (argBest (gtB a) (a.length - 1)) 0=a[argBest (gtB a) (a.length - 1)] by simp[Zl,b]];exact Zs b,λn d=>?_⟩;obtain⟨j,c⟩:=Z4 d;have e:=(gM c).1;have:=K8 a (a.length - 1) j (by lia);rw[show a.getD j 0=n by simp[Zl,c]]at this;exact this
def XD:U V->U V->Hp->VK->Prop:=λxs b H Q=>∃ l a d,xs=[.ref l]/\b=[.int d]/\H l=O (.lst (a.map V.int))/\(a=[]->Q (.int d) H)/\∀ m,Grt a m->Q (.int m) H
def DQ{a:U Int}{b:U F}(c:Vals (a.map V.int) b){i:Nat}{v:F}(h:b[i]?=O v):∃ n t,a[i]?=O n/\v = .int n t:=by
 have g:=c.length;rw[YY]at g;have d:i<a.length:=by have:=(gM h).1;lia
 have e:(a.map V.int)[i]?=O (.int a[i]):=by simp[d]
 obtain⟨u,f,j⟩:=c.get e;rw[h]at f;cases f;obtain⟨t,rfl⟩:=j;exact⟨_,t,by simp[d],J⟩
def MB(C:X.calm=aC):Nt X (.builtin "max") ["default"] XD:=by
 intro A s σ H xs zs us ws Q I r rz h;obtain⟨l,b,d,rfl,rfl,D,E,q1⟩:=h;obtain⟨u,rfl,G⟩:=Af r;cases G;obtain⟨z,rfl,e⟩:=Af rz;obtain⟨t,rfl⟩:=e;obtain⟨a,f,K,hz⟩:=I.list (SqL.of D);have m:b.length=a.length:=by have:=f.length;rwa [YY]at this
 refine Fh (I.ok.hd C) K.isList (gtB b) (λ_=>True) trivial (λ_ _ _ _=>trivial) ?_ ?_ ?_
 ·intro L _ i j M N R S T V q
  exact CmpOf.ints_gt (P:=λi v=>a.toArray[i]?=O v) (λi=>b.getD i 0) (λi v h=>by
   obtain⟨n,o,c,rfl⟩:=DQ f (show a[i]?=O v by simpa using h);exact⟨o,by simp[Zl,c]⟩) i j M N L R S T V q
 ·intro w W x k
  have:b=[]:=by
   cases b with
   | nil=>rfl
   | cons p r=>rw[Yl]at w;simp at m;lia
  exact⟨.int d,H,I.kept (t':=x) k,⟨t,J⟩,E this⟩
 ·intro B v W x hv k;obtain⟨n,o,c,rfl⟩:=DQ f (show a[argBest (gtB b) (a.toArray.size - 1)]?=O v by simpa using hv);have y:a.toArray.size=b.length:=by rw[Yl];lia
  rw[y]at c B;have g:=Gp B;rw[show b.getD (argBest (gtB b) (b.length - 1)) 0=n by simp[Zl,c]]at g;exact⟨.int n,H,I.kept (t':=x) k,⟨o,J⟩,q1 n g⟩
def MC(D:X.calm=aC):CallR X (.builtin "max") (λB H Q=>∃ l c,B=[.ref l]/\H l=O (.lst (c.map V.int))/\0<c.length/\∀ m,Grt c m->Q (.int m) H):=by
 intro C s R H B S Q I r h;obtain⟨l,c,rfl,E,G,q1⟩:=h;obtain⟨u,rfl,K⟩:=Af r;cases K;obtain⟨a,j,p,T⟩:=I.list (SqL.of E);have L:c.length=a.length:=by have:=j.length;rwa [YY]at this
 have d:l<s.heap.objs.size:=by obtain⟨o,M,_⟩:=p.isList;exact Yk M
 have q:l≠s.heap.objs.size:=Ys d;refine call_max_walk (A36 p.isList ⟨s.heap.objs.size,[s.heap.objs.size,l],[s.heap.objs.size],a.toArray.size,_,_,gtB c,J,Walks.list (prog:=X.prog) (w:=X.w) (A:=X.A.in1) (I.ok.hd D) s.heap.objs.size l q a.toArray,?_,?_,?_,?_,?_⟩)
 ·exact⟨⟨_,Yn _ J,J,J⟩,p.isList.at λo e=>Yf _ e⟩
 ·intro b t;rcases Yp.mp t with rfl | t
  ·show _<(s.heap.push _).objs.size;rw[ZN];exact A15 _
  ·rw[Yt.mp t];show _<(s.heap.push _).objs.size;rw[ZN];exact A0f d
 ·rw[Yl];lia
 ·exact CmpOf.ints_gt (λi=>c.getD i 0) (λi v h=>by
   obtain⟨n,x,f,rfl⟩:=DQ j (show a[i]?=O v by simpa using h);exact⟨x,by simp[Zl,f]⟩)
 ·intro v W N P k;obtain⟨n,x,f,rfl⟩:=DQ j (show a[argBest (gtB c) (a.toArray.size - 1)]?=O v by simpa using P);have y:a.toArray.size=c.length:=by rw[Yl];lia
  rw[y]at f;have g:=Gp G;rw[show c.getD (argBest (gtB c) (c.length - 1)) 0=n by simp[Zl,f]]at g;refine⟨.int n,H,I.kept (t':=N) (λb o e=>k b o (λz=>?_) (Yf _ e)),⟨x,J⟩,q1 n g⟩;rw[Yt.mp z]at e;exact A07 _ (Yk e)
def DE{b:U Int}{a:U F}(r:Vals (b.map V.int) a){m:Nat}(h:m<a.toArray.size)(c:m<b.length):∃ t,a.toArray[m] = .int b[m] t:=by
 obtain⟨f,d,e⟩:=r.get (show(b.map V.int)[m]?=O (V.int b[m]) by simp[c])
 have g:a.toArray[m]=f:=by
  have:a[m]?=O a.toArray[m]:=by simp
  rw[d]at this;exact(oj this).symm
 obtain⟨t,rfl⟩:=e;exact⟨t,g⟩
def K9:V->U V->Hp->VK->Prop:=λx vs H Q=>∃(l:Y) (a:U Int) (n:Int) (j:Nat),x = .ref l/\vs=[.int n]/\H l=O (.lst (a.map V.int))/\a[j]?=O n/\(∀ m,m<j->a[m]?≠O n)/\Q .non (upd H l (.lst ((a.eraseIdx j).map V.int)))
def eqI(n:Int):F->Bool
 | .int m _=>m == n
 | _=>aD
def F7:MtM X "list.remove" K9:=by
 intro A s N H x P v R Q I D E h;obtain⟨l,c,n,j,rfl,rfl,B,C,i,q⟩:=h;cases D;obtain⟨u,rfl,G⟩:=E.one;obtain⟨t,rfl⟩:=G;obtain⟨z,a,k,r,K,e⟩:=I.lstM B;have d:=K;rw[YY]at d z;have L:j<c.length:=(gM C).1;have f:j<a.toArray.size:=by rw[Yl];lia
 have g:∀ m (b:m<a.toArray.size),eqI n a.toArray[m]=(c[m]'(by rw[Yl]at b;lia) == n):=λm b=>by
  obtain⟨t,o⟩:=DE r b (by rw[Yl]at b;lia);rw[o];rfl
 refine A3k F.slot_list_remove ⟨_,e,J⟩ F.entry_list_remove (F.args_list_remove_2 _ _)
  (MeetsSeq.list_remove l a.toArray k (.int n t) (eqI n) ?_ j f ?_ ?_ (by rw[Yl];lia)) ⟨e,?_⟩
 ·intro y M;obtain⟨m,b,rfl⟩:=Array.getElem_of_mem M;obtain⟨S,o⟩:=DE r b (by rw[Yl]at b;lia);rw[o];exact MeetsSeq.EqGives.int _ _ _ _
 ·rw[g j f];have:=(gM C).2;simp[this]
 ·intro m b p;rw[g m b];have w:m<c.length:=by rw[Yl]at b;lia
  have:=i m p;simpa[w] using this
 ·refine⟨.non,_,I.lset (its':=a.eraseIdx j) B e ?_ ?_ ?_,J,q⟩
  ·show a.toArray.eraseIdxIfInBounds j=(a.eraseIdx j).toArray;rw[List.eraseIdxIfInBounds_toArray]
  ·have:=r.eraseIdx j
   rwa [show(c.map V.int).eraseIdx j=(c.eraseIdx j).map V.int by rw[Zx,Zx,Yo,A11,A0F]]at this
  ·rw[YY];have:=Ev c j
   lia
end
end L2
namespace Rf
open PySem L2
inductive BI where
 | len | abs | min | max | int | list | tuple | all | any | sorted | isi | str | repr
 deriving DecidableEq
def BI.name:BI->Str
 | .len=>"len" | .abs=>"abs" | .min=>"min" | .max=>"max" | .int=>"int" | .list=>"list" | .tuple=>"tuple" | .all=>"all" | .any=>"any" | .sorted=>"sorted" | .isi=>"isinstance" | .str=>"str" | .repr=>"repr"
def blS:U SV->Option (U Bool)
 | []=>O []
 | .bl b::xs=>(blS xs).map (b::·)
 | _::_=>aB
def tyS:SV->Sto->Option TyN
 | .non,_=>O .none
 | .bl _,_=>O .bool
 | .int _,_=>O .int
 | .str _,_=>O .str
 | .tup _,_=>O .tuple
 | .loc k,S=>match S[k]? with | some (.lst _)=>O .list | _=>aB
 | _,_=>aB
def Iq:TyN->TyN->Bool
 | .bool,.int=>aC
 | a,b=>decide (a=b)
def MD:U SV->Option (U TyN)
 | []=>O []
 | .ty t::xs=>(MD xs).map (t::·)
 | _::_=>aB
def Ab:Nat->Sto->SV->Option PyData
 | _,_,.non=>O .none
 | _,_,.bl b=>O (.bool b)
 | _,_,.int i=>O (.int i)
 | _,_,.str x=>O (.str x)
 | n+1,S,.tup xs=>(xs.mapM (Ab n S)).map PyData.tuple
 | n+1,S,.loc k=>match S[k]? with | some (.lst xs)=>(xs.mapM (Ab n S)).map PyData.list | _=>aB
 | _,_,_=>aB
def a0(f:Sto->QE->Prop):Sn:=λxs S Q=>match xs with | []=>f S Q | _=>False
def a1(f:S1):Sn:=λxs S Q=>match xs with | [x]=>f x S Q | _=>False
def a2(f:S2):Sn:=λxs S Q=>match xs with | [x,y]=>f x y S Q | _=>False
def oI(f:Int->Sto->QE->Prop):S1:=λx S Q=>match x with | .int i=>f i S Q | _=>False
def Dk{f:S1}{a:U SV}{S:Sto}{Q:QE}(h:a1 f a S Q):∃ x,a=[x]/\f x S Q:=match a,h with | [x],h=>⟨x,rfl,h⟩
def OC{f:S2}{a:U SV}{S:Sto}{Q:QE}(h:a2 f a S Q):∃ x y,a=[x,y]/\f x y S Q:=match a,h with | [x,y],h=>⟨x,y,rfl,h⟩
def Cc{f:Int->Sto->QE->Prop}{x:SV}{S:Sto}{Q:QE}(h:oI f x S Q):∃ i,x = .int i/\f i S Q:=match x,h with | .int i,h=>⟨i,rfl,h⟩
def AR{f:S1}(m:Nv f):MonoN (a1 f):=λb S P a i h=>by
 replace h:=Dk h;obtain⟨x,rfl,h⟩:=h;exact m x S P a i h
def DR{f:S2}(m:Mono2 f):MonoN (a2 f):=λb S P a i h=>by
 replace h:=OC h;obtain⟨x,y,rfl,h⟩:=h;exact m x y S P a i h
def Rc{f:Int->Sto->QE->Prop}(m:∀ k S P a,(∀ x b,P x b->a x b)->f k S P->f k S a):Nv (oI f):=λx S P a i h=>by
 replace h:=Cc h;obtain⟨k,rfl,h⟩:=h;exact m k S P a i h
def XE:S1
 | .int i,S,Q=>Q (.int i) S
 | .bl b,S,Q=>Q (.int (if b then 1 else 0)) S
 | _,_,_=>False
def Tn{x:SV}{S:Sto}{Q:QE}(h:XE x S Q):(∃ i,x = .int i/\Q (.int i) S)\/∃ b,x = .bl b/\Q (.int (if b then 1 else 0)) S:=match x,h with
 | .int i,h => .inl ⟨i,J,h⟩
 | .bl b,h => .inr ⟨b,J,h⟩
def XF:S2:=λx y S Q=>match y with
 | .ty t=>∃ a,t ≠ .none/\tyS x S=O a/\Q (.bl (Iq a t)) S
 | .tup ts=>∃ a b,TyN.none∉b/\tyS x S=O a/\MD ts=O b/\Q (.bl (b.any (Iq a))) S
 | _=>False
def To{x y:SV}{S:Sto}{Q:QE}(h:XF x y S Q):(∃ t a,y = .ty t/\t ≠ .none/\tyS x S=O a/\Q (.bl (Iq a t)) S)\/∃ c a b,y = .tup c/\TyN.none∉b/\tyS x S=O a/\MD c=O b/\Q (.bl (b.any (Iq a))) S:=match y,h with
 | .ty t,⟨a,h⟩ => .inl ⟨t,a,J,h⟩
 | .tup c,⟨a,b,h⟩ => .inr ⟨c,a,b,J,h⟩
def Y8:S1:=λx S Q=>∃ xs,Ai x S=O xs/\Q (.int xs.length) S
def Y9:S1:=oI λi S Q=>Q (.int (if i<0 then -i else i)) S
def YA:S2:=λx y S Q=>oI (λi S Q=>oI (λj S Q=>Q (.int (if j<i then j else i)) S) y S Q) x S Q
def YB:S2:=λx y S Q=>oI (λi S Q=>oI (λj S Q=>Q (.int (if j>i then j else i)) S) y S Q) x S Q
def XG:S1:=λx S Q=>∃ xs,Ai x S=O xs/\Q (.loc S.length) (S++[.lst xs])
def VE:S1:=λx S Q=>∃ xs,Ai x S=O xs/\Q (.tup xs) S
def YC:S1:=λx S Q=>∃ xs a,x ≠ .tup xs/\Ai x S=O xs/\blS xs=O a/\Q (.bl (a.any id)) S
def YD:S1:=λx S Q=>∃ d,Ab 20 S x=O d/\Fit d/\Q (.str (Ih d)) S
def sBi:BI->Sn
 | .len=>a1 Y8
 | .abs=>a1 Y9
 | .min=>a2 YA
 | .max=>a2 YB
 | .int=>a1 XE
 | .list=>a1 XG
 | .tuple=>a1 VE
 | .all=>λ_ _ _=>False
 | .any=>a1 YC
 | .sorted=>λ_ _ _=>False
 | .isi=>a2 XF
 | .str=>a1 YD
 | .repr=>λ_ _ _=>False
def MonoN.bi:∀{b:BI},MonoN (sBi b)
 | .len=>AR (by rintro _ _ _ _ i ⟨a,c,d⟩;exact⟨a,c,i _ _ d⟩)
 | .abs=>AR (Rc λ_ _ _ _ i h=>i _ _ h)
 | .min=>DR λx y S P m i h=>by
   replace h:=Cc h;obtain⟨k,rfl,g⟩:=h;obtain⟨l,rfl,j⟩:=Cc g;exact i _ _ j
 | .max=>DR λx y S P m i h=>by
   replace h:=Cc h;obtain⟨k,rfl,g⟩:=h;obtain⟨l,rfl,j⟩:=Cc g;exact i _ _ j
 | .int=>AR λx S P m i h=>by
   replace h:=Tn h;rcases h with⟨k,rfl,h⟩ | ⟨b,rfl,h⟩
   ·exact i _ _ h
   ·exact i _ _ h
 | .list=>AR (by rintro _ _ _ _ i ⟨a,c,d⟩;exact⟨a,c,i _ _ d⟩)
 | .tuple=>AR (by rintro _ _ _ _ i ⟨a,c,d⟩;exact⟨a,c,i _ _ d⟩)
 | .all=>λ_ _ _ _ _ h=>h
 | .any=>AR (by rintro _ _ _ _ i ⟨a,b,c,d,e,f⟩;exact⟨a,b,c,d,e,i _ _ f⟩)
 | .sorted=>λ_ _ _ _ _ h=>h
 | .isi=>DR λx y S P m i h=>by
   replace h:=To h;rcases h with⟨t,a,rfl,g,j,h⟩ | ⟨p,a,n,rfl,g,j,o,h⟩
   ·exact⟨a,g,j,i _ _ h⟩
   ·exact⟨a,n,g,j,o,i _ _ h⟩
 | .str=>AR (by rintro _ _ _ _ i ⟨a,b,c,d⟩;exact⟨a,b,c,i _ _ d⟩)
 | .repr=>λ_ _ _ _ _ h=>h
section
variable{K:YZ}{as:U Y}{H:Hp}{S:Sto}
theorem OD:∀{a:U SV} {d:U Bool} {c:U V},blS a=O d->RlAll K as H c a->c=d.map V.bl
 | [],_,_,e,r=>by cases e;exact rla_nil.mp r
 | .bl b::a,_,_,e,r=>by
   obtain⟨v,c,rfl,f,g⟩:=rla_cons.mp r;unfold blS at e;cases h:blS a with
   | none=>rw[h]at e;cases e
   | some i=>
     rw[h]at e;cases e;rw[rl_bl.mp f,OD h g];rfl
 | .non::_,_,_,e,_=>by cases e
 | .int _::_,_,_,e,_=>by cases e
 | .str _::_,_,_,e,_=>by cases e
 | .tup _::_,_,_,e,_=>by cases e
 | .loc _::_,_,_,e,_=>by cases e
 | .ro _::_,_,_,e,_=>by cases e
 | .ty _::_,_,_,e,_=>by cases e
 | .exc _::_,_,_,e,_=>by cases e
def Ad{x:SV}{v:V}{c:U SV}(f:Ok K as H S)(r:Rl K as H v x)(n:x ≠ .tup c)(h:Ai x S=O c):∃ a b,v = .ref a/\SqL K H a b/\RlAll K as H b c:=by
 cases x with
 | tup e=>cases h;exact absurd J n
 | ro e=>
   cases h;obtain⟨p,b,rfl,g,d⟩:=rl_ro.mp r;exact⟨p,b,J,g.sq,d⟩
 | loc k=>
   obtain⟨a,i,rfl⟩:=rl_loc.mp r;unfold Ai at h;cases hs:S[k]? with
   | none=>simp only[hs]at h;cases h
   | some o=>
     cases o with
     | lst e=>
       simp only[hs]at h;cases h;obtain⟨b,j,d⟩:=f.obj k _ a hs i;exact⟨a,b,J,SqL.of j,d⟩
     | iset _=>simp only[hs]at h;cases h
     | dtl _=>simp only[hs]at h;cases h
     | dtf _ _ _=>simp only[hs]at h;cases h
     | dtp _=>simp only[hs]at h;cases h
     | dct _=>simp only[hs]at h;cases h
     | dcf _ _ _=>simp only[hs]at h;cases h
     | tbl _ _=>simp only[hs]at h;cases h
 | _=>cases h
def Dl{a:U V}{x:SV}(r:RlAll K as H a [x]):∃ v,a=[v]/\Rl K as H v x:=by obtain⟨v,t,rfl,b,c⟩:=rla_cons.mp r;rw[rla_nil.mp c];exact⟨v,J,b⟩
def Re{a:U V}{x y:SV}(r:RlAll K as H a [x,y]):∃ v u,a=[v,u]/\Rl K as H v x/\Rl K as H u y:=by obtain⟨v,t,rfl,b,c⟩:=rla_cons.mp r;obtain⟨u,rfl,d⟩:=Dl c;exact⟨v,u,J,b,d⟩
end
def OE{K:YZ}{g:U Y}{H:Hp}{S:Sto}{Q:VK}{x:SV}{v:V}{j:U SV}(c:Ok K g H S)(d:Rl K g H v x)(e:Ai x S=O j)(h:Post K g H Q (.tup j) S):∃ p b,v = .ref p/\((SqL K H p b/\∀ l,H l=aB->Q (.ref l) (upd H l (.tup b)))\/(SqT K H p b/\Q (.ref p) H)):=by
 cases x with
 | tup n=>
   cases e;obtain⟨p,b,rfl,m,f⟩:=rl_tup.mp d;exact⟨p,b,J,.inr ⟨SqT.of m,h.here c d⟩⟩
 | loc k=>
   obtain⟨a,b,rfl,i,f⟩:=Ad c d (by intro z;cases z) e;exact⟨a,b,J,.inl ⟨i,Bj c f h⟩⟩
 | ro k=>
   obtain⟨a,b,rfl,i,f⟩:=Ad c d (by intro z;cases z) e;exact⟨a,b,J,.inl ⟨i,Bj c f h⟩⟩
 | _=>cases e
section
variable{K:YZ}{as:U Y}{H:Hp}{S:Sto}
def Tp{x:SV}{v:V}{a:TyN}(c:Ok K as H S)(r:Rl K as H v x)(h:tyS x S=O a):TyOf K H v (.type a.nm):=by
 cases x with
 | non=>cases h;rw[rl_non.mp r];exact .non
 | bl b=>cases h;rw[rl_bl.mp r];exact .bl b
 | int b=>cases h;rw[rl_int.mp r];exact .int b
 | str b=>cases h;rw[rl_str.mp r];exact .str b
 | tup i=>cases h;obtain⟨p,d,rfl,e,_⟩:=rl_tup.mp r;exact .tup e
 | loc k=>
   obtain⟨b,f,rfl⟩:=rl_loc.mp r;unfold tyS at h;cases hs:S[k]? with
   | none=>simp only[hs]at h;cases h
   | some o=>
     cases o with
     | lst j=>
       simp only[hs]at h;cases h;obtain⟨d,g,_⟩:=c.obj k _ b hs f;exact .lst g
     | iset _=>simp only[hs]at h;cases h
     | dtl _=>simp only[hs]at h;cases h
     | dtf _ _ _=>simp only[hs]at h;cases h
     | dtp _=>simp only[hs]at h;cases h
     | dct _=>simp only[hs]at h;cases h
     | dcf _ _ _=>simp only[hs]at h;cases h
     | tbl _ _=>simp only[hs]at h;cases h
 | _=>cases h
noncomputable def ktn(t c:String):Option Bool:=if (Value.type t == Value.type c)=aC then O aC else if PySem.W.kitMeta c=aC then (fastBuiltinMro t).map (·.contains (.type c)) else aB
def KA{K:YZ}(a:TyN)(t:TyN)(b:t ≠ .none):PySem.W.kitOne K (.type a.nm) (.type t.nm)=O (Iq a t):=by have e:PySem.W.kitOne K (.type a.nm) (.type t.nm)=ktn a.nm t.nm:=J;rw[e];cases a<;>cases t<;>first | exact absurd J b | decide +kernel
theorem KB{K:YZ}(a:TyN):∀(c:U TyN),TyN.none∉c->PySem.W.kitAny K (.type a.nm) ((c.map TyN.nm).map Value.type)=O (c.any (Iq a))
 | [],_=>rfl
 | b::c,h=>by
   rw[ZE,ZE,PySem.W.kitAny,KA a b (λz=>h (by rw[z];simp)),Zn];cases Iq a b with
   | true=>rfl
   | false=>exact KB a c (λz=>h (Yh _ z))
theorem OF:∀{a:U SV} {d:U TyN} {c:U V},MD a=O d->RlAll K as H c a->c=(d.map TyN.nm).map V.ty
 | [],_,_,e,r=>by cases e;exact rla_nil.mp r
 | .ty b::a,_,_,e,r=>by
   obtain⟨v,c,rfl,f,g⟩:=rla_cons.mp r;unfold MD at e;cases h:MD a with
   | none=>rw[h]at e;cases e
   | some i=>
     rw[h]at e;cases e;rw[rl_ty.mp f,OF h g];rfl
 | .non::_,_,_,e,_=>by cases e
 | .bl _::_,_,_,e,_=>by cases e
 | .str _::_,_,_,e,_=>by cases e
 | .tup _::_,_,_,e,_=>by cases e
 | .loc _::_,_,_,e,_=>by cases e
 | .ro _::_,_,_,e,_=>by cases e
 | .int _::_,_,_,e,_=>by cases e
theorem Fi{n:Nat}(f:∀{x:SV} {d:PyData} {v:V},Ab n S x=O d->Rl K as H v x->Dat H v d):∀{a:U SV} {b:U PyData} {c:U V},a.mapM (Ab n S)=O b->RlAll K as H c a->DatAll H c b
 | [],_,_,e,r=>by
   rw[A27]at e;cases e;rw[rla_nil.mp r];unfold DatAll;trivial
 | x::a,_,_,e,r=>by
   obtain⟨v,c,rfl,g,h⟩:=rla_cons.mp r;rw[A0B]at e;cases h1:Ab n S x with
   | none=>rw[h1]at e;cases e
   | some d=>
     rw[h1]at e;cases h2:a.mapM (Ab n S) with
     | none=>rw[h2]at e;cases e
     | some b=>
       rw[h2]at e;cases e;unfold DatAll;exact⟨f h1 g,Fi f h2 h⟩
def VF(l:Ok K as H S):∀(n:Nat) {x:SV} {d:PyData} {v:V},Ab n S x=O d->Rl K as H v x->Dat H v d:=by
 intro n
 induction n with
 | zero=>
   intro x d v e r;cases x with
   | non=>cases e;rw[rl_non.mp r];unfold Dat;rfl
   | bl b=>cases e;rw[rl_bl.mp r];unfold Dat;rfl
   | int b=>cases e;rw[rl_int.mp r];unfold Dat;rfl
   | str b=>cases e;rw[rl_str.mp r];unfold Dat;rfl
   | _=>cases e
 | succ n i=>
   intro x d v e r;cases x with
   | non=>cases e;rw[rl_non.mp r];unfold Dat;rfl
   | bl b=>cases e;rw[rl_bl.mp r];unfold Dat;rfl
   | int b=>cases e;rw[rl_int.mp r];unfold Dat;rfl
   | str b=>cases e;rw[rl_str.mp r];unfold Dat;rfl
   | tup c=>
     change (c.mapM (Ab n S)).map PyData.tuple=O d at e;cases h:c.mapM (Ab n S) with
     | none=>rw[h]at e;cases e
     | some m=>
       rw[h]at e;cases e;obtain⟨p,f,rfl,q,g⟩:=rl_tup.mp r;unfold Dat;exact⟨p,f,J,q,Fi i h g⟩
   | loc k=>
     replace e:(match S[k]? with | some (.lst c)=>(c.mapM (Ab n S)).map PyData.list | _=>aB)=O d:=e;cases hs:S[k]? with
     | none=>rw[hs]at e;cases e
     | some o=>
       cases o with
       | lst j=>
         rw[hs]at e;change (j.mapM (Ab n S)).map PyData.list=O d at e;cases h:j.mapM (Ab n S) with
         | none=>rw[h]at e;cases e
         | some m=>
           rw[h]at e;cases e;obtain⟨a,f,rfl,_,s,g⟩:=p0 l r hs;unfold Dat;exact⟨a,f,J,s,Fi i h g⟩
       | iset _=>rw[hs]at e;cases e
       | dtl _=>rw[hs]at e;cases e
       | dtf _ _ _=>rw[hs]at e;cases e
       | dtp _=>rw[hs]at e;cases e
       | dct _=>rw[hs]at e;cases e
       | dcf _ _ _=>rw[hs]at e;cases e
       | tbl _ _=>rw[hs]at e;cases e
   | _=>cases e
end
noncomputable def rBi(K:YZ):BI->U V->Hp->VK->Prop
 | .len=>λxs H Q=>∃ p ys,xs=[.ref p]/\(SqL K H p ys\/SqT K H p ys)/\Q (.int ys.length) H
 | .abs=>λxs H Q=>∃ i,xs=[.int i]/\Q (.int (if i<0 then -i else i)) H
 | .min=>λxs H Q=>∃ i j,xs=[.int i,.int j]/\Q (.int (if j<i then j else i)) H
 | .max=>λxs H Q=>∃ i j,xs=[.int i,.int j]/\Q (.int (if j>i then j else i)) H
 | .int=>λxs H Q=>(∃ i,xs=[.int i]/\Q (.int i) H)\/∃ k,xs=[.bl k]/\Q (.int (if k then 1 else 0)) H
 | .list=>λxs H Q=>∃ p ys,xs=[.ref p]/\(SqL K H p ys\/SqT K H p ys)/\∀ l,H l=aB->Q (.ref l) (upd H l (.lst ys))
 | .tuple=>λxs H Q=>∃ p ys,xs=[.ref p]/\((SqL K H p ys/\∀ l,H l=aB->Q (.ref l) (upd H l (.tup ys)))\/(SqT K H p ys/\Q (.ref p) H))
 | .all=>λ_ _ _=>False
 | .any=>λxs H Q=>∃(a:Y) (c:U Bool),xs=[.ref a]/\SqL K H a (c.map V.bl)/\Q (.bl (c.any id)) H
 | .sorted=>λ_ _ _=>False
 | .isi=>λxs H Q=>(∃ x T t b,xs=[x,.ty T]/\TyOf K H x t/\PySem.W.kitOne K t (.type T)=O b/\Q (.bl b) H)\/(∃(x:V) (p:Y) (e:U String) (t:F) (b:Bool),xs=[x,.ref p]/\H p=O (.tup (e.map V.ty))/\TyOf K H x t/\PySem.W.kitAny K t (e.map Value.type)=O b/\Q (.bl b) H)
 | .str=>λxs H Q=>∃ x d,xs=[x]/\Dat H x d/\Fit d/\Q (.str (Ih d)) H
 | .repr=>λ_ _ _=>False
def VG{K:YZ}:∀{b:BI},X6 K (sBi b) (rBi K b)
 | .len=>λm H S n l Q c r h=>by
   replace h:=Dk h;obtain⟨x,rfl,C,f,g⟩:=h;obtain⟨v,rfl,e⟩:=Dl r;obtain⟨a,q,rfl,s,o⟩:=Fd c e f;exact⟨a,q,J,s,by rw[o.length];exact g.here c (rl_int.mpr J)⟩
 | .abs=>λm H S n l Q c r h=>by
   replace h:=Dk h;obtain⟨x,rfl,h⟩:=h;replace h:=Cc h;obtain⟨i,rfl,h⟩:=h;obtain⟨v,rfl,e⟩:=Dl r;exact⟨_,by rw[rl_int.mp e],Post.here h c (rl_int.mpr J)⟩
 | .min=>λm H S n l Q c r h=>by
   replace h:=OC h;obtain⟨x,y,rfl,h⟩:=h;replace h:=Cc h;obtain⟨i,rfl,h⟩:=h;replace h:=Cc h;obtain⟨j,rfl,h⟩:=h;obtain⟨v,u,rfl,e,w⟩:=Re r;exact⟨_,_,by rw[rl_int.mp e,rl_int.mp w],Post.here h c (rl_int.mpr J)⟩
 | .max=>λm H S n l Q c r h=>by
   replace h:=OC h;obtain⟨x,y,rfl,h⟩:=h;replace h:=Cc h;obtain⟨i,rfl,h⟩:=h;replace h:=Cc h;obtain⟨j,rfl,h⟩:=h;obtain⟨v,u,rfl,e,w⟩:=Re r;exact⟨_,_,by rw[rl_int.mp e,rl_int.mp w],Post.here h c (rl_int.mpr J)⟩
 | .int=>λm H S n l Q c r h=>by
   replace h:=Dk h;obtain⟨x,rfl,h⟩:=h;obtain⟨v,rfl,e⟩:=Dl r;replace h:=Tn h;rcases h with⟨k,rfl,h⟩ | ⟨b,rfl,h⟩
   ·exact .inl ⟨_,by rw[rl_int.mp e],Post.here h c (rl_int.mpr J)⟩
   ·exact .inr ⟨_,by rw[rl_bl.mp e],Post.here h c (rl_int.mpr J)⟩
 | .list=>λm H S n l Q c r h=>by
   replace h:=Dk h;obtain⟨x,rfl,C,f,g⟩:=h;obtain⟨v,rfl,e⟩:=Dl r;obtain⟨a,q,rfl,s,o⟩:=Fd c e f;exact⟨a,q,J,s,AT c o g⟩
 | .tuple=>λm H S n l Q c r h=>by
   replace h:=Dk h;obtain⟨x,rfl,C,f,g⟩:=h;obtain⟨v,rfl,e⟩:=Dl r;obtain⟨p,q,rfl,z⟩:=OE c e f g;exact⟨p,q,J,z⟩
 | .all=>λ_ _ _ _ _ _ _ _ h=>False.elim h
 | .any=>λm H S n l Q c r h=>by
   replace h:=Dk h;obtain⟨x,rfl,C,D,A,f,g,B⟩:=h;obtain⟨v,rfl,e⟩:=Dl r;obtain⟨a,q,rfl,s,o⟩:=Ad c e A f;rw[OD g o]at s;exact⟨a,D,J,s,B.here c (rl_bl.mpr J)⟩
 | .sorted=>λ_ _ _ _ _ _ _ _ h=>False.elim h
 | .isi=>λm H S n l Q c r h=>by
   replace h:=OC h;obtain⟨x,y,rfl,h⟩:=h;obtain⟨v,u,rfl,e,w⟩:=Re r;replace h:=To h;rcases h with⟨t,a,rfl,A,f,g⟩ | ⟨G,a,D,rfl,A,f,g,B⟩
   ·rw[rl_ty.mp w];exact .inl ⟨v,_,_,_,J,Tp c e f,KA _ _ A,g.here c (rl_bl.mpr J)⟩
   ·obtain⟨p,l,rfl,E,o⟩:=rl_tup.mp w;rw[OF g o]at E;exact .inr ⟨v,p,_,_,_,J,E,Tp c e f,KB _ _ A,B.here c (rl_bl.mpr J)⟩
 | .str=>λm H S n l Q c r h=>by
   replace h:=Dk h;obtain⟨x,rfl,d,f,g,B⟩:=h;obtain⟨v,rfl,e⟩:=Dl r;exact⟨v,d,J,VF c 20 f e,g,B.here c (rl_str.mpr J)⟩
 | .repr=>λ_ _ _ _ _ _ _ _ h=>False.elim h
theorem Cd{K:YZ}{c:U Y}{H:Hp}:∀{b:U Int} {a:U V},RlAll K c H a (b.map SV.int)->a=b.map V.int
 | [],a,h=>rla_nil.mp h
 | n::b,a,h=>by
   obtain⟨v,r,rfl,d,e⟩:=rla_cons.mp h;rw[rl_int.mp d,Cd e];rfl
inductive MT where
 | append | extend | insert | remove
 deriving DecidableEq
def MT.name:MT->Str
 | .append=>"append" | .extend=>"extend" | .insert=>"insert" | .remove=>"remove"
def oL(f:Nat->Sto->QE->Prop):S1:=λx S Q=>match x with | .loc k=>f k S Q | _=>False
def EZ{f:Nat->Sto->QE->Prop}{x:SV}{S:Sto}{Q:QE}(h:oL f x S Q):∃ k,x = .loc k/\f k S Q:=match x,h with | .loc k,h=>⟨k,rfl,h⟩
def Rg(x:SV):S1:=λy S Q=>oL (λk S Q=>∃ xs,S[k]?=O (.lst xs)/\xs.length<big/\Q .non (S.set k (.lst (xs++[y])))) x S Q
def Rh(x:SV):S1:=λy S Q=>oL (λk S Q=>oL (λl S Q=>∃ xs ys,S[k]?=O (.lst xs)/\S[l]?=O (.lst ys)/\xs.length+ys.length<=big/\Q .non (S.set k (.lst (xs++ys)))) y S Q) x S Q
def Ri(x:SV):S2:=λz y S Q=>oL (λk S Q=>oI (λi S Q=>∃ xs,S[k]?=O (.lst xs)/\(0<=i/\i<=xs.length)/\xs.length<big/\Q .non (S.set k (.lst (xs.take i.toNat++y::xs.drop i.toNat)))) z S Q) x S Q
def Rj(x:SV):S1:=λy S Q=>oL (λk S Q=>oI (λn S Q=>∃(a:U Int) (j:Nat),S[k]?=O (.lst (a.map SV.int))/\a[j]?=O n/\(∀ m,m<j->a[m]?≠O n)/\Q .non (S.set k (.lst ((a.eraseIdx j).map SV.int)))) y S Q) x S Q
def sMt:MT->SV->Sn
 | .append,x=>a1 (Rg x)
 | .extend,x=>a1 (Rh x)
 | .insert,x=>a2 (Ri x)
 | .remove,x=>a1 (Rj x)
def Fj:∀{m:MT} {x:SV},MonoN (sMt m x)
 | .append,x=>AR λy S P b i h=>by
   replace h:=EZ h;obtain⟨k,rfl,a,c,d,e⟩:=h;exact⟨a,c,d,i _ _ e⟩
 | .extend,x=>AR λy S P b i h=>by
   replace h:=EZ h;obtain⟨k,rfl,h⟩:=h;replace h:=EZ h;obtain⟨l,rfl,a,c,d,e,f,g⟩:=h;exact⟨a,c,d,e,f,i _ _ g⟩
 | .insert,x=>DR λz y S P b i h=>by
   replace h:=EZ h;obtain⟨k,rfl,h⟩:=h;replace h:=Cc h;obtain⟨j,rfl,a,c,d,e,f⟩:=h;exact⟨a,c,d,e,i _ _ f⟩
 | .remove,x=>AR λy S P b i h=>by
   replace h:=EZ h;obtain⟨k,rfl,h⟩:=h;replace h:=Cc h;obtain⟨n,rfl,a,c,d,e,f,g⟩:=h;exact⟨a,c,d,e,f,i _ _ g⟩
def rMt:MT->V->U V->Hp->VK->Prop
 | .append=>Jv
 | .extend=>Jw
 | .insert=>Jx
 | .remove=>K9
section
variable{K:YZ}{as:U Y}{H:Hp}{S:Sto}
theorem RlAll.erase:∀{b:U SV} {c:U V} (n:Nat),RlAll K as H c b->RlAll K as H (c.eraseIdx n) (b.eraseIdx n)
 | [],_,n,h=>by rw[rla_nil.mp h];exact .nil
 | x::b,_,0,h=>by
   obtain⟨v,r,rfl,a,t⟩:=rla_cons.mp h;exact t
 | x::b,_,n+1,h=>by
   obtain⟨v,r,rfl,a,t⟩:=rla_cons.mp h;exact .cons a (t.erase n)
def BM{Q:VK}{k:Nat}{a:Y}{g c:U SV}{d:U V}{x:SV}{v:V}(i:Ok K as H S)(e:S[k]?=O (.lst g))(f:as[k]?=O a)(r:RlAll K as H d c)(h:Post K as H Q x (S.set k (.lst c)))(j:Rl K as H v x):Q v (upd H a (.lst d)):=by obtain⟨b,l⟩:=i.write e f r;exact h as _ v (Go.write (Yb f)) b (Rl.mono (Z3 _) l x v j)
def OG:∀{m:MT} {Q:VK} {x:SV} {v:V} {t:U SV} {A:U V} (c:Ok K as H S) (f:Rl K as H v x) (r:RlAll K as H A t) (h:sMt m x t S (Post K as H Q)),rMt m v A H Q
 | .append,Q,x,v,t,A,c,f,r,h=>by
   replace h:=Dk h;obtain⟨y,rfl,h⟩:=h;replace h:=EZ h;obtain⟨k,rfl,E,d,g,p⟩:=h;obtain⟨a,B,rfl,q,o,e⟩:=p0 c f d;obtain⟨u,rfl,s⟩:=Dl r;exact⟨a,B,u,J,J,o,by rw[e.length];exact Di g,BM c d q (e.append (.cons s .nil)) p (rl_non.mpr J)⟩
 | .extend,Q,x,v,t,A,c,f,r,h=>by
   replace h:=Dk h;obtain⟨y,rfl,h⟩:=h;replace h:=EZ h;obtain⟨k,rfl,h⟩:=h;replace h:=EZ h;obtain⟨l,rfl,E,N,d,g,p,C⟩:=h;obtain⟨a,B,rfl,q,o,e⟩:=p0 c f d;obtain⟨u,rfl,s⟩:=Dl r;obtain⟨b,I,rfl,P,L,G⟩:=p0 c s g;exact⟨a,b,B,I,J,J,o,L,by rw[e.length,G.length];exact AS p,BM c d q (e.append G) C (rl_non.mpr J)⟩
 | .insert,Q,x,v,t,A,c,f,r,h=>by
   replace h:=OC h;obtain⟨z,y,rfl,h⟩:=h;replace h:=EZ h;obtain⟨k,rfl,h⟩:=h;replace h:=Cc h;obtain⟨i,rfl,E,d,g,p,C⟩:=h;obtain⟨a,B,rfl,q,o,e⟩:=p0 c f d;obtain⟨u,w,rfl,s,D⟩:=Re r;rw[rl_int.mp s];exact⟨a,B,i,w,J,J,o,g.1,by rw[e.length];exact g.2,by rw[e.length];exact Di p,BM c d q (e.ins D _) C (rl_non.mpr J)⟩
 | .remove,Q,x,v,t,A,c,f,r,h=>by
   replace h:=Dk h;obtain⟨y,rfl,h⟩:=h;replace h:=EZ h;obtain⟨k,rfl,h⟩:=h;replace h:=Cc h;obtain⟨n,rfl,M,j,d,g,p,C⟩:=h;obtain⟨a,B,rfl,q,o,e⟩:=p0 c f d;obtain⟨u,rfl,s⟩:=Dl r;rw[Cd e]at o;exact⟨a,M,n,j,J,by rw[rl_int.mp s],o,g,p,BM c d q RlAll.ints C (rl_non.mpr J)⟩
end
mutual
inductive Tg where
 | nm (i:Nat) | tup (ts:Tgs)
inductive Tgs where
 | nil | cons (t:Tg) (ts:Tgs)
end
mutual
inductive Ex where
 | var (i:Nat) | c (x:SV) | op (o:A3h) (a b:Ex) | cmp (o:CmpOp) (a b:Ex) | chn (o p:CmpOp) (a b c:Ex)
 | and (a b:Ex) | or (a b:Ex) | not (a:Ex) | ife (t a b:Ex) | tup (es:Exs) | lst (es:Exs) | ix (a b:Ex) | slc (a:Ex) (lo hi:Eo)
 | call (f:Nat) (es:Exs) | bi (b:BI) (es:Exs) | mt (m:MT) (a:Ex) (es:Exs) | comp (own cn:List Str) (js:List Nat) (g:Tg) (it:Itb) (t:Eo) (e:Ex) | srtsc2 (own cn:List Str) (js:List Nat) (g:Tg) (it:Itb) (t:Eo) (g2:Tg) (it2:Itb) (t2:Eo) (e:Ex) | comp2 (own cn:List Str) (js:List Nat) (g:Tg) (it:Itb) (t:Eo) (g2:Tg) (it2:Itb) (t2:Eo) (e:Ex) | tyc (t:TyN) | lrng1 (a:Ex) | lrng2 (a b:Ex) | max1 (a:Ex) | maxd (a d:Ex) | dnewl | setdl (d e v:Ex) | dgetl (a b:Ex) | srtu (a:Ex) | set0 | sadd (a e:Ex) | dctl (a:Ex) | dzip (a b:Ex) | srtsc (own cn:List Str) (js:List Nat) (g:Tg) (it:Itb) (t:Eo) (e:Ex) | dget (a b:Ex) | no
inductive Exs where
 | nil | cons (e:Ex) (es:Exs)
inductive Eo where
 | no | yes (e:Ex)
inductive Itb where
 | seq (e:Ex) | rng1 (a:Ex) | rng2 (a b:Ex) | enum (e:Ex) | dtk (e:Ex) | zipX (a b:Ex)
end
noncomputable abbrev vA(a:Ex):Exs:=.cons a .nil
abbrev vB(a b:Ex):Exs:=.cons a (vA b)
abbrev vC(a b c:Ex):Exs:=.cons a (vB b c)
abbrev vD(a b c d:Ex):Exs:=.cons a (vC b c d)
abbrev vF(a b c d e:Ex):Exs:=.cons a (vD b c d e)
abbrev vE(a b c d e f:Ex):Exs:=.cons a (vF b c d e f)
abbrev vG:Ex:=.var 0
abbrev vH:Ex:=.var 1
abbrev vI:Ex:=.var 2
abbrev vJ:Ex:=.c (.int 0)
abbrev vK:Ex:=.c (.int 1)
abbrev vL:Ex:=.var 3
abbrev vM:Ex:=.var 4
abbrev vN:Ex:=.var 5
abbrev vO:Ex:=.var 6
abbrev vP:Ex:=.c (.int 3)
abbrev vQ:Ex:=.var 7
abbrev vR:Ex:=.var 8
abbrev vS:Ex:=.c (.bl aD)
abbrev vT:Ex:=.c (.int 2)
abbrev vU:Ex:=.c .non
abbrev vV:Ex:=.c (.int 4)
abbrev vW:Ex:=.c (.int 5)
abbrev vX:Ex:=.c (.int 2147483647)
abbrev vY:Ex:=.c (.int 8)
abbrev vZ:Ex:=.c (.int 7)
abbrev kB:Ex:=.c (.int 48271)
abbrev kC:Ex:=.ix vG vK
abbrev kD:Ex:=.lst .nil
abbrev kE:Ex:=.ix vG vJ
abbrev kF:Ex:=.op .Mult (.bi .abs (vA vI)) (.bi .int (vA (.cmp .GtE (.bi .abs (vA vI)) (.op .Pow (.c (.int 10)) (.c (.int 18))))))
abbrev kG:Ex:=.lst (vB vL (.op .Mod (.op .Mult (.op .Mod (.op .Add (.op .Add vI (.op .Mult (.c (.int 7919)) vH)) vK) vX) kB) vX))
abbrev kH:Ex:=.mt .extend vM (vA (.comp ["_law_j"] ["_law_k"] [7] (.nm 0) (.rng1 vQ) .no (.tup (vB vG vH))))
abbrev kI:Ex:=.bi .len (vA kC)
abbrev kJ:Ex:=.ix vH vJ
abbrev kK:Ex:=.lst (vA (.tup (vB vQ (.op .Mod (.op .Add vQ vK) vP))))
abbrev kM:Ex:=.ix vI vJ
abbrev kN:Ex:=.ix (.lst (vB vH vI)) (.bi .int (vA (.cmp .Eq kJ vJ)))
abbrev kO:Ex:=.cmp .NotIn vG vH
abbrev kP:Ex:=.bi .len (vA vH)
inductive Stm where
 | asg (t:Tg) (e:Ex) | par (i j:Nat) (a b:Ex) | put (o i e:Ex) | augS (o i e:Ex) | dput (o i e:Ex) | expr (e:Ex) | iff (t:Ex) (a b:List Stm) | loop (g:Tg) (it:Itb) (b:List Stm) | whl (t:Ex) (b:List Stm)
 | ret (e:Ex) | no
def sOp:A3h->S2
 | .Add=>V6
 | .Sub=>Cb λi j => .int (i - j)
 | .Mult=>V7
 | .FloorDiv=>Im WV λi j => .int (i / j)
 | .Mod=>Im (λ_ j=>0<j) λi j => .int (i % j)
 | .Pow=>Im WW λi j => .int (i ^ j.toNat)
 | _=>λ_ _ _ _=>False
def BN:CmpOp->S2
 | .Eq=>sEq
 | .NotEq=>sNe
 | .Lt=>Cb λi j => .bl (decide (i<j))
 | .LtE=>Cb λi j => .bl (decide (i<=j))
 | .Gt=>Cb λi j => .bl (decide (j<i))
 | .GtE=>Cb λi j => .bl (decide (j<=i))
 | .In=>sIn aD
 | .NotIn=>sIn aC
 | .Is=>Nz aD
 | .IsNot=>Nz aC
def OH:SV->Sto->Option Bool
 | .bl b,_=>O b
 | .tup xs,_=>O (!xs.isEmpty)
 | .loc k,S=>match S[k]? with | some (.lst xs)=>O (!xs.isEmpty) | _=>aB
 | _,_=>aB
def VH(w:WE):WT:=λa S Q=>w a S λx S'=>∃ b,OH x S'=O b/\Q b S'
def OI(a b:WE):WE:=λd S Q=>a d S λx S1=>∃ c,x = .bl c/\if c=aC then b d S1 Q else Q (.bl aD) S1
def wOr(a b:WE):WE:=λd S Q=>a d S λx S1=>∃ c,x = .bl c/\if c=aC then Q (.bl aC) S1 else b d S1 Q
def Rk(a:WE):WE:=λb S Q=>a b S λx S1=>∃ c,x = .bl c/\Q (.bl (!c)) S1
def Dm(a b:WT):WT:=λd S Q=>a d S λc S1=>if c=aC then b d S1 Q else Q aD S1
def Ir(a b:WT):WT:=λd S Q=>a d S λc S1=>if c=aC then Q aC S1 else b d S1 Q
def KC(a:WT):WT:=λb S Q=>a b S λc S1=>Q (!c) S1
def Rm(t:WT)(a b:WE):WE:=λd S Q=>t d S λc S1=>if c=aC then a d S1 Q else b d S1 Q
def OJ(s s':S2)(a b c:WE):WE:=λρ S Q=>a ρ S λx S1=>b ρ S1 λy S2=>s x y S2 λz S3=>∃ k,z = .bl k/\if k=aC then c ρ S3 λu S4=>s' y u S4 Q else Q (.bl aD) S3
abbrev WO:=EnvS->Sto->(Option Int->Sto->Prop)->Prop
def VI:WO:=λ_ S Q=>Q aB S
def OK(w:WE):WO:=λa S Q=>w a S λx S1=>∃ i,x = .int i/\Q (O i) S1
def Fk(xs:U SV)(a b:Option Int):U SV:=(xs.drop (HT.sIx xs.length 0 a)).take (HT.sIx xs.length xs.length b - HT.sIx xs.length 0 a)
def OL:SV->Option Int->Option Int->Sto->QE->Prop
 | .loc k,a,b,S,Q=>∃ xs,S[k]?=O (.lst xs)/\Q (.loc S.length) (S++[.lst (Fk xs a b)])
 | .tup xs,a,b,S,Q=>Q (.tup (Fk xs a b)) S
 | _,_,_,_,_=>False
def VJ(a:WE)(c d:WO):WE:=λb S Q=>a b S λx S1=>c b S1 λl S2=>d b S2 λh e=>OL x l h e Q
abbrev WI:=EnvS->Sto->((Sto->Prop)->U SV->Sto->Prop)->Prop
def Ay:SV->Sto->Sto->Prop
 | .loc k,S,S'=>S'[k]?=S[k]?
 | _,_,_=>True
def Tq(w:WE):WI:=λa S R=>w a S λx S1=>∃ xs,Ai x S1=O xs/\R (Ay x S1) xs S1
def Av(a b:Int):U SV:=(Ye (b - a).toNat).map λ(i:Nat) => .int (a+i)
def OM(w:WE):WI:=λa S R=>w a S λx S1=>∃ j,x = .int j/\(-(2 ^ 62)<=j/\j<2 ^ 62)/\R (λ_=>True) (Av 0 j) S1
def ON(w u:WE):WI:=λa S R=>w a S λx S1=>u a S1 λy S2=>∃ i j,x = .int i/\y = .int j/\(-(2 ^ 62)<=i/\i<2 ^ 62 /\ -(2 ^ 62)<=j/\j<2 ^ 62)/\R (λ_=>True) (Av i j) S2
def Bm(xs:U SV):U SV:=(Ye xs.length).zipWith (λ(i:Nat) x => .tup [.int i,x]) xs
def OO(w:WE):WI:=λa S R=>w a S λx S1=>∃ xs,Ai x S1=O xs/\R (Ay x S1) (Bm xs) S1
def Dn(xs ys:U SV):U SV:=xs.zipWith (λx y => .tup [x,y]) ys
def Iu(a:WE):WE:=λb S Q=>a b S λx S1=>∃ j,x = .int j/\(-(2 ^ 62)<=j/\j<=100000)/\Q (.loc S1.length) (S1++[.lst (Av 0 j)])
def Iv(a b:WE):WE:=λc S Q=>a c S λx S1=>b c S1 λy S2=>∃ i j,x = .int i/\y = .int j/\(0<=i/\i<=100000 /\ -(2 ^ 62)<=j/\j<=100000)/\Q (.loc S2.length) (S2++[.lst (Av i j)])
def OP(a:WE):WE:=λc S Q=>a c S λx S1=>∃ k b,x = .loc k/\S1[k]?=O (.lst (b.map SV.int))/\0<b.length/\∀ m,Grt b m->Q (.int m) S1
def Bn(kvs:U (U Int×SV))(k:U Int):Option SV:=(kvs.find? λp=>decide (p.1=k)).map (·.2)
def Iw(d e v:WE):WE:=λa S Q=>d a S λx S1=>∃ k b,x = .loc k/\S1[k]?=O (.dtl b)/\e a S1 λy S2=>v a S2 λz c=>∃(ks:U Int) (kvs:U (U Int×SV)),y = .tup (ks.map SV.int)/\c[k]?=O (.dtl kvs)/\kvs.length<big/\
 (∀ n,Bn kvs ks=O n->Q n c)/\(Bn kvs ks=aB->Q z (c.set k (.dtl (kvs++[(ks,z)]))))
def Tr(kvs:U (U Int×SV))(k:U Int)(x:SV):U (U Int×SV):=if (kvs.any λp=>decide (p.1=k))=aC then kvs.map (λp=>if p.1=k then (p.1,x) else p) else kvs++[(k,x)]
def Fl:S2:=λx y S Q=>∃(k:Nat) (kvs:U (U Int×SV)) (ks:U Int) (v:SV),x = .loc k/\(S[k]?=O (.dtl kvs)\/∃ o a,S[k]?=O (.dtf o a kvs))/\y = .tup (ks.map SV.int)/\Bn kvs ks=O v/\Q v S
def Tt(w:WE):WI:=λb S R=>w b S λx S1=>∃ k kvs,x = .loc k/\S1[k]?=O (.dtl kvs)/\∀ o a,R (λS'=>S'[k]?=O (.dtf o a kvs)) (kvs.map λp => .tup (p.1.map SV.int)) (S1.set k (.dtf o a kvs))
def OQ(a:WE):WE:=λb S Q=>a b S λx S1=>∃(k:Nat) (ls:U Nat) (f:Nat->Int) (g:Nat->U SV),x = .loc k/\S1[k]?=O (.lst (ls.map SV.loc))/\(∀(i:Nat) l,ls[i]?=O l->S1[l]?=O (.lst (.int (f i)::g i)))/\(∀ i j,i<j->j<ls.length->f i<f j)/\Q (.loc S1.length) (S1++[.lst (ls.map SV.loc)])
def OR(a d:WE):WE:=λc S Q=>a c S λx S1=>d c S1 λy S2=>∃ k b i,x = .loc k/\y = .int i/\S2[k]?=O (.lst (b.map SV.int))/\(b=[]->Q (.int i) S2)/\∀ m,Grt b m->Q (.int m) S2
def OS:WE:=λ_ S Q=>Q (.loc S.length) (S++[.iset []])
def Ea(i:Int)(ms:U Int):U Int:=if i∈ms then ms else i::ms
def OT(a e:WE):WE:=λc S Q=>a c S λx S1=>∃ k ms,x = .loc k/\S1[k]?=O (.iset ms)/\e c S1 λy S2=>∃ i b,y = .int i/\S2[k]?=O (.iset b)/\b.length<=900/\Q .non (S2.set k (.iset (Ea i b)))
def DK(kvs:U (Int×SV))(i:Int):Option SV:=(kvs.find? λp=>decide (p.1=i)).map (·.2)
def Ak(kvs:U (Int×SV))(i:Int)(x:SV):U (Int×SV):=if (kvs.any λp=>decide (p.1=i))=aC then kvs.map (λp=>if p.1=i then (p.1,x) else p) else kvs++[(i,x)]
def ME:SV->Sto->Option (U (Int×SV))
 | .loc k,S=>match S[k]? with | some (.dct kvs)=>O kvs | some (.dcf _ _ kvs)=>O kvs | _=>aB
 | _,_=>aB
def KD:S2:=λx y S Q=>∃ kvs i v,ME x S=O kvs/\y = .int i/\DK kvs i=O v/\Q v S
def Do(kvs:U (Int×SV)):U (Int×SV):=kvs.foldl (λa p=>Ak a p.1 p.2) []
def OU(a:WE):WE:=λb S Q=>a b S λx S1=>∃ k kvs,x = .loc k/\S1[k]?=O (.lst (kvs.map λ(p:Int×SV)=>SV.tup [.int p.1,p.2]))/\kvs.length<=900/\Q (.loc S1.length) (S1++[.dct (Do kvs)])
def OV(a b:WE):WE:=λd S Q=>a d S λx S1=>b d S1 λy S2=>∃(k l:Nat) (c:U Int) (ys:U SV),x = .loc k/\y = .loc l/\S2[k]?=O (.lst (c.map SV.int))/\S2[l]?=O (.lst ys)/\c.length<=ys.length/\c.length<=900/\Q (.loc S2.length) (S2++[.dct (Do (c.zip ys))])
def OW(a b:WE):WI:=λc S R=>a c S λx S1=>b c S1 λy S2=>∃ k xs ys,x = .loc k/\S2[k]?=O (.lst xs)/\Ai y S2=O ys/\xs.length=ys.length/\R (λS'=>Ay x S2 S'/\Ay y S2 S') (Dn xs ys) S2
def Ix:WE:=λ_ S Q=>Q (.loc S.length) (S++[.dtl []])
def KG:SV->SV->SV->Sto->(Sto->Prop)->Prop:=λx y v S Q=>∃ k i kvs,x = .loc k/\y = .int i/\(S[k]?=O (.dct kvs)\/∃ o ks,S[k]?=O (.dcf o ks kvs))/\kvs.length<big/\Q (S.set k (.dct (Ak kvs i v)))
def wMt(m:MT)(a:WE)(b:WA):WE:=λc S Q=>a c S λx S1=>(∃ k xs,x = .loc k/\S1[k]?=O (.lst xs))/\b c S1 λxs S2=>sMt m x xs S2 Q
mutual
noncomputable def wTg:Tg->SV->EnvS->(EnvS->Prop)->Prop
 | .nm i,x,a,Q=>Q (a.set i (O x))
 | .tup ts,.tup xs,a,Q=>Aw ts xs a Q
 | .tup _,_,_,_=>False
noncomputable def Aw:Tgs->U SV->EnvS->(EnvS->Prop)->Prop
 | .nil,[],a,Q=>Q a
 | .cons t ts,x::xs,a,Q=>wTg t x a λb=>Aw ts xs b Q
 | _,_,_,_=>False
end
def Eb(k:Nat)(js:U Nat)(a:EnvS):EnvS:=Yv k aB++js.map λj=>(a[j]?).join
abbrev WM(a:Type):=EnvS->a->Sto->(a->Sto->Prop)->Prop
noncomputable def wTG{e:Type}(c:Sto->Prop)(g:Tg)(t:WT)(f:WM e)(h:EnvS)(Q:e->Sto->Prop):U SV->e->Sto->Prop
 | [],a,S=>c S/\Q a S
 | x::xs,a,S=>c S/\wTg g x h λd=>t d S λb S1=>if b=aC then f d a S1 λi S2=>wTG c g t f h Q xs i S2 else wTG c g t f h Q xs a S1
noncomputable def wTI{e:Type}(c:Sto->Prop)(g:Tg)(t:WT)(f:WM e)(Q:e->Sto->Prop):U SV->EnvS->e->Sto->Prop
 | [],_,a,S=>c S/\Q a S
 | x::xs,h,a,S=>c S/\wTg g x h λd=>t d S λb S1=>if b=aC then f d a S1 λi S2=>wTI c g t f Q xs d i S2 else wTI c g t f Q xs d a S1
abbrev emL(e:WE):WM (U SV):=λa ys S N=>e a S λy S2=>ys.length<big/\N (ys++[y]) S2
abbrev emS(e:WE):WM (U Int):=λb a S N=>e b S λy S2=>∃ i,y = .int i/\a.length<900/\N (a++[i]) S2
noncomputable abbrev em2{c:Type}(e:WI)(f:Tg)(g:WT)(h:WM c):WM c:=λd a S N=>e d S λb xs S2=>wTI b f g h N xs d a S2
noncomputable abbrev wCG{b:Type}(k:Nat)(js:U Nat)(g:Tg)(i:WI)(t:WT)(d:WM b)(b0:b)(fin:QE->b->Sto->Prop):WE:=λc S Q=>i c S λa xs S1=>wTG a g t d (Eb k js c) (fin Q) xs b0 S1
abbrev Rn{a:Type}(o:a->SO):QE->a->Sto->Prop:=λQ b S=>Q (.loc S.length) (S++[o b])
abbrev Gq:QE->U Int->Sto->Prop:=λQ a S=>(BB a).length<64/\Q (.loc S.length) (S++[.lst ((srt (BB a)).map SV.int)])
abbrev OX:QE->U Int->Sto->Prop:=λQ a S=>a.length<64/\Q (.loc S.length) (S++[.lst ((srt (BB a)).map SV.int)])
noncomputable abbrev VL(a:Sto->Prop)(g:Tg)(t:WT)(e:WE)(b:EnvS)(Q:U SV->Sto->Prop):=wTG a g t (emL e) b Q
noncomputable abbrev KH(a:Sto->Prop)(g:Tg)(t:WT)(e:WE)(Q:U SV->Sto->Prop):=wTI a g t (emL e) Q
noncomputable abbrev Ro(a:Sto->Prop)(g:Tg)(t:WT)(b:Tg)(c:WI)(d:WT)(e:WE)(f:EnvS)(Q:U SV->Sto->Prop):=wTG a g t (em2 c b d (emL e)) f Q
noncomputable abbrev Rp(a:Sto->Prop)(g:Tg)(t:WT)(e:WE)(b:EnvS)(Q:U Int->Sto->Prop):=wTG a g t (emS e) b Q
noncomputable abbrev Gr(a:Sto->Prop)(g:Tg)(t:WT)(e:WE)(Q:U Int->Sto->Prop):=wTI a g t (emS e) Q
noncomputable abbrev OY(a:Sto->Prop)(g:Tg)(t:WT)(b:Tg)(c:WI)(d:WT)(e:WE)(f:EnvS)(Q:U Int->Sto->Prop):=wTG a g t (em2 c b d (emS e)) f Q
noncomputable abbrev wKL(k:Nat)(js:U Nat)(g:Tg)(i:WI)(t:WT)(c:WM (U SV)):WE:=λb S Q=>i b S λa xs S1=>wTG a g t c (Eb k js b) (λys S2=>Q (.loc S2.length) (S2++[.lst ys])) xs [] S1
noncomputable abbrev YE(k:Nat)(js:U Nat)(g:Tg)(i:WI)(t:WT)(c:WM (U Int)):WE:=λb S Q=>i b S λa xs S1=>wTG a g t c (Eb k js b) (λys S2=>(BB ys).length<64/\Q (.loc S2.length) (S2++[.lst ((srt (BB ys)).map SV.int)])) xs [] S1
noncomputable abbrev YF(k:Nat)(js:U Nat)(g:Tg)(i:WI)(t:WT)(c:WM (U Int)):WE:=λb S Q=>i b S λa xs S1=>wTG a g t c (Eb k js b) (λys S2=>ys.length<64/\Q (.loc S2.length) (S2++[.lst ((srt (BB ys)).map SV.int)])) xs [] S1
def tt1(w:WE):WE×WT:=(w,VH w)
def wBl(w:WE):WT:=λa S Q=>w a S λx S'=>∃ b,x = .bl b/\Q b S'
def tt2(w:WE):WE×WT:=(w,wBl w)
def XH:WT:=λ_ S Q=>Q aC S
mutual
noncomputable def wEx(Δ:Nat->Sn):Ex->WE×WT
 | .var i=>tt1 (V2 i)
 | .c x=>tt1 (wC x)
 | .op o a b=>tt1 (w2 (sOp o) (wEx Δ a).1 (wEx Δ b).1)
 | .cmp o a b=>tt2 (w2 (BN o) (wEx Δ a).1 (wEx Δ b).1)
 | .chn o p a b c=>tt2 (OJ (BN o) (BN p) (wEx Δ a).1 (wEx Δ b).1 (wEx Δ c).1)
 | .and a b=>(OI (wEx Δ a).1 (wEx Δ b).1,Dm (wEx Δ a).2 (wEx Δ b).2)
 | .or a b=>(wOr (wEx Δ a).1 (wEx Δ b).1,Ir (wEx Δ a).2 (wEx Δ b).2)
 | .not a=>(Rk (wEx Δ a).1,KC (wEx Δ a).2)
 | .ife t a b=>(Rm (wEx Δ t).2 (wEx Δ a).1 (wEx Δ b).1,λ_ _ _=>False)
 | .tup es=>tt1 (wn RP (Gs Δ es))
 | .lst es=>tt1 (wn RQ (Gs Δ es))
 | .ix a b=>tt1 (w2 sIx (wEx Δ a).1 (wEx Δ b).1)
 | .slc a n q=>tt1 (VJ (wEx Δ a).1 (wEo Δ n).1 (wEo Δ q).1)
 | .call f es=>tt1 (wn (Δ f) (Gs Δ es))
 | .bi b es=>tt1 (wn (sBi b) (Gs Δ es))
 | .mt m a es=>tt1 (wMt m (wEx Δ a).1 (Gs Δ es))
 | .comp own _ js g h t e=>tt1 (wKL own.length js g (Ec Δ h) (wEo Δ t).2 (emL (wEx Δ e).1))
 | .srtsc2 own _ js g h t k j l e=>tt1 (YE own.length js g (Ec Δ h) (wEo Δ t).2 (em2 (Ec Δ j) k (wEo Δ l).2 (emS (wEx Δ e).1)))
 | .comp2 own _ js g h t k j l e=>tt1 (wKL own.length js g (Ec Δ h) (wEo Δ t).2 (em2 (Ec Δ j) k (wEo Δ l).2 (emL (wEx Δ e).1)))
 | .tyc t=>tt1 (wC (.ty t))
 | .lrng1 a=>tt1 (Iu (wEx Δ a).1)
 | .lrng2 a b=>tt1 (Iv (wEx Δ a).1 (wEx Δ b).1)
 | .max1 a=>tt1 (OP (wEx Δ a).1)
 | .maxd a d=>tt1 (OR (wEx Δ a).1 (wEx Δ d).1)
 | .set0=>tt1 OS
 | .sadd a e=>tt1 (OT (wEx Δ a).1 (wEx Δ e).1)
 | .dzip a b=>tt1 (OV (wEx Δ a).1 (wEx Δ b).1)
 | .dctl a=>tt1 (OU (wEx Δ a).1)
 | .srtsc own _ js g h t e=>tt1 (YF own.length js g (Ec Δ h) (wEo Δ t).2 (emS (wEx Δ e).1))
 | .dnewl=>tt1 Ix
 | .setdl d e v=>tt1 (Iw (wEx Δ d).1 (wEx Δ e).1 (wEx Δ v).1)
 | .dgetl a b=>tt1 (w2 Fl (wEx Δ a).1 (wEx Δ b).1)
 | .srtu a=>tt1 (OQ (wEx Δ a).1)
 | .dget a b=>tt1 (w2 KD (wEx Δ a).1 (wEx Δ b).1)
 | .no=>(λ_ _ _=>False,λ_ _ _=>False)
noncomputable def Gs(Δ:Nat->Sn):Exs->WA
 | .nil=>F5
 | .cons e es=>Dh (wEx Δ e).1 (Gs Δ es)
noncomputable def wEo(Δ:Nat->Sn):Eo->WO×WT
 | .no=>(VI,XH)
 | .yes e=>(OK (wEx Δ e).1,(wEx Δ e).2)
noncomputable def Ec(Δ:Nat->Sn):Itb->WI
 | .seq e=>Tq (wEx Δ e).1
 | .rng1 a=>OM (wEx Δ a).1
 | .rng2 a b=>ON (wEx Δ a).1 (wEx Δ b).1
 | .enum e=>OO (wEx Δ e).1
 | .dtk e=>Tt (wEx Δ e).1
 | .zipX a b=>OW (wEx Δ a).1 (wEx Δ b).1
end
structure EndsS where
 nx:EnvS->Sto->Prop
 rt:SV->Sto->Prop
 bk:EnvS->Sto->Prop:=λ_ _=>False
 ct:EnvS->Sto->Prop:=λ_ _=>False
abbrev WS:=EndsS->EnvS->Sto->Prop
def Iy:SV->SV->SV->Sto->(Sto->Prop)->Prop
 | .loc k,.int i,v,S,Q=>∃ xs j,S[k]?=O (.lst xs)/\ixN xs.length i=O j/\Q (S.set k (.lst (xs.set j v)))
 | _,_,_,_,_=>False
def AF(a:Sto->Prop)(g:Tg)(b:WS)(D:EndsS):U SV->EnvS->Sto->Prop
 | [],c,S=>a S/\D.nx c S
 | x::xs,c,S=>a S/\wTg g x c λd=>b {D with nx:=AF a g b D xs,ct:=AF a g b D xs,bk:=D.nx} d S
noncomputable def VM(t:WT)(b:WS):WS:=λD d S=>∃ W:Nat->EnvS->Sto->Prop,(∃ m,W m d S)/\∀ m d S,W m d S->t d S λc S1=>if c=aC then
 b {D with nx:=λa S'=>∃ e,e<m/\W e a S',ct:=λa S'=>∃ e,e<m/\W e a S',bk:=D.nx} d S1 else D.nx d S1
abbrev rz:Nat:=1000000
mutual
noncomputable def wSt:(Nat->Sn)->Stm->WS
 | Δ,.asg t e=>λD d S=>(wEx Δ e).1 d S λx S1=>wTg t x d λl=>D.nx l S1
 | Δ,.par i j a b=>λD d S=>(wEx Δ a).1 d S λx S1=>(wEx Δ b).1 d S1 λy S2=>D.nx ((d.set i (O x)).set j (O y)) S2
 | Δ,.put o i e=>λD d S=>(wEx Δ e).1 d S λv S1=>(wEx Δ o).1 d S1 λx S2=>(wEx Δ i).1 d S2 λy m=>Iy x y v m λf=>D.nx d f
 | Δ,.augS o i e=>λD d S=>(wEx Δ o).1 d S λx S1=>(wEx Δ i).1 d S1 λy S2=>∃(k:Nat) (j:Nat) (xs:U SV) (a:Int),x = .loc k/\y = .int j/\S2[k]?=O (.lst xs)/\xs[j]?=O (.int a)/\(wEx Δ e).1 d S2 λv f=>∃(b:Int) (ys:U SV),v = .int b/\f[k]?=O (.lst ys)/\j<ys.length/\D.nx d (f.set k (.lst (ys.set j (.int (a+b)))))
 | Δ,.dput o i e=>λD d S=>(wEx Δ e).1 d S λv S1=>(wEx Δ o).1 d S1 λx S2=>(wEx Δ i).1 d S2 λy m=>KG x y v m λf=>D.nx d f
 | Δ,.expr e=>λD d S=>(wEx Δ e).1 d S λ_ S1=>D.nx d S1
 | Δ,.iff t a b=>λD d S=>(wEx Δ t).2 d S λc S1=>if c=aC then wSs Δ a D d S1 else wSs Δ b D d S1
 | Δ,.loop g n b=>λD d S=>Ec Δ n d S λh xs S1=>AF h g (wSs Δ b) D xs d S1
 | Δ,.whl t b=>VM (wEx Δ t).2 (wSs Δ b)
 | Δ,.ret e=>λD d S=>(wEx Δ e).1 d S D.rt
 | Δ,.no=>λ_ _ _=>False
noncomputable def wSs:(Nat->Sn)->U Stm->WS
 | Δ,[]=>λD a S=>D.nx a S
 | Δ,s::b=>λD a S=>wSt Δ s {D with nx:=wSs Δ b D} a S
end
def v5{a:Type}{P:Prop}{x:a}(h:(none:Option a)=O x):P:=nomatch h
def BD(a b:A2D):A2D:={a with names:=a.names.map λ(n,k)=>if (k == .free&&b.kind == .function&&b.names.lookup n == O .cell) then (n,.cell) else (n,k)}
def f9:A2p->Bool
 | .Starred ..=>aD
 | _=>aC
def i0{e:A2p}{es:U A2p}{env:Env}(h:f9 e=aC):A2x (e::es) env=(aD,eval e env)::A2x es env:=by cases e<;>first | rfl | cases h
theorem Bo{env:Env}{pos:Pos}:∀{es:U A2p},es.all f9=aC->(backTo pos (A2x es env)).any (·.1)=aD
 | [],_=>rfl
 | e::es,h=>by
   rw[Zm,Yc]at h;rw[i0 h.1];exact Bo (es:=es) h.2
theorem D0{a:Env}{b:Pos}:∀{es:U A2p},es.all f9=aC->(backTo b (A2x es a)).all (λx=>!x.1)=aC
 | [],_=>rfl
 | e::es,h=>by
   rw[Zm,Yc]at h;rw[i0 h.1];exact D0 (es:=es) h.2
def glo(a:A2D)(x:Str):Bool:=a.names.lookup x == O .globalImplicit&&!(x == ("__name__":Str))&&!(x == ("__debug__":Str))
def vis(a:A2D)(x:Str):Bool:=a.names.lookup x == O .local||a.names.lookup x == O .cell||a.names.lookup x == O .free
noncomputable def loc(a:A2D)(x:Str):Bool:=a.names.lookup x == O .local||a.names.lookup x == O .cell
def XI:SV->Const->Bool
 | .non,.none=>aC
 | .bl a,.bool b=>a == b
 | .int i,.int j=>decide (i=j)
 | .str x,.str y=>decide (x=y)
 | _,_=>aD
def u8:A2p->Bool
 | .Slice ..=>aD
 | _=>aC
def AC:A2p->Bool
 | .Set ..=>aD
 | _=>aC
def Iz:A2p->Bool
 | .UnaryOp .Not _ _=>aD
 | .BoolOp ..=>aD
 | .IfExp ..=>aD
 | .Compare ..=>aD
 | _=>aC
def Az:A2p->Bool
 | .Call (.Name _ _) [] [] _=>aD
 | _=>aC
def Ce:A2p->Option Str
 | .Name x _=>O x
 | _=>aB
def OZ:A2p->Option Const
 | .Constant k _ _=>O k
 | _=>aB
def XJ:A2p->Option (A2p×A3h×A2p)
 | .BinOp a o b _=>O (a,o,b)
 | _=>aB
def vUn:A2p->Option (UnaryOp×A2p)
 | .UnaryOp o a _=>O (o,a)
 | _=>aB
def VN:A2p->Option (A2p×U CmpOp×U A2p)
 | .Compare a b c _=>O (a,b,c)
 | _=>aB
def Oa:A2p->Option (BoolOp×U A2p×Pos)
 | .BoolOp o vs p=>O (o,vs,p)
 | _=>aB
def XL:A2p->Option (A2p×A2p×A2p)
 | .IfExp t a b _=>O (t,a,b)
 | _=>aB
def Dp:A2p->Option (U A2p)
 | .Tuple es _ _=>O es
 | _=>aB
def XM:A2p->Option (U A2p)
 | .List es _=>O es
 | _=>aB
def Gv:A2p->Option (A2p×A2p)
 | .Subscript a b _=>O (a,b)
 | _=>aB
def XN:A2p->Option (Option A2p×Option A2p×Option A2p)
 | .Slice l h s _=>O (l,h,s)
 | _=>aB
def Dq:A2p->Option (A2p×U A2p×U Keyword)
 | .Call f as ks _=>O (f,as,ks)
 | _=>aB
def J0:A2p->Nat
 | .Call _ _ _ p=>p.line
 | _=>0
def Of:A2p->Option (A2p×Str×Nat)
 | .Attribute o n p=>O (o,n,p.endLine)
 | _=>aB
def Og:A2p->Option (A2p×U A39×A2D)
 | .ListComp e a s _=>O (e,a,s)
 | _=>aB
def J1:A2p->Option (A2p×U A39×A2D)
 | .SetComp e a s _=>O (e,a,s)
 | _=>aB
def F8{r:A2p}{x:A2p×U A39×A2D}(h:J1 r=O x):∃ p,r = .SetComp x.1 x.2.1 x.2.2 p:=by cases r<;>first | (cases h;exact⟨_,J⟩) | exact v5 h
def Tu:A2p->Option (U (Option A2p)×U A2p)
 | .Dict ks vs _=>O (ks,vs)
 | _=>aB
def Oh{r:A2p}{x:U (Option A2p)×U A2p}(h:Tu r=O x):∃ p,r = .Dict x.1 x.2 p:=by cases r<;>first | (cases h;exact⟨_,J⟩) | exact v5 h
def Bp{r:A2p}{x:Str}(h:Ce r=O x):∃ p,r = .Name x p:=by cases r<;>first | (cases h;exact⟨_,J⟩) | exact v5 h
def MF{r:A2p}{x:Const}(h:OZ r=O x):∃ j p,r = .Constant x j p:=by cases r<;>first | (cases h;exact⟨_,_,J⟩) | exact v5 h
def Rq{r:A2p}{x:A2p×A3h×A2p}(h:XJ r=O x):∃ p,r = .BinOp x.1 x.2.1 x.2.2 p:=by cases r<;>first | (cases h;exact⟨_,J⟩) | exact v5 h
def VO{r:A2p}{x:UnaryOp×A2p}(h:vUn r=O x):∃ p,r = .UnaryOp x.1 x.2 p:=by cases r<;>first | (cases h;exact⟨_,J⟩) | exact v5 h
def KI{r:A2p}{x:A2p×U CmpOp×U A2p}(h:VN r=O x):∃ p,r = .Compare x.1 x.2.1 x.2.2 p:=by cases r<;>first | (cases h;exact⟨_,J⟩) | exact v5 h
def Gx{r:A2p}{x:BoolOp×U A2p×Pos}(h:Oa r=O x):r = .BoolOp x.1 x.2.1 x.2.2:=by cases r<;>first | (cases h;exact J) | exact v5 h
def Rr{r:A2p}{x:A2p×A2p×A2p}(h:XL r=O x):∃ p,r = .IfExp x.1 x.2.1 x.2.2 p:=by cases r<;>first | (cases h;exact⟨_,J⟩) | exact v5 h
def BO{r:A2p}{x:U A2p}(h:Dp r=O x):∃ j p,r = .Tuple x j p:=by cases r<;>first | (cases h;exact⟨_,_,J⟩) | exact v5 h
def Rs{r:A2p}{x:U A2p}(h:XM r=O x):∃ p,r = .List x p:=by cases r<;>first | (cases h;exact⟨_,J⟩) | exact v5 h
def BP{r:A2p}{x:A2p×A2p}(h:Gv r=O x):∃ p,r = .Subscript x.1 x.2 p:=by cases r<;>first | (cases h;exact⟨_,J⟩) | exact v5 h
def Rt{r:A2p}{x:Option A2p×Option A2p×Option A2p}(h:XN r=O x):∃ p,r = .Slice x.1 x.2.1 x.2.2 p:=by cases r<;>first | (cases h;exact⟨_,J⟩) | exact v5 h
def Dr{r:A2p}{x:A2p×U A2p×U Keyword}(h:Dq r=O x):∃ p,r = .Call x.1 x.2.1 x.2.2 p/\J0 r=p.line:=by cases r<;>first | (cases h;exact⟨_,J,J⟩) | exact v5 h
def Oi{r:A2p}{x:A2p×Str×Nat}(h:Of r=O x):∃ p,r = .Attribute x.1 x.2.1 p/\x.2.2=p.endLine:=by cases r<;>first | (cases h;exact⟨_,J,J⟩) | exact v5 h
def Gy{r:A2p}{x:A2p×U A39×A2D}(h:Og r=O x):∃ p,r = .ListComp x.1 x.2.1 x.2.2 p:=by cases r<;>first | (cases h;exact⟨_,J⟩) | exact v5 h
def c7{a:Type}{o:Option a}{p:a->Bool}(h:o.any p=aC):∃ x,o=O x/\p x=aC:=by
 cases o with
 | none=>cases h
 | some x=>exact⟨x,J,h⟩
def B0{a:Type}{l:U a}{x:a}(h:l.head?=O x):l=x::l.tail:=by
 cases l with
 | nil=>cases h
 | cons y r=>cases h;rfl
def l1{α:Type}:U α->Option α
 | [x]=>O x
 | _=>aB
def l2{α:Type}:U α->Option (α×α)
 | [x,y]=>O (x,y)
 | _=>aB
def w6{a:Type}{l:U a}{x:a}(h:l1 l=O x):l=[x]:=by
 match l,h with
 | [y],h=>cases h;rfl
def Bq{a:Type}{l:U a}{x:a×a}(h:l2 l=O x):l=[x.1,x.2]:=by
 match l,h with
 | [y,z],h=>cases h;rfl
def l3{α:Type}:U α->Option (α×α×α)
 | [x,y,z]=>O (x,y,z)
 | _=>aB
def VP(r:A2p):Option (Str×U A2p×Keyword):=(Dq r).bind λc=>match c.2.2 with
 | [a]=>(Ce c.1).map λx=>(x,c.2.1,a)
 | _=>aB
def Ru{r:A2p}{x:Str×U A2p×Keyword}(h:VP r=O x):∃ p q,r = .Call (.Name x.1 p) x.2.1 [x.2.2] q:=by
 unfold VP at h;cases hc:Dq r with
 | none=>rw[hc]at h;cases h
 | some c=>
   rw[hc]at h;obtain⟨q,e,_⟩:=Dr hc;obtain⟨f,a,b⟩:=c
   match b,h with
   | [d],h=>
     replace h:(Ce f).map (λx=>(x,a,d))=O x:=h;cases hn:Ce f with
     | none=>rw[hn]at h;cases h
     | some nm=>
       rw[hn]at h;cases h;obtain⟨p,g⟩:=Bp hn;exact⟨p,q,by rw[e,g]⟩
   | [],h=>cases h
   | _::_::_,h=>cases h
def vFn(r:A2p):Option (Str×U A2p):=(Dq r).bind λc=>if c.2.2.isEmpty then (Ce c.1).map λx=>(x,c.2.1) else aB
def v4{r:A2p}{x:Str×U A2p}(h:vFn r=O x):∃ p q,r = .Call (.Name x.1 p) x.2 [] q:=by
 unfold vFn at h;cases hc:Dq r with
 | none=>rw[hc]at h;cases h
 | some c=>
   rw[hc]at h;obtain⟨q,e,_⟩:=Dr hc;simp only[A18]at h;by_cases a:c.2.2.isEmpty=aC
   ·rw[iP a]at h;cases hn:Ce c.1 with
    | none=>rw[hn]at h;cases h
    | some y=>
      rw[hn]at h;cases h;obtain⟨p,b⟩:=Bp hn;rw[e,b,ZW.mp a];exact⟨p,q,J⟩
   ·rw[iG a]at h;cases h
def vMt(r:A2p):Option (A2p×Str×U A2p):=(Dq r).bind λc=>if c.2.2.isEmpty then (Of c.1).bind λa=>if a.2.2 == J0 r then O (a.1,a.2.1,c.2.1) else aB else aB
def J2{r:A2p}{x:A2p×Str×U A2p}(h:vMt r=O x):∃ f g,r = .Call (.Attribute x.1 x.2.1 f) x.2.2 [] g/\(f.endLine == g.line)=aC:=by
 unfold vMt at h;cases hc:Dq r with
 | none=>rw[hc]at h;cases h
 | some c=>
   rw[hc]at h;obtain⟨q,e,i⟩:=Dr hc;simp only[A18]at h;by_cases a:c.2.2.isEmpty=aC
   ·rw[iP a]at h;cases hn:Of c.1 with
    | none=>rw[hn]at h;cases h
    | some y=>
      rw[hn]at h;simp only[A18]at h;obtain⟨p,j,b⟩:=Oi hn;by_cases d:(y.2.2 == J0 r)=aC
      ·rw[iP d]at h;cases h;refine⟨p,q,?_,?_⟩
       ·rw[e,j,ZW.mp a]
       ·rw[<-b,<-i];exact d
      ·rw[iG d]at h;cases h
   ·rw[iG a]at h;cases h
mutual
noncomputable def Am(k:Nat)(N:U Str)(a:A2D):Tg->A2p->Bool
 | .nm i,r=>(Ce r).any λx=>decide (i<k)&&decide (N[i]?=O x)&&loc a x
 | .tup ts,r=>(Dp r).any λes=>An k N a ts es
noncomputable def An(k:Nat)(N:U Str)(a:A2D):Tgs->U A2p->Bool
 | .nil,r=>r.isEmpty
 | .cons t ts,r=>(r.head?).any λe=>Am k N a t e&&f9 e&&An k N a ts r.tail
end
def nmB(N:U Str)(a:A2D)(i:Nat)(x:Str):Bool:=decide (N[i]?=O x)&&vis a x&&!(x == ("__debug__":Str))&&!(x == ("__classdict__":Str))
mutual
noncomputable def j6(T:U Str)(N:U Str)(h:A2D):Ex->A2p->Bool
 | .var i,r=>(Ce r).any λx=>nmB N h i x
 | .c x,r=>(OZ r).any λk=>XI x k
 | .op o a b,r=>(XJ r).any λv=>decide (o=v.2.1)&&j6 T N h a v.1&&j6 T N h b v.2.2
 | .cmp o a b,r=>(VN r).any λv=>(l1 v.2.2).any λC=>decide (v.2.1=[o])&&j6 T N h a v.1&&j6 T N h b C&&AC C
 | .chn o p a b c,r=>(VN r).any λv=>(l2 v.2.2).any λn=>decide (v.2.1=[o,p])&&j6 T N h a v.1&&j6 T N h b n.1&&j6 T N h c n.2&&AC n.2
 | .and a b,r=>(Oa r).any λv=>decide (v.1 = .And)&&(v.2.1.head?).any λx=>j6 T N h a x&&(match l1 v.2.1.tail with | some y=>j6 T N h b y | none=>decide (2<=v.2.1.tail.length)&&j6 T N h b (.BoolOp .And v.2.1.tail v.2.2))
 | .or a b,r=>(Oa r).any λv=>decide (v.1 = .Or)&&(v.2.1.head?).any λx=>j6 T N h a x&&(match l1 v.2.1.tail with | some y=>j6 T N h b y | none=>decide (2<=v.2.1.tail.length)&&j6 T N h b (.BoolOp .Or v.2.1.tail v.2.2))
 | .not a,r=>(vUn r).any λv=>decide (v.1 = .Not)&&j6 T N h a v.2
 | .ife t a b,r=>(XL r).any λv=>j6 T N h t v.1&&j6 T N h a v.2.1&&j6 T N h b v.2.2
 | .tup es,r=>(Dp r).any λn=>BE T N h es n
 | .lst es,r=>(XM r).any λn=>BE T N h es n
 | .ix a b,r=>(Gv r).any λv=>j6 T N h a v.1&&j6 T N h b v.2&&u8 v.2
 | .slc a E G,r=>(Gv r).any λv=>(XN v.2).any λs=>j6 T N h a v.1&&Oj T N h E s.1&&Oj T N h G s.2.1&&s.2.2.isNone
 | .call f es,r=>(vFn r).any λv=>decide (f+1<T.length/\T[f]?=O v.1)&&glo h v.1&&BE T N h es v.2&&!v.2.isEmpty
 | .bi b es,r=>(vFn r).any λv=>decide (b.name=v.1)&&glo h v.1&&BE T N h es v.2&&!v.2.isEmpty
 | .mt m a es,r=>(vMt r).any λv=>decide (v.2.1=m.name)&&Az v.1&&decide (v.2.2.length<29)&&j6 T N h a v.1&&BE T N h es v.2.2
 | .comp own l js g q t e,r=>(Og r).any λv=>(l1 v.2.1).any λc=>decide (c.is_async=0)&&AB h v.2.2 own l N js&&Am own.length (own++l) (BD v.2.2 h) g c.target&&Gz T N h q c.target c.iter&&AC c.iter&&Cf T (own++l) (BD v.2.2 h) t c.ifs&&j6 T (own++l) (BD v.2.2 h) e v.1
 | .comp2 own l js g q t A w B e,r=>(Og r).any λv=>(l2 v.2.1).any λc=>decide (c.1.is_async=0)&&decide (c.2.is_async=0)&&AB h v.2.2 own l N js&&Am own.length (own++l) (BD v.2.2 h) g c.1.target&&Gz T N h q c.1.target c.1.iter&&AC c.1.iter&&Cf T (own++l) (BD v.2.2 h) t c.1.ifs&&Am own.length (own++l) (BD v.2.2 h) A c.2.target&&Gz T (own++l) (BD v.2.2 h) w c.2.target c.2.iter&&AC c.2.iter&&Cf T (own++l) (BD v.2.2 h) B c.2.ifs&&j6 T (own++l) (BD v.2.2 h) e v.1
 | .tyc t,r=>(Ce r).any λx=>decide (x=Str.ofString t.nm)&&glo h x&&decide (t ≠ .none)
 | .lrng1 a,r=>(vFn r).any λv=>(l1 v.2).any λz=>(vFn z).any λu=>(l1 u.2).any λj=>decide (v.1=("list":Str))&&decide (u.1=("range":Str))&&glo h v.1&&glo h u.1&&j6 T N h a j&&f9 j
 | .lrng2 a b,r=>(vFn r).any λv=>(l1 v.2).any λz=>(vFn z).any λu=>(l2 u.2).any λj=>decide (v.1=("list":Str))&&decide (u.1=("range":Str))&&glo h v.1&&glo h u.1&&j6 T N h a j.1&&f9 j.1&&j6 T N h b j.2&&f9 j.2
 | .set0,r=>(vFn r).any λv=>decide (v.1=("set":Str))&&glo h v.1&&v.2.isEmpty
 | .sadd a e,r=>(vMt r).any λv=>(l1 v.2.2).any λD=>decide (v.2.1=("add":Str))&&Az v.1&&j6 T N h a v.1&&j6 T N h e D&&f9 D
 | .max1 a,r=>(vFn r).any λv=>(l1 v.2).any λj=>decide (v.1=("max":Str))&&glo h v.1&&j6 T N h a j&&f9 j
 | .setdl d e v,r=>(vMt r).any λu=>(l2 u.2.2).any λj=>decide (u.2.1=("setdefault":Str))&&Az u.1&&j6 T N h d u.1&&j6 T N h e j.1&&f9 j.1&&j6 T N h v j.2&&f9 j.2
 | .dnewl,r=>(Tu r).any λv=>v.1.isEmpty&&v.2.isEmpty
 | .dgetl a b,r=>(Gv r).any λv=>j6 T N h a v.1&&j6 T N h b v.2&&u8 v.2
 | .srtu a,r=>(vFn r).any λv=>(l1 v.2).any λj=>decide (v.1=("sorted":Str))&&glo h v.1&&j6 T N h a j&&f9 j
 | .maxd a d,r=>(VP r).any λv=>(l1 v.2.1).any λj=>decide (v.1=("max":Str))&&glo h v.1&&j6 T N h a j&&j6 T N h d v.2.2.value&&f9 j&&decide (v.2.2.arg=O ("default":Str))
 | .dzip a b,r=>(vFn r).any λv=>(l1 v.2).any λz=>(vFn z).any λu=>(l2 u.2).any λj=>decide (v.1=("dict":Str))&&glo h v.1&&decide (u.1=("zip":Str))&&glo h u.1&&j6 T N h a j.1&&f9 j.1&&j6 T N h b j.2&&f9 j.2
 | .dctl a,r=>(vFn r).any λv=>(l1 v.2).any λj=>decide (v.1=("dict":Str))&&glo h v.1&&j6 T N h a j&&f9 j
 | .srtsc2 own l js g q t A w B e,r=>(vFn r).any λu=>(l1 u.2).any λz=>(J1 z).any λv=>(l2 v.2.1).any λc=>decide (u.1=("sorted":Str))&&glo h u.1&&decide (c.1.is_async=0)&&decide (c.2.is_async=0)&&AB h v.2.2 own l N js&&Am own.length (own++l) (BD v.2.2 h) g c.1.target&&Gz T N h q c.1.target c.1.iter&&AC c.1.iter&&Cf T (own++l) (BD v.2.2 h) t c.1.ifs&&Am own.length (own++l) (BD v.2.2 h) A c.2.target&&Gz T (own++l) (BD v.2.2 h) w c.2.target c.2.iter&&AC c.2.iter&&Cf T (own++l) (BD v.2.2 h) B c.2.ifs&&j6 T (own++l) (BD v.2.2 h) e v.1
 | .srtsc own l js g q t e,r=>(vFn r).any λu=>(l1 u.2).any λz=>(J1 z).any λv=>(l1 v.2.1).any λc=>decide (u.1=("sorted":Str))&&glo h u.1&&decide (c.is_async=0)&&AB h v.2.2 own l N js&&Am own.length (own++l) (BD v.2.2 h) g c.target&&Gz T N h q c.target c.iter&&AC c.iter&&Cf T (own++l) (BD v.2.2 h) t c.ifs&&j6 T (own++l) (BD v.2.2 h) e v.1
 | .dget a b,r=>(Gv r).any λv=>j6 T N h a v.1&&j6 T N h b v.2&&u8 v.2
 | .no,_=>aC
noncomputable def BE(T:U Str)(N:U Str)(a:A2D):Exs->U A2p->Bool
 | .nil,r=>r.isEmpty
 | .cons e es,r=>(r.head?).any λx=>j6 T N a e x&&f9 x&&BE T N a es r.tail
noncomputable def Oj(T:U Str)(N:U Str)(a:A2D):Eo->Option A2p->Bool
 | .no,r=>r.isNone
 | .yes e,r=>r.any λx=>j6 T N a e x
noncomputable def Cf(T:U Str)(N:U Str)(a:A2D):Eo->U A2p->Bool
 | .no,r=>r.isEmpty
 | .yes e,r=>(l1 r).any λx=>j6 T N a e x
noncomputable def Gz(T:U Str)(N:U Str)(c:A2D):Itb->A2p->A2p->Bool
 | .seq e,_,r=>j6 T N c e r
 | .rng1 a,_,r=>(vFn r).any λv=>(l1 v.2).any λd=>decide (v.1=("range":Str))&&glo c v.1&&j6 T N c a d&&f9 d
 | .rng2 a b,_,r=>(vFn r).any λv=>(l2 v.2).any λd=>decide (v.1=("range":Str))&&glo c v.1&&j6 T N c a d.1&&f9 d.1&&j6 T N c b d.2&&f9 d.2
 | .enum e,f,r=>(Dp f).isSome&&(vFn r).any λv=>(l1 v.2).any λa=>decide (v.1=("enumerate":Str))&&glo c v.1&&j6 T N c e a&&f9 a
 | .dtk e,_,r=>j6 T N c e r
 | .zipX a b,f,r=>(Dp f).isSome&&(vFn r).any λv=>(l2 v.2).any λd=>decide (v.1=("zip":Str))&&glo c v.1&&j6 T N c a d.1&&f9 d.1&&j6 T N c b d.2&&f9 d.2
end
noncomputable def spS(K:YZ)(w:Sn):Sp:=λvs H Q _=>∃ as S xs,Ok K as H S/\RlAll K as H vs xs/\w xs S (Post K as H Q)
structure Cal(P:A2r)(w:A2u)(K:YZ)(mg:Str->Option F)(base:A2y)(k:Nat)(x:Str)(ps:List Str)(sp:Sp):Prop where
 ex:∃ f fd,FnOk P w K mg base CX0 k f fd ps sp/\mg x=O (.ref f)/\PySem.W.keepIn K (.ref f)=aC/\Binds K fd ps []
noncomputable def Me(X:Cx)(x:Str):Prop:=X.env.qual=x++".<locals>."/\(∀ c P,TabK X.K x c P->X.env.code = .ref c)/\X.A.depth+2<A3G/\X.A.units+110<cLine
structure NsK(K:YZ)(mg:Str->Option F):Prop where
 on:∀ x v,PySem.W.nsIn K A2t x=O (O v)->mg x=O v
 off:∀ x,PySem.W.nsIn K A2t x=O aB->mg x=aB
structure Cok(T:List Str)(Δ:Nat->Sn)(X:Cx)(k:Nat)(N:List Str)(sc:A2D):Prop where
 hN:X.N=N
 hs:X.env.scope=sc
 nd:N.Nodup
 calm:X.calm=aC
 fn:∀ i x,i<k->N[i]?=O x->sc.names.lookup x=O .cell->X.fn x=aC
 un:X.A.units+102<cLine
 bl:∀ b:BI,X.mg b.name=aB
 rng:X.mg "range"=aB
 enm:X.mg "enumerate"=aB
 rvs:X.mg "reversed"=aB
 zip:X.mg "zip"=aB
 sm0:X.mg "sum"=aB
 st0:X.mg "set"=aB
 dc0:X.mg "dict"=aB
 ty:∀ t:TyN,t ≠ .none->X.mg (Str.ofString t.nm)=aB
 gd:X.A.guards=O []
 ns:NsK X.K X.mg
 me:∀ x,T.getLast?=O x->x≠("":Str)->Me X x
 call:∀ f x,f+1<T.length->T[f]?=O x->∃ k ps,Cal X.prog X.w X.K X.mg X.base k x ps (spS X.K (Δ f))/\Room k X.A/\(T.getLast?≠O ("":Str)->Room (k+1) X.A)
 mono:∀ f,MonoN (Δ f)
def isCmp:A2p->Bool
 | .ListComp ..=>aC
 | .DictComp ..=>aC
 | _=>aD
noncomputable def AsgC(X:Cx)(r:A2p)(w:WE):Prop:=∀(i:Nat) (x:Str) (b a:Pos),X.N.Nodup->X.N[i]?=O x->X.env.scope.names.lookup x=O .local->A3b r (O (.Name x b)) a.line X.env=pure aC->PS X (.Assign [.Name x b] r a) (IL (lift X.K w) (GU i))
structure Good(X:Cx)(r:A2p)(w:WE×WT):Prop where
 pe:PE X r (lift X.K w.1)
 pt:PT X r (liftT X.K w.2)
 m:Mono w.1
 mt:MonoT w.2
 pw:∀ op vs p,r = .BoolOp op vs p->PW X r (liftT X.K w.2)
 cg:isCmp r=aC->AsgC X r w.1:=by intro h;cases h
section
variable{X:Cx}{r:A2p}{w:WE}
def MonoT.tru(m:Mono w):MonoT (VH w):=λa S P c i h=>m _ _ _ _ (by rintro x d ⟨b,e,q⟩;exact⟨b,e,i _ _ q⟩) h
def MonoT.bl(m:Mono w):MonoT (wBl w):=λa S P c i h=>m _ _ _ _ (by rintro x d ⟨b,e,q⟩;exact⟨b,e,i _ _ q⟩) h
def VQ{K:YZ}{g:U Y}{H:Hp}{S:Sto}{x:SV}{v:V}{b:Bool}(h:Ok K g H S)(r:Rl K g H v x)(e:OH x S=O b):R4 K v H b:=by
 cases x with
 | bl c=>cases e;rw[rl_bl.mp r];exact J
 | tup f=>
   cases e;obtain⟨p,d,rfl,i,j⟩:=rl_tup.mp r;refine .inr (.inl ⟨d,SqT.of i,?_⟩);have:=j.length;cases d<;>cases f<;>first | rfl | (simp at this)
 | loc k=>
   unfold OH at e;cases hs:S[k]? with
   | none=>simp only[hs]at e;cases e
   | some o=>
     cases o with
     | lst f=>
       simp only[hs]at e;cases e;obtain⟨a,d,rfl,_,l,m⟩:=p0 h r hs;refine .inl ⟨d,SqL.of l,?_⟩;have:=m.length;cases d<;>cases f<;>first | rfl | (simp at this)
     | iset _=>simp only[hs]at e;cases e
     | dtl _=>simp only[hs]at e;cases e
     | dtf _ _ _=>simp only[hs]at e;cases e
     | dtp _=>simp only[hs]at e;cases e
     | dct _=>simp only[hs]at e;cases e
     | dcf _ _ _=>simp only[hs]at e;cases e
     | tbl _ _=>simp only[hs]at e;cases e
 | _=>cases e
def Ed{b:Env}(h:Iz r=aC):∀ a,isTrue r b a=(do let v <- a;standAt r.pos;holding [v] (truthy v)):=by intro a;cases r<;>first | rfl | (cases h;done) | (rename_i o _ _;cases o<;>first | rfl | cases h)
def Rv{K:YZ}(m:Mono w):∀ d H Q,liftT K (VH w) d H Q->lift K w d H λx c=>∃ k,R4 K x c k/\Q k c:=by rintro d H Q ⟨i,j,S,l,n,h⟩;exact⟨i,j,S,l,n,m _ _ _ _ (by rintro x o ⟨b,e,q⟩ f c v g a r;exact⟨b,VQ a r e,q f c g a⟩) h⟩
def Ol{K:YZ}(m:Mono w):∀ a H Q,liftT K (wBl w) a H Q->lift K w a H λx c=>∃ k,x = .bl k/\Q k c:=by rintro a H Q ⟨i,j,S,l,n,h⟩;exact⟨i,j,S,l,n,m _ _ _ _ (by rintro x o ⟨b,e,q⟩ d c v g f r;exact⟨b,by subst e;exact rl_bl.mp r,q d c g f⟩) h⟩
def Good.one(a:PE X r (lift X.K w))(m:Mono w)(h:Iz r=aC)(b:isCmp r=aC->AsgC X r w:=by intro h;cases h):Good X r (tt1 w) where
 cg:=b
 pe:=a
 pt:=Fb _ (NM a (Ed h)) (Rv m)
 m:=m
 mt := .tru m
 pw:=λop c p e=>by rw[e]at h;cases h
def Om{X:Cx}{r:A2p}:PE X r (lift X.K λ_ _ _=>False):=λ_ _ _ _ _ _ h=>let ⟨_,_,_,_,_,z⟩:=h;z.elim
def HA{X:Cx}{r:A2p}:PT X r (liftT X.K λ_ _ _=>False):=λ_ _ _ _ _ _ h=>let ⟨_,_,_,_,_,z⟩:=h;z.elim
def Oo{X:Cx}{r:A2p}:PW X r (liftT X.K λ_ _ _=>False):=λ_ _ _ _ _ _ _ h=>let ⟨_,_,_,_,_,z⟩:=h;z.elim
def Good.never:Good X r (λ_ _ _=>False,λ_ _ _=>False):=⟨Om,HA,λ_ _ _ _ _ h=>h,λ_ _ _ _ _ h=>h,λ_ _ _ _=>Oo,λ_ _ _ _ _ _ _ _ _ _ _ _ _ _ _ h=>let ⟨_,_,_,_,_,z⟩:=h;z.elim⟩
end
def KJ{o:A3h}:Mono2 (sOp o):=by unfold sOp;split<;>first | exact .add | exact .int0 | exact .mul | exact .int | exact λ_ _ _ _ _ _ h=>h
def AU{o:CmpOp}:Mono2 (BN o):=by unfold BN;split<;>first | exact .eq | exact .ne | exact .int0 | exact .in' | exact .isN
section
variable{X:Cx}
def Op{o:A3h}{d e:A2p}{p:Pos}{b c:WE}(g:PE X d (lift X.K b))(i:PE X e (lift X.K c))(j:Mono b)(k:Mono c):PE X (.BinOp d o e p) (lift X.K (w2 (sOp o) b c)):=by
 have a:∀{s:S2} {rr:R2},Mono2 s->OpR X (A30 o) rr->Bi X.K s rr->PE X (.BinOp d o e p) (lift X.K (w2 s b c)):=λl m f=>j5 _ (WR m g i) (By f l j k);have no:PE X (.BinOp d o e p) (lift X.K (w2 (λ_ _ _ _=>False) b c)):=a (λ_ _ _ _ _ _ h=>h) (rr:=λ_ _ _ _=>False) (λ_ _ _ _ _ _ _ _ _ _ _ _ h=>h.elim) (λ_ _ _ _ _ _ _ _ _ _ _ h=>h);cases o with
 | Add=>exact a .add RW RX
 | Sub=>exact a .int0 UX (Bk λ_ _ _ _=>rl_int.mpr J)
 | Mult=>exact a .mul (op_mul.or Ul) RY
 | FloorDiv=>exact a .int R0 (Fe λ_ _ _ _=>rl_int.mpr J)
 | Mod=>exact a .int UY (Fe λ_ _ _ _=>rl_int.mpr J)
 | Pow=>exact a .int UZ (Fe λ_ _ _ _=>rl_int.mpr J)
 | _=>exact no
def Ds(o:CmpOp)(hu:X.A.units<cLine):∃ a:R2,OpR X (A2H o) a/\Bi X.K (BN o) a:=by
 cases o with
 | Eq=>exact⟨_,op_eq.or ((Uq hu).or (RU hu)),V9⟩
 | NotEq=>exact⟨_,op_ne.or (Ur hu),VA⟩
 | Lt=>exact⟨_,WX,Bk λ_ _ _ _=>rl_bl.mpr J⟩
 | LtE=>exact⟨_,WY,Bk λ_ _ _ _=>rl_bl.mpr J⟩
 | Gt=>exact⟨_,WZ,Bk λ_ _ _ _=>rl_bl.mpr J⟩
 | GtE=>exact⟨_,Wa,Bk λ_ _ _ _=>rl_bl.mpr J⟩
 | Is=>exact⟨_,Ub,Ra⟩
 | IsNot=>exact⟨_,op_notN.or Ly,OA⟩
 | In=>exact⟨_,VC,O6⟩
 | NotIn=>exact⟨_,MA,O6⟩
def Dt{o:CmpOp}{r:A2p}(h:AC r=aC):A4r o r=aD:=by cases r<;>first | rfl | cases h
def MG{o:CmpOp}{i d:A2p}{p:Pos}{b c:WE}(hu:X.A.units<cLine)(j:PE X i (lift X.K b))(k:PE X d (lift X.K c))(f:Mono b)(g:Mono c)(l:AC d=aC):Good X (.Compare i [o] [d] p) (tt2 (w2 (BN o) b c)):=by
 obtain⟨r,n,a⟩:=Ds (X:=X) o hu;have m:Mono (w2 (BN o) b c) := .two AU f g
 exact{pe:=j5 _ (R1 n j k (Dt l)) (By a AU f g)
       pt:=Fb _ (R3 n j k (Dt l)) λq H Q h=>By a AU f g q H _ (Ol m q H Q h)
       m:=m
       mt := .bl m
       pw:=λ_ _ _ e=>by cases e}
def HB{o p:CmpOp}{a b c:WE}(ma:Mono a)(mb:Mono b)(mc:Mono c):Mono (OJ (BN o) (BN p) a b c):=λρ S P P' i h=>ma _ _ _ _ (λx S1 h=>mb _ _ _ _ (λy S2 h=>AU _ _ _ _ _ (λz S3 ⟨k,e,q⟩=>⟨k,e,by
 cases k with
 | true=>rw[iP J]at q ⊢;exact mc _ _ _ _ (λu S4 h=>AU _ _ _ _ _ i h) q
 | false=>rw[iG Yq]at q ⊢;exact i _ _ q⟩) h) h) h
def KK{K:YZ}{o p:CmpOp}{r r':R2}{a b c:WE}(s1:Bi K (BN o) r)(s2:Bi K (BN p) r')(ma:Mono a)(mb:Mono b)(mc:Mono c):∀ σ H Q,lift K (OJ (BN o) (BN p) a b c) σ H Q->IO r r' (lift K a) (lift K b) (lift K c) σ H Q:=by
 rintro σ H Q ⟨as,ρ,S,ok,en,h⟩;refine⟨as,ρ,S,ok,en,ma _ _ _ _ (λx S1 h as1 H1 v g1 ok1 rv=>?_) h⟩;refine⟨as1,ρ,S1,ok1,en.mono g1.pre (g1.ku ok),mb _ _ _ _ (λy S2 h as2 H2 u g2 ok2 ru=>?_) h⟩;refine s1 as2 H2 S2 x y v u _ ok2 (Rl.mono g2.pre (g2.ku ok1) x v rv) ru (AU _ _ _ _ _ (λz S3 ⟨k,e,q⟩ as3 H3 t g3 ok3 rt=>?_) h);subst e;refine⟨k,rl_bl.mp rt,?_⟩;cases k with
 | true=>
   rw[iP J]at q ⊢;refine⟨as3,ρ,S3,ok3,(en.mono g1.pre (g1.ku ok)).mono (g2.trans g3).pre ((g2.trans g3).ku ok1),mc _ _ _ _ (λn S4 h as4 H4 m g4 ok4 rm=>?_) q⟩;exact s2 as4 H4 S4 y n u m Q ok4 (Rl.mono (g3.trans g4).pre ((g3.trans g4).ku ok2) y u ru) rm (AU _ _ _ _ _ (λf S5 hf=>hf.mono (((g1.trans g2).trans g3).trans g4)) h)
 | false=>
   rw[iG Yq]at q ⊢;exact q as3 H3 _ ((g1.trans g2).trans g3) ok3 (rl_bl.mpr J)
def MH{o q:CmpOp}{n i c:A2p}{p:Pos}{d f g:WE}(hu:X.A.units<cLine)(r:PE X n (lift X.K d))(s:PE X i (lift X.K f))(t:PE X c (lift X.K g))(j:Mono d)(k:Mono f)(l:Mono g)(y:AC c=aC):Good X (.Compare n [o,q] [i,c] p) (tt2 (OJ (BN o) (BN q) d f g)):=by
 obtain⟨z,u,b⟩:=Ds (X:=X) o hu;obtain⟨B,v,a⟩:=Ds (X:=X) q hu;have m:Mono (OJ (BN o) (BN q) d f g):=HB j k l;have w:A5d [o,q] [i,c]=aD:=Dt y
 exact{pe:=j5 _ (NK u v r s t w) (KK b a j k l)
       pt:=Fb _ (NL u v r s t w) λx H Q h=>KK b a j k l x H _ (Ol m x H Q h)
       m:=m
       mt := .bl m
       pw:=λ_ _ _ e=>by cases e}
end
section
variable{K:YZ}
def n8{c:Bool}{A B a b:Prop}(d:A->a)(e:B->b)(h:if c=aC then A else B):if c=aC then a else b:=by
 cases c with
 | true=>rw[iP J]at h ⊢;exact d h
 | false=>rw[iG Yq]at h ⊢;exact e h
def Mono.and{a b:WE}(d:Mono a)(f:Mono b):Mono (OI a b):=λg S P j i h=>d _ _ _ _ (by rintro x S1 ⟨c,e,q⟩;exact⟨c,e,n8 (f _ _ _ _ i) (i _ _) q⟩) h
def Mono.or{a b:WE}(d:Mono a)(f:Mono b):Mono (wOr a b):=λg S P j i h=>d _ _ _ _ (by rintro x S1 ⟨c,e,q⟩;exact⟨c,e,n8 (i _ _) (f _ _ _ _ i) q⟩) h
def Mono.not{a:WE}(b:Mono a):Mono (Rk a):=λd S P f i h=>b _ _ _ _ (by rintro x S1 ⟨c,e,q⟩;exact⟨c,e,i _ _ q⟩) h
def MonoT.and{a b:WT}(c:MonoT a)(d:MonoT b):MonoT (Dm a b):=λe S P f i h=>c _ _ _ _ (λx S1 q=>n8 (d _ _ _ _ i) (i _ _) q) h
def MonoT.or{a b:WT}(c:MonoT a)(d:MonoT b):MonoT (Ir a b):=λe S P f i h=>c _ _ _ _ (λx S1 q=>n8 (i _ _) (d _ _ _ _ i) q) h
def MonoT.not{a:WT}(b:MonoT a):MonoT (KC a):=λc S P d i h=>b _ _ _ _ (λx S1 q=>i _ _ q) h
def Mono.ifE{t:WT}{a b:WE}(mt:MonoT t)(c:Mono a)(d:Mono b):Mono (Rm t a b):=λe S P f i h=>mt _ _ _ _ (λx S1 q=>n8 (c _ _ _ _ i) (d _ _ _ _ i) q) h
def Post.at{c a:U Y}{H b:Hp}{Q:VK}{x:SV}{S:Sto}{v:V}(h:Post K c H Q x S)(g:Go c H a b)(d:Ok K a b S)(r:Rl K a b v x):Q v b:=h a b v g d r
def KL{a b:WE}(m:Mono a)(n:Mono b):∀ g H Q,lift K (OI a b) g H Q->Ta (lift K a) (lift K b) g H Q:=by rintro g H Q ⟨o,j,S,k,l,h⟩;refine⟨o,j,S,k,l,m _ _ _ _ (λx S1 ⟨c,e,q⟩ i r v f d p=>?_) h⟩;subst e;refine⟨c,rl_bl.mp p,n8 (λq=>?_) (λq=>q.at f d (rl_bl.mpr J)) q⟩;exact⟨i,j,S1,d,l.mono f.pre (f.ku k),n _ _ _ _ (λy S2 h=>h.mono f) q⟩
def Oq{a b:WE}(m:Mono a)(n:Mono b):∀ g H Q,lift K (wOr a b) g H Q->WB (lift K a) (lift K b) g H Q:=by rintro g H Q ⟨o,j,S,k,l,h⟩;refine⟨o,j,S,k,l,m _ _ _ _ (λx S1 ⟨c,e,q⟩ i r v f d p=>?_) h⟩;subst e;refine⟨c,rl_bl.mp p,n8 (λq=>q.at f d (rl_bl.mpr J)) (λq=>?_) q⟩;exact⟨i,j,S1,d,l.mono f.pre (f.ku k),n _ _ _ _ (λy S2 h=>h.mono f) q⟩
def Rw{a:WE}(f:Mono a):∀ b H Q,lift K (Rk a) b H Q->Tb (lift K a) b H Q:=by rintro b H Q ⟨g,i,S,j,k,h⟩;refine⟨g,i,S,j,k,f _ _ _ _ (λx S1 ⟨c,e,q⟩ l o v m d n=>?_) h⟩;subst e;exact⟨c,rl_bl.mp n,q.at m d (rl_bl.mpr J)⟩
def PostT.mono{c a:U Y}{H d:Hp}{Q:Bool->Hp->Prop}{x:Bool}{S:Sto}(h:PostT K c H Q x S)(g:Go c H a d):PostT K a d Q x S:=λb e f=>h b e (g.trans f)
def HC{a b:WT}(l:MonoT a)(m:MonoT b):∀ g H Q,liftT K (Dm a b) g H Q->W8 (liftT K a) (liftT K b) g H Q:=by rintro g H Q ⟨n,i,S,j,k,h⟩;refine⟨n,i,S,j,k,l _ _ _ _ (λc S1 q d o f e=>?_) h⟩;refine n8 (λq=>?_) (λq=>q d o f e) q;exact⟨d,i,S1,e,k.mono f.pre (f.ku j),m _ _ _ _ (λy S2 h=>h.mono f) q⟩
def KM{a b:WT}(l:MonoT a)(m:MonoT b):∀ g H Q,liftT K (Ir a b) g H Q->tOr (liftT K a) (liftT K b) g H Q:=by rintro g H Q ⟨n,i,S,j,k,h⟩;refine⟨n,i,S,j,k,l _ _ _ _ (λc S1 q d o f e=>?_) h⟩;refine n8 (λq=>q d o f e) (λq=>?_) q;exact⟨d,i,S1,e,k.mono f.pre (f.ku j),m _ _ _ _ (λy S2 h=>h.mono f) q⟩
def Os{a:WT}(f:MonoT a):∀ b H Q,liftT K (KC a) b H Q->W9 (liftT K a) b H Q:=by rintro b H Q ⟨g,i,S,j,k,h⟩;exact⟨g,i,S,j,k,f _ _ _ _ (λc S1 q d l m e=>q d l m e) h⟩
def Rx{t:WT}{a b:WE}(mt:MonoT t)(l:Mono a)(m:Mono b):∀ g H Q,lift K (Rm t a b) g H Q->tIf (liftT K t) (lift K a) (lift K b) g H Q:=by
 rintro g H Q ⟨n,i,S,j,k,h⟩;refine⟨n,i,S,j,k,mt _ _ _ _ (λc S1 q e o d f=>?_) h⟩;refine n8 (λq=>?_) (λq=>?_) q
 ·exact⟨e,i,S1,f,k.mono d.pre (d.ku j),l _ _ _ _ (λy S2 h=>h.mono d) q⟩
 ·exact⟨e,i,S1,f,k.mono d.pre (d.ku j),m _ _ _ _ (λy S2 h=>h.mono d) q⟩
end
section
variable{X:Cx}
def Fm{e:A2p}{t:TT}(d:TT)(h:PW X e t)(c:∀ a H Q,d a H Q->t a H Q):PW X e d:=λf b s a H Q I g=>h f b s a H Q I (c a H Q g)
def J3{x y:A2p}{p:Pos}{a b:WE×WT}(c:Good X x a)(d:Good X y b):Good X (.BoolOp .And [x,y] p) (OI a.1 b.1,Dm a.2 b.2):=
 have e:PW X (.BoolOp .And [x,y] p) (liftT X.K (Dm a.2 b.2)):=Fm _ (N9 c.pt (Qt d.pt)) (HC c.mt d.mt)
 {pe:=j5 _ (NB c.pe (NA d.pe)) (KL c.m d.m),pt:=e.pt,m := .and c.m d.m,mt := .and c.mt d.mt,pw:=λ_ _ _ _=>e}
def J4{x y z:A2p}{e:U A2p}{p:Pos}{a b:WE×WT}(c:Good X x a)(d:Good X (.BoolOp .And (y::z::e) p) b):Good X (.BoolOp .And (x::y::z::e) p) (OI a.1 b.1,Dm a.2 b.2):=
 have f:PW X (.BoolOp .And (x::y::z::e) p) (liftT X.K (Dm a.2 b.2)):=Fm _ (N9 c.pt (d.pw _ _ _ J)) (HC c.mt d.mt)
 {pe:=j5 _ (NB c.pe d.pe) (KL c.m d.m),pt:=f.pt,m := .and c.m d.m,mt := .and c.mt d.mt,pw:=λ_ _ _ _=>f}
def MI{x y:A2p}{p:Pos}{a b:WE×WT}(c:Good X x a)(d:Good X y b):Good X (.BoolOp .Or [x,y] p) (wOr a.1 b.1,Ir a.2 b.2):=
 have e:PW X (.BoolOp .Or [x,y] p) (liftT X.K (Ir a.2 b.2)):=Fm _ (TZ c.pt (UL d.pt)) (KM c.mt d.mt)
 {pe:=j5 _ (Tc c.pe (NA d.pe)) (Oq c.m d.m),pt:=e.pt,m := .or c.m d.m,mt := .or c.mt d.mt,pw:=λ_ _ _ _=>e}
def MJ{x y z:A2p}{e:U A2p}{p:Pos}{a b:WE×WT}(c:Good X x a)(d:Good X (.BoolOp .Or (y::z::e) p) b):Good X (.BoolOp .Or (x::y::z::e) p) (wOr a.1 b.1,Ir a.2 b.2):=
 have f:PW X (.BoolOp .Or (x::y::z::e) p) (liftT X.K (Ir a.2 b.2)):=Fm _ (TZ c.pt (d.pw _ _ _ J)) (KM c.mt d.mt)
 {pe:=j5 _ (Tc c.pe d.pe) (Oq c.m d.m),pt:=f.pt,m := .or c.m d.m,mt := .or c.mt d.mt,pw:=λ_ _ _ _=>f}
def MK{x:A2p}{p:Pos}{a:WE×WT}(b:Good X x a):Good X (.UnaryOp .Not x p) (Rk a.1,KC a.2) where
 pe:=j5 _ (UN b.pe) (Rw b.m)
 pt:=Fb _ (UM b.pt) (Os b.mt)
 m := .not b.m
 mt := .not b.mt
 pw:=λ_ _ _ e=>by cases e
def ML{t x y:A2p}{p:Pos}{c a b:WE×WT}(d:Good X t c)(f:Good X x a)(g:Good X y b):Good X (.IfExp t x y p) (Rm c.2 a.1 b.1,λ_ _ _=>False) where
 pe:=j5 _ (NC d.pt f.pe g.pe) (Rx d.mt f.m g.m)
 pt:=HA
 m := .ifE d.mt f.m g.m
 mt:=λ_ _ _ _ _ h=>h
 pw:=λ_ _ _ e=>by cases e
def VR{i:Nat}{x:Str}{p:Pos}{N:U Str}{c:A2D}{T:U Str}{d:Nat->Sn}{k:Nat}(C:Cok T d X k N c)(e:N[i]?=O x)(a:vis c x=aC)(f:(x == ("__debug__":Str))=aD)(g:(x == ("__classdict__":Str))=aD):PE X (.Name x p) (N7 i):=by
 have b:Vis X.env.scope x:=by
  rw[C.hs];unfold vis at a;simp only[ZU,bQ]at a;rcases a with(a | a) | a
  ·exact .inl a
  ·exact .inr (.inl a)
  ·exact .inr (.inr a)
 exact N8 (i:=i) (by rw[C.hN];exact e) b f g
def Ry{x:SV}{k:Const}{j:Nat}{p:Pos}(h:XI x k=aC):Good X (.Constant k j p) (tt1 (wC x)):=by
 refine .one ?_ .c J;cases x with
 | non=>cases k with
   | none=>exact j5 _ UJ (Gi λ_ _=>rl_non.mpr J)
   | _=>cases h
 | bl=>cases k with
   | bool=>cases eq_of_beq h;exact j5 _ W7 (Gi λ_ _=>rl_bl.mpr J)
   | _=>cases h
 | int=>cases k with
   | int=>cases of_decide_eq_true h;exact j5 _ UI (Gi λ_ _=>rl_int.mpr J)
   | _=>cases h
 | str=>cases k with
   | str=>cases of_decide_eq_true h;exact j5 _ UK (Gi λ_ _=>rl_str.mpr J)
   | _=>cases h
 | _=>cases h
def CK{b:A2p}(h:u8 b=aC):Jt b:=λo i=>by cases b<;>first | rfl | cases h
def Ot{x y:A2p}{p:Pos}{a b:WE×WT}(c:Good X x a)(d:Good X y b)(h:u8 y=aC):Good X (.Subscript x y p) (tt1 (w2 sIx a.1 b.1)):=
 .one (j5 _ (Wh (ix_list.or Ui) c.pe d.pe (CK h)) (By VD .ix c.m d.m)) (.two .ix c.m d.m) J
def XO(K:YZ)(as:U Y)(H:Hp)(Q:Option Int->Hp->Prop):Option Int->Sto->Prop:=λb S'=>∀ a c,Go as H a c->Ok K a c S'->Q b c
noncomputable def HD(K:YZ)(w:WO):St->Hp->(Option Int->Hp->Prop)->Prop:=λb H Q=>∃ as a S,Ok K as H S/\EnvOk K as H b a/\w a S (XO K as H Q)
def MonoO(w:WO):Prop:=∀ a S (P b:Option Int->Sto->Prop),(∀ x S',P x S'->b x S')->w a S P->w a S b
def MonoO.no:MonoO VI:=λ_ _ _ _ i h=>i _ _ h
def MonoO.yes{w:WE}(m:Mono w):MonoO (OK w):=λ_ _ _ _ i h=>m _ _ _ _ (by rintro x S1 ⟨k,e,q⟩;exact⟨k,e,i _ _ q⟩) h
def XQ:PO X aB (HD X.K VI):=by rintro a s b H Q I ⟨c,e,S,d,f,h⟩;exact R9 a s b H Q I (h c H (Go.refl _ _) d)
def VT{x:A2p}{a:WE×WT}(f:Good X x a):PO X (O x) (HD X.K (OK a.1)):=λb s g H Q I ⟨i,j,S,l,n,h⟩=>
 RA f.pe b s g H Q I ⟨i,j,S,l,n,f.m _ _ _ _ (by rintro y S1 ⟨k,e,q⟩ c o v p d r;exact⟨k,by subst e;exact rl_int.mp r,q c o p d⟩) h⟩
def RlAll.cut{K:YZ}{a:U Y}{H:Hp}{b:U SV}{c:U V}(h:RlAll K a H c b)(d e:Option Int):RlAll K a H (GY c d e) (Fk b d e):=by unfold GY Fk;rw[h.length];exact(h.drop _).take _
def Du{x:SV}{c d:Option Int}{S:Sto}{P e:QE}(i:∀ x f,P x f->e x f)(h:OL x c d S P):OL x c d S e:=by
 unfold OL at h ⊢;split at h
 ·obtain⟨g,a,b⟩:=h;exact⟨g,a,i _ _ b⟩
 ·exact i _ _ h
 ·exact h.elim
def Rz{K:YZ}{d:U Y}{H:Hp}{S:Sto}{Q:VK}{x:SV}{v:V}{l k:Option Int}(f:Ok K d H S)(r:Rl K d H v x)(h:OL x l k S (Post K d H Q)):Wk K v l k H Q\/Wg K v l k H Q\/Wt K v l k H Q:=by
 cases x with
 | loc j=>
   obtain⟨g,o,p⟩:=h;obtain⟨b,a,rfl,_,i,c⟩:=p0 f r o;exact .inl ⟨b,a,J,SqL.of i,AT f (c.cut l k) p⟩
 | tup g=>
   obtain⟨b,a,rfl,i,c⟩:=rl_tup.mp r;by_cases m:HT.sIx a.length 0 l=0/\HT.sIx a.length a.length k=a.length
   ·refine .inr (.inr ⟨b,a,J,SqT.of i,m,?_⟩)
    have e:Fk g l k=g:=by
     unfold Fk;rw[<-c.length,m.1,m.2,c.length];simp
    have n:Post K d H Q (.tup (Fk g l k)) S:=h;rw[e]at n;exact n.here f r
   ·exact .inr (.inl ⟨b,a,J,SqT.of i,m,Bj f (c.cut l k) h⟩)
 | _=>exact False.elim h
def MM{x:A2p}{z A:Option A2p}{p D:Pos}{a:WE×WT}{f j:WO}(n:Good X x a)(E:PO X z (HD X.K f))(G:PO X A (HD X.K j))(B:MonoO f)(C:MonoO j):Good X (.Subscript x (.Slice z A aB D) p) (tt1 (VJ a.1 f j)):=by refine .one (j5 _ (NQ (sl_list.or (sl_tup.or RJ)) n.pe E G) ?_) (λe S P R i h=>n.m _ _ _ _ (λx S1 h=>B _ _ _ _ (λl S2 h=>C _ _ _ _ (λk I h=>Du i h) h) h) h) J;rintro T H Q ⟨L,e,S,o,q,h⟩;refine⟨L,e,S,o,q,n.m _ _ _ _ (λx S1 h r V v c b M=>?_) h⟩;refine⟨r,e,S1,b,q.mono c.pre (c.ku o),B _ _ _ _ (λl S2 h s W d t=>?_) h⟩;refine⟨s,e,S2,t,(q.mono c.pre (c.ku o)).mono d.pre (d.ku b),C _ _ _ _ (λk I h N H3 u w=>?_) h⟩;have y:=Rl.mono (d.trans u).pre ((d.trans u).ku b) x v M;have g:=(c.trans d).trans u;exact Rz w y (Du (λ_ _ h=>h.mono g) h)
end
end Rf
namespace PySem
structure ZipFar(z TI TO i1 i2:Y)(f1 f2:List Y):Prop where
 iz:TI≠z/\TO≠z/\i1≠z/\i2≠z
 im:TI≠TO/\TI≠i1/\TI≠i2/\TO≠i1/\TO≠i2/\i1≠i2
 g1:∀ c∈f1,c≠z/\c≠TO/\c≠i2
 g2:∀ c∈f2,c≠z/\c≠TO/\c≠i1
section
variable{prog:A2r}{w:A2u}{A:A2w}{E:F->A2m->Prop}{s:A2m}
theorem Fn{z TI TO l m:Y}{f1 f2:U Y}{n1 n2 k:Nat}{P1 P2:Nat->F->Prop}{S1 S2:Nat->A2y->Prop}{Q:F->A2m->Prop}
 (P:Draws prog w A l f1 n1 P1 S1) (S:Draws prog w A m f2 n2 P2 S2) (f:ZipFar z TI TO l m f1 f2) (n:IsZip s.heap z TI TO .none) (hI:A2Q s.heap TI (.ref l) (.ref m)) (T:∃ a b,A2Q s.heap TO a b)
 (t1:S1 k s.heap) (t2:S2 k s.heap) (l1:k<n1) (l2:k<n2)
 (hQ:∀ x y h tk,P1 k x->P2 k y->IsZip h z TI TO (rawInt s.heap.objs.size)->(∃ a b,A2Q h TO a b)->S1 (k+1) h->S2 (k+1) h->A2Q h s.heap.objs.size x y->h.objs.size=s.heap.objs.size+1->
   (∀ c o,c≠z->c≠TO->c≠l->c≠m->s.heap.get? c=O o->h.get? c=O o)->Q (.ref s.heap.objs.size) {s with heap:=h,toks:=tk}):
 A2o (A2q prog w) A (Builtin.«zip.__next__» ⟨[.ref z],[]⟩) (λV s'=>∃ v,V = .done (.ret v)/\Q v s') E s:=by
 obtain⟨a,b,T⟩:=T;obtain⟨z1,I,z3,z4⟩:=f.iz;obtain⟨m1,m2,m3,m4,m5,m6⟩:=f.im;have p:∀{R:F->A2m->Prop},R (.bool aD) s->A2o (A2q prog w) A (field (.ref z) 2) R E s:=λq=>A2F n J (x := .bool aD) J q;show A2o _ _ (field (.ref z) 2 >>= _) _ _ _;refine Z (p ?_);show A2o _ _ (field (.ref z) 3 >>= _) _ _ _;refine Z (A2F n J (x := .ref TI) J (Z (A2E hI J ?_)));show A2o _ _ (Builtin.SmallTypes.ownedTupleIsFree (.ref z) >>= _) _ _ _;refine Z ?_;unfold Builtin.SmallTypes.ownedTupleIsFree;refine Z (A2F n J (x := .none) J (A2l ?_));simp only[if_true];refine Z (A2K (Z (A2F n J (x := .ref TO) J (Z (A32 n (by simp) λW X r=>Z ?_)))));replace X:IsZip W z TI TO .ellipsis:=X;simp only[A1P,A1U,A0x,A0A];refine Z (Z (A4w ?_));show A2o _ _ (Builtin.SmallTypes.nextOf (.ref l) >>= _) _ _ _;have a0:S1 k W:=P.frame _ _ _ t1 λc t o e=>r.extBut _ _ (f.g1 c t).1 e;refine Z (P.item k {s with heap:=W} _ _ l1 a0 λx hb tb px a1 u=>A2l ?_);have Ob:A2Q hb TO a b:=u.extBut _ _ m4 (r.extBut _ _ I T);refine Z (A2E Ob J (Z (A4l Ob λt Oc B=>?_)));replace Oc:A2Q t TO x b:=Oc;refine Z (A3s (A2l ?_));refine Z (Z (A4w ?_));show A2o _ _ (Builtin.SmallTypes.nextOf (.ref m) >>= _) _ _ _;have a2:S2 k t:=S.frame _ _ _ t2 λc g o e=>B.extBut _ _ (f.g2 c g).2.1 (u.extBut _ _ (f.g2 c g).2.2 (r.extBut _ _ (f.g2 c g).1 e));refine Z (S.item k {s with heap:=t,toks:=tb} _ _ l2 a2 λy hd td py a3 C=>A2l ?_);have Od:A2Q hd TO x b:=C.extBut _ _ m5 Oc;refine Z (A2E Od J (Z (A4l Od λd K D=>?_)));replace K:A2Q d TO x y:=K;refine Z (A3s (A2l (A2l ?_)));refine Z (A2E K J (Z (A3M ?_)));have G:d.objs.size=s.heap.objs.size:=by rw[D.1,C.1,B.1,u.1,r.1]
 have ze:IsZip d z TI TO .ellipsis:=D.extBut _ _ I.symm (C.extBut _ _ z4.symm (B.extBut _ _ I.symm (u.extBut _ _ z3.symm X)));have kk:∀ c o,c≠z->c≠TO->c≠l->c≠m->s.heap.get? c=O o->d.get? c=O o:=λc o i L c3 c4 e=>D.extBut _ _ L (C.extBut _ _ c4 (B.extBut _ _ L (u.extBut _ _ c3 (r.extBut _ _ i e))));have lz:z<d.objs.size:=Yk ze;show A2o _ _ (Builtin.SmallTypes.ownedTupleHandOut (.ref z) (.ref d.objs.size) >>= _) _ _ _;refine Z ?_;unfold Builtin.SmallTypes.ownedTupleHandOut;have zf:IsZip (d.push {cls := .type "tuple",data := .seq #[x,y]}) z TI TO .ellipsis:=Yf _ ze;refine Z (A32 zf (by simp) λhf j kf=>?_);replace j:IsZip hf z TI TO (rawInt d.objs.size):=j;refine A32 j (by simp) λH M kg=>?_;replace M:IsZip H z TI TO (rawInt d.objs.size):=M;have N:∀ c o,c≠z->d.get? c=O o->H.get? c=O o:=λc o i e=>kg.extBut _ _ i (kf.extBut _ _ i (Yf _ e));have Tg:A2Q H d.objs.size x y:=kg.extBut _ _ (A0z lz) (kf.extBut _ _ (A0z lz) (Yn _ J));have sg:H.objs.size=d.objs.size+1:=by rw[kg.1,kf.1,ZN]
 rw[G]at M Tg sg;refine A2l ⟨_,J,?_⟩;show Q (.ref d.objs.size) _;rw[G]
 refine hQ x y H td px py M ⟨x,y,N _ _ I K⟩ (P.frame _ _ _ a1 λc g o e=>N c o (f.g1 c g).1 (D.extBut _ _ (f.g1 c g).2.1 (C.extBut _ _ (f.g1 c g).2.2 (B.extBut _ _ (f.g1 c g).2.1 e))))
  (S.frame _ _ _ a3 λc g o e=>N c o (f.g2 c g).1 (D.extBut _ _ (f.g2 c g).2.1 e)) Tg sg λc o i L c3 c4 e=>N c o i (kk c o i L c3 c4 e)
def HE{z TI TO b u:Y}{j:U Y}{k:Nat}{v:Nat->F->Prop}{S1:Nat->A2y->Prop}{Q:Fin->A2m->Prop}
 (l:Draws prog w A b j k v S1) (y:b≠z) (B:∀ c∈j,c≠z) (d:IsZip s.heap z TI TO .none) (C:A2Q s.heap TI (.ref b) (.ref u)) (D:S1 k s.heap)
 (G:∀ g e,(∀ c o,c≠z->c≠b->s.heap.get? c=O o->g.get? c=O o)->(∃ o,g.get? e=O o/\o.cls = .type "StopIteration")->E (.ref e) {s with heap:=g}):
 A2o (A2q prog w) A (Builtin.«zip.__next__» ⟨[.ref z],[]⟩) Q E s:=by
 show A2o _ _ (field (.ref z) 2 >>= _) _ _ _;refine Z (A2F d J (x := .bool aD) J ?_);show A2o _ _ (field (.ref z) 3 >>= _) _ _ _;refine Z (A2F d J (x := .ref TI) J (Z (A2E C J ?_)));show A2o _ _ (Builtin.SmallTypes.ownedTupleIsFree (.ref z) >>= _) _ _ _;refine Z ?_;unfold Builtin.SmallTypes.ownedTupleIsFree;refine Z (A2F d J (x := .none) J (A2l ?_));simp only[if_true];refine Z (A2K (Z (A2F d J (x := .ref TO) J (Z (A32 d (by simp) λm h n=>Z ?_)))));replace h:IsZip m z TI TO .ellipsis:=h;simp only[A1P,A1U,A0x,A0A];refine Z (Z (A4w ?_));show A2o _ _ (Builtin.SmallTypes.nextOf (.ref b) >>= _) _ _ _;refine Z (l.done {s with heap:=m} _ _ (l.frame _ _ _ D λc i o e=>n.extBut _ _ (B c i) e) λH e p I=>?_);obtain⟨K,a,f⟩:=I;have q:IsZip H z TI TO .ellipsis:=p _ _ y.symm h;have L:e≠z:=λx=>by subst x;rw[q]at a;cases a;simp at f
 exact A32 q (by simp) λi _ r=>G i e (λc o t M x=>r.extBut _ _ t (p _ _ M (n.extBut _ _ t x))) ⟨K,r.extBut _ _ L a,f⟩
def B1{z TI TO e f:Y}{h i:U Y}{j l k:Nat}{m n:Nat->A2k->Prop}{S1 S2:Nat->A2y->Prop}{Q:Option A2k->A2m->Prop}
 (r:Draws prog w A.in1 e h j m S1) (t:Draws prog w A.in1 f i l n S2) (u:ZipFar z TI TO e f h i) (p:IsZip s.heap z TI TO .none) (v:A2Q s.heap TI (.ref e) (.ref f)) (B:∃ a b,A2Q s.heap TO a b)
 (C:S1 k s.heap) (D:S2 k s.heap) (l1:k<j) (l2:k<l)
 (G:∀ x y d g,m k x->n k y->IsZip d z TI TO (rawInt s.heap.objs.size)->(∃ a b,A2Q d TO a b)->S1 (k+1) d->S2 (k+1) d->A2Q d s.heap.objs.size x y->d.objs.size=s.heap.objs.size+1->
   (∀ c o,c≠z->c≠TO->c≠e->c≠f->s.heap.get? c=O o->d.get? c=O o)->Q (O (.ref s.heap.objs.size)) {s with heap:=d,toks:=g}):
 A2o (A2q prog w) A (pyNext (.ref z)) Q E s:=by
 have q:s.TypeIs (.ref z) "zip":=⟨_,p,J⟩
 unfold pyNext
 exact Z (A31 (A2B (name:=Str.ofString "__next__") q F.slot_zip_next
  (A2C F.slot_zip_next q F.entry_zip_next (Fn r t u p v B C D l1 l2 λx y d g a1 a2 H I K L M N P=>A2l (G x y d g a1 a2 H I K L M N P)) (F.args_zip_next_1 _))))
def BF{z TI TO a j:Y}{f:U Y}{g:Nat}{k:Nat->A2k->Prop}{S1:Nat->A2y->Prop}{Q:Option A2k->A2m->Prop}
 (l:Draws prog w A.in1 a f g k S1) (m:a≠z) (n:∀ c∈f,c≠z) (h:IsZip s.heap z TI TO .none) (p:A2Q s.heap TI (.ref a) (.ref j)) (q:S1 g s.heap)
 (r:∀ d,(∀ c o,c≠z->c≠a->s.heap.get? c=O o->d.get? c=O o)->Q aB {s with heap:=d}):A2o (A2q prog w) A (pyNext (.ref z)) Q E s:=by
 have i:s.TypeIs (.ref z) "zip":=⟨_,h,J⟩
 unfold pyNext
 refine Z (A31 (A2B (name:=Str.ofString "__next__") i F.slot_zip_next
  (A2C F.slot_zip_next i F.entry_zip_next (HE l m n h p q λd e t u=>?_) (F.args_zip_next_1 _))))
 obtain⟨o,v,x⟩:=u;exact Z (A3m (T:="StopIteration") (b:=aC) ⟨o,v,x⟩ A3L (A2l (r _ t)))
end
abbrev SA(l:Y):Obj:={cls := .type "tuple_iterator",data := .fields #[.ref l,.int 0 0]}
end PySem
namespace L2
open PySem PySem.Spec PyProof.Rows
def KN{z TI TO b d l1 l2:Y}(D:A3N z TI TO b d l1 l2):ZipFar z TI TO b d [b,l1] [d,l2] where
 iz:=⟨D.TIz,D.TOz,D.i1z,D.i2z⟩
 im:=⟨D.TITO,D.TIi1,D.TIi2,D.TOi1,D.TOi2,D.i12⟩
 g1:=λc a=>by
  rcases Yp.mp a with rfl | a
  ·exact⟨D.i1z,D.TOi1.symm,D.i12⟩
  ·rw[Yt.mp a];exact⟨D.l1z,D.l1TO,D.l1i2⟩
 g2:=λc a=>by
  rcases Yp.mp a with rfl | a
  ·exact⟨D.i2z,D.TOi2.symm,D.i12.symm⟩
  ·rw[Yt.mp a];exact⟨D.l2z,D.l2TO,D.l2i1⟩
def J5:A3H (.type "zip") "keys"=pure aB:=A45 (by kernel_rfl)
def D1:A3H (.type "zip") "__getattr__"=pure aB:=A45 (by kernel_rfl)
def Fo:A4I table "zip.__getattribute__"=O Builtin.«object.__getattribute__»:=
 A4h (id':="object.__getattribute__") (by kernel_rfl) (by decide +kernel) (by decide +kernel) (by kernel_rfl)
def Ou(a:Y)(c:Array F)(u:Tok):Meets (Builtin.«object.__getattribute__» ⟨[.ref a,.str "keys" u],[]⟩) (λA R s=>s.heap.get? a=O {cls := .type "zip",data := .fields c}/\raisesAttr (.ref a) "keys" A R s):=
 Meets.of_wp λprog w A R s b=>by
  obtain⟨e,g,d,f,h⟩:=s;obtain⟨i,b⟩:=b;have j:(⟨e,g,d,f,h⟩:A2m).TypeIs (.ref a) "zip":=⟨_,i,J⟩
  have k:=J5;unfold Builtin.«object.__getattribute__»
  repeat (any_goals (first | assumption | wp_step))
  exact wpAny_raiseAttrError b.1 b.2 (attrMsg_fits (by decide +kernel) (by size_fits))
section
variable{prog:A2r}{w:A2u}{A:A2w}{E:F->A2m->Prop}{s:A2m}
def J6{a:Y}{vs:Array A2k}{Q:Option A2k->A2m->Prop}(hx:s.heap.get? a=O {cls := .type "zip",data := .fields vs})(hA:A.handled=aB)
 (h:∀ h' tk,(∀ b ob,s.heap.get? b=O ob->h'.get? b=O ob)->Q aB {s with heap:=h',toks:=tk}):A2o (A2q prog w) A (A56 (.ref a) "keys") Q E s:=by
 obtain⟨hp,g,d,tk,os⟩:=s;have hT:∀ tk',(⟨hp,g,d,tk',os⟩:A2m).TypeIs (.ref a) "zip":=λ_=>⟨_,hx,J⟩
 have f1:=A4B;have f3:=F.slot_zip_getattribute.lookup;have f4:=F.slot_zip_getattribute.bind (.ref a);have f5:=D1;unfold A56 getAttrBy? getAttrBy
 repeat (any_goals (first | assumption | exact hT _ | ((with_reducible show A2o _ _ (call (Value.builtin "zip.__getattribute__") _ _) _ _ _);refine A3k F.slot_zip_getattribute (hT _) Fo (F.args_zip_getattribute_2 _ _) (Ou a vs _) ⟨hx,hA,λh' tk' e hx'=>?_⟩) | wp_step))
 obtain⟨t',u',he⟩:=hx'.there;show A2o _ _ (A3q _ _ _ _ _ _ _) _ _ _;unfold A3q
 repeat (any_goals (first | assumption | wp_step))
 exact h _ _ hx'.keeps
end
abbrev ZipL(h:A2y)(z TI TO:Y)(T:Nat)(b:Bool):Prop:=h.get? z=O {cls := .type "zip",dict:=aB,data := .fields #[rawInt T,.bool b,.bool aD,.ref TI,.ref TO],slots:=#[]}
section
variable{prog:A2r}{w:A2u}{A:A2w}{E:F->A2m->Prop}{s:A2m}
def F9{z TI TO:Y}{T:Nat}{b:Bool}{e:Obj}(c:ZipL s.heap z TI TO T b)(f:s.heap.get? T=O e){R:Bool->A2m->Prop}(d:∀ a,ZipL a z TI TO T aC->Z7 z s.heap a->R aD {s with heap:=a}):A2o (A2q prog w) A (Builtin.SmallTypes.ownedTupleIsFree (.ref z)) R E s:=by
 unfold Builtin.SmallTypes.ownedTupleIsFree;refine Z (A2F c J (x:=rawInt T) J ?_);show A2o _ _ (loadIfAlive ((T:Nat):Int).toNat >>= _) _ _ _;rw[ZX];refine Z (PySem.W.kdx_alive f ?_);simp only[Option.isNone_some,ZR,if_false];refine Z (A2F c J (x := .bool b) J ?_);cases b with
 | true=>exact Z (A2l (A2l (d _ c (Z7.refl ..))))
 | false=>exact Z (A32 c (by simp) λa g h=>A2l (d a g h))
def MN{z TI TO g h:Y}{H I:U Y}{K L k:Nat}{M N:Nat->F->Prop}{S1 S2:Nat->A2y->Prop}{T:Nat}{b:Bool}{S:Obj}{Q:F->A2m->Prop}
 (q:Draws prog w A g H K M S1) (r:Draws prog w A h I L N S2) (f:ZipFar z TI TO g h H I) (t:ZipL s.heap z TI TO T b) (V:s.heap.get? T=O S) (W:A2Q s.heap TI (.ref g) (.ref h))
 (X:S1 k s.heap) (t2:S2 k s.heap) (l1:k<K) (l2:k<L)
 (hQ:∀ x y a tk,M k x->N k y->ZipL a z TI TO T aC->S1 (k+1) a->S2 (k+1) a->A2Q a s.heap.objs.size x y->a.objs.size=s.heap.objs.size+1->
   (∀ c o,c≠z->c≠g->c≠h->s.heap.get? c=O o->a.get? c=O o)->Q (.ref s.heap.objs.size) {s with heap:=a,toks:=tk}):
 A2o (A2q prog w) A (Builtin.«zip.__next__» ⟨[.ref z],[]⟩) (λu s'=>∃ v,u = .done (.ret v)/\Q v s') E s:=by
 obtain⟨z1,z2,z3,z4⟩:=f.iz;obtain⟨m1,m2,m3,m4,m5,m6⟩:=f.im;show A2o _ _ (field (.ref z) 2 >>= _) _ _ _;refine Z (A2F t J (x := .bool aD) J ?_);show A2o _ _ (field (.ref z) 3 >>= _) _ _ _;refine Z (A2F t J (x := .ref TI) J (Z (A2E W J ?_)));show A2o _ _ (Builtin.SmallTypes.ownedTupleIsFree (.ref z) >>= _) _ _ _;refine Z (F9 t V λP za l=>?_);simp only[ZR,if_false];refine Z ?_;rw[<-A1B];simp only[A0x,A0A];refine Z (Z (A2A ?_));show A2o _ _ (Builtin.SmallTypes.nextOf (.ref g) >>= _) _ _ _;have B:S1 k P:=q.frame _ _ _ X λc hc o e=>l.extBut _ _ (f.g1 c hc).1 e;refine Z (q.item k {s with heap:=P} _ _ l1 B λx R tb px C m=>A2l (A2l ?_));refine Z (Z (A2A ?_));show A2o _ _ (Builtin.SmallTypes.nextOf (.ref h) >>= _) _ _ _;have D:S2 k R:=r.frame _ _ _ t2 λc i o e=>m.extBut _ _ (f.g2 c i).2.2 (l.extBut _ _ (f.g2 c i).1 e);refine Z (r.item k {s with heap:=R,toks:=tb} _ _ l2 D λy d td py G n=>A2l (A2l (A2l ?_)));have zd:ZipL d z TI TO T aC:=n.extBut _ _ z4.symm (m.extBut _ _ z3.symm za);have j:d.objs.size=s.heap.objs.size:=by rw[n.1,m.1,l.1]
 refine Z (A3M ?_ (by show 2<=_;decide));refine A2l ⟨_,J,?_⟩;have p:∀ c o,d.get? c=O o->(d.push {cls := .type "tuple",data := .seq #[x,y]}).get? c=O o:=λc o e=>Yf _ e;have Tg:A2Q (d.push {cls := .type "tuple",data := .seq #[x,y]}) d.objs.size x y:=Yn _ J;show Q (.ref d.objs.size) _;rw[j]at Tg ⊢;exact hQ x y _ td px py (p _ _ zd) (q.frame _ _ _ C λc i o e=>p c o (n.extBut _ _ (f.g1 c i).2.2 e)) (r.frame _ _ _ G λc i o e=>p c o e) Tg (by rw[ZN,j]) λc o c1 c3 c4 e=>p c o (n.extBut _ _ c4 (m.extBut _ _ c3 (l.extBut _ _ c1 e)))
def Ov{z TI TO a k:Y}{g:U Y}{h:Nat}{l:Nat->F->Prop}{S1:Nat->A2y->Prop}{T:Nat}{b:Bool}{m:Obj}{Q:Fin->A2m->Prop}
 (i:Draws prog w A a g h l S1) (H:a≠z) (n:∀ c∈g,c≠z) (d:ZipL s.heap z TI TO T b) (p:s.heap.get? T=O m) (q:A2Q s.heap TI (.ref a) (.ref k)) (r:S1 h s.heap)
 (t:∀ f e,(∀ c o,c≠z->c≠a->s.heap.get? c=O o->f.get? c=O o)->(∃ o,f.get? e=O o/\o.cls = .type "StopIteration")->E (.ref e) {s with heap:=f}):
 A2o (A2q prog w) A (Builtin.«zip.__next__» ⟨[.ref z],[]⟩) Q E s:=by show A2o _ _ (field (.ref z) 2 >>= _) _ _ _;refine Z (A2F d J (x := .bool aD) J ?_);show A2o _ _ (field (.ref z) 3 >>= _) _ _ _;refine Z (A2F d J (x := .ref TI) J (Z (A2E q J ?_)));show A2o _ _ (Builtin.SmallTypes.ownedTupleIsFree (.ref z) >>= _) _ _ _;refine Z (F9 d p λu I j=>?_);simp only[ZR,if_false];refine Z ?_;rw[<-A1B];simp only[A0x,A0A];refine Z (Z (A2A ?_));show A2o _ _ (Builtin.SmallTypes.nextOf (.ref a) >>= _) _ _ _;refine Z (i.done {s with heap:=u} _ _ (i.frame _ _ _ r λc v o e=>j.extBut _ _ (n c v) e) λy e B C=>?_);exact t y e (λc o D G x=>B _ _ G (j.extBut _ _ D x)) C
end
structure StZ(z TI TO i1 i2 l1 l2 d:Y)(xs ys:Array F)(i:Nat)(h:A2y):Prop where
 zip:(i=0/\IsZip h z TI TO .none/\∃ a b,A2Q h TO a b)\/∃(T:Nat) (b:Bool) (o:Obj),ZipL h z TI TO T b/\h.get? T=O o/\T≠z/\T≠i1/\T≠i2/\T≠d
 ti:A2Q h TI (.ref i1) (.ref i2)
 w1:h.IsListIter i1 l1 i/\h.IsList l1 xs
 w2:h.IsListIter i2 l2 i/\h.IsList l2 ys
section
variable{prog:A2r}{w:A2u}{A:A2w}{E:F->A2m->Prop}{s:A2m}{z TI TO i1 i2 l1 l2 d:Y}{xs ys:Array F}{i:Nat}
def Fp(D:A3N z TI TO i1 i2 l1 l2):ZipFar z TI TO i1 i2 [i1,l1] [i2,l2] where
 iz:=⟨D.TIz,D.TOz,D.i1z,D.i2z⟩
 im:=⟨D.TITO,D.TIi1,D.TIi2,D.TOi1,D.TOi2,D.i12⟩
 g1:=λc a=>by
  rcases Yp.mp a with rfl | a
  ·exact⟨D.i1z,D.TOi1.symm,D.i12⟩
  ·rw[Yt.mp a];exact⟨D.l1z,D.l1TO,D.l1i2⟩
 g2:=λc a=>by
  rcases Yp.mp a with rfl | a
  ·exact⟨D.i2z,D.TOi2.symm,D.i12.symm⟩
  ·rw[Yt.mp a];exact⟨D.l2z,D.l2TO,D.l2i1⟩
def MO(D:A3N z TI TO i1 i2 l1 l2)(q:A.handled=aB){N:Obj}(P:s.heap.get? d=O N)(a:StZ z TI TO i1 i2 l1 l2 d xs ys i s.heap){x y:A2k}(l:xs[i]?=O x)(m:ys[i]?=O y){Q:Option A2k->A2m->Prop}
 (r:∀ g j,StZ z TI TO i1 i2 l1 l2 d xs ys (i+1) g->A2Q g s.heap.objs.size x y->(∀ c o,c∉[z,TO,i1,i2]->s.heap.get? c=O o->g.get? c=O o)->Q (O (.ref s.heap.objs.size)) {s with heap:=g,toks:=j}):
 A2o (A2q prog w) A (pyNext (.ref z)) Q E s:=by
 have t:s.TypeIs (.ref z) "zip":=by
  rcases a.zip with⟨_,h,_⟩ | ⟨_,_,_,h,_⟩<;>exact⟨_,h,J⟩
 have B:=Draws.list (prog:=prog) (w:=w) (A:=A.in1) (show A.in1.handled=aB from q) i1 l1 D.l1i1 xs;have C:=Draws.list (prog:=prog) (w:=w) (A:=A.in1) (show A.in1.handled=aB from q) i2 l2 D.l2i2 ys;have G:i<xs.size:=(A0s.mp l).1;have H:i<ys.size:=(A0s.mp m).1;have k:∀{c o},s.heap.get? c=O o->(s.heap.objs.size:Nat)≠c:=λe=>A0z (Yk e);obtain⟨X,R,_⟩:=a.w1.1;obtain⟨o2,S,_⟩:=a.w2.1;rcases a.zip with⟨_,h,V⟩ | ⟨T,b,o,h,I,K,L,M,W⟩
 ·refine B1 B C (Fp D) h a.ti V a.w1 a.w2 G H λu v g j n p q1 q2 q3 q4 q5 q6 q7=>?_;obtain rfl:u=x:=by have:=n.symm.trans l;exact oj this
  obtain rfl:v=y:=by have:=p.symm.trans m;exact oj this
  refine r g j ⟨.inr ⟨s.heap.objs.size,aD,_,q1,q5,k h,k R,k S,k P⟩,q7 _ _ D.TIz D.TITO D.TIi1 D.TIi2 a.ti,q3,q4⟩ q5 λc o f e=>?_;simp only[Yp,Zi,or_false,not_or]at f;exact q7 c o f.1 f.2.1 f.2.2.1 f.2.2.2 e
 ·unfold pyNext
  refine Z (A31 (A2B (name:=Str.ofString "__next__") t F.slot_zip_next
   (A2C F.slot_zip_next t F.entry_zip_next (MN B C (Fp D) h I a.ti a.w1 a.w2 G H λu v g j n p q1 q3 q4 q5 q6 q7=>A2l ?_) (F.args_zip_next_1 _))))
  obtain rfl:u=x:=by have:=n.symm.trans l;exact oj this
  obtain rfl:v=y:=by have:=p.symm.trans m;exact oj this
  refine r g j ⟨.inr ⟨T,aC,o,q1,q7 _ _ K L M I,K,L,M,W⟩,q7 _ _ D.TIz D.TIi1 D.TIi2 a.ti,q3,q4⟩ q5 λc o f e=>?_;simp only[Yp,Zi,or_false,not_or]at f;exact q7 c o f.1 f.2.2.1 f.2.2.2 e
def Ow(D:A3N z TI TO i1 i2 l1 l2)(q:A.handled=aB)(g:StZ z TI TO i1 i2 l1 l2 d xs ys xs.size s.heap){Q:Option A2k->A2m->Prop}
 (r:∀ a,(∀ c o,c∉[z,TO,i1,i2]->s.heap.get? c=O o->a.get? c=O o)->Q aB {s with heap:=a}):A2o (A2q prog w) A (pyNext (.ref z)) Q E s:=by
 have m:s.TypeIs (.ref z) "zip":=by
  rcases g.zip with⟨_,h,_⟩ | ⟨_,_,_,h,_⟩<;>exact⟨_,h,J⟩
 have n:=Draws.list (prog:=prog) (w:=w) (A:=A.in1) (show A.in1.handled=aB from q) i1 l1 D.l1i1 xs;have p:∀ c∈[i1,l1],c≠z:=λc f=>((Fp D).g1 c f).1
 have j:∀ a,(∀ c o,c≠z->c≠i1->s.heap.get? c=O o->a.get? c=O o)->Q aB {s with heap:=a}:=λa k=>r a λc o f e=>by
  simp only[Yp,Zi,or_false,not_or]at f;exact k c o f.1 f.2.2.1 e
 rcases g.zip with⟨_,h,v⟩ | ⟨T,b,o,h,l,x,y,B,C⟩
 ·exact BF n D.i1z p h g.ti g.w1 j
 ·unfold pyNext
  refine Z (A31 (A2B (name:=Str.ofString "__next__") m F.slot_zip_next
   (A2C F.slot_zip_next m F.entry_zip_next (Ov n D.i1z p h l g.ti g.w1 λa e t u=>?_) (F.args_zip_next_1 _))))
  obtain⟨o,l,f⟩:=u;exact Z (A3m (T:="StopIteration") (b:=aC) ⟨o,l,f⟩ A3L (A2l (j _ t)))
def StZ.keep{h j:A2y}(f:StZ z TI TO i1 i2 l1 l2 d xs ys i h)(m:d≠z/\d≠TO/\d≠i1/\d≠i2/\d≠TI/\d≠l1/\d≠l2)(k:∀ c o,c≠d->h.get? c=aA o->j.get? c=aA o):StZ z TI TO i1 i2 l1 l2 d xs ys i j:=by
 obtain⟨a1,a2,n,p,q,r,t⟩:=m;refine⟨?_,k _ _ q.symm f.ti,⟨f.w1.1.at λo e=>k _ o n.symm e,f.w1.2.at λo e=>k _ o r.symm e⟩,⟨f.w2.1.at λo e=>k _ o p.symm e,f.w2.2.at λo e=>k _ o t.symm e⟩⟩;rcases f.zip with⟨e,g,a,b,u⟩ | ⟨T,b,o,g,v,x,y,B,l⟩
 ·exact .inl ⟨e,k _ _ a1.symm g,a,b,k _ _ a2.symm u⟩
 ·exact .inr ⟨T,b,o,k _ _ a1.symm g,k _ _ l v,x,y,B,l⟩
def YG{R:Result->A2m->Prop}(D:A3N z TI TO i1 i2 l1 l2)(P:A.handled=aB)(a:d≠z/\d≠TO/\d≠i1/\d≠i2/\d≠TI/\d≠l1/\d≠l2)(f:Nat->Key×F)(u:∀ i,i<xs.size->∃ g,xs[i]?=O g/\(j4 prog w).is (f i).1 g=aC/\ys[i]?=O (f i).2)(hb:xs.size<=A2s):
 ∀(k i:Nat) (s:A2m) (j:Int) (v:Tok),i+k=xs.size->StZ z TI TO i1 i2 l1 l2 d xs ys i s.heap->s.heap.DictOf (j4 prog w) d (merged [] ((Ye i).map f))->
  (∀ h X,(∀ c o,c∉[d,z,TO,i1,i2]->s.heap.get? c=O o->h.get? c=O o)->h.DictOf (j4 prog w) d (merged [] ((Ye xs.size).map f))->R (.ok (.ret .none)) {s with heap:=h,toks:=X})->
  codeAny (A2q prog w) A (.builtin "dict.update.loop" ⟨[.ref d,.ref z,.int j v,.none],[]⟩) R s:=by
 have dn:d∉[z,TO,i1,i2]:=by
  simp only[Yp,Zi,or_false,not_or];exact⟨a.1,a.2.1,a.2.2.1,a.2.2.2.1⟩
 intro k
 induction k with
 | zero=>
   intro i s j v Q x q y;obtain rfl:i=xs.size:=Q;refine A2N Bw ?_;rw[Around.under_plainId AD _];refine Z (m:=pyNext (.ref z)) (Ow D (show A.in1.handled=aB from P) x λh l=>?_);show A2o _ _ (Builtin.Dict.addKeywords d [] >>= _) _ _ _;refine Z (A2l (A2l (y h _ (λc o n e=>l c o (λz=>n (Yh _ z)) e) ?_)));obtain⟨o,B,C,G,r⟩:=q;exact⟨o,B,C,l d o dn G,r⟩
 | succ k ih=>
   intro i s j v Q x q y;refine A2N Bw ?_;rw[Around.under_plainId AD _];obtain⟨g,hx,p,hy⟩:=u i (by lia);have H:=q;obtain⟨o0,a0,a1,I,_⟩:=H;refine Z (m:=pyNext (.ref z)) (MO D (show A.in1.handled=aB from P) I x hx hy λS a2 K V l=>?_)
   have X1:S.DictOf (j4 prog w) d (merged [] ((Ye i).map f)):=by
    obtain⟨o,B,C,G,r⟩:=q;exact⟨o,B,C,l d o dn G,r⟩
   have len:(merged [] ((Ye i).map f)).length<=A2s:=by
    have:=A3w [] ((Ye i).map f);rw[YY,Z0]at this;simp at this
    lia
   refine Z (A2A (Z (A3c ?_)));unfold Builtin.Dict.pairItems;refine Z (A2U (T:="tuple") ⟨_,V,J⟩ ?_);rw[iP (by decide)];refine Z (A2E V J (A2l ?_));refine A2A (A4p p X1 (λW t L=>?_) len)
   have t:W.DictOf (j4 prog w) d (merged [] ((Ye (i+1)).map f)):=by
    rw[ZV,Yo];unfold merged at t ⊢;rw[A0r];exact t
   have oth:∀ b o,b≠d->S.get? b=O o->W.get? b=O o:=λb o M e=>(L.2 b M).trans e;refine A2l ⟨A2M AD _,ih (i+1) _ _ _ (by lia) (K.keep a oth) t λh3 N k3 X3=>?_⟩;refine y h3 N (λc o n e=>k3 c o n (oth c o (λz=>n (by rw[z];exact Yi)) (l c o (λz=>n (Yh _ z)) e))) X3
def VU{kv:Nat->Key×A2k}{Q:A2k->A2m->Prop}(D:A3N z TI TO i1 i2 l1 l2)(L:A.handled=aB)(n:IsZip s.heap z TI TO .none)(B:∃ a b,A2Q s.heap TO a b)(M:A2Q s.heap TI (.ref i1) (.ref i2))(N:s.heap.IsListIter i1 l1 0)(P:s.heap.IsListIter i2 l2 0)(p:s.heap.IsList l1 xs)(q:s.heap.IsList l2 ys)
 (C:∀ i,i<xs.size->∃ t,xs[i]?=O t/\(j4 prog w).is (kv i).1 t=aC/\ys[i]?=O (kv i).2) (S:xs.size<=A2s)
 (h:∀(u:A2y) (G:Nat),u.DictOf (j4 prog w) s.heap.objs.size (merged [] ((Ye xs.size).map kv))->(∀ b o,b∉[z,TO,i1,i2]->s.heap.get? b=O o->u.get? b=O o)->Q (.ref s.heap.objs.size) {s with heap:=u,toks:=G}):
 A2o (A2q prog w) A (call (.type "dict") [.ref z]) Q E s:=by
 refine A57 (Q₁:=λv k=>v = .ref s.heap.objs.size/\k={s with heap:=s.heap.push {cls := .type "dict",data := .dict #[]}}) F.kt_called_dict (F.kt_typeCall_dict_1 _) F.entry_dict_init (A4O _ ⟨J,J⟩) ?_;rintro v k ⟨rfl,rfl⟩;have f:(s.heap.push {cls := .type "dict",data := .dict #[]}).DictOf (j4 prog w) s.heap.objs.size []:=A2h.new s.heap;have H:∀ c o,s.heap.get? c=O o->(s.heap.push {cls := .type "dict",data := .dict #[]}).get? c=O o:=λc o e=>Yf _ e;refine⟨f.typeIs,F.args_dict_init_2 _ _,?_⟩;unfold Builtin.«dict.__init__»;refine Z ?_;unfold Builtin.Dict.selfAndRest;refine Z (A3i f.typeIs ?_);show A2o _ _ (pure (s.heap.objs.size,[Value.ref z])) _ _ _;refine A2l ?_;show A2o _ _ (Builtin.Dict.updateFrom "dict.__init__" s.heap.objs.size (.ref z) [] .none) _ _ _;unfold Builtin.Dict.updateFrom;refine Z (A2U (T:="zip") ⟨_,H _ _ n,J⟩ ?_);rw[iP (by decide)];refine Z (J6 (H _ _ n) (by simp[L]) λR V g=>?_);simp only[A26,if_true];refine Z (A2K ?_);have j:∀ c o,s.heap.get? c=O o->R.get? c=O o:=λc o e=>g _ _ (H c o e);refine Z (A3X (j _ _ n) ?_);refine A2l ⟨A2M AD _,?_⟩;have l:∀{c o},s.heap.get? c=O o->(s.heap.objs.size:Nat)≠c:=λe=>A0z (Yk e);have I:=N;have K:=P;have x:=p;have y:=q;obtain⟨o1,W,_⟩:=N;obtain⟨o2,X,_⟩:=P;obtain⟨p1,f1,_⟩:=p;obtain⟨p2,f2,_⟩:=q;obtain⟨a,b,B⟩:=B
 have hX:R.DictOf (j4 prog w) s.heap.objs.size []:=by
  obtain⟨o,es,ep,ho,r⟩:=f;exact⟨o,es,ep,g _ _ ho,r⟩
 refine YG D (by simp[L]) ⟨l n,l B,l W,l X,l M,l f1,l f2⟩ kv C S xs.size 0 _ _ _ (A1e _) ⟨.inl ⟨J,j _ _ n,a,b,j _ _ B⟩,j _ _ M,⟨I.at λo e=>j _ o e,x.at λo e=>j _ o e⟩,⟨K.at λo e=>j _ o e,y.at λo e=>j _ o e⟩⟩ hX λu G k' X'=>?_;refine⟨J,h u G X' λc o hc e=>k' c o (λm=>?_) (j c o e)⟩;rcases Yp.mp m with m | m
 ·exact l e m.symm
 ·exact hc m
end
section
variable{X:Cx}
def J7:A2v "dict"=O (.type "dict"):=by decide +kernel
def tDz(K:YZ)(ta:TA):TE:=λf H Q=>ta f H λvs c=>∃(a b:Y) (d:U Int) (e:U V),vs=[.ref a,.ref b]/\SqL K c a (d.map V.int)/\SqL K c b e/\d.length<=e.length/\d.length<=900/\∀ l,c l=aB->Q (.ref l) (upd c l (.dK (Aa [] ((d.zip e).map λt=>((.inl t.1:Key),t.2)))))
theorem Ox:∀{c:U Int} {d:U V} {h e:U F},Vals (c.map V.int) h->Vals d e->KV ((c.zip d).map λt=>((.inl t.1:Key),t.2)) ((c.zip e).map λt=>((.inl t.1:Key),t.2))
 | [],_,_,_,_,_ => .nil
 | n::c,d,h,e,f,g=>by
   cases g with
   | nil=>exact .nil
   | cons b g=>
     cases f with
     | cons a f=>exact .cons ⟨J,b⟩ (Ox f g)
theorem SB{a b:A2p}{ta:TA}{p E z f:Pos}(hc:X.calm=aC)(hg:Gl X "dict")(hm:X.mg "dict"=aB)(G:Gl X "zip")(L:X.mg "zip"=aB)(ha:PA X [a,b] ta)(hs:A2x [a,b] X.env=[(aD,eval a X.env),(aD,eval b X.env)]:=by rfl)
 (A:A2x [b] X.env=[(aD,eval b X.env)]:=by rfl) (he:A2x [.Call (.Name "zip" E) [a,b] [] f] X.env=(aD,eval (.Call (.Name "zip" E) [a,b] [] f) X.env)::A2x [] X.env:=by rfl):PE X (.Call (.Name "dict" p) [.Call (.Name "zip" E) [a,b] [] f] [] z) (tDz X.K ta):=by
 intro B s σ H Q I h;refine A2T (AW I hg hm J7 ?_);refine PyProof.Rows.callWith_type1 ?_ he (by rfl);rw[he];show A2o _ _ (spliced ((aD,eval (.Call (.Name "zip" E) [a,b] [] f) X.env)::backTo z (A2x [] X.env))) _ _ s;refine Calls.spliced_cons ?_;refine Call_ (AW I G L Ge (PyProof.Rows.callWith_type1 (thn (ha f B s σ H _ I h) λus k ⟨vs,H1,y,r1,q1⟩=>?_) (by rw[hs,A]) (by rw[A];rfl)));obtain⟨l1,l2,j,ws,e,M,N,hl,h9,q⟩:=q1;subst e;obtain⟨u1,u2,rfl,P,R⟩:=Vals.two r1;cases P;cases R;obtain⟨n,r,v,a0⟩:=y.list M;obtain⟨d,C,w,a1⟩:=y.list N;have n1:=r.length;have n2:=C.length;rw[YY]at n1;have a2:@LT.lt Nat _ l1 k.heap.objs.size:=by obtain⟨o,_,e,_⟩:=v;exact Yk e
 have a3:@LT.lt Nat _ l2 k.heap.objs.size:=by obtain⟨o,_,e,_⟩:=w;exact Yk e
 refine call_zip_2 v.isList w.isList λS c1 c2 c3 c4 c5 c6 T=>Calls.spliced_nil ?_
 have D:A3N (k.heap.objs.size+4) (k.heap.objs.size+2) (k.heap.objs.size+3) k.heap.objs.size (k.heap.objs.size+1) l1 l2:=by
  constructor<;>(show @Ne Nat _ _)<;>lia
 refine VU (s:={k with heap:=S}) (xs:=n.toArray) (ys:=d.toArray) (kv:=λi=>((.inl (j.getD i 0):Key),d.getD i .none)) D (y.ok.hd hc) c1 ⟨_,_,c3⟩ c2 c4 c5 (v.isList.at λo e=>T _ o e) (w.isList.at λo e=>T _ o e) (λi hi=>?_) (by simp only[Yl];rw[A3j];lia) λh' tk X' k'=>?_
 ·simp only[Yl]at hi;have l:i<j.length:=by lia
  obtain⟨u,hu,ru⟩:=r.get (show(j.map V.int)[i]?=O (V.int j[i]) by simp[l]);obtain⟨t,rfl⟩:=ru;refine⟨_,by simpa using hu,?_,?_⟩
  ·rw[Yg,Ya l];exact Bb _ _ _ _
  ·have x:i<d.length:=by lia
   simp[Yg,x]
 ·have e1:(Ye n.toArray.size).map (λi=>((.inl (j.getD i 0):Key),d.getD i .none))=(j.zip d).map λt=>((.inl t.1:Key),t.2):=by
   apply A0D
   ·simp;lia
   ·intro i h1 h2;have l:i<j.length:=by simp at h1;lia
    have x:i<d.length:=by lia
    simp[Yg,l,x]
  rw[e1]at X';have kv:=Ox r C;have mg:KV (Aa [] ((j.zip ws).map λt=>((.inl t.1:Key),t.2))) (merged [] ((j.zip d).map λt=>((.inl t.1:Key),t.2))):=KV.merge kv .nil
  have ln:(Aa [] ((j.zip ws).map λt=>((.inl t.1:Key),t.2))).length<=A2s:=by
   rw[KV.length mg];have:=A3w [] ((j.zip d).map λt=>((.inl t.1:Key),t.2));simp at this;rw[A3j];lia
  have W:k.heap.objs.size<=S.objs.size:=by rw[c6];exact A08 _ _
  refine⟨.ref S.objs.size,_,y.laid (t':=tk) (λc o e=>k' c o (λm=>?_) (T c o e)) W (Ie ln (beq_eq_false_iff_ne.mpr (Ne.symm (Ys (Z8 y.big W)))) mg X'),J,q _ (y.hok.fresh W)⟩;have lt:=Yk e;simp only[Yp,Zi,or_false]at m;have g:@LT.lt Nat _ c k.heap.objs.size:=lt;rcases m with m | m | m | m
  ·rw[m]at g;exact absurd g (by lia)
  ·rw[m]at g;exact absurd g (by lia)
  ·rw[m]at g;exact absurd g (by lia)
  ·rw[m]at g;exact absurd g (by lia)
end
open PySem.AutoSeq1 (wpAny_loadPart')
open PySem.MeetsSeq PySem.MeetsSeq2 PySem.MeetsSeq3
theorem FA:∀(f m r:Nat),r<=1->m<=f+62->1<=f->minRun' f m r<=64
 | 0,_,_,_,_,h=>by lia
 | f+1,m,r,a,b,_=>by
   rw[minRun'_succ];split
   ·lia
   ·by_cases c:f=0
    ·lia
    ·exact FA f (m / 2) (max r (m % 2)) (by lia) (by lia) (by lia)
def Oy(h:A2y)(v:F)(a:Int):Prop:=∃ p b t,v = .ref p/\h.IsList p b/\b[0]?=O (.int a t)
section
variable{prog:A2r}{w:A2u}{A:A2w}{E:F->A2m->Prop}{s:A2m}
def Oz(l b:Y)(c a:Array F)(n p:Nat)(q i:Option Y)(r j:Array (Option F)){x y:Int}{t u:Tok}(v:c[0]?=O (.int x t))(z:a[0]?=O (.int y u))(k:x≠y):
 Meets (Builtin.«list.__eq__.loop» ⟨[.ref l,.ref b,rawInt 0,rawInt 0],[]⟩)
  (λA R s=>s.heap.get? l=O {cls := .type "list",dict:=q,data := .seq c n,slots:=r}/\s.heap.get? b=O {cls := .type "list",dict:=i,data := .seq a p,slots:=j}/\
    R (.ok (.ret (.bool (decide (x<y))))) s):=by
 intro prog w A R s h;obtain⟨B,g,d,C,D⟩:=s;obtain⟨m,o,h⟩:=h
 wp_walk using wpAny_loadPart' m,wpAny_loadPart' o
 have e:c[Int.toNat 0]?=O (.int x t):=v;have f:a[Int.toNat 0]?=O (.int y u):=z;rw[e,f];refine Z (SeqAt.EqAt.int_int x t y u _ _ _ _ ?_);rw[show(x == y)=aD from beq_eq_false_iff_ne.mpr k]
 wp_walk using wpAny_loadPart' m,wpAny_loadPart' o
 rw[e,f];refine Z (rcLt_int ?_)
 wp_walk
 exact h
def P4(l b:Y)(c a:Array F)(n j:Nat)(k e:Option Y)(m f:Array (Option F)){x y:Int}{t u:Tok}(q:c[0]?=O (.int x t))(r:a[0]?=O (.int y u))(i:x≠y):
 Meets (Builtin.«list.__lt__» ⟨[.ref l,.ref b],[]⟩)
  (λA R s=>s.heap.get? l=O {cls := .type "list",dict:=k,data := .seq c n,slots:=m}/\s.heap.get? b=O {cls := .type "list",dict:=e,data := .seq a j,slots:=f}/\
    R (.ok (.ret (.bool (decide (x<y))))) s):=by
 intro prog w A R s h;obtain⟨v,g,d,z,B⟩:=s;obtain⟨o,p,h⟩:=h;have C:=AutoSeq1.sub_list_list
 wp_walk using wpAny_loadPart' o,wpAny_loadPart' p
 exact⟨A2M plain_eq_loop _,A2N entry_eq_loop (by
  rw[Around.under_plainId plain_eq_loop _];exact Oz l b c a n j k e m f q r i prog w A R _ ⟨o,p,h⟩)⟩
def HF{v u:A2k}{a b:Int}{Q:Bool->A2m->Prop}(hu:A.units<cLine)(z:Oy s.heap v a)(B:Oy s.heap u b)(f:a≠b)(h:Q (decide (a<b)) s):A2o (A2q prog w) A (oneLt' aC v u) Q E s:=by obtain⟨p,g,t,rfl,C,D⟩:=z;obtain⟨G,c,N,rfl,i,H⟩:=B;obtain⟨⟨I,K,q,L⟩,j,r,n,x⟩:=id C;obtain⟨⟨y,k,l,m⟩,o,d,M,e⟩:=id i;simp only at r x d e;subst r x d e;rw[oneLt'_eq];simp only[if_true];refine Z (wpAny_cRoomFor hu ?_);refine Z (wpAny_callSpecialIfBound?_slot ⟨_,j,J⟩ F.slot_list_lt (A3k F.slot_list_lt ⟨_,j,J⟩ F.entry_list_lt (F.args_list_lt_2 _ _) (P4 p G g c n M K k L m D H f) ⟨j,o,?_⟩));exact A2I h
def J8{st:SortSt}{n:Nat}{Q:Unit->SortSt->Prop}(l:(arrOf st).size=n)(y:2<=n)(j:A4n st=#[])(d:∀ x,1<=x->x<n->∀ k:Option Bool->SortSt->Prop,k (O aD) st->wpS (A2q prog w) A E s (ltAt' x (x - 1)) k st)
 (h:Q () (A3y st #[(0,n,0)])):wpS (A2q prog w) A E s sortRuns' Q st:=by
 rw[sortRuns'_eq];refine A3d (wpS_get ?_);dsimp only
 obtain⟨e,g,m⟩:∃ e,minRun' n n 0=e/\e<=n:=by
  refine⟨_,J,?_⟩;by_cases i:n<64
  ·obtain⟨f,o⟩:∃ f,n=f+1:=⟨n - 1,by lia⟩
   have:minRun' (f+1) n 0=n:=by rw[minRun'_succ,iP i];rfl
   rw[<-o]at this
   lia
  ·have:=FA n n 0 (by lia) (by lia) (by lia)
   lia
 simp only[l,g]
 refine A3d (wpS_mono (A4J
  (I:=λx c a=>(x=0/\c=(aB,0)/\a=st)\/(1<=x/\c=(aB,n)/\a=A3y st #[(0,n,0)]))
  (Q:=λc a=>c=(aB,n)/\a=A3y st #[(0,n,0)]) ?step ?fin (.inl ⟨J,J,J⟩)) ?post)
 case fin=>
  rintro c a (⟨p,_,_⟩ | ⟨_,q,r⟩)
  ·lia
  ·exact⟨q,r⟩
 case step=>
  rintro x c a _ p (⟨rfl,rfl,rfl⟩ | ⟨t,rfl,rfl⟩)
  ·dsimp only;rw[iG (by lia)];simp only[Nat.sub_zero,A1e];rw[countRun0_eq];refine A3d (A3d (Ii (by lia) d ?_));dsimp only;rw[iP (by simp)];refine A3B ?_;dsimp only;rw[iG (by lia)];refine A3d (wpS_get ?_);have u:(A4n a).back?=aB:=by rw[j];rfl
   rw[u];dsimp only;refine A3d (wpS_modify (A3B (.inr ⟨by lia,J,?_⟩)));show A3y a ((A4n a).push (0,n,0))=_;rw[j];rfl
  ·dsimp only;rw[iP (Ym _)];exact A3B ⟨J,J⟩
 case post=>
  rintro c a ⟨rfl,rfl⟩;dsimp only;refine A3d (wpS_mono (A4J (I:=λ_ c b=>b=A3y st #[(0,n,0)]/\c=(aB,())) (Q:=λc b=>b=A3y st #[(0,n,0)]/\c=(aB,())) ?_ (λ_ _ v=>v) ⟨J,J⟩) ?_)
  ·rintro x c b _ _ ⟨rfl,rfl⟩;refine A3d (wpS_get ?_);rw[iP (by show(#[(0,n,0)]:Array (Nat×Nat×Nat)).size<=1;exact Ym 1)];exact A3B ⟨J,J⟩
  ·rintro c b ⟨rfl,rfl⟩;exact A3B h
theorem Fq{a:Y}{b:U F}{n:Nat}{P:Fin->A2m->Prop}(hu:A.units<cLine)(G:s.heap.get? a=O (seqObj "list" b.toArray n))(T:b.length<=A2s)(f:Nat->Int)
 (V:∀ i v,b[i]?=O v->v ≠ .ref a/\Oy s.heap v (f i)) (W:∀ i j,i<j->j<b.length->f i<f j)
 (h:P (.done (.ret .none)) {s with heap:=sortedHeap s.heap a b b.toArray}):
 A2o (A2q prog w) A (Builtin.«list.sort» ⟨[.ref a],[]⟩) P E s:=by
 rw[list_sort_plain];have ha:a<s.heap.objs.size:=Yk G;refine Z (listItems_at G J ?_);refine Z (A4x G J ?_);obtain⟨H,B⟩:∃ H,(s.heap.update a (Obj.mapSeq λ_=>#[])).get? a=O (seqObj "list" #[] H):=⟨_,get?_update_seq G (λ_=>#[])⟩
 refine Z (A4T B J ?_);refine Z (A3M ?_);refine Z (A4v ?_);refine A2A ?_
 have X:∀ p o,p≠a->s.heap.get? p=O o->(((s.heap.update a (Obj.mapSeq λ_=>#[])).push (seqObj "tuple" b.toArray 0)).push (seqObj "list" #[] 0)).get? p=O o:=by
  intro p o I e;exact Yf _ (Yf _ ((ZM _ _ (Ne.symm I)).trans e))
 have k:(((s.heap.update a (Obj.mapSeq λ_=>#[])).push (seqObj "tuple" b.toArray 0)).push (seqObj "list" #[] 0)).get? a=O (seqObj "list" #[] H):=
  Yf _ (Yf _ B)
 show A2o (A2q prog w) A _ P E {s with heap:=((s.heap.update a (Obj.mapSeq λ_=>#[])).push (seqObj "tuple" b.toArray 0)).push (seqObj "list" #[] 0)};dsimp only;have l:b.toArray.size=b.length:=by simp
 have c:(b.toArray.zip b.toArray).map (·.2)=b.toArray:=by
  apply Array.ext';simp[List.map_snd_zip]
 have m:∀ i v,b[i]?=O v->Oy (((s.heap.update a (Obj.mapSeq λ_=>#[])).push (seqObj "tuple" b.toArray 0)).push (seqObj "list" #[] 0)) v (f i):=by
  intro i v hv;obtain⟨na,p,C,t,rfl,⟨o,q,r,n',K⟩,L⟩:=V i v hv;exact⟨p,C,t,J,⟨o,X p o (λz=>na (by rw[z])) q,r,n',K⟩,L⟩
 by_cases y:b.toArray.size<2
 ·rw[iP y,iP y];refine Z (A2l ?_);rw[StateT.run_pure];refine Z (A2l ?_);dsimp only;refine Z (A4T k J ?_);refine Z (A4x k J ?_ (hsz2:=by rw[c,l];exact A0U T));simp only[bne_self_eq_false,ZR,if_false];refine A2l ?_;rw[c];exact h
 ·rw[iG y,iG y]
  obtain⟨d,g,e0⟩:∃ d g,b=d::g:=by
   match b,l,y with
   | [],_,y=>simp at y
   | d::g,_,_=>exact⟨d,g,J⟩
  refine Z ?_
  have M:∀(Q:A4i->A2m->Prop),Q A4j {s with heap:=((s.heap.update a (Obj.mapSeq λ_=>#[])).push (seqObj "tuple" b.toArray 0)).push (seqObj "list" #[] 0)}->A2o (A2q prog w) A (keyKind' b.toArray) Q E {s with heap:=((s.heap.update a (Obj.mapSeq λ_=>#[])).push (seqObj "tuple" b.toArray 0)).push (seqObj "list" #[] 0)}:=by
   intro Q hQ;subst e0;refine Il (λu hu=>?_) hQ;obtain⟨i,L⟩:=Z4 hu;obtain⟨p,C,t,rfl,⟨o,q,r,_⟩,_⟩:=m i u L;exact⟨o,q,r⟩
  refine M _ ?_
  refine Z (A2J (J8 (st:=SortSt.mk' A4j (b.toArray.zip b.toArray) #[] 7 aB) (n:=b.length)
   (Q:=λ_ D=>D=A3y (SortSt.mk' A4j (b.toArray.zip b.toArray) #[] 7 aB) #[(0,b.length,0)]) (by show(b.toArray.zip b.toArray).size=_;simp) (by lia) J (λx h1 N Q' R=>?_) J) ?_ λ_ _ e=>e)
  ·have gx:b[x]?=O b[x]:=by simp[N]
   have gy:b[x - 1]?=O b[x - 1]:=by simp
   have p1:=m x _ gx;have p2:=m (x - 1) _ gy;have a0:=W (x - 1) x (by lia) N;rw[ltAt'_eq];refine A3d (wpS_get ?_);show wpS _ _ _ _ (do let x1 <- elem' (b.toArray.zip b.toArray) x;let y1 <- elem' (b.toArray.zip b.toArray) (x - 1);lt' x1 y1) Q' _;have z1:(b.toArray.zip b.toArray)[x]?=O (b[x],b[x]):=by simp[A0N,N]
   have S:x - 1<b.length:=by lia
   have z2:(b.toArray.zip b.toArray)[x - 1]?=O (b[x - 1],b[x - 1]):=by simp[A0N,S]
   rw[elem'_eq,elem'_eq,z1,z2];refine A3d (A3B (A3d (A3B ?_)));rw[lt'_eq];refine A3d (wpS_get ?_)
   refine A3d (wpS_lift (A31 (by
    show A2o _ _ (keyLt' A4j b[x] b[x - 1]) _ _ _;rw[keyLt'_oneType];refine HF hu p1 p2 (by lia) ⟨J,?_⟩;rw[show decide (f x<f (x - 1))=aD from decide_eq_false (by lia)];exact A3B R)))
  ·rintro⟨⟨⟩,D⟩ s' ⟨rfl,rfl⟩;dsimp only;refine Z (A4T k J ?_);refine Z (A4x k J ?_ (hsz2:=by show((b.toArray.zip b.toArray).map (·.2)).size<=_;rw[c,l];exact A0U T));simp only[bne_self_eq_false,ZR,if_false];refine A2l ?_;show P _ {s with heap:=sortedHeap s.heap a b ((b.toArray.zip b.toArray).map (·.2))};rw[c];exact h
def MP{l:Y}{a:U F}{Q:F->A2m->Prop}(hu:A.units+2<cLine)(q:s.heap.IsList l a.toArray)(r:a.length<=A2s)(f:Nat->Int)
 (u:∀ i v,a[i]?=O v->Oy s.heap v (f i)) (x:∀ i j,i<j->j<a.length->f i<f j)
 (h:Q (.ref (s.heap.objs.size+1)) {s with heap:=sortedAll s.heap a a.toArray}):
 A2o (A2q prog w) A (call (.builtin "sorted") [.ref l]) Q E s:=by
 refine Calls.call_function_entry kind_sorted plain_sorted entry_sorted (args_sorted1 _) ?_;unfold Builtin.«sorted»;refine Z (m:=checkCount "sorted" 1 1 _) (A2l ?_);refine Z (collect_list q ?_);refine Z (A4v ?_)
 have b:((s.heap.push (seqObj "list" #[] 0)).update s.heap.objs.size (Obj.mapSeq (·++a.toArray))).objs.size=s.heap.objs.size+1:=by
  rw[A17,size_push']
 have c:(((s.heap.push (seqObj "list" #[] 0)).update s.heap.objs.size (Obj.mapSeq (·++a.toArray))).push (seqObj "list" a.toArray 0)).get? (s.heap.objs.size+1)=O (seqObj "list" a.toArray 0):=by
  rw[<-b];exact Yn _ J
 show A2o _ _ _ _ _ {s with heap:=((s.heap.push (seqObj "list" #[] 0)).update s.heap.objs.size (Obj.mapSeq (·++a.toArray))).push (seqObj "list" a.toArray 0)};rw[b]
 have y:∀ p o,s.heap.get? p=O o->(((s.heap.push (seqObj "list" #[] 0)).update s.heap.objs.size (Obj.mapSeq (·++a.toArray))).push (seqObj "list" a.toArray 0)).get? p=O o:=λp o e=>
  Yf _ ((ZM _ _ (Ne.symm (Ys (Yk e)))).trans (Yf _ e))
 refine Z (A2A (A2C A5a ⟨_,c,J⟩ A4W (Fq (by show A.units+1+1<cLine;lia) c r f (λi v B=>?_) x ⟨_,J,?_⟩) (A5b _)))
 ·obtain⟨p,g,t,rfl,⟨o,d,k,C,n⟩,D⟩:=u i v B;exact⟨λz=>Ys (A0f (Yk d)) (by injection z),p,g,t,J,⟨o,y p o d,k,C,n⟩,D⟩
 ·exact A2l ⟨_,J,h⟩
end
section
variable{X:Cx}
def Ee(hu:X.A.units+2<cLine):CallR X (.builtin "sorted") (λm H Q=>∃(p:Y) (a:U Y) (f:Nat->Int),m=[.ref p]/\SqL X.K H p (a.map V.ref)/\(∀(i:Nat) q,a[i]?=O q->∃ g,H q=O (.lst (.int (f i)::g)))/\(∀ i j,i<j->j<a.length->f i<f j)/\
 ∀ l,H l=aB->Q (.ref l) (upd H l (.lst (a.map V.ref)))):=by
 intro n s T H m W Q I r h;obtain⟨p,a,f,rfl,C,c,D,q⟩:=h;obtain⟨u,rfl,E⟩:=Af r;cases E;obtain⟨G,t,L,x⟩:=I.list C;have M:=Ca t;subst M;refine MP hu L.isList (by simpa using x) f (λi v y=>?_) (λi j d N=>D i j d (by simpa using N)) ?_
 ·rw[Yj]at y;obtain⟨z,k,rfl⟩:=Zh.mp y;obtain⟨g,P⟩:=c i z k;obtain⟨i2,B,l2,_⟩:=I.list (SqL.of P);cases B with
  | cons r1 B=>
    obtain⟨R,rfl⟩:=r1;exact⟨z,_,R,J,l2.isList,by simp⟩
 ·obtain⟨e,S⟩:=sortedAll_at s.heap (a.map Value.ref) (a.map Value.ref).toArray;exact⟨.ref (s.heap.objs.size+1),_,I.laid (t':=s.toks) (λb o h=>sortedAll_old h) (A0l _) (show ObjOk X.prog X.w _ _ _ (.lst (a.map V.ref)) from ⟨x,a.map Value.ref,e,t,S⟩),J,q _ (I.hok.fresh (A0l _))⟩
end
section
variable{prog:A2r}{w:A2u}{A:A2w}{E:F->A2m->Prop}{s:A2m}{it d:Y}{i n ep:Nat}{es:Array A3v}{od:Obj}
def P5{Q:A2k->A2m->Prop}(e:(d == A2S)=aD)(b:s.heap.get? d=O od)(f:od.ExactDict)(a:od.data = .dict es ep)
 (g:Q (.ref s.heap.objs.size) {s with heap:=s.heap.push {cls := .type "dict_keyiterator",data := .fields #[.ref d,.int 0 0,.int es.size 0,.int ep 0]}}):A2o (A2q prog w) A (pyIter (.ref d)) Q E s:=by
 have c:s.TypeIs (.ref d) "dict":=⟨od,b,f.1⟩
 refine A3P c F.slot_dict_iter (A2C F.slot_dict_iter c F.entry_dict_iter ?_ (F.args_dict_iter_1 _));unfold Builtin.«dict.__iter__»;refine Z ?_;unfold Builtin.Dict.dictSlotNone;refine Z (A3i c (show A2o _ _ (pure (Value.ref d)) _ _ s from A2l ?_));show A2o _ _ (Builtin.Dict.showsAll d >>= _) _ _ s;unfold Builtin.Dict.showsAll;rw[iG (by rw[e];exact Yq)];refine Z (A2l (Z (A3u b a (Z (A48 b a ?_)))));exact Z (A2z (A2l ⟨_,J,"dict_keyiterator",_,⟨_,Yn _ J,J⟩,F.slot_dict_keyiterator_next.lookup,by simpa[rawInt] using g⟩))
def P6{Q:Option A2k->A2m->Prop}(a:s.heap.IsKeyIter it d i n ep)(c:s.heap.get? d=O od)(e:od.data = .dict es ep)(h:es.size=n)(j:i<es.size)
 (m:∀ k,k.IsKeyIter it d (i+1) n ep->Z7 it s.heap k->Q (O es[i].key) {s with heap:=k}):A2o (A2q prog w) A (pyNext (.ref it)) Q E s:=by
 obtain⟨o,l,p,g⟩:=id a;unfold pyNext;refine Z (A31 (A2B (name:=Str.ofString "__next__") a.typeIs F.slot_dict_keyiterator_next (A2C F.slot_dict_keyiterator_next a.typeIs F.entry_dict_keyiterator_next ?_ (F.args_dict_keyiterator_next_1 _))));refine Z (A2l (Z (Z ?_)))
 first | refine Z (A2X a.typeIs (A2l ?_)) | refine Z (A3a a.typeIs (A2l ?_))
 refine Z (A3K l g ?_);have f:Builtin.Dict_items.ownsTuple "dict_keyiterator"=aD:=by decide
 simp only[f,ZR,if_false];show A2o _ _ (if (Value.ref d == Value.none)=aC then _ else _) _ _ s;rw[iG (show ¬ ((Value.ref d == Value.none)=aC) from Yq)];refine Z (A2l (Z (A3u c e ?_)));rw[iG (by rw[h];simp)];refine Z (A2l (Z (A48 c e ?_)));rw[iG (by simp)];refine A2l ?_;simp only[show ¬ ((i:Int)<0) from by lia,if_false,ZX,Array.getElem?_eq_getElem j];refine Z ?_
 first | refine Z (A2X a.typeIs (A2l ?_)) | refine Z (A3a a.typeIs (A2l ?_))
 refine Z (A4c a.typeIs ?_);show A2o _ _ (A3W (.ref it) 1 (rawInt ((i:Int)+1)) >>= _) _ _ s;refine Z (A2P l g (by simp) ?_)
 have b:(s.heap.update it (Obj.mapFields (·.setIfInBounds 1 (rawInt ((i:Int)+1))))).IsKeyIter it d (i+1) n ep:=
  ⟨_,ZL _ l (Obj.isFreed_of_fields (Obj.data_mapFields g _)),(Obj.cls_mapFields ..).trans p,by rw[Obj.data_mapFields g];simp[rawInt]⟩
 refine Z (A2A (Z (A4c (s:={s with heap:=s.heap.update it (Obj.mapFields (·.setIfInBounds 1 (rawInt ((i:Int)+1))))}) b.typeIs ?_)));show A2o _ _ (pure es[i].key) _ _ _;exact A2l (A2l ⟨_,J,A2l (m _ b (Z7.update ..))⟩)
def SC{Q:Option A2k->A2m->Prop}(q:A.handled=aB)(c:s.heap.IsKeyIter it d i n ep)(e:s.heap.get? d=O od)(f:od.data = .dict es ep)(h:es.size=n)(j:es.size<=i)
 (r:∀ k,A1n it s.heap k->Q aB {s with heap:=k}):A2o (A2q prog w) A (pyNext (.ref it)) Q E s:=by
 obtain⟨o,l,t,p⟩:=id c;unfold pyNext;refine Z (A31 (A2B (name:=Str.ofString "__next__") c.typeIs F.slot_dict_keyiterator_next (A2C F.slot_dict_keyiterator_next c.typeIs F.entry_dict_keyiterator_next ?_ (F.args_dict_keyiterator_next_1 _))));refine Z (A2l (Z (Z ?_)))
 first | refine Z (A2X c.typeIs (A2l ?_)) | refine Z (A3a c.typeIs (A2l ?_))
 refine Z (A3K l p ?_);have g:Builtin.Dict_items.ownsTuple "dict_keyiterator"=aD:=by decide
 simp only[g,ZR,if_false];show A2o _ _ (if (Value.ref d == Value.none)=aC then _ else _) _ _ s;rw[iG (show ¬ ((Value.ref d == Value.none)=aC) from Yq)];refine Z (A2l (Z (A3u e f ?_)));rw[iG (by rw[h];simp)];refine Z (A2l (Z (A48 e f ?_)));rw[iG (by simp)];refine A2l ?_;simp only[show ¬ ((i:Int)<0) from by lia,if_false,ZX,A1f j];refine Z ?_
 first | refine Z (A2X c.typeIs (A2l ?_)) | refine Z (A3a c.typeIs (A2l ?_))
 show A2o _ _ (A3W (.ref it) 0 .none >>= _) _ _ s;refine Z (A2P l p (by simp) ?_);show A2o _ _ (newExc (.type "StopIteration") [] >>= _) _ _ _;refine Z ?_;simp only[newExc,newTuple];refine Z (A2z ?_ (by size_fits));refine Z (m:=A3l _ _) (A4f (a:=Value.none) (by first | rfl | (simp only[A3l];rfl)) ?_);refine A2z ?_ (by size_fits);simp only[A55];refine Z (A4u ?_);rw[show A.in1.handled=aB from q];refine Z (A2l (A4R ?_));refine Z (A3m (T:="StopIteration") (b:=aC) ⟨_,Yn _ J,J⟩ A3L ?_);exact A2l (r _ (((Z7.update ..).extBut.push _).push _))
end
section
variable{X:Cx}{pins:U (Y×Obj)}{σ:St}{H:Hp}{s:A2m}{a:Y}
def Inv.freezeT{c:U (U Key×V)}{o:Obj}(I:Inv X pins σ H s)(hu:H a=aA (.dT c))(d:s.heap.get? a=aA o):Inv X pins σ (upd H a (.frz o (.dT c))) s:=
 I.retag hu nofun nofun nofun (λ_ _ z=>by cases z) ⟨d,by
  obtain⟨z,y,f,r,q⟩:=(show ObjOk X.prog X.w H s.heap a (.dT c) from I.hok a _ hu)
  exact⟨z,y,f,KT.keeps r λb g e=>by rw[g7 (Jk e hu (λz=>nomatch z))];exact e,q⟩⟩
end
def Itu(d:Y)(o:Obj)(ks:U (U Key×V)):It:=⟨λi H=>i<ks.length/\H d=O (.frz o (.dT ks)),λi H x a=>a=H/\∃ p b,ks[i]?=O p/\x = .ref b/\H b=O (.tup (p.1.map kV)),λi H=>ks.length<=i/\H d=O (.frz o (.dT ks))⟩
theorem KT.at{H:Hp}:∀{b:U (U Key×V)} {c:U (U Key×Y×A2k)},KT H b c->∀{i:Nat} {p:U Key×V},b[i]?=aA p->∃ q,c[i]?=aA q/\H q.2.1=aA (.tup (p.1.map kV))
 | _,_,.nil,_,_,h=>by simp at h
 | _,_,.cons a t,0,p,h=>by simp at h;subst h;exact⟨_,rfl,a.2.1⟩
 | _,_,.cons a t,i+1,p,h=>by
   obtain⟨q,e,z⟩:=KT.at t (i:=i) (p:=p) (by simpa using h);exact⟨q,by simpa using e,z⟩
def KO{P:A2r}{w:A2u}{H:Hp}{h:A2y}{d:Y}{o:Obj}{j:U (U Key×V)}{c:Array A3v}{l:Nat}(m:o.data = .dict c l)(n:HOk P w H h)(e:H d=O (.frz o (.dT j))):h.get? d=O o/\c.size=j.length/\∀(i:Nat) p,j[i]?=O p->∃ b u,c[i]?=O u/\u.key = .ref b/\H b=O (.tup (p.1.map kV)):=by
 obtain⟨k,_,_,x,r,y,A,s,f,B,g,a,C⟩:=(show ObjOk P w H h d (.frz o (.dT j)) from n d _ e)
 rw[k]at f;cases f;rw[m]at g;cases g;refine⟨k,by rw[A47 a];exact(Paired.length r).symm,λi p t=>?_⟩;obtain⟨q,v,z⟩:=KT.at r t;exact⟨q.2.1,_,by rw[entry_at a i,v];rfl,J,z⟩
def SD{P:A2r}{w:A2u}{K:YZ}{tg:A2p}(it d:Y)(o:Obj)(ks:U (U Key×V)){es0:Array A3v}{ep:Nat}(hd:o.data = .dict es0 ep):Turn P w K tg (Itu d o ks) [it] it (λi h=>h.IsKeyIter it d i ks.length ep) where
 mem:=by simp
 obj:=λi h st b hb=>by
  have e:b=it:=by simpa using hb
  subst e;obtain⟨o,ho,_,hd⟩:=st;exact⟨o,ho,λv z=>by rw[hd]at z;cases z⟩
 keep:=λi h h' st k=>st.at λo e=>k it (by simp) o e
 item:=by
  intro X hP hw hK hc i pins s σ H E I hf st hg;subst hP hw hK;obtain⟨f0,f1,f2,f3,f4,f5⟩:=hf it (by simp);obtain⟨ho,hl,ha⟩:=KO hd I.hok hg.2;obtain⟨b,u,hu,hk,hb⟩:=ha i _ (Ya hg.1);obtain⟨hi,eu⟩:=A0s.mp hu;refine P6 st ho hd hl hi λh' hit' hs'=>?_;have I1:Inv X pins σ H {s with heap:=h'}:=I.turned (t':=s.toks) (λb o hb e=>hs'.extBut b o hb e) f0 f1 f3 f4 f5;obtain⟨oi,hoi,hci,hdi⟩:=id hit';refine⟨_,J,Jl (s:={s with heap:=h'}) (n:="dict_keyiterator") hoi hci hdi (by decide) ⟨.ref b,H,I1,?_,⟨J,ks[i]'hg.1,b,Ya hg.1,J,hb⟩,hit',λb hb=>(hf b hb).1⟩⟩;rw[eu];exact hk
 done:=by
   intro X hP hw hK hc i pins s σ H E I hf st hg;subst hP hw hK;obtain⟨f0,f1,f2,f3,f4,f5⟩:=hf it (by simp);obtain⟨ho,hl,ha⟩:=KO hd I.hok hg.2;exact SC (I.ok.hd hc) st ho hd hl (by rw[hl];exact hg.1) λh' he'=>⟨J,I.turned (t':=s.toks) (λb o hb e=>he' b o hb e) f0 f1 f3 f4 f5⟩
 self:=λ_ _ _ _ _ st h=>wpAny_pyIter_keyiter st h
section
variable{X:Cx}{tg:A2p}
def iDt(c:TE):TI:=λd H R=>c d H λx b=>∃ a ks,x = .ref a/\b a=O (.dT ks)/\∀ o,R (Itu a o ks) (upd b a (.frz o (.dT ks)))
def XR{l:A2p}{t:TE}(A:PE X l t):PI X tg l (iDt t):=by
 intro f s B H R I h;refine thn (A f s B H _ I h) λv c ⟨x,u,y,C,q1⟩=>?_;obtain⟨a,d,e,z,q⟩:=q1;subst e;cases C;obtain⟨_,_,_,_,o,_,_,n,_⟩:=(show ObjOk X.prog X.w u c.heap a (.dT d) from y.hok a _ z)
 have m:=y.freezeT z n;have D:upd u a (.frz o (.dT d)) a=O (.frz o (.dT d)):=i3;obtain⟨_,len,g,L,r,M,E,N,i,G,j,k,P⟩:=(show ObjOk X.prog X.w _ c.heap a (.frz o (.dT d)) from m.hok a _ D)
 rw[n]at i;cases i;have p:E.size=d.length:=by rw[A47 k];exact(Paired.length r).symm
 refine P5 g n G j ?_;refine⟨c.heap.objs.size,[c.heap.objs.size],_,_,_,J,m.kept (t':=c.toks) λb o e=>Yf _ e,SD c.heap.objs.size a o d j,⟨_,Yn _ J,J,by rw[p];rfl⟩,λb K=>?_,q o⟩;have e:b=c.heap.objs.size:=by simpa using K
 subst e;exact m.fpOk (Ym _) (m.hok.fresh (Ym _))
end
end L2
namespace PySem
def DEn(h:A2y)(d:Y)(es:Array A3v)(ep:Nat):Prop:=∃ o,h.get? d=O o/\o.ExactDict/\o.data = .dict es ep
def DEn.keep{h a:A2y}{d:Y}{b:Array A3v}{c:Nat}(x:DEn h d b c)(k:∀ o,h.get? d=aA o->a.get? d=aA o):DEn a d b c:=by obtain⟨o,e,r⟩:=x;exact⟨o,k o e,r⟩
def DEn.lt{h:A2y}{d:Y}{a:Array A3v}{b:Nat}(x:DEn h d a b):d<h.objs.size:=by obtain⟨_,e,_⟩:=x;exact Yk e
end PySem
namespace Rf
open PySem L2
structure GoodA(X:Cx)(rs:List A2p)(w:WA):Prop where
 pa:PA X rs (liftA X.K w)
 m:MonoA w
section
variable{X:Cx}
def MQ:GoodA X [] F5:=⟨RN,.nil⟩
def J9{x:A2p}{e:U A2p}{a:WE×WT}{b:WA}(c:Good X x a)(d:GoodA X e b)(f:f9 x=aC):GoodA X (x::e) (Dh a.1 b):=⟨Nx c.m d.m c.pe d.pa (i0 f),.cons c.m d.m⟩
def MR{a:U A2p}{j:Nat}{p:Pos}{w:WA}(h:GoodA X a w):Good X (.Tuple a j p) (tt1 (wn RP w)) := .one (j5 _ (Ud h.pa) (RS h.m)) (.n .tup h.m) J
def MS{a:U A2p}{p:Pos}{w:WA}(h:GoodA X a w):Good X (.List a p) (tt1 (wn RQ w)) := .one (j5 _ (Ue h.pa) (RT h.m)) (.n .lst h.m) J
def P7{K:YZ}{s:Sn}{w:WA}(d:MonoN s)(m:MonoA w):∀ a H Q,lift K (wn s w) a H Q->Tf (spS K s) [] E0 (liftA K w) a H Q:=by rintro a H Q ⟨e,f,S,g,i,h⟩;refine⟨e,f,S,g,i,m _ _ _ _ (λj S1 k b l n o c p=>?_) h⟩;show spS K s (n++[]) l Q E0;rw[ZD];exact⟨b,S1,j,c,p,d _ _ _ _ (λz r q=>q.mono o) k⟩
def JA{T:U Str}{c:Nat->Sn}{k f:Nat}{N:U Str}{e:A2D}{x:Str}{y:A2p}{b:U A2p}{p q:Pos}{w:WA}(C:Cok T c X k N e)(g:f+1<T.length/\T[f]?=O x)(a:glo e x=aC)(h:GoodA X (y::b) w)(i:f9 y=aC)(j:b.all f9=aC):Good X (.Call (.Name x p) (y::b) [] q) (tt1 (wn (c f) w)):=by
 obtain⟨d,v,l,o,_⟩:=C.call f x g.1 g.2;obtain⟨z,A,F,r,s,t⟩:=l.ex;unfold glo at a;simp only[Yc,bQ,Yx]at a;have u:Gl X x:=by show X.env.scope.names.lookup x=_;rw[C.hs];exact a.1.1
 exact .one (j5 _ (R6 F o u r s t .nil Wn h.pa a.2 (i0 i) (Bo j)) (P7 (C.mono f) h.m)) (.n (C.mono f) h.m) J
def XS:A2v "abs"=O (.builtin "abs"):=by decide +kernel
def XT:A2v "min"=O (.builtin "min"):=by decide +kernel
def P8:A2v "max"=O (.builtin "max"):=by decide +kernel
def XU:A2v "len"=O (.builtin "len"):=by decide +kernel
def XV:A2v "all"=O (.builtin "all"):=by decide +kernel
def Tv:A2v "int"=O (.type "int"):=by decide +kernel
def Fs:A2v "list"=O (.type "list"):=by decide +kernel
def XW:A2v "isinstance"=O (.builtin "isinstance"):=by decide +kernel
def Tw:A2v "str"=O (.type "str"):=by decide +kernel
def VV:A2v "bool"=O (.type "bool"):=by decide +kernel
def KP:A2v "range"=O (.type "range"):=by decide +kernel
def b_set:A2v "set"=O (.type "set"):=by decide +kernel
def KQ:A2v "tuple"=O (.type "tuple"):=by decide +kernel
def VW:A2v "repr"=O (.builtin "repr"):=by decide +kernel
def P9{T:U Str}{j:Nat->Sn}{k:Nat}{N:U Str}{i:A2D}{b:BI}{y:A2p}{g:U A2p}{p q:Pos}{w:WA}(C:Cok T j X k N i)(a:glo i b.name=aC)(h:GoodA X (y::g) w)(l:f9 y=aC)(o:g.all f9=aC):Good X (.Call (.Name b.name p) (y::g) [] q) (tt1 (wn (sBi b) w)):=by
 unfold glo at a;simp only[Yc,bQ,Yx]at a;have c:Gl X b.name:=by show X.env.scope.names.lookup b.name=_;rw[C.hs];exact a.1.1
 have d:=C.bl b;have e:=i0 (es:=g) (env:=X.env) l;have f:=Bo (env:=X.env) (pos:=q) o;refine .one (j5 (t:=tCB (rBi X.K b) (liftA X.K w)) _ ?_ (X8 VG .bi h.m)) (.n .bi h.m) J;cases b with
 | len=>exact w4 FW c d XU h.pa (by decide) a.2 e f
 | abs=>exact w4 NO c d XS h.pa (by decide) a.2 e f
 | min=>exact w4 (LR C.calm) c d XT h.pa (by decide) a.2 e f
 | max=>exact w4 (LQ C.calm) c d P8 h.pa (by decide) a.2 e f
 | int=>exact y0 LS c d Tv h.pa (by decide) a.2 e f
 | list=>exact y0 FX c d Fs h.pa (by decide) a.2 e f
 | tuple=>exact y0 EV c d KQ h.pa (by decide) a.2 e f
 | all=>exact w4 (λ_ _ _ _ _ _ _ _ _ h=>False.elim h) c d XV h.pa (by decide) a.2 e f
 | any=>exact w4 (M5 C.calm) c d Wz h.pa (by decide) a.2 e f
 | sorted=>exact w4 (λ_ _ _ _ _ _ _ _ _ h=>False.elim h) c d Nb h.pa (by decide) a.2 e f
 | isi=>exact w4 (call_isi1.or Lc) c d XW h.pa (by decide) a.2 e f
 | repr=>exact w4 (λ_ _ _ _ _ _ _ _ _ h=>False.elim h) c d VW h.pa (by decide) a.2 e f
 | str=>exact y0 (Lx C.gd (Zz (A0K (by decide) _) C.un)) c d Tw h.pa (by decide) a.2 e f
def Mono.mt{m:MT}{a:WE}{b:WA}(c:Mono a)(d:MonoA b):Mono (wMt m a b):=λf S P g i h=>c _ _ _ _ (by rintro x S1 ⟨e,h⟩;exact⟨e,d _ _ _ _ (λj S2 h=>Fj _ _ _ _ i h) h⟩) h
def v6{ro:A2p}{nm:Str}{a:Env}{b:Sem F}(h:Az ro=aC):A3Q ro nm a b=b:=by
 cases ro with
 | Call f c d p=>
   cases f with
   | Name x q=>
     cases c with
     | nil=>cases d with
       | nil=>cases h
       | cons _ _=>rfl
     | cons _ _=>rfl
   | _=>rfl
 | _=>rfl
def PB{K:YZ}{b:U Y}{H:Hp}{S:Sto}{k:Nat}{v:V}{c:U SV}(d:Ok K b H S)(r:Rl K b H v (.loc k))(e:S[k]?=O (.lst c)):tyV K "list" v H:=by obtain⟨a,g,rfl,_,f,_⟩:=p0 d r e;exact .inl ⟨J,_,SqL.of f⟩
def VX{K:YZ}{m:MT}{a:WE}{b:WA}(r:Mono a)(s:MonoA b):∀ d H Q,lift K (wMt m a b) d H Q->tBM K "list" (rMt m) (lift K a) (liftA K b) d H Q:=by rintro d H Q ⟨t,n,S,o,p,h⟩;refine⟨t,n,S,o,p,r _ _ _ _ (λx S1 ⟨⟨j,y,e,f⟩,h⟩ g A v i c q=>?_) h⟩;subst e;refine⟨PB c q f,g,n,S1,c,p.mono i.pre (i.ku o),s _ _ _ _ (λB S2 h u C D k l w=>?_) h⟩;exact OG l (Rl.mono k.pre (k.ku c) _ v q) w (Fj _ _ _ _ (λz E f=>f.mono (i.trans k)) h)
def SE{K:YZ}{m:MT}{a:WE}(g:Mono a):∀ c H Q,lift K (wMt m a F5) c H Q->Uj K "list" (rMt m) (lift K a) c H Q:=by rintro c H Q ⟨i,k,S,l,n,h⟩;refine⟨i,k,S,l,n,g _ _ _ _ (λx S1 ⟨⟨j,q,e,d⟩,h⟩ o r v p b f=>?_) h⟩;subst e;exact⟨PB b f d,OG b f .nil (Fj _ _ _ _ (λz s d=>d.mono p) h)⟩
def PC{m:MT}{ro y:A2p}{c:U A2p}{n f:Pos}{a:WE×WT}{b:WA}(d:Good X ro a)(e:GoodA X (y::c) b)(h:Az ro=aC)(i:(n.endLine == f.line)=aC)(B:(y::c).length<29)(o:f9 y=aC)(p:c.all f9=aC):Good X (.Call (.Attribute ro m.name n) (y::c) [] f) (tt1 (wMt m a.1 b)):=by
 have j:=i0 (es:=c) (env:=X.env) o;have k:=Bo (env:=X.env) (pos:=f) p
 have l:((backTo f (A2x (y::c) X.env)).all (λx=>!x.1)&&(A3z f (A3f [] X.env)).all (λx=>x.1.isSome)
  && decide ((y::c).length+([]:U Keyword).length+(if ([]:U Keyword).isEmpty then 0 else 1)<30))=aC:=by
  rw[D0 (by rw[Zm,o,p];rfl)];simp only[A1y,Yc,dQ];exact⟨J,by show(y::c).length+0+0<30;lia⟩
 refine .one (j5 (t:=tBM X.K "list" (rMt m) (lift X.K a.1) (liftA X.K b)) _ ?_ (VX d.m e.m)) (.mt d.m e.m) J;cases m with
 | append=>exact Ga PySem.F.plainAttrs_list PySem.F.slot_list_append PySem.F.type_list_append Cr d.pe e.pa (v6 h) l i j k
 | extend=>exact Ga PySem.F.plainAttrs_list PySem.F.slot_list_extend PySem.F.type_list_extend Ey d.pe e.pa (v6 h) l i j k
 | insert=>exact Ga PySem.F.plainAttrs_list PySem.F.slot_list_insert PySem.F.type_list_insert F0 d.pe e.pa (v6 h) l i j k
 | remove=>exact Ga PySem.F.plainAttrs_list PySem.F.slot_list_remove PySem.F.type_list_remove (λg s r H x u v w Q I z A q=>F7 g s r H x u v w Q I z A q) d.pe e.pa (v6 h) l i j k
def MU{m:MT}{ro:A2p}{f g:Pos}{a:WE×WT}(b:Good X ro a)(d:Az ro=aC)(e:(f.endLine == g.line)=aC):Good X (.Call (.Attribute ro m.name f) [] [] g) (tt1 (wMt m a.1 F5)):=by
 refine .one (j5 (t:=Uj X.K "list" (rMt m) (lift X.K a.1)) _ ?_ (SE b.m)) (.mt b.m .nil) J;cases m with
 | append=>exact FY PySem.F.plainAttrs_list PySem.F.slot_list_append PySem.F.type_list_append Cr b.pe (v6 d) e
 | extend=>exact FY PySem.F.plainAttrs_list PySem.F.slot_list_extend PySem.F.type_list_extend Ey b.pe (v6 d) e
 | insert=>exact FY PySem.F.plainAttrs_list PySem.F.slot_list_insert PySem.F.type_list_insert F0 b.pe (v6 d) e
 | remove=>exact FY PySem.F.plainAttrs_list PySem.F.slot_list_remove PySem.F.type_list_remove (λc s h H x i v j Q I k l q=>F7 c s h H x i v j Q I k l q) b.pe (v6 d) e
def MV{T:U Str}{f:Nat->Sn}{k:Nat}{N:U Str}{e:A2D}{t:TyN}{p:Pos}(C:Cok T f X k N e)(a:glo e (Str.ofString t.nm)=aC)(d:t ≠ .none):Good X (.Name (Str.ofString t.nm) p) (tt1 (wC (.ty t))):=by
 unfold glo at a;simp only[Yc,bQ,Yx]at a;have g:Gl X (Str.ofString t.nm):=by show X.env.scope.names.lookup _=_;rw[C.hs];exact a.1.1
 have b:A2v (Str.ofString t.nm)=O (.type t.nm):=by cases t<;>first | exact Tv | exact VV | exact Tw | exact Fs | exact KQ | exact absurd J d
 exact .one (j5 _ (Qs (v := .ty t.nm) g (C.ty t d) b J (by cases t<;>first | decide | exact absurd J d) a.2) (Gi λ_ _=>rl_ty.mpr J)) .c J
def PD{K:YZ}{c:U Y}{H:Hp}{a b:Int}:RlAll K c H (Lr a (b - a).toNat) (Av a b):=by
 unfold Lr Av
 induction Ye (b - a).toNat with
 | nil=>exact .nil
 | cons i r d=>exact .cons (rl_int.mpr J) d
def Dv{a:WE}(m:Mono a):Mono (Iu a):=λb S P c i h=>m _ _ _ _ (by rintro x S1 ⟨j,e,z,q⟩;exact⟨j,e,z,i _ _ q⟩) h
def Dw{a b:WE}(m:Mono a)(c:Mono b):Mono (Iv a b):=λf S P g i h=>m _ _ _ _ (λx S1 h=>c _ _ _ _ (by rintro y S2 ⟨l,j,e,d,z,q⟩;exact⟨l,j,e,d,z,i _ _ q⟩) h) h
def HG{T:U Str}{o:Nat->Sn}{k:Nat}{N:U Str}{d:A2D}{r:A2p}{p i q q2:Pos}{a:WE×WT}(C:Cok T o X k N d)(c:glo d "list"=aC)(b:glo d "range"=aC)(f:Good X r a)(l:f9 r=aC):Good X (.Call (.Name "list" p) [.Call (.Name "range" i) [r] [] q2] [] q) (tt1 (Iu a.1)):=by
 unfold glo at c b;simp only[Yc,bQ,Yx]at c b;have s:Gl X "list":=by show X.env.scope.names.lookup ("list":Str)=_;rw[C.hs];exact c.1.1
 have t:Gl X "range":=by show X.env.scope.names.lookup ("range":Str)=_;rw[C.hs];exact b.1.1
 have u:=y0 (p:=i) (pos:=q2) Lq t C.rng KP (n0 f.pe A7 (i0 l)) (by decide) b.2 (i0 l) J;refine .one (j5 _ (y0 (p:=p) (pos:=q) (CV C.calm) s (C.bl .list) Fs (n0 u A7 J) (by decide) c.2 J J) ?_) (Dv f.m) J;rintro I H Q ⟨w,y,S,A,B,h⟩;refine⟨w,y,S,A,B,f.m _ _ _ _ (λx S1 ⟨j,e,z,q⟩ D K v E g G=>?_) h⟩;subst e;refine⟨j,by rw[rl_int.mp G],λp n=>⟨p,0,j,J,i3,by decide,by decide,z.1,by lia,by lia,?_⟩⟩;exact AT (g.new n) PD (q.mono (E.trans (Go.new n)))
def HH{T:U Str}{L:Nat->Sn}{k:Nat}{N:U Str}{g:A2D}{r i:A2p}{p B q q2:Pos}{a b:WE×WT}(C:Cok T L X k N g)(f:glo g "list"=aC)(c:glo g "range"=aC)(n:Good X r a)(o:Good X i b)(D:f9 r=aC)(d:f9 i=aC):Good X (.Call (.Name "list" p) [.Call (.Name "range" B) [r,i] [] q2] [] q) (tt1 (Iv a.1 b.1)):=by
 unfold glo at f c;simp only[Yc,bQ,Yx]at f c;have M:Gl X "list":=by show X.env.scope.names.lookup ("list":Str)=_;rw[C.hs];exact f.1.1
 have P:Gl X "range":=by show X.env.scope.names.lookup ("range":Str)=_;rw[C.hs];exact c.1.1
 have R:=y0 (p:=B) (pos:=q2) Lp P C.rng KP (n0 n.pe (n0 o.pe A7 (i0 d)) (i0 D)) (by decide) c.2 (i0 D) (Bo (by simpa using d));refine .one (j5 _ (y0 (p:=p) (pos:=q) (CV C.calm) M (C.bl .list) Fs (n0 R A7 J) (by decide) f.2 J J) ?_) (Dw n.m o.m) J;rintro σ H Q ⟨V,E,S,G,I,h⟩;refine⟨V,E,S,G,I,n.m _ _ _ _ (λx S1 h s H1 v t w W=>?_) h⟩;refine⟨s,E,S1,w,I.mono t.pre (t.ku G),o.m _ _ _ _ (λy S2 ⟨l,j,e,e2,z,q⟩ a0 H2 u g2 A ru=>?_) h⟩;subst e e2;refine⟨l,j,by rw[rl_int.mp W,rl_int.mp ru],λp K=>⟨p,l,j,J,i3,by lia,by lia,z.2.2.1,by lia,by lia,?_⟩⟩;exact AT (A.new K) PD (q.mono ((t.trans g2).trans (Go.new K)))
def D2:Mono OS:=λa S P b i h=>i _ _ h
def JB{T:U Str}{e:Nat->Sn}{k:Nat}{N:U Str}{b:A2D}{p q:Pos}(C:Cok T e X k N b)(a:glo b "set"=aC):Good X (.Call (.Name "set" p) [] [] q) (tt1 OS):=by
 unfold glo at a;simp only[Yc,bQ,Yx]at a;have f:Gl X "set":=by show X.env.scope.names.lookup ("set":Str)=_;rw[C.hs];exact a.1.1
 refine .one (j5 _ (IT (p:=p) (pos:=q) M6 f C.st0 b_set (by decide) a.2) ?_) D2 J;rintro i H Q ⟨g,j,S,c,m,h⟩;refine⟨J,λl d=>?_⟩;exact h (g++[l]) _ (.ref l) (Go.push d) (c.pushO d ⟨_,i3,λk=>by simp⟩) (rl_loc.mpr ⟨l,by rw[<-c.len,Z9],J⟩)
def FB{a e:WE}(c:Mono a)(d:Mono e):Mono (OT a e):=λn S P o i h=>c _ _ _ _ (by rintro x S1 ⟨k,f,g,l,h⟩;exact⟨k,f,g,l,d _ _ _ _ (by rintro y S2 ⟨j,b,a1,a2,m,q⟩;exact⟨j,b,a1,a2,m,i _ _ q⟩) h⟩) h
def JC{ro r:A2p}{E p:Pos}{a b:WE×WT}(t:Good X ro a)(w:Good X r b)(T:Az ro=aC)(V:(E.endLine == p.line)=aC)(G:f9 r=aC):Good X (.Call (.Attribute ro "add" E) [r] [] p) (tt1 (OT a.1 b.1)):=by
 have I:=i0 (es:=[]) (env:=X.env) G
 have W:((backTo p (A2x [r] X.env)).all (λx=>!x.1)&&(A3z p (A3f [] X.env)).all (λx=>x.1.isSome)
  && decide (([r]:U A2p).length+([]:U Keyword).length+(if ([]:U Keyword).isEmpty then 0 else 1)<30))=aC:=by
  rw[D0 (by simpa using G)];rfl
 refine .one (j5 _ (Ga PySem.F.plainAttrs_set PySem.F.slot_set_add PySem.F.type_set_add V4 t.pe (n0 w.pe A7 I) (v6 T) W V I J) ?_) (FB t.m w.m) J;rintro σ H Q ⟨as,K,S,L,M,h⟩;refine⟨as,K,S,L,M,t.m _ _ _ _ (λx S1 ⟨k,ms,ex,hk,h⟩ z H1 v A g rv=>?_) h⟩;subst ex;obtain⟨c,N,rfl⟩:=rl_loc.mp rv;obtain⟨F,hF,_⟩:=g.obj k _ c hk N;refine⟨.inr (.inr (.inr ⟨J,F,_,hF⟩)),z,K,S1,g,M.mono A.pre (A.ku L),w.m _ _ _ _ (λy S2 ⟨i,d,ey,l,h9,q⟩ B H2 u P n ru=>?_) h⟩;subst ey;have f:=DP P.pre N;obtain⟨s,C,R⟩:=n.obj k _ c l f;refine⟨c,s,_,i,J,by rw[rl_int.mp ru],C,h9,?_⟩
 have len:(if s i=aC then d.length else d.length+1)=(Ea i d).length:=by
  rw[R];unfold Ea;by_cases e:i∈d
  ·rw[iP e,iP (decide_eq_true e)]
  ·rw[iG e,iG (by simpa using e)];rfl
 obtain⟨D,ku⟩:=n.writeO (x := .iset (Ea i d)) (u := .set (λj=>s j||decide (j=i)) (if s i=aC then d.length else d.length+1)) l f (λ_=>⟨_,by rw[i3,len],λj=>by
  rw[R];unfold Ea;by_cases e:i∈d
  ·rw[iP e];by_cases o:j=i
   ·subst o;simp[e]
   ·simp[o]
  ·rw[iG e];by_cases o:j=i
   ·subst o;simp
   ·simp[o]⟩)
 exact q B _ _ ((A.trans P).trans (Go.write (Yb f))) D (rl_non.mpr J)
def FC{a:WE}(m:Mono a):Mono (OP a):=λe S P f i h=>m _ _ _ _ (by rintro x S1 ⟨k,d,a,b,c,q⟩;exact⟨k,d,a,b,c,λm g=>i _ _ (q m g)⟩) h
def FD{a d:WE}(m:Mono a)(f:Mono d):Mono (OR a d):=λn S P o i h=>m _ _ _ _ (λx S1 h=>f _ _ _ _ (by rintro y S2 ⟨k,j,z,a,b,c,l,q⟩;exact⟨k,j,z,a,b,c,λe=>i _ _ (l e),λm g=>i _ _ (q m g)⟩) h) h
theorem RlD.length{K:YZ}{c:U Y}{H:Hp}:∀{a:U (Int×SV)} {b:U (Key×V)},RlD K c H b a->b.length=a.length
 | [],_,h=>by rw[show _=[] from h];rfl
 | p::r,_,⟨v,t,e,_,h⟩=>by rw[e,ZK,ZK,RlD.length h]
def RlAll.perm{K:YZ}{g:U Y}{H:Hp}{h d:U V}(p:d.Perm h):∀{a:U SV},RlAll K g H h a->∃ b,RlAll K g H d b/\b.Perm a:=by
 induction p with
 | nil=>exact λ{a} r=>⟨a,r,.refl _⟩
 | cons v _ i=>
   intro a r;cases a with
   | nil=>exact absurd (show _::_=[] from r) (A19 _ _)
   | cons x a=>
     obtain⟨_,_,e,f,c⟩:=r;cases e;obtain⟨b,j,k⟩:=i c;exact⟨x::b,⟨_,_,rfl,f,j⟩,.cons _ k⟩
 | swap u v l=>
   intro a r;cases a with
   | nil=>exact absurd (show _::_=[] from r) (A19 _ _)
   | cons x a=>
     obtain⟨_,_,e,f,c⟩:=r;cases e;cases a with
     | nil=>exact absurd (show _::_=[] from c) (A19 _ _)
     | cons y a=>
       obtain⟨_,_,e,m,n⟩:=c;cases e;exact⟨y::x::a,⟨_,_,rfl,m,_,_,rfl,f,n⟩,.swap ..⟩
 | trans _ _ ih1 ih2=>
   intro a r;obtain⟨t,c,o⟩:=ih2 r;obtain⟨q,f,s⟩:=ih1 c;exact⟨q,f,s.trans o⟩
def JD{T:U Str}{j:Nat->Sn}{k:Nat}{N:U Str}{f:A2D}{r:A2p}{p q:Pos}{a:WE×WT}(C:Cok T j X k N f)(d:glo f "max"=aC)(b:Good X r a)(i:f9 r=aC):Good X (.Call (.Name "max" p) [r] [] q) (tt1 (OP a.1)):=by
 unfold glo at d;simp only[Yc,bQ,Yx]at d;have l:Gl X "max":=by show X.env.scope.names.lookup ("max":Str)=_;rw[C.hs];exact d.1.1
 refine .one (j5 _ (w4 (MC C.calm) l (C.bl .max) P8 (n0 b.pe A7 (i0 i)) (by decide) d.2 (i0 i) J) ?_) (FC b.m) J;rintro G H Q ⟨n,o,S,s,t,h⟩;refine⟨n,o,S,s,t,b.m _ _ _ _ (λx S1 ⟨k,u,w,y,z,q⟩ e A v B c D=>?_) h⟩;subst w;obtain⟨a,I,rfl,K,b,E⟩:=p0 c D y;rw[Cd E]at b;exact⟨a,u,J,b,z,λm g=>q m g e A _ B c (rl_int.mpr J)⟩
def JE{T:U Str}{K:Nat->Sn}{k:Nat}{N:U Str}{B:A2D}{r u:A2p}{p q L:Pos}{a d:WE×WT}(C:Cok T K X k N B)(n:glo B "max"=aC)(c:Good X r a)(t:Good X u d)(w:f9 r=aC):Good X (.Call (.Name "max" p) [r] [⟨O "default",u,L⟩] q) (tt1 (OR a.1 d.1)):=by
 unfold glo at n;simp only[Yc,bQ,Yx]at n;have M:Gl X "max":=by show X.env.scope.names.lookup ("max":Str)=_;rw[C.hs];exact n.1.1
 refine .one (j5 _ (M4 (MB C.calm) M (C.bl .max) P8 (n0 c.pe A7 (i0 w)) (R7 t.pe Ug) J (by decide) n.2 (by rw[i0 w];rfl) (by rw[i0 w];rfl) J J) ?_) (FD c.m t.m) J;rintro σ H Q ⟨P,D,S,E,G,h⟩;refine⟨P,D,S,E,G,c.m _ _ _ _ (λx S1 h z H1 v o f R=>?_) h⟩;have A:=G.mono o.pre (o.ku E);refine⟨z,D,S1,f,A,t.m _ _ _ _ (λy S2 ⟨k,V,i,W,e1,h1,q0,q⟩ j I v2 s b l=>?_) h⟩;subst W;subst e1;rw[rl_int]at l;obtain⟨a,us,ev,ea,c,rr⟩:=p0 b (Rl.mono s.pre (s.ku f) _ _ R) h1;rw[Cd rr]at c;exact⟨a,V,i,by rw[ev],by rw[l],c,λe=>q0 e j I _ (o.trans s) b (rl_int.mpr J),λm g=>q m g j I _ (o.trans s) b (rl_int.mpr J)⟩
end
section
variable{K:YZ}{as:U Y}{H:Hp}{S:Sto}
theorem RlD.get:∀{a:U (Int×SV)} {c:U (Key×V)} {i:Nat} {p:Int×SV},RlD K as H c a->a[i]?=aA p->∃ v,c[i]?=aA (.inl p.1,v)
 | q::r,_,0,p,⟨v,t,e,_,_⟩,b=>by cases b;subst e;exact⟨v,rfl⟩
 | q::r,_,i+1,p,⟨v,t,e,_,h⟩,b=>by
   subst e;obtain⟨u,hu⟩:=RlD.get (i:=i) h (show r[i]?=aA p from b);exact⟨u,hu⟩
theorem RlD.val:∀{a:U (Int×SV)} {c:U (Key×V)},RlD K as H c a->∀ i,(∃ x v,DK a i=aA x/\AZ c (.inl i)=aA v/\Rl K as H v x)\/(DK a i=aB/\AZ c (.inl i)=aB)
 | [],_,h,i=>by rw[show _=[] from h];exact .inr ⟨rfl,rfl⟩
 | p::r,_,⟨v,t,e,d,f⟩,i=>by
   subst e;by_cases b:p.1=i
   ·refine .inl ⟨p.2,v,?_,?_,d⟩
    ·unfold DK;rw[A1h (by simp[b])];rfl
    ·unfold AZ;rw[A1h (by simp[b])];rfl
   ·have g:DK (p::r) i=DK r i:=by unfold DK;rw[A1i (by simp[b])]
    have j:AZ ((Sum.inl p.1,v)::t) (Sum.inl i)=AZ t (Sum.inl i):=by unfold AZ;rw[A1i (by simp[b])]
    rw[g,j];exact RlD.val f i
theorem RlD.any:∀{a:U (Int×SV)} {b:U (Key×V)},RlD K as H b a->∀ i,(b.any λc=>decide (c.1=Sum.inl i))=a.any λp=>decide (p.1=i)
 | [],_,h,i=>by rw[show _=[] from h];rfl
 | p::r,_,⟨v,t,e,f,d⟩,i=>by
   subst e;rw[Zn,Zn,RlD.any d i]
   congr 1
   simp
theorem RlD.set{v:V}{x:SV}(c:Rl K as H v x):∀{a:U (Int×SV)} {f:U (Key×V)},RlD K as H f a->∀ i,RlD K as H (f.map λd=>if d.1=Sum.inl i then (d.1,v) else d) (a.map λp=>if p.1=i then (p.1,x) else p)
 | [],_,h,i=>by rw[show _=[] from h];rfl
 | p::r,_,⟨u,t,e,j,g⟩,i=>by
   subst e;rw[ZE,ZE];by_cases b:p.1=i
   ·rw[iP b,iP (by rw[b])];exact⟨v,_,rfl,c,RlD.set c g i⟩
   ·rw[iG b,iG (λz=>b (Sum.inl.inj z))];exact⟨u,_,rfl,j,RlD.set c g i⟩
theorem RlD.snoc{v:V}{x:SV}(b:Rl K as H v x)(i:Int):∀{a:U (Int×SV)} {c:U (Key×V)},RlD K as H c a->RlD K as H (c++[(Sum.inl i,v)]) (a++[(i,x)])
 | [],_,h=>by rw[show _=[] from h];exact⟨v,[],rfl,b,rfl⟩
 | p::r,_,⟨u,t,e,d,f⟩=>by subst e;exact⟨u,_,rfl,d,RlD.snoc b i f⟩
def RlD.put{a:U (Int×SV)}{b:U (Key×V)}{v:V}{x:SV}(h:RlD K as H b a)(c:Rl K as H v x)(i:Int):RlD K as H (AM b (Sum.inl i) v) (Ak a i x):=by
 unfold AM Ak;rw[h.any i];by_cases z:(a.any λp=>decide (p.1=i))=aC
 ·rw[iP z,iP z];exact h.set c i
 ·rw[iG z,iG z];exact h.snoc c i
def VY{x:SV}{v:V}{c:U (Int×SV)}(e:Ok K as H S)(r:Rl K as H v x)(h:ME x S=O c):∃ a k b,x = .loc k/\v = .ref a/\as[k]?=O a/\Rd H a (.dK b)/\RlD K as H b c:=by
 cases x with
 | loc k=>
   obtain⟨a,d,rfl⟩:=rl_loc.mp r;unfold ME at h;cases hs:S[k]? with
   | none=>simp only[hs]at h;cases h
   | some o=>
     have ro:=e.obj k o a hs d;cases o with
     | lst _=>simp only[hs]at h;cases h
     | iset _=>simp only[hs]at h;cases h
     | dtl _=>simp only[hs]at h;cases h
     | dtf _ _ _=>simp only[hs]at h;cases h
     | dtp _=>simp only[hs]at h;cases h
     | dct f=>simp only[hs]at h;cases h;obtain⟨b,g,i⟩:=ro;exact⟨a,k,b,J,J,d,.inl g,i⟩
     | dcf o b f=>simp only[hs]at h;cases h;exact⟨a,k,b,J,J,d,.inr ⟨o,ro.1⟩,ro.2⟩
     | tbl _ _=>simp only[hs]at h;cases h
 | _=>cases h
def D3:Mono2 KD:=by rintro x y S P e i ⟨d,j,v,a,b,c,q⟩;exact⟨d,j,v,a,b,c,i _ _ q⟩
def PF:Bi K KD (λx y H Q=>∃ a v,x = .ref a/\DGet H a y (O v)/\Q v H):=λas H S x y v u Q c f d h=>by
 obtain⟨g,i,w,j,rfl,e,q⟩:=h;obtain⟨a,k,l,rfl,rfl,s,m,n⟩:=VY c f j;rw[rl_int]at d;subst d;rcases n.val i with⟨t,o,b,p,r⟩ | ⟨b,_⟩
 ·rw[e]at b;cases b;exact⟨a,o,J,.inl ⟨l,.inl i,m,J,p.symm⟩,q.here c r⟩
 ·rw[e]at b;cases b
end
section
variable{X:Cx}
def FE{a:WE}(m:Mono a):Mono (OU a):=λf S P g i h=>m _ _ _ _ (by rintro x S1 ⟨k,e,b,c,d,q⟩;exact⟨k,e,b,c,d,i _ _ q⟩) h
def VZ:A2v "dict"=O (.type "dict"):=by decide +kernel
theorem HI{K:YZ}{f:U Y}{H:Hp}:∀{b:U (Int×SV)} {d:U V},RlAll K f H d (b.map λ(p:Int×SV)=>SV.tup [.int p.1,p.2])->∃ c:U (Y×Int×V),d=c.map (λt=>V.ref t.1)/\(∀ t∈c,H t.1=O (.tup [.int t.2.1,t.2.2]))/\RlD K f H (c.map λt=>(.inl t.2.1,t.2.2)) b
 | [],d,h=>⟨[],rla_nil.mp h,(λ_ z=>nomatch z),J⟩
 | p::b,d,h=>by
   obtain⟨v,r,rfl,i,j⟩:=rla_cons.mp h;obtain⟨a,u,rfl,k,l⟩:=rl_tup.mp i;obtain⟨w,x,rfl,m,n⟩:=rla_cons.mp l;obtain⟨g,y,rfl,o,e⟩:=rla_cons.mp n;obtain rfl:=rla_nil.mp e;obtain rfl:=rl_int.mp m;obtain⟨c,rfl,q,s⟩:=HI j
   exact⟨(a,p.1,g)::c,J,λt z=>by
    rcases Yp.mp z with rfl | z
    ·exact k
    ·exact q t z,g,_,J,o,s⟩
theorem RlD.merge{K:YZ}{a:U Y}{H:Hp}:∀{more:U (Int×SV)} {ms:U (Key×V)} {kvs:U (Int×SV)} {ks:U (Key×V)},RlD K a H ms more->RlD K a H ks kvs->RlD K a H (Aa ks ms) (more.foldl (λb p=>Ak b p.1 p.2) kvs)
 | [],ms,kvs,ks,h,c=>by rw[show ms=[] from h];exact c
 | p::more,ms,kvs,ks,⟨v,t,e,d,h⟩,c=>by
   rw[e];exact RlD.merge (more:=more) (ms:=t) (kvs:=Ak kvs p.1 p.2) (ks:=AM ks (.inl p.1) v) h (c.put d p.1)
def JF{T:U Str}{y:Nat->Sn}{k:Nat}{N:U Str}{n:A2D}{r:A2p}{p q:Pos}{a:WE×WT}(C:Cok T y X k N n)(e:glo n "dict"=aC)(g:Good X r a)(o:f9 r=aC):Good X (.Call (.Name "dict" p) [r] [] q) (tt1 (OU a.1)):=by
 unfold glo at e;simp only[Yc,bQ,Yx]at e;have z:Gl X "dict":=by show X.env.scope.names.lookup ("dict":Str)=_;rw[C.hs];exact e.1.1
 refine .one (j5 _ (y0 (Ig C.calm) z C.dc0 VZ (n0 g.pe A7 (i0 o)) (by decide) e.2 (i0 o) J) ?_) (FE g.m) J;rintro σ H Q ⟨A,B,S,D,E,h⟩;refine⟨A,B,S,D,E,g.m _ _ _ _ (λx S1 ⟨k,d,G,I,h3,q⟩ b s v L c M=>?_) h⟩;subst G;obtain⟨a,P,rfl⟩:=rl_loc.mp M;obtain⟨us,hu,R⟩:=c.obj k _ a I P;obtain⟨f,rfl,V,u⟩:=HI R;have w:f.length=d.length:=by have:=u.length;rwa [YY]at this
 refine⟨a,f,J,.inl (.inl hu),V,by lia,λl i=>?_⟩;have j:b <+: b++[l]:=Zo _ _;have W:RlD X.K (b++[l]) (upd s l (.dK (Aa [] (f.map λt=>(.inl t.2.1,t.2.2))))) (Aa [] (f.map λt=>(.inl t.2.1,t.2.2))) (Do d):=RlD.mono j (y7 i) _ _ (RlD.merge u (show RlD X.K b s [] [] from J));exact q _ _ _ (L.trans (Go.push i)) (c.pushO i ⟨_,i3,W⟩) (rl_loc.mpr ⟨l,by rw[<-c.len];exact Z9,J⟩)
def FF{a b:WE}(m:Mono a)(g:Mono b):Mono (OV a b):=λo S P p i h=>m _ _ _ _ (λx S1 h=>g _ _ _ _ (by rintro y S2 ⟨k,l,j,n,a,b,c,d,e,f,q⟩;exact⟨k,l,j,n,a,b,c,d,e,f,i _ _ q⟩) h) h
theorem RlD.zip{K:YZ}{c:U Y}{H:Hp}:∀(a:U Int) {d:U V} {b:U SV},RlAll K c H d b->RlD K c H ((a.zip d).map λt=>((.inl t.1:Key),t.2)) (a.zip b)
 | [],_,_,_=>rfl
 | n::a,_,[],h=>by rw[rla_nil.mp h];rfl
 | n::a,_,y::b,h=>by
   obtain⟨v,r,rfl,e,f⟩:=rla_cons.mp h;exact⟨v,_,rfl,e,RlD.zip a f⟩
def JG{T:U Str}{Δ:Nat->Sn}{k:Nat}{N:U Str}{o:A2D}{r s:A2p}{p q p2 q2:Pos}{a b:WE×WT}(C:Cok T Δ X k N o)(w:glo o "dict"=aC)(f:glo o "zip"=aC)(A:Good X r a)(B:Good X s b)(W:f9 r=aC)(g:f9 s=aC):Good X (.Call (.Name "dict" p) [.Call (.Name "zip" p2) [r,s] [] q2] [] q) (tt1 (OV a.1 b.1)):=by
 unfold glo at w f;simp only[Yc,bQ,Yx]at w f;have gl:Gl X "dict":=by show X.env.scope.names.lookup ("dict":Str)=_;rw[C.hs];exact w.1.1
 have D:Gl X "zip":=by show X.env.scope.names.lookup ("zip":Str)=_;rw[C.hs];exact f.1.1
 refine .one (j5 _ (SB C.calm gl C.dc0 D C.zip (n0 A.pe (n0 B.pe A7 (i0 g)) (i0 W)) (by rw[i0 W,i0 g];rfl) (i0 g)) ?_) (FF A.m B.m) J;rintro σ H Q ⟨as,ρ,S,ok,en,h⟩;refine⟨as,ρ,S,ok,en,A.m _ _ _ _ (λx S1 h E H1 v G i rv=>?_) h⟩;refine⟨E,ρ,S1,i,en.mono G.pre (G.ku ok),B.m _ _ _ _ (λy S2 ⟨k,l,j,ys,e,e2,z,z2,l1,l2,q⟩ c H2 u I d ru=>?_) h⟩;subst e;subst e2;have L:=Rl.mono I.pre (I.ku i) _ _ rv;obtain⟨a,us,rfl,ea,hq,rr⟩:=p0 d L z;obtain⟨b,M,rfl,eb,P,n⟩:=p0 d ru z2;rw[Cd rr]at hq;refine⟨a,b,j,M,J,SqL.of hq,SqL.of P,by rw[n.length];exact l1,l2,λl R=>?_⟩;have V:c <+: c++[l]:=Zo _ _;have rd:RlD X.K (c++[l]) (upd H2 l (.dK (Aa [] ((j.zip M).map λt=>((.inl t.1:Key),t.2))))) (Aa [] ((j.zip M).map λt=>((.inl t.1:Key),t.2))) (Do (j.zip ys)):=RlD.mono V (y7 R) _ _ (RlD.merge (RlD.zip j n) (show RlD X.K c H2 [] [] from J));exact q _ _ _ ((G.trans I).trans (Go.push R)) (d.pushO R ⟨_,i3,rd⟩) (rl_loc.mpr ⟨l,by rw[<-d.len];exact Z9,J⟩)
def JH{x y:A2p}{p:Pos}{a b:WE×WT}(hu:X.A.units+1<cLine)(c:Good X x a)(d:Good X y b)(h:u8 y=aC):Good X (.Subscript x y p) (tt1 (w2 KD a.1 b.1)):=
 .one (j5 _ (K1 hu c.pe d.pe (CK h)) (By PF D3 c.m d.m)) (.two D3 c.m d.m) J
end
theorem RlD.vals{K:YZ}{c:U Y}{H:Hp}:∀{b:U (Int×SV)} {d:U (Key×V)},RlD K c H d b->RlAll K c H (d.map (·.2)) (b.map (·.2))
 | [],_,h=>by rw[show _=[] from h];rfl
 | p::r,_,⟨v,t,e,a,h⟩=>by rw[e];exact⟨v,_,rfl,a,RlD.vals h⟩
theorem RlD.at{K:YZ}{d:U Y}{H:Hp}:∀{b:U (Int×SV)} {f:U (Key×V)} {i:Nat} {p:Int×SV},RlD K d H f b->b[i]?=aA p->∃ v,f[i]?=aA (.inl p.1,v)/\Rl K d H v p.2
 | [],_,i,p,_,c=>by simp at c
 | p::r,_,0,_,⟨v,t,e,a,h⟩,c=>by cases c;exact⟨v,by rw[e];rfl,a⟩
 | p::r,_,i+1,_,⟨v,t,e,a,h⟩,c=>by
   obtain⟨u,hu,g⟩:=RlD.at (i:=i) h c;exact⟨u,by rw[e];exact hu,g⟩
section
variable{K:YZ}{as:U Y}{H:Hp}{S:Sto}
theorem RlT.length:∀{a:U (U Int×SV)} {b:U (U Key×V)},RlT K as H b a->b.length=a.length
 | [],_,h=>by rw[show _=_ from h];rfl
 | p::r,_,⟨v,t,e,_,c⟩=>by rw[e,ZK,ZK,c.length]
theorem RlT.get:∀{a:U (U Int×SV)} {b:U (U Key×V)} {i:Nat} {p:U Int×SV},RlT K as H b a->a[i]?=aA p->∃ v,b[i]?=aA (p.1.map Sum.inl,v)
 | [],_,_,_,_,h=>by simp at h
 | p::r,_,0,_,⟨v,t,e,_,c⟩,h=>by
   simp at h;subst h;rw[e];exact⟨v,rfl⟩
 | p::r,_,i+1,_,⟨v,t,e,_,c⟩,h=>by
   rw[e];obtain⟨v,d⟩:=c.get (i:=i) (by simpa using h);exact⟨v,by simpa using d⟩
theorem DS:∀{a b:U Int},a.map (Sum.inl:Int->Key)=b.map Sum.inl->a=b
 | [],[],_=>rfl
 | [],_::_,h=>by simp at h
 | _::_,[],h=>by simp at h
 | a::x,b::y,h=>by
   rw[ZE,ZE]at h;injection h with c h2;injection c with c;rw[c,DS h2]
theorem RlT.val(k:U Int):∀{a:U (U Int×SV)} {b:U (U Key×V)},RlT K as H b a->(∃ x v,Bn a k=aA x/\AZ b (k.map Sum.inl)=aA v/\Rl K as H v x)\/(Bn a k=aB/\AZ b (k.map Sum.inl)=aB)
 | [],_,h=>by rw[show _=_ from h];exact .inr ⟨rfl,rfl⟩
 | p::r,_,⟨v,t,e,c,d⟩=>by
   rw[e];by_cases z:p.1=k
   ·refine .inl ⟨p.2,v,?_,CW (by rw[z]),c⟩;unfold Bn;rw[Zb,decide_eq_true z];rfl
   ·rw[CY (λy=>z (DS y)),show Bn (p::r) k=Bn r k by unfold Bn;rw[Zb,decide_eq_false z]];exact RlT.val k d
theorem RlT.snoc{k:U Int}{v:V}{x:SV}(b:Rl K as H v x):∀{a:U (U Int×SV)} {c:U (U Key×V)},RlT K as H c a->RlT K as H (c++[(k.map Sum.inl,v)]) (a++[(k,x)])
 | [],_,h=>by rw[show _=_ from h];exact⟨v,[],rfl,b,rfl⟩
 | p::r,_,⟨w,t,e,d,f⟩=>by rw[e];exact⟨w,_,rfl,d,f.snoc b⟩
def HJ{v:V}{b:U Int}(r:Rl K as H v (.tup (b.map SV.int))):∃ p,v = .ref p/\H p=O (.tup ((b.map Sum.inl).map kV)):=by
 obtain⟨p,c,rfl,d,e⟩:=rl_tup.mp r
 have f:∀{b:U Int} {c:U V},RlAll K as H c (b.map SV.int)->c=(b.map Sum.inl).map kV:=by
  intro b
  induction b with
  | nil=>intro c h;exact rla_nil.mp h
  | cons a b g=>
    intro c h;obtain⟨v,t,rfl,i,j⟩:=rla_cons.mp h;rw[rl_int.mp i,g j];rfl
 exact⟨p,J,by rw[<-f e];exact d⟩
def PH{d:U V}{b:U Nat}(h:RlAll K as H d (b.map SV.loc)):∃ c:U Y,d=c.map V.ref/\c.length=b.length/\∀(i:Nat) p,c[i]?=O p->∃ l,b[i]?=O l/\as[l]?=O p:=by
 induction b generalizing d with
 | nil=>exact⟨[],rla_nil.mp h,J,λi p z=>by simp at z⟩
 | cons l b f=>
   obtain⟨v,t,rfl,g,j⟩:=rla_cons.mp h;obtain⟨a,k,rfl⟩:=rl_loc.mp g;obtain⟨c,rfl,m,n⟩:=f j;refine⟨a::c,J,by rw[ZK,ZK,m],λi p z=>?_⟩;cases i with
   | zero=>simp at z;subst z;exact⟨l,J,k⟩
   | succ i=>
     obtain⟨o,e,q⟩:=n i p (by simpa using z);exact⟨o,by simpa using e,q⟩
def MW:Bi K Fl (λx y H Q=>∃ a v,x = .ref a/\DGet H a y (O v)/\Q v H):=λas H S x y v u Q f j l h=>by
 obtain⟨k,c,m,w,rfl,d,rfl,g,q⟩:=h;obtain⟨a,i,rfl⟩:=rl_loc.mp j;obtain⟨p,rfl,n⟩:=HJ l
 obtain⟨b,r,s⟩:∃ b,Rd H a (.dT b)/\RlT K as H b c:=by
  rcases d with d | ⟨o,b,d⟩
  ·obtain⟨b,t,A⟩:=f.obj k _ a d i;exact⟨b,.inl t,A⟩
  ·have z:=(show RlO K as H a (.dtf o b c) from f.obj k _ a d i)
   exact⟨b,.inr ⟨o,z.1⟩,z.2⟩
 rcases s.val m with⟨E,B,e,C,D⟩ | ⟨e,_⟩
 ·rw[g]at e;cases e;exact⟨a,B,J,.inr ⟨b,_,p,r,J,n,C.symm⟩,q.here f D⟩
 ·rw[g]at e;cases e
end
def CL:Mono2 Fl:=by rintro x y S P g i ⟨k,e,f,v,a,b,c,d,q⟩;exact⟨k,e,f,v,a,b,c,d,i _ _ q⟩
def FG{a:WE}(m:Mono a):Mono (OQ a):=λj S P l i h=>m _ _ _ _ (by rintro x S1 ⟨k,e,f,g,a,b,c,d,q⟩;exact⟨k,e,f,g,a,b,c,d,i _ _ q⟩) h
def Dx{d e v:WE}(m:Mono d)(j:Mono e)(l:Mono v):Mono (Iw d e v):=λq S P r i h=>m _ _ _ _ (by rintro x S1 ⟨k,f,a,b,h⟩;exact⟨k,f,a,b,j _ _ _ _ (λy S2 h=>l _ _ _ _ (by rintro z s ⟨o,g,a,b,c,p,q1⟩;exact⟨o,g,a,b,c,λn e=>i _ _ (p n e),λe=>i _ _ (q1 e)⟩) h) h⟩) h
def CM:Mono Ix:=λa S P b i h=>i _ _ h
def HK{X:Cx}{p:Pos}:Good X (.Dict [] [] p) (tt1 Ix):=
 .one (j5 _ Ng (λc H Q ⟨d,e,S,a,f,h⟩=>λl b=>h _ _ _ (Go.push b) (a.pushO b ⟨[],i3,J⟩) (rl_loc.mpr ⟨l,by rw[<-a.len];exact Z9,J⟩))) CM J
def HL{X:Cx}{ro r L:A2p}{ap cp:Pos}{d e v:WE×WT}(hu:X.A.units+1<cLine)(M:Good X ro d)(N:Good X r e)(P:Good X L v)(hn:Az ro=aC)(hl:(ap.endLine == cp.line)=aC)(hs:f9 r=aC)(l:f9 L=aC):Good X (.Call (.Attribute ro "setdefault" ap) [r,L] [] cp) (tt1 (Iw d.1 e.1 v.1)):=by
 refine .one (j5 _ (Rb hu M.pe N.pe P.pe ⟨v6 hn,by rw[i0 hs,i0 l];rfl,hl,by rw[i0 hs,i0 l];rfl⟩) ?_) (Dx M.m N.m P.m) J;rintro σ H Q ⟨as,R,S,ok,en,h⟩;refine⟨as,R,S,ok,en,M.m _ _ _ _ (λx S1 ⟨k,a3,e0,hk,h⟩ T H1 w V f W=>?_) h⟩;subst e0;obtain⟨a,ea,rfl⟩:=rl_loc.mp W;obtain⟨a4,h1,_⟩:=f.obj k _ a hk ea;have n:=en.mono V.pre (V.ku ok);refine⟨a,J,.inr ⟨_,.inl h1⟩,T,R,S1,f,n,N.m _ _ _ _ (λy S2 h a0 H2 w2 C o a1=>?_) h⟩;refine⟨a0,R,S2,o,n.mono C.pre (C.ku f),P.m _ _ _ _ (λz S3 ⟨D,q,j,s,hb,q0,q1⟩ t H3 w3 E g B=>?_) h⟩;subst j;have i:=DP E.pre (DP C.pre ea);obtain⟨us,h3,I⟩:=g.obj k _ a s i;obtain⟨p,rfl,hp⟩:=HJ (Rl.mono E.pre (E.ku o) _ _ a1);have G:=V.trans (C.trans E);refine⟨us,_,p,J,h3,hp,by rw[I.length];exact Z8 hb (AS (Ym _)),λu b=>?_,λb=>?_⟩
 ·rcases I.val D with⟨x',v',j,c,r'⟩ | ⟨_,c⟩
  ·rw[b]at c;cases c;exact q0 x' j t H3 _ G g r'
  ·rw[b]at c;cases c
 ·rcases I.val D with⟨x',v',j,c,r'⟩ | ⟨j,_⟩
  ·rw[b]at c;cases c
  ·rw[Nc _ b];obtain⟨a2,K⟩:=g.writeO (x := .dtl (q++[(D,z)])) (u := .dT (us++[(D.map Sum.inl,w3)])) s i (λK=>⟨_,i3,(RlT.mono (Z3 _) K q us I).snoc (Rl.mono (Z3 _) K z w3 B)⟩);exact q1 j t _ _ (G.trans (Go.write (Yb i))) a2 (Rl.mono (Z3 _) K z w3 B)
def JI{X:Cx}{T:U Str}{I:Nat->Sn}{k:Nat}{N:U Str}{u:A2D}{r:A2p}{p q:Pos}{a:WE×WT}(hu:X.A.units+2<cLine)(C:Cok T I X k N u)(n:glo u "sorted"=aC)(c:Good X r a)(w:f9 r=aC):Good X (.Call (.Name "sorted" p) [r] [] q) (tt1 (OQ a.1)):=by
 unfold glo at n;simp only[Yc,bQ,Yx]at n;have K:Gl X "sorted":=by show X.env.scope.names.lookup ("sorted":Str)=_;rw[C.hs];exact n.1.1
 refine .one (j5 _ (w4 (Ee hu) K (C.bl .sorted) F4 (n0 c.pe A7 (i0 w)) (by decide) n.2 (i0 w) J) ?_) (FG c.m) J;rintro σ H Q ⟨L,M,S,P,R,h⟩;refine⟨L,M,S,P,R,c.m _ _ _ _ (λx S1 ⟨k,ls,f,g,V,W,h2,h3,q⟩ a0 H1 v g1 b rv=>?_) h⟩;subst V;obtain⟨a,us,rfl,ea,c,y⟩:=p0 b rv W;have o:=y;obtain⟨B,rfl,l1,p1⟩:=PH y
 have all:∀(i:Nat) d,B[i]?=O d->∃ t,H1 d=O (.lst (.int (f i)::t)):=λi d z=>by
  obtain⟨D,e,e2⟩:=p1 i d z;obtain⟨vs,E,z2⟩:=b.obj D _ d (h2 i D e) e2;obtain⟨v,t,rfl,w1,w2⟩:=rla_cons.mp z2;rw[rl_int.mp w1]at E;exact⟨t,E⟩
 exact⟨a,B,f,J,SqL.of c,all,λi j s hj=>h3 i j s (by lia),λl G=>q _ _ _ (g1.trans (Go.push G)) (b.push G o) (rl_loc.mpr ⟨l,by rw[<-b.len];exact Z9,J⟩)⟩
def HN{X:Cx}{f c:A2p}{p:Pos}{a b:WE×WT}(hu:X.A.units+1<cLine)(d:Good X f a)(e:Good X c b)(g:u8 c=aC):Good X (.Subscript f c p) (tt1 (w2 Fl a.1 b.1)):=
 .one (j5 _ (K1 hu d.pe e.pe (CK g)) (By MW CL d.m e.m)) (.two CL d.m e.m) J
section
variable{K:YZ}{as:U Y}{H:Hp}
theorem RlT.any:∀{a:U (U Int×SV)} {b:U (U Key×V)},RlT K as H b a->∀ k,(b.any λc=>decide (c.1=k.map Sum.inl))=a.any λp=>decide (p.1=k)
 | [],_,h,k=>by rw[show _=_ from h];rfl
 | p::r,_,⟨v,t,e,_,d⟩,k=>by
   rw[e,Zn,Zn,RlT.any d k];by_cases z:p.1=k
   ·rw[decide_eq_true z,decide_eq_true (show _=_ by rw[z])]
   ·rw[decide_eq_false z,decide_eq_false (λy=>z (DS y))]
theorem RlT.set{v:V}{x:SV}(b:Rl K as H v x):∀{a:U (U Int×SV)} {d:U (U Key×V)},RlT K as H d a->∀ k:U Int,RlT K as H (d.map λc=>if c.1=k.map Sum.inl then (c.1,v) else c) (a.map λp=>if p.1=k then (p.1,x) else p)
 | [],_,h,k=>by rw[show _=_ from h];rfl
 | p::r,_,⟨w,t,e,g,f⟩,k=>by
   rw[e,ZE,ZE];by_cases z:p.1=k
   ·rw[iP z,iP (by rw[z])];exact⟨v,_,rfl,b,RlT.set b f k⟩
   ·rw[iG z,iG (λy=>z (DS y))];exact⟨w,_,rfl,g,RlT.set b f k⟩
def RlT.put{a:U (U Int×SV)}{b:U (U Key×V)}{v:V}{x:SV}(h:RlT K as H b a)(c:Rl K as H v x)(k:U Int):RlT K as H (AM b (k.map Sum.inl) v) (Tr a k x):=by
 unfold AM Tr;rw[h.any k];split
 ·exact h.set c k
 ·exact h.snoc c
theorem RlT.vals:∀{b:U (U Int×SV)} {c:U (U Key×V)},RlT K as H c b->RlAll K as H (c.map (·.2)) (b.map (·.2))
 | [],_,h=>by rw[show _=[] from h];rfl
 | p::r,_,⟨v,t,e,a,h⟩=>by rw[e];exact⟨v,_,rfl,a,RlT.vals h⟩
end
end Rf
namespace Srf
open PySem PyProof.Rows
def KF(f:F->Int)(xs:Array Keyed)(i:Nat):Int:=match xs[i]? with
 | some p=>f p.1
 | none=>0
variable{f:F->Int}
def Sg(f:F->Int)(xs:Array Keyed)(a k:Nat):Prop:=∀ i j,i<=j->j<k->KF f xs (a+i)<=KF f xs (a+j)
def Dg(f:F->Int)(xs:Array Keyed)(a k:Nat):Prop:=∀ i j,i<=j->j<k->KF f xs (a+j)<=KF f xs (a+i)
structure Sb(a₀ a1:Array Keyed)(lo:Nat)(pd:Array (Nat×Nat×Nat))(st:SortSt):Prop where
 perm:(arrOf st).Perm a₀
 kind:kindOf st=A4j
 failed:failedOf st=aB
 pend:A4n st=pd
 pre:∀ i,i<lo->(arrOf st)[i]?=a1[i]?
section
variable{a₀ a1:Array Keyed}{lo:Nat}{pd:Array (Nat×Nat×Nat)}{st:SortSt}
theorem Sb.size(h:Sb a₀ a1 lo pd st):(arrOf st).size=a₀.size:=h.perm.size_eq
def Sb.put(h:Sb a₀ a1 lo pd st){a:Array Keyed}(c:a.Perm (arrOf st))(d:∀ i,i<lo->a[i]?=(arrOf st)[i]?):Sb a₀ a1 lo pd (setArr st a):=
 ⟨c.trans h.perm,h.kind,h.failed,h.pend,λi b=>(d i b).trans (h.pre i b)⟩
end
section
variable{prog:A2r}{w:A2u}{A:A2w}{E:F->A2m->Prop}{s:A2m}{a₀ a1:Array Keyed}{lo:Nat}{pd:Array (Nat×Nat×Nat)}
def Sg.more{a:Array Keyed}{x:Nat}(h:Sg f a lo x)(d:1<=x)(c:KF f a (lo+x - 1)<=KF f a (lo+x)):Sg f a lo (x+1):=λi j b e=>by
 by_cases z:j<x
 ·exact h i j b z
 ·rw[show j=x by lia];by_cases y:i=x
  ·rw[y];exact A1r _
  ·refine A2d (h i (x - 1) (by lia) (by lia)) ?_;rw[show lo+(x - 1)=lo+x - 1 by lia];exact c
def Dg.more{a c:Array Keyed}{x:Nat}(h:Dg f a lo x)(e:∀ k,KF f c k=KF f a k)(g:1<=x)(d:KF f a (lo+x)<=KF f a (lo+x - 1)):Dg f c lo (x+1):=λi j b l=>by
 rw[e,e];by_cases z:j<x
 ·exact h i j b z
 ·rw[show j=x by lia];by_cases y:i=x
  ·rw[y];exact A1r _
  ·have:=h i (x - 1) (by lia) (by lia);rw[show lo+(x - 1)=lo+x - 1 by lia]at this;exact A2d d this
end
end Srf
namespace Rf
open PySem L2
theorem RlD.keys{K:YZ}{c:U Y}{H:Hp}:∀{b:U (Int×SV)} {d:U (Key×V)},RlD K c H d b->RlAll K c H (d.map λp=>kV p.1) (b.map λp=>SV.int p.1)
 | [],_,h=>by rw[show _=[] from h];rfl
 | p::r,_,⟨v,t,e,a,h⟩=>by rw[e];exact⟨_,_,rfl,rl_int.mpr rfl,RlD.keys h⟩
end Rf
namespace PySem
abbrev HP(l:Y):Obj:={cls := .type "list_iterator",data := .fields #[.ref l,.int 0 0]}
abbrev zm3(h:A2y)(l1 l2:Y):A2y:=((h.push (HP l1)).push (SA l2)).push {cls := .type "tuple",data := .seq #[.ref h.objs.size,.ref (h.push (HP l1)).objs.size]}
abbrev zm4(h:A2y)(l1 l2:Y):A2y:=(zm3 h l1 l2).push {cls := .type "tuple",data := .seq #[.none,.none]}
abbrev zm5(h:A2y)(l1 l2:Y):A2y:=(zm4 h l1 l2).push {cls := .type "zip",data := .fields #[.none,.bool aD,.bool aD,.ref ((h.push (HP l1)).push (SA l2)).objs.size,.ref (zm3 h l1 l2).objs.size]}
def Ft(l1 l2:Y)(i j:Array F):
 Meets (Builtin.«zip.__new__» ⟨[.type "zip",.ref l1,.ref l2],[]⟩) (λ_ R s=>s.heap.IsList l1 i/\s.heap.IsTuple l2 j/\
  R (.ok (.ret (.ref (zm4 s.heap l1 l2).objs.size))) {s with heap:=zm5 s.heap l1 l2}):=
 .of_wp λprog w A R s h=>by
  obtain⟨k,g,d,l,m⟩:=s;obtain⟨a,b,h⟩:=h;have n:=sub_zip;have c:Heap.IsList (Shared.heap ⟨k,g,d,l,m⟩) l1 i:=a;have f:A2b (Shared.heap ⟨k.push (HP l1),g,d,l,m⟩) l2 j:=let ⟨o,e,r⟩:=b;⟨o,Yf _ e,r⟩
  wp_walk using A36 c,A3g f
  exact⟨_,J,h⟩
section
variable{prog:A2r}{w:A2u}{A:A2w}{E:F->A2m->Prop}{s:A2m}
def Ef{l1 l2:Y}{n p:Array A2k}{Q:A2k->A2m->Prop}(g:s.heap.IsList l1 n)(i:s.heap.IsTuple l2 p)
 (h:∀ f,IsZip f (s.heap.objs.size+4) (s.heap.objs.size+2) (s.heap.objs.size+3) .none->A2Q f (s.heap.objs.size+2) (.ref s.heap.objs.size) (.ref (s.heap.objs.size+1))->
   (∃ a b,A2Q f (s.heap.objs.size+3) a b)->f.IsListIter s.heap.objs.size l1 0->f.IsTupleIter (s.heap.objs.size+1) l2 0->
   (∀ c o,s.heap.get? c=O o->f.get? c=O o)->Q (.ref (s.heap.objs.size+4)) {s with heap:=f}):
 A2o (A2q prog w) A (call (.type "zip") [.ref l1,.ref l2]) Q E s:=by
 refine callType_new F.called_zip (by decide) (F.typeCall_zip_2 _ _) (F.newCall_zip_2 _ _) (λj=>F.args_object_init_3 j _ _) F.entry_zip_new (Ft l1 l2 n p) ⟨g,i,?_⟩;have k:(s.heap.push (HP l1)).objs.size=s.heap.objs.size+1:=ZN ..;have l:((s.heap.push (HP l1)).push (SA l2)).objs.size=s.heap.objs.size+2:=by rw[ZN,k]
 have m:(zm3 s.heap l1 l2).objs.size=s.heap.objs.size+3:=by rw[ZN,l]
 have q:(zm4 s.heap l1 l2).objs.size=s.heap.objs.size+4:=by rw[ZN,m]
 have d:∀{r:A2y} {t:Obj} {c o},r.get? c=O o->(r.push t).get? c=O o:=λe=>Yf _ e;have q5:(zm5 s.heap l1 l2).get? (zm4 s.heap l1 l2).objs.size=O _:=Yn _ J;have q4:(zm5 s.heap l1 l2).get? (zm3 s.heap l1 l2).objs.size=O _:=d (Yn _ J);have q3:(zm5 s.heap l1 l2).get? ((s.heap.push (HP l1)).push (SA l2)).objs.size=O _:=d (d (Yn _ J));have q2:(zm5 s.heap l1 l2).get? (s.heap.push (HP l1)).objs.size=O _:=d (d (d (Yn _ J)));have q1:(zm5 s.heap l1 l2).get? s.heap.objs.size=O _:=d (d (d (d (Yn _ J))));show _/\_;rw[l,m,q]at q5;rw[k,l]at q3;rw[m]at q4;rw[k]at q2;rw[q];exact⟨⟨_,q5,J⟩,h _ q5 q3 ⟨_,_,q4⟩ ⟨_,q1,J,J⟩ ⟨_,q2,J,J⟩ λc o x=>d (d (d (d (d x))))⟩
end
end PySem
namespace L2
open PySem PySem.Spec PyProof.Rows
def SqK(k:Bool)(K:YZ)(H:Hp)(b:Y)(ys:U V):Prop:=match k with
 | true=>SqT K H b ys
 | false=>SqL K H b ys
def IsK(k:Bool)(h:A2y)(l:Y)(ys:Array F):Prop:=match k with
 | true=>h.IsTuple l ys
 | false=>h.IsList l ys
def IterK(k:Bool)(h:A2y)(a l:Y)(i:Nat):Prop:=match k with
 | true=>h.IsTupleIter a l i
 | false=>h.IsListIter a l i
def IterK.obj{k:Bool}{h:A2y}{a l:Y}{i:Nat}(x:IterK k h a l i):∃ o,h.get? a=aA o/\∀ v,o.data ≠ .cell v:=by cases k<;>(obtain⟨o,e,_,d⟩:=x;exact⟨o,e,λv q=>by rw[d]at q;cases q⟩)
theorem IterK.at{k:Bool}{h h':A2y}{a l:Y}{i:Nat}(x:IterK k h a l i)(f:∀ o,h.get? a=aA o->h'.get? a=aA o):IterK k h' a l i:=by
 cases k
 ·exact Heap.IsListIter.at x f
 ·exact Heap.IsTupleIter.at x f
def Va(k:Bool)(K:YZ)(a b:Y):It:=
 ⟨λi H=>∃ xs ys x y,SqL K H a xs/\SqK k K H b ys/\xs[i]?=O x/\ys[i]?=O y,
  λi H x c=>∃ p v u,H p=aB/\x = .ref p/\(∀ xs,SqL K H a xs->xs[i]?=O v)/\(∀ ys,SqK k K H b ys->ys[i]?=O u)/\c=upd H p (.tup [v,u]),
  λi H=>∃ xs,SqL K H a xs/\xs.length=i⟩
def Inv.seqK{X:Cx}{c:U (Y×Obj)}{g:St}{H:Hp}{s:A2m}(I:Inv X c g H s){k:Bool}{b:Y}{e:U V}(h:SqK k X.K H b e):∃ a,Vals e a/\IsK k s.heap b a.toArray/\∀ d,SqK k X.K H b d->d=e:=by
 cases k
 ·obtain⟨a,f,p,_⟩:=I.list h;exact⟨a,f,p.isList,λd z=>I.list_inj z h⟩
 ·obtain⟨a,f,p,_⟩:=I.tuple h;exact⟨a,f,p,λd z=>I.tuple_inj z h⟩
def SF{prog:A2r}{w:A2u}{A:A2w}(k:Bool)(d:A.handled=aB)(b l:Y)(c:l≠b)(a:Array F):Draws prog w A b [b,l] a.size (λn v=>a[n]?=O v) (λi h=>IterK k h b l i/\IsK k h l a):=by
 cases k
 ·exact Draws.list d b l c a
 ·exact AY d b l c a
theorem MX(k:Bool){P:A2r}{w:A2u}{K:YZ}{R:U A2p}{kx:Nat}{tp:Pos}(z TI TO m n l1 l2:Y)(D:A3N z TI TO m n l1 l2):Turn P w K (.Tuple R kx tp) (Va k K l1 l2) [z,TI,TO,m,n] z
 (λi h=>IsZip h z TI TO .none/\A2Q h TI (.ref m) (.ref n)/\(∃ a b,A2Q h TO a b)/\h.IsListIter m l1 i/\IterK k h n l2 i) where
 mem:=by simp
 obj:=λi h t b j=>by
  obtain⟨B,f,⟨a',b',g⟩,⟨o1,S,c1,d1⟩,G⟩:=t;simp only[Yp,Zi,or_false]at j;rcases j with rfl | rfl | rfl | rfl | rfl
  ·exact⟨_,B,λv q=>by cases q⟩
  ·exact⟨_,f,λv q=>by cases q⟩
  ·exact⟨_,g,λv q=>by cases q⟩
  ·exact⟨o1,S,λv q=>by rw[d1]at q;cases q⟩
  ·exact G.obj
 keep:=λi h h' t k=>by
  obtain⟨B,f,⟨a',b',g⟩,N,G⟩:=t;exact⟨k z (by simp) _ B,k TI (by simp) _ f,⟨a',b',k TO (by simp) _ g⟩,N.at λo q=>k m (by simp) o q,G.at λo q=>k n (by simp) o q⟩
 item:=by
  intro X hP hw hK Q i l s σ H E I hf t hg;subst hP hw hK;obtain⟨xs,ys,x,y,u,a0,hx,hy⟩:=hg;obtain⟨d,L,p1,a1⟩:=I.list u;obtain⟨p,a3,p2,a4⟩:=I.seqK a0;obtain⟨u1,T,a5⟩:=L.get hx;obtain⟨u2,V,a6⟩:=a3.get hy;obtain⟨B,f,g,N,G⟩:=t;have a7:i<d.toArray.size:=by simpa using (gM T).1
  have a8:i<p.toArray.size:=by simpa using (gM V).1
  refine B1 (Draws.list (prog:=X.prog) (w:=X.w) (A:=X.A.in1) (show X.A.in1.handled=aB from I.ok.hd Q) m l1 D.l1i1 d.toArray) (SF (prog:=X.prog) (w:=X.w) (A:=X.A.in1) k (show X.A.in1.handled=aB from I.ok.hd Q) n l2 D.l2i2 p.toArray) (KN D) B f g ⟨N,p1.isList⟩ ⟨G,p2⟩ a7 a8 λv1 v2 h' W S e2 b1 b2 b3 b4 b5 b6 hk=>?_;have S:v1=u1:=by have:=S.symm.trans (show d.toArray[i]?=O u1 by simpa using T);cases this;rfl
  have e2:v2=u2:=by have:=e2.symm.trans (show p.toArray[i]?=O u2 by simpa using V);cases this;rfl
  subst S e2;refine⟨_,J,?_⟩
  have I1:Inv X l σ (upd H s.heap.objs.size (.tup [x,y])) {s with heap:=h',toks:=W}:=
   I.turnLay (t':=W) (ch:=[z,TI,TO,m,n]) (λb o j q=>hk b o (λe=>j (by simp[e])) (λe=>j (by simp[e])) (λe=>j (by simp[e])) (λe=>j (by simp[e])) q) hf ⟨Ia,[v1,v2],.cons a5 (.cons a6 .nil),⟨_,b5,J,_,J⟩⟩
  have a9:m<s.heap.objs.size:=by obtain⟨_,q,_⟩:=N;exact Yk q
  have lt2:n<s.heap.objs.size:=by obtain⟨_,q,_⟩:=G.obj;exact Yk q
  obtain⟨a',b',g⟩:=g
  have C:∀ b∈[z,TI,TO,m,n],FpOk X l (upd H s.heap.objs.size (.tup [x,y])) b:=λb j=>by
   obtain⟨f0,f1⟩:=hf b j
   have b0:b≠s.heap.objs.size:=by
    simp only[Yp,Zi,or_false]at j;rcases j with rfl | rfl | rfl | rfl | rfl
    ·exact Ys (Yk B)
    ·exact Ys (Yk f)
    ·exact Ys (Yk g)
    ·exact Ys a9
    ·exact Ys lt2
   exact⟨by rw[g7 b0];exact f0,f1⟩
  refine wpAny_letOwnedTupleGo_zip b1 λb7 b8 r=>?_
  have I2:Inv X l σ (upd H s.heap.objs.size (.tup [x,y])) {s with heap:=b7,toks:=W}:=
   Inv.turnedL (s:={s with heap:=h',toks:=W}) (t':=W) (ch:=[z,TI,TO,m,n]) I1 (λb o j q=>(r.2 b (λe=>j (by simp[e]))).trans q) C
  obtain⟨a2,c2,b2⟩:=b2
  refine⟨.ref s.heap.objs.size,_,I2,J,⟨_,x,y,I.fresh,J,λzs M=>by rw[I.list_inj M u];exact hx,λzs M=>by rw[a4 zs M];exact hy,J⟩,
   ⟨b8,r.extBut _ _ D.TIz (hk _ _ D.TIz D.TITO D.TIi1 D.TIi2 f),⟨_,_,r.extBut _ _ D.TOz b2⟩,b3.1.at λo q=>r.extBut _ _ D.i1z q,b4.1.at λo q=>r.extBut _ _ D.i2z q⟩,λb j=>(C b j).1⟩
 done:=by
   intro X hP hw hK Q i l s σ H E I hf t hg;subst hP hw hK;obtain⟨xs,u,hx⟩:=hg;obtain⟨d,L,p1,a1⟩:=I.list u;obtain⟨B,f,g,N,G⟩:=t;have b9:=L.length;have c0:i=d.toArray.size:=by rw[<-hx,b9];simp
   subst c0;refine BF (Draws.list (prog:=X.prog) (w:=X.w) (A:=X.A.in1) (show X.A.in1.handled=aB from I.ok.hd Q) m l1 D.l1i1 d.toArray) D.i1z (λc Q=>((KN D).g1 c Q).1) B f ⟨N,p1.isList⟩ λh' hk=>⟨J,I.turnedL (t':=s.toks) (ch:=[z,TI,TO,m,n]) (λb o j q=>hk b o (λe=>j (by simp[e])) (λe=>j (by simp[e])) q) hf⟩
 self:=λ_ _ _ _ _ t h=>A3X t.1 h
def MY{prog:A2r}{w:A2u}{A:A2w}{E:F->A2m->Prop}{s:A2m}{k:Bool}{l1 l2:Y}{g i:Array F}{Q:F->A2m->Prop}(e:s.heap.IsList l1 g)(f:IsK k s.heap l2 i)
 (h:∀ d,IsZip d (s.heap.objs.size+4) (s.heap.objs.size+2) (s.heap.objs.size+3) .none->A2Q d (s.heap.objs.size+2) (.ref s.heap.objs.size) (.ref (s.heap.objs.size+1))->
   (∃ a b,A2Q d (s.heap.objs.size+3) a b)->d.IsListIter s.heap.objs.size l1 0->IterK k d (s.heap.objs.size+1) l2 0->
   (∀ c o,s.heap.get? c=O o->d.get? c=O o)->Q (.ref (s.heap.objs.size+4)) {s with heap:=d}):A2o (A2q prog w) A (call (.type "zip") [.ref l1,.ref l2]) Q E s:=by
 cases k
 ·exact call_zip_2 e f λd j l m n p _ q=>h d j l ⟨_,_,m⟩ n p q
 ·exact Ef e f h
section
variable{X:Cx}
def XX(K:YZ)(ta:TA):TI:=λd H R=>ta d H λvs c=>∃ a b k,vs=[.ref a,.ref b]/\(∃ xs,SqL K c a xs)/\(∃ ys,SqK k K c b ys)/\R (Va k K a b) c
def SG{a b:A2p}{v:TA}{p f:Pos}{g:U A2p}{E:Nat}{G:Pos}(L:Gl X "zip")(M:X.mg "zip"=aB)(N:PA X [a,b] v)(P:A2x [a,b] X.env=[(aD,eval a X.env),(aD,eval b X.env)]:=by rfl)
 (i:A2x [b] X.env=[(aD,eval b X.env)]:=by rfl):PI X (.Tuple g E G) (.Call (.Name "zip" p) [a,b] [] f) (XX X.K v):=by
 intro d s w H R I h;refine Call_ (AW I L M Ge (PyProof.Rows.callWith_type1 (thn (N f d s w H _ I h) λus c ⟨vs,x,j,Q,q1⟩=>?_) (by rw[P,i]) (by rw[i];rfl)));obtain⟨l1,l2,k,e,⟨xs,m⟩,⟨ys,r⟩,q⟩:=q1;subst e;obtain⟨u1,u2,rfl,t,u⟩:=Vals.two Q;cases t;cases u;obtain⟨y,S,z,T⟩:=j.list m;obtain⟨A,V,B,W⟩:=j.seqK r;have a0:@LT.lt Nat _ l1 c.heap.objs.size:=by obtain⟨o,n,e,_⟩:=z;exact Yk e
 have a1:@LT.lt Nat _ l2 c.heap.objs.size:=by cases k<;>(obtain⟨o,e,_⟩:=B;exact Yk e)
 refine MY z.isList B λh' C c2 c3 c4 c5 hk=>?_;refine A3X C ?_;have I2:Inv X d w x {c with heap:=h'}:=j.kept (t':=c.toks) hk;refine⟨c.heap.objs.size+4,[c.heap.objs.size+4,c.heap.objs.size+2,c.heap.objs.size+3,c.heap.objs.size,c.heap.objs.size+1],_,_,x,J,I2,MX k _ _ _ _ _ l1 l2 ?_,⟨C,c2,c3,c4,c5⟩,λb D=>?_,q⟩
 ·constructor<;>(show @Ne Nat _ _)<;>lia
 ·have l:@LE.le Nat _ c.heap.objs.size b:=by
   simp only[Yp,Zi,or_false]at D;rcases D with rfl | rfl | rfl | rfl | rfl
   ·exact A08 _ _
   ·exact A08 _ _
   ·exact A08 _ _
   ·exact Ym _
   ·exact A08 _ _
  exact j.fpOk l (j.hok.fresh l)
end
end L2
namespace Rf
open PySem L2
noncomputable def DF(K:YZ)(g:Tg):TG:=λv d H Q=>∃ as c S x,Ok K as H S/\EnvOk K as H d c/\Rl K as H v x/\wTg g x c λb=>∀ a,EnvOk K as H a b->Q a H
noncomputable def Vb(K:YZ)(g:Tgs):TGs:=λvs d H Q=>∃ as c S xs,Ok K as H S/\EnvOk K as H d c/\RlAll K as H vs xs/\Aw g xs c λb=>∀ a,EnvOk K as H a b->Q a H
mutual
theorem y8:∀(g:Tg) {x:SV} {a:EnvS} {P b:EnvS->Prop},(∀ r,P r->b r)->wTg g x a P->wTg g x a b
 | .nm i,x,a,P,b,h,q=>by unfold wTg at q ⊢;exact h _ q
 | .tup c,x,a,P,b,h,q=>by
   cases x with
   | tup d=>unfold wTg at q ⊢;exact HQ c h q
   | _=>unfold wTg at q;exact q.elim
theorem HQ:∀(g:Tgs) {x:U SV} {a:EnvS} {P b:EnvS->Prop},(∀ r,P r->b r)->Aw g x a P->Aw g x a b
 | .nil,x,a,P,b,h,q=>by
   cases x with
   | nil=>unfold Aw at q ⊢;exact h _ q
   | cons _ _=>unfold Aw at q;exact q.elim
 | .cons t c,x,a,P,b,h,q=>by
   cases x with
   | nil=>unfold Aw at q;exact q.elim
   | cons y d=>unfold Aw at q ⊢;exact y8 t (λr q=>HQ c h q) q
end
theorem Br{env:Env}:∀{a:U A2p},a.all f9=aC->(A2Z a env).length=a.length/\(A2Z a env).findIdx? (·.1)=aB/\∀ e r,a=e::r->(A2Z (e::r) env).map (·.2)=assign e env::(A2Z r env).map (·.2)
 | [],_=>⟨J,J,λe r h=>by cases h⟩
 | e::a,h=>by
   rw[Zm,Yc]at h;obtain⟨b,c,_⟩:=Br (env:=env) h.2;have:A2Z (e::a) env=(aD,assign e env)::A2Z a env:=by cases e<;>first | rfl | (have:=h.1;cases this)
   rw[this];refine⟨by simp[b],by rw[List.findIdx?_cons,c];rfl,λf r z=>?_⟩;injection z with d z2;subst d z2;rw[this];rfl
theorem D4{k:Nat}{N:U Str}{b:A2D}:∀{g:Tgs} {a:U A2p},An k N b g a=aC->a.all f9=aC
 | .nil,a,h=>by unfold An at h;rw[ZW]at h;subst h;rfl
 | .cons t d,a,h=>by
   rw[An]at h;replace h:=c7 h;obtain⟨e,c,h⟩:=h;simp only[Yc]at h;rw[B0 c,Zm,h.1.2,D4 h.2];rfl
section
variable{X:Cx}{T:U Str}{Δ:Nat->Sn}{k:Nat}{N:U Str}{sc:A2D}
mutual
theorem AG(C:Cok T Δ X k N sc):∀(g:Tg) (r:A2p),Am k N sc g r=aC->PG X r (DF X.K g)
 | .nm i,r,h=>by
   rw[Am]at h;replace h:=c7 h;obtain⟨x,L,h⟩:=h;obtain⟨p,rfl⟩:=Bp L
   ·simp only[Yc,dQ]at h;obtain⟨⟨M,o⟩,d⟩:=h;unfold loc at d;simp only[ZU,bQ]at d;have P:Loc X.env.scope x:=by rw[C.hs];exact d
    have R:X.fn x=aC\/X.env.scope.names.lookup x=O .local:=by
     rw[C.hs];rcases d with d | d
     ·exact .inr d
     ·exact .inl (C.fn i x M o d)
    have b:=Qw (X:=X) (pos:=p) (i:=i) (by rw[C.hN];exact C.nd) (by rw[C.hN];exact o) P R;intro c s e H v u Q I f l;obtain⟨t,w,S,y,z,m,n,q⟩:=l;unfold wTg at q;exact b c s e H v u Q I f (q _ (m.set n))
 | .tup A,r,h=>by
   rw[Am]at h;replace h:=c7 h;obtain⟨B,V,h⟩:=h;obtain⟨j,p,rfl⟩:=BO V
   ·have D:=Br (env:=X.env) (D4 h);have b:=UQ (X:=X) (k:=j) (pos:=p) C.calm (FH C A B h) D.1 D.2.1;intro c s e H v u Q I f l;refine b c s e H v u Q I f ?_;obtain⟨t,w,S,y,z,m,n,q⟩:=l;cases y with
    | tup E=>
      obtain⟨a,W,rfl,ha,G⟩:=rl_tup.mp n;unfold wTg at q;refine⟨a,W,J,SqT.of ha,?_,t,w,S,E,z,m,G,q⟩;rw[G.length];exact KR A B E h q
    | _=>unfold wTg at q;exact q.elim
theorem FH(C:Cok T Δ X k N sc):∀(g:Tgs) (b:U A2p),An k N sc g b=aC->PGs X b (Vb X.K g)
 | .nil,b,h=>by
   rw[An]at h;rw[ZW]at h;subst h;intro a s c H d f Q I i j;refine Qx a s c H d f Q I i ?_;obtain⟨l,z,S,m,n,o,p,q⟩:=j;cases m with
   | nil=>unfold Aw at q;exact⟨rla_nil.mp p,q _ o⟩
   | cons _ _=>unfold Aw at q;exact q.elim
 | .cons t A,B,h=>by
   have u:=Br (env:=X.env) (D4 h);rw[An]at h;replace h:=c7 h;obtain⟨e,D,h⟩:=h;simp only[Yc]at h;rw[B0 D]at u ⊢;generalize B.tail=b at h u;intro a s c H d f Q I i j;refine NF (AG C t e h.1.1) (FH C A b h.2) (u.2.2 _ _ J) a s c H d f Q I i ?_;obtain⟨l,z,S,m,n,o,p,q⟩:=j;cases m with
   | nil=>unfold Aw at q;exact q.elim
   | cons y E=>
     unfold Aw at q;obtain⟨v,r,rfl,G,L⟩:=rla_cons.mp p;exact⟨v,r,J,l,z,S,y,n,o,G,y8 t (λw q M x=>⟨l,w,S,E,n,x,L,q⟩) q⟩
theorem KR:∀(g:Tgs) (b:U A2p) (a:U SV) {c:EnvS} {P:EnvS->Prop},An k N sc g b=aC->Aw g a c P->a.length=b.length
 | .nil,b,a,c,P,h,q=>by
   rw[An]at h;rw[ZW]at h;subst h;cases a with
   | nil=>rfl
   | cons _ _=>unfold Aw at q;exact q.elim
 | .cons t d,f,a,c,P,h,q=>by
   rw[An]at h;replace h:=c7 h;obtain⟨e,i,h⟩:=h;simp only[Yc]at h;rw[B0 i];generalize f.tail=b at h;cases a with
   | nil=>unfold Aw at q;exact q.elim
   | cons y j=>
     unfold Aw at q;obtain⟨l,m⟩:=KS t q;simp[KR d b j h.2 m]
theorem KS:∀(g:Tg) {x:SV} {a:EnvS} {P:EnvS->Prop},wTg g x a P->∃ b,P b
 | .nm i,x,a,P,q=>by unfold wTg at q;exact⟨_,q⟩
 | .tup c,x,a,P,q=>by
   cases x with
   | tup d=>unfold wTg at q;exact HR c q
   | _=>unfold wTg at q;exact q.elim
theorem HR:∀(g:Tgs) {a:U SV} {c:EnvS} {P:EnvS->Prop},Aw g a c P->∃ b,P b
 | .nil,a,c,P,q=>by
   cases a with
   | nil=>unfold Aw at q;exact⟨_,q⟩
   | cons _ _=>unfold Aw at q;exact q.elim
 | .cons t d,a,c,P,q=>by
   cases a with
   | nil=>unfold Aw at q;exact q.elim
   | cons y f=>
     unfold Aw at q;obtain⟨b,e⟩:=KS t q;exact HR d e
end
end
structure Gu(as:List Y)(H:Hp)(as':List Y)(H':Hp):Prop where
 pre:as <+: as'
 kp:KeepU H H'
def Gu.ku{K:YZ}{b a:U Y}{H c:Hp}{S:Sto}(g:Gu b H a c)(_:Ok K b H S):KeepU H c:=g.kp
def Go.gu{K:YZ}{b a:U Y}{H c:Hp}{S:Sto}(g:Go b H a c)(d:Ok K b H S):Gu b H a c:=⟨g.pre,g.ku d⟩
noncomputable def Walks(K:YZ)(c:U Y)(d:Hp)(J:It)(a:Sto->Prop)(xs:U SV):Prop:=∀ as H S,Gu c d as H->Ok K as H S->a S->
 (∀(i:Nat) (x:SV),xs[i]?=O x->J.go i H/\∀ v b,J.yld i H v b->Go as H as b/\Ok K as b S/\Rl K as b v x)/\J.stop xs.length H
noncomputable def XY(K:YZ)(as:U Y)(H:Hp)(R:It->Hp->Prop):(Sto->Prop)->U SV->Sto->Prop:=λb xs S1=>∀ a c J,Go as H a c->Ok K a c S1->Walks K a c J b xs->R J c
noncomputable def liftI(K:YZ)(w:WI):TI:=λb H R=>∃ as a S,Ok K as H S/\EnvOk K as H b a/\w a S (XY K as H R)
def MonoI(w:WI):Prop:=∀ a S (P b:(Sto->Prop)->U SV->Sto->Prop),(∀ k x S',P k x S'->b k x S')->w a S P->w a S b
structure GoodI(X:Cx)(tg r:A2p)(w:WI):Prop where
 pi:PI X tg r (liftI X.K w)
 m:MonoI w
section
variable{X:Cx}{K:YZ}
def Dy{a b:U Y}{c H:Hp}{S1 S:Sto}{x:SV}{v:V}{f:U SV}(d:Ok K a c S1)(r:Rl K a c v x)(h:Ai x S1=O f)(g:Gu a c b H)(i:Ok K b H S)(e:Ay x S1 S):Rl K b H v x/\Ai x S=O f:=by
 refine⟨Rl.mono g.pre (g.ku d) x v r,?_⟩;cases x with
 | loc k=>
   have e:S[k]?=S1[k]?:=e;unfold Ai at h ⊢;simp only[e];exact h
 | _=>exact h
def MZ{c:U Y}{d:Hp}{S1:Sto}{x:SV}{a:Y}{f:U SV}(j:Ok K c d S1)(r:Rl K c d (.ref a) x)(n:x ≠ .tup f)(h:Ai x S1=O f):Walks K c d (Itl K a) (Ay x S1) f:=λB H S g k s=>by
 obtain⟨t,w⟩:=Dy j r h g k s;obtain⟨b,l,e,m,p⟩:=Ad k t n w;cases e;refine⟨λi y z=>?_,l,m,by rw[p.length];exact Ym _⟩;obtain⟨v,q,A⟩:=p.get z;refine⟨⟨l,v,m,q⟩,λu C o=>?_⟩;obtain⟨e,o⟩:=o;subst e;have:=o l m;rw[q]at this;cases this;exact⟨Go.refl _ _,k,A⟩
def PJ{c:U Y}{d:Hp}{S1:Sto}{a:Y}{f:U SV}(h:Ok K c d S1)(r:Rl K c d (.ref a) (.tup f)):Walks K c d (Itt K a) (Ay (.tup f) S1) f:=λt H S g o w=>by
 have p:=Rl.mono g.pre (g.ku h) _ _ r;obtain⟨b,j,e,k,m⟩:=rl_tup.mp p;cases e;refine⟨λi y q=>?_,j,SqT.of k,by rw[m.length];exact Ym _⟩;obtain⟨v,n,s⟩:=m.get q;refine⟨⟨j,v,SqT.of k,n⟩,λu x l=>?_⟩;obtain⟨e,l⟩:=l;subst e;have:=l j (SqT.of k);rw[n]at this;cases this;exact⟨Go.refl _ _,o,s⟩
def HS{f:U Y}{j:Hp}{a b:Int}:Walks K f j (Itr a (b - a).toNat) (λ_=>True) (Av a b):=λm H S g k _=>by
 have h:(Av a b).length=(b - a).toNat:=by unfold Av;simp
 refine⟨λi y d=>?_,by show(b - a).toNat<=(Av a b).length;rw[h];exact Ym _⟩;have c:i<(b - a).toNat:=by rw[<-h];exact(gM d).1
 refine⟨c,λu n l=>?_⟩;obtain⟨e,rfl⟩:=l;subst e
 have:y = .int (a+i):=by
  unfold Av at d;rw[Yj,ZZ c]at d;exact(oj d).symm
 subst this;exact⟨Go.refl _ _,k,rl_int.mpr J⟩
def HU{a:U SV}{i:Nat}{y:SV}(h:(Bm a)[i]?=O y):∃ x,a[i]?=O x/\y = .tup [.int i,x]:=by
 unfold Bm at h;rw[A0b]at h;cases h1:(Ye a.length)[i]? with
 | none=>rw[h1]at h;cases h
 | some j=>
   cases h2:a[i]? with
   | none=>rw[h1,h2]at h;cases h
   | some x=>
     rw[h1,h2]at h;have b:=(gM h2).1;rw[ZZ b]at h1;cases h1;cases h;exact⟨x,J,J⟩
def HV{a:U SV}:(Bm a).length=a.length:=by unfold Bm;simp
def JJ{c:U Y}{d:Hp}{S1:Sto}{x:SV}{a:Y}{f:U SV}(j:Ok K c d S1)(r:Rl K c d (.ref a) x)(n:x ≠ .tup f)(h:Ai x S1=O f):Walks K c d (Um K a) (Ay x S1) (Bm f):=λI H S g k A=>by
 obtain⟨B,C⟩:=Dy j r h g k A;obtain⟨b,l,e,m,s⟩:=Ad k B n C;cases e;refine⟨λi y D=>?_,l,m,by rw[s.length,HV]⟩;obtain⟨z,E,rfl⟩:=HU D;obtain⟨v,t,G⟩:=s.get E;refine⟨⟨l,v,m,t⟩,λu L o=>?_⟩;obtain⟨p,w,q,rfl,o,rfl⟩:=o;have:=o l m;rw[t]at this;cases this;exact⟨Go.new q,k.new q,rl_tup.mpr ⟨p,_,J,i3,.cons (rl_int.mpr J) (.cons (Rl.mono (Z3 _) (y7 q) z v G) .nil)⟩⟩
def JK{c:U Y}{d:Hp}{S1:Sto}{a:Y}{f:U SV}(h:Ok K c d S1)(r:Rl K c d (.ref a) (.tup f)):Walks K c d (Uo K a) (Ay (.tup f) S1) (Bm f):=λB H S g q C=>by
 have s:=Rl.mono g.pre (g.ku h) _ _ r;obtain⟨b,j,e,k,n⟩:=rl_tup.mp s;cases e;refine⟨λi y t=>?_,j,SqT.of k,by rw[n.length,HV]⟩;obtain⟨z,x,rfl⟩:=HU t;obtain⟨v,o,A⟩:=n.get x;refine⟨⟨j,v,SqT.of k,o⟩,λu D l=>?_⟩;obtain⟨p,w,m,rfl,l,rfl⟩:=l;have:=l j (SqT.of k);rw[o]at this;cases this;exact⟨Go.new m,q.new m,rl_tup.mpr ⟨p,_,J,i3,.cons (rl_int.mpr J) (.cons (Rl.mono (Z3 _) (y7 m) z v A) .nil)⟩⟩
def D5{d l:A2p}{w:TI}(e:TI)(h:PI X d l w)(c:∀ a H R,e a H R->w a H R):PI X d l e:=λb s a H R I f=>h b s a H R I (c a H R f)
def YH(K:YZ)(c:TE):TI:=λd H R=>c d H λx b=>∃ a,x = .ref a/\(((∃ xs,SqL K b a xs)/\R (Itl K a) b)\/((∃ xs,SqT K b a xs)/\R (Itt K a) b))
def Vc{u l:A2p}{m:TE}(w:PE X l m):PI X u l (YH X.K m):=by
 intro c s n H R I h;refine thn (w c s n H _ I h) λv d j=>?_;obtain⟨x,i,f,y,q1⟩:=j;obtain⟨a,e,q⟩:=q1;subst e;cases y;have r:∀{z:Obj},Inv X c n i {d with heap:=d.heap.push z}:=f.kept (t':=d.toks) λb o e=>Yf _ e
 have t:∀ b∈[d.heap.objs.size],FpOk X c i b:=λb A=>by
  rw[Yt.mp A];exact f.fpOk (Ym _) (f.hok.fresh (Ym _))
 rcases q with⟨⟨B,k⟩,q⟩ | ⟨⟨B,k⟩,q⟩
 ·obtain⟨g,C,p,j⟩:=f.list k;exact A36 p.isList ⟨d.heap.objs.size,[d.heap.objs.size],_,_,i,J,r,LM a _,⟨_,Yn _ J,J,J⟩,t,q⟩
 ·obtain⟨g,C,p,j⟩:=f.tuple k;exact A3g (show d.heap.IsTuple a g.toArray from p) ⟨d.heap.objs.size,[d.heap.objs.size],_,_,i,J,r,IM a _,⟨_,Yn _ J,J,J⟩,t,q⟩
def Ma{s r:A2p}{a:WE×WT}(f:Good X r a):GoodI X s r (Tq a.1) where
 m:=λl S P B i h=>f.m _ _ _ _ (by rintro x S1 ⟨g,e,q⟩;exact⟨g,e,i _ _ _ q⟩) h
 pi:=D5 _ (Vc f.pe) (by
  rintro C H R ⟨t,l,S,u,w,h⟩;refine⟨t,l,S,u,w,f.m _ _ _ _ (λx S1 ⟨g,e,q⟩ c n v o b d=>?_) h⟩;by_cases j:x = .tup g
  ·subst j;obtain⟨p,k,rfl,y,z⟩:=rl_tup.mp d;exact⟨p,J,.inr ⟨⟨k,SqT.of y⟩,q c n _ o b (PJ b d)⟩⟩
  ·obtain⟨p,k,rfl,A,z⟩:=Ad b d j e;exact⟨p,J,.inl ⟨⟨k,A⟩,q c n _ o b (MZ b d j e)⟩⟩)
def JL{T:U Str}{z:Nat->Sn}{k:Nat}{N:U Str}{s:A2D}{c:U A2p}{A:Nat}{B p q:Pos}{r:A2p}{a:WE×WT}(C:Cok T z X k N s)(g:glo s "enumerate"=aC)(j:Good X r a)(t:f9 r=aC):GoodI X (.Tuple c A B) (.Call (.Name "enumerate" p) [r] [] q) (OO a.1) where
 m:=λu S P V i h=>j.m _ _ _ _ (by rintro x S1 ⟨l,e,q⟩;exact⟨l,e,i _ _ _ q⟩) h
 pi:=by
  unfold glo at g;simp only[Yc,bQ,Yx]at g;have D:Gl X "enumerate":=by show X.env.scope.names.lookup ("enumerate":Str)=_;rw[C.hs];exact g.1.1
  refine D5 _ (RE D C.enm (n0 j.pe A7 (i0 t)) (i0 t)) ?_;rintro W H R ⟨E,u,S,G,I,h⟩;refine⟨E,u,S,G,I,j.m _ _ _ _ (λx S1 ⟨l,e,q⟩ d w v y b f=>?_) h⟩;by_cases n:x = .tup l
  ·subst n;obtain⟨p,o,rfl,L,M⟩:=rl_tup.mp f;exact⟨p,J,.inr ⟨⟨o,SqT.of L⟩,q d w _ y b (JK b f)⟩⟩
  ·obtain⟨p,o,rfl,Q,M⟩:=Ad b f n e;exact⟨p,J,.inl ⟨⟨o,Q⟩,q d w _ y b (JJ b f n e)⟩⟩
def JM{T:U Str}{o:Nat->Sn}{k:Nat}{N:U Str}{g:A2D}{s r:A2p}{p q:Pos}{a:WE×WT}(C:Cok T o X k N g)(b:glo g "range"=aC)(c:Good X r a)(l:f9 r=aC):GoodI X s (.Call (.Name "range" p) [r] [] q) (OM a.1) where
 m:=λn S P E i h=>c.m _ _ _ _ (by rintro x S1 ⟨j,e,z,q⟩;exact⟨j,e,z,i _ _ _ q⟩) h
 pi:=by
  unfold glo at b;simp only[Yc,bQ,Yx]at b;have t:Gl X "range":=by show X.env.scope.names.lookup ("range":Str)=_;rw[C.hs];exact b.1.1
  refine D5 _ (LN t C.rng (n0 c.pe A7 (i0 l)) (i0 l)) ?_;rintro G H R ⟨u,n,S,w,y,h⟩;refine⟨u,n,S,w,y,c.m _ _ _ _ (λx S1 ⟨j,e,z,q⟩ d A v B f D=>?_) h⟩;subst e;refine⟨j,by rw[rl_int.mp D],z.1,z.2,?_⟩;have:=q d A (Itr 0 (j - 0).toNat) B f HS
  rwa [Int.sub_zero]at this
def JN{T:U Str}{M:Nat->Sn}{k:Nat}{N:U Str}{E:A2D}{Q r d:A2p}{p q:Pos}{a b:WE×WT}(C:Cok T M X k N E)(f:glo E "range"=aC)(g:Good X r a)(n:Good X d b)(G:f9 r=aC)(c:f9 d=aC):GoodI X Q (.Call (.Name "range" p) [r,d] [] q) (ON a.1 b.1) where
 m:=λo S P P' i h=>g.m _ _ _ _ (λx S1 h=>n.m _ _ _ _ (by rintro y S2 ⟨l,j,e,s,z,q⟩;exact⟨l,j,e,s,z,i _ _ _ q⟩) h) h
 pi:=by
  unfold glo at f;simp only[Yc,bQ,Yx]at f;have V:Gl X "range":=by show X.env.scope.names.lookup ("range":Str)=_;rw[C.hs];exact f.1.1
  refine D5 _ (LO V C.rng (n0 g.pe (n0 n.pe A7 (i0 c)) (i0 G)) (by rw[i0 G,i0 c];rfl) (i0 c)) ?_;rintro σ H R ⟨W,o,S,I,L,h⟩;refine⟨W,o,S,I,L,g.m _ _ _ _ (λx S1 h t H1 v w A rv=>?_) h⟩;refine⟨t,o,S1,A,L.mono w.pre (w.ku I),n.m _ _ _ _ (λy S2 ⟨l,j,e,s,z,q⟩ B H2 u g2 D ru=>?_) h⟩;subst e s;exact⟨l,j,by rw[rl_int.mp rv,rl_int.mp ru],z,q B H2 _ (w.trans g2) D HS⟩
def PL{d:U Y}{y:Hp}{a:Y}{k:Nat}{o:Obj}{f:U (U Key×V)}{c:U (U Int×SV)}(j:d[k]?=O a):Walks K d y (Itu a o f) (λz=>z[k]?=O (.dtf o f c)) (c.map λp=>SV.tup (p.1.map SV.int)):=λl H S g m A=>by
 have h:l[k]?=O a:=by
  obtain⟨t,rfl⟩:=g.pre;rw[Yw ((gM j).1)];exact j
 obtain⟨n,r⟩:=(show RlO K l H a (.dtf o f c) from m.obj k _ a A h)
 refine⟨λi x e=>?_,by rw[r.length,YY];exact Ym _,n⟩;rw[Yj]at e;cases hp:c[i]? with
 | none=>rw[hp]at e;cases e
 | some p=>
   rw[hp]at e;cases e;obtain⟨v,s⟩:=r.get hp;refine⟨⟨(gM s).1,n⟩,λu D B=>?_⟩;obtain⟨rfl,q,b,w,rfl,C⟩:=B;rw[s]at w;cases w;refine⟨Go.refl _ _,m,rl_tup.mpr ⟨b,_,J,C,?_⟩⟩;rw[A0g];exact RlAll.ints
def Mb{t r:A2p}{a:WE×WT}(j:Good X r a):GoodI X t r (Tt a.1) where
 m:=λp S P E i h=>j.m _ _ _ _ (by rintro x S1 ⟨k,b,e,f,q⟩;exact⟨k,b,e,f,λo c=>i _ _ _ (q o c)⟩) h
 pi:=D5 _ (XR j.pe) (by
  rintro G H R ⟨w,p,S,y,z,h⟩;refine⟨w,p,S,y,z,j.m _ _ _ _ (λx S1 ⟨k,b,e,f,q⟩ l I v A d B=>?_) h⟩;subst e;obtain⟨a,g,rfl⟩:=rl_loc.mp B;obtain⟨c,C,D⟩:=d.obj k _ a f g;refine⟨a,c,J,C,λo=>?_⟩;obtain⟨n,s⟩:=d.writeO (x := .dtf o c b) (u := .frz o (.dT c)) f g (λs=>⟨i3,RlT.mono (Z3 _) s b c D⟩);exact q o c l _ (Itu a o c) (A.trans (Go.write (Yb g))) n (PL g))
def SH{a b:U SV}{i:Nat}{z:SV}(h:(Dn a b)[i]?=O z):∃ x y,a[i]?=O x/\b[i]?=O y/\z = .tup [x,y]:=by
 unfold Dn at h;rw[A0b]at h;cases h1:a[i]? with
 | none=>rw[h1]at h;cases h
 | some x=>
   cases h2:b[i]? with
   | none=>rw[h1,h2]at h;cases h
   | some y=>
     rw[h1,h2]at h;cases h;exact⟨x,y,J,J,J⟩
def SJ{a b:U SV}(h:a.length=b.length):(Dn a b).length=a.length:=by unfold Dn;simp[h]
def FI{c:U Y}{l:Hp}{S1:Sto}{k:Nat}{D:Bool}{a b:Y}{m s:U SV}{y:SV}(t:Ok K c l S1)(P:Rl K c l (.ref a) (.loc k))(h:S1[k]?=O (.lst m))(Q:∀ d H S,Gu c l d H->Ok K d H S->Ay y S1 S->∃ f,SqK D K H b f/\RlAll K d H f s)(R:m.length=s.length):Walks K c l (Va D K a b) (λE=>Ay (.loc k) S1 E/\Ay y S1 E) (Dn m s):=λd H S g x G=>by
 obtain⟨_,o,e,ea,T,I⟩:=p0 x (Rl.mono g.pre (g.ku t) _ _ P) (show S[k]?=O (.lst m) from (show S[k]?=S1[k]? from G.1).trans h);cases e;obtain⟨f,j,A⟩:=Q d H S g x G.2;have B:SqL K H a o:=SqL.of T;refine⟨λi z V=>?_,o,B,by rw[I.length,SJ R]⟩;obtain⟨p,q,W,C,rfl⟩:=SH V;obtain⟨v,L,rv⟩:=I.get W;obtain⟨u,hu,ru⟩:=A.get C;refine⟨⟨o,f,v,u,B,j,L,hu⟩,λw H' yl=>?_⟩;obtain⟨n,v',u',r,rfl,y1,y2,rfl⟩:=yl;have M:=y1 o B;have N:=y2 f j;rw[L]at M;cases M;rw[hu]at N;cases N;exact⟨Go.new r,x.new r,rl_tup.mpr ⟨n,_,J,i3,.cons (Rl.mono (Z3 _) (y7 r) p v rv) (.cons (Rl.mono (Z3 _) (y7 r) q u ru) .nil)⟩⟩
def SK{a:U Y}{f:Hp}{S1:Sto}{b:Y}{i:U SV}{P:Sto->Prop}(h:Ok K a f S1)(j:Rl K a f (.ref b) (.tup i)):∀ c H S,Gu a f c H->Ok K c H S->P S->∃ d,SqK aC K H b d/\RlAll K c H d i:=λc H S g m _=>by
 obtain⟨_,d,e,k,l⟩:=rl_tup.mp (Rl.mono g.pre (g.ku h) _ _ j);cases e;exact⟨d,SqT.of k,l⟩
def JO{T:U Str}{Δ:Nat->Sn}{k:Nat}{N:U Str}{sc:A2D}{o:U A2p}{kx:Nat}{tp p q:Pos}{r L:A2p}{a b:WE×WT}(C:Cok T Δ X k N sc)(M:glo sc "zip"=aC)(Q:Good X r a)(d:Good X L b)(hs:f9 r=aC)(f:f9 L=aC):GoodI X (.Tuple o kx tp) (.Call (.Name "zip" p) [r,L] [] q) (OW a.1 b.1) where
 m:=λV S P P' i h=>Q.m _ _ _ _ (λx S1 h=>d.m _ _ _ _ (by rintro y S2 ⟨k,xs,A,e,z,e2,l,q⟩;exact⟨k,xs,A,e,z,e2,l,i _ _ _ q⟩) h) h
 pi:=by
  unfold glo at M;simp only[Yc,bQ,Yx]at M;have gl:Gl X "zip":=by show X.env.scope.names.lookup ("zip":Str)=_;rw[C.hs];exact M.1.1
  refine D5 _ (SG gl C.zip (n0 Q.pe (n0 d.pe A7 (i0 f)) (i0 hs)) (by rw[i0 hs,i0 f];rfl) (i0 f)) ?_;rintro σ H R ⟨as,V,S,s,en,h⟩;refine⟨as,V,S,s,en,Q.m _ _ _ _ (λx S1 h W H1 v B t rv=>?_) h⟩;refine⟨W,V,S1,t,en.mono B.pre (B.ku s),d.m _ _ _ _ (λy S2 ⟨k,xs,A,e,z,hy,l,q⟩ w H2 u D c E=>?_) h⟩;subst e;have j:=Rl.mono D.pre (D.ku t) _ _ rv;obtain⟨a,G,rfl,ea,I,rr⟩:=p0 c j z;by_cases n:y = .tup A
  ·subst n;obtain⟨b,ws,rfl,d,a0⟩:=rl_tup.mp E;exact⟨a,b,aC,J,⟨G,SqL.of I⟩,⟨ws,SqT.of d⟩,q w H2 _ (B.trans D) c (FI (y := .tup A) c j z (SK c E) l)⟩
  ·obtain⟨b,ws,rfl,d,a0⟩:=Ad c E n hy;refine⟨a,b,aD,J,⟨G,SqL.of I⟩,⟨ws,d⟩,q w H2 _ (B.trans D) c (FI c j z (λas H S g s kp=>?_) l)⟩;obtain⟨r,h⟩:=Dy c E hy g s kp;obtain⟨_,G,e,I,rr⟩:=Ad s r n h;cases e;exact⟨G,I,rr⟩
end
end Rf
namespace L2
open PySem PySem.Spec PyProof.Rows
def HW(E a:A2p)(b:F)(env:Env):Sem Unit:=do
 let x <- eval a env
 standAt a.pos
 let x <- A34 a env x
 let _ <- runOwn (.compStart E 1 (<- holding [x] (pyIter x)) b env) env
section
variable{prog:A2r}{w:A2u}{A:A2w}{elt tg iter tg2 iter2:A2p}{ifs ifs2:U A2p}{scope:A2D}{pos:Pos}
def CN{R:Result->A2m->Prop}{s:A2m}{e b:F}{a:Env}
 (g:codeAny (A2q prog w) A (.compLoop (.ListComp elt [⟨tg,iter,ifs,0⟩,⟨tg2,iter2,ifs2,0⟩] scope pos) 1 e b a) R s)
 (h:A2o (A2q prog w) A (pyIter e) (λc d=>codeAny (A2q prog w) A (.compLoop (.ListComp elt [⟨tg,iter,ifs,0⟩,⟨tg2,iter2,ifs2,0⟩] scope pos) 1 c b a) R d)
   (notedBy (A2q prog w) A a λx d=>R (.error x) d) s):
 codeAny (A2q prog w) A (.compStart (.ListComp elt [⟨tg,iter,ifs,0⟩,⟨tg2,iter2,ifs2,0⟩] scope pos) 1 e b a) R s:=by
 refine A49 ?_;show A2o _ _ ((A3Y (.ListComp elt [⟨tg,iter,ifs,0⟩,⟨tg2,iter2,ifs2,0⟩] scope pos) 1 e b a).onRaise (λx=>do A4N x a;standAt A4a)) _ _ s;refine A4y ?_;unfold A3Y;show A2o _ _ (ask >>= _) _ _ s;refine Z (A3e (A5f ?_));split
 ·first
   | exact Z (A2l (A2l (And.intro rfl g)))
   | exact A2l (And.intro rfl g)
 ·first
   | exact Z (A2K (Z (A2L (Z (A2J h (λc d f=>A2l (And.intro J f)) λ_ _ x=>x)))))
   | (refine Z (A2K ?_);show A2o _ _ (standAt iter2.pos >>= _) _ _ s;exact Z (A2L (Z (A2J h (λc d f=>A2l (And.intro J f)) λ_ _ x=>x))))
def SL:CForm prog w A (.ListComp elt [⟨tg,iter,ifs,0⟩,⟨tg2,iter2,ifs2,0⟩] scope pos) tg iter ifs (HW (.ListComp elt [⟨tg,iter,ifs,0⟩,⟨tg2,iter2,ifs2,0⟩] scope pos) iter2) where
 turn:=λ_ _ _=>by
  unfold HW;simp only[bind_assoc,pure_bind];rfl
 und:=λ_ _ _=>rfl
 den:=λ_ _ _=>rfl
 start:=λa h=>A41 a h
def SM:CForm prog w A (.ListComp elt [⟨tg,iter,ifs,0⟩,⟨tg2,iter2,ifs2,0⟩] scope pos) tg2 iter2 ifs2 (Na elt) 1 where
 turn:=λ_ _ _=>by rfl
 und:=λ_ _ _=>rfl
 den:=λ_ _ _=>rfl
 start:=λa h=>CN a h
end
noncomputable def SetXO(prog:A2r)(w:A2u)(o:Obj)(L:U Int):Prop:=
 ∃ es ep t,o.ExactSet/\o.data = .set es ep t/\ElemsOf (intKind prog w) es.toList/\es.size<A3x/\t.fits es.size=aC/\Tab w t/\(es.toList.map λe=>numOf e.2).Perm L
def SetXO.at{prog:A2r}{w:A2u}{o:Obj}{L:U Int}{h:A2y}{a:Y}(x:SetXO prog w o L)(e:h.get? a=aA o):SetX prog w h a L:=by obtain⟨b,c,t,r⟩:=x;exact⟨o,b,c,t,e,r⟩
def SetX.obj{prog:A2r}{w:A2u}{L:U Int}{h:A2y}{a:Y}(x:SetX prog w h a L):∃ o,h.get? a=aA o/\SetXO prog w o L:=by obtain⟨o,b,c,t,e,r⟩:=x;exact⟨o,e,b,c,t,r⟩
def hoS(o:Obj)(L:U Int):HO := .frz o (.set (λk=>decide (k∈L)) L.length)
def PM{P:A2r}{w:A2u}{H:Hp}{h:A2y}{a:Y}{o:Obj}{L:U Int}(x:SetXO P w o L)(e:h.get? a=O o):ObjOk P w H h a (hoS o L):=by refine⟨e,?_⟩;show h.SetOf (intKind P w) a _ _;exact(x.at e).kind
def PN(a:A2p):F->Env->Sem Unit:=λb env=>do
 let v <- eval a env
 standAt a.pos
 let _ <- call (.builtin "set.add") [b,v]
def AK{prog:A2r}{w:A2u}{A:A2w}{R:Result->A2m->Prop}{s:A2m}{elt target iter ifs rest scope pos it acc env}
 (d:codeAny (A2q prog w) A (.compLoop (.SetComp elt (⟨target,iter,ifs,0⟩::rest) scope pos) 0 it acc env) R s)
 (h:A2o (A2q prog w) A (pyIter it) (λa b=>codeAny (A2q prog w) A (.compLoop (.SetComp elt (⟨target,iter,ifs,0⟩::rest) scope pos) 0 a acc env) R b)
   (notedBy (A2q prog w) A env λx b=>R (.error x) b) s):
 codeAny (A2q prog w) A (.compStart (.SetComp elt (⟨target,iter,ifs,0⟩::rest) scope pos) 0 it acc env) R s:=by
 refine A49 ?_;show A2o _ A ((A3Y (.SetComp elt (⟨target,iter,ifs,0⟩::rest) scope pos) 0 it acc env).onRaise (λx=>do A4N x env;standAt A4a)) _ _ s;refine A4y ?_;unfold A3Y;show A2o _ A (ask >>= _) _ _ s;refine Z (A3e (A5f ?_));split
 ·first
   | exact Z (A2l (A2l (And.intro rfl d)))
   | exact A2l (And.intro rfl d)
 ·first
   | exact Z (A2K (Z (A2L (Z (A2J h (λa b c=>A2l (And.intro J c)) λ_ _ x=>x)))))
   | (refine Z (A2K ?_);show A2o _ _ (standAt iter.pos >>= _) _ _ s;exact Z (A2L (Z (A2J h (λa b c=>A2l (And.intro J c)) λ_ _ x=>x))))
def Mc{prog:A2r}{w:A2u}{A:A2w}{c f a:A2p}{d:U A2p}{b:A2D}{e:Pos}:CForm prog w A (.SetComp c [⟨f,a,d,0⟩] b e) f a d (PN c) where
 turn:=λ_ _ _=>rfl
 und:=λ_ _ _=>rfl
 den:=λ_ _ _=>rfl
 start:=λg h=>AK g h
section
variable{prog:A2r}{w:A2u}{A:A2w}{E:F->A2m->Prop}{s:A2m}
def SN{Q:F->A2m->Prop}(h:Q (.ref s.heap.objs.size) {s with heap:=s.heap.push (set0 w)}):A2o (A2q prog w) A (newSet (.type "set")) Q E s:=by unfold newSet A59;refine Z (Z (A3e (A2l ?_)));exact A2z h
def SQ{H:Hp}{a:Y}{u v:HO}:upd (upd H a u) a v=upd H a v:=by
 funext b
 by_cases c:b=a
 ·subst c;rw[i3,i3]
 ·rw[g7 c,g7 c,g7 c]
def PP{a:Y}{L:U Int}{k:Int}{i:Tok}{Q:A2k->A2m->Prop}(g:SetX prog w s.heap a L)(c:L.length+1<A3x)
 (h:∀ d,Z7 a s.heap d->SetX prog w d a (A38 L k)->Q .none {s with heap:=d,toks:=s.toks+1}):A2o (A2q prog w) A (call (.builtin "set.add") [.ref a,.int k i]) Q E s:=by
 have j:s.TypeIs (.ref a) "set":=by
  obtain⟨o,n,p,t,l,m,r⟩:=g;exact⟨o,l,m.1⟩
 refine A2C F.slot_set_add j F.entry_set_add ?_ (F.args_set_add_2 _ _);unfold Builtin.«set.add» Builtin.Frozenset.oneOther;simp only[List.isEmpty_nil,bind_assoc];unfold Builtin.Frozenset.addrOf setAdd;refine Z (A2l ?_)
 try dsimp only
 refine Z (A2l ?_)
 try dsimp only
 refine Z ?_;refine A2A ?_;refine Z ((intKind prog w).pyHash (k:=k) (A4C _ _ _ _) ?_);refine Y4 (s:={s with toks:=s.toks+1}) g c λd b e f=>?_;show A2o _ _ (ret Value.none) _ _ _;exact A2l ⟨_,J,h d e f⟩
end
noncomputable def Vd(P:A2r)(w:A2u)(c:TE)(D:Y)(L:U Int)(d:St)(H:Hp)(N:U Int->Hp->Prop):Prop:=
 c d H λv a=>∃ k o,v = .int k/\SetXO P w o L/\a D=O (hoS o L)/\L.length<=900/\∀ b,SetXO P w b (A38 L k)->N (A38 L k) (upd a D (hoS b (A38 L k)))
section
variable{prog:A2r}{w:A2u}{A:A2w}{elt tg iter tg2 iter2:A2p}{ifs ifs2:U A2p}{scope:A2D}{pos:Pos}
def CA{R:Result->A2m->Prop}{s:A2m}{e b:F}{a:Env}
 (g:codeAny (A2q prog w) A (.compLoop (.SetComp elt [⟨tg,iter,ifs,0⟩,⟨tg2,iter2,ifs2,0⟩] scope pos) 1 e b a) R s)
 (h:A2o (A2q prog w) A (pyIter e) (λc d=>codeAny (A2q prog w) A (.compLoop (.SetComp elt [⟨tg,iter,ifs,0⟩,⟨tg2,iter2,ifs2,0⟩] scope pos) 1 c b a) R d)
   (notedBy (A2q prog w) A a λx d=>R (.error x) d) s):
 codeAny (A2q prog w) A (.compStart (.SetComp elt [⟨tg,iter,ifs,0⟩,⟨tg2,iter2,ifs2,0⟩] scope pos) 1 e b a) R s:=by
 refine A49 ?_;show A2o _ _ ((A3Y (.SetComp elt [⟨tg,iter,ifs,0⟩,⟨tg2,iter2,ifs2,0⟩] scope pos) 1 e b a).onRaise (λx=>do A4N x a;standAt A4a)) _ _ s;refine A4y ?_;unfold A3Y;show A2o _ _ (ask >>= _) _ _ s;refine Z (A3e (A5f ?_));split
 ·first
   | exact Z (A2l (A2l (And.intro rfl g)))
   | exact A2l (And.intro rfl g)
 ·first
   | exact Z (A2K (Z (A2L (Z (A2J h (λc d f=>A2l (And.intro J f)) λ_ _ x=>x)))))
   | (refine Z (A2K ?_);show A2o _ _ (standAt iter2.pos >>= _) _ _ s;exact Z (A2L (Z (A2J h (λc d f=>A2l (And.intro J f)) λ_ _ x=>x))))
def PR:CForm prog w A (.SetComp elt [⟨tg,iter,ifs,0⟩,⟨tg2,iter2,ifs2,0⟩] scope pos) tg iter ifs (HW (.SetComp elt [⟨tg,iter,ifs,0⟩,⟨tg2,iter2,ifs2,0⟩] scope pos) iter2) where
 turn:=λ_ _ _=>by
  unfold HW;simp only[bind_assoc,pure_bind];rfl
 und:=λ_ _ _=>rfl
 den:=λ_ _ _=>rfl
 start:=λa h=>AK a h
def PU:CForm prog w A (.SetComp elt [⟨tg,iter,ifs,0⟩,⟨tg2,iter2,ifs2,0⟩] scope pos) tg2 iter2 ifs2 (PN elt) 1 where
 turn:=λ_ _ _=>by rfl
 und:=λ_ _ _=>rfl
 den:=λ_ _ _=>rfl
 start:=λa h=>CA a h
end
noncomputable def PEk{α:Type}(Y:Cx)(c:F->Env->Sem Unit)(tem:A2n->α->St->Hp->(α->Hp->Prop)->Prop):Prop:=∀ D b s d H a N,Inv Y b d H s->tem D a d H N->A2o (A2q Y.prog Y.w) Y.A (c (.ref D) Y.env) (λ_ f=>∃ a1 e,Inv Y b d e f/\N a1 e) (λ_ _=>False) s
noncomputable def PEm{α:Type}(Y:Cx)(c:F->Env->Sem Unit)(tem:A2n->α->St->Hp->(α->Hp->Prop)->Prop):Prop:=∀ D b s e H a N,Inv Y b e H s->tem D a e H N->A2o (A2q Y.prog Y.w) Y.A (c (.ref D) Y.env) (λ_ g=>∃ d a1 f,Inv Y b d f g/\N a1 f) (λ_ _=>False) s
def PEk.m{e:Type}{Y:Cx}{b:A2k->Env->Sem Unit}{c:A2n->e->St->Hp->(e->Hp->Prop)->Prop}(h:PEk Y b c):PEm Y b c:=λD d s f H a N I q=>thn (h D d s f H a N I q) (by rintro _ _ ⟨a1,g,r⟩;exact⟨f,a1,g,r⟩)
section
variable{Y:Cx}{elt kx vx:A2p}{te tv:TE}(hx:Y.xe=λ_ _=>False)
include hx
theorem PV(l:PE Y elt te):PEk Y (Na elt) (Wo te):=by intro D a s e H f N I h;have g:=l a s e H _ I h;rw[hx]at g;refine Z (thn g λy m b=>?_);obtain⟨v,i,n,o,c,d,q8⟩:=b;have j:=Cr (X:=Y) a m e i (.ref D) [v] (.ref D) [y] (λ_ k=>k=upd i D (.lst (f++[v]))) n J (.cons o .nil) ⟨_,f,v,J,J,c,d,J⟩;rw[hx]at j;refine Z (thn j λ_ r b=>?_);obtain⟨z,k,p,t,q⟩:=b;subst q;exact A2l ⟨_,_,p,q8⟩
theorem PX(p:PE Y elt te):PEk Y (PN elt) (Vd Y.prog Y.w te):=by intro D a s q H L N I h;have i:=p a s q H _ I h;rw[hx]at i;refine Z (thn i λv f r=>?_);obtain⟨x,t,j,y,k,o,A,B,l,P,q1⟩:=r;subst A;obtain⟨Q,rfl⟩:=y;have m:SetX Y.prog Y.w f.heap D L:=B.at (j.hok D _ l).1;refine Z (A2L (Z (PP m (by show _<4096;lia) λh' C E=>A2l ?_)));obtain⟨g,c,d⟩:=E.obj;have G:ObjOk Y.prog Y.w (upd t D (.set (λk=>decide (k∈L)) L.length)) f.heap D (.set (λk=>decide (k∈L)) L.length):=m.kind;have K:=j.retag (u' := .set (λk=>decide (k∈L)) L.length) l nofun nofun nofun (λo R z=>by injection z with S z2;cases z2) G;have n:=K.write (x:=D) (e:=D) (o:=hoS g (A38 L k)) (h':=h') (t':=f.toks+1) (by rw[i3];exact True.intro) (.inl J) (λb u M e=>(C.2 b M).trans e) ⟨g,c⟩ (PM d c);rw[SQ]at n;exact⟨_,_,n,q1 g d⟩
end
noncomputable def PY{α:Type}(h:TI)(n:TG)(tt2:TT)(tem:Y->α->St->Hp->(α->Hp->Prop)->Prop)(D:Y)(a:α)(d:St)(H:Hp)(N:α->Hp->Prop):Prop:=
 h d H λJ o=>∃ W:Nat->Nat->α->St->Hp->Prop,(∃ m,W 0 m a d o)/\∀ i m a d H,W i m a d H->(J.stop i H/\N a H)\/
  (J.go i H/\∃ j:α->St->Hp->Prop,(∀ g e f,j g e f->∃ k,k<m/\W (i+1) k g e f)/\∀ x f,J.yld i H x f->n x d f λc p=>tt2 c p λb l=>
    if b=aC then tem D a c l (λg=>j g c) else j a c l)
def KU{α:Type}{Y:Cx}{E z c:A2p}{y:U A2p}{em:A2k->Env->Sem Unit}{g2:TG}{tt2:TT}{P:TI}{Q:A2n->α->St->Hp->(α->Hp->Prop)->Prop}(F:CForm Y.prog Y.w Y.A E z c y em 1)(hc:Y.calm=aC)(hx:Y.xe=λ_ _=>False)(hi:PI Y z c P)(hg:PG Y z g2)(ht:DZ Y y tt2)(hs:∀ x,A34 c Y.env x=pure x)(he:PEk Y em Q):PEm Y (HW E c) (PY P g2 tt2 Q):=by
 intro D a s σ H ys N I h;have S:=hi a s σ H _ I h;rw[hx]at S;refine Z (thn S λv s1 h1=>Z (A2L ?_));rw[hs];refine Z (A2l (Z (A2A (thn h1 λa9 s2 V=>?_))));obtain⟨it,X,tn,J,H2,e,I2,T,a0,f2,W,⟨m0,w0⟩,a2⟩:=V;subst e;refine Z (wpAny_runOwn (h:=aB) ?_ nofun);have f:∀{k:Hp},(∀ b∈X,k b=aB)->∀ b∈X,FpOk Y a k b:=λhn b l=>⟨hn b l,(f2 b l).2⟩
 have loop:∀ R:Result->A2m->Prop,(∀ B,(∃ a7 a1 H1,Inv Y a a7 H1 B/\N a1 H1)->R (.ok .next) B)->codeAny (A2q Y.prog Y.w) Y.A (.compLoop E 1 (.ref it) (.ref D) Y.env) R s2:=λR hR=>by
  refine F.loop (λn B=>∃ i K g k,Inv Y a g k B/\tn i B.heap/\(∀ b∈X,k b=aB)/\W i n K g k) ?_ m0 ⟨0,ys,σ,H2,I2,a0,λb l=>(f2 b l).1,w0⟩;rintro n s3 ⟨i,K,p,H3,I3,a3,a4,w3⟩;rcases a2 i n K p H3 w3 with⟨a5,qn⟩ | ⟨go,N2,hN,a6⟩
  ·refine thn (T.done Y rfl rfl rfl hc i a s3 p H3 _ I3 (f a4) a3 a5) λr s4 ⟨hr,I4⟩=>?_;subst hr;exact hR _ ⟨_,_,_,I4,qn⟩
  ·refine thn (T.item Y rfl rfl rfl hc i a s3 p H3 _ I3 (f a4) a3 go) λr s4 ⟨u,hr,h4⟩=>?_;subst hr;refine thn h4 λ_ s5 V=>?_;obtain⟨x,H5,I5,r5,y5,C,a8⟩:=V;have e1:=hg _ s5 p H5 x u _ (I5.pinned (f a8) (T.obj _ _ C)) r5 (a6 x H5 y5);rw[hx]at e1;refine thn e1 λ_ s6 V=>?_;obtain⟨q,H6,I6,q6⟩:=V;have e2:=ht _ s6 q H6 _ I6 q6;rw[hx]at e2;refine thn e2 λb L ⟨G,M,q7⟩=>?_
   have j:∀{G:Hp} {L:A2m} {t:α},Inv Y (a++Bc X s5.heap) q G L->N2 t q G->∃ m,m<n/\∃ i K g k,Inv Y a g k L/\tn i L.heap/\(∀ b∈X,k b=aB)/\W i m K g k:=λ{G L t} M n7=>by
    obtain⟨m',hm,w7⟩:=hN t _ G n7;refine⟨m',hm,i+1,t,_,G,M.unpinned,T.keep _ _ _ C λb l o e=>(M.pin (b,o) (ZF _ (ZF _ (AL l e)))).1,λb l=>?_,w7⟩;obtain⟨o,e,d⟩:=T.obj _ _ C b l;exact(M.pin (b,o) (ZF _ (ZF _ (AL l e)))).2.1
   cases b with
   | false=>exact j M q7
   | true=>exact thn (he D _ L q G K _ M q7) (by rintro _ s9 ⟨_,_,I9,q9⟩;exact j I9 q9)
 exact F.start (loop _ λB h=>A2l h) (T.self _ 0 _ _ _ a0 (loop _ λB h=>A2l h))
structure CKind(X:Cx)(E tg iter:A2p)(ifs:List A2p)(scope:A2D)(emit:A2k->Env->Sem Unit)(u0:HO) where
 mkS:Sem A2k
 o0:Obj
 pos0:Pos
 gs:List A39
 F:CForm X.prog X.w X.A E tg iter ifs emit
 cl:clausesOf E=⟨tg,iter,ifs,0⟩::gs
 ev:eval E X.env=A4z E scope X.env pos0 mkS aD (eval iter X.env) aB
 ev2:∀ use,evalThenUse E X.env use=(do let _ <- A4z E scope X.env pos0 mkS aD (eval iter X.env) (O use))
 hmk:∀{s2:A2m} {Q:A2k->A2m->Prop},Q (.ref s2.heap.objs.size) {s2 with heap:=s2.heap.push o0}->A2o (A2q X.prog X.w) X.A mkS Q X.xe s2
 nf:o0.isFreed=aD
 new:∀{pins:List (Y×Obj)} {σ:St} {H2:Hp} {s2:A2m},Inv X pins σ H2 s2->∀(H:Hp) (h:A2y),h.get? s2.heap.objs.size=O o0->ObjOk X.prog X.w H h s2.heap.objs.size u0
noncomputable def tCG{α:Type}(c:HO)(a0:α)(tem:Y->α->St->Hp->(α->Hp->Prop)->Prop)(d:TI)(g:TG)(e:TT)(k:Nat)(js:U Nat)(fin:Y->Hp->Prop)(a:St)(H:Hp):Prop:=d a H λJ b=>∀ D,b D=aB->
 ∃ W:Nat->Nat->α->Hp->Prop,(∃ m,W 0 m a0 (upd b D c))/\NZ J g e (tem D) (CG k js a) (λH=>fin D H) W
noncomputable def InB(X:Cx)(a:A2D)(N:U Str)(P:Cx->Prop):Prop:=∀ b c cs C d,P (w5 X a N b c cs C d)
section
variable{X:Cx}{α:Type}{E tg iter:A2p}{ifs:U A2p}{scope:A2D}{emit:F->Env->Sem Unit}{u0:HO}{a0:α}{tem:A2n->α->St->Hp->(α->Hp->Prop)->Prop}{wi:TI}{g:TG}{tt:TT}{own cn:U Str}{js:U Nat}(Kd:CKind X E tg iter ifs scope emit u0)
 (hi:PI X tg iter wi) (hg:InB X scope (own++cn) λY=>PG Y tg g) (ht:InB X scope (own++cn) λY=>DZ Y ifs tt) (hem:InB X scope (own++cn) λY=>PEm Y emit tem) (hc:X.calm=aC) (hok:AB X.env.scope scope own cn X.N js=aC) (hs:∀ x,A34 iter X.env x=pure x)
include Kd hi hg ht hem hc hok hs
theorem Dz{i:Y->Hp->Prop}{d:Option (A2k->Sem Unit)}{Q':A2k->A2m->Prop}{a:U (Y×Obj)}{s:A2m}{n:St}{H:Hp}(I:Inv X a n H s)(h:tCG u0 a0 tem wi g tt own.length js i n H)
 (j:∀ D C k l,Inv X a n k l->FpOk X a k C->(∃ m,l.heap.Ns C m)->i D k->compPost (A2q X.prog X.w) X.A X.xe d Q' (.ref D) C (.ok .next) l):
 A2o (A2q X.prog X.w) X.A (A4z E scope X.env Kd.pos0 Kd.mkS aD (eval iter X.env) d) Q' X.xe s:=by
 have b:=hok;unfold AB at b;simp only[Yc,dQ,ZJ,ZU,Yx,decide_eq_false_iff_not]at b;obtain⟨⟨⟨⟨⟨⟨G,K⟩,L⟩,k4⟩,k5⟩,k6⟩,k7⟩:=b
 have f:∀ x∈scope.names,x.2 = .free->∃ c,X.env.cells.lookup x.1=O c:=λx o M=>I.ok.has x.1 (by
  rcases K x o with(z | z) | z
  ·exact absurd M z
  ·exact .inl z
  ·exact .inr z)
 refine wpAny_comprehension_free Kd.cl hs (Cs f) G (λx o N=>?_) (thn (hi a s n H _ I h) λv s1 P=>thn P λQ u ⟨it,y,tn,J,B,e,p,T,r,R,q⟩=>?_)
 ·rw[y6 L (show(x.1,x.2)∈scope.names from o),N]
 ·subst e;exact Gc (RR:=λt C=>compPost (A2q X.prog X.w) X.A X.xe d Q' t C) Kd.F (Kd.hmk) Kd.nf (Kd.new p) hok hc hg ht (λD u B S C y=>hem u B S C y D) p T r R (q _ p.fresh) λC k l V W hn=>j _ C k l V W hn
theorem PZ:PE X E λc H Q=>tCG u0 a0 tem wi g tt own.length js (λD H=>Q (.ref D) H) c H:=by
 intro d s c H Q I h;rw[Kd.ev];refine Dz Kd hi hg ht hem hc hok hs I h λD C f i j ⟨k,l,n,p,q,r⟩ ⟨m,t⟩ u=>⟨m,t,λw a=>⟨.ref D,f,?_,J,u⟩⟩
 exact j.turned (t':=i.toks) (λb o v e=>(a.2 b v).trans e) k l p q r
theorem HX{i:Nat}{x:Str}{f c:Pos}(y:X.N.Nodup)(j:X.N[i]?=O x)(r:X.env.scope.names.lookup x=O .local)(k:A3b E (O (.Name x f)) c.line X.env=pure aC):PS X (.Assign [.Name x f] E c) (IL (λt H Q=>tCG u0 a0 tem wi g tt own.length js (λD H=>Q (.ref D) H) t H) (GU i)):=by
 intro d s t H D I h;rw[exec_Assign_Name_used _ _ _ _ k,Kd.ev2];refine Z (A2L (Z (Z (A2J (Dz Kd (Q':=λ_ l=>SP X d D .next l) hi hg ht hem hc hok hs I h λD C B l G ⟨K,u,L,M,w,P⟩ ⟨m,R⟩ S=>?_) (λ_ l T=>A2l (A2l T)) λ_ _ e=>e))));show A2o _ X.A (assign (.Name x f) X.env (.ref D)) _ _ _;refine A4D (Ep G y j (.inl r) (v := .ref D) J (λV W ⟨a,n,ha⟩=>?_) (.inr r))
 have p:C≠a:=by
  rcases ha with z | z
  ·rw[z];exact u
  ·exact λe=>w x a z e.symm
 exact⟨m,R.sameBut n p,λh' q=>⟨_,B,W.turned (t':=V.toks) (λb o hb e=>(q.2 b hb).trans e) K u M w P,S⟩⟩
end
section
variable{X:Cx}{tg iter elt kx vx:A2p}{ifs:U A2p}{gs:U A39}{scope:A2D}{pos:Pos}{emit:F->Env->Sem Unit}
def ckL(F:CForm X.prog X.w X.A (.ListComp elt (⟨tg,iter,ifs,0⟩::gs) scope pos) tg iter ifs emit):CKind X (.ListComp elt (⟨tg,iter,ifs,0⟩::gs) scope pos) tg iter ifs scope emit (.lst []) where
 mkS:=newList []
 o0:={cls := .type "list",dict:=aB,data := .seq ([]:U A2k).toArray}
 pos0:=_
 gs:=gs
 F:=F
 cl:=J
 ev:=eval_ListComp ..
 ev2:=λ_=>rfl
 hmk:=λh=>A2z h
 nf:=J
 new:=λ_ _ _ a=>⟨ZY _,[],0,.nil,a⟩
def KW{P:A2r}{w:A2u}(h:A2y):SetXO P w (set0 w) []:=by obtain⟨o,a,b⟩:=(V0 (prog:=P) (w:=w) h).obj;rw[Yn _ J]at a;cases a;exact b
def ckS(F:CForm X.prog X.w X.A (.SetComp elt (⟨tg,iter,ifs,0⟩::gs) scope pos) tg iter ifs emit):CKind X (.SetComp elt (⟨tg,iter,ifs,0⟩::gs) scope pos) tg iter ifs scope emit (hoS (set0 X.w) []) where
 mkS:=newSet (.type "set")
 o0:=set0 X.w
 pos0:=_
 gs:=gs
 F:=F
 cl:=J
 ev:=arm_eval_SetComp ..
 ev2:=λ_=>rfl
 hmk:=λh=>SN h
 nf:=J
 new:=λ{_ _ _ s2} _ _ _ e=>PM (KW s2.heap) e
end
noncomputable def XZ(P:A2r)(w:A2u)(Q:V->Hp->Prop)(D:Y)(H:Hp):Prop:=∃ L o,SetXO P w o L/\H D=O (hoS o L)/\L.length<64/\∀ l,H l=aB->Q (.ref l) (upd H l (.lst ((srt L).map V.int)))
def JP{X:Cx}{z f i:A2p}{p:U A2p}{q:U A39}{c:A2D}{j p1 k:Pos}{n:F->Env->Sem Unit}{r:A2n->U Int->St->Hp->(U Int->Hp->Prop)->Prop}{W:TI}{g:TG}{tt:TT}{own v:U Str}{js:U Nat}(Kd:CKind X (.SetComp i q c j) z f p c n (hoS (set0 X.w) []))
 (hi:PI X z f W) (hg:InB X c (own++v) λY=>PG Y z g) (ht:InB X c (own++v) λY=>DZ Y p tt) (A:InB X c (own++v) λY=>PEm Y n r) (hc:X.calm=aC) (B:AB X.env.scope c own v X.N js=aC) (hs:∀ x,A34 f X.env x=pure x)
 (hl:Gl X "sorted") (E:X.mg "sorted"=aB):PE X (.Call (.Name "sorted" p1) [.SetComp i q c j] [] k) λG H Q=>tCG (hoS (set0 X.w) []) [] r W g tt own.length js (XZ X.prog X.w Q) G H:=by
 intro t s G H Q I h;have h2:A2x [.SetComp i q c j] X.env=(aD,eval (.SetComp i q c j) X.env)::A2x [] X.env:=rfl;refine A2T (AW I hl E F4 ?_ (by decide) (by decide));refine PyProof.Rows.callWith_builtin1 ?_ h2 rfl;rw[h2];show A2o _ _ (spliced ((aD,eval (.SetComp i q c j) X.env)::backTo k (A2x [] X.env))) _ _ s;refine Calls.spliced_cons ?_;rw[Kd.ev];refine Dz Kd hi hg ht A hc B hs I h λD C H' K I' ⟨f0,f1,a0,f3,f4,f5⟩ ⟨m,hn⟩ ⟨L,o,xo,eD,hL,q'⟩=>⟨m,hn,λh' M=>?_⟩
 have y:Inv X t G H' {K with heap:=h'}:=I'.turned (t':=K.toks) (λb o hb e=>(M.2 b hb).trans e) f0 f1 f3 f4 f5;refine Calls.spliced_nil (RM (s:={K with heap:=h'}) (y.ok.hd hc) (xo.at (y.hok _ _ eD).1) hL λh3 P d l R e k3 u S T=>?_);have J:=(y.dr d).laid (h':=h3) (a:=l) (o := .lst ((srt L).map V.int)) (t':=P) k3 u (show ObjOk X.prog X.w _ _ _ (.lst ((srt L).map V.int)) from ⟨?_,R.toList,e,F1 T,by simpa using S⟩)
 ·exact⟨.ref l,_,J,rfl,q' l ((y.dr d).hok.fresh u)⟩
 ·rw[YY,(Dd _).length_eq];exact A0m (La (by lia))
end L2
namespace Rf
open PySem L2
def Md{a:Type}{o:Option (Option a)}{x:a}(h:o.join=O x):o=O (O x):=by
 cases o with
 | none=>cases h
 | some o=>cases o with
   | none=>cases h
   | some y=>cases h;rfl
def EnvOk.cap{K:YZ}{d:U Y}{H:Hp}{f:St}{b:EnvS}(h:EnvOk K d H f b)(k:Nat)(c:U Nat):EnvOk K d H (CG k c f) (Eb k c b):=by
 refine⟨by unfold CG Eb;simp,λi x e=>?_⟩;unfold Eb at e;unfold CG;by_cases a:i<k
 ·rw[Yw (by simpa using a),Zq,iP a]at e;cases e
 ·rw[ZQ (by simpa using a),A0o,Yj]at e;rw[ZQ (by simpa using a),A0o,Yj];cases hj:c[i - k]? with
  | none=>rw[hj]at e;cases e
  | some j=>
    rw[hj]at e;have g:(b[j]?).join=aA x:=oj e;obtain⟨v,l,m⟩:=h.2 j x (Md g);exact⟨v,by simp only[A0e];rw[l];rfl,m⟩
def Ok.adoptO{K:YZ}{c:U Y}{H:Hp}{S:Sto}{D:Y}{x:SO}(h:Ok K c H S)(n:D∉c)(r:RlO K (c++[D]) H D x):Ok K (c++[D]) H (S++[x]):=by
 have f:c <+: c++[D]:=Zo _ _;refine⟨by rw[Yd,Yd,h.len];rfl,?_,λk o a e d=>?_⟩
 ·rw[A03];refine⟨h.nd,by simp,λa j b l=>?_⟩;rw[Yt.mp l];intro z;subst z;exact n j
 ·by_cases i:k<S.length
  ·rw[Yw i]at e;rw[Yw (by rw[h.len];exact i)]at d;exact(h.obj k o a e d).mono f (KeepU.refl _) λ_ z=>z
  ·have g:k=S.length:=by
    have:=(gM e).1;rw[Yd,ZS]at this
    lia
   subst g;rw[Z9]at e;rw[<-h.len,Z9]at d;cases e;cases d;exact r
def Ok.otherO{K:YZ}{c:U Y}{H:Hp}{S:Sto}(h:Ok K c H S){b:Y}{u v:HO}(f:H b=aA u)(g:imm u=aD)(n:b∉c):Ok K c (upd H b v) S:=⟨h.len,h.nd,λk o a e d=>(h.obj k o a e d).mono (Z3 c) (Cy f g) λj i=>by
 rw[g7 (λz=>n (by rw[<-z];exact Yb d))];exact i⟩
def Mf(a:U Int)(i:Int):BB (a++[i])=PyProof.Rows.step_dedup (BB a) i:=by
 unfold BB;rw[Yd,ZS,PyProof.Rows.firstMet_succ];have c:(a++[i]).getD a.length 0=i:=by simp
 have d:PyProof.Rows.firstMet (λj=>(a++[i]).getD j 0) a.length=PyProof.Rows.firstMet (λj=>a.getD j 0) a.length:=by
  unfold PyProof.Rows.firstMet
  congr 1
  refine Zw λj b=>?_;have b:=Yr.mp b;simp[Yw b]
 rw[c,d]
def Bs{b:Type}(c:WM b):Prop:=∀ d a S (N e:b->Sto->Prop),(∀ a S,N a S->e a S)->c d a S N->c d a S e
section
variable{β:Type}{keep:Sto->Prop}{g:Tg}{t:WT}{em:WM β}{e f:WE}
def Ao(a:Mono e):Bs (emL e):=λb c S N d h=>a _ _ _ _ λy S2 q=>⟨q.1,h _ _ q.2⟩
def Ap(d:Mono e):Bs (emS e):=λj k S N l h=>d _ _ _ _ (by rintro y S2 ⟨i,a,b,c⟩;exact⟨i,a,b,h _ _ c⟩)
theorem Fu{j:EnvS}(mt:MonoT t)(d:Bs em){Q k:β->Sto->Prop}(i:∀ a S,Q a S->k a S):∀(c:U SV) (a:β) (S:Sto),wTG keep g t em j Q c a S->wTG keep g t em j k c a S
 | [],a,S,h=>⟨h.1,i _ _ h.2⟩
 | x::c,a,S,h=>⟨h.1,y8 g (λl q=>mt _ _ _ _ (λb S1 q=>n8 (λq=>d _ _ _ _ _ (λy S2 q=>Fu mt d i c _ _ q) q) (λq=>Fu mt d i c _ _ q) q) q) h.2⟩
theorem Fv(mt:MonoT t)(j:Bs em){Q k:β->Sto->Prop}(i:∀ a S,Q a S->k a S):∀(c:U SV) (d:EnvS) (a:β) (S:Sto),wTI keep g t em Q c d a S->wTI keep g t em k c d a S
 | [],d,a,S,h=>⟨h.1,i _ _ h.2⟩
 | x::c,d,a,S,h=>⟨h.1,y8 g (λl q=>mt _ _ _ _ (λb S1 q=>n8 (λq=>j _ _ _ _ _ (λy S2 q=>Fv mt j i c _ _ _ q) q) (λq=>Fv mt j i c _ _ _ q) q) q) h.2⟩
def BG{b:WI}(c:MonoI b)(mt:MonoT t)(d:Bs em):Bs (em2 b g t em):=λj a S N k h=>c _ _ _ _ λkeep i S2 q=>Fv mt d h i _ _ _ q
def Mono.cG{k:Nat}{js:U Nat}{i:WI}{b0:β}{fin:QE->β->Sto->Prop}(c:MonoI i)(mt:MonoT t)(d:Bs em)(j:∀ P a:QE,(∀ x S,P x S->a x S)->∀ b S,fin P b S->fin a b S):Mono (wCG k js g i t em b0 fin):=λn S P a l h=>c _ _ _ _ (λkeep m S1 h=>Fu mt d (j _ _ l) m _ S1 h) h
end
structure GoD(D:Y)(as:List Y)(H:Hp)(as':List Y)(H':Hp):Prop where
 pre:as <+: as'
 keep:∀ b o,H b=O o->b∉as->b≠D->H' b=O o/\b∉as'
 ku:KeepU H H'
 out:D∉as->D∉as'
section
variable{K:YZ}{as as' as1 as2:U Y}{H H' H1 H2:Hp}{S:Sto}{D:Y}{u v:HO}
theorem GoD.refl:GoD D as H as H:=⟨Z3 _,λ_ _ h n _=>⟨h,n⟩,KeepU.refl _,id⟩
theorem GoD.trans(a:GoD D as H as1 H1)(b:GoD D as1 H1 as2 H2):GoD D as H as2 H2:=⟨a.pre.trans b.pre,λx o h n z=>let ⟨c,d⟩:=a.keep x o h n z;b.keep x o c d z,a.ku.trans b.ku,λh=>b.out (a.out h)⟩
def Go.d(g:Go as H as1 H1)(a:Ok K as H S)(c:H D=aA u):GoD D as H as1 H1:=⟨g.pre,λb o h n _=>g.keep b o h n,g.ku a,λn=>(g.keep D _ c n).2⟩
def GoD.put(a:H D=aA u)(i:imm u=aD):GoD D as H as (upd H D v):=⟨Z3 _,λb o h n z=>⟨by rw[g7 z];exact h,n⟩,Cy a i,id⟩
def GoD.go(g:GoD D as (upd H D u) as' H')(a:H D=aB):Go as H as' H':=⟨g.pre,λb o h n=>g.keep b o (by rw[g7 (i8 h a)];exact h) n (i8 h a)⟩
end
structure Knd(α β:Type)(K:YZ) where
 at_:List Y->Hp->Y->α->β->Prop
 mono:∀{as as' H H' D a b},as <+: as'->KeepU H H'->H' D=H D->at_ as H D a b->at_ as' H' D a b
 some:∀{as H D a b},at_ as H D a b->∃ u,H D=O u/\imm u=aD
section
variable{K:YZ}{α β:Type}{k:Knd α β K}
def Knd.go{as c:U Y}{H f:Hp}{S:Sto}{D:Y}{a:α}{b:β}(h:k.at_ as H D a b)(j:Ok K as H S)(n:D∉as)(g:Go as H c f):GoD D as H c f/\k.at_ c f D a b/\D∉c:=by obtain⟨u,e,i⟩:=k.some h;have z:=g.keep D u e n;exact⟨g.d j e,k.mono g.pre (g.ku j) (z.1.trans e.symm) h,z.2⟩
noncomputable def JQ(k:Knd α β K)(j:WM β)(tem:Y->α->St->Hp->(α->Hp->Prop)->Prop):Prop:=
 ∀ D a b e f as H S (N:α->Hp->Prop) (g:β->Sto->Prop),D∉as->Ok K as H S->EnvOk K as H e f->k.at_ as H D a b->j f b S g->
  (∀ c S' h i d,GoD D as H c d->Ok K c d S'->k.at_ c d D h i->g i S'->N h d)->tem D a e H N
def KY{L:WM β}{w:Y->α->St->Hp->(α->Hp->Prop)->Prop}{y:Tg}{M:WI}{A:WT}(h:JQ k L w)(P:MonoI M)(Q:MonoT A):JQ k (em2 M y A L) (PY (liftI K M) (DF K y) (liftT K A) w):=by
 intro D a b σ ρ as H S N N' n R en T q hN;refine⟨as,ρ,S,R,en,P _ _ _ _ (λr s S1 q t H1 J V X W=>?_) q⟩;obtain⟨a0,a1,n1⟩:=k.go T R n V
 refine⟨λi m a g l=>m=s.length - i/\i<=s.length/\∃ d S2 b e,GoD D t H1 d l/\Ok K d l S2/\EnvOk K d l g e/\k.at_ d l D a b/\wTI r y A L N' (s.drop i) e b S2,
  ⟨_,rfl,ZY _,t,S1,b,ρ,.refl,X,en.mono V.pre (V.ku R),a1,q⟩,?_⟩
 rintro i m a g H2 ⟨rfl,hi,d,S2,b,e,f,j,a2,B,q⟩;by_cases u:i<s.length
 ·right;rw[A0t u]at q;obtain⟨go,yl⟩:=(W d H2 S2 ⟨f.pre,f.ku⟩ j q.1).1 i s[i] (Ya u);refine⟨go,λa g l=>∃ d S2 b e,GoD D t H1 d l/\Ok K d l S2/\EnvOk K d l g e/\k.at_ d l D a b/\wTI r y A L N' (s.drop (i+1)) e b S2,λa' g l z=>⟨_,by lia,rfl,u,z⟩,λx H3 y3=>?_⟩;obtain⟨g3,o,rx⟩:=yl x H3 y3;obtain⟨a3,a4,n3⟩:=k.go B j (f.out n1) g3;refine⟨d,e,S2,_,o,a2.mono g3.pre (g3.ku j),rx,y8 y (λp q a5 C=>⟨d,p,S2,o,C,Q _ _ _ _ (λc S5 q E H5 g5 G=>?_) q⟩) q.2⟩;obtain⟨a7,I,n5⟩:=k.go a4 o n3 g5;have v:=C.mono g5.pre (g5.ku o);have gd:=(f.trans a3).trans a7;exact n8 (λq=>h D a b a5 p E H5 S5 _ _ n5 G v I q λa8 S6 a6 b6 H6 g6 a9 b0 q6=>⟨a8,S6,b6,p,gd.trans g6,a9,v.mono g6.pre g6.ku,b0,q6⟩) (λq=>⟨E,S5,b,p,gd,G,v,I,q⟩) q
 ·left;obtain rfl:i=s.length:=by lia
  rw[A1a]at q;exact⟨(W d H2 S2 ⟨f.pre,f.ku⟩ j q.1).2,hN d S2 a b H2 (a0.trans f) j B q.2⟩
def Pa{V:WM β}{E:Y->α->St->Hp->(α->Hp->Prop)->Prop}{n:Nat}{js:U Nat}{g:Tg}{i:WI}{t:WT}{a0:α}{b0:β}{G:HO}{e:QE->β->Sto->Prop}{fin':VK->Y->Hp->Prop}(h:JQ k V E)(mi:MonoI i)(mt:MonoT t)(u:imm G=aD)(h0:∀ f H D,k.at_ f (upd H D G) D a0 b0)
 (I:∀{f H d s S2 D a b Q},Go f H d s->Go f H (d++[D]) s->Ok K d s S2->D∉d->k.at_ d s D a b->e (Post K f H Q) b S2->fin' Q D s):
 ∀ σ H Q,lift K (wCG n js g i t V b0 e) σ H Q->tCG G a0 E (liftI K i) (DF K g) (liftT K t) n js (fin' Q) σ H:=by
 rintro σ H Q ⟨f,X,S,ok,en,q⟩;refine⟨f,X,S,ok,en,mi _ _ _ _ (λv y S1 q A H1 J g1 j W D hD=>?_) q⟩;have n1:=j.free hD
 refine⟨λi m a w=>m=y.length - i/\i<=y.length/\∃ d S2 b,GoD D A (upd H1 D G) d w/\Ok K d w S2/\k.at_ d w D a b/\wTG v g t V (Eb n js X) (e (Post K f H Q)) (y.drop i) b S2,
  ⟨_,rfl,ZY _,A,S1,b0,.refl,j.new hD,h0 _ _ _,q⟩,?_⟩
 rintro i m a s ⟨rfl,hi,d,S2,b,l,p,L,q⟩;have C:=l.go hD;by_cases B:i<y.length
 ·right;rw[A0t B]at q;obtain⟨go,yl⟩:=(W d s S2 (C.gu j) p q.1).1 i y[i] (Ya B);refine⟨go,λa w=>∃ d S2 b,GoD D A (upd H1 D G) d w/\Ok K d w S2/\k.at_ d w D a b/\wTG v g t V (Eb n js X) (e (Post K f H Q)) (y.drop (i+1)) b S2,λa' w z=>⟨_,by lia,rfl,B,z⟩,λx H3 y3=>?_⟩;obtain⟨g3,r,rx⟩:=yl x H3 y3;obtain⟨a1,a2,n3⟩:=k.go L p (l.out n1) g3;have ge:=g1.trans (C.trans g3);refine⟨d,Eb n js X,S2,_,r,(en.mono ge.pre (ge.ku ok)).cap n js,rx,y8 g (λM q a3 N=>⟨d,M,S2,r,N,mt _ _ _ _ (λc S5 q P H5 g5 R=>?_) q⟩) q.2⟩;obtain⟨a4,T,n5⟩:=k.go a2 r n3 g5;have gd:=(l.trans a1).trans a4;exact n8 (λq=>h D a b a3 M P H5 S5 _ _ n5 R (N.mono g5.pre (g5.ku r)) T q λa5 S6 a6 b6 H6 g6 a7 a8 q6=>⟨a5,S6,b6,gd.trans g6,a7,a8,q6⟩) (λq=>⟨P,S5,b,gd,R,T,q⟩) q
 ·left;obtain rfl:i=y.length:=by lia
  rw[A1a]at q;refine⟨(W d s S2 (C.gu j) p q.1).2,I (g1.trans C) ⟨(g1.trans C).pre.trans (Zo _ _),λb o hb nb=>?_⟩ p (l.out n1) L q.2⟩;obtain⟨h1,m1⟩:=g1.keep b o hb nb;obtain⟨h2,m2⟩:=C.keep b o h1 m1;refine⟨h2,?_⟩;rw[Yz,Yt];rintro(z | z)
  ·exact m2 z
  ·exact i8 h1 hD z
end
section
variable{K:YZ}{e f:WE}
noncomputable def kL:Knd (U V) (U SV) K:=⟨λas H D vs xs=>H D=O (.lst vs)/\RlAll K as H vs xs,λp a e h=>⟨e.trans h.1,RlAll.mono p a _ _ h.2⟩,λh=>⟨_,h.1,J⟩⟩
noncomputable def kS(P:A2r)(w:A2u):Knd (U Int) (U Int) K:=⟨λas H D L c=>L=BB c/\∃ o,H D=O (hoS o L)/\SetXO P w o L,λp d e h=>⟨h.1,let ⟨o,a,b⟩:=h.2;⟨o,e.trans a,b⟩⟩,λh=>let ⟨o,a,b⟩:=h.2;⟨_,a,J⟩⟩
def KZ(k:Mono e):JQ (kL (K:=K)) (emL e) (Wo (lift K e)):=λD a b u l as H S N w n i m h q o=>
 ⟨as,l,S,i,m,k _ _ _ _ (λy S2 q d x v p g r=>by
   obtain⟨s,c,t⟩:=kL.go h i n p;have j:=GoD.put (as:=d) (v := .lst (a++[v])) c.1 J;exact⟨c.1,by rw[c.2.length];exact Di q.1,o _ _ _ _ _ (s.trans j) (g.otherO c.1 J t) ⟨i3,RlAll.mono (Z3 _) j.ku _ _ (c.2.append (.cons r .nil))⟩ q.2⟩) q⟩
def Ka{P:A2r}{w:A2u}(m:Mono e):JQ (kS (K:=K) P w) (emS e) (Vd P w (lift K e)):=λD a b G p as H S N I n k r h q s=>
 ⟨as,p,S,k,r,m _ _ _ _ (λy S2 ⟨j,t,u,q3⟩ c L v x d z=>by
   subst t;obtain rfl:=rl_int.mp z;obtain⟨A,⟨rfl,o,g,B⟩,C⟩:=(kS P w).go h k n x;refine⟨j,o,J,B,g,Z6 (PyProof.Rows.firstMet_length_le _ _) (A0m u),λl i=>?_⟩;have E:=GoD.put (as:=c) (v:=hoS l (PyProof.Rows.step_dedup (BB b) j)) g J;exact s _ _ _ _ _ (A.trans E) (d.otherO g J C) ⟨(Mf b j).symm,l,i3,i⟩ q3) q⟩
def SR{i c:Type}{k:Knd i c K}{o:c->SO}(j:∀{as H D a b},k.at_ as H D a b->RlO K as H D (o b)){as H as2 H2 S2 D a b Q}(_:Go as H as2 H2)(g:Go as H (as2++[D]) H2)(d:Ok K as2 H2 S2)(n:D∉as2)(h:k.at_ as2 H2 D a b)(q:Rn o (Post K as H Q) b S2):Q (.ref D) H2:=
 q (as2++[D]) H2 (.ref D) g (d.adoptO n (j (k.mono (Zo _ _) (KeepU.refl _) J h))) (rl_loc.mpr ⟨D,by rw[<-d.len,Z9],J⟩)
def Pb{P:A2r}{w:A2u}{as H as2 H2 S2 D a b Q}(g:Go as H as2 H2)(_:Go as H (as2++[D]) H2)(c:Ok K as2 H2 S2)(_:D∉as2)(h:(kS (K:=K) P w).at_ as2 H2 D a b)(q:Gq (Post K as H Q) b S2):XZ P w Q D H2:=by obtain⟨rfl,o,d,i⟩:=h;exact⟨_,o,i,d,q.1,AT c RlAll.ints (Post.mono q.2 g)⟩
def SS{P:QE}{a:U Int}{S:Sto}(q:OX P a S):Gq P a S:=⟨Zz (PyProof.Rows.firstMet_length_le _ _) q.1,q.2⟩
end
def HY{b c:A2D}{x:Str}(h:b.names.lookup x=O .local):(BD b c).names.lookup x=O .local:=by
 have f:∀ l:U (Str×A2W),l.lookup x=O .local->(l.map λ(n,k)=>if (k == .free&&c.kind == .function&&c.names.lookup n == O .cell) then (n,.cell) else (n,k)).lookup x=O .local:=by
  intro l
  induction l with
  | nil=>intro h;cases h
  | cons a r g=>
    obtain⟨n,k⟩:=a;intro h;rw[Zr]at h;rw[ZE];cases hb:x == n with
    | true=>
      rw[hb]at h;have:k = .local:=oj h;subst this;show A1m x ((n,NameKind.local)::_)=_;rw[Zr,hb]
    | false=>
      rw[hb]at h
      have e:∀ d,A1m x ((n,d)::(r.map λ(n,k)=>if (k == .free&&c.kind == .function&&c.names.lookup n == O .cell) then (n,.cell) else (n,k)))=O .local:=λd=>by
       rw[Zr,hb];exact g h
      show A1m x ((if (k == .free&&c.kind == .function&&c.names.lookup n == O .cell)=aC then (n,NameKind.cell) else (n,k))::_)=_;split<;>exact e _
 exact f _ h
def Cok.comp{T:U Str}{e:Nat->Sn}{X:Cx}{k:Nat}{N:U Str}{c a:A2D}{own d:U Str}{js:U Nat}(C:Cok T e X k N c)(b:AB c a own d N js=aC)(j:A2m)(l:Hp)(m:U (Str×Y))(A:Y)(n:U Y):Cok T e (w5 X a (own++d) j l m A n) own.length (own++d) (BD a c) where
 hN:=rfl
 hs:=by rw[<-C.hs];rfl
 nd:=by
  unfold AB at b;simp only[Yc,dQ]at b;exact b.1.2
 calm:=C.calm
 fn:=λi x o f g=>by
  unfold AB at b;simp only[Yc,dQ,ZJ,ZU]at b
  have p:x∈own:=by
   rw[Yw o]at f;exact Yb f
  show(a.names.lookup x == aA .cell)=aC;rcases b.1.1.1.2 x p with h | h
  ·rw[HY h]at g;cases g
  ·rw[h];rfl
 un:=C.un
 bl:=C.bl
 rng:=C.rng
 enm:=C.enm
 rvs:=C.rvs
 zip:=C.zip
 sm0:=C.sm0
 st0:=C.st0
 dc0:=C.dc0
 ty:=C.ty
 gd:=C.gd
 ns:=C.ns
 me:=C.me
 call:=C.call
 mono:=C.mono
def v3{r:A2p}(h:AC r=aC){a:Env}:∀ x,A34 r a x=pure x:=λx=>by cases r<;>first | rfl | cases h
theorem Bz{T N:U Str}{c:A2D}:∀{b:Exs} {a:U A2p},BE T N c b a=aC->a.all f9=aC
 | .nil,a,h=>by unfold BE at h;rw[ZW]at h;subst h;rfl
 | .cons e b,a,h=>by
   unfold BE at h;replace h:=c7 h;obtain⟨x,d,h⟩:=h;simp only[Yc]at h;rw[B0 d,Zm,h.1.2,Bz h.2];rfl
def Ve{X:Cx}{i:Nat}{x:Str}{p:Pos}{N:U Str}{a:A2D}{T:U Str}{b:Nat->Sn}{k:Nat}(C:Cok T b X k N a)(h:nmB N a i x=aC):PE X (.Name x p) (N7 i):=by unfold nmB at h;simp only[Yc,dQ,Yx]at h;exact VR C h.1.1.1 h.1.1.2 h.1.2 h.2
def Kb{b:Type}{l:U b}(h:(!l.isEmpty)=aC):∃ y a,l=y::a:=by
 cases l with
 | nil=>cases h
 | cons y a=>exact⟨y,a,J⟩
def Vf{X:Cx}{c:A2p}{a:WE×WT}(h:Good X c a):DZ X [c] (liftT X.K a.2):=NX h.pt
def Pc{X:Cx}:DZ X [] (liftT X.K XH):=λa s b H Q I c=>NW a s b H Q I (let ⟨d,f,S,e,g,h⟩:=c;h d H (Go.refl _ _) e)
def Pd{X:Cx}{E G L:A2p}{f:U A2p}{c:A2D}{d:F->Env->Sem Unit}{M:HO}{w y:Type}{k:Knd w y X.K}{R:WM y}{j:A2n->w->St->Hp->(w->Hp->Prop)->Prop}{a0:w}{b0:y}{o:y->SO}{T N own l:U Str}{Δ:Nat->Sn}{kk:Nat}{sc:A2D}{js:U Nat}{g:Tg}{i:WI}{t:WT}(Kd:CKind X E G L f c d M)(C:Cok T Δ X kk N sc)(V:AB sc c own l N js=aC)(z:GoodI X G L i)(hn:AC L=aC)
 (hg:InB X c (own++l) λY=>PG Y G (DF X.K g)) (ht:InB X c (own++l) λY=>DZ Y f (liftT X.K t)) (mt:MonoT t) (p:InB X c (own++l) λY=>PEm Y d j) (h:JQ k R j) (mm:Bs R) (u:imm M=aD) (h0:∀ A H D,k.at_ A (upd H D M) D a0 b0) (ad:∀{A H D a b},k.at_ A H D a b->RlO X.K A H D (o b)) (hp:Iz E=aC):Good X E (tt1 (wCG own.length js g i t R b0 (Rn o))):=
 have e:AB X.env.scope c own l X.N js=aC:=by rw[C.hs,C.hN];exact V
 have r:=Pa (n:=own.length) (js:=js) (g:=g) h z.m mt u h0 (fin':=λQ D H=>Q (.ref D) H) (SR (k:=k) (o:=o) ad)
 .one (j5 _ (PZ Kd z.pi hg ht p C.calm e (v3 hn)) λB H Q h=>r B H Q h) (.cG z.m mt mm λP P' im b S q=>im _ _ q) hp
  λ_ i x px a1 hN hx hl W=>λv s B H D I q=>HX Kd z.pi hg ht p C.calm e (v3 hn) hN hx hl W v s B H D I (r B H _ q)
def DG{X:Cx}{j k v:A2p}{e:U A2p}{y:U A39}{a:A2D}{p B q1:Pos}{c:F->Env->Sem Unit}{l:WM (U Int)}{tem:A2n->U Int->St->Hp->(U Int->Hp->Prop)->Prop}{fin:QE->U Int->Sto->Prop}{T N own f:U Str}{D:Nat->Sn}{E:Nat}{o:A2D}{z:U Nat}{g:Tg}{i:WI}{t:WT}(G:CKind X (.SetComp v y a p) j k e a c (hoS (set0 X.w) []))(C:Cok T D X E N o)(d:glo o "sorted"=aC)(r:AB o a own f N z=aC)(s:GoodI X j k i)(H:AC k=aC)
 (I:InB X a (own++f) λY=>PG Y j (DF X.K g)) (L:InB X a (own++f) λY=>DZ Y e (liftT X.K t)) (mt:MonoT t) (u:InB X a (own++f) λY=>PEm Y c tem) (h:JQ (kS (K:=X.K) X.prog X.w) l tem) (M:Bs l) (Q:∀ P b S,fin P b S->Gq P b S) (R:∀ P A:QE,(∀ x S,P x S->A x S)->∀ b S,fin P b S->fin A b S):
 Good X (.Call (.Name "sorted" B) [.SetComp v y a p] [] q1) (tt1 (wCG own.length z g i t l [] fin)):=by
 unfold glo at d;simp only[Yc,bQ,Yx]at d;have V:Gl X "sorted":=by show X.env.scope.names.lookup ("sorted":Str)=_;rw[C.hs];exact d.1.1
 exact .one (j5 _ (JP G s.pi I L u C.calm (by rw[C.hs,C.hN];exact r) (v3 H) V (C.bl .sorted)) (Pa h s.m mt J (λ_ _ _=>⟨J,_,i3,KW X.s₀.heap⟩) λW g2 ok n h q=>Pb W g2 ok n h (Q _ _ _ q))) (.cG s.m mt M R) J
mutual
theorem f6{T:U Str}{Δ:Nat->Sn}:∀(e:Ex) (r:A2p) {X:Cx} {k:Nat} {N:U Str} {I:A2D},Cok T Δ X k N I->j6 T N I e r=aC->Good X r (wEx Δ e)
 | .var i,r,X,k,N,I,C,h=>by
   replace h:=c7 h;obtain⟨x,hx,h⟩:=h;obtain⟨p,rfl⟩:=Bp hx;exact .one (j5 _ (Ve C h) RO) .var J
 | .c x,r,X,k,N,I,C,h=>by
   replace h:=c7 h;obtain⟨x,hx,h⟩:=h;obtain⟨j,p,rfl⟩:=MF hx;exact Ry h
 | .op o a b,r,X,k,N,I,C,h=>by
   replace h:=c7 h;obtain⟨v,n,h⟩:=h;obtain⟨p,rfl⟩:=Rq n;simp only[Yc,dQ]at h;have W:=f6 a _ C h.1.2;have gb:=f6 b _ C h.2;rw[<-h.1.1];exact .one (Op W.pe gb.pe W.m gb.m) (.two KJ W.m gb.m) J
 | .cmp o a b,r,X,k,N,I,C,h=>by
   replace h:=c7 h;obtain⟨v,n,h⟩:=h;replace h:=c7 h;obtain⟨rb,hb,h⟩:=h;obtain⟨p,rfl⟩:=KI n;simp only[Yc,dQ]at h;obtain⟨⟨⟨R,l⟩,s⟩,H⟩:=h;rw[R,w6 hb];have W:=f6 a _ C l;have gb:=f6 b _ C s;have:=C.un;exact MG (by lia) W.pe gb.pe W.m gb.m H
 | .chn o p a b c,r,X,k,N,I,C,h=>by
   replace h:=c7 h;obtain⟨v,n,h⟩:=h;replace h:=c7 h;obtain⟨rs,hb,h⟩:=h;obtain⟨p,rfl⟩:=KI n;simp only[Yc,dQ]at h;obtain⟨⟨⟨⟨R,l⟩,s⟩,H⟩,L⟩:=h;rw[R,Bq hb];have W:=f6 a _ C l;have gb:=f6 b _ C s;have gc:=f6 c _ C H;have:=C.un;exact MH (by lia) W.pe gb.pe gc.pe W.m gb.m gc.m L
 | .and a b,r,X,k,N,I,C,h=>by
   replace h:=c7 h;obtain⟨v,n,h⟩:=h;have e:=Gx n;subst e;rw[Yc,dQ]at h;obtain⟨R,h⟩:=h;replace h:=c7 h;obtain⟨x,hx,h⟩:=h;rw[Yc]at h;have W:=f6 a _ C h.1;rw[R,B0 hx];have s:=h.2;generalize v.2.1.tail=tl at s;cases hl:l1 tl with
   | some y=>
     rw[hl]at s;rw[w6 hl];exact J3 W (f6 b _ C s)
   | none=>
     rw[hl]at s;rw[Yc,dQ]at s;have gb:=f6 b _ C s.2
     match tl,s,gb with
     | y::z::zs,s,gb=>exact J4 W gb
     | [],s,_=>exact absurd s.1 (by simp)
     | [_],s,_=>exact absurd s.1 (by simp)
 | .or a b,r,X,k,N,I,C,h=>by
   replace h:=c7 h;obtain⟨v,n,h⟩:=h;have e:=Gx n;subst e;rw[Yc,dQ]at h;obtain⟨R,h⟩:=h;replace h:=c7 h;obtain⟨x,hx,h⟩:=h;rw[Yc]at h;have W:=f6 a _ C h.1;rw[R,B0 hx];have s:=h.2;generalize v.2.1.tail=tl at s;cases hl:l1 tl with
   | some y=>
     rw[hl]at s;rw[w6 hl];exact MI W (f6 b _ C s)
   | none=>
     rw[hl]at s;rw[Yc,dQ]at s;have gb:=f6 b _ C s.2
     match tl,s,gb with
     | y::z::zs,s,gb=>exact MJ W gb
     | [],s,_=>exact absurd s.1 (by simp)
     | [_],s,_=>exact absurd s.1 (by simp)
 | .not a,r,X,k,N,I,C,h=>by
   replace h:=c7 h;obtain⟨v,n,h⟩:=h;obtain⟨p,rfl⟩:=VO n;simp only[Yc,dQ]at h;rw[h.1];exact MK (f6 a _ C h.2)
 | .ife t a b,r,X,k,N,I,C,h=>by
   replace h:=c7 h;obtain⟨v,n,h⟩:=h;obtain⟨p,rfl⟩:=Rr n;simp only[Yc]at h;exact ML (f6 t _ C h.1.1) (f6 a _ C h.1.2) (f6 b _ C h.2)
 | .tup es,r,X,k,N,I,C,h=>by
   replace h:=c7 h;obtain⟨v,n,h⟩:=h;obtain⟨j,p,rfl⟩:=BO n;exact MR (Ae es _ C h)
 | .lst es,r,X,k,N,I,C,h=>by
   replace h:=c7 h;obtain⟨v,n,h⟩:=h;obtain⟨p,rfl⟩:=Rs n;exact MS (Ae es _ C h)
 | .ix a b,r,X,k,N,I,C,h=>by
   replace h:=c7 h;obtain⟨v,n,h⟩:=h;obtain⟨p,rfl⟩:=BP n;simp only[Yc]at h;exact Ot (f6 a _ C h.1.1) (f6 b _ C h.1.2) h.2
 | .slc a lo hi,r,X,k,N,I,C,h=>by
   replace h:=c7 h;obtain⟨v,n,h⟩:=h;replace h:=c7 h;obtain⟨w,hw,h⟩:=h;obtain⟨p,rfl⟩:=BP n;obtain⟨p2,ew⟩:=Rt hw;simp only[Yc]at h;have hl:=HZ lo _ C h.1.1.2;have hh:=HZ hi _ C h.1.2;rw[ew,A0R.mp h.2];exact MM (f6 a _ C h.1.1.1) hl.1 hh.1 hl.2 hh.2
 | .call f es,r,X,k,N,I,C,h=>by
   replace h:=c7 h;obtain⟨v,n,h⟩:=h;obtain⟨p,q,rfl⟩:=v4 n;simp only[Yc,dQ]at h;obtain⟨⟨⟨l,s⟩,H⟩,L⟩:=h;obtain⟨y,ys,e⟩:=Kb L;have st:=Bz H;have g:=Ae es _ C H;rw[e]at st g ⊢;rw[Zm,Yc]at st;exact JA C l s g st.1 st.2
 | .bi b es,r,X,k,N,I,C,h=>by
   replace h:=c7 h;obtain⟨v,n,h⟩:=h;obtain⟨p,q,rfl⟩:=v4 n;simp only[Yc,dQ]at h;obtain⟨⟨⟨l,s⟩,H⟩,L⟩:=h;obtain⟨y,ys,e⟩:=Kb L;have st:=Bz H;have g:=Ae es _ C H;rw[e]at st g ⊢;rw[Zm,Yc]at st;rw[<-l]at s ⊢;exact P9 C s g st.1 st.2
 | .mt m a es,r,X,k,N,I,C,h=>by
   replace h:=c7 h;obtain⟨v,n,h⟩:=h;obtain⟨ap,cp,rfl,hl⟩:=J2 n;simp only[Yc,dQ]at h;obtain⟨⟨⟨⟨R,l⟩,H⟩,L⟩,V⟩:=h;have st:=Bz V;have W:=f6 a _ C L;have gs:=Ae es _ C V;rw[R];generalize v.2.2=a7 at H V st gs ⊢;cases a7 with
   | nil=>
     cases es with
     | nil=>exact MU W l hl
     | cons _ _=>rw[BE]at V;cases V
   | cons y ys=>
     rw[Zm,Yc]at st;exact PC W gs l hl H st.1 st.2
 | .comp own cn js g it t e,r,X,k,N,I,C,h=>by
   replace h:=c7 h;obtain⟨v,n,h⟩:=h;replace h:=c7 h;obtain⟨c,hc,h⟩:=h;obtain⟨p,rfl⟩:=Gy n;simp only[Yc,dQ]at h;obtain⟨⟨⟨⟨⟨⟨R,l⟩,s⟩,H⟩,L⟩,V⟩,h6⟩:=h;have hI:=AN it _ _ C H;have hT:=λB D E A G=>BH t _ (C.comp l B D E A G) V;have hE:=λB D E A G=>f6 e _ (C.comp l B D E A G) h6;rw[w6 hc];obtain⟨tg,ri,a5,az⟩:=c;have R:az=0:=R;subst R;exact Pd (o:=SO.lst) (ckL IZ) C l hI L (λB D E A G=>AG (C.comp l B D E A G) g _ s) (λB D E A G=>(hT B D E A G).1) (hT X.s₀ X.H₀ [] 0 []).2 (λB D E A G=>(PV J (hE B D E A G).pe).m) (KZ (hE X.s₀ X.H₀ [] 0 []).m) (Ao (hE X.s₀ X.H₀ [] 0 []).m) J (λ_ _ _=>⟨i3,.nil⟩) (λh=>⟨_,h⟩) J
 | .comp2 own cn js g it t g2 a4 t2 e,r,X,k,N,I,C,h=>by
   replace h:=c7 h;obtain⟨v,n,h⟩:=h;replace h:=c7 h;obtain⟨c,hc,h⟩:=h;obtain⟨p,rfl⟩:=Gy n;simp only[Yc,dQ]at h;obtain⟨⟨⟨⟨⟨⟨⟨⟨⟨⟨⟨R,a0⟩,l⟩,s⟩,H⟩,L⟩,V⟩,h6⟩,h7⟩,h8⟩,h9⟩,ha⟩:=h;have hI:=AN it _ _ C H;have hT:=λB D E A G=>BH t _ (C.comp l B D E A G) V;have a1:=λB D E A G=>AN a4 _ _ (C.comp l B D E A G) h7;have a2:=λB D E A G=>BH t2 _ (C.comp l B D E A G) h9;have hE:=λB D E A G=>f6 e _ (C.comp l B D E A G) ha;rw[Bq hc];obtain⟨⟨tg,ri,a5,az⟩,⟨a9,b0,a8,a6⟩⟩:=c;have R:az=0:=R;have a0:a6=0:=a0;subst R;subst a0;exact Pd (o:=SO.lst) (ckL SL) C l hI L (λB D E A G=>AG (C.comp l B D E A G) g _ s) (λB D E A G=>(hT B D E A G).1) (hT X.s₀ X.H₀ [] 0 []).2 (λB D E A G=>KU SM C.calm J (a1 B D E A G).pi (AG (C.comp l B D E A G) g2 _ h6) (a2 B D E A G).1 (v3 h8) (PV J (hE B D E A G).pe)) (KY (KZ (hE X.s₀ X.H₀ [] 0 []).m) (a1 X.s₀ X.H₀ [] 0 []).m (a2 X.s₀ X.H₀ [] 0 []).2) (BG (a1 X.s₀ X.H₀ [] 0 []).m (a2 X.s₀ X.H₀ [] 0 []).2 (Ao (hE X.s₀ X.H₀ [] 0 []).m)) J (λ_ _ _=>⟨i3,.nil⟩) (λh=>⟨_,h⟩) J
 | .tyc t,r,X,k,N,I,C,h=>by
   replace h:=c7 h;obtain⟨x,hx,h⟩:=h;obtain⟨p,rfl⟩:=Bp hx;simp only[Yc,dQ]at h;obtain⟨⟨rfl,l⟩,s⟩:=h;exact MV C l s
 | .lrng1 a,r,X,k,N,I,C,h=>by
   replace h:=c7 h;obtain⟨v,n,h⟩:=h;replace h:=c7 h;obtain⟨z,hz,h⟩:=h;replace h:=c7 h;obtain⟨u,hu,h⟩:=h;replace h:=c7 h;obtain⟨ra,Q,h⟩:=h;obtain⟨p,q,rfl⟩:=v4 n;obtain⟨p2,q2,rfl⟩:=v4 hu;simp only[Yc,dQ]at h;obtain⟨⟨⟨⟨⟨M,e2⟩,l⟩,s⟩,H⟩,L⟩:=h;rw[w6 hz,w6 Q,M,e2];rw[M]at l;rw[e2]at s;exact HG C l s (f6 a _ C H) L
 | .lrng2 a b,r,X,k,N,I,C,h=>by
   replace h:=c7 h;obtain⟨v,n,h⟩:=h;replace h:=c7 h;obtain⟨z,hz,h⟩:=h;replace h:=c7 h;obtain⟨u,hu,h⟩:=h;replace h:=c7 h;obtain⟨ra,Q,h⟩:=h;obtain⟨p,q,rfl⟩:=v4 n;obtain⟨p2,q2,rfl⟩:=v4 hu;simp only[Yc,dQ]at h;obtain⟨⟨⟨⟨⟨⟨⟨M,e2⟩,l⟩,s⟩,H⟩,L⟩,V⟩,h6⟩:=h;rw[w6 hz,Bq Q,M,e2];rw[M]at l;rw[e2]at s;exact HH C l s (f6 a _ C H) (f6 b _ C V) L h6
 | .set0,r,X,k,N,I,C,h=>by
   replace h:=c7 h;obtain⟨v,n,h⟩:=h;obtain⟨p,q,rfl⟩:=v4 n;simp only[Yc,dQ,ZW]at h;obtain⟨⟨M,l⟩,s⟩:=h;rw[M]at l;rw[M,s];exact JB C l
 | .sadd a e,r,X,k,N,I,C,h=>by
   replace h:=c7 h;obtain⟨v,n,h⟩:=h;replace h:=c7 h;obtain⟨re,b1,h⟩:=h;obtain⟨ap,cp,rfl,hl⟩:=J2 n;simp only[Yc,dQ]at h;obtain⟨⟨⟨⟨M,l⟩,H⟩,L⟩,V⟩:=h;rw[w6 b1,M];exact JC (f6 a _ C H) (f6 e _ C L) l hl V
 | .max1 a,r,X,k,N,I,C,h=>by
   replace h:=c7 h;obtain⟨v,n,h⟩:=h;replace h:=c7 h;obtain⟨ra,Q,h⟩:=h;obtain⟨p,q,rfl⟩:=v4 n;simp only[Yc,dQ]at h;obtain⟨⟨⟨M,l⟩,H⟩,L⟩:=h;rw[M]at l;rw[w6 Q,M];exact JD C l (f6 a _ C H) L
 | .dnewl,r,X,k,N,I,C,h=>by
   replace h:=c7 h;obtain⟨v,n,h⟩:=h;obtain⟨p,rfl⟩:=Oh n;simp only[Yc,ZW]at h;rw[h.1,h.2];exact HK
 | .setdl d e v,r,X,k,N,I,C,h=>by
   replace h:=c7 h;obtain⟨u,hu,h⟩:=h;replace h:=c7 h;obtain⟨ra,Q,h⟩:=h;obtain⟨ap,cp,rfl,hl⟩:=J2 hu;simp only[Yc,dQ]at h;obtain⟨⟨⟨⟨⟨⟨M,l⟩,s⟩,H⟩,L⟩,V⟩,h6⟩:=h;rw[Bq Q,M];exact HL (Zz (A0K (by decide) _) C.un) (f6 d _ C s) (f6 e _ C H) (f6 v _ C V) l hl L h6
 | .dgetl a b,r,X,k,N,I,C,h=>by
   replace h:=c7 h;obtain⟨v,n,h⟩:=h;obtain⟨p,rfl⟩:=BP n;simp only[Yc]at h;have:=C.un;exact HN (by lia) (f6 a _ C h.1.1) (f6 b _ C h.1.2) h.2
 | .srtu a,r,X,k,N,I,C,h=>by
   replace h:=c7 h;obtain⟨v,n,h⟩:=h;replace h:=c7 h;obtain⟨ra,Q,h⟩:=h;obtain⟨p,q,rfl⟩:=v4 n;simp only[Yc,dQ]at h;obtain⟨⟨⟨M,l⟩,H⟩,L⟩:=h;rw[M]at l;rw[w6 Q,M];exact JI (Zz (A0K (by decide) _) C.un) C l (f6 a _ C H) L
 | .maxd a d,r,X,k,N,I,C,h=>by
   replace h:=c7 h;obtain⟨⟨x,as,kw⟩,n,h⟩:=h;replace h:=c7 h;obtain⟨ra,Q,h⟩:=h;obtain⟨p,q,rfl⟩:=Ru n;obtain⟨ka,kv,kp⟩:=kw;simp only[Yc,dQ]at h;obtain⟨⟨⟨⟨⟨M,l⟩,H⟩,V⟩,L⟩,e2⟩:=h;subst M;subst e2;rw[w6 Q];exact JE C l (f6 a _ C H) (f6 d _ C V) L
 | .dzip a b,r,X,k,N,I,C,h=>by
   replace h:=c7 h;obtain⟨v,n,h⟩:=h;replace h:=c7 h;obtain⟨z,hz,h⟩:=h;replace h:=c7 h;obtain⟨u,hu,h⟩:=h;replace h:=c7 h;obtain⟨ra,Q,h⟩:=h;obtain⟨p,q,rfl⟩:=v4 n;obtain⟨p2,q2,rfl⟩:=v4 hu;simp only[Yc,dQ]at h;obtain⟨⟨⟨⟨⟨⟨⟨M,l⟩,e2⟩,s⟩,H⟩,L⟩,V⟩,h6⟩:=h;rw[M]at l;rw[e2]at s;rw[w6 hz,Bq Q,M,e2];exact JG C l s (f6 a _ C H) (f6 b _ C V) L h6
 | .dctl a,r,X,k,N,I,C,h=>by
   replace h:=c7 h;obtain⟨v,n,h⟩:=h;replace h:=c7 h;obtain⟨ra,Q,h⟩:=h;obtain⟨p,q,rfl⟩:=v4 n;simp only[Yc,dQ]at h;obtain⟨⟨⟨M,l⟩,H⟩,L⟩:=h;rw[M]at l;rw[w6 Q,M];exact JF C l (f6 a _ C H) L
 | .srtsc2 own cn js g it t g2 a4 t2 e,r,X,k,N,I,C,h=>by
   replace h:=c7 h;obtain⟨u,hu,h⟩:=h;replace h:=c7 h;obtain⟨z,hz,h⟩:=h;replace h:=c7 h;obtain⟨v,n,h⟩:=h;replace h:=c7 h;obtain⟨c,hc,h⟩:=h;obtain⟨p1,q1,rfl⟩:=v4 hu;obtain⟨p,rfl⟩:=F8 n;simp only[Yc,dQ]at h;obtain⟨⟨⟨⟨⟨⟨⟨⟨⟨⟨⟨⟨⟨M,a3⟩,R⟩,a0⟩,l⟩,s⟩,H⟩,L⟩,V⟩,h6⟩,h7⟩,h8⟩,h9⟩,ha⟩:=h;have hI:=AN it _ _ C H;have hT:=λB D E A G=>BH t _ (C.comp l B D E A G) V;have a1:=λB D E A G=>AN a4 _ _ (C.comp l B D E A G) h7;have a2:=λB D E A G=>BH t2 _ (C.comp l B D E A G) h9;have hE:=λB D E A G=>f6 e _ (C.comp l B D E A G) ha;rw[M]at a3;rw[w6 hz,M,Bq hc];obtain⟨⟨tg,ri,a5,az⟩,⟨a9,b0,a8,a6⟩⟩:=c;have R:az=0:=R;have a0:a6=0:=a0;subst R;subst a0;exact DG (fin:=Gq) (tem:=PY (liftI X.K (Ec Δ a4)) (DF X.K g2) (liftT X.K (wEo Δ t2).2) (Vd X.prog X.w (lift X.K (wEx Δ e).1))) (ckS PR) C a3 l hI L (λB D E A G=>AG (C.comp l B D E A G) g _ s) (λB D E A G=>(hT B D E A G).1) (hT X.s₀ X.H₀ [] 0 []).2 (λB D E A G=>KU PU C.calm J (a1 B D E A G).pi (AG (C.comp l B D E A G) g2 _ h6) (a2 B D E A G).1 (v3 h8) (PX J (hE B D E A G).pe)) (KY (Ka (hE X.s₀ X.H₀ [] 0 []).m) (a1 X.s₀ X.H₀ [] 0 []).m (a2 X.s₀ X.H₀ [] 0 []).2) (BG (a1 X.s₀ X.H₀ [] 0 []).m (a2 X.s₀ X.H₀ [] 0 []).2 (Ap (hE X.s₀ X.H₀ [] 0 []).m)) (λ_ _ _ q=>q) (λP P' im b S q=>⟨q.1,im _ _ q.2⟩)
 | .srtsc own cn js g it t e,r,X,k,N,I,C,h=>by
   replace h:=c7 h;obtain⟨u,hu,h⟩:=h;replace h:=c7 h;obtain⟨z,hz,h⟩:=h;replace h:=c7 h;obtain⟨v,n,h⟩:=h;replace h:=c7 h;obtain⟨c,hc,h⟩:=h;obtain⟨p1,q1,rfl⟩:=v4 hu;obtain⟨p,rfl⟩:=F8 n;simp only[Yc,dQ]at h;obtain⟨⟨⟨⟨⟨⟨⟨⟨M,a3⟩,R⟩,l⟩,s⟩,H⟩,L⟩,V⟩,h6⟩:=h;have hI:=AN it _ _ C H;have hT:=λB D E A G=>BH t _ (C.comp l B D E A G) V;have hE:=λB D E A G=>f6 e _ (C.comp l B D E A G) h6;rw[M]at a3;rw[w6 hz,M,w6 hc];obtain⟨tg,ri,a5,az⟩:=c;have R:az=0:=R;subst R;exact DG (fin:=OX) (ckS Mc) C a3 l hI L (λB D E A G=>AG (C.comp l B D E A G) g _ s) (λB D E A G=>(hT B D E A G).1) (hT X.s₀ X.H₀ [] 0 []).2 (λB D E A G=>(PX J (hE B D E A G).pe).m) (Ka (hE X.s₀ X.H₀ [] 0 []).m) (Ap (hE X.s₀ X.H₀ [] 0 []).m) (λ_ _ _ q=>SS q) (λP P' im b S q=>⟨q.1,im _ _ q.2⟩)
 | .dget a b,r,X,k,N,I,C,h=>by
   replace h:=c7 h;obtain⟨v,n,h⟩:=h;obtain⟨p,rfl⟩:=BP n;simp only[Yc]at h;have:=C.un;exact JH (by lia) (f6 a _ C h.1.1) (f6 b _ C h.1.2) h.2
 | .no,r,X,k,N,I,C,h => .never
theorem Ae{T:U Str}{d:Nat->Sn}:∀(a:Exs) (b:U A2p) {X:Cx} {k:Nat} {N:U Str} {c:A2D},Cok T d X k N c->BE T N c a b=aC->GoodA X b (Gs d a)
 | .nil,b,X,k,N,c,C,h=>by
   rw[BE,ZW]at h;subst h;exact MQ
 | .cons e a,b,X,k,N,c,C,h=>by
   rw[BE]at h;replace h:=c7 h;obtain⟨x,f,h⟩:=h;simp only[Yc]at h;rw[B0 f];exact J9 (f6 e _ C h.1.1) (Ae a _ C h.2) h.1.2
theorem HZ{T:U Str}{b:Nat->Sn}:∀(o:Eo) (r:Option A2p) {X:Cx} {k:Nat} {N:U Str} {a:A2D},Cok T b X k N a->Oj T N a o r=aC->PO X r (HD X.K (wEo b o).1)/\MonoO (wEo b o).1
 | .no,r,X,k,N,a,C,h=>by
   rw[Oj]at h;rw[A0R.mp h];exact⟨XQ,.no⟩
 | .yes e,r,X,k,N,a,C,h=>by
   rw[Oj]at h;replace h:=c7 h;obtain⟨x,c,h⟩:=h;subst c;exact⟨VT (f6 e _ C h),.yes (f6 e _ C h).m⟩
theorem BH{T:U Str}{c:Nat->Sn}:∀(o:Eo) (a:U A2p) {X:Cx} {k:Nat} {N:U Str} {b:A2D},Cok T c X k N b->Cf T N b o a=aC->DZ X a (liftT X.K (wEo c o).2)/\MonoT (wEo c o).2
 | .no,a,X,k,N,b,C,h=>by
   rw[Cf,ZW]at h;subst h;exact⟨Pc,λ_ _ _ _ i q=>i _ _ q⟩
 | .yes e,a,X,k,N,b,C,h=>by
   rw[Cf]at h;replace h:=c7 h;obtain⟨x,d,h⟩:=h;rw[w6 d];exact⟨Vf (f6 e _ C h),(f6 e _ C h).mt⟩
theorem AN{T:U Str}{x:Nat->Sn}:∀(y:Itb) (i r:A2p) {X:Cx} {k:Nat} {N:U Str} {d:A2D},Cok T x X k N d->Gz T N d y i r=aC->GoodI X i r (Ec x y)
 | .seq e,i,r,X,k,N,d,C,h=>by
   exact Ma (f6 e _ C h)
 | .rng1 a,i,r,X,k,N,d,C,h=>by
   replace h:=c7 h;obtain⟨v,m,h⟩:=h;replace h:=c7 h;obtain⟨l,c,h⟩:=h;obtain⟨p,q,rfl⟩:=v4 m;simp only[Yc,dQ]at h;obtain⟨⟨⟨f,g⟩,n⟩,o⟩:=h;rw[f]at g;rw[w6 c,f];exact JM C g (f6 a _ C n) o
 | .rng2 a b,i,r,X,k,N,d,C,h=>by
   replace h:=c7 h;obtain⟨v,m,h⟩:=h;replace h:=c7 h;obtain⟨l,c,h⟩:=h;obtain⟨p,q,rfl⟩:=v4 m;simp only[Yc,dQ]at h;obtain⟨⟨⟨⟨⟨f,g⟩,n⟩,o⟩,s⟩,t⟩:=h;rw[f]at g;rw[Bq c,f];exact JN C g (f6 a _ C n) (f6 b _ C s) o t
 | .enum e,i,r,X,k,N,d,C,h=>by
   replace h:((Dp i).isSome&&(vFn r).any λv=>(l1 v.2).any λa=>decide (v.1=("enumerate":Str))&&glo d v.1&&j6 T N d e a&&f9 a)=aC:=h;rw[Yc]at h;obtain⟨u,h⟩:=h;obtain⟨z,w⟩:=A0i.mp u;obtain⟨j,A,rfl⟩:=BO w;replace h:=c7 h;obtain⟨v,m,h⟩:=h;replace h:=c7 h;obtain⟨l,c,h⟩:=h;obtain⟨p,q,rfl⟩:=v4 m;simp only[Yc,dQ]at h;obtain⟨⟨⟨f,g⟩,n⟩,o⟩:=h;rw[f]at g;rw[w6 c,f];exact JL C g (f6 e _ C n) o
 | .zipX a b,i,r,X,k,N,d,C,h=>by
   replace h:((Dp i).isSome&&(vFn r).any λv=>(l2 v.2).any λl=>decide (v.1=("zip":Str))&&glo d v.1&&j6 T N d a l.1&&f9 l.1&&j6 T N d b l.2&&f9 l.2)=aC:=h;rw[Yc]at h;obtain⟨u,h⟩:=h;obtain⟨z,w⟩:=A0i.mp u;obtain⟨j,A,rfl⟩:=BO w;replace h:=c7 h;obtain⟨v,m,h⟩:=h;replace h:=c7 h;obtain⟨l,c,h⟩:=h;obtain⟨p,q,rfl⟩:=v4 m;simp only[Yc,dQ]at h;obtain⟨⟨⟨⟨⟨f,g⟩,n⟩,o⟩,s⟩,t⟩:=h;rw[f]at g;rw[Bq c,f];exact JO C g (f6 a _ C n) (f6 b _ C s) o t
 | .dtk e,i,r,X,k,N,d,C,h=>by
   exact Mb (f6 e _ C h)
end
def E1:A2p->Option A2D
 | .ListComp _ _ s _=>O s
 | .SetComp _ _ s _=>O s
 | .DictComp _ _ _ s _=>O s
 | _=>aB
def E2(a:A2D)(e:A2p)(x:Str)(b:Pos):Bool:=match E1 e with
 | none=>aD
 | some s=>a.names.lookup x == O .local&&b.line == e.pos.line&&!(s.names.any λ(n,k)=>n == x&&(k == .local||k == .cell))
def Kc{a:Env}{e:A2p}{x:Str}{b:Pos}{l:Nat}(c:a.scope.kind = .function):A3b e (O (.Name x b)) l a=pure (E2 a.scope e x b):=by
 have d:a.blockKind = .function:=by unfold Env.blockKind;rw[c];rfl
 unfold A3b E2 E1
 cases e<;>first
  | rfl
  | (show(pure _:Sem Bool)=_;rw[d];rfl)
def Pe:A2p->Bool
 | .Tuple ..=>aD
 | _=>aC
def ST(a:A2D)(x y:Str)(b c:Pos):Bool:=a.names.lookup x == O .local&&a.names.lookup y == O .local&&b.line == c.line&&!(x == y)
def D6:A2p->Option (Str×Pos)
 | .Name x p=>O (x,p)
 | _=>aB
def C0{r:A2p}{x:Str×Pos}(h:D6 r=O x):r = .Name x.1 x.2:=by cases r<;>first | (cases h;rfl) | exact v5 h
def Pf:A2V->Option (U A2p×A2p)
 | .Assign ts e _=>O (ts,e)
 | _=>aB
def Xa:A2V->Option A2p
 | .Expr e _=>O e
 | _=>aB
def Xb:A2V->Option (A2p×U A2V×U A2V)
 | .If t a b _=>O (t,a,b)
 | _=>aB
def Xd:A2V->Option (A2p×A2p×U A2V×U A2V)
 | .For g i b o _=>O (g,i,b,o)
 | _=>aB
def Xe:A2V->Option (A2p×U A2V×U A2V)
 | .While t b o _=>O (t,b,o)
 | _=>aB
def Xf:A2V->Option (Option A2p)
 | .Return e _=>O e
 | _=>aB
def Xg:A2V->Option (A2p×A3h×A2p)
 | .AugAssign t o e _=>O (t,o,e)
 | _=>aB
def SU{r:A2V}{x:A2p×A3h×A2p}(h:Xg r=O x):∃ p,r = .AugAssign x.1 x.2.1 x.2.2 p:=by cases r<;>first | (cases h;exact⟨_,J⟩) | exact v5 h
def Tx:A3h->Bool
 | .Add=>aC
 | _=>aD
def Pg{o:A3h}(h:Tx o=aC):o = .Add:=by cases o<;>first | rfl | (cases h;done)
def DT{r:A2V}{x:U A2p×A2p}(h:Pf r=O x):∃ p,r = .Assign x.1 x.2 p:=by cases r<;>first | (cases h;exact⟨_,J⟩) | exact v5 h
def SW{r:A2V}{x:A2p}(h:Xa r=O x):∃ p,r = .Expr x p:=by cases r<;>first | (cases h;exact⟨_,J⟩) | exact v5 h
def SX{r:A2V}{x:A2p×U A2V×U A2V}(h:Xb r=O x):∃ p,r = .If x.1 x.2.1 x.2.2 p:=by cases r<;>first | (cases h;exact⟨_,J⟩) | exact v5 h
def SY{r:A2V}{x:A2p×A2p×U A2V×U A2V}(h:Xd r=O x):∃ p,r = .For x.1 x.2.1 x.2.2.1 x.2.2.2 p:=by cases r<;>first | (cases h;exact⟨_,J⟩) | exact v5 h
def SZ{r:A2V}{x:A2p×U A2V×U A2V}(h:Xe r=O x):∃ p,r = .While x.1 x.2.1 x.2.2 p:=by cases r<;>first | (cases h;exact⟨_,J⟩) | exact v5 h
def Sa{r:A2V}{x:Option A2p}(h:Xf r=O x):∃ p,r = .Return x p:=by cases r<;>first | (cases h;exact⟨_,J⟩) | exact v5 h
def Ty(a:A2D)(b:A2p):Bool:=(Dp b).any λts=>(l2 ts).any λc=>(D6 c.1).any λx=>!(a.names.lookup x.1 == O .local)
def Vg(c:A2D)(a b:A2p):Bool:=match D6 a with
 | some x=>!E2 c b x.1 x.2||isCmp b
 | none=>(Dp a).isSome&&(Pe b||Ty c a)
mutual
noncomputable def Xh(T:U Str)(N:U Str)(c:A2D):Stm->A2V->Bool
 | .asg t e,r=>(Pf r).any λv=>(l1 v.1).any λf=>Am N.length N c t f&&j6 T N c e v.2&&f9 f&&Vg c f v.2
 | .par i j a b,r=>(Pf r).any λv=>(l1 v.1).any λf=>(Dp f).any λts=>(l2 ts).any λl=>(Dp v.2).any λvs=>(l2 vs).any λh=>(D6 l.1).any λx=>(D6 l.2).any λy=>
    decide (N[i]?=O x.1)&&decide (N[j]?=O y.1)&&decide (i≠j)&&ST c x.1 y.1 x.2 y.2&&j6 T N c a h.1&&j6 T N c b h.2&&f9 h.1&&f9 h.2&&!([h.1,h.2].all (foldedForSure 8))&&!([h.1,h.2].all (A5c 8))
 | .put o i e,r=>(Pf r).any λv=>(l1 v.1).any λf=>(Gv f).any λd=>j6 T N c o d.1&&j6 T N c i d.2&&j6 T N c e v.2&&u8 d.2
 | .augS o i e,r=>(Xg r).any λv=>(Gv v.1).any λd=>Tx v.2.1&&j6 T N c o d.1&&j6 T N c i d.2&&j6 T N c e v.2.2&&u8 d.2
 | .dput o i e,r=>(Pf r).any λv=>(l1 v.1).any λf=>(Gv f).any λd=>j6 T N c o d.1&&j6 T N c i d.2&&j6 T N c e v.2&&u8 d.2
 | .expr e,r=>(Xa r).any λk=>j6 T N c e k&&(E1 k).isNone
 | .iff t a b,r=>(Xb r).any λv=>j6 T N c t v.1&&Cg T N c a v.2.1&&Cg T N c b v.2.2
 | .loop g m b,r=>(Xd r).any λv=>Am N.length N c g v.1&&Gz T N c m v.1 v.2.1&&AC v.2.1&&Cg T N c b v.2.2.1&&v.2.2.2.isEmpty
 | .whl t b,r=>(Xe r).any λv=>j6 T N c t v.1&&Cg T N c b v.2.1&&v.2.2.isEmpty
 | .ret e,r=>(Xf r).any λo=>o.any λk=>j6 T N c e k
 | .no,_=>aC
noncomputable def Cg(T:U Str)(N:U Str)(a:A2D):U Stm->U A2V->Bool
 | [],r=>r.isEmpty
 | s::b,r=>(r.head?).any λx=>Xh T N a s x&&Cg T N a b r.tail
end
noncomputable def Ha(K:YZ)(as:U Y)(H:Hp)(D:Ends):EndsS where
 nx:=λd S'=>∀ a c b,Go as H a c->Ok K a c S'->EnvOk K a c b d->D.nx b c
 rt:=Post K as H D.rt
 bk:=λd S'=>∀ a c b,Go as H a c->Ok K a c S'->EnvOk K a c b d->D.bk b c
 ct:=λd S'=>∀ a c b,Go as H a c->Ok K a c S'->EnvOk K a c b d->D.ct b c
noncomputable def liftS(K:YZ)(w:WS):TS:=λD b H=>∃ as a S,Ok K as H S/\EnvOk K as H b a/\w (Ha K as H D) a S
structure Le(D D':EndsS):Prop where
 nx:∀ ρ S,D.nx ρ S->D'.nx ρ S
 rt:∀ x S,D.rt x S->D'.rt x S
 bk:∀ ρ S,D.bk ρ S->D'.bk ρ S
 ct:∀ ρ S,D.ct ρ S->D'.ct ρ S
def MonoS(w:WS):Prop:=∀ D a b S,Le D a->w D b S->w a b S
def MonoS.go{w:WS}(m:MonoS w){D a:EndsS}{b:EnvS}{S:Sto}(h:w D b S)(l:Le D a):w a b S:=m D a b S l h
def Le.go{K:YZ}{as c:U Y}{H f:Hp}{D:Ends}(g:Go as H c f):Le (Ha K as H D) (Ha K c f D) where
 nx:=λi S h a d b e=>h a d b (g.trans e)
 rt:=λx S h=>Post.mono h g
 bk:=λi S h a d b e=>h a d b (g.trans e)
 ct:=λi S h a d b e=>h a d b (g.trans e)
structure GoodS(X:Cx)(r:A2V)(w:WS):Prop where
 ps:PS X r (liftS X.K w)
 m:MonoS w
structure GoodSs(X:Cx)(r:List A2V)(w:WS):Prop where
 ps:PSs X r (liftS X.K w)
 m:MonoS w
def AA{X:Cx}{d:A2V}{t:TS}(e:TS)(h:PS X d t)(c:∀ D a H,e D a H->t D a H):PS X d e:=λb s a H D I f=>h b s a H D I (c D a H f)
def Hb{X:Cx}{d:U A2V}{t:TS}(e:TS)(h:PSs X d t)(c:∀ D a H,e D a H->t D a H):PSs X d e:=λb s a H D I f=>h b s a H D I (c D a H f)
section
variable{X:Cx}
def JR:GoodSs X [] (λD a S=>D.nx a S):=⟨Hb _ Qu (by rintro D b H ⟨c,a,S,d,e,h⟩;exact h c H b (Go.refl _ _) d e),λD f a S l h=>l.nx _ _ h⟩
def Hc{s:A2V}{j:U A2V}{w u:WS}(c:GoodS X s w)(d:GoodSs X j u):GoodSs X (s::j) (λD b S=>w {D with nx:=u D} b S) where
 ps:=Hb _ (ND c.ps d.ps) (by
  rintro D t H ⟨n,b,S,o,p,h⟩;refine⟨n,b,S,o,p,c.m.go h ⟨λa k q e v r g f i=>?_,λ_ _ h=>h,λ_ _ h=>h,λ_ _ h=>h⟩⟩;exact⟨e,a,k,f,i,d.m _ _ _ _ (Le.go g) q⟩)
 m:=λD x b S l h=>c.m.go (D:={D with nx:=u D}) h ⟨λa k q=>d.m _ _ _ _ l q,l.rt,l.bk,l.ct⟩
def Sc{K:YZ}{g:Tg}{w:WE}(m:Mono w):∀ D e H,liftS K (λD a S=>w a S λx S1=>wTg g x a λb=>D.nx b S1) D e H->IL (lift K w) (DF K g) D e H:=by rintro D e H ⟨n,a,S,k,l,h⟩;refine⟨n,a,S,k,l,m _ _ _ _ (λx S1 q c o v f d p=>?_) h⟩;exact⟨c,a,S1,x,d,l.mono f.pre (f.ku k),p,y8 g (λb q i j=>q c o i f d j) q⟩
def Hd{K:YZ}{i:Nat}{w:WE}(m:Mono w):∀ D b H,liftS K (λD a S=>w a S λx S1=>wTg (.nm i) x a λc=>D.nx c S1) D b H->IL (lift K w) (GU i) D b H:=by rintro D b H ⟨k,a,S,g,j,h⟩;refine⟨k,a,S,g,j,m _ _ _ _ (λx S1 q d l v e f n=>?_) h⟩;unfold wTg at q;exact q d l _ e f ((j.mono e.pre (e.ku g)).set n)
def He{g:Tg}{w:WE}(m:Mono w):MonoS (λD b S=>w b S λx S1=>wTg g x b λa=>D.nx a S1):=λD c b S l h=>m _ _ _ _ (λx S1 q=>y8 g (λa q=>l.nx _ _ q) q) h
def Vh{K:YZ}{t:WT}{a b:WS}(mt:MonoT t)(l:MonoS a)(m:MonoS b):∀ D i H,liftS K (λD d S=>t d S λc S1=>if c=aC then a D d S1 else b D d S1) D i H->WF (liftT K t) (liftS K a) (liftS K b) D i H:=by
 rintro D i H ⟨n,d,S,j,k,h⟩;refine⟨n,d,S,j,k,mt _ _ _ _ (λc S1 q f o e g=>?_) h⟩;refine n8 (λq=>?_) (λq=>?_) q
 ·exact⟨f,d,S1,g,k.mono e.pre (e.ku j),l _ _ _ _ (Le.go e) q⟩
 ·exact⟨f,d,S1,g,k.mono e.pre (e.ku j),m _ _ _ _ (Le.go e) q⟩
theorem C1{a:Sto->Prop}{g:Tg}{b:WS}(f:MonoS b):∀(c:U SV) {D d:EndsS},Le D d->∀ e S,AF a g b D c e S->AF a g b d c e S
 | [],D,d,l,e,S,h=>by unfold AF at h ⊢;exact⟨h.1,l.nx _ _ h.2⟩
 | x::c,D,d,l,e,S,h=>by
   unfold AF at h ⊢;exact⟨h.1,y8 g (λi q=>f.go (D:={D with nx:=AF a g b D c,ct:=AF a g b D c,bk:=D.nx}) q ⟨C1 f c l,l.rt,l.nx,C1 f c l⟩) h.2⟩
def Sd{K:YZ}{g:Tg}{i:WI}{b:WS}(mi:MonoI i)(mb:MonoS b):∀ D M H,liftS K (λD y S=>i y S λd f S1=>AF d g b D f y S1) D M H->WQ (liftI K i) (DF K g) (liftS K b) D M H:=by
 rintro D M H ⟨N,y,S,V,en,h⟩;refine⟨N,y,S,V,en,mi _ _ _ _ (λd f S1 h r H1 J I s W=>?_) h⟩
 refine⟨λi m t u=>m=f.length - i/\i<=f.length/\∃ a c S2,Go r H1 a u/\Ok K a u S2/\EnvOk K a u t c/\AF d g b (Ha K N H D) (f.drop i) c S2,
  ⟨f.length,by simp,ZY _,r,y,S1,Go.refl _ _,s,en.mono I.pre (I.ku V),h⟩,?_⟩
 rintro i m t u ⟨rfl,hi,a,c,S2,w,n,A,h⟩;by_cases v:i<f.length
 ·right;rw[A0t v]at h;unfold AF at h;obtain⟨P,h⟩:=h;obtain⟨w1,_⟩:=W a u S2 (w.gu s) n P;obtain⟨go,yl⟩:=w1 i f[i] (Ya v);refine⟨go,λe p=>∃ a c S2,Go r H1 a p/\Ok K a p S2/\EnvOk K a p e c/\AF d g b (Ha K N H D) (f.drop (i+1)) c S2,λe p z=>⟨f.length - (i+1),by lia,rfl,v,z⟩,λx H3 y3=>?_⟩;obtain⟨B,C,rx⟩:=yl x H3 y3;refine⟨a,c,S2,_,C,A.mono B.pre (B.ku n),rx,y8 g (λQ q a0 R=>?_) h⟩;have E:=(I.trans w).trans B;refine⟨a,Q,S2,C,R,mb.go q ⟨λo L q j p e G k l=>?_,λx S h=>Post.mono h E,λo L q j p e G k l=>q j p e (E.trans G) k l,λo L q j p e G k l=>?_⟩⟩
  ·exact⟨j,o,L,(w.trans B).trans G,k,l,q⟩
  ·exact⟨j,o,L,(w.trans B).trans G,k,l,q⟩
 ·left;have T:i=f.length:=by lia
  subst T;rw[A1a]at h;unfold AF at h;obtain⟨P,h⟩:=h;obtain⟨_,w2⟩:=W a u S2 (w.gu s) n P;exact⟨w2,h a u t (I.trans w) n A⟩
def Hf{t:WT}{b:WS}(mt:MonoT t)(g:MonoS b):MonoS (VM t b):=by rintro D j f S l ⟨W,i,h⟩;exact⟨W,i,λm f S w=>mt _ _ _ _ (λc S1 q=>n8 (λq=>g.go (D:={D with nx:=λa e=>∃ d,d<m/\W d a e,ct:=λa e=>∃ d,d<m/\W d a e,bk:=D.nx}) q ⟨λ_ _ h=>h,l.rt,l.nx,λ_ _ h=>h⟩) (λq=>l.nx _ _ q) q) (h m f S w)⟩
def Se{K:YZ}{t:WT}{b:WS}(mt:MonoT t)(I:MonoS b):∀ D B H,liftS K (VM t b) D B H->NH (liftT K t) (liftS K b) D B H:=by
 rintro D B H ⟨C,L,S,M,N,W,⟨P,Q⟩,h⟩;refine⟨λm n y=>∃ a d S1,Go C H a y/\Ok K a y S1/\EnvOk K a y n d/\W m d S1,⟨P,C,L,S,Go.refl _ _,M,N,Q⟩,?_⟩;rintro m n y ⟨a,d,S1,s,o,p,w1⟩;refine⟨a,d,S1,o,p,mt _ _ _ _ (λc S2 q u R j v=>?_) (h m d S1 w1)⟩;refine n8 (λq=>?_) (λq=>q u R n (s.trans j) v (p.mono j.pre (j.ku o))) q;refine⟨λe l=>∃ r,r<m/\∃ a d S1,Go C H a l/\Ok K a l S1/\EnvOk K a l e d/\W r d S1,λe l z=>z,?_⟩;refine⟨u,d,S2,v,p.mono j.pre (j.ku o),I.go q ⟨λk A ⟨r,E,G⟩ f l e w g i=>?_,λx S h=>Post.mono h (s.trans j),λk A q f l e w g i=>q f l e ((s.trans j).trans w) g i,λk A ⟨r,E,G⟩ f l e w g i=>?_⟩⟩
 ·exact⟨r,E,f,k,A,(s.trans j).trans w,g,i,G⟩
 ·exact⟨r,E,f,k,A,(s.trans j).trans w,g,i,G⟩
def Sf{K:YZ}{i j:Nat}{a b:WE}(p:Mono a)(r:Mono b):∀ D g H,liftS K (λD d S=>a d S λx S1=>b d S1 λy S2=>D.nx ((d.set i (O x)).set j (O y)) S2) D g H->WK i j (GW (lift K a) (GW (lift K b) R5)) D g H:=by rintro D g H ⟨s,d,S,k,l,h⟩;refine⟨s,d,S,k,l,p _ _ _ _ (λx S1 q m A v e c t=>?_) h⟩;refine⟨m,d,S1,c,l.mono e.pre (e.ku k),r _ _ _ _ (λy S2 q n w u f o z=>?_) q⟩;refine⟨v,u,J,q n w _ (e.trans f) o ?_⟩;exact(((l.mono e.pre (e.ku k)).mono f.pre (f.ku c)).set (Rl.mono f.pre (f.ku c) x v t)).set z
def E3{x y v:SV}{S:Sto}{P d:Sto->Prop}(i:∀ S,P S->d S)(h:Iy x y v S P):Iy x y v S d:=by
 unfold Iy at h ⊢;split at h
 ·obtain⟨e,j,a,b,c⟩:=h;exact⟨e,j,a,b,i _ c⟩
 ·exact h.elim
def Ke{K:YZ}{b:U Y}{H:Hp}{S:Sto}{x y z:SV}{o i v:V}{Q:Hp->Prop}(d:Ok K b H S)(ro:Rl K b H o x)(e:Rl K b H i y)(m:Rl K b H v z)(h:Iy x y z S λp=>∀ c,Go b H b c->Ok K b c p->Q c):Ju o i v H Q:=by
 cases x with
 | loc k=>
   cases y with
   | int n=>
     obtain⟨u,j,f,q,r⟩:=h;obtain⟨a,s,rfl,g,t,l⟩:=p0 d ro f;rw[rl_int]at e;subst e;refine⟨a,s,n,j,J,J,t,by rw[l.length];exact q,r _ (Go.write (Yb g)) (d.write f g (l.set m j)).1⟩
   | _=>exact False.elim h
 | _=>exact False.elim h
def Sh{K:YZ}{o i e:WE}(I:Mono o)(L:Mono i)(M:Mono e):∀ D l H,liftS K (λD a S=>e a S λv S1=>o a S1 λx S2=>i a S2 λy B=>Iy x y v B λC=>D.nx a C) D l H->IL (lift K e) (WJ (lift K o) (lift K i) Ju) D l H:=by rintro D l H ⟨N,a,S,E,G,h⟩;refine⟨N,a,S,E,G,M _ _ _ _ (λz S1 q m V v n b P=>?_) h⟩;have f:=G.mono n.pre (n.ku E);refine⟨m,a,S1,b,f,I _ _ _ _ (λx S2 q p W u g c Q=>?_) q⟩;have j:=f.mono g.pre (g.ku b);refine⟨p,a,S2,c,j,L _ _ _ _ (λy B q r H3 t d k R=>?_) q⟩;have s:=j.mono d.pre (d.ku c);refine Ke k (Rl.mono d.pre (d.ku c) x u Q) R (Rl.mono (g.trans d).pre ((g.trans d).ku b) z v P) (E3 (λC q T w A=>?_) q);exact q r T l (((n.trans g).trans d).trans w) A (s.mono w.pre (w.ku k))
def Kf{n j:Nat}(h:j<n):ixN n (j:Int)=O j:=by unfold ixN;rw[iP (by lia),iP (by lia)];simp
def Xi(K:YZ):V->V->Hp->VK->Prop:=λx y H Q=>∃ p xs v,∃ i:Nat,x = .ref p/\y = .int i/\SqL K H p xs/\xs[i]?=O v/\Q v H
def Vi{X:Cx}:WL X (Xi X.K):=by intro b s l H x y v u Q I d e h;obtain⟨p,m,z,i,rfl,rfl,f,c,q⟩:=h;cases d;obtain⟨t,rfl⟩:=e;obtain⟨g,r,j,n⟩:=I.list f;obtain⟨w,k,a⟩:=r.get c;have o:=r.length;have A:=CF;have B:=(gM c).1;exact wpAny_getItem_list j.isList (A0O _) (by lia) (by rw[ZX];simpa using k) ⟨z,H,I,a,q⟩
def Si{K:YZ}{o i e:WE}(mo:Mono o)(mi:Mono i)(me:Mono e):∀ D B H,liftS K (λD f S=>o f S λx S1=>i f S1 λy S2=>∃(k:Nat) (j:Nat) (E:U SV) (a:Int),x = .loc k/\y = .int j/\S2[k]?=O (.lst E)/\E[j]?=O (.int a)/\e f S2 λv C=>∃(b:Int) (l:U SV),v = .int b/\C[k]?=O (.lst l)/\j<l.length/\D.nx f (C.set k (.lst (l.set j (.int (a+b)))))) D B H->Td (lift K o) (lift K i) (lift K e) (Xi K) (ipI λi j=>i+j) Ju D B H:=by rintro D B H ⟨as,f,S,R,T,h⟩;refine⟨as,f,S,R,T,mo _ _ _ _ (λx S1 q G H1 u I g ru=>?_) h⟩;have m:=T.mono I.pre (I.ku R);refine⟨G,f,S1,g,m,mi _ _ _ _ (λy S2 q L H2 t n c V=>?_) q⟩;have r:=m.mono n.pre (n.ku g);have s:=Rl.mono n.pre (n.ku g) x u ru;obtain⟨k,j,E,a,rfl,rfl,h1,h2,q⟩:=q;obtain⟨p,vs,rfl,ea,ha,ra⟩:=p0 c s h1;rw[rl_int]at V;subst V;obtain⟨v0,e0,W⟩:=ra.get h2;rw[rl_int]at W;subst W;refine⟨p,vs,_,j,J,J,SqL.of ha,e0,L,f,S2,c,r,me _ _ _ _ (λd C ⟨b,l,e2,h4,hj,q⟩ M H4 z w A rz=>?_) q⟩;subst e2;rw[rl_int]at rz;have N:=r.mono w.pre (w.ku c);refine⟨a,b,J,rz,Ke A (Rl.mono w.pre (w.ku c) (.loc k) (.ref p) s) (rl_int.mpr J) (rl_int.mpr J) (show Iy (.loc k) (.int j) (.int (a+b)) C _ from ⟨l,j,h4,Kf hj,λH5 P Q=>?_⟩)⟩;exact q M H5 B (((I.trans n).trans w).trans P) Q (N.mono P.pre (P.ku A))
def FJ{x y v:SV}{S:Sto}{Q f:Sto->Prop}(i:∀ g,Q g->f g)(h:KG x y v S Q):KG x y v S f:=by obtain⟨k,j,e,a,b,c,d,q⟩:=h;exact⟨k,j,e,a,b,c,d,i _ q⟩
def Ph{K:YZ}{o i e:WE}(mo:Mono o)(mi:Mono i)(me:Mono e):∀ D G H,liftS K (λD f S=>e f S λv S1=>o f S1 λx S2=>i f S2 λy S3=>KG x y v S3 λS4=>D.nx f S4) D G H->Nh (lift K o) (lift K i) (lift K e) D G H:=by
 rintro D G H ⟨as,f,S,ok,en,h⟩;refine⟨as,f,S,ok,en,me _ _ _ _ (λz S1 q R H1 v Q l rv=>?_) h⟩;have I:=en.mono Q.pre (Q.ku ok);refine⟨R,f,S1,l,I,mo _ _ _ _ (λx S2 q T H2 u B m ru=>?_) q⟩;have L:=I.mono B.pre (B.ku l);refine⟨T,f,S2,m,L,mi _ _ _ _ (λy S3 q n C t g d rt=>?_) q⟩;have M:=L.mono g.pre (g.ku m);have V:=Rl.mono g.pre (g.ku m) x u ru;have N:=Rl.mono (B.trans g).pre ((B.trans g).ku l) z v rv;obtain⟨k,j,p,rfl,rfl,r,s,q⟩:=q;obtain⟨a,E,rfl⟩:=rl_loc.mp V;rw[rl_int]at rt;subst rt;rcases r with r | ⟨o',c,r⟩
 ·obtain⟨c,W,P⟩:=d.obj k _ a r E;obtain⟨w,A⟩:=d.writeO (x := .dct (Ak p j z)) (u := .dK (AM c (Sum.inl j) v)) r E (λA=>⟨_,i3,RlD.mono (Z3 _) A _ _ (P.put N j)⟩);refine⟨a,C,_,J,.inl J,.inl ⟨c,.inl j,W,J,by rw[P.length];exact Di s,J⟩,?_⟩;exact q n _ G (((Q.trans B).trans g).trans (Go.write (Yb E))) w (M.mono (Z3 _) A)
 ·obtain⟨W,P⟩:=(show RlO K n C a (.dcf o' c p) from d.obj k _ a r E)
  obtain⟨w,A⟩:=d.writeO (x := .dct (Ak p j z)) (u := .dK (AM c (Sum.inl j) v)) r E (λA=>⟨_,i3,RlD.mono (Z3 _) A _ _ (P.put N j)⟩)
  have e:upd (upd C a (.dK c)) a (.dK (AM c (Sum.inl j) v))=upd C a (.dK (AM c (Sum.inl j) v)):=by
   funext b
   by_cases s:b=a
   ·rw[s,i3,i3]
   ·rw[g7 s,g7 s,g7 s]
  refine⟨a,upd C a (.dK c),upd C a (.dK (AM c (Sum.inl j) v)),J,.inr ⟨a,o',c,W,J⟩,.inl ⟨c,.inl j,i3,J,by rw[P.length];exact Di s,e.symm⟩,?_⟩;exact q n _ G (((Q.trans B).trans g).trans (Go.write (Yb E))) w (M.mono (Z3 _) A)
end
def Pi{a:Env}{b:U A2p}{k:Nat}{p:Pos}{e:A2p}{l:Nat}:A3n [.Tuple b k p] e l a=pure aD:=by unfold A3n A3b;cases e<;>rfl
def Vj{a:Env}{o i:A2p}{p:Pos}{e:A2p}{l:Nat}:A3n [.Subscript o i p] e l a=pure aD:=by unfold A3n A3b;cases e<;>rfl
def Vk{a:Env}{b:U A2p}{k:Nat}{p:Pos}{e:A2p}(h:Pe e=aC):A2O [.Tuple b k p] e a=pure aB:=by unfold A2O;cases e<;>first | rfl | cases h
def Sj{a:Env}{x:Str}{b p:Pos}{c:A2p}{k:Nat}{e:A2p}(h:(a.scope.names.lookup x == O NameKind.local)=aD):A2O [.Tuple [.Name x b,c] k p] e a=pure aB:=by
 have g:(a.kindOf x == O NameKind.local)=aD:=h;cases e with
 | Tuple vs j l=>
   unfold A2O
   have d:∀ f:A2p->Option Str,f (.Name x b)=aB->((List.filterMap f [.Name x b,c]).length != [Expr.Name x b,c].length)=aC:=λf i=>by
    rw[A0Y i];have:=List.length_filterMap_le f [c];simp only[ZK,A0y]at this ⊢;rw[bne_iff_ne]
    lia
   dsimp only;split
   ·rfl
   ·split
    ·rfl
    ·rw[d _ (by show(if (a.kindOf x == O NameKind.local&&_)=aC then O x else aB)=aB;rw[g];rfl),A2c];rfl
 | _=>rfl
def Vl{a:Env}{o i:A2p}{p:Pos}{e:A2p}:A2O [.Subscript o i p] e a=pure aB:=by unfold A2O;cases e<;>rfl
def Vm{c:Env}{x y:Str}{e d j f:Pos}{k l:Nat}{a b:A2p}(m:c.scope.kind = .function)(h:ST c.scope x y e d=aC)(n:f9 a=aC)(o:f9 b=aC)(p:([a,b].all (foldedForSure 8))=aD)(q:([a,b].all (A5c 8))=aD):
 A2O [.Tuple [.Name x e,.Name y d] k j] (.Tuple [a,b] l f) c=pure (O [x,y]):=by
 have g:c.blockKind = .function:=by unfold Env.blockKind;rw[m];rfl
 unfold ST at h;simp only[Yc,bQ,Yx,beq_eq_false_iff_ne]at h;obtain⟨⟨⟨r,s⟩,t⟩,i⟩:=h;have u:c.kindOf x=O .local:=r;have v:c.kindOf y=O .local:=s
 have w:([x,y]:U Str).eraseDups.length=2:=by
  have:(y == x)=aD:=by rw[beq_eq_false_iff_ne];exact λz=>i z.symm
  rw[List.eraseDups_cons,ZC,this];rfl
 unfold A2O;simp only[ZK,A0y,g,p,q,List.head?_cons,A0e,A14,show Expr.pos (.Name x e)=e from J,show Expr.pos (.Name y d)=d from J,A0u,List.filterMap_nil,u,v,t];refine(iG (by decide)).trans ((iG (λz=>?_)).trans ?_)
 ·simp only[Zn,A2e,A10,ZU]at z;rcases z with z | z
  ·cases a<;>first | (cases z;done) | cases n
  ·cases b<;>first | (cases z;done) | cases o
 ·rw[show(O NameKind.local == O NameKind.local&&d.line == d.line)=aC by simp];simp only[if_true];refine(iG (by rw[w];simp)).trans ?_;refine(iG (by simp)).trans ((iG (by simp)).trans J)
def Hg{t:WT}{a b:WS}(mt:MonoT t)(e:MonoS a)(f:MonoS b):MonoS (λD d S=>t d S λc S1=>if c=aC then a D d S1 else b D d S1):=λD g d S l h=>mt _ _ _ _ (λc S1 q=>n8 (λq=>e.go q l) (λq=>f.go q l) q) h
section
variable{T:U Str}{Δ:Nat->Sn}{X:Cx}{N:U Str}{sc:A2D}
def Tz{a:Env}{e:A2p}(h:f9 e=aC):(A2Z [e] a).map (·.2)=[assign e a]:=by cases e<;>first | rfl | cases h
def JS{a:Env}{o i:A2p}{p:Pos}(h:u8 i=aC):∀ v,assign (.Subscript o i p) a v=(do
 let b <- holding [v] (eval o a)
 let c <- holding [v,b] (eval i a)
 standAt p
 holding [v,b,c] (setItem b c v)
 release [v,b,c] []):=λv=>by cases i<;>first | rfl | cases h
def Sk{i:A2p}(h:u8 i=aC):∀ b c a,augStore i b c a=(do holding [a,b,c] (setItem b c a);release [a,b,c] [];pure .next):=λ_ _ _=>by cases i<;>first | rfl | cases h
def Mg{a:A2D}{b:A2p}{x:Str}{c:Pos}(h:E2 a b x c=aC):a.names.lookup x=O .local:=by
 unfold E2 at h;cases hi:E1 b with
 | none=>rw[hi]at h;cases h
 | some s=>rw[hi]at h;simp only[Yc,bQ]at h;exact h.1.1
def Mh(C:Cok T Δ X N.length N sc)(B:sc.kind = .function){t:Tg}{e:Ex}{h b:A2p}{k:Pos}(c:Am N.length N sc t h=aC)(E:j6 T N sc e b=aC)(V:f9 h=aC)(a:Vg sc h b=aC):PS X (.Assign [h] b k) (liftS X.K λD w S=>(wEx Δ e).1 w S λx S1=>wTg t x w λr=>D.nx r S1):=by
 have g:=f6 e b C E;unfold Vg at a;cases hv:D6 h with
 | none=>
   rw[hv]at a;rw[Yc]at a;obtain⟨G,f⟩:=A0i.mp a.1;obtain⟨j,p,rfl⟩:=BO f
   have H:A2O [.Tuple G j p] b X.env=pure aB:=by
    rcases(ZU _ _).mp a.2 with z | z
    ·exact Vk z
    ·unfold Ty at z;replace z:=c7 z;obtain⟨I,s,z⟩:=z;replace z:=c7 z;obtain⟨W,u,z⟩:=z;replace z:=c7 z;obtain⟨y,L,z⟩:=z;rw[s]at f;cases f;rw[Bq u,C0 L];exact Sj (by rw[C.hs];simpa using z)
   exact AA _ (NG g.pe (AG C t _ c) Pi H (Tz J)) (Sc g.m)
 | some M=>
   rw[hv]at a;have P:=C0 hv;obtain⟨x,v⟩:=M;subst P;cases t with
   | tup I=>rw[Am]at c;cases c
   | nm i=>
     rw[Am]at c;have c:(decide (i<N.length)&&decide (N[i]?=O x)&&loc sc x)=aC:=c;simp only[Yc,dQ]at c;obtain⟨⟨Q,A⟩,d⟩:=c;unfold loc at d;simp only[ZU,bQ]at d;have l:X.N.Nodup:=by rw[C.hN];exact C.nd
     have n:X.N[i]?=O x:=by rw[C.hN];exact A
     have o:Loc X.env.scope x:=by rw[C.hs];exact d
     have R:X.fn x=aC\/X.env.scope.names.lookup x=O .local:=by
      rw[C.hs];rcases d with d | d
      ·exact .inr d
      ·exact .inl (C.fn i x Q A d)
     have q:X.env.scope.kind = .function:=by rw[C.hs];exact B
     cases hsw:E2 sc b x v with
     | false=>exact AA _ (US l n o g.pe (by rw[Kc q,C.hs,hsw]) R) (Hd g.m)
     | true=>
       have a:(!E2 sc b x v||isCmp b)=aC:=a;rw[hsw,Bool.not_true,A25]at a;exact AA _ (g.cg a i x v k l n (by rw[C.hs];exact Mg hsw) (by rw[Kc q,C.hs,hsw])) (Hd g.m)
mutual
theorem Pj(C:Cok T Δ X N.length N sc)(hp:A4L (A2q X.prog X.w) X.A X.env X.xe)(nx:∀ e s,¬ X.xe e s)(hk:sc.kind = .function):∀(s:Stm) (r:A2V),Xh T N sc s r=aC->GoodS X r (wSt Δ s)
 | .asg t e,r,h=>by
   replace h:=c7 h;obtain⟨v,f,h⟩:=h;replace h:=c7 h;obtain⟨rt,n,h⟩:=h;obtain⟨c,rfl⟩:=DT f;simp only[Yc]at h;obtain⟨⟨⟨Q,L⟩,h3⟩,M⟩:=h;rw[w6 n];exact⟨Mh C hk Q L h3 M,He (f6 e _ C L).m⟩
 | .par i j a b,r,h=>by
   replace h:=c7 h;obtain⟨v,f,h⟩:=h;replace h:=c7 h;obtain⟨rt,n,h⟩:=h;replace h:=c7 h;obtain⟨ts,a0,h⟩:=h;replace h:=c7 h;obtain⟨nn,a1,h⟩:=h;replace h:=c7 h;obtain⟨vs,a2,h⟩:=h;replace h:=c7 h;obtain⟨ab,a3,h⟩:=h;replace h:=c7 h;obtain⟨x,a4,h⟩:=h;replace h:=c7 h;obtain⟨y,a5,h⟩:=h;obtain⟨c,rfl⟩:=DT f;simp only[Yc,dQ,Yx]at h;obtain⟨⟨⟨⟨⟨⟨⟨⟨⟨hx,hy⟩,a6⟩,P⟩,Q⟩,L⟩,h3⟩,M⟩,h5⟩,h6⟩:=h;obtain⟨j1,p1,e1⟩:=BO a0;obtain⟨j2,p2,I⟩:=BO a2;rw[w6 n,e1,Bq a1,I,Bq a3,C0 a4,C0 a5];have R:=f6 a _ C Q;have p:=f6 b _ C L;have K:=P;unfold ST at K;simp only[Yc,bQ]at K;have a7:X.env.scope.kind = .function:=by rw[C.hs];exact hk
   refine⟨AA _ (UT (i:=i) (j:=j) C.calm (by rw[C.hN];exact C.nd) (by rw[C.hN];exact hx) (by rw[C.hN];exact hy) a6 (by rw[C.hs];exact K.1.1.1) (by rw[C.hs];exact K.1.1.2) (n0 R.pe (n0 p.pe A7 (i0 M)) (i0 h3)) (Vm a7 (by rw[C.hs];exact P) h3 M h5 h6) Pi) (Sf R.m p.m),?_⟩;exact λD D' G S l h=>R.m _ _ _ _ (λx S1 q=>p.m _ _ _ _ (λy S2 q=>l.nx _ _ q) q) h
 | .put o i e,r,h=>by
   replace h:=c7 h;obtain⟨v,f,h⟩:=h;replace h:=c7 h;obtain⟨rt,n,h⟩:=h;replace h:=c7 h;obtain⟨oi,B,h⟩:=h;obtain⟨c,rfl⟩:=DT f;obtain⟨p2,I⟩:=BP B;simp only[Yc]at h;rw[w6 n,I];have E:=f6 o _ C h.1.1.1;have u:=f6 i _ C h.1.1.2;have d:=f6 e _ C h.1.2;refine⟨AA _ (NG d.pe (UR E.pe u.pe GZ (JS h.2)) Vj Vl (Tz J)) (Sh E.m u.m d.m),?_⟩;exact λD D' G S l h=>d.m _ _ _ _ (λv S1 q=>E.m _ _ _ _ (λx S2 q=>u.m _ _ _ _ (λy S3 q=>E3 (λS4 q=>l.nx _ _ q) q) q) q) h
 | .augS o i e,r,h=>by
   replace h:=c7 h;obtain⟨v,f,h⟩:=h;replace h:=c7 h;obtain⟨oi,B,h⟩:=h;obtain⟨c,rfl⟩:=SU f;obtain⟨p2,I⟩:=BP B;simp only[Yc]at h;rw[Pg h.1.1.1.1,I];have E:=f6 o _ C h.1.1.1.2;have u:=f6 i _ C h.1.1.2;have d:=f6 e _ C h.1.2;refine⟨AA _ (Qy E.pe u.pe Vi d.pe UU GZ (Sk h.2)) (Si E.m u.m d.m),?_⟩;exact λD D' G S l h=>E.m _ _ _ _ (λx S1 q=>u.m _ _ _ _ (by rintro y S2 ⟨k,j,xs,a,e1,I,Q,L,q⟩;exact⟨k,j,xs,a,e1,I,Q,L,d.m _ _ _ _ (by rintro v S4 ⟨b,ys,e1,M,h5,q⟩;exact⟨b,ys,e1,M,h5,l.nx _ _ q⟩) q⟩) q) h
 | .dput o i e,r,h=>by
   replace h:=c7 h;obtain⟨v,f,h⟩:=h;replace h:=c7 h;obtain⟨rt,n,h⟩:=h;replace h:=c7 h;obtain⟨oi,B,h⟩:=h;obtain⟨c,rfl⟩:=DT f;obtain⟨p2,I⟩:=BP B;simp only[Yc]at h;rw[w6 n,I];have E:=f6 o _ C h.1.1.1;have u:=f6 i _ C h.1.1.2;have d:=f6 e _ C h.1.2;have:=C.un;refine⟨AA _ (Ni (by lia) E.pe u.pe d.pe (by unfold A3b;cases v.2<;>rfl)) (Ph E.m u.m d.m),?_⟩;exact λD D' G S l h=>d.m _ _ _ _ (λv S1 q=>E.m _ _ _ _ (λx S2 q=>u.m _ _ _ _ (λy S3 q=>FJ (λS4 q=>l.nx _ _ q) q) q) q) h
 | .expr e,r,h=>by
   replace h:=c7 h;obtain⟨re,V,h⟩:=h;obtain⟨c,rfl⟩:=SW V;simp only[Yc]at h;have d:=f6 e _ C h.1
   have hs:A3b re aB c.line X.env=pure aD:=by
    have:=h.2;unfold A3b;cases re<;>first | rfl | (unfold E1 at this;cases this)
   refine⟨AA _ (Qv d.pe hs) ?_,λD D' G S l h=>d.m _ _ _ _ (λx S1 q=>l.nx _ _ q) h⟩;rintro D σ H ⟨as,G,S,ok,en,h⟩;exact⟨as,G,S,ok,en,d.m _ _ _ _ (λx S1 q a8 H1 v g1 a9 rv=>q a8 H1 σ g1 a9 (en.mono g1.pre (g1.ku ok))) h⟩
 | .iff t a b,r,h=>by
   replace h:=c7 h;obtain⟨v,f,h⟩:=h;obtain⟨c,rfl⟩:=SX f;simp only[Yc]at h;have W:=f6 t _ C h.1.1;have R:=BJ C hp nx hk a _ h.1.2;have p:=BJ C hp nx hk b _ h.2;exact⟨AA _ (WG W.pt R.ps p.ps) (Vh W.mt R.m p.m),Hg W.mt R.m p.m⟩
 | .loop g it b,r,h=>by
   replace h:=c7 h;obtain⟨v,f,h⟩:=h;obtain⟨c,rfl⟩:=SY f;simp only[Yc,ZW]at h;obtain⟨⟨⟨⟨Q,L⟩,h3⟩,M⟩,h5⟩:=h;rw[h5];have u:=AN it _ _ C L;have p:=BJ C hp nx hk b _ M;refine⟨AA _ (UV hp C.calm u.pi (AG C g _ Q) p.ps (v3 h3)) (Sd u.m p.m),?_⟩;exact λD D' G S l h=>u.m _ _ _ _ (λb0 xs S1 q=>C1 p.m xs l _ _ q) h
 | .whl t b,r,h=>by
   replace h:=c7 h;obtain⟨v,f,h⟩:=h;obtain⟨c,rfl⟩:=SZ f;simp only[Yc,ZW]at h;rw[h.2];have W:=f6 t _ C h.1.1;have p:=BJ C hp nx hk b _ h.1.2;exact⟨AA _ (NI hp W.pt p.ps) (Se W.mt p.m),Hf W.mt p.m⟩
 | .ret e,r,h=>by
   replace h:=c7 h;obtain⟨o,ho,h⟩:=h;replace h:=c7 h;obtain⟨re,V,h⟩:=h;obtain⟨c,rfl⟩:=Sa ho;rw[V];have d:=f6 e _ C h;exact⟨AA _ (UO d.pe) (by rintro D σ H ⟨as,G,S,ok,en,h⟩;exact⟨as,G,S,ok,en,h⟩),λD D' G S l h=>d.m _ _ _ _ l.rt h⟩
 | .no,r,h=>⟨λ_ _ _ _ _ _ h=>let ⟨_,_,_,_,_,z⟩:=h;z.elim,λ_ _ _ _ _ h=>h⟩
theorem BJ(C:Cok T Δ X N.length N sc)(a:A4L (A2q X.prog X.w) X.A X.env X.xe)(b:∀ e s,¬ X.xe e s)(c:sc.kind = .function):∀(s:U Stm) (r:U A2V),Cg T N sc s r=aC->GoodSs X r (wSs Δ s)
 | [],r,h=>by
   rw[Cg,ZW]at h;subst h;exact JR
 | s::d,r,h=>by
   rw[Cg]at h;replace h:=c7 h;obtain⟨x,f,h⟩:=h;rw[Yc]at h;rw[B0 f];have:=Hc (Pj C a b c s x h.1) (BJ C a b c d _ h.2);rw[wSs];exact this
end
end
mutual
theorem c8{y:Nat->Sn}(j:∀ f,MonoN (y f)):∀(e:Ex),Mono (wEx y e).1/\MonoT (wEx y e).2
 | .var i=>⟨.var,.tru .var⟩
 | .c x=>⟨.c,.tru .c⟩
 | .op o a b=>have m:Mono _ := .two (s:=sOp o) KJ (c8 j a).1 (c8 j b).1;⟨m,.tru m⟩
 | .cmp o a b=>have m:Mono _ := .two (s:=BN o) AU (c8 j a).1 (c8 j b).1;⟨m,.bl m⟩
 | .chn o p a b c=>have m:=HB (o:=o) (p:=p) (c8 j a).1 (c8 j b).1 (c8 j c).1;⟨m,.bl m⟩
 | .and a b=>⟨.and (c8 j a).1 (c8 j b).1,.and (c8 j a).2 (c8 j b).2⟩
 | .or a b=>⟨.or (c8 j a).1 (c8 j b).1,.or (c8 j a).2 (c8 j b).2⟩
 | .not a=>⟨.not (c8 j a).1,.not (c8 j a).2⟩
 | .ife t a b=>⟨.ifE (c8 j t).2 (c8 j a).1 (c8 j b).1,λ_ _ _ _ _ h=>h⟩
 | .tup r=>have m:Mono _ := .n .tup (BK j r);⟨m,.tru m⟩
 | .lst r=>have m:Mono _ := .n .lst (BK j r);⟨m,.tru m⟩
 | .ix a b=>have m:Mono _ := .two .ix (c8 j a).1 (c8 j b).1;⟨m,.tru m⟩
 | .slc a C D=>have m:Mono _:=(λG S P H i h=>(c8 j a).1 _ _ _ _ (λx S1 h=>(g8 j C).1 _ _ _ _ (λl S2 h=>(g8 j D).1 _ _ _ _ (λk I h=>Du i h) h) h) h:Mono (VJ _ _ _));⟨m,.tru m⟩
 | .call f r=>have m:Mono _ := .n (j f) (BK j r);⟨m,.tru m⟩
 | .bi b r=>have m:Mono _ := .n (s:=sBi b) .bi (BK j r);⟨m,.tru m⟩
 | .mt E a r=>have m:Mono _:=Mono.mt (m:=E) (c8 j a).1 (BK j r);⟨m,.tru m⟩
 | .comp own z js g u t e=>have m:Mono _:=Mono.cG (k:=own.length) (js:=js) (g:=g) (w9 j u) (g8 j t).2 (Ao (c8 j e).1) (b0:=[]) (fin:=Rn SO.lst) (λ_ _ i _ _=>i _ _);⟨m,.tru m⟩
 | .srtsc2 own z js g u t A w B e=>have m:Mono _:=Mono.cG (k:=own.length) (js:=js) (g:=g) (w9 j u) (g8 j t).2 (BG (g:=A) (w9 j w) (g8 j B).2 (Ap (c8 j e).1)) (b0:=[]) (fin:=Gq) (λ_ _ i _ _ q=>⟨q.1,i _ _ q.2⟩);⟨m,.tru m⟩
 | .comp2 own z js g u t A w B e=>have m:Mono _:=Mono.cG (k:=own.length) (js:=js) (g:=g) (w9 j u) (g8 j t).2 (BG (g:=A) (w9 j w) (g8 j B).2 (Ao (c8 j e).1)) (b0:=[]) (fin:=Rn SO.lst) (λ_ _ i _ _=>i _ _);⟨m,.tru m⟩
 | .tyc t=>⟨.c,.tru .c⟩
 | .lrng1 a=>have m:=Dv (c8 j a).1;⟨m,.tru m⟩
 | .lrng2 a b=>have m:=Dw (c8 j a).1 (c8 j b).1;⟨m,.tru m⟩
 | .set0=>⟨D2,.tru D2⟩
 | .sadd a e=>have m:=FB (c8 j a).1 (c8 j e).1;⟨m,.tru m⟩
 | .max1 a=>have m:=FC (c8 j a).1;⟨m,.tru m⟩
 | .dnewl=>⟨CM,.tru CM⟩
 | .setdl d e v=>have m:=Dx (c8 j d).1 (c8 j e).1 (c8 j v).1;⟨m,.tru m⟩
 | .dgetl a b=>have m:Mono _ := .two CL (c8 j a).1 (c8 j b).1;⟨m,.tru m⟩
 | .srtu a=>have m:=FG (c8 j a).1;⟨m,.tru m⟩
 | .maxd a d=>have m:=FD (c8 j a).1 (c8 j d).1;⟨m,.tru m⟩
 | .dzip a b=>have m:=FF (c8 j a).1 (c8 j b).1;⟨m,.tru m⟩
 | .dctl a=>have m:=FE (c8 j a).1;⟨m,.tru m⟩
 | .srtsc own z js g u t e=>have m:Mono _:=Mono.cG (k:=own.length) (js:=js) (g:=g) (w9 j u) (g8 j t).2 (Ap (c8 j e).1) (b0:=[]) (fin:=OX) (λ_ _ i _ _ q=>⟨q.1,i _ _ q.2⟩);⟨m,.tru m⟩
 | .dget a b=>have m:Mono _ := .two D3 (c8 j a).1 (c8 j b).1;⟨m,.tru m⟩
 | .no=>⟨λ_ _ _ _ _ h=>h,λ_ _ _ _ _ h=>h⟩
theorem BK{c:Nat->Sn}(a:∀ f,MonoN (c f)):∀(b:Exs),MonoA (Gs c b)
 | .nil => .nil
 | .cons e b => .cons (c8 a e).1 (BK a b)
theorem g8{b:Nat->Sn}(a:∀ f,MonoN (b f)):∀(o:Eo),MonoO (wEo b o).1/\MonoT (wEo b o).2
 | .no=>⟨.no,λ_ _ _ _ i q=>i _ _ q⟩
 | .yes e=>⟨.yes (c8 a e).1,(c8 a e).2⟩
theorem w9{r:Nat->Sn}(c:∀ f,MonoN (r f)):∀(s:Itb),MonoI (Ec r s)
 | .seq e=>λd S P g i h=>(c8 c e).1 _ _ _ _ (by rintro x S1 ⟨m,e,q⟩;exact⟨m,e,i _ _ _ q⟩) h
 | .rng1 a=>λd S P g i h=>(c8 c a).1 _ _ _ _ (by rintro x S1 ⟨j,e,z,q⟩;exact⟨j,e,z,i _ _ _ q⟩) h
 | .rng2 a b=>λd S P g i h=>(c8 c a).1 _ _ _ _ (λx S1 h=>(c8 c b).1 _ _ _ _ (by rintro y S2 ⟨l,j,e,n,z,q⟩;exact⟨l,j,e,n,z,i _ _ _ q⟩) h) h
 | .zipX a b=>λd S P g i h=>(c8 c a).1 _ _ _ _ (λx S1 h=>(c8 c b).1 _ _ _ _ (by rintro y S2 ⟨k,m,t,e,z,n,l,q⟩;exact⟨k,m,t,e,z,n,l,i _ _ _ q⟩) h) h
 | .enum e=>λd S P g i h=>(c8 c e).1 _ _ _ _ (by rintro x S1 ⟨m,e,q⟩;exact⟨m,e,i _ _ _ q⟩) h
 | .dtk e=>λd S P g i h=>(c8 c e).1 _ _ _ _ (by rintro x S1 ⟨k,p,e,u,q⟩;exact⟨k,p,e,u,λo v=>i _ _ _ (q o v)⟩) h
end
mutual
theorem Sl{r:Nat->Sn}(c:∀ f,MonoN (r f)):∀(s:Stm),MonoS (wSt r s)
 | .asg t e=>by exact He (c8 c e).1
 | .par i j a b=>by exact λD d m S l h=>(c8 c a).1 _ _ _ _ (λx S1 q=>(c8 c b).1 _ _ _ _ (λy S2 q=>l.nx _ _ q) q) h
 | .put o i e=>by exact λD d m S l h=>(c8 c e).1 _ _ _ _ (λv S1 q=>(c8 c o).1 _ _ _ _ (λx S2 q=>(c8 c i).1 _ _ _ _ (λy z q=>E3 (λu q=>l.nx _ _ q) q) q) q) h
 | .augS o i e=>by exact λD d m S l h=>(c8 c o).1 _ _ _ _ (λx S1 q=>(c8 c i).1 _ _ _ _ (by rintro y S2 ⟨k,j,n,a,p,A,B,C,q⟩;exact⟨k,j,n,a,p,A,B,C,(c8 c e).1 _ _ _ _ (by rintro v u ⟨b,E,p,G,H,q⟩;exact⟨b,E,p,G,H,l.nx _ _ q⟩) q⟩) q) h
 | .dput o i e=>by exact λD d m S l h=>(c8 c e).1 _ _ _ _ (λv S1 q=>(c8 c o).1 _ _ _ _ (λx S2 q=>(c8 c i).1 _ _ _ _ (λy z q=>FJ (λu q=>l.nx _ _ q) q) q) q) h
 | .expr e=>by exact λD d m S l h=>(c8 c e).1 _ _ _ _ (λx S1 q=>l.nx _ _ q) h
 | .iff t a b=>by exact Hg (c8 c t).2 (i9 c a) (i9 c b)
 | .loop g I b=>by exact λD d m S l h=>w9 c I _ _ _ _ (λw n S1 q=>C1 (i9 c b) n l _ _ q) h
 | .whl t b=>by exact Hf (c8 c t).2 (i9 c b)
 | .ret e=>by exact λD d m S l h=>(c8 c e).1 _ _ _ _ l.rt h
 | .no=>by exact λD d m S l h=>h
theorem i9{b:Nat->Sn}(a:∀ f,MonoN (b f)):∀(s:U Stm),MonoS (wSs b s)
 | []=>by exact λD d e S l h=>l.nx _ _ h
 | s::c=>by exact λD d e S l h=>(Sl a s).go (D:={D with nx:=wSs b c D}) h ⟨λg i q=>(i9 a c) _ _ _ _ l q,l.rt,l.bk,l.ct⟩
end
def Sm{P:U F->Prop}{n:Nat}(h:∀ a b,b.length=n->P (a::b)):∀ b:U F,b.length=n+1->P b
 | a::b,e=>h a b (Nat.succ.inj e)
def E4{P:U F->Prop}(h:∀ a,P [a]):∀ b:U F,b.length=1->P b:=Sm λa b e=>ZT.mp e▸h a
def BQ{P:U F->Prop}(h:∀ a b,P [a,b]):∀ c:U F,c.length=2->P c:=Sm λa=>E4 (P:=λc=>P (a::c)) (h a)
def Pk{P:U F->Prop}(h:∀ a b c,P [a,b,c]):∀ d:U F,d.length=3->P d:=Sm λa=>BQ (P:=λd=>P (a::d)) (h a)
def Xj{P:U F->Prop}(h:∀ a b c d,P [a,b,c,d]):∀ e:U F,e.length=4->P e:=Sm λa=>Pk (P:=λe=>P (a::e)) (h a)
structure Df where
 name:Str
 st:A2V
 ps:List Str
 N:List Str
 body:List Stm
def p8(Q:QE):EndsS:=⟨λ_ S'=>Q .non S',Q,λ_ _=>False,λ_ _=>False⟩
def Pm(n:Nat)(xs:U SV):EnvS:=xs.map O++Yv (n - xs.length) aB
noncomputable def j7(Δ:Nat->Sn)(D:Df):Sn:=λxs S Q=>xs.length=D.ps.length/\wSs Δ D.body (p8 Q) (Pm D.N.length xs) S
noncomputable def W(prog:U Df):Nat->Nat->Sn
 | 0,_=>λ_ _ _=>False
 | d+1,f=>match prog[f]? with
   | some D=>j7 (W prog d) D
   | none=>λ_ _ _=>False
def Pn{b:Nat->Sn}(a:∀ f,MonoN (b f))(D:Df):MonoN (j7 b D):=λc S P d i h=>⟨h.1,(i9 a D.body).go h.2 ⟨λ_ _ q=>i _ _ q,i,λ_ _ q=>q,λ_ _ q=>q⟩⟩
theorem E5{prog:U Df}:∀(d f:Nat),MonoN (W prog d f)
 | 0,f=>λ_ _ _ _ _ h=>h
 | d+1,f=>by
   unfold W;cases prog[f]? with
   | some D=>exact Pn (E5 d) _
   | none=>exact λ_ _ _ _ _ h=>h
def fnB(N ps:U Str)(a:A2D):Bool:=decide (a.kind = .function)&&!a.isCoroutine&&!a.isGenerator&&decide N.Nodup&&decide (N.take ps.length=ps)&&ps.all (loc a)&&a.names.all (λy=>!decide (y.2 = .free))
def Vn{N a:U Str}{b:A2D}(h:fnB N a b=aC):FnScope N a b:=by unfold fnB at h;simp only[Yc,dQ,Yx,ZJ,decide_eq_false_iff_not]at h;obtain⟨⟨⟨⟨⟨⟨c,d⟩,e⟩,f⟩,g⟩,i⟩,j⟩:=h;refine⟨c,d,e,f,g,λx k=>?_,j⟩;have:=i x k;unfold loc at this;simpa using this
noncomputable def So(T:U Str)(D:Df):Bool:=fnB D.N D.ps (defScope D.st)&&Cg (T++[D.name]) D.N (defScope D.st) D.body (defBody D.st)
structure Bl(K:YZ)(mg:Str->Option F):Prop where
 ns:NsK K mg
 bl:∀ b:BI,mg b.name=aB
 rng:mg "range"=aB
 enm:mg "enumerate"=aB
 rvs:mg "reversed"=aB
 zip:mg "zip"=aB
 sm0:mg "sum"=aB
 st0:mg "set"=aB
 dc0:mg "dict"=aB
 ty:∀ t:TyN,t ≠ .none->mg (Str.ofString t.nm)=aB
section
variable{P:A2r}{w:A2u}{K:YZ}{mg:Str->Option F}{base:A2y}
def Mi{c:U Y}{H:Hp}{N:U Str}{a:U V}{b:U SV}(r:RlAll K c H a b):EnvOk K c H (L2.start N a) (Pm N.length b):=by
 unfold L2.start Pm;rw[<-r.length];refine⟨by simp[r.length],λi x e=>?_⟩;by_cases d:i<a.length
 ·rw[Yw (by rw[YY,<-r.length];exact d),Yj]at e;rw[Yw (by simpa using d),Yj];cases hx:b[i]? with
  | none=>rw[hx]at e;cases e
  | some y=>
    rw[hx]at e;have:y=x:=by simpa using e
    subst this;obtain⟨v,f,g⟩:=r.get hx;exact⟨v,by rw[f];rfl,g⟩
 ·rw[ZQ (by rw[YY,<-r.length];lia),Zq]at e;split at e<;>cases e
def Sq{T:U Str}{d:Nat->Sn}{D:Df}{f:Y}{cdv:F}{k:Nat}{A:A2w}{outer:U Env}{s:A2m}{H:Hp}{E:XK}{CX:CXT}{o:A35}(i:o.code=cdv)(S:FnScope D.N D.ps (defScope D.st))(b:Room (k+1) (A.deeper (PyProof.Rows.envOfC D.name (defScope D.st) s.heap.objs.size f cdv)))
 (j:∀ c P,TabK K D.name c P->o.code = .ref c) (B:Bl K mg) (a:∀ f x,T[f]?=O x->∃ l,Cal P w K mg base k x l (spS K (d f))) (m:∀ f,MonoN (d f)):Cok (T++[D.name]) d (IS CX P w K mg base D.N D.name (defScope D.st) f cdv A outer s H E) D.N.length D.N (defScope D.st) where
 hN:=J
 hs:=J
 nd:=S.nd
 calm:=J
 fn:=λ_ _ _ _ _=>rfl
 un:=by have:=b.un;show(A.deeper _).units+102<cLine;lia
 bl:=B.bl
 rng:=B.rng
 enm:=B.enm
 rvs:=B.rvs
 zip:=B.zip
 sm0:=B.sm0
 st0:=B.st0
 dc0:=B.dc0
 ty:=B.ty
 gd:=b.gd
 ns:=B.ns
 me:=λx n _=>by
  have e:D.name=x:=by simpa using n
  subst e;exact⟨J,λc P h=>i▸j c P h,by have:=b.dp;show(A.deeper _).depth+2<A3G;lia,by have:=b.un;show(A.deeper _).units+110<cLine;lia⟩
 call:=λg x p n=>let ⟨l,c⟩:=a g x (by rwa [Yw (by rw[Yd]at p;exact Nat.lt_of_succ_lt_succ p)]at n);⟨k,l,c,b.mono (A0l k),λ_=>b⟩
 mono:=m
def Po{T:U Str}{Δ:Nat->Sn}{D:Df}{f:Y}{e:A35}{k:Nat}(F:Fun K D.name D.name D.st f e)(i:∀ c P,TabK K D.name c P->e.code = .ref c)(d:So T D=aC)(B:Bl K mg)(a:∀ f x,T[f]?=O x->∃ t,Cal P w K mg base k x t (spS K (Δ f)))(b:∀ f,MonoN (Δ f)):FnOk P w K mg base CX0 (k+2) f e D.ps (spS K (j7 Δ D)):=by
 unfold So at d;rw[Yc]at d;have S:=Vn d.1;obtain⟨X,od,kV,u,pm,an,cdv,ct,v,rfl,y,j⟩:=F.ex;refine We y j S (λz H Q E h=>?_) (λA outer s H z Q E G h=>?_)
 ·obtain⟨n,S,I,o,r,p,_⟩:=h;rw[r.length];exact p
 ·have C:Cok (T++[D.name]) Δ (IS CX0 P w K mg base D.N D.name (defScope D.st) f cdv A outer s H E).nox D.N.length D.N (defScope D.st):=
   have C:=Sq (CX:=CX0) (outer:=outer) (s:=s) (H:=H) (E:=E) (cdv:=cdv) J S G i B a b
   ⟨C.hN,C.hs,C.nd,C.calm,C.fn,C.un,C.bl,C.rng,C.enm,C.rvs,C.zip,C.sm0,C.st0,C.dc0,C.ty,C.gd,C.ns,C.me,C.call,C.mono⟩
  refine⟨_,((BJ C PassesOwn.never (λ_ _ h=>h) S.kind D.body _ d.2).ps).nox,?_⟩;obtain⟨n,S,I,o,r,p,h⟩:=h;refine⟨n,_,S,o,Mi r,(i9 b D.body).go h ⟨λL M q l R V g m W=>q l R _ g m (rl_non.mpr J),λx M q=>q,λ_ _ q=>q.elim,λ_ _ q=>q.elim⟩⟩
def Kg{x:Str}{f:Y}{d:Option Y}{g:Array (Option F)}{i:F}{b:A35}(a:PySem.W.nsIn K A2t x=O (O (.ref f)))(l:K.lookup f=O ⟨i,d,.func b,g⟩):∀ c P,TabK K x c P->b.code = .ref c:=by
 rintro c P ⟨h,_⟩;unfold PySem.W.tabIn at h;simp only[a,l]at h;split at h
 ·rename_i j e;split at h
  ·split at h
   ·cases h;exact e
   ·cases h
  ·cases h
 ·cases h
structure PIn(K:YZ)(mg:Str->Option F)(D:Df):Prop where
 ex:∃ f fd,Fun K D.name D.name D.st f fd/\(∀ c P,TabK K D.name c P->fd.code = .ref c)/\mg D.name=O (.ref f)/\PySem.W.keepIn K (.ref f)=aC/\Binds K fd D.ps []
theorem Kh{prog:U Df}(o:prog.all (So (prog.map (·.name)))=aC)(B:Bl K mg)(a:∀ D∈prog,PIn K mg D):∀(d f:Nat) (D:Df),prog[f]?=O D->Cal P w K mg base (2 * d) D.name D.ps (spS K (W prog d f))
 | 0,f,D,b=>by
   obtain⟨i,j,F,c,k,l,m⟩:=(a D (Yb b)).ex;refine⟨i,j,⟨λt H Q E h=>?_,λA n s H p y t Q E C G u I h=>?_⟩,k,l,m⟩<;>(obtain⟨_,_,_,_,_,z⟩:=h;exact z.elim)
 | d+1,f,D,b=>by
   obtain⟨i,j,F,c,k,l,m⟩:=(a D (Yb b)).ex;have e:W prog (d+1) f=j7 (W prog d) D:=by rw[W,b]
   rw[e]
   exact⟨i,j,Po F c (ZJ.mp o D (Yb b)) B (λg x q=>by
    rw[Yj]at q;obtain⟨r,v,rfl⟩:=Zh.mp q;exact⟨r.ps,Kh o B a d g r v⟩) (E5 d),k,l,m⟩
def Vo{prog:U Df}{d f:Nat}{H:Hp}{a:Y}{c:U Int}(b:W prog d f [.ro (c.map SV.int)] [] λx _=>x = .bl aC)(i:RD H)(j:SqL K H a (c.map V.int)):spS K (W prog d f) [.ref a] H (λv _=>v = .bl aC) λ_ _ _=>False:=by
 have l:FzL K H a (c.map V.int):=by
  rcases j with(h | ⟨o,h⟩) | h
  ·rcases i a with z | ⟨o,xs,z⟩<;>rw[h]at z<;>cases z
  ·exact .inl ⟨o,h⟩
  ·exact .inr h
 refine⟨[],[],_,⟨J,A1o,λk o a e=>by simp at e⟩,.cons (rl_ro.mpr ⟨a,_,J,l,RlAll.ints⟩) .nil,E5 d f _ _ _ _ (λx n e m p v g q r=>?_) b⟩;subst e;exact rl_bl.mp r
end
def c9{k:Nat}{S:Sto}{xs:U SV}(h:S[k]?=O (.lst xs)):Ai (.loc k) S=O xs:=by simp only[Ai,h]
def Pp{k:Nat}{S:Sto}{a:U Int}(h:S[k]?=O (.iset a)):Aj (.loc k) S=O a:=by simp only[Aj,h]
def Aq{k:Nat}{S:Sto}{a:U SV}(h:S[k]?=O (.lst a)):Aj (.loc k) S=aB:=by simp only[Aj,h]
def Ki{k:Nat}{S:Sto}{a:U SV}(h:S[k]?=O (.lst a)):OH (.loc k) S=O (!a.isEmpty):=by delta OH;dsimp only;rw[h]
def Pq{k:Nat}{S:Sto}{a:U SV}(h:S[k]?=O (.lst a)):tyS (.loc k) S=O .list:=by delta tyS;dsimp only;rw[h]
def ifT{b:Bool}{A B:Prop}(h:b=aC)(a:A):if b=aC then A else B:=by rw[iP h];exact a
def ifF{b:Bool}{A B:Prop}(h:b=aD)(a:B):if b=aC then A else B:=by rw[iG (by rw[h];decide)];exact a
def ifD{c A B:Prop}[Decidable c](a:c->A)(b:¬ c->B):if decide c=aC then A else B:=by
 by_cases h:c
 ·rw[iP (decide_eq_true h)];exact a h
 ·rw[iG (by simpa using h)];exact b h
def ifB{b:Bool}{A B:Prop}(a:b=aC->A)(c:b=aD->B):if b=aC then A else B:=by
 cases b with
 | true=>rw[iP J];exact a J
 | false=>rw[iG (by decide)];exact c J
def m8{S:Sto}{k:Nat}{o u:SO}(h:S[k]?=O o):(S.set k u)[k]?=O u:=Zf ((gM h).1)
def v7{S:Sto}{k j:Nat}{u:SO}(h:k≠j):(S.set k u)[j]?=S[j]?:=A01 h
def f7{S:Sto}{o:SO}:(S++[o])[S.length]?=O o:=Z9
def f8{S:Sto}{o u:SO}{k:Nat}(h:S[k]?=O u):(S++[o])[k]?=O u:=by rw[Yw ((gM h).1)];exact h
def FK{S:Sto}{o:SO}{k:Nat}(h:S[k]?=O o):k<S.length:=(gM h).1
structure TapeS(S:Sto)(t:Nat):Prop where
 ex:∃ a b:Int,S[t]?=O (.lst [.int a,.int b])/\0<=a/\0<=b/\b<2147483647
structure On(t:Nat)(S S':Sto):Prop where
 len:S.length<=S'.length
 keep:∀ k o,k≠t->S[k]?=O o->S'[k]?=O o
def On.refl(t:Nat)(S:Sto):On t S S:=⟨Ym _,λ_ _ _ h=>h⟩
def On.trans{t:Nat}{S d c:Sto}(a:On t S d)(b:On t d c):On t S c:=⟨Z6 a.len b.len,λk o n h=>b.keep k o n (a.keep k o n h)⟩
def On.push{t:Nat}{S b:Sto}{o:SO}(a:On t S b):On t S (b++[o]):=⟨by rw[Yd];have:=a.len;lia,λk u n h=>f8 (a.keep k u n h)⟩
def On.tape{t:Nat}{S b:Sto}{o:SO}(a:On t S b):On t S (b.set t o):=⟨by rw[ZH];exact a.len,λk u n h=>by rw[v7 (Ne.symm n)];exact a.keep k u n h⟩
def On.new{t k:Nat}{S b:Sto}{o:SO}(a:On t S b)(h:S.length<=k):On t S (b.set k o):=⟨by rw[ZH];exact a.len,λj u n c=>by
 rw[v7 (λz=>by have:=FK c;lia)];exact a.keep j u n c⟩
def TapeS.push{S:Sto}{t:Nat}{o:SO}(h:TapeS S t):TapeS (S++[o]) t:=by obtain⟨a,b,e,z⟩:=h.ex;exact⟨a,b,f8 e,z⟩
def TapeS.other{S:Sto}{t k:Nat}{o:SO}(h:TapeS S t)(n:k≠t):TapeS (S.set k o) t:=by obtain⟨a,b,e,z⟩:=h.ex;exact⟨a,b,by rw[v7 n];exact e,z⟩
def TapeS.lt{S:Sto}{t:Nat}(h:TapeS S t):t<S.length:=by obtain⟨_,_,e,_⟩:=h.ex;exact FK e
def n4{c:Sto->Prop}{g:Tg}{b:WS}{D:EndsS}(s:MonoS b)(I:Nat->EnvS->Sto->Prop){d:U SV}{a:EnvS}{S:Sto}(t:I 0 a S)(n:∀ i a S,I i a S->c S)
 (u:∀ i x a S,d[i]?=O x->I i a S->wTg g x a λk=>b {D with nx:=I (i+1),ct:=I (i+1),bk:=D.nx} k S) (v:∀ a S,I d.length a S->D.nx a S):AF c g b D d a S:=by
 have w:∀(j:U SV) (i:Nat) (a:EnvS) (S:Sto),d.drop i=j->i<=d.length->I i a S->AF c g b D j a S:=by
  intro j
  induction j with
  | nil=>
    intro i a S e A h
    have:i=d.length:=by
     have:=congrArg A1S e;rw[Zg,A0y]at this
     lia
    subst this;unfold AF;exact⟨n _ _ _ h,v _ _ h⟩
  | cons y j o=>
    intro i a S e A h
    have p:d[i]?=O y:=by
     rw[<-A1k,e];rfl
    have l:=(gM p).1;have r:d.drop (i+1)=j:=by rw[<-A1s,e];rfl
    unfold AF;refine⟨n _ _ _ h,y8 g (λk q=>?_) (u i y a S p h)⟩;exact s.go (D:={D with nx:=I (i+1),ct:=I (i+1),bk:=D.nx}) q ⟨λf m z=>o (i+1) f m r l z,λ_ _ z=>z,λ_ _ z=>z,λf m z=>o (i+1) f m r l z⟩
 exact w d 0 a S J (ZY _) t
def y9{c:Sto->Prop}{g:Tg}{b:WS}{D:EndsS}(f:MonoS b)(I:Nat->EnvS->Sto->Prop){d:U SV}{a:EnvS}{S:Sto}(j:I 0 a S)(k:∀ i a S,I i a S->c S)
 (l:∀ i x a S (E:EndsS),(∀ a S,I (i+1) a S->E.nx a S)->(∀ y S,D.rt y S->E.rt y S)->d[i]?=O x->I i a S->wTg g x a λe=>b E e S) (m:∀ a S,I d.length a S->D.nx a S):AF c g b D d a S:=
 n4 f I j k (λi x a S n o=>l i x a S {D with nx:=I (i+1),ct:=I (i+1),bk:=D.nx} (λ_ _ h=>h) (λ_ _ h=>h) n o) m
def BR{k:Type}{d:Sto->Prop}{g:Tg}{t:WT}{m:WM k}{o:EnvS}{Q:k->Sto->Prop}(mt:MonoT t)(z:Bs m)(I:Nat->k->Sto->Prop){e:U SV}{a:k}{S:Sto}(A:I 0 a S)(p:∀ i c S,I i c S->d S)
 (B:∀ i x c S,e[i]?=O x->I i c S->wTg g x o λf=>t f S λb S1=>if b=aC then m f c S1 (I (i+1)) else I (i+1) c S1) (C:∀ c S,I e.length c S->Q c S):wTG d g t m o Q e a S:=by
 have D:∀(j:U SV) (i:Nat) (c:k) (S:Sto),e.drop i=j->i<=e.length->I i c S->wTG d g t m o Q j c S:=by
  intro j
  induction j with
  | nil=>
    intro i c S n r h;obtain rfl:i=e.length:=A1V r (A1t.mp n);exact⟨p _ _ _ h,C _ _ h⟩
  | cons y j s=>
    intro i c S n r h;have u:e[i]?=O y:=by rw[<-A1k,n];rfl
    have l:=(gM u).1;have w:e.drop (i+1)=j:=by rw[<-A1s,n];rfl
    exact⟨p _ _ _ h,y8 g (λf q=>mt _ _ _ _ (λb S1 q=>n8 (λq=>z _ _ _ _ _ (λv S2 q=>s (i+1) _ S2 w l q) q) (λq=>s (i+1) _ S1 w l q) q) q) (B i y c S u h)⟩
 exact D e 0 a S J (ZY _) A
def i4{c:Sto->Prop}{g:Tg}{t:WT}{e:WE}{h:EnvS}{Q:U SV->Sto->Prop}(mt:MonoT t)(j:Mono e)(I:Nat->U SV->Sto->Prop){f:U SV}{S:Sto}(k:I 0 [] S)(l:∀ i a S,I i a S->c S)
 (m:∀ i x a S,f[i]?=O x->I i a S->wTg g x h λd=>t d S λb S1=>if b=aC then e d S1 λy S2=>a.length<big/\I (i+1) (a++[y]) S2 else I (i+1) a S1) (n:∀ a S,I f.length a S->Q a S):VL c g t e h Q f [] S:=BR mt (Ao j) I k l m n
def k0{a b:Int}{i:Nat}{x:SV}(h:(Av a b)[i]?=O x):x = .int (a+i)/\a+i<b:=by
 unfold Av at h
 have c:i<(b - a).toNat:=by
  have:=(gM h).1;simpa using this
 rw[Yj,ZZ c]at h;exact⟨(oj h).symm,by lia⟩
def l7{a b:Int}:(Av a b).length=(b - a).toNat:=by unfold Av;simp
def pairS(e:Nat×Nat):SV := .tup [.int e.1,.int e.2]
def U0:U Stm:=[.asg (.nm 2) vJ,.iff (.cmp .Lt vH (.bi .len (vA vG))) [.asg (.nm 2) (.ix vG vH)] [],.asg (.nm 3) kF,.ret kG]
noncomputable def U1:U Stm:=[.iff (.cmp .Gt kE vJ) [.asg (.nm 2) (.op .Mod kE vH),.put vG vJ (.op .FloorDiv kE vH),.ret vI] [],.put vG vK (.op .Mod (.op .Add (.op .Mult kC kB) (.c (.int 12345))) vX),.asg (.nm 3) (.op .Mod (.op .Mult kC (.op .Add (.op .Mod kC (.c (.int 1009))) vP)) (.c (.int 2147483629))),.ret (.op .Mod (.op .Mod (.op .Mult vL (.op .Add (.op .Mod vL (.c (.int 997))) vW)) (.c (.int 998244353))) vH)]
def t6(s:Sn):Prop:=∀{t:Nat} {m:Int} {S:Sto} {Q:QE},TapeS S t->0<m->m<1073741824->(∀(r:Int) (S':Sto),0<=r->r<m->TapeS S' t->On t S S'->S'.length=S.length->Q (.int r) S')->s [.loc t,.int m] S Q
def Pr(s:Sn):Prop:=∀{c:U Int} {k:Nat} {S:Sto} {Q:QE},c.length<=63->k<=1000->(∀ a b:Int,0<=a->0<=b->b<2147483647->Q (.loc S.length) (S++[.lst [.int a,.int b]]))->s [.ro (c.map SV.int),.int k] S Q
def b01(b:Bool):-(2 ^ 64)<(if b=aC then (1:Int) else 0)/\(if b=aC then (1:Int) else 0)<2 ^ 64:=by cases b<;>decide
def b00(b:Bool):0<=(if b=aC then (1:Int) else 0):=by cases b<;>decide
def Sr{Δ:Nat->Sn}{D:Df}(n:D.body=U1)(o:D.N.length=4)(p:D.ps.length=2):t6 (j7 Δ D):=by
 intro t m S Q T d s q;obtain⟨a,b,c,k,i,j⟩:=T.ex;unfold j7;rw[n,o];refine⟨p.symm,?_⟩;have l:∀ r g e:Int,0<=r->r<m->0<=g->0<=e->e<2147483647->Q (.int r) (S.set t (.lst [.int g,.int e])):=λr g e u v a0 b0 b1=>q r _ u v ⟨g,e,m8 c,a0,b0,b1⟩ (On.refl t S).tape (by rw[ZH]);refine⟨_,J,_,_,c9 c,J,_,J,ifD (λh=>?_) (λh=>?_)⟩
 ·refine⟨_,J,_,_,c9 c,J,_,J,d,?_⟩;refine⟨_,J,_,_,c9 c,J,_,J,⟨d,s⟩,_,J,_,_,c,J,_,J,?_⟩;exact l _ _ _ (A0n _ (by lia)) (A0a _ d) (Int.ediv_nonneg k (by lia)) i j
 ·refine⟨_,J,_,_,c9 c,J,.inr (by decide),show(0:Int)<2147483647 by decide,_,J,_,_,c,J,?_⟩;have w:0<=(b * 48271+12345) % 2147483647:=A0n _ (by decide);have x:(b * 48271+12345) % 2147483647<2147483647:=A0a _ (by decide);have f:(S.set t (.lst [.int a,.int ((b * 48271+12345) % 2147483647)]))[t]?=O (.lst [.int a,.int ((b * 48271+12345) % 2147483647)]):=m8 c;refine⟨_,J,_,_,c9 f,J,_,J,_,_,c9 f,J,show(0:Int)<1009 by decide,.inl ⟨by lia,by lia⟩,show(0:Int)<2147483629 by decide,?_⟩;have y:0<=((b * 48271+12345) % 2147483647 * ((b * 48271+12345) % 2147483647 % 1009+3)) % 2147483629:=A0n _ (by decide);have z:((b * 48271+12345) % 2147483647 * ((b * 48271+12345) % 2147483647 % 1009+3)) % 2147483629<2147483629:=A0a _ (by decide);refine⟨_,J,_,J,show(0:Int)<997 by decide,.inl ⟨by lia,by lia⟩,show(0:Int)<998244353 by decide,_,J,d,?_⟩;exact l _ _ _ (A0n _ (by lia)) (A0a _ d) k w x
def Ss{Δ:Nat->Sn}{D:Df}(e:D.body=U0)(f:D.N.length=4)(g:D.ps.length=2):Pr (j7 Δ D):=by
 intro a k S Q i j q;unfold j7;rw[e,f];refine⟨g.symm,?_⟩
 have b:∀ c:Int,wSs Δ [.asg (.nm 3) kF,.ret kG] (p8 Q) [O (.ro (a.map SV.int)),O (.int k),O (.int c),aB] S:=λc=>by
  refine⟨_,J,_,J,⟨by decide,by decide,by decide⟩,.inr (b01 _),?_⟩;refine⟨_,J,_,J,_,J,.inl ⟨by decide,by decide⟩,show(0:Int)<2147483647 by decide,.inr ⟨by decide,by decide⟩,show(0:Int)<2147483647 by decide,by show 2<=big;decide,?_⟩;refine q _ _ (Int.mul_nonneg (by split<;>lia) (b00 _)) (A0n _ (by decide)) (A0a _ (by decide))
 refine⟨_,J,_,J,_,J,_,J,ifD (λh=>?_) (λh=>b 0)⟩
 have d:k<a.length:=by
  have:((a.map SV.int).length:Int)=a.length:=by rw[YY]
  lia
 refine⟨_,J,_,J,_,_,J,j3 (v := .int a[k]) (by rw[Yj,Ya d];rfl),?_⟩;exact b _
def q1(kd:Nat):Stm:=(.asg (.nm 2) (.call kd (vB vG vY)))
def q2(kd:Nat):Stm:=(.asg (.nm 3) (.ix (.lst (vB (.call kd (vB vG vZ)) (.op .Add vZ (.call kd (vB vG (.c (.int 6))))))) (.bi .int (vA vH))))
def q3(kd:Nat):Stm:=(.asg (.nm 4) kD)
def q4(kd:Nat):Stm:=(.iff (.and (.cmp .Lt vI vP) (.cmp .Gt vL vK)) [.loop (.nm 5) (.rng1 (.call kd (vB vG (.op .Add (.op .Mult vT vL) vK)))) [.asg (.nm 6) (.call kd (vB vG vL)),.expr (.mt .append vM (vA (.tup (vB vO (.op .Mod (.op .Add (.op .Add vO vK) (.call kd (vB vG (.op .Sub vL vK)))) vL)))))]] [])
def q5(kd:Nat):Stm:=(.iff (.and (.cmp .Eq vI vP) (.cmp .Gt vL vT)) [.asg (.nm 4) (.op .Add (.comp ["_law_k"] ["_law_many"] [3] (.nm 0) (.rng1 vL) .no (.tup (vB vG (.op .Mod (.op .Add vG vK) vH)))) (.lst (vA (.tup (vB vJ (.op .Add (.call kd (vB vG (.op .Sub vL vK))) vK))))))] [])
def q6(kd:Nat):Stm:=(.iff (.and (.cmp .Eq vI vV) (.cmp .Gt vL vK)) [.asg (.nm 4) (.comp ["_law_k"] [] [] (.nm 0) (.rng2 vK vL) .no (.tup (vB vJ vG)))] [])
def q7(kd:Nat):Stm:=(.iff (.cmp .Eq vI vW) [.asg (.nm 3) (.bi .min (vB vL (.op .Add vW (.bi .int (vA vH))))),.loop (.nm 7) (.rng1 vL) [.expr kH]] [])
def q8(kd:Nat):Stm:=(.iff (.cmp .Eq vI (.c (.int 6))) [.asg (.nm 8) (.op .Add vK (.op .FloorDiv vL vT)),.loop (.nm 7) (.rng1 vR) [.expr (.mt .extend vM (vA (.comp ["_law_j"] ["_law_tape_here","_law_k"] [0,7] (.nm 0) (.rng2 vR vL) (.yes (.cmp .Gt (.call kd (vB vH vP)) vJ)) (.tup (vB vI vG)))))]] [])
def q9(kd:Nat):Stm:=(.iff (.cmp .Eq vI vZ) [.asg (.nm 3) (.op .Add vP (.op .FloorDiv vL vP)),.loop (.nm 7) (.rng1 vP) [.expr (.mt .extend vM (vA (.op .Mult kK (.op .Add vK (.call kd (vB vG vP))))))]] [])
def q10(kd:Nat):Stm:=(.ret (.tup (vB vL vM)))
def q7l(kd:Nat):Stm:=(.loop (.nm 7) (.rng1 vL) [.expr kH])
def q8l(kd:Nat):Stm:=(.loop (.nm 7) (.rng1 vR) [.expr (.mt .extend vM (vA (.comp ["_law_j"] ["_law_tape_here","_law_k"] [0,7] (.nm 0) (.rng2 vR vL) (.yes (.cmp .Gt (.call kd (vB vH vP)) vJ)) (.tup (vB vI vG)))))])
def q9l(kd:Nat):Stm:=(.loop (.nm 7) (.rng1 vP) [.expr (.mt .extend vM (vA (.op .Mult kK (.op .Add vK (.call kd (vB vG vP))))))])
def Ps(kd:Nat):U Stm:=[q1 kd,q2 kd,q3 kd,q4 kd,q5 kd,q6 kd,q7 kd,q8 kd,q9 kd,q10 kd]
structure Prs(n:Nat)(es:EE):Prop where
 en:∀ e∈es,e.1<n/\e.2<n/\e.1≠e.2
 len:es.length<=36
 few:n<=12
def E6(c:Bool->Bool)(s:Sn):Prop:=∀{t:Nat} {g:Bool} {S:Sto} {Q:QE},TapeS S t->(∀(n:Nat) (es:EE) (l:Nat) (S':Sto),Prs n es->(c g=aC->n<=6/\es.length<=12)->S'[l]?=O (.lst (es.map pairS))->S.length<=l->TapeS S' t->On t S S'->Q (.tup [.int n,.loc l]) S')->s [.loc t,.bl g] S Q
structure Ah(t:Nat)(S0 S:Sto)(l:Nat)(es:EE):Prop where
 tape:TapeS S t
 on:On t S0 S
 at':S[l]?=O (.lst (es.map pairS))
 new:S0.length<=l
 t0:t<S0.length
def Ah.ne{t l:Nat}{a S:Sto}{b:EE}(h:Ah t a S l b):l≠t:=by have:=h.new;have:=h.t0;lia
def Ah.draw{t l:Nat}{b S a:Sto}{c:EE}(h:Ah t b S l c)(T:TapeS a t)(O:On t S a):Ah t b a l c:=⟨T,h.on.trans O,O.keep _ _ h.ne h.at',h.new,h.t0⟩
theorem Ah.push{t l:Nat}{a S:Sto}{es:EE}{o:SO}(h:Ah t a S l es):Ah t a (S++[o]) l es:=⟨h.tape.push,h.on.push,f8 h.at',h.new,h.t0⟩
def Ah.put{t l:Nat}{a S:Sto}{b fs:EE}(h:Ah t a S l b):Ah t a (S.set l (.lst (fs.map pairS))) l fs:=⟨h.tape.other h.ne,h.on.new h.new,m8 h.at',h.new,h.t0⟩
def Hh(a:EE)(e:Nat×Nat):a.map pairS++[.tup [.int e.1,.int e.2]]=(a++[e]).map pairS:=by rw[Yo];rfl
section
variable{Δ:Nat->Sn}{kd:Nat}
def YI(s:∀ f,MonoN (Δ f))(u:t6 (Δ kd)){t l n:Nat}{k:Int}{v S:Sto}{D:EndsS}{g:SV}{m o w y:Option SV}{c:Prop}(H:c->n<=6)(A:Ah t v S l [])(I:n<=12)
 (q:∀(d:EE) (K:Sto) (m o:Option SV),Prs n d->(c->n<=6/\d.length<=12)->Ah t v K l d->D.nx [O (.loc t),O g,O (.int k),O (.int n),O (.loc l),m,o,w,y] K):
 wSt Δ (q4 kd) D [O (.loc t),O g,O (.int k),O (.int n),O (.loc l),m,o,w,y] S:=by
 have j:=q [] S m o ⟨(λ_ h=>nomatch h),by simp,I⟩ (λz=>⟨H z,by simp⟩) A;refine⟨_,J,_,J,ifD (λR=>?_) (λR=>ifF J j)⟩;refine⟨_,J,_,J,ifD (λL=>?_) (λL=>j)⟩;have L:1<n:=by lia
 refine⟨_,J,_,J,.inl ⟨by decide,by decide⟩,u A.tape (by lia) (by lia) λr S1 r0 r1 T V _=>⟨r,J,⟨by lia,by lia⟩,?_⟩⟩;have W:=A.draw T V
 refine n4 (i9 s _) (λi B S2=>∃(d:EE) (m o:Option SV),B=[O (.loc t),O g,O (.int k),O (.int n),O (.loc l),m,o,w,y]/\Ah t v S2 l d/\(∀ e∈d,e.1<n/\e.2<n/\e.1≠e.2)/\d.length=i)
  ⟨[],m,o,J,W,(λ_ h=>nomatch h),J⟩ (λ_ _ _ _=>trivial) ?_ ?_
 ·rintro i x B S2 X ⟨d,M,N,rfl,p,C,E⟩;obtain⟨rfl,hi⟩:=k0 X;refine⟨_,J,_,J,u p.tape (by lia) (by lia) λa S3 a0 a1 T3 O3 _=>?_⟩;have G:=p.draw T3 O3;refine⟨_,J,⟨l,_,J,G.at'⟩,?_⟩;refine⟨_,J,_,J,_,J,_,J,u G.tape (by lia) (by lia) λb S4 b0 b1 T4 O4 _=>?_⟩;have P:=G.draw T4 O4;refine⟨_,J,show(0:Int)<n by lia,by show 2<=big;decide,⟨_,P.at',by rw[YY];show d.length<100000;lia,?_⟩⟩;have e1:((a.toNat:Nat):Int)=a:=A0v a0;have m0:0<=(a+1+b) % n:=A0n _ (by lia);have m1:(a+1+b) % n<n:=A0a _ (by lia);have e2:(((a+1+b) % n).toNat:Int)=(a+1+b) % n:=A0v m0
  have a2:a≠(a+1+b) % n:=by
   by_cases hb:a+1+b<n
   ·rw[A1N (by lia) hb];lia
   ·rw[<-Int.sub_emod_right,A1N (by lia) (by lia)];lia
  have Q:=Hh d (a.toNat,((a+1+b) % n).toNat);simp only[e1,e2]at Q;refine⟨d++[(a.toNat,((a+1+b) % n).toNat)],_,_,J,?_,λe h=>?_,by rw[Yd,E];rfl⟩
  ·have:=P.put (fs:=d++[(a.toNat,((a+1+b) % n).toNat)]);rw[<-Q]at this;exact this
  ·rcases Yz.mp h with h | h
   ·exact C e h
   ·rw[Yt.mp h];exact⟨by show a.toNat<n;lia,by show((a+1+b) % n).toNat<n;lia,by show a.toNat≠((a+1+b) % n).toNat;lia⟩
 ·rintro B S2 ⟨d,M,N,rfl,p,C,E⟩;rw[l7]at E;exact q d S2 M N ⟨C,by lia,I⟩ (λz=>by have:=H z;lia) p
abbrev PQ(c:Prop)(t:Nat)(g:SV)(a:Int)(b:Sto)(D:EndsS):Prop:=∀(n:Nat) (es:EE) (l:Nat) (S':Sto) (d e f h:Option SV),Prs n es->(c->n<=6/\es.length<=12)->Ah t b S' l es->D.nx [O (.loc t),O g,O (.int a),O (.int n),O (.loc l),d,e,f,h] S'
def Fw{n:Nat}(h:n<=12):Prs n []:=⟨(λ_ h=>nomatch h),by simp,h⟩
def YJ(a:∀ f,MonoN (Δ f))(I:t6 (Δ kd)){t l n:Nat}{u S:Sto}{D:EndsS}{g:SV}{v w y B:Option SV}{c:Prop}(d:c->n<=6)(A:Ah t u S l [])(C:n<=12)(q:PQ c t g 3 u D):
 wSt Δ (q5 kd) D [O (.loc t),O g,O (.int 3),O (.int n),O (.loc l),v,w,y,B] S:=by
 have b:=q n [] l S v w y B (Fw C) (λz=>⟨d z,by simp⟩) A;refine⟨_,J,_,J,ifT J ?_⟩;refine⟨_,J,_,J,ifD (λE=>?_) (λE=>b)⟩;have E:2<n:=by lia
 refine⟨_,J,n,J,⟨by lia,by lia⟩,?_⟩;refine i4 (g8 a _).2 (c8 a _).1 (λi k S2=>S2=S/\k=((Ye i).map λj=>(j,(j+1) % n)).map pairS) ⟨J,J⟩ (λ_ _ _ _=>trivial) ?_ ?_
 ·rintro i x k S2 K ⟨rfl,rfl⟩;obtain⟨rfl,V⟩:=k0 K;refine⟨_,J,_,J,_,J,show(0:Int)<n by lia,by show 2<=big;decide,by simp;show i<100000;lia,J,?_⟩;rw[ZV,Yo,Yo];simp[pairS]
 ·rintro k S2 ⟨rfl,rfl⟩;rw[l7];refine⟨_,J,_,J,I (A.push (o := .lst (((Ye ((n:Int) - 0).toNat).map λj=>(j,(j+1) % n)).map pairS))).tape (by lia) (by lia) λr L M W N G X=>?_⟩;have m:=(A.push (o := .lst (((Ye ((n:Int) - 0).toNat).map λj=>(j,(j+1) % n)).map pairS))).draw N G;refine⟨by show 2<=big;decide,by show 1<=big;decide,?_⟩;have hS:=A.t0;have P:=A.on.len;have p:L[S2.length]?=O (.lst (((Ye ((n:Int) - 0).toNat).map λj=>(j,(j+1) % n)).map pairS)):=G.keep _ _ (by lia) f7;refine⟨_,_,f8 p,f7,by simp;show _<=100000;lia,?_⟩;have Q:((n:Int) - 0).toNat=n:=by lia
  rw[Q];have e1:((r.toNat:Nat):Int)=r:=A0v M;have H:=Hh ((Ye n).map λj=>(j,(j+1) % n)) (0,r.toNat+1);have R:((r.toNat+1:Nat):Int)=r+1:=by lia
  simp only[R]at H;refine q n ((Ye n).map (λj=>(j,(j+1) % n))++[(0,r.toNat+1)]) _ _ _ _ _ _ ⟨λe h=>?_,by simp;lia,C⟩ (λz=>⟨d z,by have:=d z;simp;lia⟩) ⟨m.tape.push.push,m.on.push.push,?_,?_,A.t0⟩
  ·rcases Yz.mp h with h | h
   ·obtain⟨j,s,rfl⟩:=Z2.mp h;have s:=Yr.mp s;refine⟨s,A21 _ (by lia),?_⟩;by_cases T:j+1<n
    ·show j≠(j+1) % n;rw[Nat.mod_eq_of_lt T];lia
    ·have:j+1=n:=by lia
     show j≠(j+1) % n;rw[this,Nat.mod_self];lia
   ·rw[Yt.mp h];exact⟨by show 0<n;lia,by show r.toNat+1<n;lia,by show 0≠r.toNat+1;lia⟩
  ·rw[<-H];exact f7
  ·rw[Yd];have:=m.on.len;lia
def YK(a:∀ f,MonoN (Δ f)){t l n:Nat}{m S:Sto}{D:EndsS}{g:SV}{o p r s:Option SV}{c:Prop}(d:c->n<=6)(A:Ah t m S l [])(u:n<=12)(q:PQ c t g 4 m D):
 wSt Δ (q6 kd) D [O (.loc t),O g,O (.int 4),O (.int n),O (.loc l),o,p,r,s] S:=by
 have b:=q n [] l S o p r s (Fw u) (λz=>⟨d z,by simp⟩) A;refine⟨_,J,_,J,ifT J ?_⟩;refine⟨_,J,_,J,ifD (λv=>?_) (λv=>b)⟩;have v:1<n:=by lia
 refine⟨_,J,1,n,J,J,⟨by decide,by decide,by lia,by lia⟩,?_⟩;refine i4 (g8 a _).2 (c8 a _).1 (λi k S2=>S2=S/\k=((Ye i).map λj=>(0,j+1)).map pairS) ⟨J,J⟩ (λ_ _ _ _=>trivial) ?_ ?_
 ·rintro i x k S2 y ⟨rfl,rfl⟩;obtain⟨rfl,B⟩:=k0 y;refine⟨_,J,by show 2<=big;decide,by simp;show i<100000;lia,J,?_⟩;rw[ZV,Yo,Yo];simp[pairS,Int.add_comm]
 ·rintro k S2 ⟨rfl,rfl⟩;rw[l7];refine q n _ _ _ _ _ _ _ ⟨λe h=>?_,by simp;lia,u⟩ (λz=>⟨d z,by have:=d z;simp;lia⟩) ⟨A.tape.push,A.on.push,f7,A.on.len,A.t0⟩;obtain⟨j,w,rfl⟩:=Z2.mp h;have w:=Yr.mp w;exact⟨by show 0<n;lia,by show j+1<n;lia,by show 0≠j+1;lia⟩
def Ah.ext{t l j:Nat}{b S:Sto}{a fs:EE}(h:Ah t b S l a)(c:S[j]?=aA (.lst (fs.map pairS))):Ah t b (S.set l (.lst (a.map pairS++fs.map pairS))) l (a++fs):=by rw[<-Yo];exact h.put
def YL(a:∀ f,MonoN (Δ f)){t l n:Nat}{b:Bool}{u S:Sto}{D:EndsS}{v w g y:Option SV}{c:Prop}(M:c->n<=6/\b=aD)(A:Ah t u S l [])(T:n<=12)(q:PQ c t (.bl b) 5 u D):
 wSt Δ (q7 kd) D [O (.loc t),O (.bl b),O (.int 5),O (.int n),O (.loc l),v,w,g,y] S:=by
 refine⟨_,J,_,J,ifT J ?_⟩
 obtain⟨m,N,V,B⟩:∃ m:Nat,(if (5+(if b=aC then (1:Int) else 0))<n then (5+(if b=aC then (1:Int) else 0)) else (n:Int))=m/\m<=6/\(b=aD->m<=5):=by
  cases b
  ·by_cases h:(5:Int)<n
   ·exact⟨5,by simp[h],by lia,by lia⟩
   ·exact⟨n,by simp[h],by lia,by lia⟩
  ·by_cases h:(6:Int)<n
   ·exact⟨6,by simp[h],by lia,nofun⟩
   ·exact⟨n,by simp[h],by lia,nofun⟩
 suffices C:∀ z:Int,z=m->wSs Δ [q7l kd] D [O (.loc t),O (.bl b),O (.int 5),O (.int z),O (.loc l),v,w,g,y] S from ⟨_,J,_,J,C _ N⟩
 rintro _ rfl;refine⟨_,J,m,J,⟨by lia,by lia⟩,?_⟩
 refine n4 (i9 a _) (λi E S2=>∃(d:EE) (g:Option SV),E=[O (.loc t),O (.bl b),O (.int 5),O (.int m),O (.loc l),v,w,g,y]/\Ah t u S2 l d/\(∀ e∈d,e.1<e.2/\e.2<i)/\d.length * 2<=i * i)
  ⟨[],g,J,A,(λ_ h=>nomatch h),by simp⟩ (λ_ _ _ _=>trivial) ?_ ?_
 ·rintro i x E S2 G ⟨d,P,rfl,k,p,I⟩;obtain⟨rfl,W⟩:=k0 G;refine⟨_,J,⟨l,_,J,k.at'⟩,_,J,0+(i:Int),J,⟨by lia,by lia⟩,?_⟩;refine i4 (g8 a _).2 (c8 a _).1 (λj H r=>r=S2/\H=((Ye j).map λj=>(j,i)).map pairS) ⟨J,J⟩ (λ_ _ _ _=>trivial) ?_ ?_
  ·rintro j x H r G ⟨rfl,rfl⟩;obtain⟨rfl,s⟩:=k0 G;refine⟨_,J,_,J,by show 2<=big;decide,by simp;show j<100000;lia,J,?_⟩;rw[ZV,Yo,Yo];simp[pairS]
  ·rintro H r ⟨rfl,rfl⟩;rw[l7];have Q:(0+(i:Int) - 0).toNat=i:=by lia
   rw[Q];have K:=k.push (o := .lst (((Ye i).map λj=>(j,i)).map pairS));have R:i * i<=6 * 6:=A0k (by lia) (by lia);have X:(i+1) * (i+1)=i * i+i+(i+1):=by rw[A0L,Nat.mul_succ]
   refine⟨_,_,K.at',f7,by simp;show _<=100000;lia,?_⟩;refine⟨d++(Ye i).map (λj=>(j,i)),_,J,K.ext (j:=r.length) f7,λe h=>?_,by simp;lia⟩;rcases Yz.mp h with h | h
   ·have:=p e h;lia
   ·obtain⟨j,s,rfl⟩:=Z2.mp h;have s:=Yr.mp s;exact⟨s,by show i<i+1;lia⟩
 ·rintro E S2 ⟨d,P,rfl,k,p,I⟩;rw[l7,show((m:Int) - 0).toNat=m by lia]at p I;have R:m * m<=6 * 6:=A0k (by lia) (by lia);refine q m d l S2 _ _ _ _ ⟨λe h=>?_,by lia,by lia⟩ (λz=>?_) k
  rotate_left
  ·have L:=B (M z).2;have:m * m<=5 * 5:=A0k L L
   lia
  have:=p e h
  lia
def YM(b:∀ f,MonoN (Δ f))(P:t6 (Δ kd)){t l n:Nat}{p S:Sto}{D:EndsS}{g:SV}{B C d Q:Option SV}{c:Prop}(M:c->n<=6)(A:Ah t p S l [])(R:n<=12)(q:PQ c t g 6 p D):
 wSt Δ (q8 kd) D [O (.loc t),O g,O (.int 6),O (.int n),O (.loc l),B,C,d,Q] S:=by
 refine⟨_,J,_,J,ifT J ?_⟩;obtain⟨s,E,hs⟩:∃ s:Nat,1+(n:Int) / 2=s/\s=1+n / 2:=⟨1+n / 2,by lia,J⟩
 suffices G:∀ z:Int,z=s->wSs Δ [q8l kd] D [O (.loc t),O g,O (.int 6),O (.int n),O (.loc l),B,C,d,O (.int z)] S from ⟨_,J,⟨by decide,by decide⟩,G _ E⟩
 rintro _ rfl;refine⟨_,J,s,J,⟨by lia,by lia⟩,?_⟩
 refine n4 (i9 b _) (λi H S2=>∃(a:EE) (d:Option SV),H=[O (.loc t),O g,O (.int 6),O (.int n),O (.loc l),B,C,d,O (.int s)]/\Ah t p S2 l a/\(∀ e∈a,e.1<i/\s<=e.2/\e.2<n)/\a.length<=i * (n - s))
  ⟨[],d,J,A,(λ_ h=>nomatch h),by simp⟩ (λ_ _ _ _=>trivial) ?_ ?_
 ·rintro i x H S2 I ⟨a,T,rfl,u,k,K⟩;obtain⟨rfl,hi⟩:=k0 I;refine⟨_,J,⟨l,_,J,u.at'⟩,_,J,_,J,s,n,J,J,⟨by lia,by lia,by lia,by lia⟩,?_⟩;refine i4 (g8 b _).2 (c8 b _).1 (λj L v=>Ah t p v l a/\∃ fs:EE,L=fs.map pairS/\(∀ e∈fs,e.1=i/\s<=e.2/\e.2<n)/\fs.length<=j) ⟨u,[],J,(λ_ h=>nomatch h),Ym _⟩ (λ_ _ _ _=>trivial) ?_ ?_
  ·rintro j x L v I ⟨w,fs,rfl,y,N⟩;obtain⟨rfl,hj⟩:=k0 I;refine⟨_,J,P w.tape (by decide) (by decide) λr S4 r0 r1 V W _=>⟨_,J,?_⟩⟩;have m:=w.draw V W;refine ifD (λ_=>?_) (λ_=>⟨m,fs,J,y,by lia⟩);refine⟨_,J,_,J,by show 2<=big;decide,by rw[YY];show _<100000;lia,m,fs++[(i,s+j)],?_,λe h=>?_,by simp;lia⟩
   ·rw[Yo];simp[pairS]
   ·rcases Yz.mp h with h | h
    ·exact y e h
    ·rw[Yt.mp h];exact⟨J,by show s<=s+j;lia,by show s+j<n;lia⟩
  ·rintro L v ⟨w,fs,rfl,y,N⟩;rw[l7]at N;have m:=w.push (o := .lst (fs.map pairS));have X:i * (n - s)<=6 * 12:=A0k (by lia) (by lia);refine⟨_,_,m.at',f7,by simp;show _<=100000;lia,?_⟩;refine⟨a++fs,_,J,m.ext (j:=v.length) f7,λe h=>?_,?_⟩
   ·rcases Yz.mp h with h | h
    ·have:=k e h;exact⟨by lia,this.2⟩
    ·have:=y e h;exact⟨by lia,this.2⟩
   ·rw[Yd,A0L];lia
 ·rintro H S2 ⟨a,T,rfl,u,k,K⟩;rw[l7]at k K;have e0:((s:Int) - 0).toNat=s:=by lia
  rw[e0]at k K;have a0:s * (n - s)<=7 * 5:=A0k (by lia) (by lia);refine q n a l S2 _ _ _ _ ⟨λe h=>?_,by lia,R⟩ (λz=>⟨M z,?_⟩) u
  rotate_left
  ·have:=M z;have:s * (n - s)<=4 * 2:=A0k (by lia) (by lia)
   lia
  have:=k e h
  lia
def YN(p:∀ f,MonoN (Δ f))(N:t6 (Δ kd)){t l n:Nat}{s S:Sto}{D:EndsS}{g:SV}{u v d w:Option SV}{c:Prop}(P:c->n<=6)(A:Ah t s S l [])(hn:n<=12)(q:PQ c t g 7 s D):
 wSt Δ (q9 kd) D [O (.loc t),O g,O (.int 7),O (.int n),O (.loc l),u,v,d,w] S:=by
 refine⟨_,J,_,J,ifT J ?_⟩;obtain⟨m,Q,hm⟩:∃ m:Nat,3+(n:Int) / 3=m/\m=3+n / 3:=⟨3+n / 3,by lia,J⟩
 suffices y:∀ z:Int,z=m->wSs Δ [q9l kd] D [O (.loc t),O g,O (.int 7),O (.int z),O (.loc l),u,v,d,w] S from ⟨_,J,⟨by decide,by decide⟩,y _ Q⟩
 rintro _ rfl;refine⟨3,J,⟨by decide,by decide⟩,?_⟩
 refine n4 (i9 p _) (λi B S2=>∃(a:EE) (d:Option SV),B=[O (.loc t),O g,O (.int 7),O (.int m),O (.loc l),u,v,d,w]/\Ah t s S2 l a/\(∀ e∈a,e.1<3/\e.2<3/\e.1≠e.2)/\a.length<=i * 3)
  ⟨[],d,J,A,(λ_ h=>nomatch h),by simp⟩ (λ_ _ _ _=>trivial) ?_ ?_
 ·rintro i x B S2 R ⟨a,T,rfl,b,C,G⟩;obtain⟨rfl,hi⟩:=k0 R;refine⟨_,J,⟨l,_,J,b.at'⟩,_,J,_,J,show(0:Int)<3 by decide,by show 2<=big;decide,by show 1<=big;decide,?_⟩;have H:=b.push (o := .lst [.tup [.int (0+(i:Int)),.int ((0+(i:Int)+1) % 3)]]);refine⟨_,J,N H.tape (by decide) (by decide) λr I r0 r1 V K L4=>?_⟩;have W:=H.draw V K;have ht:=b.t0;have L:=b.on.len;have E:I[S2.length]?=O (.lst [.tup [.int (0+(i:Int)),.int ((0+(i:Int)+1) % 3)]]):=K.keep _ _ (by lia) f7;refine⟨_,E,⟨by lia,by lia⟩,by simp;show _<=100000;lia,?_⟩
  have X:(Yv (1+r).toNat [SV.tup [.int (0+(i:Int)),.int ((0+(i:Int)+1) % 3)]]).flatten=(Yv (1+r).toNat (i,(i+1) % 3)).map pairS:=by
   induction (1+r).toNat with
   | zero=>rfl
   | succ k ih=>rw[ZO,Zk,ih,ZO];simp[pairS]
  rw[X];have M:=W.push (o := .lst ((Yv (1+r).toNat (i,(i+1) % 3)).map pairS));refine⟨_,_,M.at',f7,by simp;show _<=100000;lia,?_⟩;refine⟨a++Yv (1+r).toNat (i,(i+1) % 3),_,J,M.ext (j:=I.length) f7,λe h=>?_,by simp;lia⟩;rcases Yz.mp h with h | h
  ·exact C e h
  ·rw[A12 h];exact⟨by show i<3;lia,by show(i+1) % 3<3;lia,by show i≠(i+1) % 3;lia⟩
 ·rintro B S2 ⟨a,T,rfl,b,C,G⟩;rw[l7]at G;refine q m a l S2 _ _ _ _ ⟨λe h=>?_,by lia,by lia⟩ (λz=>by have:=P z;lia) b;have:=C e h
  lia
def Xk{t l:Nat}{a n:Int}{S:Sto}{D:EndsS}{g:SV}{b c d e:Option SV}(h:¬ a<3)(q:D.nx [O (.loc t),O g,O (.int a),O (.int n),O (.loc l),b,c,d,e] S):wSt Δ (q4 kd) D [O (.loc t),O g,O (.int a),O (.int n),O (.loc l),b,c,d,e] S:=⟨_,J,_,J,ifD (λz=>absurd z h) (λ_=>ifF J q)⟩
def Hi{t l:Nat}{a n:Int}{S:Sto}{D:EndsS}{g:SV}{b c d e:Option SV}(h:¬ a=3)(q:D.nx [O (.loc t),O g,O (.int a),O (.int n),O (.loc l),b,c,d,e] S):wSt Δ (q5 kd) D [O (.loc t),O g,O (.int a),O (.int n),O (.loc l),b,c,d,e] S:=⟨_,J,_,J,ifD (λz=>absurd z h) (λ_=>ifF J q)⟩
def Hj{t l:Nat}{a n:Int}{S:Sto}{D:EndsS}{g:SV}{b c d e:Option SV}(h:¬ a=4)(q:D.nx [O (.loc t),O g,O (.int a),O (.int n),O (.loc l),b,c,d,e] S):wSt Δ (q6 kd) D [O (.loc t),O g,O (.int a),O (.int n),O (.loc l),b,c,d,e] S:=⟨_,J,_,J,ifD (λz=>absurd z h) (λ_=>ifF J q)⟩
def Hk{t l:Nat}{a n:Int}{S:Sto}{D:EndsS}{g:SV}{b c d e:Option SV}(h:¬ a=5)(q:D.nx [O (.loc t),O g,O (.int a),O (.int n),O (.loc l),b,c,d,e] S):wSt Δ (q7 kd) D [O (.loc t),O g,O (.int a),O (.int n),O (.loc l),b,c,d,e] S:=⟨_,J,_,J,ifD (λz=>absurd z h) (λ_=>q)⟩
def Hl{t l:Nat}{a n:Int}{S:Sto}{D:EndsS}{g:SV}{b c d e:Option SV}(h:¬ a=6)(q:D.nx [O (.loc t),O g,O (.int a),O (.int n),O (.loc l),b,c,d,e] S):wSt Δ (q8 kd) D [O (.loc t),O g,O (.int a),O (.int n),O (.loc l),b,c,d,e] S:=⟨_,J,_,J,ifD (λz=>absurd z h) (λ_=>q)⟩
def Hm{t l:Nat}{a n:Int}{S:Sto}{D:EndsS}{g:SV}{b c d e:Option SV}(h:¬ a=7)(q:D.nx [O (.loc t),O g,O (.int a),O (.int n),O (.loc l),b,c,d,e] S):wSt Δ (q9 kd) D [O (.loc t),O g,O (.int a),O (.int n),O (.loc l),b,c,d,e] S:=⟨_,J,_,J,ifD (λz=>absurd z h) (λ_=>q)⟩
def Su(d:∀ f,MonoN (Δ f))(r:t6 (Δ kd)){t l n:Nat}{b:Bool}{w:Int}{s S:Sto}{Q:QE}(u:0<=w)(w1:w<8)(p:b=aD->n<=6)(A:Ah t s S l [])(k:n<=12)
 (q:∀(n:Nat) (a:EE) (l:Nat) (c:Sto),Prs n a->(b=aD->n<=6/\a.length<=12)->Ah t s c l a->Q (.tup [.int n,.loc l]) c):
 wSs Δ [q4 kd,q5 kd,q6 kd,q7 kd,q8 kd,q9 kd,q10 kd] (p8 Q) [O (.loc t),O (.bl b),O (.int w),O (.int n),O (.loc l),aB,aB,aB,aB] S:=by
 have e:∀(n:Nat) (a:EE) (l:Nat) (c:Sto) (i j m o:Option SV),Prs n a->(b=aD->n<=6/\a.length<=12)->Ah t s c l a->wSs Δ [q10 kd] (p8 Q) [O (.loc t),O (.bl b),O (.int w),O (.int n),O (.loc l),i,j,m,o] c:=λn a l c i j m o P C g=>⟨_,J,_,J,by show 2<=big;decide,q n a l c P C g⟩
 have nil:=Fw k;by_cases h:w<3
 ·exact YI d r p A k λa c i j P C g=>Hi (by lia) (Hj (kd:=kd) (by lia) (Hk (kd:=kd) (by lia) (Hl (by lia) (Hm (by lia) (e n a l c _ _ _ _ P C g)))))
 refine Xk h ?_;have:w=3\/w=4\/w=5\/w=6\/w=7:=by lia
 rcases this with rfl | rfl | rfl | rfl | rfl
 ·exact YJ d r p A k λn a l c i j m o P C g=>Hj (kd:=kd) (by lia) (Hk (kd:=kd) (by lia) (Hl (by lia) (Hm (by lia) (e n a l c _ _ _ _ P C g))))
 ·exact Hi (by lia) (YK (kd:=kd) d p A k λn a l c i j m o P C g=>Hk (kd:=kd) (by lia) (Hl (by lia) (Hm (by lia) (e n a l c _ _ _ _ P C g))))
 ·exact Hi (by lia) (Hj (kd:=kd) (by lia) (YL (kd:=kd) d (λz=>⟨p z,z⟩) A k λn a l c i j m o P C g=>Hl (by lia) (Hm (by lia) (e n a l c _ _ _ _ P C g))))
 ·exact Hi (by lia) (Hj (kd:=kd) (by lia) (Hk (kd:=kd) (by lia) (YM d r p A k λn a l c i j m o P C g=>Hm (by lia) (e n a l c _ _ _ _ P C g))))
 ·exact Hi (by lia) (Hj (kd:=kd) (by lia) (Hk (kd:=kd) (by lia) (Hl (by lia) (YN d r p A k λn a l c i j m o P C g=>e n a l c _ _ _ _ P C g))))
def Mj(h:∀ f,MonoN (Δ f))(e:t6 (Δ kd)){D:Df}(j:D.body=Ps kd)(k:D.N.length=9)(m:D.ps.length=2):E6 (!·) (j7 Δ D):=by
 intro t g S Q T q;unfold j7;rw[j,k];refine⟨m.symm,?_⟩;have p:=T.lt;refine⟨_,J,e T (by decide) (by decide) λw S1 s w1 u v _=>?_⟩;refine⟨_,J,e u (by decide) (by decide) λa S2 a0 a1 x y _=>⟨_,J,e x (by decide) (by decide) λc i b0 b1 B E _=>⟨by show 2<=big;decide,_,J,_,(if g=aC then .int (7+c) else .int a),c9 f7,?_⟩⟩⟩;have O:=((v.trans y).trans E).push (o := .lst [.int a,.int (7+c)])
 have d:∀(z:Int) (n:Nat),z=n->n<=12->(g=aD->n<=6)->wSs Δ [q3 kd,q4 kd,q5 kd,q6 kd,q7 kd,q8 kd,q9 kd,q10 kd] (p8 Q) [aA (.loc t),aA (.bl g),aA (.int w),aA (.int z),aB,aB,aB,aB,aB] (i++[SO.lst [.int a,.int (7+c)]]):=by
  rintro _ n rfl G H;refine⟨by show 0<=big;decide,?_⟩;have A:Ah t S ((i++[SO.lst [.int a,.int (7+c)]])++[SO.lst []]) (i++[SO.lst [.int a,.int (7+c)]]).length []:=⟨B.push.push,O.push,f7,O.len,p⟩
  have r:=Su (b:=g) h e s w1 H A G (Q:=Q) λn I l K P C A=>q n I l K P (λz=>C (by simpa using z)) A.at' A.new A.tape A.on;exact r
 cases g with
 | false=>exact⟨J,d a a.toNat (by lia) (by lia) (λ_=>by lia)⟩
 | true=>exact⟨J,d (7+c) (7+c).toNat (by lia) (by lia) nofun⟩
end
def u1(kd a:Nat):Stm:=(.asg (.tup (.cons (.nm 2) (.cons (.nm 3) .nil))) (.call a (vB vG vH)))
def u2(kd a:Nat):Stm:=(.iff (.cmp .Eq vL kD) [.asg (.tup (.cons (.nm 2) (.cons (.nm 3) .nil))) (.call a (vB vG vH))] [])
def u3(kd a:Nat):Stm:=(.iff (.and (.cmp .NotEq vL kD) (.cmp .Eq (.call kd (vB vG vV)) vJ)) [.asg (.nm 3) (.op .Add vL (.comp ["_law_turn"] ["_law_pairs","_law_tape_here"] [3,0] (.nm 0) (.rng1 (.op .Add vK (.call kd (vB vG vP)))) .no (.ix vH (.call kd (vB vI kP)))))] [])
def u4(kd a:Nat):Stm:=(.asg (.nm 4) kD)
def u5(kd a:Nat):Stm:=(.loop (.tup (.cons (.nm 5) (.cons (.nm 6) .nil))) (.seq vL) [.expr (.mt .insert vM (vB (.call kd (vB vG (.op .Add (.bi .len (vA vM)) vK))) (.tup (vB (.bi .min (vB vN vO)) (.bi .max (vB vN vO))))))])
def u6(kd a:Nat):Stm:=(.ret (.tup (vB vI (.bi .tuple (vA vM)))))
def Xl(kd a:Nat):U Stm:=[u1 kd a,u2 kd a,u3 kd a,u4 kd a,u5 kd a,u6 kd a]
def g9(n:Nat)(es:EE):SV := .tup [.int n,.tup (es.map pairS)]
structure Web(n:Nat)(es:EE):Prop where
 en:∀ e∈es,e.1<e.2/\e.2<n
 len:es.length<=39
 few:n<=12
def U2(s:Sn):Prop:=∀{t:Nat} {g:Bool} {S:Sto} {Q:QE},TapeS S t->(∀(n:Nat) (es:EE) (S':Sto),Web n es->TapeS S' t->On t S S'->Q (g9 n es) S')->s [.loc t,.bl g] S Q
def WebKSp(c:Bool->Bool)(s:Sn):Prop:=∀{t:Nat} {g:Bool} {S:Sto} {Q:QE},TapeS S t->(∀(n:Nat) (es:EE) (S':Sto),Web n es->(c g=aC->n<=6/\es.length<=15)->TapeS S' t->On t S S'->Q (g9 n es) S')->s [.loc t,.bl g] S Q
def WebKSp.sp{c:Bool->Bool}{s:Sn}(h:WebKSp c s):U2 s:=λT q=>h T λn a b W _ t o=>q n a b W t o
def Ho{a:U SV}:EX a []=a.isEmpty:=by cases a<;>rfl
section
variable{Δ:Nat->Sn}{kd kp:Nat}
def E7(y:∀ f,MonoN (Δ f))(M:t6 (Δ kd)){t n l:Nat}{g:SV}{s S:Sto}{es:EE}{Q:QE}{N k m:Option SV}(P:∀ e∈es,e.1<n/\e.2<n/\e.1≠e.2)(hl:es.length<=39)(R:n<=12)(A:Ah t s S l es)
 (q:∀(fs:EE) (z:Sto),Web n fs->fs.length<=es.length->TapeS z t->On t s z->Q (g9 n fs) z):wSs Δ [u4 kd kp,u5 kd kp,u6 kd kp] (p8 Q) [O (.loc t),O g,O (.int n),O (.loc l),N,k,m] S:=by
 refine⟨by show 0<=big;decide,?_⟩;have T:=FK A.at';have V:=A.tape.lt;refine⟨_,J,_,c9 A.push.at',?_⟩
 refine n4 (i9 y _) (λi u S2=>∃(fs:EE) (k m:Option SV),u=[O (.loc t),O g,O (.int n),O (.loc l),O (.loc S.length),k,m]/\Ah t s S2 S.length fs/\S2[l]?=O (.lst (es.map pairS))/\(∀ e∈fs,e.1<e.2/\e.2<n)/\fs.length=i)
  ⟨[],k,m,J,⟨A.tape.push,A.on.push,f7,A.on.len,A.t0⟩,A.push.at',(λ_ h=>nomatch h),J⟩ (λi u S2 h=>?_) ?_ ?_
 ·obtain⟨fs,_,_,_,_,v,_⟩:=h;exact v.trans A.push.at'.symm
 ·rintro i x u S2 d ⟨fs,W,X,rfl,c,v,w,G⟩;rw[Yj]at d;cases hei:es[i]? with
  | none=>rw[hei]at d;cases d
  | some e=>
    rw[hei]at d;have d:pairS e=x:=oj d;subst d;have a0:=(gM hei).1;have o:=P e (Yb hei);refine⟨_,J,⟨_,_,J,c.at'⟩,_,J,_,J,_,c9 c.at',M c.tape (by lia) (by rw[YY];lia) λr H r0 r1 T3 I _=>?_⟩;have K:=c.draw T3 I;rw[YY]at r1;refine⟨_,J,_,J,_,J,_,J,by show 2<=big;decide,?_⟩;refine⟨_,K.at',⟨r0,by rw[YY];lia⟩,by rw[YY];show _<100000;lia,?_⟩
    have p:∀(a b:Nat) (B C:Int),B=a->C=b->a<b->b<n->∃(j:EE) (k m:Option SV),([O (.loc t),O g,O (.int n),O (.loc l),O (.loc S.length),O (.int e.1),O (.int e.2)]:EnvS)=[O (.loc t),O g,O (.int n),O (.loc l),O (.loc S.length),k,m]/\Ah t s (H.set S.length (.lst ((fs.map pairS).take r.toNat ++ .tup [.int B,.int C]::(fs.map pairS).drop r.toNat))) S.length j/\(H.set S.length (.lst ((fs.map pairS).take r.toNat ++ .tup [.int B,.int C]::(fs.map pairS).drop r.toNat)))[l]?=O (.lst (es.map pairS))/\(∀ e∈j,e.1<e.2/\e.2<n)/\j.length=i+1:=by
     rintro a b _ _ rfl rfl D E
     have e1:(fs.map pairS).take r.toNat++SV.tup [.int a,.int b]::(fs.map pairS).drop r.toNat=(fs.take r.toNat++(a,b)::fs.drop r.toNat).map pairS:=by
      rw[Yo,ZE,A11,A0F];rfl
     rw[e1];refine⟨_,_,_,J,K.put,?_,λL h=>?_,?_⟩
     ·rw[v7 (by lia)];exact I.keep _ _ A.ne v
     ·rcases Yz.mp h with h | h
      ·exact w L (A1u h)
      ·rcases Yp.mp h with h | h
       ·rw[h];exact⟨D,E⟩
       ·exact w L (A1v h)
     ·rw[Yd,ZK,ZG,Zg];lia
    by_cases hc:e.1<e.2
    ·exact p e.1 e.2 _ _ (by rw[iG (by lia)]) (by rw[iP (by lia)]) hc o.2.1
    ·exact p e.2 e.1 _ _ (by rw[iP (by lia)]) (by rw[iG (by lia)]) (by lia) o.1
 ·rintro u S2 ⟨fs,W,X,rfl,c,v,w,G⟩;rw[YY]at G;exact⟨_,J,_,J,_,c9 c.at',by show 2<=big;decide,q fs S2 ⟨w,by lia,R⟩ (by lia) c.tape c.on⟩
def Hq(a:∀ f,MonoN (Δ f))(d:t6 (Δ kd)){t n l:Nat}{g:SV}{s S:Sto}{es:EE}{Q:QE}{H I K:Option SV}(P:Prs n es)(A:Ah t s S l es)
 (q:∀(fs:EE) (b:Sto),Web n fs->fs.length<=es.length+3->TapeS b t->On t s b->Q (g9 n fs) b):wSs Δ [u3 kd kp,u4 kd kp,u5 kd kp,u6 kd kp] (p8 Q) [O (.loc t),O g,O (.int n),O (.loc l),H,I,K] S:=by
 refine⟨_,J,by show 0<=big;decide,?_⟩;have p:=A.push (o:=SO.lst []);refine⟨_,_,p.at',f7,.inr (.inr J),_,J,?_⟩;rw[Ho];refine ifB (λD=>?_) (λD=>ifF J (E7 a d P.en (by have:=P.len;lia) P.few p λfs b W L=>q fs b W (by lia)))
 have E:0<es.length:=by
  cases es with
  | nil=>cases D
  | cons _ _=>simp
 refine⟨_,J,d p.tape (by decide) (by decide) λr S2 r0 r1 M N _=>⟨_,J,?_⟩⟩;have u:=p.draw M N;refine ifD (λ_=>?_) (λ_=>E7 a d P.en (by have:=P.len;lia) P.few u λfs b W L=>q fs b W (by lia));refine⟨_,J,_,J,d u.tape (by decide) (by decide) λr3 S3 a0 a1 R T _=>⟨_,J,⟨by lia,by lia⟩,?_⟩⟩;have V:=u.draw R T;refine i4 (g8 a _).2 (c8 a _).1 (λi w y=>Ah t s y l es/\∃ fs:EE,w=fs.map pairS/\(∀ e∈fs,e∈es)/\fs.length=i) ⟨V,[],J,(λ_ h=>nomatch h),J⟩ (λ_ _ _ _=>trivial) ?_ ?_
 ·rintro i x w y X ⟨k,fs,rfl,z,B⟩;obtain⟨rfl,hi⟩:=k0 X;refine⟨_,J,_,J,_,J,_,c9 k.at',d k.tape (by rw[YY];lia) (by rw[YY];have:=P.len;lia) λm S5 b0 b1 T5 O5 _=>?_⟩;have c:=k.draw T5 O5;rw[YY]at b1;have G:m.toNat<es.length:=by lia
  refine⟨_,pairS es[m.toNat],c9 c.at',?_,by rw[YY];show _<100000;lia,c,fs++[es[m.toNat]],?_,λe h=>?_,by simp[B]⟩
  ·have:=j3 (xs:=es.map pairS) (j:=m.toNat) (v:=pairS es[m.toNat]) (by rw[Yj,Ya G];rfl)
   rwa [A0v b0]at this
  ·rw[Yo];rfl
  ·rcases Yz.mp h with h | h
   ·exact z e h
   ·rw[Yt.mp h];exact Zs G
 ·rintro w y ⟨k,fs,rfl,z,B⟩;rw[l7]at B;have c:=k.push (o := .lst (fs.map pairS));have a2:=P.len;refine⟨_,_,c.at',f7,by simp;show _<=100000;lia,?_⟩;rw[<-Yo];refine E7 a d (es:=es++fs) (λe h=>?_) (by rw[Yd];lia) P.few ⟨c.tape.push,c.on.push,f7,?_,A.t0⟩ λC b W L=>q C b W (by rw[Yd]at L;lia)
  ·rcases Yz.mp h with h | h
   ·exact P.en e h
   ·exact P.en e (z e h)
  ·have:=c.on.len;exact this
def Sv{c:Bool->Bool}(a:∀ f,MonoN (Δ f))(j:t6 (Δ kd))(k:E6 c (Δ kp)){D:Df}(r:D.body=Xl kd kp)(s:D.N.length=7)(d:D.ps.length=2):WebKSp c (j7 Δ D):=by
 intro t g S Q T q;unfold j7;rw[r,s];refine⟨d.symm,?_⟩;have m:=T.lt;refine⟨_,J,_,J,k T λn p l S1 P C u v w x=>?_⟩;have y:Ah t S S1 l p:=⟨w,x,u,v,m⟩
 refine⟨_,J,by show 0<=big;decide,?_⟩;have b:=y.push (o:=SO.lst []);refine⟨_,_,b.at',f7,.inr (.inr J),_,J,?_⟩;rw[Ho];refine ifB (λ_=>?_) (λ_=>Hq a j P b λfs e W L h i=>q n fs e W (λz=>by have:=C z;lia) h i);refine⟨_,J,_,J,k b.tape λn p l I A C B E G H=>?_⟩;exact Hq a j A ⟨G,b.on.trans H,B,by have:=b.on.len;lia,m⟩ λfs e W L h i=>q n fs e W (λz=>by have:=C z;lia) h i
end
def Pt:U Stm:=[.ret (.and (.bi .isi (vB vG (.tyc .int))) (.not (.bi .isi (vB vG (.tyc .bool)))))]
def FL(k:Nat):U Stm:=[.ret (.and (.call k (vA vH)) (.chn .LtE .Lt vJ vH kE))]
def Kj(k:Nat):U Stm:=[.ret (.and (.call k (vA vH)) (.chn .LtE .Lt vJ vH kI))]
def Fx(k:Nat):U Stm:=[.iff (.not (.call k (vB vG vH))) [.no] []]
def Kk(k:Nat):U Stm:=[.expr (.call k (vB vG vH)),.ret (.comp ["tie","ends"] ["place"] [1] (.tup (.cons (.nm 0) (.cons (.nm 1) .nil))) (.enum kC) (.yes (.cmp .In vI vH)) vG)]
def Kl(k:Nat):U Stm:=[.expr (.call k (vB vG vH)),.asg (.tup (.cons (.nm 3) (.cons (.nm 4) .nil))) (.ix kC vH),.iff (.cmp .Eq vI vL) [.ret vM] [],.iff (.cmp .Eq vI vM) [.ret vL] [],.no]
def DU(s:Sn):Prop:=∀{i:Int} {S:Sto} {Q:QE},Q (.bl aC) S->s [.int i] S Q
def CO(s:Sn):Prop:=∀{n p:Nat} {es:EE} {S:Sto} {Q:QE},p<n->Q (.bl aC) S->s [g9 n es,.int p] S Q
def E8(s:Sn):Prop:=∀{n j:Nat} {es:EE} {S:Sto} {Q:QE},j<es.length->Q (.bl aC) S->s [g9 n es,.int j] S Q
def BS(s:Sn):Prop:=∀{n p:Nat} {es:EE} {S:Sto} {Q:QE},p<n->Q .non S->s [g9 n es,.int p] S Q
def BT(s:Sn):Prop:=∀{n j:Nat} {es:EE} {S:Sto} {Q:QE},j<es.length->Q .non S->s [g9 n es,.int j] S Q
def i5(es:EE)(p:Nat)(i:Nat):U Nat:=(Ye i).filter λj=>match es[j]? with | some e=>decide (e.1=p)||decide (e.2=p) | none=>aD
def natS(xs:U Nat):U SV:=xs.map λ(i:Nat)=>SV.int i
def Ar(s:Sn):Prop:=∀{n p:Nat} {es:EE} {S:Sto} {Q:QE},es.length<=5000->p<n->Q (.loc S.length) (S++[.lst (natS (i5 es p es.length))])->s [g9 n es,.int p] S Q
def Fy(e:Nat×Nat)(p:Nat):Nat:=if p=e.1 then e.2 else e.1
def Ci(s:Sn):Prop:=∀{n p j:Nat} {es:EE} {e:Nat×Nat} {S:Sto} {Q:QE},es[j]?=O e->(p=e.1\/p=e.2)->Q (.int (Fy e p)) S->s [g9 n es,.int j,.int p] S Q
section
variable{Δ:Nat->Sn}
def Pu{D:Df}(a:D.body=Pt)(b:D.N.length=1)(c:D.ps.length=1):DU (j7 Δ D):=by intro i S Q q;unfold j7;rw[a,b];exact⟨c.symm,_,J,_,nofun,J,_,J,ifT J ⟨_,J,_,nofun,J,_,J,q⟩⟩
def Hr{k:Nat}(a:DU (Δ k)){D:Df}(b:D.body=FL k)(c:D.N.length=2)(d:D.ps.length=2):CO (j7 Δ D):=by intro n p e S Q h q;unfold j7;rw[b,c];refine⟨d.symm,_,J,a ⟨_,J,ifT J ⟨_,J,_,J,ifT (decide_eq_true (A0O p)) ⟨_,J,_,_,J,J,?_⟩⟩⟩⟩;show Q (.bl (decide ((p:Int)<n))) S;rw[decide_eq_true (by lia)];exact q
def Ml{k:Nat}(a:DU (Δ k)){D:Df}(b:D.body=Kj k)(c:D.N.length=2)(d:D.ps.length=2):E8 (j7 Δ D):=by intro n p e S Q h q;unfold j7;rw[b,c];refine⟨d.symm,_,J,a ⟨_,J,ifT J ⟨_,J,_,J,ifT (decide_eq_true (A0O p)) ⟨_,J,_,_,J,J,_,J,?_⟩⟩⟩⟩;show Q (.bl (decide ((p:Int)<(e.map pairS).length))) S;rw[decide_eq_true (by rw[YY];lia)];exact q
def Eg{k:Nat}(a:CO (Δ k)){D:Df}(b:D.body=Fx k)(c:D.N.length=2)(d:D.ps.length=2):BS (j7 Δ D):=by intro n p e S Q h q;unfold j7;rw[b,c];exact⟨d.symm,_,J,_,J,a h ⟨_,J,ifF J q⟩⟩
def Hs{k:Nat}(a:E8 (Δ k)){D:Df}(b:D.body=Fx k)(c:D.N.length=2)(d:D.ps.length=2):BT (j7 Δ D):=by intro n p e S Q h q;unfold j7;rw[b,c];exact⟨d.symm,_,J,_,J,a h ⟨_,J,ifF J q⟩⟩
def Fz{a:U SV}{i:Nat}{x:SV}(h:(Bm a)[i]?=O x):∃ y,a[i]?=O y/\x = .tup [.int i,y]:=by
 unfold Bm at h;rw[A0b]at h;cases hy:a[i]? with
 | none=>rw[hy]at h;revert h;cases(Ye a.length)[i]?<;>exact nofun
 | some y=>
   have b:=(gM hy).1;rw[hy,ZZ b]at h;exact⟨y,J,(oj h).symm⟩
def Km{a:U SV}:(Bm a).length=a.length:=by unfold Bm;simp
def A8{a:EE}{i:Nat}{x:SV}(h:(a.map pairS)[i]?=O x):∃ e,a[i]?=O e/\x=pairS e:=by
 rw[Yj]at h;cases he:a[i]? with
 | none=>rw[he]at h;cases h
 | some e=>rw[he]at h;exact⟨e,J,(oj h).symm⟩
def DV(p:Nat)(e:Nat×Nat):inS (.int p) [.int e.1,.int e.2]=(decide (e.1=p)||decide (e.2=p)):=by
 have k:∀ a:Nat,((a:Int) == (p:Int))=decide (a=p):=λa=>by
  rw[Za];simp[ZI]
 show(((e.1:Int) == (p:Int))||(((e.2:Int) == (p:Int))||false))=_;rw[A10,k,k]
def Bt(a:EE)(p i:Nat){e:Nat×Nat}(h:a[i]?=O e):i5 a p (i+1)=i5 a p i++if (decide (e.1=p)||decide (e.2=p))=aC then [i] else []:=by
 unfold i5;rw[ZV,Ze]
 congr 1
 rw[ZC,h];rfl
def JT(a:EE)(p i:Nat):(i5 a p i).length<=i:=by have:=Z5 (λj=>match a[j]? with | some e=>decide (e.1=p)||decide (e.2=p) | none=>aD) (Ye i);rw[Z0]at this;exact this
def mem_tiesAt{b:EE}{p j:Nat}:j∈i5 b p b.length↔∃ e,b[j]?=O e/\(e.1=p\/e.2=p):=by
 unfold i5;rw[Yu,Yr];constructor
 ·rintro⟨h,a⟩;rw[Ya h]at a;exact⟨_,Ya h,by simpa using a⟩
 ·rintro⟨e,h,a⟩;refine⟨(gM h).1,?_⟩;rw[h];simpa using a
def Mm{k:Nat}(a:∀ f,MonoN (Δ f))(j:BS (Δ k)){D:Df}(l:D.body=Kk k)(m:D.N.length=2)(o:D.ps.length=2):Ar (j7 Δ D):=by
 intro n p b S Q t h q;unfold j7;rw[l,m];refine⟨o.symm,_,J,_,J,j h ⟨_,J,_,_,J,J,_,J,?_⟩⟩;refine i4 (g8 a _).2 (c8 a _).1 (λi c d=>d=S/\c=natS (i5 b p i)) ⟨J,J⟩ (λ_ _ _ _=>trivial) ?_ ?_
 ·rintro i x c d r ⟨rfl,rfl⟩;obtain⟨y,s,rfl⟩:=Fz r;obtain⟨e,g,rfl⟩:=A8 s;have u:=(gM g).1;have v:=JT b p i;refine⟨_,J,_,J,J,_,J,J,_,J,?_⟩;show if inS (.int p) [.int e.1,.int e.2]=aC then _ else _
  rw[DV];refine ifB (λh=>?_) (λh=>?_)
  ·refine⟨_,J,by show(natS _).length<100000;unfold natS;rw[YY];lia,J,?_⟩;rw[Bt b p i g,iP h];unfold natS;rw[Yo];rfl
  ·refine⟨J,?_⟩;rw[Bt b p i g,iG (by rw[h];decide),ZD]
 ·rintro c d ⟨rfl,rfl⟩;rw[Km,YY];exact q
def Mn{k:Nat}(d:BT (Δ k)){D:Df}(f:D.body=Kl k)(g:D.N.length=5)(i:D.ps.length=3):Ci (j7 Δ D):=by
 intro n p j l e S Q b h q;unfold j7;rw[f,g];refine⟨i.symm,_,J,_,J,d (gM b).1 ⟨_,J,_,_,J,J,_,J,_,pairS e,J,j3 (by rw[Yj,b];rfl),?_⟩⟩;refine⟨_,J,_,J,_,J,?_⟩;refine ifD (λa=>⟨_,J,?_⟩) (λa=>⟨_,J,_,J,_,J,ifD (λc=>⟨_,J,?_⟩) (λc=>?_)⟩)
 ·have a:p=e.1:=ZI.mp a;unfold Fy at q;rw[iP a]at q;exact q
 ·have a:¬ p=e.1:=λz=>a (congrArg _ z);unfold Fy at q;rw[iG a]at q;exact q
 ·rcases h with h | h
  ·exact absurd (congrArg Nat.cast h) a
  ·exact absurd (congrArg Nat.cast h) c
end
def g0{xs:U Nat}:(natS xs).length=xs.length:=by unfold natS;rw[YY]
def m7{a:U Nat}{i x:Nat}(h:a[i]?=O x):(natS a)[i]?=O (.int x):=by unfold natS;rw[Yj,h];rfl
def t5{a b:U Nat}:natS (a++b)=natS a++natS b:=by unfold natS;rw[Yo]
def Kn(m:Nat):Av 0 (m:Int)=natS (Ye m):=by unfold Av natS;simp
structure Gw(S S':Sto):Prop where
 len:S.length<=S'.length
 keep:∀(k:Nat) (o:SO),S[k]?=O o->S'[k]?=O o
def Gw.refl(S:Sto):Gw S S:=⟨Ym _,λ_ _ h=>h⟩
def Gw.push{S a:Sto}{o:SO}(h:Gw S a):Gw S (a++[o]):=⟨by rw[Yd];have:=h.len;lia,λk u z=>f8 (h.keep k u z)⟩
def Gw.put{S a:Sto}{o:SO}{k:Nat}(h:Gw S a)(b:S.length<=k):Gw S (a.set k o):=⟨by rw[ZH];exact h.len,λj u z=>by
 rw[v7 (λe=>by have:=FK z;lia)];exact h.keep j u z⟩
def Gw.trans{S d c:Sto}(a:Gw S d)(b:Gw d c):Gw S c:=⟨Z6 a.len b.len,λk o h=>b.keep k o (a.keep k o h)⟩
def FM(a:U Nat):(natS a).all AE=aC:=by unfold natS;rw[A1g,ZJ];exact λ_ _=>rfl
def g1':Stm:=(.asg (.nm 1) (.lrng1 kE))
def g2':Stm:=(.loop (.tup (.cons (.nm 2) (.cons (.nm 3) .nil))) (.seq kC) [.asg (.nm 4) (.bi .min (vB (.ix vH vI) (.ix vH vL))),.asg (.nm 5) (.bi .max (vB (.ix vH vI) (.ix vH vL))),.asg (.nm 1) (.comp ["first"] ["high","low"] [5,4] (.nm 0) (.seq vH) .no (.ife (.cmp .Eq vG vH) vI vG))])
def g3':Stm:=(.ret (.comp ["first"] ["least","web"] [1,0] (.nm 0) (.rng1 kE) (.yes (.cmp .Eq (.ix vH vG) vG)) (.comp ["place"] ["least","first"] [1,0] (.nm 0) (.rng1 kM) (.yes (.cmp .Eq (.ix vH vG) vI)) vG)))
def Pv:U Stm:=[g1',g2',g3']
def Eh(a b x:Nat):Nat:=if x=max a b then min a b else x
def GA(a b:Nat):(if (b:Int)<a then (b:Int) else a)=((min a b:Nat):Int):=by split<;>lia
def Ko(a b:Nat):(if (b:Int)>a then (b:Int) else a)=((max a b:Nat):Int):=by split<;>lia
def gc':Stm:=(.asg (.nm 1) (.comp ["first"] ["high","low"] [5,4] (.nm 0) (.seq vH) .no (.ife (.cmp .Eq vG vH) vI vG)))
def Pw{n:Nat->Sn}(d:∀ f,MonoN (n f)){D:EndsS}{a b k:Nat}{i l:Int}{w o p:Option SV}{c:U Nat}{S:Sto}(s:i=((min a b:Nat):Int))(t:l=((max a b:Nat):Int))(v:c.length<=1000)(u:S[k]?=O (.lst (natS c)))
 (q:D.nx [w,O (.loc S.length),o,p,O (.int i),O (.int l)] (S++[.lst (natS (c.map (Eh a b)))])):wSs n [gc'] D [w,O (.loc k),o,p,O (.int i),O (.int l)] S:=by
 subst s t;refine⟨_,J,_,c9 u,?_⟩;refine i4 (g8 d _).2 (c8 d _).1 (λj m S2=>S2=S/\m=natS ((c.take j).map (Eh a b))) ⟨J,J⟩ (λ_ _ _ h=>by rw[h.1];exact J) ?_ ?_
 ·rintro j y m S2 e ⟨rfl,rfl⟩;have r:j<c.length:=by have:=(gM e).1;rwa [g0]at this
  rw[m7 (Ya r)]at e;have e:=oj e;subst e
  have g:∀ z:Int,z=Eh a b c[j]->(natS ((c.take j).map (Eh a b))).length<big/\S2=S2/\natS ((c.take j).map (Eh a b))++[.int z]=natS ((c.take (j+1)).map (Eh a b)):=by
   rintro _ rfl;refine⟨by rw[g0,YY,ZG];show _<100000;lia,J,?_⟩;rw[ZA,Ya r,Yo,t5];rfl
  refine⟨_,J,_,J,_,J,ifD (λh=>⟨_,J,g _ ?_⟩) (λh=>⟨_,J,g _ ?_⟩)⟩
  ·have h:c[j]=max a b:=ZI.mp h;unfold Eh;rw[iP h]
  ·have h:¬ c[j]=max a b:=λz=>h (congrArg _ z);unfold Eh;rw[iG h]
 ·rintro m S2 ⟨rfl,rfl⟩;rw[g0,Z1];exact q
end Rf
namespace Hue
def lowO(ms:U Nat)(e:Nat×Nat):Nat:=min (ms.getD e.1 0) (ms.getD e.2 0)
def highO(ms:U Nat)(e:Nat×Nat):Nat:=max (ms.getD e.1 0) (ms.getD e.2 0)
def bring(ms:U Nat)(e:Nat×Nat):U Nat:=ms.map λx=>if x=highO ms e then lowO ms e else x
def Cj(n:Nat)(es:EE):U Nat:=es.foldl bring (Ye n)
structure Mk(n:Nat)(ms:List Nat):Prop where
 len:ms.length=n
 le:∀ i (h:i<ms.length),ms[i]<=i
 fix:∀ i (h:i<ms.length),ms[ms[i]]?=O ms[i]
def Ht(n:Nat):Mk n (Ye n):=⟨by simp,λi h=>by simp,λi h=>by
 have a:i<n:=by simpa using h
 simp[ZZ,a]⟩
def Px{n:Nat}{a:U Nat}(M:Mk n a){e:Nat×Nat}(f:e.1<n)(g:e.2<n):Mk n (bring a e):=by
 have l1:e.1<a.length:=by rw[M.len];exact f
 have l2:e.2<a.length:=by rw[M.len];exact g
 have j:a.getD e.1 0=a[e.1]:=by simp[Zl,l1]
 have k:a.getD e.2 0=a[e.2]:=by simp[Zl,l2]
 have l:a[lowO a e]?=O (lowO a e):=by
  unfold lowO;rw[j,k];rcases A2f a[e.1] a[e.2] with z | z
  ·rw[A1W z];exact M.fix _ l1
  ·rw[A1Q z];exact M.fix _ l2
 have m:lowO a e<=highO a e:=by unfold lowO highO;lia
 have b:∀ i (h:i<(bring a e).length),(bring a e)[i]=if a[i]'(by simpa[bring] using h)=highO a e then lowO a e else a[i]'(by simpa[bring] using h):=λi h=>by simp[bring]
 refine⟨by rw[bring,YY,M.len],λi h=>?_,λi h=>?_⟩
 ·rw[b i h];have d:i<a.length:=by simpa[bring] using h
  have:=M.le i d;split
  ·rename_i q;lia
  ·exact this
 ·have d:i<a.length:=by simpa[bring] using h
  have c:∀ v,a[v]?=O v->(v≠highO a e\/v=lowO a e)->(bring a e)[v]?=O v:=by
   intro v o q;unfold bring;rw[Yj,o];show O (if v=highO a e then lowO a e else v)=O v;rcases q with q | q
   ·rw[iG q]
   ·split
    ·rw[<-q]
    ·rfl
  rw[b i h];split
  ·exact c _ l (.inr J)
  ·rename_i q;exact c _ (M.fix i d) (.inl q)
theorem E9{n:Nat}:∀{es:EE} {ms:U Nat},Mk n ms->(∀ e∈es,e.1<n/\e.2<n)->Mk n (es.foldl bring ms)
 | [],_,M,_=>M
 | e::es,ms,M,h=>E9 (es:=es) (ms:=bring ms e) (Px M (h e (Yi ..)).1 (h e (Yi ..)).2) λf a=>h f (Yh _ a)
def Cl(es:EE)(C:Nat->Prop):Prop:=∀ e∈es,C e.1↔C e.2
def Bu{ms:U Nat}{e:Nat×Nat}{p:Nat}(h:p<ms.length):(bring ms e).getD p 0=if ms.getD p 0=highO ms e then lowO ms e else ms.getD p 0:=by unfold bring;simp[Zl,h]
def C3{ms:U Nat}{e:Nat×Nat}:(bring ms e).length=ms.length:=by simp[bring]
def Hu(ms:U Nat)(e:Nat×Nat):(lowO ms e=ms.getD e.1 0/\highO ms e=ms.getD e.2 0)\/(lowO ms e=ms.getD e.2 0/\highO ms e=ms.getD e.1 0):=by
 unfold lowO highO;rcases A2f (ms.getD e.1 0) (ms.getD e.2 0) with z | z
 ·exact .inl ⟨A1W z,Nat.max_eq_right z⟩
 ·exact .inr ⟨A1Q z,Nat.max_eq_left z⟩
theorem Hv{n:Nat}{C:Nat->Prop}:∀{es:EE} {ms:U Nat},ms.length=n->(∀ e∈es,e.1<n/\e.2<n)->Cl es C->(∀ p,p<n->(C p↔C (ms.getD p 0)))->∀ p,p<n->(C p↔C ((es.foldl bring ms).getD p 0))
 | [],_,_,_,_,h=>h
 | e::es,ms,o,g,i,h=>by
   refine Hv (es:=es) (ms:=bring ms e) (by rw[C3,o]) (λf d=>g f (Yh _ d)) (λf d=>i f (Yh _ d)) λp q=>?_;have j:=g e (Yi ..);have k:=h e.1 j.1;have l:=h e.2 j.2;have m:=i e (Yi ..);have c:=h p q;rw[Bu (by lia)];split
   ·rename_i z;rw[z]at c;rcases Hu ms e with⟨a,b⟩ | ⟨a,b⟩
    ·rw[a];rw[b]at c;exact c.trans (l.symm.trans (m.symm.trans k))
    ·rw[a];rw[b]at c;exact c.trans (k.symm.trans (m.trans l))
   ·exact c
def Py{n:Nat}{a:EE}{C:Nat->Prop}(b:∀ e∈a,e.1<n/\e.2<n)(c:Cl a C){p:Nat}(d:p<n):C p↔C ((Cj n a).getD p 0):=by refine Hv (ms:=Ye n) (by simp) b c (λq f=>?_) p d;simp[Zl,f]
theorem Hw{n:Nat}{a b:Nat}:∀{es:EE} {ms:U Nat},ms.length=n->a<n->b<n->ms.getD a 0=ms.getD b 0->(es.foldl bring ms).getD a 0=(es.foldl bring ms).getD b 0
 | [],_,_,_,_,h=>h
 | e::es,ms,c,d,f,h=>by
   refine Hw (es:=es) (ms:=bring ms e) (by rw[C3,c]) d f ?_;rw[Bu (by lia),Bu (by lia),h]
theorem FN{n:Nat}:∀{es:EE} {ms:U Nat},ms.length=n->(∀ e∈es,e.1<n/\e.2<n)->∀ e∈es,(es.foldl bring ms).getD e.1 0=(es.foldl bring ms).getD e.2 0
 | f::es,ms,d,h,e,c=>by
   rcases Yp.mp c with rfl | c
   ·have i:=h e (Yi ..);refine Hw (es:=es) (ms:=bring ms e) (by rw[C3,d]) i.1 i.2 ?_;rw[Bu (by lia),Bu (by lia)];rcases Hu ms e with⟨a,b⟩ | ⟨a,b⟩
    ·rw[a,b];simp
    ·rw[a,b];simp
   ·exact FN (es:=es) (ms:=bring ms f) (by rw[C3,d]) (λg j=>h g (Yh _ j)) e c
def JU{n:Nat}{a:EE}(b:∀ e∈a,e.1<n/\e.2<n):∀ e∈a,(Cj n a).getD e.1 0=(Cj n a).getD e.2 0:=FN (by simp) b
end Hue
namespace L2
open PySem PySem.Spec PyProof.Rows
structure Sz(k b:Nat)(d:PyData):Prop where
 dp:d.depth<=k
 bk:d.bulk<=b
 sh:d.showable=aC
 lf:d.leavesShort 100=aC
def Sz.mono{k b a c:Nat}{d:PyData}(h:Sz k b d)(e:k<=a)(f:b<=c):Sz a c d:=⟨Z6 h.dp e,Z6 h.bk f,h.sh,h.lf⟩
def Sz.fit{k b:Nat}{d:PyData}(h:Sz k b d)(a:k<=40)(c:b<=100000):Fit d:=⟨h.sh,by
 have:=PyData.shown_le_bulk 100 (by decide) d h.lf;have e:=h.bk;rw[A3j]
 lia,Z6 h.dp a⟩
structure SzA(k b n:Nat)(ds:List PyData):Prop where
 dp:PyData.depthAll ds<=k
 bk:PyData.bulkAll ds<=n * (b+1)
 sh:PyData.showableAll ds=aC
 lf:PyData.leavesShortAll 100 ds=aC
def SzA.nil{k b:Nat}:SzA k b 0 []:=⟨by simp[PyData.depthAll],by simp[PyData.bulkAll],by simp[PyData.showableAll],by simp[PyData.leavesShortAll]⟩
def SzA.cons{k b n:Nat}{d:PyData}{c:U PyData}(h:Sz k b d)(a:SzA k b n c):SzA k b (n+1) (d::c):=by
 refine⟨?_,?_,?_,?_⟩
 ·simp only[PyData.depthAll];have:=h.dp;have:=a.dp;lia
 ·simp only[PyData.bulkAll];have:=h.bk;have:=a.bk;rw[A0L]
  lia
 ·simp only[PyData.showableAll,h.sh,a.sh];rfl
 ·simp only[PyData.leavesShortAll,h.lf,a.lf];rfl
theorem SzA.list{k b n:Nat}{a:U PyData}(h:SzA k b n a):Sz (k+1) (n * (b+1)) (.list a):=⟨by simp only[PyData.depth];have:=h.dp;lia,by simp only[PyData.bulk];exact h.bk,by simp only[PyData.showable];exact h.sh,by simp only[PyData.leavesShort];exact h.lf⟩
theorem SzA.tuple{k b n:Nat}{a:U PyData}(h:SzA k b n a):Sz (k+1) (n * (b+1)) (.tuple a):=⟨by simp only[PyData.depth];have:=h.dp;lia,by simp only[PyData.bulk];exact h.bk,by simp only[PyData.showable];exact h.sh,by simp only[PyData.leavesShort];exact h.lf⟩
noncomputable def DN(k b:Nat)(H:Hp)(x:V):Prop:=∃ d,Dat H x d/\Sz k b d
theorem DN.int{k b:Nat}{H:Hp}{i:Int}(h:i.natAbs.log2<90):DN k b H (.int i):=⟨.int i,by unfold Dat;rfl,by simp[PyData.depth],by simp[PyData.bulk],by simp only[PyData.showable,dQ];lia,by
 have:=int_text_length_le (a:=i) (k:=90) (by decide) h;simp only[PyData.leavesShort,PyData.shown];refine decide_eq_true ?_;show(Str.ofString (toString i)).length<=100;rw[PySem.ofString_length]
 lia⟩
end L2
namespace Rf
open PySem L2
def Ax(es:EE)(t:Nat):Nat×Nat:=es.getD t (0,0)
def B2{a:EE}{t:Nat}(h:t<a.length):a[t]?=O (Ax a t):=by unfold Ax;rw[Yg,Ya h];rfl
section
variable{Δ:Nat->Sn}
def t9{D:EndsS}{a:EnvS}{S:Sto}(h:D.nx a S):wSs Δ [] D a S:=h
end
end Rf
namespace Hue
theorem len_split{b:Type}(p q:b->Bool):∀ l:U b,(l.filter p).length=(l.filter λa=>p a&&q a).length+(l.filter λa=>p a&&!q a).length
 | []=>rfl
 | a::l=>by
   have c:=len_split p q l;rw[ZC,ZC,ZC];cases p a<;>cases q a<;>simp<;>lia
theorem Hx{e:Type}{p q:e->Bool}:∀{l:U e},(∀ a∈l,q a=aC->p a=aC)->(∃ a∈l,p a=aC/\q a=aD)->(l.filter q).length<(l.filter p).length
 | c::l,h,⟨a,b,f,g⟩=>by
   have k:∀{l:U e},(∀ a∈l,q a=aC->p a=aC)->(l.filter q).length<=(l.filter p).length:=by
    intro l
    induction l with
    | nil=>intro _;exact Ym _
    | cons c l m=>
      intro h;have i:=m λa b=>h a (Yh _ b);have d:=h c (Yi ..);rw[ZC,ZC];cases hq:q c<;>cases hp:p c<;>simp<;>first | lia | (rw[hq,hp]at d;exact absurd (d J) (by decide))
   have j:∀ a∈l,q a=aC->p a=aC:=λa b=>h a (Yh _ b);rw[ZC,ZC];rcases Yp.mp b with rfl | ha'
   ·rw[f,g];have:=k j;simp;lia
   ·have i:=Hx j ⟨a,ha',f,g⟩;have d:=h c (Yi ..);cases hq:q c<;>cases hp:p c<;>simp<;>first | lia | (rw[hq,hp]at d;exact absurd (d J) (by decide))
def mk(n:Nat)(es:EE)(p:Nat):Nat:=(Cj n es).getD p 0
def off(x:Nat)(es:EE):EE:=es.filter λe=>!(decide (e.1=x)||decide (e.2=x))
section
variable{n:Nat}{es:EE}(hn:∀ e∈es,e.1<n/\e.2<n)
include hn
theorem mk_le{p:Nat}(b:p<n):mk n es p<=p:=by
 have M:Mk n (Cj n es):=E9 (Ht n) hn;have a:p<(Cj n es).length:=by rw[M.len];exact b
 have:=M.le p a;unfold mk;simpa[Zl,a] using this
theorem mk_lt{p:Nat}(a:p<n):mk n es p<n:=Zz (mk_le hn a) a
theorem mk_mk{p:Nat}(b:p<n):mk n es (mk n es p)=mk n es p:=by
 have M:Mk n (Cj n es):=E9 (Ht n) hn;have a:p<(Cj n es).length:=by rw[M.len];exact b
 have:=M.fix p a;have e:mk n es p=(Cj n es)[p]:=by unfold mk;simp[Zl,a]
 rw[e];unfold mk;rw[Yg,this];rfl
theorem Pz{C:Nat->Prop}(a:Cl es C){p:Nat}(b:p<n):C p↔C (mk n es p):=Py hn a b
theorem mk_ends:∀ e∈es,mk n es e.1=mk n es e.2:=JU hn
theorem GB{C:Nat->Prop}(a:Cl es C){p q:Nat}(b:p<n)(c:q<n)(h:mk n es p=mk n es q):C p↔C q:=by rw[Pz hn a b,h];exact(Pz hn a c).symm
end
section
variable{n x:Nat}{es:EE}
def off_mem{e:Nat×Nat}:e∈off x es↔e∈es/\e.1≠x/\e.2≠x:=by unfold off;rw[Yu];simp
def off_hn(a:∀ e∈es,e.1<n/\e.2<n):∀ e∈off x es,e.1<n/\e.2<n:=λe b=>a e (off_mem.mp b).1
variable(hn:∀ e∈es,e.1<n/\e.2<n)
include hn
theorem Sw{p q:Nat}(a:p<n)(b:q<n)(h:mk n (off x es) p=mk n (off x es) q):mk n es p=mk n es q:=by refine(GB (C:=λr=>mk n es r=mk n es q) (off_hn hn) (λe c=>?_) a b h).mpr J;show mk n es e.1=_↔mk n es e.2=_;rw[mk_ends hn e (off_mem.mp c).1]
end
def dn(L:Nat->Nat)(e:Nat×Nat):Nat->Nat:=λp=>if p=e.2 then min (L e.1) (L e.2) else if p=e.1 then min (L e.1) (L e.2) else L p
def dnR(es:EE)(L:Nat->Nat):Nat->Nat:=es.foldl dn L
def dnN(es:EE):Nat->(Nat->Nat)->Nat->Nat
 | 0,L=>L
 | k+1,L=>dnR es (dnN es k L)
def U3{n:Nat}{N L:Nat->Nat}{e:Nat×Nat}(g:N e.1=N e.2)(c:e.1<n)(d:e.2<n)(h:∀ p,p<n->N p<=L p):∀ p,p<n->N p<=dn L e p:=by
 intro p f;have a:=h e.1 c;have b:=h e.2 d;unfold dn;split
 ·rename_i z;rw[z];lia
 ·split
  ·rename_i z;rw[z];lia
  ·exact h p f
def GC{n:Nat}{N L:Nat->Nat}{e:Nat×Nat}(g:N e.1=N e.2)(d:e.1<n)(f:e.2<n)(h:∀ p,p<n->N p<=L p){p:Nat}(c:L p=N p):dn L e p=N p:=by
 have a:=h e.1 d;have b:=h e.2 f;unfold dn;split
 ·rename_i z;rw[z]at c ⊢;lia
 ·split
  ·rename_i z;rw[z]at c ⊢;lia
  ·exact c
theorem EA{n:Nat}{N:Nat->Nat}:∀{es:EE} {L:Nat->Nat},(∀ e∈es,N e.1=N e.2)->(∀ e∈es,e.1<n/\e.2<n)->(∀ p,p<n->N p<=L p)->(∀ p,p<n->N p<=dnR es L p)/\∀ p,L p=N p->dnR es L p=N p
 | [],L,_,_,h=>⟨h,λ_ z=>z⟩
 | e::es,L,c,d,h=>by
   have m:=c e (Yi ..);have b:=d e (Yi ..);have g:=EA (es:=es) (L:=dn L e) (λf a=>c f (Yh _ a)) (λf a=>d f (Yh _ a)) (U3 m b.1 b.2 h);exact⟨g.1,λp i=>g.2 p (GC m b.1 b.2 h i)⟩
theorem EB{n:Nat}{N:Nat->Nat}:∀{a:EE} {L:Nat->Nat},(∀ e∈a,N e.1=N e.2)->(∀ e∈a,e.1<n/\e.2<n)->(∀ p,p<n->N p<=L p)->∀ e∈a,(L e.1=N e.1\/L e.2=N e.2)->dnR a L e.1=N e.1/\dnR a L e.2=N e.2
 | f::a,L,j,k,h,e,o,q=>by
   have m:=j f (Yi ..);have b:=k f (Yi ..);have c:∀ e∈a,N e.1=N e.2:=λf i=>j f (Yh _ i);have d:∀ e∈a,e.1<n/\e.2<n:=λf i=>k f (Yh _ i);have g:=U3 m b.1 b.2 h;have l:=EA c d g;rcases Yp.mp o with rfl | he'
   ·have a1:=h e.1 b.1;have a2:=h e.2 b.2
    have r:dn L e e.1=N e.1:=by
     unfold dn;split
     ·lia
     ·rw[iP J];lia
    have s:dn L e e.2=N e.2:=by
     unfold dn;rw[iP J];lia
    exact⟨l.2 _ r,l.2 _ s⟩
   ·exact EB c d g e he' (q.imp (GC m b.1 b.2 h) (GC m b.1 b.2 h))
def EC(n:Nat)(N L:Nat->Nat):Nat:=((Ye n).filter λp=>decide (L p≠N p)).length
theorem Q0{n:Nat}{c:EE}(f:∀ e∈c,e.1<n/\e.2<n):∀ k,(∀ p,p<n->mk n c p<=dnN c k (λp=>p) p)/\(∀ p,p<n->mk n c p=p->dnN c k (λp=>p) p=mk n c p)/\(EC n (mk n c) (dnN c k λp=>p)=0\/EC n (mk n c) (dnN c k λp=>p)+k<=n)
 | 0=>⟨λp d=>mk_le f d,λp _ h=>h.symm,.inr (by
    have:=Z5 (λp=>decide (dnN c 0 (λp=>p) p≠mk n c p)) (Ye n);rw[Z0]at this;unfold EC;lia)⟩
 | k+1=>by
   obtain⟨m,s,j⟩:=Q0 f k;have i:=mk_ends f;show(∀ p,p<n->_<=dnR c (dnN c k λp=>p) p)/\(∀ p,p<n->_->dnR c (dnN c k λp=>p) p=_)/\(EC n (mk n c) (dnR c (dnN c k λp=>p))=0\/EC n (mk n c) (dnR c (dnN c k λp=>p))+(k+1)<=n);generalize dnN c k (λp=>p)=L at *;have l:=EA i f m;refine⟨l.1,λp d h=>l.2 p (s p d h),?_⟩;by_cases o:EC n (mk n c) L=0
   ·left;have e:(Ye n).filter (λp=>decide (L p≠mk n c p))=[]:=ZT.mp o;rw[Zv]at e;unfold EC;rw[ZT,Zv];intro p d z;have:=e p d;simp only[dQ,ne_eq,Decidable.not_not]at this z;exact z (l.2 p this)
   ·right;have ⟨p,d⟩:∃ p,p∈(Ye n).filter (λp=>decide (L p≠mk n c p)):=List.exists_mem_of_ne_nil _ λz=>o (by unfold EC;rw[z];rfl);rw[Yu,Yr]at d;simp only[dQ]at d;obtain⟨d,v⟩:=d
    have r:∃ e∈c,((L e.1=mk n c e.1/\mk n c e.1=mk n c p)/\L e.2≠mk n c e.2)\/((L e.2=mk n c e.2/\mk n c e.2=mk n c p)/\L e.1≠mk n c e.1):=by
     refine Classical.byContradiction λno=>v ?_
     have w:Cl c λq=>L q=mk n c q/\mk n c q=mk n c p:=λe g=>by
      constructor
      ·rintro⟨a,b⟩;refine Classical.byContradiction λz=>no ⟨e,g,.inl ⟨⟨a,b⟩,λy=>z ⟨y,by rw[<-i e g];exact b⟩⟩⟩
      ·rintro⟨a,b⟩;refine Classical.byContradiction λz=>no ⟨e,g,.inr ⟨⟨a,b⟩,λy=>z ⟨y,by rw[i e g];exact b⟩⟩⟩
     exact((Pz f w d).mpr ⟨s _ (mk_lt f d) (mk_mk f d),mk_mk f d⟩).1
    obtain⟨e,g,r⟩:=r;have t:=f e g
    have u:EC n (mk n c) (dnR c L)<EC n (mk n c) L:=by
     refine Hx (λa _ h=>?_) ?_
     ·simp only[dQ]at h ⊢;exact λz=>h (l.2 a z)
     ·rcases r with⟨⟨a,_⟩,b⟩ | ⟨⟨a,_⟩,b⟩
      ·exact⟨e.2,Yr.mpr t.2,by simpa using b,by simpa using (EB i f m e g (.inl a)).2⟩
      ·exact⟨e.1,Yr.mpr t.1,by simpa using b,by simpa using (EB i f m e g (.inr a)).1⟩
    rcases j with j | j
    ·exact absurd j o
    ·lia
def dn_marks{n:Nat}{a:EE}(b:∀ e∈a,e.1<n/\e.2<n){p:Nat}(c:p<n):dnN a n (λp=>p) p=mk n a p:=by
 obtain⟨_,_,h⟩:=Q0 b n;have d:EC n (mk n a) (dnN a n λp=>p)=0:=by lia
 have e:(Ye n).filter (λp=>decide (dnN a n (λp=>p) p≠mk n a p))=[]:=ZT.mp d;rw[Zv]at e;have:=e p (Yr.mpr c);simpa using this
end Hue
namespace Rf
open PySem L2
def Mo{c:U Nat}{e:Nat×Nat}{a b:Nat}(d:c[e.1]?=O a)(f:c[e.2]?=O b):Hue.bring c e=c.map (Eh a b):=by
 have g:c.getD e.1 0=a:=by rw[Yg,d];rfl
 have h:c.getD e.2 0=b:=by rw[Yg,f];rfl
 unfold Hue.bring Hue.highO Hue.lowO;rw[g,h];rfl
def U4(k:Nat):U Stm:=[.loop (.nm 2) (.seq vH) [.expr (.call k (vB vG vI))],.ret (.tup (vB kE (.bi .tuple (vA (.comp ["tie"] ["web"] [0] (.nm 0) (.seq vH) .no (.ix (.ix vH vK) vG))))))]
def JV(s:Sn):Prop:=∀{n k:Nat} {es:EE} {js:U Nat} {S:Sto} {Q:QE},S[k]?=O (.lst (natS js))->js.length<=1000->(∀ j∈js,j<es.length)->(∀(S':Sto),Gw S S'->Q (g9 n (js.map λj=>es.getD j (0,0))) S')->s [g9 n es,.loc k] S Q
def v8{a:U Nat}{i:Nat}{x:SV}(h:(natS a)[i]?=O x):∃ j,a[i]?=O j/\x = .int j:=by
 unfold natS at h;rw[Yj]at h;cases hx:a[i]? with
 | none=>rw[hx]at h;cases h
 | some j=>rw[hx]at h;exact⟨j,J,(oj h).symm⟩
def Sx{Δ:Nat->Sn}(b:∀ f,MonoN (Δ f)){p:Nat}(u:BT (Δ p)){D:Df}(v:D.body=U4 p)(w:D.N.length=3)(y:D.ps.length=2):JV (j7 Δ D):=by
 intro n k c z S Q r B s q;unfold j7;rw[v,w];refine⟨y.symm,_,J,_,c9 r,?_⟩;refine n4 (i9 b _) (λi e d=>∃ o,e=[O (g9 n c),O (.loc k),o]/\d=S) ⟨aB,J,J⟩ (λ_ _ _ ⟨_,_,h⟩=>by rw[h];exact J) ?_ ?_
 ·rintro i x e d g ⟨o,rfl,rfl⟩;obtain⟨j,a,rfl⟩:=v8 g;exact⟨_,J,_,J,u (s j (Yb a)) ⟨_,J,J⟩⟩
 ·rintro e d ⟨o,rfl,rfl⟩;refine⟨_,J,_,_,J,J,_,J,_,c9 r,?_⟩;refine i4 (g8 b _).2 (c8 b _).1 (λi l S2=>S2=d/\l=((z.take i).map λj=>c.getD j (0,0)).map pairS) ⟨J,J⟩ (λ_ _ _ h=>by rw[h.1];exact J) ?_ ?_
  ·rintro i x l S2 g ⟨rfl,rfl⟩;obtain⟨j,a,rfl⟩:=v8 g;have m:=s j (Yb a);have A:=(gM a).1;have t:=Ya m;refine⟨_,J,_,_,J,J,_,J,_,pairS c[j],J,j3 (by rw[Yj,t];rfl),?_⟩;refine⟨by rw[YY,YY,ZG];show _<100000;lia,J,?_⟩;rw[ZA,a,Yo,Yo]
   congr 1
   show[pairS c[j]]=[pairS (c.getD j (0,0))]
   rw[Yg,t];rfl
  ·rintro l S2 ⟨rfl,rfl⟩;rw[g0,Z1];exact⟨_,c9 f7,by show 2<=big;decide,q _ (Gw.refl S2).push⟩
def Hy(a b:Nat):U Stm:=[.asg (.nm 2) (.call a (vB vG vH)),.ret (.call b (vB vG (.comp ["tie"] ["around"] [2] (.nm 0) (.rng1 kI) (.yes kO) vG)))]
def D7(s:Sn):Prop:=∀{n p:Nat} {es:EE} {S:Sto} {Q:QE},es.length<=1000->p<n->(∀(S':Sto),Gw S S'->Q (g9 n (Hue.off p es)) S')->s [g9 n es,.int p] S Q
def CD(es:EE)(p i:Nat):U Nat:=(Ye i).filter λj=>!(match es[j]? with | some e=>decide (e.1=p)||decide (e.2=p) | none=>aD)
def JW(a:EE):(Ye a.length).map (λj=>a.getD j (0,0))=a:=by
 apply A0D
 ·simp
 ·intro i c b;simp[Ya b]
def Mp(a:EE)(p:Nat):(CD a p a.length).map (λj=>a.getD j (0,0))=Hue.off p a:=by
 have e:CD a p a.length=(Ye a.length).filter ((λe:Nat×Nat=>!(decide (e.1=p)||decide (e.2=p)))∘λj=>a.getD j (0,0)):=by
  unfold CD;refine A0V λj b=>?_;have b:=Yr.mp b;show _=!(decide ((a.getD j (0,0)).1=p)||decide ((a.getD j (0,0)).2=p));rw[Yg,Ya b];rfl
 rw[e,<-A1X,JW];rfl
def D8(p:Nat)(b:U Nat):inS (.int p) (natS b)=decide (p∈b):=by
 rw[Za,dQ];unfold inS natS;rw[A1M,Zt];constructor
 ·rintro⟨a,c,h⟩;have h:((a:Int) == (p:Int))=aC:=h;rw[bQ]at h;have:=ZI.mp h;rw[<-this];exact c
 ·intro h;exact⟨p,h,by show((p:Int) == (p:Int))=aC;simp⟩
def JX{Δ:Nat->Sn}(c:∀ f,MonoN (Δ f)){r s:Nat}(A:Ar (Δ r))(B:JV (Δ s)){D:Df}(C:D.body=Hy r s)(E:D.N.length=3)(G:D.ps.length=2):D7 (j7 Δ D):=by
 intro n p a S Q P m q;unfold j7;rw[C,E];refine⟨G.symm,_,J,_,J,A (by lia) m ?_⟩;have t:(S++[SO.lst (natS (i5 a p a.length))])[S.length]?=O (.lst (natS (i5 a p a.length))):=f7;have H:Gw S (S++[SO.lst (natS (i5 a p a.length))]):=(Gw.refl S).push;generalize S++[SO.lst (natS (i5 a p a.length))]=S1 at *;generalize S.length=l at *;refine⟨_,J,_,J,_,_,J,J,_,J,_,J,⟨by rw[YY];lia,by rw[YY];lia⟩,?_⟩;refine i4 (g8 c _).2 (c8 c _).1 (λi o S2=>S2=S1/\o=natS (CD a p i)) ⟨J,J⟩ (λ_ _ _ _=>trivial) ?_ ?_
 ·rintro i x o S2 I ⟨rfl,rfl⟩;obtain⟨rfl,d⟩:=k0 I;rw[Zd]at d ⊢;rw[YY]at d;have d:i<a.length:=by lia
  have u:=Ya d
  have v:(CD a p i).length<=i:=by
   have:=Z5 (λj=>!(match a[j]? with | some e=>decide (e.1=p)||decide (e.2=p) | none=>aD)) (Ye i);rw[Z0]at this;exact this
  have g:CD a p (i+1)=CD a p i++if (i∈i5 a p a.length) then [] else [i]:=by
   unfold CD;rw[ZV,Ze]
   congr 1
   rw[ZC,u]
   have b:i∈i5 a p a.length↔(a[i].1=p\/a[i].2=p):=by
    rw[mem_tiesAt,u];exact⟨λ⟨e,z,y⟩=>by cases z;exact y,λy=>⟨_,J,y⟩⟩
   by_cases k:a[i].1=p\/a[i].2=p
   ·rw[iP (b.mpr k),iG (by rcases k with h | h<;>simp[h])];rfl
   ·rw[iG (λz=>k (b.mp z)),iP (by simpa using k)];rfl
  refine⟨_,J,_,J,?_⟩;show match Aj (.loc l) S2 with | some R=>_ | none=>_
  rw[Aq t];refine⟨J,_,c9 t,FM _,_,J,?_⟩;show if (!inS (.int i) (natS (i5 a p a.length)))=aC then _ else _
  rw[D8];by_cases b:i∈i5 a p a.length
  ·rw[iP b,ZD]at g;exact ifF (by simpa using b) ⟨J,by rw[g]⟩
  ·rw[iG b]at g;exact ifT (by simpa using b) ⟨_,J,by rw[g0];show _<100000;lia,J,by rw[g,t5];rfl⟩
 ·rintro o S2 ⟨rfl,rfl⟩;have e:(Av 0 ((a.map pairS).length:Int)).length=a.length:=by rw[l7,YY];lia
  rw[e]
  have K:(CD a p a.length).length<=a.length:=by
   have:=Z5 (λj=>!(match a[j]? with | some e=>decide (e.1=p)||decide (e.2=p) | none=>aD)) (Ye a.length);rw[Z0]at this;exact this
  refine B f7 (by lia) (λj w=>?_) λL M=>?_
  ·unfold CD at w;exact Yr.mp (Yu.mp w).1
  ·rw[Mp];exact q L (H.push.trans M)
structure WebC(n:Nat)(es:EE):Prop where
 en:∀ e∈es,e.1<e.2/\e.2<n
 len:es.length<=400
 few:n<=100
def Sy(x:Nat)(a:EE):(Hue.off x a).length<=a.length:=Z5 _ _
end Rf
namespace Hue
def oth(e:Nat×Nat)(x:Nat):Nat:=if e.1=x then e.2 else e.1
def sg(n:Nat)(es:EE)(x:Nat)(e:Nat×Nat):Nat:=mk n (off x es) (oth e x)
def Adj(es:EE)(p q:Nat):Prop:=∃ e∈es,(e.1=p/\e.2=q)\/(e.1=q/\e.2=p)
def Ch(es:EE):Nat->U Nat->Prop
 | _,[]=>True
 | p,q::l=>Adj es p q/\Ch es q l
def BZ:Nat->U Nat->Nat
 | p,[]=>p
 | _,q::l=>BZ q l
theorem FO:∀(l:U Nat) (p:Nat),BZ p l∈p::l
 | [],p=>Yi ..
 | q::l,p=>Yh _ (FO l q)
theorem Q1{e:EE}{a:Nat}:∀(l:U Nat) (b:Nat),Ch e b l->(b::l).Nodup->a∈b::l->∃ d,Ch e a d/\BZ a d=BZ b l/\(a::d).Nodup
 | [],b,_,_,h=>by
   have:a=b:=by simpa using h
   subst this;exact⟨[],True.intro,J,by simp⟩
 | q::l,b,c,f,h=>by
   rcases Yp.mp h with rfl | h
   ·exact⟨q::l,c,J,f⟩
   ·exact Q1 l q c.2 (ZP.mp f).2 h
section
variable{n:Nat}{es:EE}(hn:∀ e∈es,e.1<n/\e.2<n)
include hn
theorem BU{e:Nat×Nat}{x p:Nat}(c:e∈es)(a:e.1=p\/e.2=p)(b:p≠x):sg n es x e=mk n (off x es) p:=by
 unfold sg oth;split
 ·rename_i h;rcases a with a | a
  ·exact absurd (a.symm.trans h) b
  ·rw[a]
 ·rename_i h;rcases a with a | a
  ·rw[a]
  ·rw[<-a];exact mk_ends (off_hn hn) e (off_mem.mpr ⟨c,h,λz=>b (a.symm.trans z)⟩)
theorem T6{p q:Nat}(k:p<n)(m:q<n)(h:mk n es p=mk n es q):∃ l,Ch es p l/\BZ p l=q/\(p::l).Nodup:=by
 have f:∀ a b,Adj es a b->(∃ l,Ch es b l/\BZ b l=q/\(b::l).Nodup)->∃ l,Ch es a l/\BZ a l=q/\(a::l).Nodup:=by
  rintro a b o ⟨l,c,e,g⟩;by_cases i:a∈b::l
  ·obtain⟨s,t,u,d⟩:=Q1 l b c g i;exact⟨s,t,u.trans e,d⟩
  ·exact⟨b::l,⟨o,c⟩,e,ZP.mpr ⟨i,g⟩⟩
 refine(GB hn (C:=λr=>∃ l,Ch es r l/\BZ r l=q/\(r::l).Nodup) (λe j=>⟨f _ _ ⟨e,j,.inr ⟨J,J⟩⟩,f _ _ ⟨e,j,.inl ⟨J,J⟩⟩⟩) k m h).mpr ⟨[],True.intro,J,by simp⟩
theorem U5{v:Nat}:∀(l:U Nat) (a:Nat),Ch es a l->v∉a::l->mk n (off v es) a=mk n (off v es) (BZ a l)
 | [],_,_,_=>rfl
 | b::l,a,⟨⟨e,d,j⟩,c⟩,h=>by
   have f:a≠v:=λz=>h (z▸Yi ..);have g:v∉b::l:=λz=>h (Yh _ z);have i:b≠v:=λz=>g (z▸Yi ..);have k:=U5 l b c g;show mk n (off v es) a=mk n (off v es) (BZ b l);rw[<-k];rcases j with⟨rfl,rfl⟩ | ⟨rfl,rfl⟩
   ·exact mk_ends (off_hn hn) e (off_mem.mpr ⟨d,f,i⟩)
   ·exact(mk_ends (off_hn hn) e (off_mem.mpr ⟨d,i,f⟩)).symm
end
structure Cps(n:Nat)(es cs:EE):Prop where
 up:∀ c∈cs,c.1<c.2/\c.2<es.length
 so:∀ c∈cs,∃ v e f,es[c.1]?=O e/\es[c.2]?=O f/\(e.1=v\/e.2=v)/\(f.1=v\/f.2=v)/\sg n es v e=sg n es v f
 co:∀ t u e f v,v<n->es[t]?=O e->es[u]?=O f->(e.1=v\/e.2=v)->(f.1=v\/f.2=v)->sg n es v e=sg n es v f->mk es.length cs t=mk es.length cs u
def same(n:Nat)(es:EE)(t u:Nat):Prop:=∀ e f,es[t]?=O e->es[u]?=O f->∀ x,x<n->sg n es x e=sg n es x f
section
variable{n:Nat}{es cs:EE}(hn:∀ e∈es,e.1<n/\e.2<n)(H:Cps n es cs)
include hn H
theorem Cps.hn':∀ c∈cs,c.1<es.length/\c.2<es.length:=λc d=>let ⟨a,b⟩:=H.up c d;⟨A0h a b,b⟩
theorem Q2{t u:Nat}(m:t<es.length)(hu:u<es.length)(h:mk es.length cs t=mk es.length cs u):same n es t u:=by
 intro e f o p x A;have:=(GB (H.hn' hn) (C:=λr=>∀ g,es[r]?=O g->sg n es x g=sg n es x f) (λc q=>?_) m hu h).mpr (λg a=>by rw[p]at a;cases a;rfl)
 ·exact this e o
 ·obtain⟨v,k,l,i,j,s,w,y⟩:=H.so c q
  have d:sg n es x k=sg n es x l:=by
   by_cases b:v=x
   ·rw[<-b];exact y
   ·rw[BU hn (Yb i) s b,BU hn (Yb j) w b]
  constructor
  ·intro z g a;rw[j]at a;cases a;rw[<-d];exact z k i
  ·intro z g a;rw[i]at a;cases a;rw[d];exact z l j
theorem Hz{u q:Nat}{f:Nat×Nat}(k:es[u]?=O f)(s:f.1=q\/f.2=q):∀(l:U Nat) (p t:Nat) (e:Nat×Nat),es[t]?=O e->(e.1=p\/e.2=p)->Ch es p l->(p::l).Nodup->BZ p l=q->same n es t u->mk es.length cs t=mk es.length cs u
 | [],p,t,e,a,m,_,_,d,r=>by
   have d:p=q:=d;subst d;have o:p<n:=by have:=hn e (Yb a);rcases m with rfl | rfl<;>lia
   exact H.co t u e f p o a k m s (r e f a k p o)
 | b::l,p,t,e,a,m,⟨⟨g,A,B⟩,c⟩,G,d,r=>by
   have o:p<n:=by have:=hn e (Yb a);rcases m with rfl | rfl<;>lia
   have i:=ZP.mp G;have d:BZ b l=q:=d;obtain⟨j,v⟩:=Z4 A;have I:b≠p:=λz=>i.1 (z▸Yi ..);have K:q≠p:=λz=>i.1 (by rw[<-z,<-d];exact FO l b);have L:g.1=p\/g.2=p:=B.elim (λh => .inl h.1) λh => .inr h.2;have C:g.1=b\/g.2=b:=B.elim (λh => .inr h.2) λh => .inl h.1
   have M:sg n es p e=sg n es p g:=by
    rw[r e f a k p o,BU hn (Yb k) s K,BU hn A C I,<-d];exact(U5 hn l b c i.1).symm
   have D:=H.co t j e g p o a v m L M;have N:=(gM v).1;have P:=(gM a).1;have Q:=Q2 hn H P N D;rw[D];refine Hz k s l b j g v C c i.2 d λR S w y x E=>?_;rw[<-Q e R a w x E];exact r e S a y x E
theorem blk_iff{t u:Nat}(d:t<es.length)(hu:u<es.length):mk es.length cs t=mk es.length cs u↔same n es t u:=by
 refine⟨Q2 hn H d hu,λg=>?_⟩;have a:=Ya d;have b:=Ya hu;generalize es[t]=e at a;generalize es[u]=f at b;have b1:=hn e (Yb a);have b2:=hn f (Yb b);have j:=g e f a b 0 (by lia);have h:e.1=oth e 0\/e.2=oth e 0:=by unfold oth;split<;>simp
 have i:f.1=oth f 0\/f.2=oth f 0:=by unfold oth;split<;>simp
 have l1:oth e 0<n:=by rcases h with z | z<;>lia
 have l2:oth f 0<n:=by rcases i with z | z<;>lia
 obtain⟨l,c,k,m⟩:=T6 hn l1 l2 (Sw hn l1 l2 j);exact Hz hn H b i l _ t e a h c m k g
end
end Hue
namespace Rf
open PySem L2
def A9(P:Nat->Bool)(i:Nat):(Ye (i+1)).filter P=(Ye i).filter P++if P i=aC then [i] else []:=by rw[ZV,Ze,ZC];cases P i<;>rfl
def u7(P:Nat->Bool)(i:Nat):((Ye i).filter P).length<=i:=by
 have:=Z5 P (Ye i)
 rwa [Z0]at this
def rootsL(m:Nat->Nat)(n:Nat):U Nat:=(Ye n).filter λf=>decide (m f=f)
def clsF(m:Nat->Nat)(n f:Nat):U Nat:=(Ye n).filter λt=>decide (m t=f)
structure Cls(S:Sto)(l:Nat)(ls:List Nat)(cs:List (List Nat)):Prop where
 top:S[l]?=O (.lst (ls.map SV.loc))
 len:ls.length=cs.length
 row:∀(i k:Nat) (c:List Nat),ls[i]?=O k->cs[i]?=O c->S[k]?=O (.lst (natS c))
def B7(m:Nat->Nat)(n:Nat):U (U Nat):=(rootsL m n).map (clsF m n)
def Ck(s:Sn):Prop:=∀{n:Nat} {es:EE} {S:Sto} {Q:QE},(∀ e∈es,e.1<e.2/\e.2<n)->es.length<=1000->n<=1000->
 (∀(l:Nat) (ls:U Nat) (S':Sto),Gw S S'->S.length<=l->Cls S' l ls (B7 (Hue.mk n es) n)->ls.Pairwise (·<·)->(∀ k∈ls,S.length<=k/\k<l)->Q (.loc l) S')->s [g9 n es] S Q
def BL{d:Type}{c:U d}{a b:d}{j:Nat}(h:(c++[a])[j]?=O b):(j=c.length/\b=a)\/c[j]?=O b:=by
 rcases A2a j c.length with z | z
 ·rw[Yw z]at h;exact .inr h
 ·have e:j=c.length:=by
   have:=(gM h).1;rw[Yd,ZS]at this
   lia
  subst e;rw[ZQ (Ym _),A2g]at h;cases h;exact .inl ⟨J,J⟩
structure RwsTo(S0 S:Sto)(ls:List Nat)(cs:List (List Nat)):Prop where
 len:ls.length=cs.length
 row:∀(i k:Nat) (c:List Nat),ls[i]?=O k->cs[i]?=O c->S[k]?=O (.lst (natS c))
 up:ls.Pairwise (·<·)
 new:∀ k∈ls,S0.length<=k/\k<S.length
theorem RwsTo.nil(a S:Sto):RwsTo a S [] []:=⟨rfl,λi k c h=>by simp at h,.nil,λ_ h=>nomatch h⟩
def RwsTo.push{j S:Sto}{l:U Nat}{m:U (U Nat)}(h:RwsTo j S l m)(q:j.length<=S.length)(c:U Nat):RwsTo j (S++[.lst (natS c)]) (l++[S.length]) (m++[c]):=by
 refine⟨by rw[Yd,Yd,h.len];rfl,λi k n g d=>?_,?_,λk f=>?_⟩
 ·rcases BL g with⟨r,rfl⟩ | g
  ·rcases BL d with⟨_,rfl⟩ | d
   ·exact f7
   ·have:=(gM d).1;have:=h.len
    lia
  ·rcases BL d with⟨e,_⟩ | d
   ·have:=(gM g).1;have:=h.len
    lia
   ·exact f8 (h.row i k n g d)
 ·rw[A0G];exact⟨h.up,by simp,λa o b p=>by rw[Yt.mp p];exact(h.new a o).2⟩
 ·rw[Yd,ZS];rcases Yz.mp f with f | f
  ·have:=h.new k f;lia
  ·rw[Yt.mp f];lia
def JY{E:Nat->Sn}(g:∀ f,MonoN (E f)){n k:Nat}{K:EE}{r S:Sto}{Q:QE}{d:U Nat}{L M N P:Option SV}(hn:n<=1000)(H:d.length=n)(G:Gw r S)(I:S[k]?=O (.lst (natS d)))
 (q:∀(l:Nat) (e:U Nat) (m:Sto),Gw r m->r.length<=l->Cls m l e (B7 (λp=>d.getD p 0) n)->e.Pairwise (·<·)->(∀ k∈e,r.length<=k/\k<l)->Q (.loc l) m):wSs E [g3'] (p8 Q) [O (g9 n K),O (.loc k),L,M,N,P] S:=by
 refine⟨_,J,_,_,J,J,_,J,⟨by lia,by lia⟩,?_⟩;refine i4 (g8 g _).2 (c8 g _).1 (λi w m=>Gw S m/\∃ e:U Nat,w=e.map SV.loc/\RwsTo r m e ((rootsL (λp=>d.getD p 0) i).map (clsF (λp=>d.getD p 0) n))) ⟨Gw.refl S,[],J,RwsTo.nil r S⟩ (λ_ _ _ _=>trivial) ?_ ?_
 ·rintro i x w m T ⟨o,e,rfl,R⟩;obtain⟨rfl,V⟩:=k0 T;rw[Zd]at V ⊢;have A:i<d.length:=by rw[H];lia
  have s:=Ya A;have W:d.getD i 0=d[i]:=by rw[Yg,s];rfl
  have u:rootsL (λp=>d.getD p 0) (i+1)=rootsL (λp=>d.getD p 0) i++if d[i]=i then [i] else []:=by
   unfold rootsL;rw[A9];simp only[W,dQ]
  have X:e.length<=i:=by rw[R.len,YY];exact u7 _ _
  refine⟨_,J,_,J,_,_,c9 (o.keep _ _ I),j3 (m7 s),_,J,_,J,ifD (λh=>?_) (λh=>?_)⟩
  ·have h:d[i]=i:=ZI.mp h;rw[iP h]at u;refine⟨_,J,_,_,J,J,_,J,⟨by lia,by lia⟩,?_⟩;refine i4 (g8 g _).2 (c8 g _).1 (λj B S2=>S2=m/\B=natS (clsF (λp=>d.getD p 0) j i)) ⟨J,J⟩ (λ_ _ _ _=>trivial) ?_ ?_
   ·rintro j y B S2 hy ⟨rfl,rfl⟩;obtain⟨rfl,hj⟩:=k0 hy;rw[Zd]at hj ⊢;have C:j<d.length:=by rw[H];lia
    have t:=Ya C;have D:d.getD j 0=d[j]:=by rw[Yg,t];rfl
    have v:clsF (λp=>d.getD p 0) (j+1) i=clsF (λp=>d.getD p 0) j i++if d[j]=i then [j] else []:=by
     unfold clsF;rw[A9];simp only[D,dQ]
    have a0:(clsF (λp=>d.getD p 0) j i).length<=j:=u7 _ _;refine⟨_,J,_,J,_,_,c9 (o.keep _ _ I),j3 (m7 t),_,J,_,J,ifD (λh=>?_) (λh=>⟨J,?_⟩)⟩
    ·have h:d[j]=i:=ZI.mp h;rw[iP h]at v;exact⟨_,J,by rw[g0];show _<100000;lia,J,by rw[v,t5];rfl⟩
    ·have h:¬ d[j]=i:=λz=>h (congrArg _ z);rw[iG h,ZD]at v;rw[v]
   ·rintro B S2 ⟨rfl,rfl⟩;rw[l7];refine⟨by rw[YY];show _<100000;lia,o.push,e++[S2.length],by rw[Yo];rfl,?_⟩;rw[u,Yo];exact R.push (Z6 G.len o.len) _
  ·have h:¬ d[i]=i:=λz=>h (congrArg _ z);rw[iG h,ZD]at u;exact⟨o,e,J,by rw[u];exact R⟩
 ·rintro w m ⟨o,e,rfl,R⟩;rw[l7]at R;exact q _ e _ (G.trans o).push (G.trans o).len ⟨f7,R.len,λi k c a b=>f8 (R.row i k c a b)⟩ R.up R.new
def Mq{Δ:Nat->Sn}(g:∀ f,MonoN (Δ f)){D:Df}(B:D.body=Pv)(C:D.N.length=6)(E:D.ps.length=1):Ck (j7 Δ D):=by
 intro n r S Q s H z q;unfold j7;rw[B,C];refine⟨E.symm,_,J,_,_,J,J,_,J,⟨by lia,by lia⟩,?_⟩;rw[Kn];refine⟨_,J,_,_,J,J,_,J,?_⟩
 refine n4 (i9 g _) (λi t o=>∃(c:U Nat) (k:Nat) (u v w y:Option SV),t=[O (g9 n r),O (.loc k),u,v,w,y]/\c=(r.take i).foldl Hue.bring (Ye n)/\c.length=n/\Gw S o/\o[k]?=O (.lst (natS c)))
  ⟨Ye n,S.length,aB,aB,aB,aB,J,J,Z0,(Gw.refl S).push,f7⟩ (λ_ _ _ _=>trivial) ?_ ?_
 ·rintro i x t o I ⟨c,k,u,v,w,y,rfl,p,d,G,h⟩;obtain⟨e,A,rfl⟩:=A8 I;have K:=s e (Yb A);have m:=Ya (show e.1<c.length by rw[d];lia);have j:=Ya (show e.2<c.length by rw[d];lia);generalize c[e.1]'(by rw[d];lia)=a at *;generalize c[e.2]'(by rw[d];lia)=b at *
  have L:c.map (Eh a b)=(r.take (i+1)).foldl Hue.bring (Ye n):=by
   rw[<-Mo m j,ZA,A,A0r,<-p];rfl
  refine⟨_,J,_,J,_,_,c9 h,j3 (m7 m),_,J,_,J,_,_,c9 h,j3 (m7 j),⟨_,J,_,J,_,_,c9 h,j3 (m7 m),_,J,_,J,_,_,c9 h,j3 (m7 j),Pw g (GA a b) (Ko a b) (by rw[d];exact z) h ?_⟩⟩;exact⟨_,_,_,_,_,_,J,L,by rw[YY,d],G.push,f7⟩
 ·rintro t o ⟨c,k,u,v,w,y,rfl,p,d,G,h⟩;rw[YY,Z1]at p;exact JY g z d G h λl M S2 m P j R T=>q l M S2 m P (by rw[p]at j;exact j) R T
section
variable{n:Nat}{es:EE}{sd:Nat->Nat}{P0:U (Option Nat)}{starts:U Nat}{cm:Cm}
def cntAt(es:EE)(p:Nat):Nat:=(i5 es p es.length).length
end
def GD{k:Nat}{S:Sto}{a:U (Int×SV)}(h:S[k]?=O (.dct a)):ME (.loc k) S=O a:=by simp only[ME,h]
def kvL(ks:U Nat)(L:Nat->Nat):U (Int×SV):=ks.map λ(p:Nat)=>((p:Int),SV.int (L p))
theorem GE:∀{a:U Nat} {L:Nat->Nat} {i:Nat},i∈a->DK (kvL a L) i=O (.int (L i))
 | k::a,L,i,h=>by
   unfold DK kvL;rw[ZE,Zb];by_cases b:k=i
   ·subst b;simp
   ·have c:¬ ((k:Int)=(i:Int)):=λz=>b (ZI.mp z);rw[decide_eq_false c];rcases Yp.mp h with h | h
    ·exact absurd h.symm b
    ·exact GE h
def Q3{a:U Nat}{L:Nat->Nat}{i v:Nat}(h:i∈a):Ak (kvL a L) i (.int v)=kvL a λp=>if p=i then v else L p:=by
 unfold Ak kvL;rw[iP (by rw[A1M,Zt];exact⟨i,h,by simp⟩),A0g];refine Zw λp _=>?_;show(if (p:Int)=i then ((p:Int),SV.int v) else ((p:Int),SV.int (L p)))=((p:Int),SV.int ((if p=i then v else L p:Nat):Int))
 by_cases b:p=i
 ·subst b;rw[iP J,iP J]
 ·rw[iG (λz=>b (ZI.mp z)),iG b]
def JZ{a:U Nat}{L:Nat->Nat}:(kvL a L).length=a.length:=by unfold kvL;rw[YY]
theorem D9:∀(b a:U (Int×SV)),((a++b).map (·.1)).Nodup->b.foldl (λa p=>Ak a p.1 p.2) a=a++b
 | [],a,_=>by simp
 | p::b,a,h=>by
   have c:¬ (a.any λq=>decide (q.1=p.1))=aC:=by
    rw[Zt];rintro⟨q,d,e⟩;rw[Yo,ZE,A03]at h;exact h.2.2 q.1 (Z2.mpr ⟨q,d,J⟩) p.1 (Yi ..) (of_decide_eq_true e)
   show b.foldl (λa p=>Ak a p.1 p.2) (Ak a p.1 p.2)=_;have e:Ak a p.1 p.2=a++[p]:=by unfold Ak;rw[iG c]
   rw[e,D9 b (a++[p]) (by simpa using h)];simp
def Q4{c:U Nat}{L:Nat->Nat}(d:c.Nodup):Do (kvL c L)=kvL c L:=by
 unfold Do;rw[D9 _ [] ?_]
 ·rfl
 ·unfold kvL;rw[A0d,A0g];exact List.Pairwise.map _ (λa b (h:a≠b) (z:(a:Int)=(b:Int))=>h (ZI.mp z)) d
def keysI(z:Int)(i:Nat):U Nat:=(Ye i).filter λp=>!decide ((p:Int)=z)
def Ei(z:Int)(es:EE):EE:=es.filter λe=>!(decide ((e.1:Int)=z)||decide ((e.2:Int)=z))
def Ja(z:Int)(i:Nat):keysI z (i+1)=keysI z i++if (i:Int)=z then [] else [i]:=by
 unfold keysI;rw[ZV,Ze]
 congr 1
 rw[ZC];by_cases h:(i:Int)=z
 ·rw[iP h,iG (by simpa using h)];rfl
 ·rw[iG h,iP (by simpa using h)];rfl
def DA(z:Int)(i:Nat):(keysI z i).length<=i:=by have:=Z5 (λp:Nat=>!decide ((p:Int)=z)) (Ye i);rw[Z0]at this;exact this
def Q5(z:Int)(i:Nat):(keysI z i).Nodup:=Zj.filter _
def mem_keysI{z:Int}{i p:Nat}:p∈keysI z i↔p<i/\(p:Int)≠z:=by unfold keysI;rw[Yu,Yr];simp
def offI_mem{z:Int}{a:EE}{e:Nat×Nat}:e∈Ei z a↔e∈a/\(e.1:Int)≠z/\(e.2:Int)≠z:=by unfold Ei;rw[Yu];simp
def Q6(x:Nat)(b:EE):Ei x b=Hue.off x b:=by
 unfold Ei Hue.off;refine A0V λe _=>?_;have k:∀ a:Nat,decide ((a:Int)=(x:Int))=decide (a=x):=λa=>by rw[decide_eq_decide];exact ZI
 rw[k,k]
def DH(z:Int)(L:Nat->Nat)(e:Nat×Nat):Nat->Nat:=if (e.1:Int)=z\/(e.2:Int)=z then L else Hue.dn L e
theorem ED(z:Int):∀(a:EE) (L:Nat->Nat),a.foldl (DH z) L=Hue.dnR (Ei z a) L
 | [],_=>rfl
 | e::a,L=>by
   have b:=ED z a;show a.foldl (DH z) (DH z L e)=_;rw[b];unfold Ei DH;rw[ZC];by_cases h:(e.1:Int)=z\/(e.2:Int)=z
   ·rw[iP h,iG (by rcases h with h | h<;>simp[h])]
   ·rw[iG h,iP (by simpa using h)];rfl
def bsA:Stm:=(.asg (.nm 2) (.dctl (.comp ["_law_place"] ["_law_out"] [1] (.nm 0) (.rng1 kE) (.yes (.cmp .NotEq vG vH)) (.tup (vB vG vG)))))
def bsI:Stm:=(.iff (.cmp .NotIn vH (.tup (vB vM vN))) [.asg (.nm 6) (.bi .min (vB (.dget vI vM) (.dget vI vN))),.dput vI vM vO,.dput vI vN vO] [])
def bsL:Stm:=(.loop (.tup (.cons (.nm 4) (.cons (.nm 5) .nil))) (.seq kC) [bsI])
def bsR:Stm:=(.loop (.nm 3) (.rng1 kE) [bsL])
def Kp:U Stm:=[bsA,bsR,.ret vI]
def Q7(z:Int)(e:Nat×Nat):inS (.int z) [.int e.1,.int e.2]=(decide ((e.1:Int)=z)||decide ((e.2:Int)=z)):=by
 have k:∀ a:Int,(a == z)=decide (a=z):=λa=>by rw[Za];simp
 unfold inS;simp only[Zn,A2e,A10,eqF,k]
section
variable{Δ:Nat->Sn}
def IA{D:EndsS}{m:Nat}{z:Int}{e:Nat×Nat}{a:U Nat}{L:Nat->Nat}{c S:Sto}{w:SV}{d f:Option SV}(b:S[m]?=O (.dct (kvL a L)))(s:a.length<=1000)(r:(e.1:Int)≠z->(e.2:Int)≠z->e.1∈a/\e.2∈a)(G:Gw c S)(j:c.length<=m)
 (q:∀(f:Option SV) (g:Sto),g[m]?=O (.dct (kvL a (DH z L e)))->Gw c g->D.nx [O w,O (.int z),O (.loc m),d,O (.int e.1),O (.int e.2),f] g):
 wSs Δ [bsI] D [O w,O (.int z),O (.loc m),d,O (.int e.1),O (.int e.2),f] S:=by
 refine⟨_,J,_,J,_,J,by show 2<=big;decide,J,_,J,J,_,J,?_⟩;show if (!inS (.int z) [.int e.1,.int e.2])=aC then _ else _
 rw[Q7];by_cases h:(e.1:Int)=z\/(e.2:Int)=z
 ·refine ifF (by rcases h with h | h<;>simp[h]) (q _ S ?_ G);unfold DH;rw[iP h];exact b
 ·have k:(e.1:Int)≠z:=λy=>h (.inl y);have l:(e.2:Int)≠z:=λy=>h (.inr y);obtain⟨n,o⟩:=r k l;have p:∀ L,(kvL a L).length<big:=λL=>by rw[JZ];show _<100000;lia
  refine ifT (by simp[k,l]) ?_;refine⟨_,J,_,J,_,_,_,GD b,J,GE n,_,J,_,J,_,_,_,GD b,J,GE o,?_⟩
  have i:∀ v:Int,v=((min (L e.1) (L e.2):Nat):Int)->wSs Δ [.dput vI vM vO,.dput vI vN vO] D [O w,O (.int z),O (.loc m),d,O (.int e.1),O (.int e.2),O (.int v)] S:=by
   rintro _ rfl;refine⟨_,J,_,J,_,J,_,_,_,J,J,.inl b,p _,?_⟩;rw[Q3 n];refine⟨_,J,_,J,_,J,_,_,_,J,J,.inl (m8 b),p _,?_⟩;rw[Q3 o];refine q _ _ ?_ ((G.put j).put j);rw[m8 (m8 b)];unfold DH;rw[iG h];rfl
  exact i _ (GA _ _)
def Cn(s:Sn):Prop:=∀{n:Nat} {es:EE} {z:Int} {S:Sto} {Q:QE},WebC n es->(∀(l:Nat) (S':Sto),Gw S S'->S.length<=l->S'[l]?=O (.dct (kvL (keysI z n) (Hue.mk n (Ei z es))))->Q (.loc l) S')->s [g9 n es,.int z] S Q
def Ej(k:∀ f,MonoN (Δ f)){n m:Nat}{b:EE}{z:Int}{l S:Sto}{Q:QE}(H:WebC n b)(A:S[m]?=O (.dct (kvL (keysI z n) λp=>p)))(G:Gw l S)(B:l.length<=m)
 (q:∀(a:Sto),Gw l a->a[m]?=O (.dct (kvL (keysI z n) (Hue.mk n (Ei z b))))->Q (.loc m) a):wSs Δ [bsR,.ret vI] (p8 Q) [O (g9 n b),O (.int z),O (.loc m),aB,aB,aB,aB] S:=by
 have T:=H.few;have t:(keysI z n).length<=1000:=by have:=DA z n;lia
 refine⟨_,J,_,_,J,J,_,J,⟨by lia,by lia⟩,?_⟩;refine n4 (i9 k _) (λi c a=>∃ u g h d,c=[O (g9 n b),O (.int z),O (.loc m),u,g,h,d]/\Gw l a/\a[m]?=O (.dct (kvL (keysI z n) (Hue.dnN (Ei z b) i λp=>p)))) ⟨aB,aB,aB,aB,J,G,A⟩ (λ_ _ _ _=>trivial) ?_ ?_
 ·rintro i x c S1 V ⟨u,g,h,d,rfl,v,o⟩;refine⟨_,J,_,_,J,J,_,J,?_⟩;refine n4 (i9 k _) (λj c a=>∃ g h d,c=[O (g9 n b),O (.int z),O (.loc m),O x,g,h,d]/\Gw l a/\a[m]?=O (.dct (kvL (keysI z n) ((b.take j).foldl (DH z) (Hue.dnN (Ei z b) i λp=>p))))) ⟨g,h,d,J,v,o⟩ (λ_ _ _ _=>trivial) ?_ ?_
  ·rintro j y c S2 C ⟨D,E,I,rfl,w,r⟩;obtain⟨e,s,rfl⟩:=A8 C;have K:=H.en e (Yb s);refine IA r t (λL M=>⟨mem_keysI.mpr ⟨by lia,L⟩,mem_keysI.mpr ⟨by lia,M⟩⟩) w B λd W N P=>⟨_,_,_,J,P,?_⟩
   rw[ZA,s,A0r];exact N
  ·rintro c S2 ⟨D,E,I,rfl,w,r⟩;rw[YY,Z1,ED]at r;exact⟨_,_,_,_,J,w,r⟩
 ·rintro c S1 ⟨u,g,h,d,rfl,v,o⟩;rw[l7,show((n:Int) - 0).toNat=n by lia]at o;refine⟨_,J,q S1 v ?_⟩;rw[o]
  congr 2
  unfold kvL;refine Zw λp R=>?_;rw[Hue.dn_marks (λe s=>?_) (mem_keysI.mp R).1];have:=H.en e (offI_mem.mp s).1;exact⟨by lia,by lia⟩
def Mr(a:∀ f,MonoN (Δ f)){D:Df}(e:D.body=Kp)(g:D.N.length=7)(j:D.ps.length=2):Cn (j7 Δ D):=by
 intro n o z S Q H q;have r:=H.few;unfold j7;rw[e,g];refine⟨j.symm,_,J,_,_,J,J,_,J,⟨by lia,by lia⟩,?_⟩;refine i4 (g8 a _).2 (c8 a _).1 (λi c S2=>S2=S/\c=(kvL (keysI z i) λp=>p).map λp=>SV.tup [.int p.1,p.2]) ⟨J,by simp[keysI,kvL]⟩ (λ_ _ _ _=>trivial) ?_ ?_
 ·rintro i x c S2 k ⟨rfl,rfl⟩;obtain⟨rfl,l⟩:=k0 k;rw[Zd]at l ⊢;have b:=Ja z i;have d:=DA z i;refine⟨_,J,_,J,_,J,?_⟩;show if (!((i:Int) == z))=aC then _ else _
  by_cases h:(i:Int)=z
  ·rw[iP h,ZD]at b;exact ifF (by simp[h]) ⟨J,by rw[b]⟩
  ·rw[iG h]at b;refine ifT (by simp[h]) ⟨_,J,_,J,by show 2<=big;decide,by rw[YY,JZ];show _<100000;lia,J,?_⟩;rw[b];unfold kvL;rw[Yo,Yo];rfl
 ·rintro c S2 ⟨rfl,rfl⟩;rw[l7,show((n:Int) - 0).toNat=n by lia];have d:=DA z n;refine⟨_,_,J,f7,by rw[JZ];lia,?_⟩;rw[Q4 (Q5 z n)];refine Ej a H f7 (Gw.refl S2).push.push (by rw[Yd];lia) λm G h=>q _ m G (by rw[Yd];lia) h
end
theorem Jb(f:Nat->Int):∀ i,(PyProof.Rows.firstMet f i).Nodup
 | 0=>by rw[PyProof.Rows.firstMet_zero];exact A1o
 | i+1=>by
   rw[PyProof.Rows.firstMet_succ];unfold PyProof.Rows.step_dedup;split
   ·exact Jb f i
   ·rename_i h;rw[A03];refine⟨Jb f i,by simp,λa c b d=>?_⟩;rw[Yt.mp d];intro z;exact h (Zt.mpr ⟨a,c,by simp[z]⟩)
section
variable{Δ:Nat->Sn}
def IB{a:Type}{P:a->Bool}{b:U a}{j:Nat}{x:a}(h:b[j]?=O x):(b.take (j+1)).filter P=(b.take j).filter P++if P x=aC then [x] else []:=by
 rw[ZA,h,Ze]
 congr 1
 show A0W P [x]=_;rw[ZC];rfl
end
def iN(xs:U Nat):U Int:=xs.map λ(i:Nat)=>(i:Int)
def Jc{c:Sto->Prop}{g:Tg}{t:WT}{e:WE}{h:EnvS}{Q:U Int->Sto->Prop}(mt:MonoT t)(k:Mono e)(I:Nat->U Int->Sto->Prop){f:U SV}{S:Sto}(l:I 0 [] S)(m:∀ i a S,I i a S->c S)
 (n:∀ i x a S,f[i]?=O x->I i a S->wTg g x h λd=>t d S λb S1=>if b=aC then e d S1 λy S2=>∃ j,y = .int j/\a.length<900/\I (i+1) (a++[j]) S2 else I (i+1) a S1) (o:∀ a S,I f.length a S->Q a S):Rp c g t e h Q f [] S:=BR mt (Ap k) I l m n o
def As(p:Nat)(e:Nat×Nat):Bool:=decide (e.1=p)||decide (e.2=p)
def endB_iff{p:Nat}{e:Nat×Nat}:As p e=aC↔(p=e.1\/p=e.2):=by unfold As;simp only[ZU,dQ];exact⟨λh=>h.imp Eq.symm Eq.symm,λh=>h.imp Eq.symm Eq.symm⟩
theorem IC(a:EE)(p:Nat):∀ i,i<=a.length->(i5 a p i).length=(a.take i).countP (As p)
 | 0,_=>by simp[i5]
 | i+1,h=>by
   have b:a[i]?=O a[i]:=Ya (by lia);rw[Bt a p i b,Yd,IC a p i (by lia),ZA,b,A0P];show _+_=_+A1T (As p) [a[i]];rw[A1b,A1l];unfold As;by_cases z:(decide (a[i].1=p)||decide (a[i].2=p))=aC
   ·rw[iP z,iP z];rfl
   ·rw[iG z,iG z];rfl
def Q8(a:EE)(p:Nat):cntAt a p=a.countP (As p):=by unfold cntAt;rw[IC a p _ (Ym _),Z1]
section
variable{Δ:Nat->Sn}
def GF(a:U Nat):(iN a).map SV.int=natS a:=by unfold iN natS;rw[A0g];rfl
def U6(kd a:Nat):U Stm:=[.ret (.call a (vB vG (.cmp .Eq (.call kd (vB vG vY)) vJ)))]
def Q9(s:Sn):Prop:=∀{t:Nat} {S:Sto} {Q:QE},TapeS S t->(∀(n:Nat) (es:EE) (S':Sto),Web n es->TapeS S' t->On t S S'->Q (g9 n es) S')->s [.loc t] S Q
def T7{a b:Nat}(c:t6 (Δ a))(d:U2 (Δ b)){D:Df}(e:D.body=U6 a b)(f:D.N.length=1)(g:D.ps.length=1):Q9 (j7 Δ D):=by intro t S Q T q;unfold j7;rw[e,f];exact⟨g.symm,_,J,_,J,c T (by decide) (by decide) λr S2 o p h i _=>d h λn j k W l m=>q n j k W l (i.trans m)⟩
end
def FP(fs:EE)(k:Nat)(e:Nat×Nat):(fs.map pairS).take k++pairS e::(fs.map pairS).drop k=(fs.take k++e::fs.drop k).map pairS:=by rw[Yo,ZE,A11,A0F]
def Kq{fs:EE}{k:Nat}{e:Nat×Nat}{P:Nat×Nat->Prop}(h:∀ f∈fs,P f)(b:P e):∀ f∈fs.take k++e::fs.drop k,P f:=λf a=>by
 rcases Yz.mp a with a | a
 ·exact h f (A1u a)
 ·rcases Yp.mp a with a | a
  ·rw[a];exact b
  ·exact h f (A1v a)
def Kr(fs:EE)(k:Nat)(e:Nat×Nat):(fs.take k++e::fs.drop k).length=fs.length+1:=by rw[Yd,ZK,ZG,Zg];lia
abbrev En(n:Nat)(es:EE):Prop:=∀ e∈es,e.1<e.2/\e.2<n
def jn1:Stm:=(.iff (.or (.cmp .Eq kJ vJ) (.cmp .Eq kM vJ)) [.ret kN] [])
def jn3(kd:Nat):Stm:=(.asg (.nm 3) (.call kd (vB vG kJ)))
def jn4(kd:Nat):Stm:=(.asg (.nm 4) (.call kd (vB vG kM)))
def jn5:Stm:=(.asg (.nm 5) (.comp ["_law_place"] ["_law_spot","_law_at","_law_one"] [4,3,1] (.nm 0) (.rng1 kM) .no (.ife (.cmp .Eq vG vH) vI (.op .Sub (.op .Add (.ix vL vJ) vG) (.bi .int (vA (.cmp .Gt vG vH)))))))
def jn6:Stm:=(.asg (.nm 6) (.bi .list (vA (.ix vH vK))))
def jnA:Stm:=(.asg (.nm 8) (.tup (vB (.bi .min (vB (.ix vN (.ix vQ vJ)) (.ix vN (.ix vQ vK)))) (.bi .max (vB (.ix vN (.ix vQ vJ)) (.ix vN (.ix vQ vK)))))))
def jnB(kd:Nat):Stm:=(.expr (.mt .insert vO (vB (.call kd (vB vG (.op .Add (.bi .len (vA vO)) vK))) vR)))
def jn7(kd:Nat):Stm:=(.loop (.nm 7) (.seq (.ix vI vK)) [jnA,jnB kd])
def jn8:Stm:=(.ret (.tup (vB (.op .Sub (.op .Add kJ kM) vK) (.bi .tuple (vA vO)))))
def Ks(kd:Nat):U Stm:=[jn1,jn3 kd,jn4 kd,jn5,jn6,jn7 kd,jn8]
section
variable{Δ:Nat->Sn}{kd:Nat}
theorem T8(E:∀ f,MonoN (Δ f))(hd:t6 (Δ kd)){t k j d:Nat}{c h:EE}{nm:Nat->Nat}{o S:Sto}{Q:QE}{B C:Option SV}(T:TapeS S t)(O:On t o S)(t0:t<o.length)(u:S[k]?=aA (.lst (natS ((Ye d).map nm))))(G:k≠t)(h1:0<j)
 (v:∀ p,p<d->nm p<j+d - 1) (inj:∀ p q,p<d->q<d->p≠q->nm p≠nm q) (e1:En (j+d - 1) c) (e2:En d h) (l1:c.length<=400) (l2:h.length<=400)
 (q:∀(H:EE) (m:Sto),En (j+d - 1) H->H.length=c.length+h.length->TapeS m t->On t o m->Q (g9 (j+d - 1) H) m):
 wSs Δ [jn6,jn7 kd,jn8] (p8 Q) [aA (.loc t),aA (g9 j c),aA (g9 d h),B,C,aA (.loc k),aB,aB,aB] S:=by
 refine⟨_,J,_,_,J,J,_,J,?_⟩;have A0:Ah t o (S++[SO.lst (c.map pairS)]) S.length c:=⟨T.push,O.push,f7,O.len,t0⟩
 have I:(S++[SO.lst (c.map pairS)])[k]?=aA (.lst (natS ((Ye d).map nm))):=f8 u;have K:k≠S.length:=Ys (FK u);generalize S.length=l at *;generalize S++[SO.lst (c.map pairS)]=S1 at *;refine⟨_,J,_,_,J,J,_,J,?_⟩
 refine n4 (i9 E _) (λi w m=>∃(fs:EE) (y A:Option SV),w=[aA (.loc t),aA (g9 j c),aA (g9 d h),B,C,aA (.loc k),aA (.loc l),y,A]/\Ah t o m l fs/\m[k]?=aA (.lst (natS ((Ye d).map nm)))/\En (j+d - 1) fs/\fs.length=c.length+i)
  ⟨c,aB,aB,J,A0,I,e1,J⟩ (λ_ _ _ _=>trivial) ?_ ?_
 ·rintro i x w S2 hx ⟨fs,y,A,rfl,n,s,L,D⟩;obtain⟨e,R,rfl⟩:=A8 hx;have a0:=(gM R).1;have a1:=e2 e (Yb R);have g:∀ p,p<d->((Ye d).map nm)[p]?=aA (nm p):=λp hp=>by rw[Yj,ZZ hp];rfl
  have V:=m7 (g e.1 (by lia));have W:=m7 (g e.2 (by lia));refine⟨_,J,_,J,_,_,J,J,_,_,c9 s,j3 V,_,J,_,J,_,_,J,J,_,_,c9 s,j3 W,_,J,_,J,_,_,J,J,_,_,c9 s,j3 V,_,J,_,J,_,_,J,J,_,_,c9 s,j3 W,by show 2<=big;decide,?_⟩;have ne:=inj e.1 e.2 (by lia) (by lia) (by lia);have b1:=v e.1 (by lia);have b2:=v e.2 (by lia);generalize nm e.1=a at *;generalize nm e.2=b at *
  have M:∀ X z2:Int,X=((min a b:Nat):Int)->z2=((max a b:Nat):Int)->wSs Δ [jnB kd] {(p8 Q) with nx:=λw m=>∃(fs:EE) (y A:Option SV),w=[aA (.loc t),aA (g9 j c),aA (g9 d h),B,C,aA (.loc k),aA (.loc l),y,A]/\Ah t o m l fs/\m[k]?=aA (.lst (natS ((Ye d).map nm)))/\En (j+d - 1) fs/\fs.length=c.length+(i+1)} [aA (.loc t),aA (g9 j c),aA (g9 d h),B,C,aA (.loc k),aA (.loc l),aA (pairS e),aA (.tup [.int X,.int z2])] S2:=by
   rintro _ _ rfl rfl;refine⟨_,J,⟨_,_,J,n.at'⟩,_,J,_,J,_,c9 n.at',hd n.tape (by lia) (by rw[YY];lia) λr S3 r0 r1 T3 O3 _=>?_⟩;have A3:=n.draw T3 O3;rw[YY]at r1;refine⟨_,J,_,A3.at',⟨r0,by rw[YY];lia⟩,by rw[YY];show _<100000;lia,?_⟩;have N:=FP fs r.toNat (min a b,max a b);have N:(fs.map pairS).take r.toNat++SV.tup [.int ((min a b:Nat):Int),.int ((max a b:Nat):Int)]::(fs.map pairS).drop r.toNat=(fs.take r.toNat++(min a b,max a b)::fs.drop r.toNat).map pairS:=N;rw[N];exact⟨_,_,_,J,A3.put,by rw[v7 (Ne.symm K)];exact O3.keep _ _ G s,Kq L ⟨by show min a b<max a b;lia,by show max a b<_;lia⟩,by rw[Kr,D];lia⟩
  exact M _ _ (GA a b) (Ko a b)
 ·rintro w S2 ⟨fs,y,A,rfl,n,s,L,D⟩;rw[YY]at D;refine⟨_,J,_,_,J,J,_,J,_,_,J,J,_,J,_,c9 n.at',by show 2<=big;decide,?_⟩
  have P:∀ z:Int,z=((j+d - 1:Nat):Int)->Q (.tup [.int z,.tup (fs.map pairS)]) S2:=by
   rintro _ rfl;exact q fs S2 L D n.tape n.on
  exact P _ (by lia)
def Co(s:Sn):Prop:=∀{t c d:Nat} {a b:EE} {S:Sto} {Q:QE},TapeS S t->En c a->En d b->c<=100->d<=100->a.length<=400->b.length<=400->
 (∀(n:Nat) (es:EE) (S':Sto),En n es->n<=c+d->es.length<=a.length+b.length->TapeS S' t->On t S S'->Q (g9 n es) S')->s [.loc t,g9 c a,g9 d b] S Q
def nmJ(b a sp p:Nat):Nat:=if p=sp then a else if sp<p then b+p - 1 else b+p
def Ms(j:∀ f,MonoN (Δ f))(r:t6 (Δ kd)){D:Df}(G:D.body=Ks kd)(H:D.N.length=9)(s:D.ps.length=3):Co (j7 Δ D):=by
 intro t c l d g S Q T A B b1 b2 l1 l2 q;unfold j7;rw[G,H];have I:=T.lt
 have ret:∀ v,atI [g9 c d,g9 l g] (if decide ((c:Int)=0)=aC then 1 else 0)=aA v->Q v (S++[SO.lst [g9 c d,g9 l g]])->wSs Δ [.ret kN] (p8 Q) [aA (.loc t),aA (g9 c d),aA (g9 l g),aB,aB,aB,aB,aB,aB] S:=by
  intro v K h;exact⟨_,J,_,J,by show 2<=big;decide,_,J,_,_,J,J,_,v,c9 f7,K,h⟩
 refine⟨s.symm,_,J,_,_,J,J,_,J,ifD (λh=>ifT J (ret _ (by rw[decide_eq_true h];rfl) (q l g _ B (by lia) (by lia) T.push (On.refl t S).push))) (λh=>⟨_,J,_,_,J,J,_,J,ifD (λL=>ret _ (by rw[decide_eq_false h];rfl) (q c d _ A (by lia) (by lia) T.push (On.refl t S).push)) (λL=>?_)⟩)⟩;have M:0<c:=by lia
 have h2:0<l:=by lia
 refine⟨_,J,_,J,_,_,J,J,r T (by lia) (by lia) λa S1 a0 a1 P R _=>⟨_,J,_,J,_,_,J,J,r P (by lia) (by lia) λC S2 s0 s1 E V _=>?_⟩⟩;obtain⟨m,rfl⟩:∃ k:Nat,a=k:=⟨a.toNat,by lia⟩
 obtain⟨b,rfl⟩:∃ k:Nat,C=k:=⟨C.toNat,by lia⟩
 refine⟨_,J,_,_,J,J,_,J,⟨by lia,by lia⟩,?_⟩;refine i4 (g8 j _).2 (c8 j _).1 (λi u n=>n=S2/\u=natS ((Ye i).map (nmJ c m b))) ⟨J,J⟩ (λ_ _ _ _=>trivial) ?_ ?_
 ·rintro i x u n W ⟨rfl,rfl⟩;obtain⟨rfl,X⟩:=k0 W;rw[Zd]at X ⊢
  have o:∀ z:Int,z=nmJ c m b i->(natS ((Ye i).map (nmJ c m b))).length<big/\n=n/\natS ((Ye i).map (nmJ c m b))++[.int z]=natS ((Ye (i+1)).map (nmJ c m b)):=by
   rintro _ rfl;refine⟨by rw[g0,YY,Z0];show _<100000;lia,J,?_⟩;rw[ZV,Yo,t5];rfl
  refine⟨_,J,_,J,_,J,ifD (λh=>⟨_,J,o _ ?_⟩) (λh=>⟨_,J,_,_,J,J,_,J,_,J,_,J,o _ ?_⟩)⟩
  ·have h:i=b:=ZI.mp h;unfold nmJ;rw[iP h]
  ·have h:¬ i=b:=λz=>h (congrArg _ z);unfold nmJ;rw[iG h];show(c:Int)+i - (if decide ((b:Int)<i)=aC then 1 else 0)=_;by_cases w:b<i
   ·rw[iP (decide_eq_true (by lia)),iP w];lia
   ·rw[iG (by simpa using w),iG w];lia
 ·rintro u n ⟨rfl,rfl⟩;rw[l7,show((l:Int) - 0).toNat=l by lia];have O:=(R.trans V)
  have a2:t<n.length:=E.lt;refine T8 j r (nm:=nmJ c m b) E.push O.push I f7 (by lia) M (λp s=>?_) (λp q' s hq ne=>?_) (λe y=>by have:=A e y;exact⟨this.1,by lia⟩) B l1 l2 λes S' y hl T' O'=>q _ es S' y (by lia) (by lia) T' O'
  ·unfold nmJ;split
   ·lia
   ·split<;>lia
  ·unfold nmJ;split<;>split<;>first | lia | (split<;>first | lia | (split<;>lia))
end
def QA(a:U Nat):EX (natS a) (natS a)=aC:=by unfold EX natS;simp only[beq_self_eq_true,A1y];rw[ZJ];intro p b;rw[List.zip_map']at b;obtain⟨i,_,rfl⟩:=Z2.mp b;simp[eqF]
def Xm{c:U Nat}(d:c.Nodup):(iN c).Nodup:=by unfold iN;exact A0X.mpr (d.imp λ{a b} h z=>h (ZI.mp z))
def j8(es:EE):Nat->Nat
 | 0=>0
 | n+1=>max (j8 es n) (cntAt es n)
theorem EF(a:EE):∀{n p:Nat},p<n->cntAt a p<=j8 a n
 | 0,_,h=>absurd h (A1j _)
 | n+1,p,h=>by
   show _<=max (j8 a n) (cntAt a n);by_cases e:p=n
   ·subst e;lia
   ·have:=EF a (n:=n) (p:=p) (by lia);lia
theorem EG(a:EE):∀ n:Nat,j8 a n=0\/∃ p,p<n/\j8 a n=cntAt a p
 | 0 => .inl J
 | n+1=>by
   show max (j8 a n) (cntAt a n)=0\/∃ p,p<n+1/\max (j8 a n) (cntAt a n)=cntAt a p;by_cases h:j8 a n<=cntAt a n
   ·right;exact⟨n,by lia,by lia⟩
   ·rcases EG a n with z | ⟨p,hp,e⟩
    ·left;lia
    ·right;exact⟨p,by lia,by lia⟩
def FQ{c:EE}{n:Nat}{m:Int}(d:∀ p,p<n->((cntAt c p:Nat):Int)<=m)(e:m=0\/∃ p,p<n/\m=(cntAt c p:Nat))(f:0<=m):m=(j8 c n:Nat):=by
 have a:m<=(j8 c n:Nat):=by
  rcases e with z | ⟨p,hp,z⟩
  ·lia
  ·have:=EF c hp;lia
 have b:((j8 c n:Nat):Int)<=m:=by
  rcases EG c n with z | ⟨p,hp,z⟩
  ·lia
  ·have:=d p hp;lia
 lia
def cS(n:Nat)(f:Nat->Nat):U SV:=(Ye n).map λp=>SV.int (f p:Nat)
def EH{n p:Nat}{f:Nat->Nat}(h:p<n):(cS n f)[p]?=O (.int (f p:Nat)):=by unfold cS;rw[Yj,ZZ h];rfl
def Bv{n:Nat}{f:Nat->Nat}:(cS n f).length=n:=by unfold cS;rw[YY,Z0]
def Kt(n:Nat)(f:Nat->Nat):cS n f=((Ye n).map λp=>((f p:Nat):Int)).map SV.int:=by unfold cS;rw[A0g];rfl
def U7{n p:Nat}{f:Nat->Nat}(h:p<n):(cS n f).set p (.int ((f p:Nat)+1))=cS n λq=>f q+if q=p then 1 else 0:=by
 apply A0C;intro i;by_cases a:i<n
 ·rw[EH a];by_cases e:i=p
  ·subst e;rw[Zf (by rw[Bv];exact a),iP J];rfl
  ·rw[A01 (Ne.symm e),EH a,iG e];rfl
 ·rw[Zy (by rw[ZH,Bv];lia),Zy (by rw[Bv];lia)]
def QB:∀ n:Nat,(Yv n [SV.int 0]).flatten=cS n λ_=>0:=by
 intro n
 have e:(Yv n [SV.int 0]).flatten=Yv n (SV.int 0):=by
  induction n with
  | zero=>rfl
  | succ n b=>rw[ZO,Zk,b];rfl
 rw[e];apply A0C;intro i;rw[Zq];by_cases a:i<n
 ·rw[iP a,EH a];rfl
 ·rw[iG a,Zy (by rw[Bv];lia)]
def U8:U Stm:=[.asg (.nm 1) (.op .Mult (.lst (vA vJ)) kE),.loop (.tup (.cons (.nm 2) (.cons (.nm 3) .nil))) (.seq kC) [.augS vH vI vK,.augS vH vL vK],.ret (.maxd vH vJ)]
def Jd(s:Sn):Prop:=∀{n:Nat} {es:EE} {S:Sto} {Q:QE},(∀ e∈es,e.1<e.2/\e.2<n)->n<=1000->(∀ S',Gw S S'->Q (.int (j8 es n:Nat)) S')->s [g9 n es] S Q
def QC{n:Nat}{a:EE}{m:Int}(h:Grt ((Ye n).map λp=>((cntAt a p:Nat):Int)) m):m=(j8 a n:Nat):=by obtain⟨c,d⟩:=h;obtain⟨p,b,e⟩:=Z2.mp c;rw[Yr]at b;exact FQ (λq f=>d _ (Z2.mpr ⟨q,Yr.mpr f,J⟩)) (.inr ⟨p,b,e.symm⟩) (by rw[<-e];lia)
section
variable{Δ:Nat->Sn}
def T9(d:∀ f,MonoN (Δ f)){D:Df}(A:D.body=U8)(B:D.N.length=4)(C:D.ps.length=1):Jd (j7 Δ D):=by
 intro n a S Q h t q;unfold j7;rw[A,B];refine⟨C.symm,by show 1<=big;decide,_,J,_,_,J,J,_,f7,⟨by lia,by lia⟩,by show 1 * _<=100000;lia,?_⟩;have G:(Yv ((n:Int)).toNat [SV.int 0]).flatten=cS n λ_=>0:=by rw[ZX,QB]
 rw[G];have H:((S++[SO.lst [SV.int 0]])++[SO.lst (cS n λ_=>0)])[(S++[SO.lst [SV.int 0]]).length]?=O (.lst (cS n λ_=>0)):=f7;have I:Gw S ((S++[SO.lst [SV.int 0]])++[SO.lst (cS n λ_=>0)]):=(Gw.refl S).push.push;have u:S.length<=(S++[SO.lst [SV.int 0]]).length:=by rw[Yd];lia
 generalize (S++[SO.lst [SV.int 0]]).length=k at *;generalize (S++[SO.lst [SV.int 0]])++[SO.lst (cS n λ_=>0)]=S1 at *;refine⟨_,J,_,_,J,J,_,J,?_⟩;refine y9 (i9 d _) (λi j S2=>∃ l o,j=[O (g9 n a),O (.loc k),l,o]/\Gw S S2/\S2[k]?=O (.lst (cS n λp=>(a.take i).countP (As p)))) ⟨aB,aB,J,I,by rw[H];simp⟩ (λ_ _ _ _=>trivial) ?_ ?_
 ·rintro i x j S2 E t _ K ⟨l,o,rfl,c,b⟩;obtain⟨e,v,rfl⟩:=A8 K;have L:=h e (Yb v);refine⟨_,J,_,J,k,e.1,_,_,J,J,b,EH (by lia),_,_,J,b,by rw[Bv];lia,?_⟩;rw[U7 (by lia)];have r:(S2.set k (.lst (cS n λq=>(a.take i).countP (As q)+if q=e.1 then 1 else 0)))[k]?=O (.lst (cS n λq=>(a.take i).countP (As q)+if q=e.1 then 1 else 0)):=m8 b;have M:Gw S (S2.set k (.lst (cS n λq=>(a.take i).countP (As q)+if q=e.1 then 1 else 0))):=c.put u;generalize S2.set k (.lst (cS n λq=>(a.take i).countP (As q)+if q=e.1 then 1 else 0))=R at *;refine⟨_,J,_,J,k,e.2,_,_,J,J,r,EH (by lia),_,_,J,r,by rw[Bv];lia,?_⟩;rw[U7 (by lia)];refine t _ _ ⟨_,_,J,M.put u,?_⟩;rw[m8 r]
  congr 3
  funext p
  rw[ZA,v,A0P];show _=_+A1T (As p) [e];rw[A1b,A1l];by_cases z:As p e=aC
  ·rw[iP z];rcases endB_iff.mp z with y | y
   ·rw[iP y,iG (by lia)]
   ·rw[iP y,iG (by lia)]
  ·have w:¬ (p=e.1\/p=e.2):=λy=>z (endB_iff.mpr y);rw[iG z,iG (λy=>w (.inl y)),iG (λy=>w (.inr y))]
 ·rintro j S2 ⟨l,o,rfl,c,b⟩;rw[YY,Z1]at b;have P:(cS n λp=>a.countP (As p))=cS n (cntAt a):=by congr 1;funext p;exact(Q8 a p).symm
  rw[P,Kt]at b;refine⟨_,J,k,_,_,J,J,b,λz=>?_,λm g=>?_⟩
  ·have s:n=0:=by cases n with
    | zero=>rfl
    | succ n=>simp[ZV]at z
   have:=q S2 c;rw[s]at this;exact this
  ·rw[QC g];exact q S2 c
def Ku:U Stm:=[.ret (.bi .len (vA (.comp ["_law_pair"] ["_law_place"] [1] (.nm 0) (.seq kC) (.yes (.cmp .In vH vG)) vG)))]
def EI(s:Sn):Prop:=∀{n p:Nat} {es:EE} {S:Sto} {Q:QE},es.length<=5000->(∀ S',Gw S S'->Q (.int (cntAt es p:Nat)) S')->s [g9 n es,.int p] S Q
def Mt(b:∀ f,MonoN (Δ f)){D:Df}(l:D.body=Ku)(m:D.N.length=2)(o:D.ps.length=2):EI (j7 Δ D):=by
 intro n p c S Q r q;unfold j7;rw[l,m];refine⟨o.symm,_,J,_,_,J,J,_,J,?_⟩;refine i4 (g8 b _).2 (c8 b _).1 (λi d g=>g=S/\d.length=(c.take i).countP (As p)) ⟨J,by simp⟩ (λ_ _ _ _=>trivial) ?_ ?_
 ·rintro i x d g s ⟨rfl,a⟩;obtain⟨e,j,rfl⟩:=A8 s;have u:=(gM j).1;have t:(c.take i).countP (As p)<=i:=Z6 (List.countP_le_length ..) (by rw[ZG];lia)
  have k:(c.take (i+1)).countP (As p)=(c.take i).countP (As p)+if As p e=aC then 1 else 0:=by
   rw[ZA,j,A0P];show _+A1T (As p) [e]=_;rw[A1b,A1l,A1e]
  refine⟨_,J,_,J,J,_,J,J,_,J,?_⟩;show if inS (.int p) [.int e.1,.int e.2]=aC then _ else _
  rw[DV];refine ifB (λh=>?_) (λh=>?_)
  ·refine⟨_,J,by rw[a];show _<100000;lia,J,?_⟩;rw[Yd,a,k,iP (show As p e=aC from h)];rfl
  ·refine⟨J,?_⟩;rw[a,k,iG (show ¬ As p e=aC by unfold As;rw[h];decide)];rfl
 ·rintro d g ⟨rfl,a⟩;rw[YY,Z1,<-Q8]at a;refine⟨_,c9 f7,?_⟩;rw[a];exact q _ (Gw.refl _).push
def Mu{n:Nat}{a:EE}{m:Int}(h:Grt (0::(Ye n).map λp=>((cntAt a p:Nat):Int)) m):m=(j8 a n:Nat):=by
 obtain⟨c,b⟩:=h;have d:=b 0 (Yi ..);refine FQ (λq f=>b _ (Yh _ (Z2.mpr ⟨q,Yr.mpr f,J⟩))) ?_ d;rcases Yp.mp c with z | z
 ·exact .inl z
 ·obtain⟨p,g,e⟩:=Z2.mp z;exact .inr ⟨p,Yr.mp g,e.symm⟩
def GG(s:Sn):Prop:=∀{n:Nat} {es:EE} {S:Sto} {Q:QE},es.length<=5000->n<=1000->(∀ S',Gw S S'->Q (.int (j8 es n:Nat)) S')->s [g9 n es] S Q
end
section
variable{n:Nat}{es:EE}
def amg(es:EE)(a:U Nat):EE:=a.map (Ax es)
end
def DI{l:Type}{e:Sto->Prop}{g:Tg}{t:WT}{n:WM l}{Q:l->Sto->Prop}(mt:MonoT t)(z:Bs n)(I:Nat->EnvS->l->Sto->Prop){j:U SV}{c:EnvS}{a:l}{S:Sto}(A:I 0 c a S)(p:∀ i c d S,I i c d S->e S)
 (B:∀ i x c d S,j[i]?=O x->I i c d S->wTg g x c λf=>t f S λb S1=>if b=aC then n f d S1 (I (i+1) f) else I (i+1) f d S1) (C:∀ c d S,I j.length c d S->Q d S):wTI e g t n Q j c a S:=by
 have D:∀(k:U SV) (i:Nat) (c:EnvS) (d:l) (S:Sto),j.drop i=k->i<=j.length->I i c d S->wTI e g t n Q k c d S:=by
  intro k
  induction k with
  | nil=>
    intro i c d S o r h;obtain rfl:i=j.length:=A1V r (A1t.mp o);exact⟨p _ _ _ _ h,C _ _ _ h⟩
  | cons y k s=>
    intro i c d S o r h;have u:j[i]?=O y:=by rw[<-A1k,o];rfl
    have m:=(gM u).1;have w:j.drop (i+1)=k:=by rw[<-A1s,o];rfl
    exact⟨p _ _ _ _ h,y8 g (λf q=>mt _ _ _ _ (λb S1 q=>n8 (λq=>z _ _ _ _ _ (λv S2 q=>s (i+1) _ _ S2 w m q) q) (λq=>s (i+1) _ _ S1 w m q) q) q) (B i y c d S u h)⟩
 exact D j 0 c a S J (ZY _) A
def CP{a:Sto->Prop}{g o:Tg}{t h:WT}{j:WI}{e:WE}{p:EnvS}{Q:U SV->Sto->Prop}(mt:MonoT t)(k:MonoI j)(l:MonoT h)(q:Mono e)(I:Nat->U SV->Sto->Prop){m:U SV}{S:Sto}(r:I 0 [] S)(s:∀ i c S,I i c S->a S)
 (u:∀ i x c S,m[i]?=O x->I i c S->wTg g x p λd=>t d S λb S1=>if b=aC then j d S1 λf n S2=>KH f o h e (I (i+1)) n d c S2 else I (i+1) c S1) (v:∀ c S,I m.length c S->Q c S):Ro a g t o j h e p Q m [] S:=BR mt (BG k l (Ao q)) I r s u v
def CQ{f:Sto->Prop}{g:Tg}{t:WT}{e:WE}{Q:U SV->Sto->Prop}(mt:MonoT t)(j:Mono e)(I:Nat->EnvS->U SV->Sto->Prop){h:U SV}{c:EnvS}{a:U SV}{S:Sto}(k:I 0 c a S)(l:∀ i c a S,I i c a S->f S)
 (m:∀ i x c a S,h[i]?=O x->I i c a S->wTg g x c λd=>t d S λb S1=>if b=aC then e d S1 λy S2=>a.length<big/\I (i+1) d (a++[y]) S2 else I (i+1) d a S1) (n:∀ c a S,I h.length c a S->Q a S):KH f g t e Q h c a S:=DI mt (Ao j) I k l m n
def rgA(kd:Nat):Stm:=(.asg (.nm 4) (.op .Add vK (.bi .int (vA (.cmp .Gt (.call kd (vB vG vV)) vJ)))))
def rgB:Stm:=(.asg (.nm 5) (.lst (vB (.tup (vB vI (.op .Add vI vK))) (.tup (vB vI (.op .Add vI vM))))))
def rgC:Stm:=(.iff (.cmp .Gt vM vK) [.expr (.mt .append vN (vA (.tup (vB (.op .Add vI vK) (.op .Add vI vT)))))] [])
def rgI(kd:Nat):Stm:=(.expr (.mt .insert vH (vB (.call kd (vB vG (.op .Add kP vK))) vO)))
def rgD(kd:Nat):Stm:=(.loop (.nm 6) (.seq vN) [rgI kd])
def rgE:Stm:=(.asg (.nm 2) (.op .Add vI vM))
def YO:Stm:=(.par 1 2 kD vJ)
def YQ(kd:Nat):Stm:=(.loop (.nm 3) (.rng1 (.op .Add vV (.call kd (vB vG vW)))) [rgA kd,rgB,rgC,rgD kd,rgE])
def YR:Stm:=(.ret (.tup (vB (.op .Add vI vK) (.bi .tuple (vA vH)))))
def QD(kd:Nat):U Stm:=[YO,YQ kd,YR]
section
variable{Δ:Nat->Sn}{kd:Nat}
def QF(p:∀ f,MonoN (Δ f))(I:t6 (Δ kd)){D:EndsS}{t l b n z m:Nat}{s S:Sto}{fs j:EE}{u c:Option SV}(A:Ah t s S l fs)(v:S[b]?=O (.lst (j.map pairS)))(K:b≠t)(L:b≠l)(M:En n fs)(N:En n j)(W:fs.length<=100)(X:j.length<=3)
 (q:∀(a:EE) (c:Option SV) (d:Sto),Ah t s d l a->En n a->a.length=fs.length+j.length->D.nx [O (.loc t),O (.loc l),O (.int ((z+m:Nat):Int)),u,O (.int m),O (.loc b),c] d):
 wSs Δ [rgD kd,rgE] D [O (.loc t),O (.loc l),O (.int z),u,O (.int m),O (.loc b),c] S:=by
 refine⟨_,J,_,c9 v,?_⟩;refine n4 (i9 p _) (λi w d=>∃(a:EE) (c:Option SV),w=[O (.loc t),O (.loc l),O (.int z),u,O (.int m),O (.loc b),c]/\Ah t s d l a/\d[b]?=O (.lst (j.map pairS))/\En n a/\a.length=fs.length+i) ⟨fs,c,J,A,v,M,J⟩ (by rintro _ _ d ⟨_,_,_,_,h,_⟩;exact h.trans v.symm) ?_ ?_
 ·rintro i x w S2 P ⟨B,C,rfl,g,E,y,o⟩;obtain⟨e,k,rfl⟩:=A8 P;have Q:=(gM k).1;refine⟨_,J,⟨_,_,J,g.at'⟩,_,J,_,J,_,c9 g.at',I g.tape (by lia) (by rw[YY];lia) λr S3 R T V G _=>?_⟩;have H:=g.draw V G;rw[YY]at T;refine⟨_,J,_,H.at',⟨R,by rw[YY];lia⟩,by rw[YY];show _<100000;lia,?_⟩;rw[FP];exact⟨_,_,J,H.put,by rw[v7 (Ne.symm L)];exact G.keep _ _ K E,Kq y (N e (Yb k)),by rw[Kr,o];lia⟩
 ·rintro w S2 ⟨B,C,rfl,g,E,y,o⟩;rw[YY]at o;have q:=q B C S2 g y o;rw[A0I]at q;exact⟨_,J,_,J,q⟩
def Kv(p:∀ f,MonoN (Δ f))(y:t6 (Δ kd)){D:EndsS}{t l z m:Nat}{s S:Sto}{fs:EE}{B u b:Option SV}(A:Ah t s S l fs)(H:En (z+1) fs)(C:fs.length<=100)(N:m=1\/m=2)
 (q:∀(a:EE) (u b:Option SV) (k:Sto),Ah t s k l a->En (z+m+1) a->a.length<=fs.length+m+1->D.nx [O (.loc t),O (.loc l),O (.int ((z+m:Nat):Int)),B,O (.int m),u,b] k):
 wSs Δ [rgB,rgC,rgD kd,rgE] D [O (.loc t),O (.loc l),O (.int z),B,O (.int m),u,b] S:=by
 have b2:2<=big:=by decide
 refine⟨_,J,_,J,b2,_,J,_,J,_,J,b2,b2,?_⟩;have c:=A.push (o:=SO.lst [.tup [.int z,.int ((z:Int)+1)],.tup [.int z,.int ((z:Int)+m)]])
 have r:(S++[SO.lst [.tup [.int z,.int ((z:Int)+1)],.tup [.int z,.int ((z:Int)+m)]]])[S.length]?=O (.lst ([(z,z+1),(z,z+m)].map pairS)):=by
  rw[f7];show _=O (SO.lst [.tup [.int z,.int ((z+1:Nat):Int)],.tup [.int z,.int ((z+m:Nat):Int)]]);rw[A0I,A0I];rfl
 have d:S.length≠t:=by have:=A.tape.lt;lia
 have I:l<S.length:=FK A.at';generalize S.length=v at *;generalize S++[SO.lst [.tup [.int z,.int ((z:Int)+1)],.tup [.int z,.int ((z:Int)+m)]]]=E at *;have G:En (z+m+1) fs:=λe g=>by have:=H e g;exact⟨this.1,by lia⟩
 refine⟨_,J,_,J,ifD (λh=>?_) (λh=>t9 ?_)⟩
 ·have w:m=2:=by lia
  subst w;refine⟨_,J,⟨_,_,J,r⟩,_,J,_,J,b2,_,r,by show 2<100000;lia,?_⟩;have K:[(z,z+1),(z,z+2)].map pairS++[SV.tup [.int ((z:Int)+1),.int ((z:Int)+2)]]=[(z,z+1),(z,z+2),(z+1,z+2)].map pairS:=J;rw[K];have L:(E.set v (.lst ([(z,z+1),(z,z+2),(z+1,z+2)].map pairS)))[v]?=O (.lst ([(z,z+1),(z,z+2),(z+1,z+2)].map pairS)):=m8 r;have M:Ah t s (E.set v (.lst ([(z,z+1),(z,z+2),(z+1,z+2)].map pairS))) l fs:=⟨c.tape.other d,c.on.new (by have:=c.new;lia),by rw[v7 (by lia)];exact c.at',c.new,c.t0⟩
  dsimp only[A22];refine QF p y (n:=z+2+1) M L d (by lia) G (λe g=>?_) C (by simp) λa b k x i j=>q a _ b k x i (by simp at j;lia);simp at g;rcases g with rfl | rfl | rfl<;>simp
 ·dsimp only[A22];refine QF p y (n:=z+m+1) c r d (by lia) G (λe g=>?_) C (by simp) λa b k x i j=>q a _ b k x i (by simp at j;lia);simp at g;rcases g with rfl | rfl
  ·exact⟨by show z<z+1;lia,by show z+1<z+m+1;lia⟩
  ·exact⟨by show z<z+m;lia,by show z+m<z+m+1;lia⟩
def GI(s:Sn):Prop:=∀{t:Nat} {S:Sto} {Q:QE},TapeS S t->(∀(n:Nat) (es:EE) (S':Sto),En n es->n<=17->es.length<=2 * (n - 1)->es.length<=24->TapeS S' t->On t S S'->Q (g9 n es) S')->s [.loc t] S Q
def QG(a:∀ f,MonoN (Δ f))(j:t6 (Δ kd)){D:Df}(H:D.body=QD kd)(I:D.N.length=7)(K:D.ps.length=1):GI (j7 Δ D):=by
 intro t S Q T q;unfold j7;rw[H,I];refine⟨K.symm,by show 0<=big;decide,?_⟩;have L:=T.lt;have y:Ah t S (S++[SO.lst []]) S.length []:=⟨T.push,(On.refl t S).push,f7,Ym _,L⟩
 generalize S.length=l at *;generalize S++[SO.lst []]=S1 at *;refine⟨_,J,j y.tape (by decide) (by decide) λr S2 r0 r1 M P _=>⟨_,J,⟨by lia,by lia⟩,?_⟩⟩;refine n4 (i9 a _) (λi n o=>∃(z:Nat) (fs:EE) (p s b c:Option SV),n=[O (.loc t),O (.loc l),O (.int z),p,s,b,c]/\Ah t S o l fs/\En (z+1) fs/\z<=2 * i/\fs.length<=3 * i/\fs.length<=2 * z) ⟨0,[],aB,aB,aB,aB,J,y.draw M P,(λ_ h=>nomatch h),Ym _,Ym _,Ym _⟩ (λ_ _ _ _=>trivial) ?_ ?_
 ·rintro i x n A R ⟨z,fs,p,s,b,c,rfl,g,k,B,C,V⟩;obtain⟨rfl,hi⟩:=k0 R;refine⟨_,J,j g.tape (by decide) (by decide) λu E u0 u1 W X _=>?_⟩;have G:=g.draw W X;by_cases hu:0<u
  ·show wSs Δ [rgB,rgC,rgD kd,rgE] _ [O (.loc t),O (.loc l),O (.int z),_,O (.int (1+if decide (0<u)=aC then 1 else 0)),b,c] E;rw[decide_eq_true hu];exact Kv (m:=2) a j G k (by lia) (.inr J) λd b c o v e w=>⟨_,d,_,_,_,_,J,v,e,by lia,by lia,by lia⟩
  ·show wSs Δ [rgB,rgC,rgD kd,rgE] _ [O (.loc t),O (.loc l),O (.int z),_,O (.int (1+if decide (0<u)=aC then 1 else 0)),b,c] E;rw[decide_eq_false hu];exact Kv (m:=1) a j G k (by lia) (.inl J) λd b c o v e w=>⟨_,d,_,_,_,_,J,v,e,by lia,by lia,by lia⟩
 ·rintro n A ⟨z,fs,p,s,b,c,rfl,g,k,B,C,V⟩;rw[l7]at B C;refine⟨_,J,_,J,_,c9 g.at',by show 2<=big;decide,?_⟩;have q:=q (z+1) fs A k (by lia) (by lia) (by lia) g.tape g.on;exact q
end
def jw1(a:Nat):Stm:=(.asg (.nm 1) (.call a (vB vG vS)))
def jw2(kd kr:Nat):Stm:=(.iff (.cmp .Eq (.call kd (vB vG (.c (.int 6)))) vJ) [.asg (.nm 1) (.call kr (vA vG))] [])
def jw3(kd a b:Nat):Stm:=(.loop (.nm 2) (.rng1 (.op .Mult (.call kd (vB vG vP)) (.bi .int (vA (.cmp .Lt kJ vY))))) [.asg (.nm 1) (.call b (vC vG vH (.call a (vB vG vS))))])
def jwT:Stm:=(.asg (.nm 1) (.tup (vB (.op .Add kJ (.ix vL vJ)) (.op .Add (.ix vH vK) (.bi .tuple (vA (.comp ["_law_one","_law_other"] ["_law_web_here"] [1] (.tup (.cons (.nm 0) (.cons (.nm 1) .nil))) (.seq (.ix vL vK)) .no (.tup (vB (.op .Add vG kM) (.op .Add vH kM))))))))))
def jw4(kd a:Nat):Stm:=(.iff (.cmp .Eq (.call kd (vB vG vY)) vJ) [.asg (.nm 3) (.call a (vB vG vS)),jwT] [])
def jw5:Stm:=(.ret vH)
def EJ(kd a b kr:Nat):U Stm:=[jw1 a,jw2 kd kr,jw3 kd a b,jw4 kd a,jw5]
def U9(c:Bool->Bool)(s:Sn):Prop:=∀{t:Nat} {S:Sto} {Q:QE},TapeS S t->(∀(n:Nat) (es:EE) (S':Sto),WebC n es->(c aD=aC->n<=25/\es.length<=60)->TapeS S' t->On t S S'->Q (g9 n es) S')->s [.loc t] S Q
section
variable{Δ:Nat->Sn}{kd kw kj kr:Nat}{c:Bool->Bool}
def shE(k:Nat)(e:Nat×Nat):Nat×Nat:=(e.1+k,e.2+k)
def TB(b:∀ f,MonoN (Δ f))(v:t6 (Δ kd))(w:WebKSp c (Δ kw)){t n:Nat}{a:EE}{l S:Sto}{Q:QE}{y A:Option SV}(T:TapeS S t)(O:On t l S)(o:En n a)(L:n<=60)(M:a.length<=300)(p:c aD=aC->n<=19/\a.length<=45)
 (q:∀(n:Nat) (a:EE) (g:Sto),WebC n a->(c aD=aC->n<=25/\a.length<=60)->TapeS g t->On t l g->Q (g9 n a) g):wSs Δ [jw4 kd kw,jw5] (p8 Q) [aA (.loc t),aA (g9 n a),y,A] S:=by
 refine⟨_,J,v T (by decide) (by decide) λr S2 N P s u _=>⟨_,J,ifD (λh=>?_) (λh=>t9 ⟨_,J,q n a S2 ⟨o,by lia,by lia⟩ (λz=>by have:=p z;lia) s (O.trans u)⟩)⟩⟩;refine⟨_,J,w s λm fs B W C D E=>?_⟩;have R:=W.few;have G:=W.len;refine⟨_,J,_,_,J,J,_,J,_,_,J,J,_,J,_,_,J,J,_,J,_,_,J,J,_,J,?_⟩;refine i4 (g8 b _).2 (c8 b _).1 (λi j k=>k=B/\j=((fs.take i).map (shE n)).map pairS) ⟨J,J⟩ (λ_ _ _ _=>trivial) ?_ ?_
 ·rintro i x j k H ⟨rfl,rfl⟩;obtain⟨e,d,rfl⟩:=A8 H;have I:=(gM d).1;refine⟨_,J,_,J,_,_,J,J,_,J,_,J,_,_,J,J,by show 2<=big;decide,by rw[YY,YY,ZG];show _<100000;lia,J,?_⟩;rw[ZA,d,Yo,Yo];rfl
 ·rintro j k ⟨rfl,rfl⟩;rw[YY,Z1];refine⟨_,c9 f7,by rw[YY,YY,YY];show _<=100000;lia,by show 2<=big;decide,?_⟩;rw[<-Yo];refine⟨_,J,q (n+m) (a++fs.map (shE n)) _ ⟨λe h=>?_,by rw[Yd,YY];lia,by lia⟩ (λz=>by have:=p z;have:=C z;rw[Yd,YY];lia) D.push ((O.trans u).trans E).push⟩;rcases Yz.mp h with h | h
  ·have:=o e h;exact⟨this.1,by lia⟩
  ·obtain⟨f,K,rfl⟩:=Z2.mp h;have:=W.en f K;exact⟨by show f.1+n<f.2+n;lia,by show f.2+n<n+m;lia⟩
def Kw(g:∀ f,MonoN (Δ f))(E:t6 (Δ kd))(G:WebKSp c (Δ kw))(L:Co (Δ kj)){t n:Nat}{a:EE}{s S:Sto}{Q:QE}(T:TapeS S t)(O:On t s S)(M:En n a)(hn:n<=17)(hl:a.length<=61)(H:c aD=aC->(n<8->a.length<=15)/\a.length<=45)
 (q:∀(n:Nat) (a:EE) (e:Sto),WebC n a->(c aD=aC->n<=25/\a.length<=60)->TapeS e t->On t s e->Q (g9 n a) e):wSs Δ [jw3 kd kw kj,jw4 kd kw,jw5] (p8 Q) [aA (.loc t),aA (g9 n a),aB,aB] S:=by
 refine⟨_,J,E T (by decide) (by decide) λr S2 r0 r1 N P _=>⟨_,J,_,_,J,J,.inl ⟨by lia,by lia⟩,?_⟩⟩
 have R:∃ m:Nat,r * (if decide ((n:Int)<8)=aC then 1 else 0)=(m:Int)/\m<=2/\(0<m->n<8):=by
  by_cases h:(n:Int)<8
  ·rw[decide_eq_true h];exact⟨r.toNat,by rw[iP J];lia,by lia,λ_=>by lia⟩
  ·rw[decide_eq_false h];exact⟨0,by simp,by lia,nofun⟩
 obtain⟨m,V,hm,j⟩:=R;refine⟨_,congrArg SV.int V,⟨by lia,by lia⟩,?_⟩;refine n4 (i9 g _) (λi u e=>∃(n:Nat) (a:EE) (v:Option SV),u=[aA (.loc t),aA (g9 n a),v,aB]/\TapeS e t/\On t s e/\En n a/\n<=17+12 * i/\a.length<=61+61 * i/\(c aD=aC->(0<m->n<=7+6 * i/\a.length<=15+15 * i)/\(m=0->n<=19/\a.length<=45))) ⟨n,a,aB,J,N,O.trans P,M,by lia,by lia,λz=>⟨λy=>by have:=(H z).1 (j y);have:=j y;lia,λy=>by have:=(H z).2;lia⟩⟩ (λ_ _ _ _=>trivial) ?_ ?_
 ·rintro i x u X hx ⟨n',w,v,rfl,A,B,d,k,l,b⟩;obtain⟨rfl,hi⟩:=k0 hx;refine⟨_,J,_,J,_,J,G A λm' fs S4 W C T4 O4=>?_⟩;have a0:=W.few;have a1:=W.len;refine L T4 d W.en (by lia) (by lia) (by lia) (by lia) λD o S5 p I K T5 O5=>⟨D,o,_,J,T5,(B.trans O4).trans O5,p,by lia,by lia,λz=>by have:=b z;have:=C z;lia⟩
 ·rintro u X ⟨n',w,v,rfl,A,B,d,k,l,b⟩;rw[l7,show((m:Int) - 0).toNat=m by lia]at k l b;exact TB g E G A B d (by lia) (by lia) (λz=>by have:=b z;lia) q
def Ek(a:∀ f,MonoN (Δ f))(b:t6 (Δ kd))(d:WebKSp c (Δ kw))(g:Co (Δ kj))(l:GI (Δ kr)){D:Df}(m:D.body=EJ kd kw kj kr)(o:D.N.length=4)(p:D.ps.length=1):U9 c (j7 Δ D):=by
 intro t S Q T q;unfold j7;rw[m,o];refine⟨p.symm,_,J,d T λn B S2 W C s i=>?_⟩;have E:=W.few;have G:=W.len;refine⟨_,J,b s (by decide) (by decide) λr H I K j k _=>⟨_,J,ifD (λh=>?_) (λh=>t9 ?_)⟩⟩
 ·refine⟨_,J,l j λL u M e v w x y A=>?_⟩;exact Kw a b d g y ((i.trans k).trans A) e (by lia) (by lia) (λz=>by lia) q
 ·exact Kw a b d g j (i.trans k) W.en (by lia) (by lia) (λz=>by have:=C z;lia) q
end
def rc1(a b:Nat):Stm:=(.asg (.nm 4) (.comp ["tie"] ["web","place","part"] [0,1,3] (.nm 0) (.seq (.call a (vB vG vH))) (.yes (.cmp .In (.call b (vC vH vG vI)) vL)) vG))
def rc2:Stm:=(.expr (.mt .extend vI (vA (.comp ["tie"] ["ties"] [4] (.nm 0) (.seq (.slc vM (.yes vK) .no)) .no (.tup (vB kJ vG))))))
def Xn(a b c d:Nat):U Stm:=[.asg (.nm 2) kD,.loop (.nm 3) (.seq (.call c (vA (.call d (vB vG vH))))) [rc1 a b,rc2],.ret vI]
def DB(n:Nat)(es:EE)(p t:Nat):Nat:=Hue.mk n (Hue.off p es) (Fy (es.getD t (0,0)) p)
def tsF(n:Nat)(es:EE)(p f:Nat):U Nat:=(i5 es p es.length).filter λt=>decide (DB n es p t=f)
def cpH(ts:U Nat):EE:=(ts.drop 1).map λt=>(ts.getD 0 0,t)
def cpT(n:Nat)(es:EE)(p:Nat)(fs:U Nat):EE:=fs.flatMap λf=>cpH (tsF n es p f)
def cpR(n:Nat)(es:EE)(p:Nat):EE:=cpT n es p (rootsL (Hue.mk n (Hue.off p es)) n)
def cpA(n:Nat)(es:EE)(k:Nat):EE:=(Ye k).flatMap (cpR n es)
theorem Cp{d:Type}{g:d->Nat}:∀{fs:U Nat} {ts:U d},fs.Nodup->(fs.flatMap λf=>ts.filter λt=>decide (g t=f)).length<=ts.length
 | [],ts,_=>by simp
 | f::fs,ts,b=>by
   obtain⟨h,b⟩:=ZP.mp b;have i:=Cp (g:=g) (ts:=ts.filter λt=>!decide (g t=f)) b
   have e:(fs.flatMap λa=>(ts.filter λt=>!decide (g t=f)).filter λt=>decide (g t=a))=fs.flatMap λa=>ts.filter λt=>decide (g t=a):=by
    rw[A1R,A1R]
    congr 1
    refine Zw λa c=>?_;rw[List.filter_filter];refine A0V λt _=>?_;by_cases z:g t=a
    ·have:¬ g t=f:=λy=>h (by rw[<-y,z];exact c);simp[z,this];intro y;exact this (z.trans y)
    ·simp[z]
   rw[e]at i;have s:=Hue.len_split (λ_=>aC) (λt=>decide (g t=f)) ts;simp only[A1y]at s;have z:ts.filter (λ_=>aC)=ts:=List.filter_eq_self.mpr λ_ _=>rfl;rw[z]at s;rw[A05,Yd]
   lia
theorem Cq{b c:Type}{g:Nat->U b}{h:Nat->U c}:∀{fs:U Nat},(∀ f∈fs,(g f).length<=(h f).length)->(fs.flatMap g).length<=(fs.flatMap h).length
 | [],_=>by simp
 | f::fs,z=>by
   have:=Cq λd a=>z d (Yh _ a);have:=z f (Yi ..);rw[A05,A05,Yd,Yd];lia
def TC(a:U Nat):(cpH a).length<=a.length:=by unfold cpH;rw[YY,Zg];lia
def GJ(n:Nat)(a:EE)(p:Nat){fs:U Nat}(b:fs.Nodup):(cpT n a p fs).length<=(i5 a p a.length).length:=
 Z6 (Cq (g:=λf=>cpH (tsF n a p f)) (h:=λf=>(i5 a p a.length).filter λt=>decide (DB n a p t=f)) λf _=>TC _) (Cp b)
def AV(m:Nat->Nat)(n:Nat):(rootsL m n).Nodup:=Zj.filter _
theorem QH{b:Type}{A B C:b->Bool}(h:∀ a,A a=aC->B a=aC\/C a=aC):∀ l:U b,(l.filter A).length<=(l.filter B).length+(l.filter C).length
 | []=>by simp
 | a::l=>by
   have d:=QH h l;have c:=h a;rw[ZC,ZC,ZC];cases hA:A a<;>cases hB:B a<;>cases hC:C a<;>simp[hA,hB,hC]at c ⊢<;>lia
def QI(i:EE)(k:Nat):((Ye k).flatMap λp=>i5 i p i.length).length<=2 * i.length:=by
 have a:=Cp (g:=λt=>(i.getD t (0,0)).1) (fs:=Ye k) (ts:=Ye i.length) Zj;have b:=Cp (g:=λt=>(i.getD t (0,0)).2) (fs:=Ye k) (ts:=Ye i.length) Zj;rw[Z0]at a b
 have c:((Ye k).flatMap λp=>i5 i p i.length).length<=((Ye k).flatMap λp=>((Ye i.length).filter λt=>decide ((i.getD t (0,0)).1=p))++((Ye i.length).filter λt=>decide ((i.getD t (0,0)).2=p))).length:=by
  refine Cq λp _=>?_;rw[Yd];unfold i5;refine QH (λj l=>?_) _;rw[Yg];cases hz:i[j]? with
  | none=>rw[hz]at l;cases l
  | some e=>
    rw[hz]at l;have l:(decide (e.1=p)||decide (e.2=p))=aC:=l;rw[ZU]at l;exact l
 have d:∀(fs:U Nat) (g h:Nat->U Nat),(fs.flatMap λp=>g p++h p).length=(fs.flatMap g).length+(fs.flatMap h).length:=by
  intro fs g h
  induction fs with
  | nil=>rfl
  | cons f fs m=>rw[A05,A05,A05,Yd,Yd,Yd,Yd,m];lia
 rw[d]at c
 lia
def Kx(n:Nat)(a:EE)(k:Nat):(cpA n a k).length<=2 * a.length:=
 Z6 (Cq (g:=cpR n a) (h:=λp=>i5 a p a.length) λp _=>GJ n a p (AV _ _)) (QI a k)
section
variable{Δ:Nat->Sn}
def TD(n:Nat)(c:EE)(p f:Nat):(tsF n c p f).length<=c.length:=by have a:=Z5 (λt=>decide (DB n c p t=f)) (i5 c p c.length);have b:(i5 c p c.length).length<=c.length:=u7 _ _;exact Z6 a b
def mem_cls{m:Nat->Nat}{n f x:Nat}:x∈clsF m n f↔x<n/\m x=f:=by unfold clsF;rw[Yu,Yr,dQ]
def Vp(g:∀ f,MonoN (Δ f)){A B:Nat}(I:Ar (Δ A))(K:Ci (Δ B)){D:EndsS}{b:U Stm}{n p f m:Nat}{a:EE}{S:Sto}{C L:Option SV}(H:WebC n a)(M:p<n)(c:S[m]?=O (.lst (natS (clsF (Hue.mk n (Hue.off p a)) n f))))
 (q:∀(l:Nat) (u:Sto),Gw S u->S.length<=l->u[l]?=O (.lst (natS (tsF n a p f)))->wSs Δ b D [O (g9 n a),O (.int (p:Nat)),C,O (.loc m),O (.loc l)] u):wSs Δ (rc1 A B::b) D [O (g9 n a),O (.int (p:Nat)),C,O (.loc m),L] S:=by
 have V:=H.len;refine⟨_,J,_,J,I (by lia) M ⟨_,c9 f7,?_⟩⟩;have i:=f8 (o:=SO.lst (natS (i5 a p a.length))) c;have E:Gw S (S++[SO.lst (natS (i5 a p a.length))]):=(Gw.refl S).push;generalize S++[SO.lst (natS (i5 a p a.length))]=S1 at *;have W:(i5 a p a.length).length<=a.length:=u7 _ _;refine i4 (g8 g _).2 (c8 g _).1 (λj v S2=>S2=S1/\v=natS (((i5 a p a.length).take j).filter λt=>decide (DB n a p t=f))) ⟨J,J⟩ (λ_ _ _ h=>by rw[h.1];exact J) ?_ ?_
 ·rintro j x v S2 N ⟨rfl,rfl⟩;obtain⟨t,d,rfl⟩:=v8 N;obtain⟨e,w,y⟩:=mem_tiesAt.mp (Yb d);have Q:=(gM d).1;have r:=IB (P:=λt=>decide (DB n a p t=f)) d
  have G:(((i5 a p a.length).take j).filter λt=>decide (DB n a p t=f)).length<=j:=by
   have:=Z5 (λt=>decide (DB n a p t=f)) ((i5 a p a.length).take j);rw[ZG]at this
   lia
  have R:=H.en e (Yb w);have T:Fy e p<n:=by unfold Fy;split<;>lia
  have k:DB n a p t=Hue.mk n (Hue.off p a) (Fy e p):=by unfold DB;rw[Yg,w];rfl
  refine⟨_,J,_,J,_,J,K w (y.imp Eq.symm Eq.symm) ⟨_,J,?_⟩⟩;show match Aj (.loc m) S2 with | some X=>_ | none=>_
  rw[Aq i];refine⟨J,_,c9 i,FM _,_,J,?_⟩;show if inS (.int (Fy e p:Nat)) (natS (clsF (Hue.mk n (Hue.off p a)) n f))=aC then _ else _
  rw[D8];by_cases s:DB n a p t=f
  ·rw[iP (by simpa using s)]at r;exact ifT (by rw[dQ,mem_cls];exact⟨T,k▸s⟩) ⟨_,J,by rw[g0];show _<100000;lia,J,by rw[r,t5];rfl⟩
  ·rw[iG (by simpa using s),ZD]at r;exact ifF (by rw[decide_eq_false_iff_not,mem_cls];exact λz=>s (k.trans z.2)) ⟨J,by rw[r]⟩
 ·rintro v S2 ⟨rfl,rfl⟩;rw[g0,Z1];exact q _ _ E.push E.len f7
def YS(b:U Nat):Fk (natS b) (O (1:Int)) aB=natS (b.drop 1):=by
 unfold Fk;rw[show(1:Int)=((1:Nat):Int) from J,HT.sIx_nat,HT.sIx_none];unfold natS;rw[<-A0F];cases b with
 | nil=>rfl
 | cons a b=>
   rw[A28,A23,ZE,ZK,show min 1 ((b.map λ(i:Nat)=>SV.int i).length+1)=1 by lia,A28,A23,Nat.add_sub_cancel,Z1]
def Vq(g:∀ f,MonoN (Δ f)){D:EndsS}{l c:Nat}{b:U Nat}{d:EE}{S:Sto}{r s u:Option SV}(v:S[c]?=O (.lst (d.map pairS)))(w:S[l]?=O (.lst (natS b)))(C:d.length+b.length<=10000)
 (q:∀ m:Sto,On c S m->m[c]?=O (.lst ((d++cpH b).map pairS))->D.nx [r,s,O (.loc c),u,O (.loc l)] m):wSs Δ [rc2] D [r,s,O (.loc c),u,O (.loc l)] S:=by
 refine⟨_,J,⟨_,_,J,v⟩,_,J,_,J,_,w,?_⟩;rw[YS];refine⟨_,c9 f7,?_⟩;have e:=f8 (o:=SO.lst (natS (b.drop 1))) v;have n:=f8 (o:=SO.lst (natS (b.drop 1))) w;have y:On c S (S++[SO.lst (natS (b.drop 1))]):=(On.refl c S).push;generalize S++[SO.lst (natS (b.drop 1))]=S1 at *;refine i4 (g8 g _).2 (c8 g _).1 (λj p S2=>S2=S1/\p=(((b.drop 1).take j).map λt=>(b.getD 0 0,t)).map pairS) ⟨J,J⟩ (λ_ _ _ h=>by rw[h.1];exact J) ?_ ?_
 ·rintro j x p S2 z ⟨rfl,rfl⟩;obtain⟨t,i,rfl⟩:=v8 z;have k:=(gM i).1;rw[Zg]at k
  have A:b[0]?=O (b.getD 0 0):=by cases b with
   | nil=>simp at k
   | cons a b=>rfl
  refine⟨_,J,_,_,c9 n,j3 (j:=0) (m7 A),_,J,by show 2<=100000;decide,by rw[YY,YY,ZG,Zg];show _<100000;lia,J,?_⟩;rw[ZA,i];simp[pairS]
 ·rintro p S2 ⟨rfl,rfl⟩;rw[g0,Z1];have B:c≠S2.length:=Ys (gM e).1;refine⟨_,_,f8 e,f7,by rw[YY,YY,YY,Zg];show _<=100000;lia,?_⟩;refine q _ (y.push.tape) ?_;rw[m8 (f8 e),<-Yo];rfl
def YT{t:Nat}{S a:Sto}(G:Gw S a):On t S a:=⟨G.len,λk o _ h=>G.keep k o h⟩
def QJ(s:Sn):Prop:=∀{n p:Nat} {es:EE} {S:Sto} {Q:QE},WebC n es->p<n->(∀(l:Nat) (S':Sto),Gw S S'->S.length<=l->S'[l]?=O (.lst ((cpR n es p).map pairS))->Q (.loc l) S')->s [g9 n es,.int (p:Nat)] S Q
def Vr(b:∀ f,MonoN (Δ f)){t u v w:Nat}(V:Ar (Δ t))(W:Ci (Δ u))(y:Ck (Δ v))(X:D7 (Δ w)){D:Df}(hb:D.body=Xn t u v w)(hN:D.N.length=5)(z:D.ps.length=2):QJ (j7 Δ D):=by
 intro n p a S Q H M q;have hl:=H.len;have a0:=H.few;unfold j7;rw[hb,hN];refine⟨z.symm,by show 0<=100000;decide,?_⟩;show wSs Δ [.loop (.nm 3) (.seq (.call v (vA (.call w (vB vG vH))))) [rc1 t u,rc2],.ret vI] (p8 Q) [aA (g9 n a),aA (.int (p:Nat)),aA (.loc S.length),aB,aB] (S++[.lst []]);refine⟨_,J,_,J,X (by lia) M λS1 A=>y (λe he=>H.en e (Hue.off_mem.mp he).1) (by have:=Sy p a;lia) (by lia) λl ls S2 P l0 C up B=>⟨_,c9 C.top,?_⟩⟩;have E:S2[S.length]?=aA (.lst []):=P.keep _ _ (A.keep _ _ f7);have GS:Gw S S2:=(Gw.refl S).push.trans (A.trans P);have G:S.length<S1.length:=by have:=A.len;rw[Yd,ZS]at this;lia
 have ll:l≠S.length:=by lia
 have I:ls.length=(rootsL (Hue.mk n (Hue.off p a)) n).length:=by rw[C.len];unfold B7;rw[YY]
 have tl:(i5 a p a.length).length<=a.length:=u7 _ _;refine n4 (i9 b _) (λi j c=>∃ m r:Option SV,j=[aA (g9 n a),aA (.int (p:Nat)),aA (.loc S.length),m,r]/\On S.length S2 c/\c[S.length]?=aA (.lst ((cpT n a p ((rootsL (Hue.mk n (Hue.off p a)) n).take i)).map pairS))) ⟨aB,aB,J,On.refl _ _,E⟩ (λi j c h=>?_) ?_ ?_
 ·obtain⟨m,r,e,O,h⟩:=h;show c[l]?=S2[l]?;rw[C.top];exact O.keep _ _ ll C.top
 ·rintro i x j c R ⟨m,r,rfl,O,s⟩;rw[Yj]at R;obtain⟨K,d,rfl⟩:=Zh.mp R;have hi:=(gM d).1;have g:=Ya (show i<(rootsL (Hue.mk n (Hue.off p a)) n).length by lia);generalize (rootsL (Hue.mk n (Hue.off p a)) n)[i]'(by lia)=f at g;have L:=C.row i K (clsF (Hue.mk n (Hue.off p a)) n f) d (by unfold B7;rw[Yj,g];rfl);have ne:K≠S.length:=by have:=B K (Yb d);lia
  have b1:=GJ n a p (((A1E i _).nodup) (AV (Hue.mk n (Hue.off p a)) n));have b2:=TD n a p f
  have e:cpT n a p ((rootsL (Hue.mk n (Hue.off p a)) n).take (i+1))=cpT n a p ((rootsL (Hue.mk n (Hue.off p a)) n).take i)++cpH (tsF n a p f):=by
   unfold cpT;rw[ZA,g,A0j];simp
  refine Vp b V W H M (O.keep _ _ ne L) λlt S3 T a1 h3=>?_;refine Vq b (T.keep _ _ s) h3 (by lia) λS4 O4 h4=>?_;exact⟨_,_,J,O.trans ((YT T).trans O4),by rw[h4,e]⟩
 ·rintro j c ⟨m,r,rfl,O,s⟩;rw[YY,I,Z1]at s;exact⟨_,J,q S.length c ⟨Z6 GS.len O.len,λk o h=>O.keep k o (Ys (gM h).1) (GS.keep k o h)⟩ (Ym _) s⟩
def Ky(a b:Nat):U Stm:=[.asg (.nm 1) (.comp2 ["place","couple"] ["web"] [0] (.nm 0) (.rng1 kE) .no (.nm 1) (.seq (.call a (vB vI vG))) .no vH),.ret (.call b (vA (.tup (vB kI (.bi .tuple (vA vH))))))]
def t7(n:Nat)(es:EE):U (U Nat):=B7 (Hue.mk es.length (cpA n es n)) es.length
def EK(s:Sn):Prop:=∀{n:Nat} {es:EE} {S:Sto} {Q:QE},WebC n es->(∀(l:Nat) (ls:U Nat) (S':Sto),Gw S S'->S.length<=l->Cls S' l ls (t7 n es)->ls.Pairwise (·<·)->(∀ k∈ls,S.length<=k/\k<l)->Q (.loc l) S')->s [g9 n es] S Q
def QK(n:Nat)(a:EE)(p f:Nat):(tsF n a p f).Pairwise (·<·):=List.Pairwise.filter _ (List.Pairwise.filter _ Zu)
def Kz{b:U Nat}{c:Nat×Nat}(e:b.Pairwise (·<·))(h:c∈cpH b):c.1∈b/\c.2∈b/\c.1<c.2:=by
 cases b with
 | nil=>simp[cpH]at h
 | cons a b=>
   unfold cpH at h;obtain⟨t,d,rfl⟩:=Z2.mp h;have d:t∈b:=d;exact⟨Yi ..,Yh _ d,(A09.mp e).1 t d⟩
def mem_tsF{n p f t:Nat}{a:EE}:t∈tsF n a p f↔t∈i5 a p a.length/\DB n a p t=f:=by unfold tsF;rw[Yu,dQ]
def mem_cpA{n:Nat}{a:EE}{c:Nat×Nat}:c∈cpA n a n↔∃ p f,p<n/\(f<n/\Hue.mk n (Hue.off p a) f=f)/\c∈cpH (tsF n a p f):=by
 unfold cpA cpR cpT rootsL;simp only[A0E,Yr,Yu,dQ];constructor
 ·rintro⟨p,b,f,d,h⟩;exact⟨p,f,b,d,h⟩
 ·rintro⟨p,f,b,d,h⟩;exact⟨p,b,f,d,h⟩
def EL{n:Nat}{a:EE}:∀ c∈cpA n a n,c.1<c.2/\c.2<a.length:=λc b=>by
 obtain⟨p,f,j,k,h⟩:=mem_cpA.mp b;obtain⟨l,d,g⟩:=Kz (QK n a p f) h;obtain⟨e,i,_⟩:=mem_tiesAt.mp (mem_tsF.mp d).1;exact⟨g,(gM i).1⟩
def Mv(b:∀ f,MonoN (Δ f)){A p:Nat}(G:QJ (Δ A))(r:Ck (Δ p)){D:Df}(I:D.body=Ky A p)(K:D.N.length=2)(s:D.ps.length=1):EK (j7 Δ D):=by
 intro n a S Q H q;have W:=H.len;have L:=H.few;unfold j7;rw[I,K];refine⟨s.symm,_,J,_,_,J,J,_,J,⟨by lia,by lia⟩,?_⟩;refine CP (g8 b _).2 (w9 b _) (g8 b _).2 (c8 b _).1 (λi c S1=>Gw S S1/\i<=n/\c=(cpA n a i).map pairS) ⟨Gw.refl S,ZY _,J⟩ (λ_ _ _ _=>trivial) ?_ ?_
 ·rintro i x c S1 t ⟨d,_,rfl⟩;obtain⟨rfl,m⟩:=k0 t;rw[Zd]at m ⊢;have m:i<n:=by lia
  refine⟨_,J,_,J,G H m λl S2 u M P=>⟨_,c9 P,?_⟩⟩;refine CQ (g8 b _).2 (c8 b _).1 (λj v c w=>∃ o,v=[O (.int (i:Int)),o,O (g9 n a)]/\w=S2/\c=(cpA n a i++(cpR n a i).take j).map pairS) ⟨aB,J,J,by simp⟩ (λ_ _ _ _ h=>by obtain⟨_,_,h,_⟩:=h;rw[h];exact J) ?_ ?_
  ·rintro j x v c w t ⟨o,rfl,rfl,rfl⟩;obtain⟨e,B,rfl⟩:=A8 t;have b1:=Kx n a i;have b2:=GJ n a i (AV (Hue.mk n (Hue.off i a)) n);have b3:(i5 a i a.length).length<=a.length:=u7 _ _;have b4:=(gM B).1;have b5:(cpR n a i).length<=a.length:=Z6 b2 b3;refine⟨_,J,by rw[YY,Yd,ZG];show _<100000;lia,_,J,J,?_⟩;rw[ZA,B];simp
  ·rintro v c w ⟨o,rfl,rfl,rfl⟩;refine⟨d.trans u,m,?_⟩;rw[YY,Z1];unfold cpA;rw[ZV,A0j];simp
 ·rintro c S1 ⟨d,_,rfl⟩;rw[l7,show((n:Int) - 0).toNat=n by lia];have b1:=Kx n a n;refine⟨_,J,_,_,J,J,_,J,_,J,_,c9 f7,by show 2<=100000;decide,?_⟩
  have y:∀ z:SV,z=g9 a.length (cpA n a n)->Δ p [z] (S1++[.lst ((cpA n a n).map pairS)]) Q:=by
   rintro _ rfl;exact r EL (by lia) (by lia) λl R S2 u T C V g=>q l R S2 (d.push.trans u) (Z6 (d.push (o:=SO.lst ((cpA n a n).map pairS))).len T) C V λk E=>⟨Z6 (d.push (o:=SO.lst ((cpA n a n).map pairS))).len (g k E).1,(g k E).2⟩
  exact y _ (by unfold g9;rw[YY])
end
def GK{n p t:Nat}{a:EE}{e:Nat×Nat}(b:a[t]?=O e):DB n a p t=Hue.sg n a p e:=by
 unfold DB Hue.sg Fy Hue.oth;rw[Yg,b];show Hue.mk n (Hue.off p a) (if p=e.1 then e.2 else e.1)=_;by_cases z:p=e.1
 ·rw[iP z,iP z.symm]
 ·rw[iG z,iG (λy=>z y.symm)]
def QL{E:Nat}{d:EE}(e:∀ c∈d,c.1<E/\c.2<E){ts:U Nat}(h:∀ c∈cpH ts,c∈d):∀ t∈ts,Hue.mk E d t=Hue.mk E d (ts.getD 0 0):=by
 cases ts with
 | nil=>intro t b;cases b
 | cons a ts=>
   intro t b;rcases Yp.mp b with rfl | b
   ·rfl
   ·exact(Hue.mk_ends e _ (h (a,t) (Z2.mpr ⟨t,b,J⟩))).symm
def QM{n:Nat}{d:EE}(k:∀ e∈d,e.1<e.2/\e.2<n):Hue.Cps n d (cpA n d n):=by
 have l:∀ e∈d,e.1<n/\e.2<n:=λe g=>let ⟨a,b⟩:=k e g;⟨A0h a b,b⟩
 have x:∀ c∈cpA n d n,c.1<d.length/\c.2<d.length:=λc h=>let ⟨a,b⟩:=EL c h;⟨A0h a b,b⟩
 refine⟨EL,λc h=>?_,λt u e f v y g m o q z=>?_⟩
 ·obtain⟨p,f,K,m,h⟩:=mem_cpA.mp h;obtain⟨o,q,L⟩:=Kz (QK n d p f) h;obtain⟨A,r⟩:=mem_tsF.mp o;obtain⟨B,s⟩:=mem_tsF.mp q;obtain⟨C,i,D⟩:=mem_tiesAt.mp A;obtain⟨E,j,G⟩:=mem_tiesAt.mp B;rw[GK i]at r;rw[GK j]at s;exact⟨p,C,E,i,j,D,G,r.trans s.symm⟩
 ·have w:Hue.oth e v<n:=by
   have:=l e (Yb g);unfold Hue.oth;split<;>lia
  have H:t∈tsF n d v (Hue.sg n d v e):=mem_tsF.mpr ⟨mem_tiesAt.mpr ⟨e,g,o⟩,GK g⟩;have I:u∈tsF n d v (Hue.sg n d v e):=mem_tsF.mpr ⟨mem_tiesAt.mpr ⟨f,m,q⟩,(GK m).trans z.symm⟩;have all:=QL x (ts:=tsF n d v (Hue.sg n d v e)) λc h=>mem_cpA.mpr ⟨v,_,y,⟨Hue.mk_lt (Hue.off_hn l) w,Hue.mk_mk (Hue.off_hn l) w⟩,h⟩;rw[all t H,all u I]
def keyL(n:Nat)(es:EE)(t:Nat):U Int:=(Ye n).map λx=>((Hue.sg n es x (es.getD t (0,0)):Nat):Int)
structure Lst(E:Nat)(M:Nat->Nat)(k:Nat->List Int):Prop where
 le:∀ t,t<E->M t<=t
 fix:∀ t,t<E->M (M t)=M t
 key:∀ t u,t<E->u<E->(k t=k u↔M t=M u)
def L0{n:Nat}{d:EE}(i:∀ e∈d,e.1<e.2/\e.2<n):Lst d.length (Hue.mk d.length (cpA n d n)) (keyL n d):=by
 have r:∀ e∈d,e.1<n/\e.2<n:=λe j=>let ⟨a,b⟩:=i e j;⟨A0h a b,b⟩
 have q:∀ c∈cpA n d n,c.1<d.length/\c.2<d.length:=λc h=>let ⟨a,b⟩:=EL c h;⟨A0h a b,b⟩
 refine⟨λt g=>Hue.mk_le q g,λt g=>Hue.mk_mk q g,λt u g hu=>?_⟩;rw[Hue.blk_iff r (QM i) g hu];have j:=Ya g;have o:=Ya hu;have s:d.getD t (0,0)=d[t]:=by rw[Yg,j];rfl
 have v:d.getD u (0,0)=d[u]:=by rw[Yg,o];rfl
 unfold keyL;rw[s,v];constructor
 ·intro h e f k m x p;rw[j]at k;rw[o]at m;cases k;cases m;have:=congrArg (λl=>l[x]?) h;simp only[Yj,ZZ p,A0e]at this;exact ZI.mp (oj this)
 ·intro h;exact Zw λx p=>congrArg _ (h _ _ j o x (Yr.mp p))
def kvZ(k:Nat->U Int)(fs ls:U Nat):U (U Int×SV):=(fs.zip ls).map λp=>(k p.1,SV.loc p.2)
def TF{k:Nat->U Int}{fs ls:U Nat}:(kvZ k fs ls).length<=fs.length:=by unfold kvZ;rw[YY,A1Y];lia
theorem QN{k:Nat->U Int}{q:U Int}:∀{fs ls:U Nat},(∀ f∈fs,k f≠q)->Bn (kvZ k fs ls) q=aB
 | [],_,_=>rfl
 | _::_,[],_=>rfl
 | f::fs,l::ls,h=>by
   have b:=QN (ls:=ls) λc a=>h c (Yh _ a);show Bn ((k f,SV.loc l)::kvZ k fs ls) q=aB;unfold Bn at b ⊢;rw[Zb,decide_eq_false (h f (Yi ..))];exact b
theorem GL{k:Nat->U Int}{q:U Int}:∀{fs a:U Nat} {j f l:Nat},fs[j]?=O f->a[j]?=O l->k f=q->(∀ d∈fs,k d=q->d=f)->fs.Nodup->Bn (kvZ k fs a) q=O (.loc l)
 | [],_,_,_,_,h,_,_,_,_=>by simp at h
 | _::_,[],_,_,_,_,h,_,_,_=>by simp at h
 | g::fs,m::a,0,f,l,b,c,e,_,_=>by
   simp at b c;subst b c;show Bn ((k g,SV.loc m)::kvZ k fs a) q=_;unfold Bn;rw[Zb,decide_eq_true e];rfl
 | g::fs,m::a,j+1,f,l,b,c,e,u,o=>by
   have b:fs[j]?=O f:=by simpa using b
   have c:a[j]?=O l:=by simpa using c
   obtain⟨p,r⟩:=ZP.mp o;have n:=GL b c e (λd i=>u d (Yh _ i)) r;have s:k g≠q:=λz=>p (by rw[u g (Yi ..) z];exact Yb b);show Bn ((k g,SV.loc m)::kvZ k fs a) q=_;unfold Bn at n ⊢;rw[Zb,decide_eq_false s];exact n
def QO{k:Nat->U Int}{fs a:U Nat}{f l:Nat}(h:fs.length=a.length):kvZ k (fs++[f]) (a++[l])=kvZ k fs a++[(k f,.loc l)]:=by unfold kvZ;rw[List.zip_append h,Yo];rfl
section
variable{E:Nat}{M:Nat->Nat}{k:Nat->U Int}(L:Lst E M k)
include L
theorem Lst.new{i:Nat}(d:i<E)(h:M i=i):rootsL M (i+1)=rootsL M i++[i]/\(∀ f∈rootsL M i,k f≠k i)/\clsF M (i+1) i=[i]/\∀ f∈rootsL M i,clsF M (i+1) f=clsF M i f:=by
 have b:∀ f∈rootsL M i,f<i/\M f=f:=λf a=>by
  unfold rootsL at a;rw[Yu,Yr,dQ]at a;exact a
 refine⟨by unfold rootsL;rw[A9,iP (by simpa using h)],λf a z=>?_,?_,λf a=>?_⟩
 ·have:=b f a;have:=(L.key f i (by lia) d).mp z
  lia
 ·unfold clsF;rw[A9,iP (by simpa using h),Zv.mpr,A0d];intro t c z;have c:=Yr.mp c;have:=L.le t (by lia);simp at z
  lia
 ·have:=b f a;unfold clsF;rw[A9,iG (by simp;lia),ZD]
theorem Lst.old{i:Nat}(b:i<E)(h:M i≠i):rootsL M (i+1)=rootsL M i/\M i∈rootsL M i/\k (M i)=k i/\(∀ f∈rootsL M i,k f=k i->f=M i)/\clsF M (i+1) (M i)=clsF M i (M i)++[i]/\∀ f∈rootsL M i,f≠M i->clsF M (i+1) f=clsF M i f:=by
 have c:∀ f∈rootsL M i,f<i/\M f=f:=λf a=>by
  unfold rootsL at a;rw[Yu,Yr,dQ]at a;exact a
 have g:=L.le i b;have d:=L.fix i b;refine⟨by unfold rootsL;rw[A9,iG (by simpa using h),ZD],by unfold rootsL;rw[Yu,Yr,dQ];exact⟨by lia,d⟩,(L.key _ _ (by lia) b).mpr d,λf a z=>?_,?_,λf a e=>?_⟩
 ·have:=c f a;have:=(L.key f i (by lia) b).mp z
  lia
 ·unfold clsF;rw[A9,iP (by simp)]
 ·unfold clsF;rw[A9,iG (by simpa using λz=>e z.symm),ZD]
theorem Lst.head{n f:Nat}(j:n<=E)(c:f∈rootsL M n):∃ r,clsF M n f=f::r:=by
 unfold rootsL at c;rw[Yu,Yr,dQ]at c;obtain⟨g,h⟩:=c;unfold clsF;have d:((Ye n).filter λt=>decide (M t=f)).Pairwise (·<·):=List.Pairwise.filter _ Zu;have b:f∈(Ye n).filter λt=>decide (M t=f):=by rw[Yu,Yr,dQ];exact⟨g,h⟩
 cases hz:(Ye n).filter λt=>decide (M t=f) with
 | nil=>rw[hz]at b;cases b
 | cons a r=>
   rw[hz]at b d;have i:a∈(Ye n).filter λt=>decide (M t=f):=by rw[hz];exact Yi ..
   rw[Yu,Yr,dQ]at i;have:=L.le a (by lia);rcases Yp.mp b with e | e
   ·exact⟨r,by rw[e]⟩
   ·have:=(A09.mp d).1 f e
    lia
end
def QP(M:Nat->Nat)(n:Nat):(rootsL M n).Pairwise (·<·):=List.Pairwise.filter _ Zu
end Rf
namespace Hue
def At(es:EE)(t p:Nat):Prop:=∃ e,es[t]?=O e/\(e.1=p\/e.2=p)
def Pl(es:EE)(row:U Nat)(p:Nat):Prop:=∃ t∈row,At es t p
structure Blks(n:Nat)(es:EE)(rows:List (List Nat)):Prop where
 hn:∀ e∈es,e.1<n/\e.2<n
 lt:∀ row∈rows,∀ t∈row,t<es.length
 one:∀(i j:Nat) (ri rj:List Nat) (t u:Nat),rows[i]?=O ri->rows[j]?=O rj->t∈ri->u∈rj->same n es t u->i=j
 sam:∀ row∈rows,∀ t∈row,∀ u∈row,same n es t u
 all:∀ t,t<es.length->∃ row∈rows,t∈row
 ne:∀ row∈rows,row≠[]
 up:∀ row∈rows,row.Pairwise (·<·)
def Seen(es:EE)(rows:U (U Nat))(done:U Nat)(p:Nat):Prop:=∃ i∈done,∃ row,rows[i]?=O row/\Pl es row p
structure GS(n:Nat)(es:EE)(rows:List (List Nat))(done:List Nat)(cur:Nat->Prop):Prop where
 C:∀ p q,cur p->cur q->p≠q->∃(i:Nat) (row:List Nat) (u:Nat) (e:Nat×Nat),i∈done/\rows[i]?=aA row/\u∈row/\es[u]?=aA e/\(e.1=p\/e.2=p)/\sg n es p e=Hue.mk n (off p es) q
 D:∀ x p q,x<n->¬ cur x->cur p->cur q->Hue.mk n (off x es) p=Hue.mk n (off x es) q
 O:∀(i:Nat) (row:List Nat) (q:Nat),i∉done->rows[i]?=aA row->Pl es row q->Seen es rows done q->cur q
 S:∀ p,cur p->Seen es rows done p
section
variable{n:Nat}{es:EE}{rows:U (U Nat)}{done:U Nat}{cur:Nat->Prop}(B:Blks n es rows)
include B
theorem Blks.small{a:U Nat}{p:Nat}(h:Pl es a p):p<n:=by obtain⟨t,_,e,b,c⟩:=h;have:=B.hn e (Yb b);rcases c with rfl | rfl<;>lia
theorem Blks.conn{a:U Nat}(h:a∈rows){p q x:Nat}(i:Pl es a p)(j:Pl es a q)(k:x<n)(l:p≠x)(m:q≠x):Hue.mk n (off x es) p=Hue.mk n (off x es) q:=by
 obtain⟨t,o,e,d,b⟩:=i;obtain⟨u,hu,f,g,c⟩:=j;have:=B.sam a h t o u hu e f d g x k
 rwa [BU B.hn (Yb d) b l,BU B.hn (Yb g) c m]at this
theorem Blks.far{a:U Nat}(j:a∈rows){p q:Nat}(d:Pl es a p)(k:Pl es a q)(l:p≠q):∃ u e,u∈a/\es[u]?=aA e/\(e.1=p\/e.2=p)/\sg n es p e=Hue.mk n (off p es) q:=by have m:=B.small d;obtain⟨t,g,e,h,b⟩:=d;obtain⟨u,hu,f,i,c⟩:=k;refine⟨t,e,g,h,b,?_⟩;rw[B.sam a j t g u hu e f h i p m,BU B.hn (Yb i) c (Ne.symm l)]
theorem GS.touch(G:GS n es rows done cur){i:Nat}{a:U Nat}(g:i∉done)(d:rows[i]?=aA a){p q:Nat}(h:Pl es a p)(s:Pl es a q)(z:Seen es rows done p)(A:Seen es rows done q):p=q:=by
 refine Classical.byContradiction λv=>?_;have K:=B.small h;obtain⟨j,D,u,f,E,k,hu,w,l,H⟩:=G.C p q (G.O i a p g d h z) (G.O i a q g d s A) v;obtain⟨t,e,I,y,m,o⟩:=B.far (Yb d) h s v;refine g (B.one i j a D t u d k I hu (λL M b c x N=>?_)▸E);rw[y]at b;cases b;rw[w]at c;cases c;by_cases r:p=x
 ·rw[<-r,H,o]
 ·rw[BU B.hn (Yb y) m r,BU B.hn (Yb w) l r]
omit B in
theorem Seen.snoc{p i:Nat}:Seen es rows (done++[i]) p↔Seen es rows done p\/∃ b,rows[i]?=aA b/\Pl es b p:=by
 constructor
 ·rintro⟨j,a,h⟩;rcases Yz.mp a with a | a
  ·exact .inl ⟨j,a,h⟩
  ·rw[Yt.mp a]at h;exact .inr h
 ·rintro(⟨j,a,h⟩ | h)
  ·exact⟨j,Zp _ a,h⟩
  ·exact⟨i,by simp,h⟩
theorem GS.join(G:GS n es rows done cur){i j:Nat}{f:U Nat}(hi:i∉done)(A:rows[i]?=aA f)(t:Pl es f j)(sj:Seen es rows done j):GS n es rows (done++[i]) (λp=>cur p\/Pl es f p):=by
 have v:=Yb A;have M:cur j:=G.O i f j hi A t sj;have only:∀ p,cur p->Pl es f p->p=j:=λp g h=>GS.touch B G hi A h t (G.S p g) sj;have dn:i∈done++[i]:=by simp
 have up:∀{k},k∈done->k∈done++[i]:=λh=>Zp _ h;have r:∀ p,cur p->p<n:=λp g=>by obtain⟨_,_,_,_,h⟩:=G.S p g;exact B.small h
 have w:∀ p q,Pl es f p->Pl es f q->p≠q->∃(m:Nat) (l:U Nat) (u:Nat) (e:Nat×Nat),m∈done++[i]/\rows[m]?=aA l/\u∈l/\es[u]?=aA e/\(e.1=p\/e.2=p)/\sg n es p e=Hue.mk n (off p es) q:=λp q g o s=>by
  obtain⟨u,e,a,b,c,d⟩:=B.far v g o s;exact⟨i,f,u,e,dn,A,a,b,c,d⟩
 have H:∀ p q,cur p->cur q->p≠q->∃(m:Nat) (l:U Nat) (u:Nat) (e:Nat×Nat),m∈done++[i]/\rows[m]?=aA l/\u∈l/\es[u]?=aA e/\(e.1=p\/e.2=p)/\sg n es p e=Hue.mk n (off p es) q:=λp q g o s=>by
  obtain⟨m,I,u,e,a,b,c,d⟩:=G.C p q g o s;exact⟨m,I,u,e,up a,b,c,d⟩
 refine⟨?_,?_,?_,?_⟩
 ·rintro p q g o s;by_cases y:cur p
  ·by_cases N:cur q
   ·exact H p q y N s
   ·have K:Pl es f q:=o.resolve_left N;by_cases E:p=j
    ·exact w p q (E▸t) K s
    ·have P:¬ Pl es f p:=λh=>E (only p y h);obtain⟨m,I,u,e,a1,a2,Q,R,T,V⟩:=H p j y M E;exact⟨m,I,u,e,a1,a2,Q,R,T,V.trans (B.conn v t K (r p y) (Ne.symm E) (Ne.symm s))⟩
  ·have W:Pl es f p:=g.resolve_left y;by_cases K:Pl es f q
   ·exact w p q W K s
   ·have N:cur q:=o.resolve_right K;have E:p≠j:=λz=>y (z▸M);obtain⟨m,I,u,e,a1,a2,Q,R,T,V⟩:=w p j W t E;exact⟨m,I,u,e,a1,a2,Q,R,T,V.trans (G.D p j q (B.small W) y M N)⟩
 ·rintro x p q hx nx g o;have nc:¬ cur x:=λh=>nx (.inl h);have P:¬ Pl es f x:=λh=>nx (.inr h)
  have L:∀ p,(cur p\/Pl es f p)->Hue.mk n (off x es) p=Hue.mk n (off x es) j:=λp g=>by
   rcases g with g | g
   ·exact G.D x p j hx nc g M
   ·exact B.conn v g t hx (λz=>P (z▸g)) (λz=>P (z▸t))
  exact(L p g).trans (L q o).symm
 ·rintro k rk q hk X o sq;have a0:k∉done:=λz=>hk (up z);rcases Seen.snoc.mp sq with sq | ⟨l,hr',h⟩
  ·exact .inl (G.O k rk q a0 X o sq)
  ·rw[A]at hr';cases hr';exact .inr h
 ·rintro p (g | g)
  ·exact Seen.snoc.mpr (.inl (G.S p g))
  ·exact Seen.snoc.mpr (.inr ⟨f,A,g⟩)
theorem GS.fresh(G:GS n es rows done cur){i:Nat}{f:U Nat}(C:i∉done)(m:rows[i]?=aA f)(no:∀(k:Nat) (o:U Nat) (q:Nat),k∉done->rows[k]?=aA o->Pl es o q->¬ Seen es rows done q):GS n es rows (done++[i]) (Pl es f):=by
 have l:=Yb m;have dn:i∈done++[i]:=by simp
 refine⟨?_,?_,?_,?_⟩
 ·rintro p q g j w;obtain⟨u,e,a,b,c,d⟩:=B.far l g j w;exact⟨i,f,u,e,dn,m,a,b,c,d⟩
 ·rintro x p q y v g j;exact B.conn l g j y (λz=>v (z▸g)) (λz=>v (z▸j))
 ·rintro k o q A r j s;have t:k∉done:=λz=>A (Zp _ z);rcases Seen.snoc.mp s with s | ⟨row',hr',h⟩
  ·exact absurd s (no k o q t r j)
  ·rw[m]at hr';cases hr';exact h
 ·intro p g;exact Seen.snoc.mpr (.inr ⟨f,m,g⟩)
omit B in
theorem GS.nil:GS n es rows [] (λ_=>False):=by refine⟨λp q h=>h.elim,λx p q _ _ h=>h.elim,λi a q _ _ _ h=>?_,λp h=>h.elim⟩;obtain⟨k,b,_⟩:=h;cases b
end
open L2
def srtO_mem{a:U Int}{x:Int}:x∈srt (BB a)↔x∈a:=by unfold srt;rw[List.mem_mergeSort];exact Gj a x
def ends2(es:EE)(t:Nat):U Int:=match es[t]? with | some e=>[(e.1:Int),(e.2:Int)] | none=>[]
def plI(es:EE)(row:U Nat):U Int:=srt (BB (row.flatMap (ends2 es)))
def mem_plI{f:EE}{c:U Nat}{x:Int}:x∈plI f c↔∃ p:Nat,x=(p:Int)/\Pl f c p:=by
 unfold plI;rw[srtO_mem,A0E];constructor
 ·rintro⟨t,d,a⟩;unfold ends2 at a;cases b:f[t]? with
  | none=>rw[b]at a;cases a
  | some e=>
    rw[b]at a;rcases Yp.mp a with rfl | a
    ·exact⟨e.1,J,t,d,e,b,.inl J⟩
    ·rw[Yt.mp a];exact⟨e.2,J,t,d,e,b,.inr J⟩
 ·rintro⟨p,rfl,t,d,e,b,g⟩;refine⟨t,d,?_⟩;unfold ends2;rw[b];rcases g with rfl | rfl
  ·exact Yi ..
  ·exact Yh _ (Yi ..)
def seenI(es:EE)(rows:U (U Nat))(done:U Nat):U Int:=done.flatMap λi=>plI es (rows.getD i [])
def mem_seenI{g:EE}{a:U (U Nat)}{done:U Nat}{p:Nat}:(p:Int)∈seenI g a done↔Seen g a done p:=by
 unfold seenI;rw[A0E];constructor
 ·rintro⟨i,e,h⟩;obtain⟨q,k,b⟩:=mem_plI.mp h;obtain rfl:p=q:=ZI.mp k;have f:=b;obtain⟨t,j,_⟩:=f;cases c:a[i]? with
  | none=>rw[Yg,c]at j;cases j
  | some d=>
    rw[Yg,c]at b;exact⟨i,e,d,c,b⟩
 ·rintro⟨i,e,d,c,b⟩;refine⟨i,e,?_⟩;rw[Yg,c];exact mem_plI.mpr ⟨p,J,b⟩
def toc(es:EE)(rows:U (U Nat))(left done:U Nat):U (Nat×Int):=left.flatMap λa=>((plI es (rows.getD a [])).filter λp=>decide (p∈seenI es rows done)).map λp=>(a,p)
def stpO(es:EE)(rows:U (U Nat))(left done:U Nat):Nat×Option Nat:=match toc es rows left done with
 | []=>(left.getD 0 0,aB)
 | (a,p)::_=>(a,O p.toNat)
def ordF(es:EE)(rows:U (U Nat)):Nat->U Nat->U Nat->U (Nat×Option Nat)
 | 0,_,_=>[]
 | _+1,[],_=>[]
 | k+1,a::l,done=>stpO es rows (a::l) done::ordF es rows k ((a::l).erase (stpO es rows (a::l) done).1) (done++[(stpO es rows (a::l) done).1])
def GOk(n:Nat)(es:EE)(rows:U (U Nat)):U Nat->U (Nat×Option Nat)->Prop
 | _,[]=>True
 | done,s::r=>s.1∉done/\s.1<rows.length/\(∀ q row,rows[s.1]?=O row->Pl es row q->Seen es rows done q->s.2=O q)/\(∀ p,s.2=O p->p<n)/\GOk n es rows (done++[s.1]) r
def mem_toc{d:EE}{c:U (U Nat)}{left done:U Nat}{a:Nat}{x:Int}:(a,x)∈toc d c left done↔a∈left/\∃ p:Nat,x=(p:Int)/\Pl d (c.getD a []) p/\Seen d c done p:=by
 unfold toc;rw[A0E];constructor
 ·rintro⟨b,i,h⟩;obtain⟨y,f,e⟩:=Z2.mp h;cases e;rw[Yu,dQ]at f;obtain⟨p,rfl,g⟩:=mem_plI.mp f.1;exact⟨i,p,J,g,mem_seenI.mp f.2⟩
 ·rintro⟨j,p,rfl,g,k⟩;refine⟨a,j,Z2.mpr ⟨_,?_,J⟩⟩;rw[Yu,dQ];exact⟨mem_plI.mpr ⟨p,J,g⟩,mem_seenI.mpr k⟩
theorem QQ{n:Nat}{d:EE}{c:U (U Nat)}(B:Blks n d c):∀(k:Nat) (left done:U Nat) (m:Nat->Prop),GS n d c done m->left.Nodup->(∀ a,a∈left↔a<c.length/\a∉done)->left.length<=k->
 GOk n d c done (ordF d c k left done)/\∀ a,a<c.length->a∈done\/a∈(ordF d c k left done).map (·.1)
 | 0,left,done,m,G,D,o,L=>by
   obtain rfl:left=[]:=ZT.mp (by lia);refine⟨True.intro,λa u=>?_⟩;refine .inl (Classical.byContradiction λz=>?_);have:=(o a).mpr ⟨u,z⟩;cases this
 | k+1,[],done,m,G,D,o,L=>by
   refine⟨True.intro,λa u=>?_⟩;refine .inl (Classical.byContradiction λz=>?_);have:=(o a).mpr ⟨u,z⟩;cases this
 | k+1,b::l,done,m,G,D,o,L=>by
   have S:∀ s:Nat×Option Nat,s=stpO d c (b::l) done->s.1∈b::l/\(∀ q f,c[s.1]?=O f->Pl d f q->Seen d c done q->s.2=O q)/\(∀ p,s.2=O p->p<n)/\∃ g,GS n d c (done++[s.1]) g:=by
    rintro s h;unfold stpO at h;cases ht:toc d c (b::l) done with
    | nil=>
      rw[ht]at h;have h:s=(b,aB):=h;subst h
      have no:∀(i:Nat) (f:U Nat) (q:Nat),i∉done->c[i]?=O f->Pl d f q->¬ Seen d c done q:=λi f q T r j A=>by
       have V:i<c.length:=(gM r).1;have:(i,(q:Int))∈toc d c (b::l) done:=mem_toc.mpr ⟨(o i).mpr ⟨V,T⟩,q,J,by rw[Yg,r];exact j,A⟩;rw[ht]at this;cases this
      have E:=(o b).mp (Yi ..);have r:=Ya E.1;exact⟨Yi ..,λq f t j A=>absurd A (no b f q E.2 t j),nofun,_,GS.fresh B G E.2 r no⟩
    | cons x xs=>
      obtain⟨a,p⟩:=x;rw[ht]at h;have h:s=(a,O p.toNat):=h;subst h;have W:(a,p)∈toc d c (b::l) done:=by rw[ht];exact Yi ..
      obtain⟨u,q,rfl,j,A⟩:=mem_toc.mp W;have v:=(o a).mp u;have r:=Ya v.1;rw[Yg,r]at j;have j:Pl d c[a] q:=j;refine⟨u,λX M t H I=>?_,λp' e=>?_,_,GS.join B G v.2 r j A⟩
      ·rw[r]at t;cases t;show O (q:Int).toNat=O X;rw[ZX,GS.touch B G v.2 r j H A I]
      ·have e:O (q:Int).toNat=O p':=e;rw[ZX]at e;cases e;exact B.small j
   obtain⟨K,N,P,g,Q⟩:=S _ J;generalize h:stpO d c (b::l) done=s at K N P Q;have C:=(o s.1).mp K
   have e:ordF d c (k+1) (b::l) done=s::ordF d c k ((b::l).erase s.1) (done++[s.1]):=by
    show stpO d c (b::l) done::ordF d c k ((b::l).erase (stpO d c (b::l) done).1) (done++[(stpO d c (b::l) done).1])=_;rw[h]
   have R:=QQ B k ((b::l).erase s.1) (done++[s.1]) g Q (D.erase _) (λa=>?_) (by rw[A00 K];lia)
   ·rw[e];refine⟨⟨C.2,C.1,N,P,R.1⟩,λa u=>?_⟩;rcases R.2 a u with z | z
    ·rcases Yz.mp z with z | z
     ·exact .inl z
     ·rw[Yt.mp z];exact .inr (Yi ..)
    ·exact .inr (Yh _ z)
   ·rw[D.mem_erase_iff,o a,Yz,Yt];constructor
    ·rintro⟨x,y,z⟩;exact⟨y,λw=>w.elim z x⟩
    ·rintro⟨y,z⟩;exact⟨λw=>z (.inr w),y,λw=>z (.inl w)⟩
def ord_all{n:Nat}{c:EE}{b:U (U Nat)}(B:Blks n c b):GOk n c b [] (ordF c b b.length (Ye b.length) [])/\∀ a,a<b.length->a∈(ordF c b b.length (Ye b.length) []).map (·.1):=by obtain⟨d,e⟩:=QQ B b.length (Ye b.length) [] _ GS.nil Zj (λa=>by simp) (by simp);exact⟨d,λa f=>(e a f).resolve_left (by simp)⟩
open L2 Rf
def blks_of{n:Nat}{a:EE}(m:∀ e∈a,e.1<e.2/\e.2<n):Blks n a (t7 n a):=by
 have r:∀ e∈a,e.1<n/\e.2<n:=λe w=>by have:=m e w;lia
 have H:=QM m;have x:∀ c∈cpA n a n,c.1<a.length/\c.2<a.length:=λc y=>by have:=EL c y;lia
 have h:∀{b:U Nat},b∈t7 n a->∃ f,f∈rootsL (Hue.mk a.length (cpA n a n)) a.length/\b=clsF (Hue.mk a.length (cpA n a n)) a.length f:=λ{b} k=>by
  obtain⟨f,d,e⟩:=Z2.mp k;exact⟨f,d,e.symm⟩
 have q:∀{f:Nat},f∈rootsL (Hue.mk a.length (cpA n a n)) a.length->f<a.length/\Hue.mk a.length (cpA n a n) f=f:=λ{f} d=>by
  unfold rootsL at d;rw[Yu,Yr,dQ]at d;exact d
 refine⟨r,?_,?_,?_,?_,?_,?_⟩
 ·intro b k t l;obtain⟨f,d,rfl⟩:=h k;exact(mem_cls.mp l).1
 ·intro i j D E t u o p l hu z;unfold t7 B7 at o p;rw[Yj]at o p;cases hfi:(rootsL (Hue.mk a.length (cpA n a n)) a.length)[i]? with
  | none=>rw[hfi]at o;cases o
  | some f=>
    cases hfj:(rootsL (Hue.mk a.length (cpA n a n)) a.length)[j]? with
    | none=>rw[hfj]at p;cases p
    | some g=>
      rw[hfi]at o;rw[hfj]at p;cases o;cases p;obtain⟨s,v⟩:=mem_cls.mp l;obtain⟨u1,u2⟩:=mem_cls.mp hu;have:=(blk_iff r H s u1).mpr z;have A:f=g:=by rw[<-v,<-u2];exact this
      subst A;exact(A04 (gM hfi).1 (AV _ _)).mp (hfi.trans hfj.symm)
 ·intro b k t l u hu;obtain⟨f,d,rfl⟩:=h k;obtain⟨s,v⟩:=mem_cls.mp l;obtain⟨u1,u2⟩:=mem_cls.mp hu;exact(blk_iff r H s u1).mp (v.trans u2.symm)
 ·intro t l;have L:=L0 m;refine⟨clsF (Hue.mk a.length (cpA n a n)) a.length (Hue.mk a.length (cpA n a n) t),Z2.mpr ⟨_,?_,J⟩,mem_cls.mpr ⟨l,J⟩⟩;unfold rootsL;rw[Yu,Yr,dQ];have l1:=L.le t l;exact⟨by lia,L.fix t l⟩
 ·intro b k e;obtain⟨f,d,rfl⟩:=h k;obtain⟨B,C⟩:=q d;have:f∈clsF (Hue.mk a.length (cpA n a n)) a.length f:=mem_cls.mpr ⟨B,C⟩;rw[e]at this;cases this
 ·intro b k;obtain⟨f,d,rfl⟩:=h k;exact List.Pairwise.filter _ Zu
end Hue
namespace Rf
open PySem L2
theorem L5:∀{a:U Int} {b:U SV},a.length<=b.length->(a.zip b).map (·.1)=a
 | [],_,_=>rfl
 | k::a,[],h=>by simp at h
 | k::a,v::b,h=>by
   rw[A1C,ZE,L5 (by simpa using h)]
def Mw{a:U Int}{b:U SV}(c:a.Nodup)(h:a.length<=b.length):Do (a.zip b)=a.zip b:=by
 have:=D9 (a.zip b) [] (by rw[A0d,L5 h];exact c)
 rwa [A0d]at this
theorem ID:∀{c:U Int} {f:U SV} {j:Nat} {k:Int} {v:SV},c.Nodup->c[j]?=O k->f[j]?=O v->DK (c.zip f) k=O v
 | [],_,j,k,v,_,h,_=>by simp at h
 | a::c,[],j,k,v,_,_,h=>by simp at h
 | a::c,b::f,0,k,v,_,d,e=>by
   simp at d e;subst d;subst e;simp[DK]
 | a::c,b::f,j+1,k,v,i,d,e=>by
   obtain⟨l,m⟩:=ZP.mp i;have d:c[j]?=O k:=by simpa using d
   have e:f[j]?=O v:=by simpa using e
   have n:a≠k:=λz=>l (z▸Yb d);have g:=ID m d e;unfold DK at g ⊢;rw[A1C,Zb];simp only[decide_eq_false n];exact g
def u9(H:Nat)(a:U Nat):U Nat:=(Ye H).filter (λh=>!decide (h∈a))++a
def L6{H:Nat}{c:U Nat}(e:c.Nodup):(u9 H c).Nodup:=by unfold u9;rw[A03];refine⟨Zj.filter _,e,λa d b f=>?_⟩;rintro rfl;rw[Yu,Yx,decide_eq_false_iff_not]at d;exact d.2 f
def DC{H:Nat}{c:U Nat}(f:c.Nodup)(g:∀ h∈c,h<H):(u9 H c).length=H/\∀ h∈u9 H c,h<H:=by
 have d:∀ h,h∈u9 H c↔h∈Ye H:=λh=>by
  unfold u9;rw[Yz,Yu,Yx,decide_eq_false_iff_not,Yr];constructor
  ·rintro(z | z)
   ·exact z.1
   ·exact g h z
  ·intro z;by_cases y:h∈c
   ·exact .inr y
   ·exact .inl ⟨z,y⟩
 have a:=List.Nodup.length_le_of_subset (L6 (H:=H) f) λh e=>(d h).mp e;have b:=List.Nodup.length_le_of_subset (Zj (n:=H)) λh e=>(d h).mpr e;rw[Z0]at a b;exact⟨by lia,λh e=>Yr.mp ((d h).mp e)⟩
def Mx{H:Nat}{a:U Nat}(b:a.Nodup)(c:∀ h∈a,h<H){j h:Nat}(d:j+a.length<H)(e:(u9 H a)[j]?=O h):h∉a:=by have l:=(DC b c).1;unfold u9 at l e;rw[Yd]at l;rw[Yw (by lia)]at e;have:=Yb e;rw[Yu,Yx,decide_eq_false_iff_not]at this;exact this.2
def hu(cs:U Nat)(t:Nat):Nat:=cs.getD t 0
def AtP(es:EE)(t y:Nat):Prop:=∃ e,es[t]?=O e/\(e.1=y\/e.2=y)
def AtP.lt{a:EE}{t y:Nat}(h:AtP a t y):t<a.length:=let ⟨_,e,_⟩:=h;(gM e).1
structure Prp(es:EE)(cs:List Nat):Prop where
 len:cs.length=es.length
 one:∀ t u y,AtP es t y->AtP es u y->hu cs t=hu cs u->t=u
inductive Gd(V:Nat->List SV->Prop):Nat->Nat->SV->Prop where
 | non {k b:Nat}:Gd V k b .non
 | bl {k b:Nat} (c:Bool):Gd V k b (.bl c)
 | int {k b:Nat} {i:Int} (h:-1000000000000000000000<=i/\i<=1000000000000000000000):Gd V k b (.int i)
 | str {k b:Nat} {x:Str} (h:Sz 0 10 (.str x)) (hb:10<=b):Gd V k b (.str x)
 | tup {k b c:Nat} {xs:List SV} (h:∀ y∈xs,Gd V k b y) (hl:xs.length<=63) (hc:xs.length * (b+1)<=c):Gd V (k+1) c (.tup xs)
 | lst {k b c l:Nat} {xs:List SV} (hv:V l xs) (h:∀ y∈xs,Gd V k b y) (hl:xs.length<=63) (hc:xs.length * (b+1)<=c):Gd V (k+1) c (.loc l)
def VS(S:Sto)(l:Nat)(xs:U SV):Prop:=S[l]?=O (.lst xs)
theorem EM{f:SV->Option PyData}{k b:Nat}:∀{xs:U SV},(∀ y∈xs,∃ d,f y=O d/\Sz k b d)->∃ a,xs.mapM f=O a/\SzA k b xs.length a
 | [],_=>⟨[],J,.nil⟩
 | x::xs,h=>by
   obtain⟨d,e,g⟩:=h x (Yi ..);obtain⟨a,i,c⟩:=EM (xs:=xs) λy j=>h y (Yh _ j);exact⟨d::a,by rw[A0B,e,i];rfl,.cons g c⟩
def TH{i:Int}(a:-1000000000000000000000<=i)(b:i<=1000000000000000000000):i.natAbs.log2<90:=by
 by_cases z:i.natAbs=0
 ·rw[z];decide
 ·exact(Nat.log2_lt z).mpr (Zz (show i.natAbs<=1000000000000000000000 by lia) (by decide))
def YU{k b:Nat}{i:Int}(h:-1000000000000000000000<=i/\i<=1000000000000000000000):Sz k b (.int i):=by
 obtain⟨d,a,z⟩:=DN.int (k:=k) (b:=b) (H:=λ_=>aB) (i:=i) (TH h.1 h.2);unfold Dat at a;cases d with
 | int j=>cases a;exact z
 | list _=>obtain⟨_,_,h,_⟩:=a;cases h
 | tuple _=>obtain⟨_,_,h,_⟩:=a;cases h
 | dict _=>exact a.elim
 | _=>cases a
def Gd.dat{S:Sto}{k b:Nat}{x:SV}(h:Gd (VS S) k b x):∀ m,k<=m->∃ d,Ab m S x=aA d/\Sz k b d:=by
 induction h with
 | non=>exact λm _=>⟨.none,by cases m<;>rfl,by simp[PyData.depth],by simp[PyData.bulk],by simp[PyData.showable],by simp[PyData.leavesShort]⟩
 | bl c=>exact λm _=>⟨.bool c,by cases m<;>rfl,by simp[PyData.depth],by simp[PyData.bulk],by simp[PyData.showable],by simp[PyData.leavesShort]⟩
 | int h=>exact λm _=>⟨.int _,by cases m<;>rfl,YU h⟩
 | str h o=>exact λm _=>⟨.str _,by cases m<;>rfl,h.mono (ZY _) o⟩
 | tup _ _ a e=>
   intro m p;obtain⟨m,rfl⟩:∃ j,m=j+1:=⟨m - 1,by lia⟩
   obtain⟨f,g,i⟩:=EM λy l=>e y l m (by lia);exact⟨.tuple f,by show(A1c (Ab m S) _).map _=_;rw[g];rfl,i.tuple.mono (Ym _) a⟩
 | lst n _ _ a e=>
   intro m p;obtain⟨m,rfl⟩:∃ j,m=j+1:=⟨m - 1,by lia⟩
   obtain⟨f,g,i⟩:=EM λy l=>e y l m (by lia);have n:S[_]?=aA (SO.lst _):=n;refine⟨.list f,?_,i.list.mono (Ym _) a⟩;show(match S[_]? with | some (SO.lst q)=>(q.mapM (Ab m S)).map PyData.list | _=>aB)=_;rw[n];show(A1c (Ab m S) _).map _=_;rw[g];rfl
def C6(A:U Nat):natS A=(iN A).map SV.int:=(GF A).symm
def iN_nodup{A:U Nat}:(iN A).Nodup↔A.Nodup:=by
 constructor
 ·intro h;unfold iN at h;exact(A0X.mp h).imp λ{a b} h z=>h (by rw[z])
 ·exact Xm
section
variable{Δ:Nat->Sn}
def UA:U Stm:=[.ret (.or (.cmp .In (.ix (.ix kC vH) vJ) (.ix kC vI)) (.cmp .In (.ix (.ix kC vH) vK) (.ix kC vI)))]
def Shr(es:EE)(t u:Nat):Prop:=∃ p,(p=(Ax es t).1\/p=(Ax es t).2)/\(p=(Ax es u).1\/p=(Ax es u).2)
def ih1:Stm:=(.iff (.or (.not (.bi .isi (vB vH (.tup (vB (.tyc .list) (.tyc .tuple)))))) (.cmp .NotEq kP kI)) [.ret vS] [])
def ih2:Stm:=(.iff (.and (.cmp .IsNot vL vU) (.or (.not (.bi .isi (vB vL (.tyc .int)))) (.or (.bi .isi (vB vL (.tyc .bool))) (.cmp .Lt vL vJ)))) [.ret vS] [])
def ih3(a:Nat):Stm:=(.iff (.and (.cmp .IsNot vL vU) (.and (.cmp .Eq (.ix vH vM) vL) (.call a (vC vG vM vI)))) [.ret vS] [])
def QR(a:Nat):U Stm:=[ih1,.loop (.tup (.cons (.nm 2) (.cons (.nm 3) .nil))) (.enum vH) [ih2,.loop (.nm 4) (.rng1 vI) [ih3 a]],.ret (.c (.bl aC))]
def IE(s:Sn):Prop:=∀{n t u:Nat} {es:EE} {S:Sto} {Q:QE},t<es.length->u<es.length->(∀ v:Bool,(v=aC↔Shr es t u)->Q (.bl v) S)->s [g9 n es,.int t,.int u] S Q
def QS{D:Df}(d:D.body=UA)(e:D.N.length=3)(f:D.ps.length=3):IE (j7 Δ D):=by
 intro n t u a S Q g hu q;unfold j7;rw[d,e];have b:atI (a.map pairS) (t:Int)=O (pairS (Ax a t)):=j3 (by rw[Yj,B2 g];rfl);have c:atI (a.map pairS) (u:Int)=O (pairS (Ax a u)):=j3 (by rw[Yj,B2 hu];rfl);refine⟨f.symm,_,J,_,_,J,J,_,J,_,_,J,b,_,.int ((Ax a t).1:Nat),J,J,_,J,_,_,J,J,_,J,_,_,J,c,J,_,J,J,_,J,?_⟩;show if inS (.int (Ax a t).1) [.int (Ax a u).1,.int (Ax a u).2]=aC then _ else _
 rw[DV];refine ifB (λz=>q aC ⟨λ_=>?_,λ_=>rfl⟩) (λz=>?_)
 ·refine⟨(Ax a t).1,.inl J,?_⟩;simp only[ZU,dQ]at z;exact z.imp Eq.symm Eq.symm
 ·refine⟨_,J,_,_,J,J,_,J,_,_,J,b,_,.int ((Ax a t).2:Nat),J,J,_,J,_,_,J,J,_,J,_,_,J,c,J,_,J,J,?_⟩;show Q (.bl (inS (.int (Ax a t).2) [.int (Ax a u).1,.int (Ax a u).2])) S;rw[DV];refine q _ ⟨λz=>⟨(Ax a t).2,.inr J,?_⟩,?_⟩
  ·simp only[ZU,dQ]at z;exact z.imp Eq.symm Eq.symm
  ·rintro⟨p,rfl | rfl,h⟩
   ·simp only[A1p,decide_eq_false_iff_not]at z;exact absurd (h.imp Eq.symm Eq.symm) (not_or.mpr z)
   ·simp only[ZU,dQ];exact h.imp Eq.symm Eq.symm
def Gw.tape{t:Nat}{S d:Sto}(G:Gw S d)(T:TapeS S t):TapeS d t:=by obtain⟨a,b,h,c⟩:=T.ex;exact⟨a,b,G.keep _ _ h,c⟩
end
def El:Option Nat->SV
 | none => .non
 | some t => .int (t:Nat)
def CS{cs:U Nat}{t:Nat}(h:t<cs.length):cs[t]?=O (hu cs t):=by rw[Ya h];show _=O (cs.getD t 0);rw[Yg,Ya h];rfl
def QT(a:U Int):(a.map SV.int).all AE=aC:=by rw[A1g,ZJ];intro _ _;rfl
def pS(c:Nat):SV:=if c<1000 then .int (c:Nat) else .non
def B8(cs:U Nat):U SV:=cs.map pS
def GM{c:Nat}(h:c<1000):pS c = .int (c:Nat):=iP h
def QU{c:Nat}(h:¬ c<1000):pS c = .non:=iG h
def QV{a:U Nat}:(B8 a).length=a.length:=by unfold B8;rw[YY]
def L7{a:U Nat}{i c:Nat}(h:a[i]?=O c):(B8 a)[i]?=O (pS c):=by unfold B8;rw[Yj,h];rfl
def m9(row cs A:U Nat):U Nat:=((Ye row.length).filter λx=>decide (hu row x∈A)).map (hu cs)
def AH(row cs A:U Nat):U Int:=iN (m9 row cs A)++srt (BB (iN (cs.filter λh=>!decide (h∈m9 row cs A))))
def nmF(ks:U Int)(a:U Nat)(c:Nat):Nat:=a.getD (ks.idxOf (c:Int)) 0
def tkn(told A:U Nat):U Nat:=(A.map (hu told)).filter λh=>decide (h<1000)
def j0(es:EE):Option Nat->U Nat
 | none=>[]
 | some p=>i5 es p es.length
def BV:U Nat->U Nat->U Nat->U Nat
 | told,t::ts,d::a=>BV (told.set t d) ts a
 | told,_,_=>told
def Je(H:Nat)(row cs A told:U Nat):U Nat:=cs.map (nmF (AH row cs A) (u9 H (tkn told A)))
def glS(H:Nat)(es:EE)(row cs:U Nat)(j:Option Nat)(told:U Nat):U Nat:=BV told row (Je H row cs (j0 es j) told)
theorem EN:∀{row b a:U Nat},(BV a row b).length=a.length
 | [],_,_=>by unfold BV;rfl
 | t::c,[],_=>by unfold BV;rfl
 | t::c,d::b,a=>by unfold BV;rw[EN (row:=c),ZH]
def QW{a:U Nat}{t u d:Nat}(h:t<a.length):hu (a.set t d) u=if u=t then d else hu a u:=by
 unfold hu;rw[Yg,Yg,List.getElem?_set];by_cases z:t=u
 ·rw[iP z,iP (by lia),iP z.symm];rfl
 ·rw[iG z,iG (λy=>z y.symm)]
theorem EO:∀{row b a:U Nat} {u:Nat},(∀ t∈row,t<a.length)->u∉row->hu (BV a row b) u=hu a u
 | [],_,_,_,_,_=>by unfold BV;rfl
 | t::c,[],_,_,_,_=>by unfold BV;rfl
 | t::c,d::b,a,u,h,n=>by
   unfold BV;rw[EO (row:=c) (λv e=>by rw[ZH];exact h v (Yh _ e)) (λz=>n (Yh _ z)),QW (h t (Yi ..)),iG (λz=>n (by rw[z];exact Yi ..))]
theorem L8:∀{row e c:U Nat} {x t d:Nat},(∀ t∈row,t<c.length)->row.Nodup->row[x]?=O t->e[x]?=O d->hu (BV c row e) t=d
 | [],_,_,x,_,_,_,_,h,_=>by simp at h
 | a::f,[],_,x,_,_,_,_,_,h=>by simp at h
 | a::f,b::e,c,0,t,d,h,g,i,j=>by
   cases i;cases j;unfold BV;rw[EO (row:=f) (λv k=>by rw[ZH];exact h v (Yh _ k)) (ZP.mp g).1,QW (h a (Yi ..)),iP J]
 | a::f,b::e,c,x+1,t,d,h,g,i,j=>by
   unfold BV;exact L8 (row:=f) (λv k=>by rw[ZH];exact h v (Yh _ k)) (ZP.mp g).2 (by simpa using i) (by simpa using j)
theorem FR{t d:Nat}:∀{c e told:U Nat} {i:Nat},c[i]?=O t->e[i]?=O d->BV told (c.take (i+1)) (e.take (i+1))=(BV told (c.take i) (e.take i)).set t d
 | [],_,_,i,h,_=>by simp at h
 | a::j,[],_,i,_,h=>by simp at h
 | a::j,b::e,told,0,f,g=>by
   cases f;cases g;simp[BV]
 | a::j,b::e,told,i+1,f,g=>by
   rw[A0w,A0w,A0w,A0w];unfold BV;exact FR (by simpa using f) (by simpa using g)
def mem_iN{a:U Nat}{c:Nat}:(c:Int)∈iN a↔c∈a:=by
 unfold iN;rw[Z2];constructor
 ·rintro⟨d,h,e⟩;rw[<-ZI.mp e];exact h
 ·exact λh=>⟨c,h,J⟩
def C8{c d:Type}{f:c->d}{l:U c}(g:l.Nodup)(inj:∀ a∈l,∀ b∈l,f a=f b->a=b):(l.map f).Nodup:=by rw[List.Nodup,A0X];exact List.Pairwise.imp_of_mem (λ{a b} h i j e=>j (inj a h b i e)) g
def FS(a:U Int):(BB a).Nodup:=Jb _ _
def L9(a:U Int):(srt (BB a)).Nodup:=(Dd _).nodup_iff.mpr (FS a)
def srtO_mem'{a:U Int}{x:Int}:x∈srt (BB a)↔x∈a:=Hue.srtO_mem
structure GH(n H:Nat)(es:EE)(rows hs:List (List Nat)):Prop where
 B:Hue.Blks n es rows
 len:hs.length=rows.length
 hl:∀(i:Nat) row cs,rows[i]?=O row->hs[i]?=O cs->cs.length=row.length
 pr:∀(i:Nat) row cs,rows[i]?=O row->hs[i]?=O cs->∀(x y t u p:Nat),row[x]?=O t->row[y]?=O u->AtP es t p->AtP es u p->hu cs x=hu cs y->t=u
 lt:∀ cs∈hs,∀ c∈cs,c<H
 H9:H<=900
 mx:∀ p,p<n->cntAt es p<=H
noncomputable def InB(rows:U (U Nat))(done:U Nat)(u:Nat):Prop:=∃ i∈done,∃ row,rows[i]?=O row/\u∈row
structure Gl(H:Nat)(es:EE)(rows hs:List (List Nat))(done told:List Nat):Prop where
 P:Prp es told
 cod:∀ u,InB rows done u->hu told u<H
 bare:∀ u,u<es.length->¬ InB rows done u->hu told u=1000+u
 like:∀ i∈done,∀ row cs,rows[i]?=O row->hs[i]?=O cs->∀ x y t u:Nat,row[x]?=O t->row[y]?=O u->(hu told t=hu told u↔hu cs x=hu cs y)
section
variable{n H:Nat}{es:EE}{rows hs:U (U Nat)}{done told:U Nat}
def Ac{a:U Nat}{x c:Nat}(h:a[x]?=O c):hu a x=c:=by unfold hu;rw[Yg,h];rfl
structure Stp2(n H:Nat)(es:EE)(rows hs:List (List Nat))(done told:List Nat)(i:Nat)(j:Option Nat)(row cs:List Nat):Prop where
 G:GH n H es rows hs
 L:Gl H es rows hs done told
 no:i∉done
 hr:rows[i]?=O row
 hc:hs[i]?=O cs
 tch:∀ q,Hue.Pl es row q->Hue.Seen es rows done q->j=O q
 jn:∀ p,j=O p->p<n
variable{i:Nat}{j:Option Nat}{row cs:U Nat}(Z:Stp2 n H es rows hs done told i j row cs)
include Z
theorem Stp2.row_lt:∀ t∈row,t<es.length:=Z.G.B.lt row (Yb Z.hr)
theorem Stp2.row_nd:row.Nodup:=(Z.G.B.up row (Yb Z.hr)).imp Ys
theorem Stp2.cl:cs.length=row.length:=Z.G.hl i row cs Z.hr Z.hc
theorem Stp2.aro_lt:∀ t∈j0 es j,t<es.length:=by
 intro t a;cases hj:j with
 | none=>rw[hj]at a;cases a
 | some p=>
   rw[hj]at a;obtain⟨e,b,_⟩:=mem_tiesAt.mp a;exact(gM b).1
theorem Stp2.aro_at{p t:Nat}(a:j=aA p):t∈j0 es j↔AtP es t p:=by rw[a];exact mem_tiesAt
theorem Stp2.new_bare{t:Nat}(b:t∈row):¬ InB rows done t:=by rintro⟨k,c,r,d,g⟩;refine Z.no (Z.G.B.one i k row r t t Z.hr d b g (λe f h a x l=>?_)▸c);rw[h]at a;cases a;rfl
theorem Stp2.tkn_nd:(tkn told (j0 es j)).Nodup:=by
 unfold tkn;refine List.Pairwise.filter _ ?_;cases hj:j with
 | none=>exact .nil
 | some p=>exact C8 ((List.Pairwise.filter _ Zu).imp Ys) λa c b d e=>Z.L.P.one a b p (mem_tiesAt.mp c) (mem_tiesAt.mp d) e
theorem Stp2.tkn_lt:∀ h∈tkn told (j0 es j),h<H:=by
 intro h a;unfold tkn at a;rw[Yu,dQ]at a;obtain⟨t,b,e⟩:=Z2.mp a.1;by_cases z:InB rows done t
 ·rw[<-e];exact Z.L.cod t z
 ·have:=Z.L.bare t (Z.aro_lt t b) z
  lia
theorem Stp2.here_nd:(m9 row cs (j0 es j)).Nodup:=by
 unfold m9;refine C8 (Zj.filter _) λa c b d e=>?_;rw[Yu,Yr,dQ]at c d;cases hj:j with
 | none=>rw[hj]at c;cases c.2
 | some p=>
   have f:=Ya c.1;have g:=Ya d.1;have h:=(Z.aro_at hj).mp c.2;have k:=(Z.aro_at hj).mp d.2;rw[Ac f]at h;rw[Ac g]at k;have:=Z.G.pr i row cs Z.hr Z.hc a b _ _ p f g h k e;exact(A04 c.1 Z.row_nd).mp (f.trans ((congrArg aA this).trans g.symm))
theorem Stp2.room:(m9 row cs (j0 es j)).length+(tkn told (j0 es j)).length<=H:=by
 cases hj:j with
 | none=>
   have:m9 row cs (j0 es aB)=[]:=by
    unfold m9;rw[Zv.mpr λx _ z=>by simp[j0]at z];rfl
   rw[this];exact ZY _
 | some p=>
   have o:j0 es (aA p)=i5 es p es.length:=rfl;rw[o];have s:=Z.G.mx p (Z.jn p hj)
   have u:(m9 row cs (i5 es p es.length)).length<=((i5 es p es.length).filter λt=>!decide (hu told t<1000)).length:=by
    unfold m9;rw[YY,<-YY (f:=hu row)];refine List.Nodup.length_le_of_subset (C8 (Zj.filter _) λa d b h e=>?_) λt q=>?_
    ·rw[Yu,Yr]at d h;have c:=Ya d.1;have k:=Ya h.1;rw[Ac c,Ac k]at e;exact(A04 d.1 Z.row_nd).mp (c.trans ((congrArg aA e).trans k.symm))
    ·obtain⟨x,g,rfl⟩:=Z2.mp q;rw[Yu,Yr,dQ]at g;have c:=Ya g.1;have m:hu row x∈row:=by rw[Ac c];exact Zs _
     have:=Z.L.bare _ (Z.row_lt _ m) (Z.new_bare m);rw[Yu,Yx,decide_eq_false_iff_not];exact⟨g.2,by lia⟩
   have v:(tkn told (i5 es p es.length)).length=((i5 es p es.length).filter λt=>decide (hu told t<1000)).length:=by
    unfold tkn;rw[A1X,YY];rfl
   have r:=List.length_eq_countP_add_countP (λt=>decide (hu told t<1000)) (l:=i5 es p es.length);rw[A0J,A0J]at r
   have w:((i5 es p es.length).filter λt=>decide ¬ (decide (hu told t<1000)=aC)).length=((i5 es p es.length).filter λt=>!decide (hu told t<1000)).length:=by
    congr 2
    funext t
    by_cases z:hu told t<1000<;>simp[z]
   have:cntAt es p=(i5 es p es.length).length:=rfl
   lia
theorem Stp2.key_in{c:Nat}(h:c∈cs):(c:Int)∈AH row cs (j0 es j):=by
 unfold AH;rw[Yz];by_cases z:c∈m9 row cs (j0 es j)
 ·exact .inl (mem_iN.mpr z)
 ·refine .inr (srtO_mem'.mpr (mem_iN.mpr ?_));rw[Yu,Yx,decide_eq_false_iff_not];exact⟨h,z⟩
theorem Stp2.here_sub{c:Nat}(h:c∈m9 row cs (j0 es j)):c∈cs:=by unfold m9 at h;obtain⟨x,a,rfl⟩:=Z2.mp h;rw[Yu,Yr]at a;have b:=Ya (show x<cs.length by rw[Z.cl];exact a.1);rw[Ac b];exact Zs _
theorem Stp2.key_nd:(AH row cs (j0 es j)).Nodup:=by unfold AH;rw[A03];refine⟨iN_nodup.mpr Z.here_nd,L9 _,λa f b d=>?_⟩;rintro rfl;rw[srtO_mem']at d;unfold iN at d;obtain⟨c,e,rfl⟩:=Z2.mp d;rw[Yu,Yx,decide_eq_false_iff_not]at e;exact e.2 (mem_iN.mp f)
theorem Stp2.key_of{k:Int}(h:k∈AH row cs (j0 es j)):∃ c∈cs,k=(c:Int):=by
 unfold AH at h;rcases Yz.mp h with h | h
 ·unfold iN at h;obtain⟨c,a,rfl⟩:=Z2.mp h;exact⟨c,Z.here_sub a,rfl⟩
 ·rw[srtO_mem']at h;unfold iN at h;obtain⟨c,a,rfl⟩:=Z2.mp h;exact⟨c,(Yu.mp a).1,rfl⟩
theorem Stp2.key_len:(AH row cs (j0 es j)).length<=H:=by
 have:=List.Nodup.length_le_of_subset Z.key_nd (l₂:=iN (Ye H)) λk a=>by
  obtain⟨c,b,rfl⟩:=Z.key_of a;exact mem_iN.mpr (Yr.mpr (Z.G.lt cs (Yb Z.hc) c b))
 unfold iN at this
 rwa [YY,Z0]at this
theorem Stp2.pool_len:(u9 H (tkn told (j0 es j))).length=H:=(DC Z.tkn_nd Z.tkn_lt).1
theorem Stp2.nm_get{c:Nat}(h:c∈cs):(AH row cs (j0 es j))[(AH row cs (j0 es j)).idxOf (c:Int)]?=aA (c:Int)/\(u9 H (tkn told (j0 es j)))[(AH row cs (j0 es j)).idxOf (c:Int)]?=aA (nmF (AH row cs (j0 es j)) (u9 H (tkn told (j0 es j))) c):=by
 have l:=A06 (Z.key_in h);have l2:=Z.key_len;have l3:=Z.pool_len;constructor
 ·rw[Ya l,A1D]
 ·unfold nmF;rw[Yg,Ya (by lia)];rfl
theorem Stp2.nm_lt{c:Nat}(h:c∈cs):nmF (AH row cs (j0 es j)) (u9 H (tkn told (j0 es j))) c<H:=(DC Z.tkn_nd Z.tkn_lt).2 _ (Yb (Z.nm_get h).2)
theorem Stp2.nm_inj{c d:Nat}(h:c∈cs)(k:d∈cs)(e:nmF (AH row cs (j0 es j)) (u9 H (tkn told (j0 es j))) c=nmF (AH row cs (j0 es j)) (u9 H (tkn told (j0 es j))) d):c=d:=by obtain⟨a1,a2⟩:=Z.nm_get h;obtain⟨b1,b2⟩:=Z.nm_get k;rw[e,<-b2]at a2;have l2:=Z.key_len;have l3:=Z.pool_len;have:=(A04 (by have:=A06 (Z.key_in h);lia) (L6 Z.tkn_nd)).mp a2;rw[this,b1]at a1;exact(ZI.mp (oj a1)).symm
theorem Stp2.nm_free{c:Nat}(h:c∈m9 row cs (j0 es j)):nmF (AH row cs (j0 es j)) (u9 H (tkn told (j0 es j))) c∉tkn told (j0 es j):=by
 have a:=Z.here_sub h;refine Mx Z.tkn_nd Z.tkn_lt (j:=(AH row cs (j0 es j)).idxOf (c:Int)) ?_ (Z.nm_get a).2
 have:(AH row cs (j0 es j)).idxOf (c:Int)<(m9 row cs (j0 es j)).length:=by
  unfold AH;rw[List.idxOf_append,iP (mem_iN.mpr h)];have:=A06 (mem_iN.mpr h);have e:(iN (m9 row cs (j0 es j))).length=(m9 row cs (j0 es j)).length:=by unfold iN;rw[YY]
  lia
 have:=Z.room
 lia
theorem Stp2.new_at{x t:Nat}(h:row[x]?=aA t):hu (glS H es row cs j told) t=nmF (AH row cs (j0 es j)) (u9 H (tkn told (j0 es j))) (hu cs x)/\hu cs x∈cs:=by have c:=(gM h).1;have b:=Ya (show x<cs.length by rw[Z.cl];exact c);rw[Ac b];refine⟨?_,Zs _⟩;unfold glS Je;exact L8 (λu a=>by rw[Z.L.P.len];exact Z.row_lt u a) Z.row_nd h (by rw[Yj,b];rfl)
theorem Stp2.off{u:Nat}(h:u∉row):hu (glS H es row cs j told) u=hu told u:=EO (λu a=>by rw[Z.L.P.len];exact Z.row_lt u a) h
theorem Stp2.cross{t u p x:Nat}(c:row[x]?=aA t)(d:u∉row)(a:AtP es t p)(b:AtP es u p):hu (glS H es row cs j told) t≠hu (glS H es row cs j told) u:=by
 have f:=Yb c;obtain⟨g,h⟩:=Z.new_at c;rw[g,Z.off d];have l:=Z.nm_lt h;have v:=Z.G.H9;by_cases z:InB rows done u
 ·obtain⟨k,m,r,o,q⟩:=z;have e:=Z.tch p ⟨t,f,a⟩ ⟨k,m,r,o,u,q,b⟩
  have s:hu cs x∈m9 row cs (j0 es j):=by
   unfold m9;refine Z2.mpr ⟨x,?_,rfl⟩;rw[Yu,Yr,dQ,Ac c];exact⟨(gM c).1,(Z.aro_at e).mpr a⟩
  refine λy=>Z.nm_free s ?_;rw[y];unfold tkn;rw[Yu,dQ];exact⟨Z2.mpr ⟨u,(Z.aro_at e).mpr b,rfl⟩,by rw[<-y];lia⟩
 ·rw[Z.L.bare u b.lt z];lia
theorem Stp2.next:Gl H es rows hs (done++[i]) (glS H es row cs j told):=by
 have h:∀ u,InB rows (done++[i]) u↔InB rows done u\/u∈row:=λu=>by
  constructor
  ·rintro⟨k,b,r,d,l⟩;rcases Yz.mp b with b | b
   ·exact .inl ⟨k,b,r,d,l⟩
   ·rw[Yt.mp b,Z.hr]at d;cases d;exact .inr l
  ·rintro(⟨k,b,r,d,l⟩ | l)
   ·exact⟨k,Zp _ b,r,d,l⟩
   ·exact⟨i,by simp,row,Z.hr,l⟩
 have m:∀(x y t u:Nat),row[x]?=aA t->row[y]?=aA u->(hu (glS H es row cs j told) t=hu (glS H es row cs j told) u↔hu cs x=hu cs y):=λx y t u f g=>by
  obtain⟨s,w⟩:=Z.new_at f;obtain⟨C,D⟩:=Z.new_at g;rw[s,C];exact⟨Z.nm_inj w D,λz=>by rw[z]⟩
 refine⟨⟨by unfold glS;rw[EN];exact Z.L.P.len,λt u p o a e=>?_⟩,λu a=>?_,λu E a=>?_,λk b r c d q x y t u f g=>?_⟩
 ·by_cases A:t∈row
  ·obtain⟨x,f⟩:=Z4 A;by_cases u1:u∈row
   ·obtain⟨y,g⟩:=Z4 u1;exact Z.G.pr i row cs Z.hr Z.hc x y t u p f g o a ((m x y t u f g).mp e)
   ·exact absurd e (Z.cross f u1 o a)
  ·by_cases u1:u∈row
   ·obtain⟨y,g⟩:=Z4 u1;exact absurd e.symm (Z.cross g A a o)
   ·rw[Z.off A,Z.off u1]at e;exact Z.L.P.one t u p o a e
 ·by_cases u1:u∈row
  ·obtain⟨x,f⟩:=Z4 u1;obtain⟨s,w⟩:=Z.new_at f;rw[s];exact Z.nm_lt w
  ·rw[Z.off u1];exact Z.L.cod u (((h u).mp a).resolve_right u1)
 ·have u1:u∉row:=λz=>a ((h u).mpr (.inr z));rw[Z.off u1];exact Z.L.bare u E λz=>a ((h u).mpr (.inl z))
 ·rcases Yz.mp b with b | b
  ·have off:∀ v∈r,v∉row:=λv I B=>Z.new_bare B ⟨k,b,r,d,I⟩;rw[Z.off (off t (Yb f)),Z.off (off u (Yb g))];exact Z.L.like k b r c d q x y t u f g
  ·rw[Yt.mp b]at d q;rw[Z.hr]at d;rw[Z.hc]at q;cases d;cases q;exact m x y t u f g
end
def BW(m:Nat):U Nat:=(Ye m).map λu=>1000+u
def DL(H:Nat)(es:EE)(rows hs:U (U Nat))(told:U Nat)(o:U (Nat×Option Nat)):U Nat:=o.foldl (λtold s=>glS H es (rows.getD s.1 []) (hs.getD s.1 []) s.2 told) told
def Jf{m u:Nat}(h:u<m):hu (BW m) u=1000+u:=Ac (by unfold BW;rw[Yj,ZZ h];rfl)
def QX{H:Nat}{c:EE}{a d:U (U Nat)}:Gl H c a d [] (BW c.length):=by
 refine⟨⟨by unfold BW;simp,λt u p f b e=>?_⟩,?_,λu g _=>Jf g,(λ_ h=>nomatch h)⟩
 ·rw[Jf f.lt,Jf b.lt]at e;lia
 ·rintro u ⟨_,h,_⟩;cases h
theorem GN{n H:Nat}{j:EE}{f i:U (U Nat)}(G:GH n H j f i):∀{o:U (Nat×Option Nat)} {done g:U Nat},Hue.GOk n j f done o->Gl H j f i done g->
 Gl H j f i (done++o.map (·.1)) (DL H j f i g o)/\∀(k:Nat) s,o[k]?=O s->∃ d l v,Stp2 n H j f i d (DL H j f i g (o.take k)) s.1 s.2 l v
 | [],done,g,_,L=>⟨by rw[A1G,ZD];exact L,λk s h=>by simp at h⟩
 | s::o,done,g,w,L=>by
   obtain⟨a,b,c,d,r⟩:=w;have m:=Ya b;have p:=Ya (show s.1<i.length by rw[G.len];exact b);have Z:Stp2 n H j f i done g s.1 s.2 f[s.1] (i[s.1]'(by rw[G.len];exact b)):=⟨G,L,a,m,p,λq x y=>c q _ m x y,d⟩
   have z:f.getD s.1 []=f[s.1]:=by rw[Yg,m];rfl
   have A:i.getD s.1 []=i[s.1]'(by rw[G.len];exact b):=by rw[Yg,p];rfl
   have e:glS H j (f.getD s.1 []) (i.getD s.1 []) s.2 g=glS H j f[s.1] (i[s.1]'(by rw[G.len];exact b)) s.2 g:=by rw[z,A]
   obtain⟨t,B⟩:=GN G r (by have:=Z.next;rw[<-e]at this;exact this);refine⟨?_,λk C u=>?_⟩
   ·rw[A0q]at t;exact t
   ·cases k with
    | zero=>
      cases u;exact⟨done,_,_,Z⟩
    | succ k=>exact B k C u
def QY{H:Nat}{c:EE}{a d:U (U Nat)}{b:U Nat}{o:U (Nat×Option Nat)}{k:Nat}{s:Nat×Option Nat}(h:o[k]?=O s):DL H c a d b (o.take (k+1))=glS H c (a.getD s.1 []) (d.getD s.1 []) s.2 (DL H c a d b (o.take k)):=by unfold DL;rw[ZA,h,A0r];rfl
def ordA(es:EE)(rows:U (U Nat)):U (Nat×Option Nat):=Hue.ordF es rows rows.length (Ye rows.length) []
def TJ{n H:Nat}{b:EE}{a d:U (U Nat)}(G:GH n H b a d):Prp b (DL H b a d (BW b.length) (ordA b a))/\(∀ u,u<b.length->hu (DL H b a d (BW b.length) (ordA b a)) u<H)/\∀(i:Nat) c e,a[i]?=O c->d[i]?=O e->∀ x y t u:Nat,c[x]?=O t->c[y]?=O u->(hu (DL H b a d (BW b.length) (ordA b a)) t=hu (DL H b a d (BW b.length) (ordA b a)) u↔hu e x=hu e y):=by obtain⟨k,all⟩:=Hue.ord_all G.B;obtain⟨L,_⟩:=GN G k QX;rw[A0d]at L;refine⟨L.P,λu l=>L.cod u ?_,λi c e h m=>L.like i (all i (gM h).1) c e h m⟩;obtain⟨c,f,g⟩:=G.B.all u l;obtain⟨i,j⟩:=Z4 f;exact⟨i,all i (gM j).1,c,j,g⟩
def IF{f:Sto->Prop}{g:Tg}{t:WT}{e:WE}{Q:U Int->Sto->Prop}(mt:MonoT t)(k:Mono e)(I:Nat->EnvS->U Int->Sto->Prop){h:U SV}{c:EnvS}{a:U Int}{S:Sto}(l:I 0 c a S)(m:∀ i c a S,I i c a S->f S)
 (n:∀ i x c a S,h[i]?=O x->I i c a S->wTg g x c λd=>t d S λb S1=>if b=aC then e d S1 λy S2=>∃ j,y = .int j/\a.length<900/\I (i+1) d (a++[j]) S2 else I (i+1) d a S1) (o:∀ c a S,I h.length c a S->Q a S):Gr f g t e Q h c a S:=DI mt (Ap k) I l m n o
def IG{a:Sto->Prop}{g o:Tg}{t h:WT}{j:WI}{e:WE}{p:EnvS}{Q:U Int->Sto->Prop}(mt:MonoT t)(k:MonoI j)(l:MonoT h)(q:Mono e)(I:Nat->U Int->Sto->Prop){m:U SV}{S:Sto}(r:I 0 [] S)(s:∀ i c S,I i c S->a S)
 (u:∀ i x c S,m[i]?=O x->I i c S->wTg g x p λd=>t d S λb S1=>if b=aC then j d S1 λf n S2=>Gr f o h e (I (i+1)) n d c S2 else I (i+1) c S1) (v:∀ c S,I m.length c S->Q c S):OY a g t o j h e p Q m [] S:=BR mt (BG k l (Ap q)) I r s u v
def EQ{S S1 S2:Sto}{l:Nat}(G:Gw S S1)(O:On l S1 S2)(h:S.length<=l):Gw S S2:=⟨Z6 G.len O.len,λj o e=>O.keep j o (by have:=(gM e).1;lia) (G.keep j o e)⟩
def LA:U Stm:=[.ret (.srtsc2 ["tie","place"] ["web"] [0] (.nm 0) (.seq vH) .no (.nm 1) (.seq (.ix (.ix vI vK) vG)) .no vH)]
def BX{n:Nat}{a:U Int}(b:a.Nodup)(h:∀ x∈a,∃ p:Nat,x=(p:Int)/\p<n):a.length<=n:=by
 have:=List.Nodup.length_le_of_subset b (l₂:=iN (Ye n)) λx c=>by
  obtain⟨p,rfl,d⟩:=h x c;exact mem_iN.mpr (Yr.mpr d)
 unfold iN at this
 rwa [YY,Z0]at this
def ER{n:Nat}{b:EE}{a:U Nat}(c:∀ e∈b,e.1<n/\e.2<n){x:Int}(h:x∈Hue.plI b a):∃ p:Nat,x=(p:Int)/\p<n:=by obtain⟨p,rfl,t,_,e,d,f⟩:=Hue.mem_plI.mp h;have:=c e (Yb d);exact⟨p,J,by rcases f with rfl | rfl<;>lia⟩
def QZ{n:Nat}{a:EE}{row:U Nat}(b:∀ e∈a,e.1<n/\e.2<n):(Hue.plI a row).length<=n:=BX (L9 _) λ_ h=>ER b h
def ES(s:Sn):Prop:=∀{n l:Nat} {es:EE} {row:U Nat} {S:Sto} {Q:QE},S[l]?=O (.lst (natS row))->(∀ t∈row,t<es.length)->row.length<=100->(∀ e∈es,e.1<n/\e.2<n)->n<=60->(∀(a:Nat) (S':Sto),Gw S S'->S.length<=a->S'[a]?=O (.lst ((Hue.plI es row).map SV.int))->Q (.loc a) S')->s [g9 n es,.loc l] S Q
section
variable{Δ:Nat->Sn}
def My(b:∀ f,MonoN (Δ f)){D:Df}(w:D.body=LA)(y:D.N.length=2)(z:D.ps.length=2):ES (j7 Δ D):=by
 intro n l a c S Q A e K B L q;unfold j7;rw[w,y];refine⟨z.symm,_,J,_,c9 A,?_⟩;refine IG (g8 b _).2 (w9 b _) (g8 b _).2 (c8 b _).1 (λi g k=>k=S/\i<=c.length/\g=(c.take i).flatMap (Hue.ends2 a)/\g.length=2 * i) ⟨J,ZY _,J,J⟩ (λ_ _ _ h=>by rw[h.1];exact J) ?_ ?_
 ·rintro i x g k d ⟨rfl,_,rfl,m⟩;obtain⟨t,p,rfl⟩:=v8 d;have C:=(gM p).1;have E:=e t (Yb p);have v:=Ya E;have G:(a.map pairS)[t]?=O (pairS a[t]):=by rw[Yj,v];rfl
  have H:(c.take (i+1)).flatMap (Hue.ends2 a)=(c.take i).flatMap (Hue.ends2 a)++[(a[t].1:Int),(a[t].2:Int)]:=by
   rw[ZA,p,A0j]
   congr 1
   show Hue.ends2 a t++[]=_;unfold Hue.ends2;rw[v,ZD]
  refine⟨_,J,_,_,J,J,_,J,_,_,J,j3 G,_,J,?_⟩;refine IF (g8 b _).2 (c8 b _).1 (λj r s u=>∃ o,r=[O (.int (t:Nat)),o,O (g9 n a)]/\u=k/\s=(c.take i).flatMap (Hue.ends2 a)++[(a[t].1:Int),(a[t].2:Int)].take j) ⟨aB,J,J,by simp⟩ (λ_ _ _ _ _=>trivial) ?_ ?_
  ·rintro j x r s u d ⟨o,rfl,rfl,rfl⟩;have I:j=0\/j=1:=by have:=(gM d).1;simp at this;lia
   rcases I with rfl | rfl<;>cases d
   ·exact⟨_,J,_,J,by rw[Yd,m];simp;lia,_,J,J,by simp⟩
   ·exact⟨_,J,_,J,by rw[Yd,m];simp;lia,_,J,J,by simp⟩
  ·rintro r s u ⟨o,rfl,rfl,rfl⟩;refine⟨J,C,by rw[H];simp,?_⟩;show(_++[(a[t].1:Int),(a[t].2:Int)].take 2).length=_;rw[Yd,m];simp
   lia
 ·rintro g k ⟨rfl,_,rfl,m⟩;rw[g0,Z1];have:=BX (n:=n) (FS (c.flatMap (Hue.ends2 a))) λx d=>ER B (Hue.srtO_mem.mpr ((Gj _ _).mp d));exact⟨by lia,q _ _ (Gw.refl _).push (Ym _) f7⟩
def ordS(s:Nat×Option Nat):SV := .tup [.int (s.1:Nat),El s.2]
def go5(a:Nat):Stm:=(.asg (.nm 5) (.comp2 ["at","place"] ["web","rows","seen"] [0,1,3] (.nm 0) (.seq vM) .no (.nm 1) (.seq (.call a (vB vI (.ix vL vG)))) (.yes (.cmp .In vH vM)) (.tup (vB vG vH))))
def go6:Stm:=(.asg (.tup (.cons (.nm 6) (.cons (.nm 7) .nil))) (.ife vN (.ix vN vJ) (.tup (vB (.ix vM vJ) vU))))
def go7:Stm:=(.expr (.mt .append vI (vA (.tup (vB vO vQ)))))
def go8:Stm:=(.expr (.mt .remove vM (vA vO)))
def go9(a:Nat):Stm:=(.loop (.nm 8) (.seq (.call a (vB vG (.ix vH vO)))) [.expr (.sadd vL vR)])
def Qa(a:Nat):U Stm:=[.asg (.nm 2) kD,.asg (.nm 3) .set0,.asg (.nm 4) (.lrng1 kP),.whl vM [go5 a,go6,go7,go8,go9 a],.ret vI]
def Qb{left:U Nat}{a:Nat}(h:a∈left):(iN left)[left.idxOf a]?=O (a:Int)/\(∀ m,m<left.idxOf a->(iN left)[m]?≠O (a:Int))/\(iN left).eraseIdx (left.idxOf a)=iN (left.erase a):=by
 have l:=A06 h;refine⟨?_,λm b z=>?_,?_⟩
 ·unfold iN;rw[Yj,Ya l,A1D];rfl
 ·unfold iN at z;rw[Yj,Ya (by lia)]at z;have z:left[m]=a:=ZI.mp (oj z);exact absurd (by simpa using z) (by simpa using List.not_of_lt_findIdx (p:=(· == a)) (by unfold List.idxOf at b;exact b))
 ·rw[List.erase_eq_eraseIdx_of_idxOf J];unfold iN;rw[Zx,Zx,Yo,A11,A0F]
def Jg(s:Sn):Prop:=∀{n l:Nat} {ls:U Nat} {es:EE} {rows:U (U Nat)} {S:Sto} {Q:QE},Cls S l ls rows->Hue.Blks n es rows->n<=60->es.length<=60->rows.length<=60->(∀(a:Nat) (S':Sto),Gw S S'->S.length<=a->S'[a]?=O (.lst ((ordA es rows).map ordS))->Q (.loc a) S')->s [g9 n es,.loc l] S Q
structure OrI(n l:Nat)(es:EE)(rows:List (List Nat))(S0 S:Sto)(t k f:Nat)(o:List (Nat×Option Nat))(ms:List Int)(left done:List Nat):Prop where
 g:Gw S0 S
 t0:S0.length<=t
 tk:t<k
 kf:k<f
 ht:S[t]?=O (.lst (o.map ordS))
 hk:S[k]?=O (.iset ms)
 hf:S[f]?=O (.lst (natS left))
 nd:ms.Nodup
 sm:∀ x∈ms,∃ p:Nat,x=(p:Int)/\p<n
 mem:∀ x,x∈ms↔x∈Hue.seenI es rows done
 lft:∀ a∈left,a<rows.length
 ol:o.length+left.length=rows.length
 due:o++Hue.ordF es rows left.length left done=ordA es rows
def ins_mem'{i x:Int}{a:U Int}:x∈Ea i a↔x=i\/x∈a:=by
 unfold Ea;by_cases h:i∈a
 ·rw[iP h];exact⟨.inr,λz=>z.elim (λy=>y▸h) id⟩
 ·rw[iG h,Yp]
def Vs{i:Int}{a:U Int}(h:a.Nodup):(Ea i a).Nodup:=by
 unfold Ea;by_cases z:i∈a
 ·rw[iP z];exact h
 ·rw[iG z];exact ZP.mpr ⟨z,h⟩
theorem LB{n:Nat}{c:EE}(d:∀ e∈c,e.1<n/\e.2<n)(b:U (U Nat))(done:U Nat):∀ left:U Nat,(Hue.toc c b left done).length<=left.length * n
 | []=>ZY _
 | a::l=>by
   unfold Hue.toc;rw[A05,Yd,YY];have f:=LB d b done l;unfold Hue.toc at f;have g:=Z5 (λp=>decide (p∈Hue.seenI c b done)) (Hue.plI c (b.getD a []));have h:=QZ d (row:=b.getD a []);rw[ZK,A0L]
   lia
def DM(p:Nat×Int):SV := .tup [.int (p.1:Nat),.int p.2]
def GO{S:Sto}{l:Nat}{c:U Nat}{b:U (U Nat)}(C:Cls S l c b){a:Nat}(d:a<b.length):∃ k,atI (c.map SV.loc) ((a:Nat):Int)=O (.loc k)/\S[k]?=O (.lst (natS (b.getD a []))):=by have e:=Ya (show a<c.length by rw[C.len];exact d);have f:=Ya d;refine⟨_,j3 (by rw[Yj,e];rfl),?_⟩;rw[Yg,f];exact C.row a _ _ e f
def Cls.gw{S d:Sto}{l:Nat}{e:U Nat}{f:U (U Nat)}(C:Cls S l e f)(G:Gw S d):Cls d l e f:=⟨G.keep _ _ C.top,C.len,λi k c a b=>G.keep _ _ (C.row i k c a b)⟩
theorem Qc(v:∀ f,MonoN (Δ f)){kp:Nat}(a3:ES (Δ kp)){D:Df}(hb:D.body=Qa kp)(hN:D.N.length=9)(hp:D.ps.length=2):Jg (j7 Δ D):=by
 intro n l ls d c S Q C B n6 e6 r6 q
 have r:∀ a,(∀ t∈c.getD a [],t<d.length)/\(c.getD a []).length<=100:=λa=>by
  rw[Yg];cases hr:c[a]? with
  | none=>exact⟨(λ_ h=>nomatch h),ZY _⟩
  | some row=>
    have lt:=B.lt row (Yb hr);have:=List.Nodup.length_le_of_subset ((B.up row (Yb hr)).imp Ys) (l₂:=Ye d.length) λt ht=>Yr.mpr (lt t ht);rw[Z0]at this;exact⟨lt,by show row.length<=100;lia⟩
 unfold j7;rw[hb,hN];refine⟨hp.symm,by show 0<=100000;decide,_,J,_,c9 (f8 (f8 C.top)),_,J,⟨by lia,?_⟩,?_⟩
 ·rw[YY,C.len];lia
 have e0:Av 0 (((ls.map SV.loc).length:Nat):Int)=natS (Ye c.length):=by rw[YY,C.len];exact Kn _
 rw[e0]
 have I0:OrI n l d c S ((S++[SO.lst []]++[SO.iset []])++[SO.lst (natS (Ye c.length))]) S.length (S++[SO.lst []]).length (S++[SO.lst []]++[SO.iset []]).length [] [] (Ye c.length) []:=by
  refine⟨(Gw.refl S).push.push.push,Ym _,by simp,by simp,f8 (f8 f7),f8 f7,f7,.nil,(λ_ h=>nomatch h),λx=>Iff.rfl,λa ha=>Yr.mp ha,by simp,?_⟩;rw[A0d,Z0];rfl
 generalize S.length=t at *;generalize (S++[SO.lst []]).length=k at *;generalize (S++[SO.lst []]++[SO.iset []]).length=f at *;generalize (S++[SO.lst []]++[SO.iset []])++[SO.lst (natS (Ye c.length))]=S1 at *;show wSs Δ [.whl vM [go5 kp,go6,go7,go8,go9 kp],.ret vI] (p8 Q) [aA (g9 n d),aA (.loc l),aA (.loc t),aA (.loc k),aA (.loc f),aB,aB,aB,aB] S1;refine⟨λm y S'=>∃(o:U (Nat×Option Nat)) (P:U Int) (left done:U Nat) (o5 o6 o7 A:Option SV),y=[aA (g9 n d),aA (.loc l),aA (.loc t),aA (.loc k),aA (.loc f),o5,o6,o7,A]/\left.length=m/\OrI n l d c S S' t k f o P left done,⟨_,[],[],_,[],aB,aB,aB,aB,J,J,I0⟩,?_⟩;rintro m y S2 ⟨o,P,left,done,o5,o6,o7,A,rfl,rfl,I⟩;have C2:=C.gw I.g;refine⟨_,J,_,Ki I.hf,?_⟩;cases left with
 | nil=>
   refine ifF J ⟨_,J,q t S2 I.g (Ym _) ?_⟩;have:=I.due;rw[show Hue.ordF d c ([]:U Nat).length [] done=[] from J,ZD]at this;rw[<-this];exact I.ht
 | cons b left=>
   refine ifT J ?_;have V:=I.lft;have ol:=I.ol;rw[ZK]at ol;refine⟨_,J,_,c9 I.hf,?_⟩;refine CP (g8 v _).2 (w9 v _) (g8 v _).2 (c8 v _).1 (λi W R=>Gw S2 R/\W=(Hue.toc d c ((b::left).take i) done).map DM) ⟨Gw.refl S2,J⟩ (λ_ _ _ z=>by show _=_;rw[I.hf];exact z.1.keep _ _ I.hf) ?_ ?_
   ·rintro i x W R u ⟨G,rfl⟩;obtain⟨a,X,rfl⟩:=v8 u;have il:=(gM X).1;obtain⟨ka,a0,a1⟩:=GO (C2.gw G) (V a (Yb X));refine⟨_,J,_,J,_,J,_,_,c9 (G.keep _ _ C2.top),a0,a3 a1 (r a).1 (r a).2 B.hn n6 λl4 T G4 _ h4=>⟨_,c9 h4,?_⟩⟩;have a7:=(G.trans G4).keep _ _ I.hk;refine CQ (g8 v _).2 (c8 v _).1 (λj y W S5=>∃ o1,y=[aA (.int (a:Nat)),o1,aA (g9 n d),aA (.loc l),aA (.loc k)]/\S5=T/\W=(Hue.toc d c ((b::left).take i) done++(((Hue.plI d (c.getD a [])).take j).filter λp=>decide (p∈Hue.seenI d c done)).map λp=>(a,p)).map DM) ⟨aB,J,J,by simp⟩ (λ_ _ _ _ z=>by obtain⟨_,_,z,_⟩:=z;rw[z];exact J) ?_ ?_
    ·rintro j x y W S5 u ⟨o1,rfl,rfl,rfl⟩;rw[Yj]at u;cases hpj:(Hue.plI d (c.getD a []))[j]? with
     | none=>rw[hpj]at u;cases u
     | some p=>
       rw[hpj]at u;cases u
       have tk:((Hue.plI d (c.getD a [])).take (j+1)).filter (λp=>decide (p∈Hue.seenI d c done))=((Hue.plI d (c.getD a [])).take j).filter (λp=>decide (p∈Hue.seenI d c done))++if decide (p∈Hue.seenI d c done)=aC then [p] else []:=by
        rw[ZA,hpj,Ze]
        congr 1
        show A0W _ [p]=_;rw[ZC];rfl
       have b1:=LB B.hn c done ((b::left).take i);have b2:=Z5 (λp=>decide (p∈Hue.seenI d c done)) ((Hue.plI d (c.getD a [])).take j);have b3:=QZ B.hn (row:=c.getD a []);rw[ZG]at b1 b2;have b4:min i (b::left).length * n<=60 * 60:=A0k (by rw[ZK];lia) n6;refine⟨_,J,_,J,?_⟩;show match Aj (.loc k) S5 with | some P=>_ | none=>_
       rw[Pp a7];refine⟨_,J,J,_,J,?_⟩;rw[show decide (p∈P)=decide (p∈Hue.seenI d c done) by rw[Za,dQ,dQ];exact I.mem p];refine ifB (λz=>?_) (λz=>⟨_,J,J,?_⟩)
       ·rw[iP z]at tk;refine⟨_,J,_,J,by show 2<=100000;decide,?_,_,J,J,?_⟩
        ·rw[YY,Yd,YY];show _<100000;lia
        ·rw[tk];simp[DM]
       ·rw[iG (by rw[z];decide),ZD]at tk;rw[tk]
    ·rintro y W S5 ⟨o1,rfl,rfl,rfl⟩;refine⟨G.trans G4,?_⟩;rw[YY,Z1,ZA,X];unfold Hue.toc;rw[A0j];simp
   ·rintro W R ⟨G,rfl⟩;rw[g0,Z1];have H:=f8 (o:=SO.lst ((Hue.toc d c (b::left) done).map DM)) (G.keep _ _ I.ht);have a4:=f8 (o:=SO.lst ((Hue.toc d c (b::left) done).map DM)) (G.keep _ _ I.hk);have a2:=f8 (o:=SO.lst ((Hue.toc d c (b::left) done).map DM)) (G.keep _ _ I.hf);have h5:(R++[SO.lst ((Hue.toc d c (b::left) done).map DM)])[R.length]?=aA (SO.lst ((Hue.toc d c (b::left) done).map DM)):=f7;have G5:Gw S (R++[SO.lst ((Hue.toc d c (b::left) done).map DM)]):=(I.g.trans G).push;generalize R.length=k5 at *;generalize R++[SO.lst ((Hue.toc d c (b::left) done).map DM)]=T at *;obtain⟨s,K⟩:∃ s,s=Hue.stpO d c (b::left) done:=⟨_,J⟩
    have s1:s.1∈b::left:=by
     rw[K];unfold Hue.stpO;cases ht:Hue.toc d c (b::left) done with
     | nil=>exact Yi ..
     | cons x xs=>
       have:x∈Hue.toc d c (b::left) done:=by rw[ht];exact Yi ..
       obtain⟨a,p⟩:=x;exact(Hue.mem_toc.mp this).1
    suffices a5:∀ E:EndsS,(∀(o5 o6 o7 A:Option SV) (e:U Int) (S':Sto),OrI n l d c S S' t k f (o++[s]) e ((b::left).erase s.1) (done++[s.1])->E.nx [aA (g9 n d),aA (.loc l),aA (.loc t),aA (.loc k),aA (.loc f),o5,o6,o7,A] S')->∀ z1 z2:SV,z1 = .int (s.1:Nat)->z2=El s.2->wSs Δ [go7,go8,go9 kp] E [aA (g9 n d),aA (.loc l),aA (.loc t),aA (.loc k),aA (.loc f),aA (.loc k5),aA z1,aA z2,A] T by
     refine⟨_,J,_,Ki h5,?_⟩;unfold Hue.stpO at K;cases htc:Hue.toc d c (b::left) done with
     | nil=>
       rw[htc]at K;refine ifF J ⟨_,J,_,_,c9 a2,j3 (show(natS (b::left))[0]?=aA (.int (b:Nat)) from J),by show 2<=100000;decide,?_⟩;refine a5 _ (λo5 o6 o7 A e S' I'=>?_) _ _ (by rw[K];rfl) (by rw[K];rfl);exact⟨_,by rw[A00 s1,ZK];lia,_,_,_,_,_,_,_,_,J,J,I'⟩
     | cons x xs=>
       obtain⟨a,p⟩:=x;rw[htc]at K h5;obtain⟨_,p',rfl,_⟩:=Hue.mem_toc.mp (show(a,p)∈Hue.toc d c (b::left) done by rw[htc];exact Yi ..);refine ifT J ⟨_,J,_,_,c9 h5,j3 (show(((a,(p':Int))::xs).map DM)[0]?=aA (DM (a,(p':Int))) from J),?_⟩;refine a5 _ (λo5 o6 o7 A e S' I'=>?_) _ _ (by rw[K]) (by rw[K];rfl);exact⟨_,by rw[A00 s1,ZK];lia,_,_,_,_,_,_,_,_,J,J,I'⟩
    rintro E hE _ _ rfl rfl;have tl:=(gM H).1;have kl:=(gM a4).1;have fl:=(gM a2).1;have tk:=I.tk;have kf:=I.kf;have t0:=I.t0;refine⟨_,J,⟨_,_,J,H⟩,_,J,_,J,by show 2<=100000;decide,_,H,by rw[YY];show _<100000;lia,?_⟩;have e7:o.map ordS++[SV.tup [.int (s.1:Nat),El s.2]]=(o++[s]).map ordS:=by rw[Yo];rfl
    rw[e7];have a8:(T.set t (.lst ((o++[s]).map ordS)))[t]?=aA (.lst ((o++[s]).map ordS)):=m8 H;have a9:(T.set t (.lst ((o++[s]).map ordS)))[k]?=aA (.iset P):=by rw[v7 (by lia)];exact a4
    have L:(T.set t (.lst ((o++[s]).map ordS)))[f]?=aA (.lst (natS (b::left))):=by rw[v7 (by lia)];exact a2
    have G6:Gw S (T.set t (.lst ((o++[s]).map ordS))):=G5.put t0;generalize T.set t (.lst ((o++[s]).map ordS))=S6 at *;obtain⟨r1,r2,r3⟩:=Qb s1;rw[<-GF]at L;refine⟨_,J,⟨_,_,J,L⟩,_,J,iN (b::left),_,L,r1,r2,?_⟩;rw[r3,GF];have b0:(S6.set f (.lst (natS ((b::left).erase s.1))))[t]?=aA (.lst ((o++[s]).map ordS)):=by rw[v7 (by lia)];exact a8
    have a6:(S6.set f (.lst (natS ((b::left).erase s.1))))[k]?=aA (.iset P):=by rw[v7 (by lia)];exact a9
    have b5:(S6.set f (.lst (natS ((b::left).erase s.1))))[f]?=aA (.lst (natS ((b::left).erase s.1))):=m8 L;have G7:Gw S (S6.set f (.lst (natS ((b::left).erase s.1)))):=G6.put (by lia);generalize S6.set f (.lst (natS ((b::left).erase s.1)))=S7 at *;obtain⟨ka,a0,a1⟩:=GO (C.gw G7) (V s.1 s1);refine⟨_,J,_,J,_,J,_,_,c9 (G7.keep _ _ C.top),a0,a3 a1 (r s.1).1 (r s.1).2 B.hn n6 λl8 S8 G8 b8 h8=>⟨_,c9 h8,?_⟩⟩;have k8:k<l8:=by have:=(gM a6).1;lia
    refine y9 (i9 v _) (λi y S9=>∃(A:Option SV) (e:U Int),y=[aA (g9 n d),aA (.loc l),aA (.loc t),aA (.loc k),aA (.loc f),aA (.loc k5),aA (.int (s.1:Nat)),aA (El s.2),A]/\On k S8 S9/\S9[k]?=aA (.iset e)/\e.Nodup/\(∀ x∈e,∃ p:Nat,x=(p:Int)/\p<n)/\∀ x,x∈e↔x∈P\/x∈(Hue.plI d (c.getD s.1 [])).take i) ⟨_,P,J,On.refl _ _,G8.keep _ _ a6,I.nd,I.sm,λx=>by simp⟩ (λ_ _ S9 z=>?_) ?_ ?_
    ·obtain⟨_,_,_,O,_⟩:=z;show S9[l8]?=S8[l8]?;rw[h8];exact O.keep _ _ (by lia) h8
    ·rintro i x y S9 E' b6 _ u ⟨b7,e,rfl,O,w,nd,sm,M⟩;rw[Yj]at u;cases hpi:(Hue.plI d (c.getD s.1 []))[i]? with
     | none=>rw[hpi]at u;cases u
     | some p=>
       rw[hpi]at u;cases u;have ml:=BX nd sm;refine⟨_,J,k,e,J,w,_,J,p,e,J,w,by lia,?_⟩;refine b6 _ _ ⟨_,Ea p e,J,O.tape,m8 w,Vs nd,λx u=>?_,λx=>?_⟩
       ·rcases ins_mem'.mp u with rfl | u
        ·exact ER B.hn (Yb hpi)
        ·exact sm x u
       ·rw[ins_mem',M,ZA,hpi,Yz];constructor
        ·rintro(rfl | z | z)
         ·exact .inr (.inr (by simp))
         ·exact .inl z
         ·exact .inr (.inl z)
        ·rintro(z | z | z)
         ·exact .inr (.inl z)
         ·exact .inr (.inr z)
         ·exact .inl (by simpa using z)
    ·rintro y S9 ⟨b7,e,rfl,O,w,nd,sm,M⟩;rw[YY,Z1]at M;refine t9 (Δ:=Δ) (hE _ _ _ _ e S9 ⟨?_,t0,tk,kf,O.keep _ _ (by lia) (G8.keep _ _ b0),w,O.keep _ _ (by lia) (G8.keep _ _ b5),nd,sm,λx=>?_,λa ha=>V a (List.mem_of_mem_erase ha),?_,?_⟩)
     ·exact EQ (G7.trans G8) O (by lia)
     ·rw[M,I.mem];unfold Hue.seenI;rw[A0j,Yz];simp
     ·rw[Yd,A00 s1];simp only[ZK,A0y]
      lia
     ·rw[<-I.due,A0q,A00 s1]
      congr 1
      show[s]++Hue.ordF d c left.length ((b::left).erase s.1) (done++[s.1])=Hue.ordF d c (left.length+1) (b::left) done;rw[K];rfl
end
def Hn(S:Sto)(x:SV)(cs:U Nat):Prop:=x = .tup (natS cs)\/∃ k,x = .loc k/\S[k]?=O (.lst (natS cs))
def Hn.seq{S:Sto}{x:SV}{a:U Nat}(h:Hn S x a):Ai x S=aA (natS a):=by
 rcases h with rfl | ⟨k,rfl,h⟩
 ·rfl
 ·exact c9 h
def Hn.gw{S a:Sto}{x:SV}{b:U Nat}(h:Hn S x b)(G:Gw S a):Hn a x b:=h.imp id (by rintro⟨k,e,h⟩;exact⟨k,e,G.keep _ _ h⟩)
def Hn.kp{S b:Sto}{x:SV}{c:U Nat}(h:Hn S x c)(a:Hn b x c):Ay x S b:=by
 rcases h with rfl | ⟨k,rfl,h⟩
 ·trivial
 ·rcases a with z | ⟨k',z,a⟩
  ·cases z
  ·cases z;exact a.trans h.symm
def LC{a b:U Nat}{i:Nat}{x:SV}(h:(Dn (natS a) (natS b))[i]?=O x):∃ t c,a[i]?=O t/\b[i]?=O c/\x = .tup [.int (t:Nat),.int (c:Nat)]:=by
 unfold Dn natS at h;rw[A0b,Yj,Yj]at h;cases h1:a[i]? with
 | none=>rw[h1]at h;cases h
 | some t=>
   cases h2:b[i]? with
   | none=>rw[h1,h2]at h;cases h
   | some c=>
     rw[h1,h2]at h;cases h;exact⟨t,c,J,J,J⟩
def IH{a b:U Nat}(h:b.length=a.length):(Dn (natS a) (natS b)).length=a.length:=by unfold Dn;rw[List.length_zipWith,g0,g0];lia
def Vt(c:Nat):F6 (pS c)=!decide (c<1000):=by
 by_cases z:c<1000
 ·rw[GM z,decide_eq_true z];rfl
 ·rw[QU z,decide_eq_false z];rfl
def Au(A:U Nat):(natS A).all AE=aC:=by rw[C6];exact QT _
def YV:Stm:=(.asg (.nm 4) (.comp ["tie","hue"] ["around"] [2] (.tup (.cons (.nm 0) (.cons (.nm 1) .nil))) (.zipX vG vH) (.yes (.cmp .In vG vI)) vH))
def Xq:Stm:=(.asg (.nm 5) (.srtsc ["hue"] ["here"] [4] (.nm 0) (.seq vH) (.yes kO) vG))
def Xr:Stm:=(.ret (.dzip (.op .Add vM vN) vL))
def Qd:U Stm:=[YV,Xq,Xr]
def DW(s:Sn):Prop:=∀{b c d:Nat} {x:SV} {row cs A a:U Nat} {S:Sto} {Q:QE},S[b]?=O (.lst (natS row))->Hn S x cs->S[c]?=O (.lst (natS A))->S[d]?=O (.lst (natS a))->cs.length=row.length->cs.length<=60->(AH row cs A).Nodup->(AH row cs A).length<=a.length->a.length<=900->
 (∀(l:Nat) (S':Sto),Gw S S'->S.length<=l->S'[l]?=O (.dct ((AH row cs A).zip (natS a)))->Q (.loc l) S')->s [.loc b,x,.loc c,.loc d] S Q
section
variable{Δ:Nat->Sn}
theorem Qf(g:∀ f,MonoN (Δ f)){D:Df}(P:D.body=Qd)(R:D.N.length=6)(T:D.ps.length=4):DW (j7 Δ D):=by
 intro V I W x a b A k S Q u p l v K c6 X L p9 q;unfold j7;rw[P,R];refine⟨T.symm,_,J,_,J,_,_,_,J,u,p.seq,by rw[g0,g0,K],?_⟩;refine i4 (g8 g _).2 (c8 g _).1 (λi w d=>d=S/\w=natS (((Ye i).filter λz=>decide (hu a z∈A)).map (hu b))) ⟨J,J⟩ (λ_ _ _ z=>by rw[z.1];exact⟨J,p.kp p⟩) ?_ ?_
 ·rintro i y w d B ⟨rfl,rfl⟩;obtain⟨t,c,M,m,rfl⟩:=LC B;have fs:=A9 (λz=>decide (hu a z∈A)) i;have C:=u7 (λz=>decide (hu a z∈A)) i;have il:=(gM m).1;refine⟨_,J,_,J,?_⟩;show match Aj (.loc I) d with | some ms=>_ | none=>_
  rw[Aq l];refine⟨J,_,c9 l,Au _,_,J,?_⟩;show if inS (.int (t:Nat)) (natS A)=aC then _ else _
  rw[D8];refine ifD (λz=>?_) (λz=>⟨J,?_⟩)
  ·rw[iP (decide_eq_true (by rw[Ac M];exact z))]at fs;refine⟨_,J,by rw[g0,YY];show _<100000;lia,J,?_⟩;rw[fs,Yo,t5];show _=_++natS [hu b i];rw[Ac m];rfl
  ·rw[iG (by rw[Ac M];simpa using z),ZD]at fs;rw[fs]
 ·rintro w d ⟨rfl,rfl⟩;rw[IH K];show wSs Δ [Xq,Xr] (p8 Q) [O (.loc V),O x,O (.loc I),O (.loc W),O (.loc d.length),aB] (d++[.lst (natS (m9 a b A))]);have E:(d++[SO.lst (natS (m9 a b A))])[d.length]?=O (SO.lst (natS (m9 a b A))):=f7;have r:Gw d (d++[SO.lst (natS (m9 a b A))]):=(Gw.refl d).push;have j:=p.gw r;have n:=r.keep _ _ v;generalize G:d.length=k4 at *;generalize d++[SO.lst (natS (m9 a b A))]=S1 at *;refine⟨_,J,_,j.seq,?_⟩;refine Jc (g8 g _).2 (c8 g _).1 (λi H S2=>S2=S1/\H=iN ((b.take i).filter λh=>!decide (h∈m9 a b A))) ⟨J,J⟩ (λ_ _ _ z=>by rw[z.1];exact j.kp j) ?_ ?_
  ·rintro i y H S2 B ⟨rfl,rfl⟩;obtain⟨c,m,rfl⟩:=v8 B;have il:=(gM m).1
   have s:(b.take (i+1)).filter (λh=>!decide (h∈m9 a b A))=(b.take i).filter (λh=>!decide (h∈m9 a b A))++if (!decide (c∈m9 a b A))=aC then [c] else []:=by
    rw[ZA,m,Ze]
    congr 1
    show A0W _ [c]=_;rw[ZC];rfl
   have C:=Z5 (λh=>!decide (h∈m9 a b A)) (b.take i);rw[ZG]at C;refine⟨_,J,_,J,?_⟩;show match Aj (.loc k4) S2 with | some ms=>_ | none=>_
   rw[Aq E];refine⟨J,_,c9 E,Au _,_,J,?_⟩;show if (!inS (.int (c:Nat)) (natS (m9 a b A)))=aC then _ else _
   rw[D8];refine ifB (λz=>?_) (λz=>⟨J,?_⟩)
   ·rw[iP z]at s;refine⟨_,J,_,J,?_,J,?_⟩
    ·unfold iN;rw[YY];lia
    ·rw[s];unfold iN;rw[Yo];rfl
   ·rw[iG (by rw[z];decide),ZD]at s;rw[s]
  ·rintro H S2 ⟨rfl,rfl⟩;rw[g0,Z1];have C:=Z5 (λh=>!decide (h∈m9 a b A)) b;refine⟨by unfold iN;rw[YY];lia,?_⟩
   have a0:(m9 a b A).length+(srt (BB (iN (b.filter λh=>!decide (h∈m9 a b A))))).length=(AH a b A).length:=by
    unfold AH;rw[Yd];have:(iN (m9 a b A)).length=(m9 a b A).length:=by unfold iN;rw[YY]
    rw[this]
   refine⟨_,J,_,J,_,_,f8 E,f7,by rw[g0,YY];show _<=100000;lia,_,J,?_⟩
   have e:natS (m9 a b A)++(srt (BB (iN (b.filter λh=>!decide (h∈m9 a b A))))).map SV.int=(AH a b A).map SV.int:=by
    unfold AH;rw[Yo,C6]
   rw[e];refine⟨_,_,AH a b A,natS k,J,J,f7,f8 (f8 n),by rw[g0];exact L,by lia,?_⟩;rw[Mw X (by rw[g0];exact L)];refine q _ _ (r.push.push.push) ?_ f7;have:=((Gw.refl S2).push (o:=SO.lst ((srt (BB (iN (b.filter λh=>!decide (h∈m9 a b A))))).map SV.int))).push (o:=SO.lst ((AH a b A).map SV.int));rw[<-G];exact(r.trans this).len
def HM(m:Nat)(l:U Nat):Nat:=l.foldr (λh a=>max (h+1) a) m
theorem LD{m:Nat}:∀{l:U Nat},m<=HM m l/\(∀ h∈l,h+1<=HM m l)/\(HM m l=m\/∃ h∈l,HM m l=h+1)
 | []=>⟨Ym _,(λ_ h=>nomatch h),.inl J⟩
 | a::l=>by
   obtain⟨f,d,c⟩:=LD (m:=m) (l:=l);have e:HM m (a::l)=max (a+1) (HM m l):=J;rw[e];refine⟨by lia,λh b=>?_,?_⟩
   ·rcases Yp.mp b with rfl | b
    ·lia
    ·have:=d h b;lia
   ·by_cases z:HM m l<=a+1
    ·exact .inr ⟨a,Yi ..,by lia⟩
    ·rcases c with c | ⟨h,b,c⟩
     ·exact .inl (by lia)
     ·exact .inr ⟨h,Yh _ b,by lia⟩
def Vu{m:Nat}{l:U Nat}{M:Int}(h:Grt ((m:Int)::iN (l.map (·+1))) M):M=(HM m l:Nat):=by
 obtain⟨a,b⟩:=h;obtain⟨k,g,i⟩:=LD (m:=m) (l:=l)
 have n:M<=(HM m l:Nat):=by
  rcases Yp.mp a with rfl | a
  ·lia
  ·unfold iN at a;obtain⟨c,f,rfl⟩:=Z2.mp a;obtain⟨d,j,rfl⟩:=Z2.mp f;have:=g d j
   lia
 have dn:((HM m l:Nat):Int)<=M:=by
  rcases i with e | ⟨c,f,e⟩
  ·rw[e];exact b _ (Yi ..)
  ·rw[e];exact b _ (Yh _ (mem_iN.mpr (Z2.mpr ⟨c,f,J⟩)))
 lia
structure Hdd(S:Sto)(x:SV)(ys:List SV)(hs:List (List Nat)):Prop where
 top:x = .tup ys\/∃ k,x = .loc k/\S[k]?=O (.lst ys)
 len:ys.length=hs.length
 at':∀(i:Nat) y cs,ys[i]?=O y->hs[i]?=O cs->Hn S y cs
def Hdd.seq{S:Sto}{x:SV}{a:U SV}{b:U (U Nat)}(h:Hdd S x a b):Ai x S=aA a:=by
 rcases h.top with rfl | ⟨k,rfl,e⟩
 ·rfl
 ·exact c9 e
theorem Hdd.gw{S c:Sto}{x:SV}{d:U SV}{f:U (U Nat)}(h:Hdd S x d f)(G:Gw S c):Hdd c x d f:=⟨h.top.imp id (by rintro⟨k,e,h⟩;exact⟨k,e,G.keep _ _ h⟩),h.len,λi y g a b=>(h.at' i y g a b).gw G⟩
def Hdd.kp{S a:Sto}{x:SV}{b:U SV}{c:U (U Nat)}(h:Hdd S x b c)(d:Hdd a x b c):Ay x S a:=by
 rcases h.top with rfl | ⟨k,rfl,e⟩
 ·trivial
 ·rcases d.top with z | ⟨k',z,e'⟩
  ·cases z
  ·cases z;exact e'.trans e.symm
def Hdd.row{S:Sto}{x:SV}{ys:U SV}{hs:U (U Nat)}(h:Hdd S x ys hs){i:Nat}(a:i<hs.length):∃ y,ys[i]?=aA y/\Hn S y (hs.getD i []):=by have b:=Ya (show i<ys.length by rw[h.len];exact a);have c:=Ya a;refine⟨_,b,?_⟩;rw[Yg,c];exact h.at' i _ _ b c
def Hdd.get{S:Sto}{x:SV}{b:U SV}{a:U (U Nat)}(h:Hdd S x b a){i:Nat}{y:SV}(c:b[i]?=aA y):∃ d,a[i]?=aA d/\Hn S y d:=by have e:=Ya (show i<a.length by rw[<-h.len];exact(gM c).1);exact⟨_,e,h.at' i _ _ c e⟩
def gl3(a:Nat):Stm:=(.asg (.nm 3) (.max1 (.op .Add (.lst (vA (.call a (vA vG)))) (.comp2 ["hueing","hue"] [] [] (.nm 0) (.seq vH) .no (.nm 1) (.seq vG) .no (.op .Add vH vK)))))
def gl4:Stm:=(.asg (.nm 4) (.op .Mult (.lst (vA vU)) kI))
def gt7(a:Nat):Stm:=(.asg (.nm 7) (.ife (.cmp .Is vO vU) kD (.call a (vB vG vO))))
def gt8:Stm:=(.asg (.nm 8) (.comp ["tie"] ["told"] [4] (.nm 0) (.seq vQ) (.yes (.cmp .IsNot (.ix vH vG) vU)) (.ix vH vG)))
def gt9:Stm:=(.asg (.nm 9) (.op .Add (.comp ["hue"] ["taken"] [8] (.nm 0) (.rng1 vL) (.yes kO) vG) vR))
def Jh(a:Nat):Stm:=(.asg (.nm 10) (.call a (vD (.ix vI vN) (.ix vH vN) vQ (.var 9))))
def Ji:Stm:=(.loop (.tup (.cons (.nm 11) (.cons (.nm 12) .nil))) (.zipX (.ix vI vN) (.ix vH vN)) [.put vM (.var 11) (.dget (.var 10) (.var 12))])
def Qg(a b c d e:Nat):U Stm:=[.asg (.nm 2) (.call a (vA vG)),gl3 b,gl4,.loop (.tup (.cons (.nm 5) (.cons (.nm 6) .nil))) (.seq (.call c (vB vG vI))) [gt7 d,gt8,gt9,Jh e,Ji],.ret vM]
def TK:∀ m:Nat,(Yv m [SV.non]).flatten=B8 (BW m):=by
 intro m
 have e:(Yv m [SV.non]).flatten=Yv m SV.non:=by
  induction m with
  | zero=>rfl
  | succ m a=>rw[ZO,Zk,a];rfl
 rw[e];unfold B8 BW;rw[A0g];apply A0C;intro i;rw[Zq,Yj];by_cases h:i<m
 ·rw[iP h,ZZ h];show _=O (pS (1000+i));rw[QU (by lia)]
 ·rw[iG h,Zy (by simpa using h)];rfl
def BY(n:Nat)(es:EE)(hs:U (U Nat)):U Nat:=DL (HM (j8 es n) hs.flatten) es (t7 n es) hs (BW es.length) (ordA es (t7 n es))
def LF(s:Sn):Prop:=∀{n:Nat} {x:SV} {es:EE} {ys:U SV} {hs:U (U Nat)} {S:Sto} {Q:QE},(∀ e∈es,e.1<e.2/\e.2<n)->n<=60->es.length<=60->Hdd S x ys hs->GH n (HM (j8 es n) hs.flatten) es (t7 n es) hs->
 (∀(l:Nat) (S':Sto),Gw S S'->S.length<=l->S'[l]?=O (.lst (B8 (BY n es hs)))->Q (.loc l) S')->s [g9 n es,x] S Q
theorem Qh(A:∀ f,MonoN (Δ f)){kt V:Nat}(ht:Ar (Δ kt))(hn:DW (Δ V)){E:EndsS}{n H l t:Nat}{x:SV}{b:EE}{ls:U Nat}{W:U SV}{hs:U (U Nat)}{done told r cs:U Nat}{a:Nat}{j:Option Nat}{R S1 S:Sto}{o7 o8 o9 s g m:Option SV}(Z:Stp2 n H b (t7 n b) hs done told a j r cs)(C:Cls R l ls (t7 n b))(X:Hdd R x W hs)(e6:b.length<=60)(G:Gw R S)(t0:R.length<=t)(O:On t S1 S)(hT:S[t]?=aA (.lst (B8 told)))
 (q:∀(o7 o8 o9 s g m:Option SV) (e:Sto),On t S1 e->Gw R e->e[t]?=aA (.lst (B8 (glS H b r cs j told)))->E.nx [aA (g9 n b),aA x,aA (.loc l),aA (.int (H:Nat)),aA (.loc t),aA (.int (a:Nat)),aA (El j),o7,o8,o9,s,g,m] e):
 wSs Δ [gt7 kt,gt8,gt9,Jh V,Ji] E [aA (g9 n b),aA x,aA (.loc l),aA (.int (H:Nat)),aA (.loc t),aA (.int (a:Nat)),aA (El j),o7,o8,o9,s,g,m] S:=by
 have tl:=(gM hT).1;have H9:=Z.G.H9;have M:=Z.L.P.len
 have rl:r.length<=60:=by
  have:=List.Nodup.length_le_of_subset Z.row_nd (l₂:=Ye b.length) λt ht=>Yr.mpr (Z.row_lt t ht);rw[Z0]at this;lia
 have cl:=Z.cl
 have Al:(j0 b j).length<=b.length:=by
  cases j with
  | none=>exact ZY _
  | some p=>exact u7 _ _
 suffices I:wSs Δ [gt8,gt9,Jh V,Ji] E [aA (g9 n b),aA x,aA (.loc l),aA (.int (H:Nat)),aA (.loc t),aA (.int (a:Nat)),aA (El j),aA (.loc S.length),o8,o9,s,g,m] (S++[.lst (natS (j0 b j))]) by
  cases hj:j with
  | none=>
    rw[hj]at I;exact⟨_,J,.inl ⟨J,_,J,ifT J ⟨by show 0<=100000;decide,I⟩⟩⟩
  | some p=>
    have pn:=Z.jn p hj;rw[hj]at I;exact⟨_,J,.inl ⟨J,_,J,ifF J ⟨_,J,_,J,ht (by lia) pn I⟩⟩⟩
 have O7:On t S1 (S++[SO.lst (natS (j0 b j))]):=O.push;have G7:Gw R (S++[SO.lst (natS (j0 b j))]):=G.push;have N:=f8 (o:=SO.lst (natS (j0 b j))) hT;have h7:(S++[SO.lst (natS (j0 b j))])[S.length]?=aA (SO.lst (natS (j0 b j))):=f7;generalize S.length=k7 at *;generalize S++[SO.lst (natS (j0 b j))]=S7 at *;refine⟨_,J,_,c9 h7,?_⟩;refine i4 (g8 A _).2 (c8 A _).1 (λi W e=>e=S7/\W=natS (tkn told ((j0 b j).take i))) ⟨J,J⟩ (λ_ _ _ z=>by rw[z.1];exact J) ?_ ?_
 ·rintro i y zs e hy ⟨rfl,rfl⟩;obtain⟨u,a0,rfl⟩:=v8 hy;have ul:=Z.aro_lt u (Yb a0);have T:=CS (cs:=told) (t:=u) (by lia)
  have tk:tkn told ((j0 b j).take (i+1))=tkn told ((j0 b j).take i)++if decide (hu told u<1000)=aC then [hu told u] else []:=by
   unfold tkn;rw[ZA,a0,Yo,Ze]
   congr 1
   show A0W (λh=>decide (h<1000)) [hu told u]=_;rw[ZC];rfl
  have fl:(tkn told ((j0 b j).take i)).length<=b.length:=by
   unfold tkn;have:=Z5 (λh=>decide (h<1000)) (((j0 b j).take i).map (hu told));rw[YY,ZG]at this
   lia
  refine⟨_,J,_,J,_,_,c9 N,j3 (L7 T),.inl ⟨J,_,J,?_⟩⟩;show if (if aC=aC then !F6 (pS (hu told u)) else F6 (pS (hu told u)))=aC then _ else _
  rw[iP J,Vt,Bool.not_not];refine ifD (λz=>?_) (λz=>⟨J,?_⟩)
  ·rw[iP (decide_eq_true z)]at tk;refine⟨_,J,_,J,_,_,c9 N,j3 (L7 T),by rw[g0];show _<100000;lia,J,?_⟩;rw[tk,t5,GM z];rfl
  ·rw[iG (by simpa using z),ZD]at tk;rw[tk]
 ·rintro zs e ⟨rfl,rfl⟩;rw[g0,Z1]
  have Tl:(tkn told (j0 b j)).length<=b.length:=by
   unfold tkn;have:=Z5 (λh=>decide (h<1000)) ((j0 b j).map (hu told));rw[YY]at this
   lia
  have O8:=O7.push (o:=SO.lst (natS (tkn told (j0 b j))));have G8:=G7.push (o:=SO.lst (natS (tkn told (j0 b j))));have a7:=f8 (o:=SO.lst (natS (tkn told (j0 b j)))) N;have a8:=f8 (o:=SO.lst (natS (tkn told (j0 b j)))) h7;have h8:(e++[SO.lst (natS (tkn told (j0 b j)))])[e.length]?=aA (SO.lst (natS (tkn told (j0 b j)))):=f7;show wSs Δ [gt9,Jh V,Ji] E [aA (g9 n b),aA x,aA (.loc l),aA (.int (H:Nat)),aA (.loc t),aA (.int (a:Nat)),aA (El j),aA (.loc k7),aA (.loc e.length),o9,s,g,m] (e++[.lst (natS (tkn told (j0 b j)))]);generalize e.length=k8 at *;generalize e++[SO.lst (natS (tkn told (j0 b j)))]=S8 at *;refine⟨_,J,_,J,⟨by lia,by lia⟩,?_⟩;refine i4 (g8 A _).2 (c8 A _).1 (λi W e=>e=S8/\W=natS ((Ye i).filter λh=>!decide (h∈tkn told (j0 b j)))) ⟨J,J⟩ (λ_ _ _ _=>trivial) ?_ ?_
  ·rintro i y zs e hy ⟨rfl,rfl⟩;have jl:i<H:=by have:=(gM hy).1;rw[l7]at this;lia
   obtain⟨rfl,hi⟩:=k0 hy;rw[Zd]at hi ⊢;have fs:=A9 (λh=>!decide (h∈tkn told (j0 b j))) i;have fl:=u7 (λh=>!decide (h∈tkn told (j0 b j))) i;refine⟨_,J,_,J,?_⟩;show match Aj (.loc k8) e with | some ms=>_ | none=>_
   rw[Aq h8];refine⟨J,_,c9 h8,Au _,_,J,?_⟩;show if (!inS (.int (i:Nat)) (natS (tkn told (j0 b j))))=aC then _ else _
   rw[D8];refine ifB (λz=>?_) (λz=>⟨J,?_⟩)
   ·rw[iP z]at fs;exact⟨_,J,by rw[g0];show _<100000;lia,J,by rw[fs,t5];rfl⟩
   ·rw[iG (by rw[z];decide),ZD]at fs;rw[fs]
  ·rintro zs e ⟨rfl,rfl⟩;rw[l7,show((H:Int) - 0).toNat=H by lia];have fl:=u7 (λh=>!decide (h∈tkn told (j0 b j))) H;refine⟨_,J,_,_,f7,f8 h8,by rw[g0,g0];show _<=100000;lia,?_⟩;rw[<-t5];show wSs Δ [Jh V,Ji] E [aA (g9 n b),aA x,aA (.loc l),aA (.int (H:Nat)),aA (.loc t),aA (.int (a:Nat)),aA (El j),aA (.loc k7),aA (.loc k8),aA (.loc (e++[SO.lst (natS ((Ye H).filter λh=>!decide (h∈tkn told (j0 b j))))]).length),s,g,m] ((e++[SO.lst (natS ((Ye H).filter λh=>!decide (h∈tkn told (j0 b j))))])++[.lst (natS (u9 H (tkn told (j0 b j))))]);have O9:=(O8.push (o:=SO.lst (natS ((Ye H).filter λh=>!decide (h∈tkn told (j0 b j)))))).push (o:=SO.lst (natS (u9 H (tkn told (j0 b j)))));have G9:=(G8.push (o:=SO.lst (natS ((Ye H).filter λh=>!decide (h∈tkn told (j0 b j)))))).push (o:=SO.lst (natS (u9 H (tkn told (j0 b j)))));have a1:=f8 (o:=SO.lst (natS (u9 H (tkn told (j0 b j))))) (f8 (o:=SO.lst (natS ((Ye H).filter λh=>!decide (h∈tkn told (j0 b j))))) a7);have a9:=f8 (o:=SO.lst (natS (u9 H (tkn told (j0 b j))))) (f8 (o:=SO.lst (natS ((Ye H).filter λh=>!decide (h∈tkn told (j0 b j))))) a8);have h9:((e++[SO.lst (natS ((Ye H).filter λh=>!decide (h∈tkn told (j0 b j))))])++[SO.lst (natS (u9 H (tkn told (j0 b j))))])[(e++[SO.lst (natS ((Ye H).filter λh=>!decide (h∈tkn told (j0 b j))))]).length]?=aA (SO.lst (natS (u9 H (tkn told (j0 b j))))):=f7;generalize (e++[SO.lst (natS ((Ye H).filter λh=>!decide (h∈tkn told (j0 b j))))]).length=k9 at *;generalize (e++[SO.lst (natS ((Ye H).filter λh=>!decide (h∈tkn told (j0 b j))))])++[SO.lst (natS (u9 H (tkn told (j0 b j))))]=S9 at *;have er:(t7 n b).getD a []=r:=by rw[Yg,Z.hr];rfl
   have ec:hs.getD a []=cs:=by rw[Yg,Z.hc];rfl
   obtain⟨ka,a2,v⟩:=GO C (gM Z.hr).1;obtain⟨y,a3,B⟩:=X.row (gM Z.hc).1;rw[er]at v;rw[ec]at B;have b5:=(gM v).1;have C9:=C.gw G9;have X9:=X.gw G9;have b6:=(gM a1).1;refine⟨_,J,_,J,_,_,c9 C9.top,a2,_,J,_,J,_,_,X9.seq,j3 a3,_,J,_,J,?_⟩;refine hn (G9.keep _ _ v) (B.gw G9) a9 h9 cl (by lia) Z.key_nd (by have:=Z.key_len;have:=Z.pool_len;lia) (by have:=Z.pool_len;lia) λkd b0 K b7 hd=>?_;have d:=G9.trans K;have b1:=C.gw d;have b2:=X.gw d;refine⟨_,J,_,J,_,_,c9 b1.top,a2,_,J,_,J,_,_,b2.seq,j3 a3,ka,_,_,J,d.keep _ _ v,(B.gw d).seq,by rw[g0,g0,cl],?_⟩;refine y9 (i9 A _) (λi ρ w=>∃ g m:Option SV,ρ=[aA (g9 n b),aA x,aA (.loc l),aA (.int (H:Nat)),aA (.loc t),aA (.int (a:Nat)),aA (El j),aA (.loc k7),aA (.loc k8),aA (.loc k9),aA (.loc kd),g,m]/\On t b0 w/\w[t]?=aA (.lst (B8 (BV told (r.take i) ((Je H r cs (j0 b j) told).take i))))) ⟨_,_,J,On.refl _ _,by rw[A24,A24];unfold BV;exact K.keep _ _ a1⟩ (λ_ _ w z=>?_) ?_ ?_
   ·obtain⟨_,_,_,Q,_⟩:=z;have a4:=EQ d Q t0;exact⟨(a4.keep _ _ v).trans (d.keep _ _ v).symm,(B.gw d).kp (B.gw a4)⟩
   ·rintro i z ρ w E' b3 _ hz ⟨g,m,rfl,Q,D⟩;obtain⟨u,c,a5,T,rfl⟩:=LC hz;have ul:=Z.row_lt u (Yb a5);obtain⟨m1,m2⟩:=Z.nm_get (Yb T);have nl:=Z.nm_lt (Yb T);have a6:=Q.keep kd _ (by lia) hd;have e1:=FR (told:=told) a5 (show(Je H r cs (j0 b j) told)[i]?=aA _ by unfold Je;rw[Yj,T];rfl);refine⟨_,J,_,J,_,c,_,by simp only[ME,a6],J,ID Z.key_nd m1 (m7 m2),_,J,_,J,_,u,D,Kf (by rw[QV,EN,M];exact ul),?_⟩;refine b3 _ _ ⟨_,_,J,Q.tape,?_⟩;rw[m8 D,e1];unfold B8;rw[List.map_set,GM (by lia)]
   ·rintro ρ w ⟨g,m,rfl,Q,D⟩;have b4:(Je H r cs (j0 b j) told).length=r.length:=by unfold Je;rw[YY,cl]
    rw[IH cl,Z1,<-b4,Z1]at D;exact t9 (Δ:=Δ) (q _ _ _ _ _ _ w ((O9.trans ⟨K.len,λk o _ h=>K.keep k o h⟩).trans Q) (EQ d Q t0) D)
theorem Qi(k:∀ f,MonoN (Δ f)){kb km ko kt kn:Nat}(a3:EK (Δ kb))(hm:Jd (Δ km))(ho:Jg (Δ ko))(ht:Ar (Δ kt))(hn:DW (Δ kn)){D:Df}(hb:D.body=Qg kb km ko kt kn)(hN:D.N.length=13)(hp:D.ps.length=2):LF (j7 Δ D):=by
 intro n x a V b S Q W n6 e6 X G q
 have bl:(t7 n a).length<=60:=by
  unfold t7 B7;rw[YY];have:(rootsL (Hue.mk a.length (cpA n a n)) a.length).length<=a.length:=u7 _ _
  lia
 have A:∀(i:Nat) m,b[i]?=aA m->m.length<=60:=λi m H=>by
  have h1:=Ya (show i<(t7 n a).length by rw[<-G.len];exact(gM H).1);have h2:=G.hl i _ m h1 H;have hm:=Yb h1;have:=List.Nodup.length_le_of_subset ((G.B.up _ hm).imp Ys) (l₂:=Ye a.length) λt ht=>Yr.mpr (G.B.lt _ hm t ht);rw[Z0]at this
  lia
 unfold j7;rw[hb,hN];refine⟨hp.symm,_,J,a3 ⟨W,by lia,by lia⟩ λl ls S1 G1 l0 C _ _=>?_⟩;show wSs Δ [gl3 km,gl4,.loop (.tup (.cons (.nm 5) (.cons (.nm 6) .nil))) (.seq (.call ko (vB vG vI))) [gt7 kt,gt8,gt9,Jh kn,Ji],.ret vM] (p8 Q) [aA (g9 n a),aA x,aA (.loc l),aB,aB,aB,aB,aB,aB,aB,aB,aB,aB] S1;have X1:=X.gw G1;refine⟨_,J,hm W (by lia) λS2 G2=>⟨by show 1<=100000;decide,?_⟩⟩;have h2:(S2++[SO.lst [SV.int (j8 a n:Nat)]])[S2.length]?=aA (SO.lst [SV.int (j8 a n:Nat)]):=f7;have L:Gw S1 (S2++[SO.lst [SV.int (j8 a n:Nat)]]):=G2.push;generalize S2.length=k2 at *;generalize S2++[SO.lst [SV.int (j8 a n:Nat)]]=S3 at *;have X3:=X1.gw L;refine⟨_,J,_,X3.seq,?_⟩
 have I:∀ i,i<=60->((b.take i).flatten).length<=i * 60:=λi=>by
  induction i with
  | zero=>intro _;simp
  | succ i ih=>
    intro H;have ih:=ih (by lia);rw[ZA,A1x,Yd];cases h:b[i]? with
    | none=>show _+0<=_;lia
    | some m=>
      have:=A i m h;show _+(m++[]).length<=_;rw[ZD];lia
 have yl:V.length<=60:=by rw[X.len,G.len];exact bl
 refine CP (g8 k _).2 (w9 k _) (g8 k _).2 (c8 k _).1 (λi P p=>p=S3/\i<=V.length/\P=natS (((b.take i).flatten).map (·+1))) ⟨J,ZY _,J⟩ (λ_ _ _ z=>by rw[z.1];exact X3.kp X3) ?_ ?_
 ·rintro i y P p K ⟨rfl,_,rfl⟩;obtain⟨m,hc,hY⟩:=X3.get K;have il:=(gM K).1;refine⟨_,J,_,hY.seq,?_⟩;refine CQ (g8 k _).2 (c8 k _).1 (λj R P S4=>∃ o1,R=[aA y,o1]/\S4=p/\P=natS (((b.take i).flatten++m.take j).map (·+1))) ⟨aB,J,J,by simp⟩ (λ_ _ _ _ z=>by obtain⟨_,_,z,_⟩:=z;rw[z];exact hY.kp hY) ?_ ?_
  ·rintro j z R P S4 hz ⟨o1,rfl,rfl,rfl⟩;obtain⟨c,a0,rfl⟩:=v8 hz;have b1:=I i (by lia);have b2:=A i m hc;have jl:=(gM a0).1;have b3:i * 60<=60 * 60:=A1w 60 (by lia);refine⟨_,J,by rw[g0,YY,Yd,ZG];show _<100000;lia,_,J,J,?_⟩;have e4:((b.take i).flatten++m.take (j+1)).map (·+1)=((b.take i).flatten++m.take j).map (·+1)++[c+1]:=by rw[ZA,a0,<-A0q,Yo];rfl
   rw[e4,t5];rfl
  ·rintro R P S4 ⟨o1,rfl,rfl,rfl⟩;refine⟨J,il,?_⟩;rw[g0,Z1,ZA,hc,A1x];simp
 ·rintro P p ⟨rfl,_,rfl⟩;have e:b.take V.length=b:=by rw[X.len,Z1]
  have b1:=I V.length yl;rw[e]at b1 ⊢;have b3:V.length * 60<=60 * 60:=A1w 60 yl;refine⟨_,_,f8 h2,f7,by rw[g0,YY];show 1+_<=100000;lia,?_⟩
  have e2:[SV.int (j8 a n:Nat)]++natS (b.flatten.map (·+1))=(((j8 a n:Nat):Int)::iN (b.flatten.map (·+1))).map SV.int:=by
   rw[C6];rfl
  refine⟨_,(((j8 a n:Nat):Int)::iN (b.flatten.map (·+1))),J,?_,A1O _,λM g=>?_⟩
  ·rw[e2];exact f7
  rw[Vu g];have G5:Gw S ((p++[SO.lst (natS (b.flatten.map (·+1)))])++[SO.lst ([SV.int (j8 a n:Nat)]++natS (b.flatten.map (·+1)))]):=(G1.trans L).push.push;have a1:Gw S1 ((p++[SO.lst (natS (b.flatten.map (·+1)))])++[SO.lst ([SV.int (j8 a n:Nat)]++natS (b.flatten.map (·+1)))]):=L.push.push;generalize (p++[SO.lst (natS (b.flatten.map (·+1)))])++[SO.lst ([SV.int (j8 a n:Nat)]++natS (b.flatten.map (·+1)))]=r at *;show wSs Δ [gl4,.loop (.tup (.cons (.nm 5) (.cons (.nm 6) .nil))) (.seq (.call ko (vB vG vI))) [gt7 kt,gt8,gt9,Jh kn,Ji],.ret vM] (p8 Q) [aA (g9 n a),aA x,aA (.loc l),aA (.int (HM (j8 a n) b.flatten:Nat)),aB,aB,aB,aB,aB,aB,aB,aB,aB] r;have nl:(a.map pairS).length=a.length:=YY ..;refine⟨by show 1<=100000;decide,_,J,_,_,J,J,_,J,_,f7,⟨by lia,by lia⟩,by show 1 * _<=100000;lia,?_⟩;have er:(Yv (((a.map pairS).length:Nat):Int).toNat [SV.non]).flatten=B8 (BW a.length):=by rw[ZX,nl,TK]
  rw[er];have hT:((r++[SO.lst [SV.non]])++[SO.lst (B8 (BW a.length))])[(r++[SO.lst [SV.non]]).length]?=aA (SO.lst (B8 (BW a.length))):=f7;have G6:Gw S ((r++[SO.lst [SV.non]])++[SO.lst (B8 (BW a.length))]):=G5.push.push;have a2:Gw S1 ((r++[SO.lst [SV.non]])++[SO.lst (B8 (BW a.length))]):=a1.push.push;have t1:S1.length<=(r++[SO.lst [SV.non]]).length:=(a1.push (o:=SO.lst [SV.non])).len;have t0:S.length<=(r++[SO.lst [SV.non]]).length:=(G5.push (o:=SO.lst [SV.non])).len;generalize (r++[SO.lst [SV.non]]).length=t at *;generalize (r++[SO.lst [SV.non]])++[SO.lst (B8 (BW a.length))]=S6 at *;have a5:=(gM hT).1;refine⟨_,J,_,J,ho (C.gw a2) G.B n6 e6 bl λlo S7 G7 a6 h7=>⟨_,c9 h7,?_⟩⟩;have T:=a2.trans G7;obtain⟨ok,_⟩:=Hue.ord_all G.B;obtain⟨_,a4⟩:=GN G (o:=ordA a (t7 n a)) ok QX;have C7:=C.gw T;have X7:=X1.gw T;refine y9 (i9 k _) (λi R p=>∃ o5 o6 o7 o8 o9 u v w:Option SV,R=[aA (g9 n a),aA x,aA (.loc l),aA (.int (HM (j8 a n) b.flatten:Nat)),aA (.loc t),o5,o6,o7,o8,o9,u,v,w]/\On t S7 p/\p[t]?=aA (.lst (B8 (DL (HM (j8 a n) b.flatten) a (t7 n a) b (BW a.length) ((ordA a (t7 n a)).take i))))) ⟨_,_,_,_,_,_,_,_,J,On.refl _ _,G7.keep _ _ hT⟩ (λ_ _ p z=>?_) ?_ ?_
  ·obtain⟨_,_,_,_,_,_,_,_,_,O,_⟩:=z;show p[lo]?=S7[lo]?;rw[h7];exact O.keep _ _ (by lia) h7
  ·rintro i y R S8 E hE _ K ⟨o5,o6,o7,o8,o9,u,v,w,rfl,O,h8⟩;rw[Yj]at K;cases H:(ordA a (t7 n a))[i]? with
   | none=>rw[H]at K;cases K
   | some s=>
     rw[H]at K;cases K;obtain⟨d,a7,m,Z⟩:=a4 i s H;refine Qh k ht hn Z C X1 e6 (EQ T O t1) t1 O h8 λo7 o8 o9 u v w p O' _ h'=>hE _ _ ⟨_,_,_,_,_,_,_,_,J,O',?_⟩;rw[h',QY H,Yg,Yg,Z.hr,Z.hc];rfl
  ·rintro R S8 ⟨o5,o6,o7,o8,o9,u,v,w,rfl,O,h8⟩;rw[YY,Z1]at h8;exact⟨_,J,q t S8 (EQ (G6.trans G7) O t0) t0 h8⟩
def LG(v:Str)(a:Nat):U Stm:=[.ret (.max1 (.op .Add (.lst (vA vJ)) (.comp ["_law_place"] [v] [0] (.nm 0) (.rng1 kE) .no (.call a (vB vH vG)))))]
def Mz(a:∀ f,MonoN (Δ f)){v:Str}{h:Nat}(j:EI (Δ h)){D:Df}(l:D.body=LG v h)(o:D.N.length=1)(r:D.ps.length=1):GG (j7 Δ D):=by
 intro n c S Q d z q;unfold j7;rw[l,o];refine⟨r.symm,by show 1<=big;decide,_,J,_,_,J,J,_,J,⟨by lia,by lia⟩,?_⟩;have s:(S++[SO.lst [SV.int 0]])[S.length]?=O (.lst [SV.int 0]):=f7;have t:Gw S (S++[SO.lst [SV.int 0]]):=(Gw.refl S).push;generalize A:S.length=k at *;generalize S++[SO.lst [SV.int 0]]=S1 at *;refine i4 (g8 a _).2 (c8 a _).1 (λi e S2=>Gw S1 S2/\e=cS i (cntAt c)) ⟨Gw.refl S1,J⟩ (λ_ _ _ _=>trivial) ?_ ?_
 ·rintro i x e S2 u ⟨b,rfl⟩;obtain⟨rfl,w⟩:=k0 u;rw[Zd]at w ⊢;refine⟨_,J,_,J,j d λB y=>⟨by rw[Bv];show _<100000;lia,b.trans y,?_⟩⟩;unfold cS;rw[ZV,Yo];rfl
 ·rintro e S2 ⟨b,rfl⟩;rw[l7,show((n:Int) - 0).toNat=n by lia];refine⟨_,_,f8 (b.keep _ _ s),f7,by rw[Bv];show 1+n<=100000;lia,S2.length+1,(0::(Ye n).map λp=>((cntAt c p:Nat):Int)),?_,?_,A1O _,λm g=>?_⟩
  ·rw[Yd];rfl
  ·rw[Kt,show S2.length+1=(S2++[SO.lst (((Ye n).map λp=>((cntAt c p:Nat):Int)).map SV.int)]).length by rw[Yd];rfl,f7];rfl
  ·rw[Mu g];exact q _ (t.trans b).push.push
end
def Qj{a:EE}{t u y:Nat}(g:AtP a t y)(b:AtP a u y):Shr a t u:=by
 obtain⟨e,c,h⟩:=g;obtain⟨f,d,i⟩:=b;have j:Ax a t=e:=by have:=B2 (gM c).1;rw[c]at this;exact(oj this).symm
 have k:Ax a u=f:=by have:=B2 (gM d).1;rw[d]at this;exact(oj this).symm
 refine⟨y,?_,?_⟩
 ·rw[j];exact h.imp Eq.symm Eq.symm
 ·rw[k];exact i.imp Eq.symm Eq.symm
def TL{d:EE}{f:U Nat}(i:f.length=d.length)(h:∀ a b,a<b->b<d.length->Shr d a b->hu f a≠hu f b):Prp d f:=by
 refine⟨i,λt u y g c e=>?_⟩;rcases A1J t u with z | z | z
 ·exact absurd e (h t u z c.lt (Qj g c))
 ·exact z
 ·exact absurd e.symm (h u t z g.lt (Qj c g))
def TM{c:EE}{d:U Nat}(P:Prp c d){a b:Nat}(f:a<c.length)(g:b<c.length)(s:Shr c a b)(e:hu d a=hu d b):a=b:=by obtain⟨p,h,i⟩:=s;exact P.one a b p ⟨_,B2 f,h.imp Eq.symm Eq.symm⟩ ⟨_,B2 g,i.imp Eq.symm Eq.symm⟩ e
section
variable{Δ:Nat->Sn}
def Jj(s:Sn):Prop:=∀{n l:Nat} {es:EE} {cs:U Nat} {S:Sto} {Q:QE},Prp es cs->es.length<=90->S[l]?=O (SO.lst (natS cs))->Q (.bl aC) S->s [g9 n es,.loc l] S Q
def N0(c:∀ f,MonoN (Δ f)){s:Nat}(B:IE (Δ s)){D:Df}(C:D.body=QR s)(G:D.N.length=5)(H:D.ps.length=2):Jj (j7 Δ D):=by
 intro n l d cs S Q P I g q;unfold j7;rw[C,G];have k:=P.len;refine⟨H.symm,_,J,by show 2<=big;decide,.list,[.list,.tuple],by decide,Pq g,J,_,J,ifF J ⟨_,J,_,c9 g,_,J,_,_,J,J,_,J,_,J,ifF ?_ (t9 ?_)⟩⟩
 ·show(!decide (((natS cs).length:Int)=((d.map pairS).length:Int)))=aD;rw[g0,YY,k];simp
 refine⟨_,J,_,c9 g,?_⟩;refine y9 (i9 c _) (λi a S1=>∃ m o b,a=[O (g9 n d),O (.loc l),m,o,b]/\S1=S) ⟨_,_,_,J,J⟩ (λ_ _ _ h=>by obtain⟨_,_,_,_,h⟩:=h;rw[h];exact J) ?_ ?_
 ·rintro i x a S1 E K L p ⟨m,o,b,rfl,rfl⟩;obtain⟨y,M,rfl⟩:=Fz p;obtain⟨h,u,rfl⟩:=v8 M;have w:i<d.length:=by have:=(gM u).1;lia
  refine⟨_,J,.inl ⟨J,_,J,ifT J ⟨_,J,_,nofun,J,_,J,ifF J ⟨_,J,_,nofun,J,_,J,ifF J ⟨_,J,_,J,ifF (decide_eq_false (by lia)) (t9 ?_)⟩⟩⟩⟩⟩;refine⟨_,J,_,J,⟨by lia,by lia⟩,?_⟩;refine y9 (i9 c _) (λj a S2=>∃ b,a=[O (g9 n d),O (.loc l),O (.int (i:Int)),O (.int (h:Nat)),b]/\S2=S1) ⟨_,J,J⟩ (λ_ _ _ _=>trivial) ?_ ?_
  ·rintro j x a S2 T e _ p ⟨b,rfl,rfl⟩;obtain⟨rfl,A⟩:=k0 p;rw[Zd]at A ⊢;have A:j<i:=by lia
   have r:=CS (cs:=cs) (t:=j) (by lia);refine⟨_,J,.inl ⟨J,_,J,ifT J ⟨_,J,_,J,_,_,c9 g,j3 (m7 r),_,J,_,J,ifD (λz=>?_) (λz=>?_)⟩⟩⟩
   ·have z:hu cs j=h:=ZI.mp z;refine⟨_,J,_,J,_,J,B (by lia) w λv R=>⟨_,J,ifF ?_ (t9 (e _ _ ⟨_,J,J⟩))⟩⟩;cases v with
    | false=>rfl
    | true=>
      have:=TM P (show j<d.length by lia) w (R.mp J) (by rw[z,Ac u])
      lia
   ·exact ifF J (t9 (e _ _ ⟨_,J,J⟩))
  ·rintro a S2 ⟨b,rfl,rfl⟩;exact t9 (Δ:=Δ) (K _ _ ⟨_,_,_,J,J⟩)
 ·rintro a S1 ⟨m,o,b,rfl,rfl⟩;exact q
noncomputable def YW(kd:Nat):Stm:=(.asg (.nm 3) (.ix (.lst (vD (.lst (vE vJ vK vT vP vV vW)) (.lst (vD vJ vK vZ (.c (.int 40)))) (.lst (vF vT vJ vK vW (.c (.int 9)))) (.lst (vE (.c (.int 99)) vP vJ (.c (.int 11)) vV vT)))) (.call kd (vB vG vV))))
def ih6(a:Nat):Stm:=(.asg (.nm 6) (.comp ["_law_k"] ["_law_web_here","_law_tie","_law_found"] [1,5,4] (.nm 0) (.rng1 vN) (.yes (.call a (vC vH vG vI))) (.ix vL vG)))
def ih7:Stm:=(.asg (.nm 7) (.comp ["_law_hue"] ["_law_taken"] [6] (.nm 0) (.seq (.op .Add vL (.lrng2 (.c (.int 100)) (.op .Add (.op .Add (.c (.int 100)) (.bi .len (vA vO))) vK)))) (.yes kO) vG))
def ih8(kd:Nat):Stm:=(.asg (.nm 8) (.ix vQ (.call kd (vB vG (.bi .min (vB vT (.bi .len (vA vQ))))))))
def ih9(kd:Nat):Stm:=(.expr (.mt .append vM (vA (.ix (.lst (vB vR vU)) (.bi .int (vA (.and vI (.cmp .Eq (.call kd (vB vG vV)) vJ))))))))
noncomputable def UB(kd a:Nat):U Stm:=[YW kd,.asg (.nm 4) kD,.loop (.nm 5) (.rng1 (.bi .len (vA (.ix vH vK)))) [ih6 a,ih7,ih8 kd,ih9 kd],.ret vM]
def someL:Nat->U Nat
 | 0=>[0,1,2,3,4,5] | 1=>[0,1,7,40] | 2=>[2,0,1,5,9] | _=>[99,3,0,11,4,2]
def TN(r:Nat):(someL r).length<=6/\∀ h∈someL r,h<200:=by unfold someL;split<;>exact⟨by decide,by decide⟩
def Qk(a k:Nat):Av a (a+k:Nat)=natS ((Ye k).map (a+·)):=by unfold Av natS;rw[show(((a+k:Nat):Int) - (a:Nat)).toNat=k by lia,A0g];refine Zw λi _=>?_;show SV.int ((a:Int)+i)=SV.int ((a+i:Nat):Int);rw[A0I]
def Ql(s:Sn):Prop:=∀{t n:Nat} {es:EE} {S:Sto} {Q:QE},TapeS S t->es.length<=60->(∀(l:Nat) (cs:U Nat) (S':Sto),TapeS S' t->On t S S'->S.length<=l->S'[l]?=O (.lst (natS cs))->Prp es cs->(∀ c∈cs,c<200)->Q (.loc l) S')->s [.loc t,g9 n es,.bl aD] S Q
structure LhI(t lf ls r:Nat)(es:EE)(S0 S:Sto)(cs:List Nat):Prop where
 T:TapeS S t
 O:On t S0 S
 f0:S0.length<=lf
 sf:ls<lf
 s0:S0.length<=ls
 hf:S[lf]?=aA (.lst (natS cs))
 hs:S[ls]?=aA (.lst (natS (someL r)))
 ap:∀ a b,a<b->b<cs.length->Shr es a b->hu cs a≠hu cs b
 lt:∀ c∈cs,c<200
def ffL(r:Nat)(a:U Nat):U Nat:=(someL r++(Ye (a.length+1)).map (100+·)).filter λh=>!decide (h∈a)
def Vv(r:Nat)(c:U Nat):0<(ffL r c).length:=by
 rcases Nat.eq_zero_or_pos (ffL r c).length with z | z
 ·have z:=ZT.mp z;unfold ffL at z;rw[Zv]at z
  have:=List.Nodup.length_le_of_subset (l₁:=(Ye (c.length+1)).map (100+·)) (l₂:=c) (C8 Zj λa _ b _ e=>by lia) λh d=>by
   have:=z h (ZF _ d);simpa using this
  rw[YY,Z0]at this
  lia
 ·exact z
theorem N1(l:∀ f,MonoN (Δ f)){w km:Nat}(hd:t6 (Δ w))(hm:IE (Δ km)){E:EndsS}{t D G r n i:Nat}{p:EE}{S0 S:Sto}{cs:U Nat}{o6 R H:Option SV}(I:LhI t D G r p S0 S cs)(hi:cs.length=i)(il:i<p.length)(e6:p.length<=60)(t0:t<S0.length)
 (q:∀(o6 R H:Option SV) (c:Nat) (k:Sto),LhI t D G r p S0 k (cs++[c])->E.nx [aA (.loc t),aA (g9 n p),aA (.bl aD),aA (.loc G),aA (.loc D),aA (.int (i:Nat)),o6,R,H] k):
 wSs Δ [ih6 km,ih7,ih8 w,ih9 w] E [aA (.loc t),aA (g9 n p),aA (.bl aD),aA (.loc G),aA (.loc D),aA (.int (i:Nat)),o6,R,H] S:=by
 refine⟨_,J,_,J,⟨by lia,by lia⟩,?_⟩;refine i4 (g8 l _).2 (c8 l _).1 (λj A k=>k=S/\∃ g:U Nat,A=natS g/\g.length<=j/\∀ a,a<j->a<i->Shr p a i->hu cs a∈g) ⟨J,[],J,Ym _,λa h=>by lia⟩ (λ_ _ _ _=>trivial) ?_ ?_
 ·rintro j x A k hx ⟨rfl,g,rfl,tl,K⟩;obtain⟨rfl,hj⟩:=k0 hx;rw[Zd]at hj ⊢;have hj:j<i:=by lia
  refine⟨_,J,_,J,_,J,hm (by lia) il λv hv=>⟨_,J,?_⟩⟩;refine ifB (λz=>?_) (λz=>⟨J,g,J,by lia,λa V ai s=>?_⟩)
  ·have W:=CS (cs:=cs) (t:=j) (by lia);refine⟨_,J,_,J,_,_,c9 I.hf,j3 (m7 W),by rw[g0];show _<100000;lia,J,g++[hu cs j],by rw[t5];rfl,by rw[Yd];simp;lia,λa V ai s=>?_⟩;by_cases e:a=j
   ·rw[e];simp
   ·exact Zp _ (K a (by lia) ai s)
  ·by_cases e:a=j
   ·rw[e]at s;rw[hv.mpr s]at z;cases z
   ·exact K a (by lia) ai s
 ·rintro A k ⟨rfl,g,rfl,tl,K⟩;rw[l7,show((i:Int) - 0).toNat=i by lia]at tl K;have T1:=I.T.push (o:=SO.lst (natS g));have O1:=I.O.push (o:=SO.lst (natS g));have a0:=f8 (o:=SO.lst (natS g)) I.hf;have L:=f8 (o:=SO.lst (natS g)) I.hs;have h6:(k++[SO.lst (natS g)])[k.length]?=aA (SO.lst (natS g)):=f7;show wSs Δ [ih7,ih8 w,ih9 w] E [aA (.loc t),aA (g9 n p),aA (.bl aD),aA (.loc G),aA (.loc D),aA (.int (i:Nat)),aA (.loc k.length),R,H] (k++[.lst (natS g)]);generalize k.length=k6 at *;generalize k++[SO.lst (natS g)]=S1 at *;have b1:g.length<=60:=by lia
  have a1:=TN r
  have er:Av 100 (100+((natS g).length:Int)+1)=natS ((Ye (g.length+1)).map (100+·)):=by
   rw[g0,<-Qk 100 (g.length+1)]
   congr 1
  refine⟨_,J,_,J,_,c9 h6,_,_,J,J,⟨by lia,by lia,by rw[g0];lia,by rw[g0];lia⟩,?_⟩;rw[er];refine⟨_,_,f8 L,f7,by rw[g0,g0,YY,Z0];show _<=100000;lia,_,c9 f7,?_⟩;rw[<-t5];have T2:=(T1.push (o:=SO.lst (natS ((Ye (g.length+1)).map (100+·))))).push (o:=SO.lst (natS (someL r++(Ye (g.length+1)).map (100+·))));have O2:=(O1.push (o:=SO.lst (natS ((Ye (g.length+1)).map (100+·))))).push (o:=SO.lst (natS (someL r++(Ye (g.length+1)).map (100+·))));have a2:=f8 (o:=SO.lst (natS (someL r++(Ye (g.length+1)).map (100+·)))) (f8 (o:=SO.lst (natS ((Ye (g.length+1)).map (100+·)))) a0);have a3:=f8 (o:=SO.lst (natS (someL r++(Ye (g.length+1)).map (100+·)))) (f8 (o:=SO.lst (natS ((Ye (g.length+1)).map (100+·)))) L);have M:=f8 (o:=SO.lst (natS (someL r++(Ye (g.length+1)).map (100+·)))) (f8 (o:=SO.lst (natS ((Ye (g.length+1)).map (100+·)))) h6);generalize (S1++[SO.lst (natS ((Ye (g.length+1)).map (100+·)))]).length=kk at *;generalize (S1++[SO.lst (natS ((Ye (g.length+1)).map (100+·)))])++[SO.lst (natS (someL r++(Ye (g.length+1)).map (100+·)))]=S2 at *;refine i4 (g8 l _).2 (c8 l _).1 (λj A k=>k=S2/\A=natS (((someL r++(Ye (g.length+1)).map (100+·)).take j).filter λh=>!decide (h∈g))) ⟨J,J⟩ (λ_ _ k z=>by rw[z.1];exact J) ?_ ?_
  ·rintro j y A k hy ⟨rfl,rfl⟩;obtain⟨c,W,rfl⟩:=v8 hy;have jl:=(gM W).1;rw[Yd,YY,Z0]at jl
   have u:((someL r++(Ye (g.length+1)).map (100+·)).take (j+1)).filter (λh=>!decide (h∈g))=((someL r++(Ye (g.length+1)).map (100+·)).take j).filter (λh=>!decide (h∈g))++if (!decide (c∈g))=aC then [c] else []:=by
    rw[ZA,W,Ze]
    congr 1
    show A0W _ [c]=_;rw[ZC];rfl
   have fl:=Z5 (λh=>!decide (h∈g)) ((someL r++(Ye (g.length+1)).map (100+·)).take j);rw[ZG]at fl;refine⟨_,J,_,J,?_⟩;show match Aj (.loc k6) k with | some ms=>_ | none=>_
   rw[Aq M];refine⟨J,_,c9 M,Au _,_,J,?_⟩;show if (!inS (.int (c:Nat)) (natS g))=aC then _ else _
   rw[D8];refine ifB (λz=>?_) (λz=>⟨J,?_⟩)
   ·rw[iP z]at u;exact⟨_,J,by rw[g0];show _<100000;lia,J,by rw[u,t5];rfl⟩
   ·rw[iG (by rw[z];decide),ZD]at u;rw[u]
  ·rintro A k ⟨rfl,rfl⟩;rw[g0,Z1];have fp:0<(ffL r g).length:=Vv r g;show wSs Δ [ih8 w,ih9 w] E [aA (.loc t),aA (g9 n p),aA (.bl aD),aA (.loc G),aA (.loc D),aA (.int (i:Nat)),aA (.loc k6),aA (.loc k.length),H] (k++[.lst (natS (ffL r g))]);have T3:=T2.push (o:=SO.lst (natS (ffL r g)));have O3:=O2.push (o:=SO.lst (natS (ffL r g)));have a4:=f8 (o:=SO.lst (natS (ffL r g))) a2;have a5:=f8 (o:=SO.lst (natS (ffL r g))) a3;have h7:(k++[SO.lst (natS (ffL r g))])[k.length]?=aA (SO.lst (natS (ffL r g))):=f7;have b2:t<k.length:=T2.lt;have f0:=I.f0;have s0:=I.s0;have sf:=I.sf;generalize k.length=k7 at *;generalize k++[SO.lst (natS (ffL r g))]=S3 at *
   have mn:∃ m:Nat,(if (((natS (ffL r g)).length:Nat):Int)<2 then (((natS (ffL r g)).length:Nat):Int) else 2)=(m:Int)/\0<m/\m<=(ffL r g).length:=by
    rw[g0];exact⟨min 2 (ffL r g).length,by split<;>lia,by lia,by lia⟩
   obtain⟨m,em,m0,m1⟩:=mn;refine⟨_,J,_,J,_,J,_,c9 h7,?_⟩;show Δ w [.loc t,.int (if (((natS (ffL r g)).length:Nat):Int)<2 then (((natS (ffL r g)).length:Nat):Int) else 2)] S3 _;rw[em]
   have fl:(ffL r g).length<=100:=by
    unfold ffL;have:=Z5 (λh=>!decide (h∈g)) (someL r++(Ye (g.length+1)).map (100+·));rw[Yd,YY,Z0]at this
    lia
   refine hd T3 (by lia) (by lia) λz S4 z0 z1 T4 X _=>?_;have fz:=Ya (show z.toNat<(ffL r g).length by lia);generalize (ffL r g)[z.toNat]'(by lia)=c at *;have a6:=X.keep _ _ (by lia) h7;have N:=X.keep _ _ (by lia) a4;have a7:=X.keep _ _ (by lia) a5
   have az:atI (natS (ffL r g)) z=aA (.int (c:Nat)):=by
    rw[show z=((z.toNat:Nat):Int) by lia];exact j3 (m7 fz)
   refine⟨_,_,c9 a6,az,?_⟩;have cm:=Yb fz;unfold ffL at cm;rw[Yu,Yx,decide_eq_false_iff_not]at cm
   have c2:c<200:=by
    rcases Yz.mp cm.1 with y | y
    ·exact a1.2 c y
    ·obtain⟨d,a8,rfl⟩:=Z2.mp y;have:=Yr.mp a8
     lia
   refine⟨_,J,⟨_,_,J,N⟩,_,J,by show 2<=100000;decide,_,J,_,J,?_⟩;have B:=f8 (o:=SO.lst [SV.int (c:Nat),SV.non]) N;have a9:=f8 (o:=SO.lst [SV.int (c:Nat),SV.non]) a7;have b0:=T4.lt;have b3:=(gM B).1;have P:(cs++[c]).length=i+1:=by rw[Yd,hi];rfl
   refine ifF J ⟨_,_,c9 f7,J,_,B,by rw[g0];show _<100000;lia,t9 (Δ:=Δ) (q _ _ _ c _ ⟨T4.push.other (by lia),(O3.trans X).push.new f0,f0,sf,s0,?_,by rw[v7 (by lia)];exact a9,λa b ab bl s=>?_,λh Q=>?_⟩)⟩
   ·rw[m8 B,t5];rfl
   ·rw[P]at bl
    have V:hu (cs++[c]) a=hu cs a:=by
     unfold hu;rw[Yg,Yg,Yw (by lia)]
    by_cases e:b=i
    ·have C:hu (cs++[c]) b=c:=by
      refine Ac ?_;rw[e,<-hi,ZQ (Ym _),A2g];rfl
     rw[V,C];intro z;rw[e]at s;exact cm.2 (z▸K a (by lia) (by lia) s)
    ·have C:hu (cs++[c]) b=hu cs b:=by
      unfold hu;rw[Yg,Yg,Yw (by lia)]
     rw[V,C];exact I.ap a b ab (by lia) s
   ·rcases Yz.mp Q with Q | Q
    ·exact I.lt h Q
    ·rw[Yt.mp Q];exact c2
theorem TQ(w:∀ f,MonoN (Δ f)){C R:Nat}(hd:t6 (Δ C))(hm:IE (Δ R)){D:Df}(hb:D.body=UB C R)(hN:D.N.length=9)(hp:D.ps.length=3):Ql (j7 Δ D):=by
 intro t n G S Q T e6 q;have tl:=T.lt;unfold j7;rw[hb,hN];have b6:∀ k,k<=10->k<=big:=λk h=>by show k<=100000;lia
 refine⟨hp.symm,b6 _ (by simp),b6 _ (by simp),b6 _ (by simp),b6 _ (by simp),b6 _ (by simp),?_⟩;generalize e0:SO.lst [SV.int 0,.int 1,.int 2,.int 3,.int 4,.int 5]=d;generalize e1:SO.lst [SV.int 0,.int 1,.int 7,.int 40]=u1;generalize e2:SO.lst [SV.int 2,.int 0,.int 1,.int 5,.int 9]=u2;generalize e3:SO.lst [SV.int 99,.int 3,.int 0,.int 11,.int 4,.int 2]=u3;have y:(S++[d])[S.length]?=aA d:=f7;have j:((S++[d])++[u1])[(S++[d]).length]?=aA u1:=f7;have l:(((S++[d])++[u1])++[u2])[((S++[d])++[u1]).length]?=aA u2:=f7;have H:((((S++[d])++[u1])++[u2])++[u3])[(((S++[d])++[u1])++[u2]).length]?=aA u3:=f7;have y:=f8 (o:=u3) (f8 (o:=u2) (f8 (o:=u1) y));have j:=f8 (o:=u3) (f8 (o:=u2) j);have l:=f8 (o:=u3) l;have l1:(S++[d]).length=S.length+1:=by simp
 have l2:((S++[d])++[u1]).length=S.length+2:=by simp
 have l3:(((S++[d])++[u1])++[u2]).length=S.length+3:=by simp
 rw[l1]at j;rw[l2]at l;rw[l3]at H;rw[l1,l2,l3];have T4:=(((T.push (o:=d)).push (o:=u1)).push (o:=u2)).push (o:=u3);have O4:=((((On.refl t S).push (o:=d)).push (o:=u1)).push (o:=u2)).push (o:=u3);have l4:((((S++[d])++[u1])++[u2])++[u3]).length=S.length+4:=by simp
 generalize (((S++[d])++[u1])++[u2])++[u3]=V at *;refine⟨_,J,hd T4.push (by decide) (by decide) λz K z0 z1 T5 m _=>?_⟩;have A:=O4.trans ((On.refl t V).push.trans m);have p:(V++[SO.lst [SV.loc S.length,.loc (S.length+1),.loc (S.length+2),.loc (S.length+3)]])[V.length]?=aA (SO.lst [SV.loc S.length,.loc (S.length+1),.loc (S.length+2),.loc (S.length+3)]):=f7;have p:=m.keep _ _ (by lia) p;have y:=m.keep _ _ (by lia) (f8 y);have j:=m.keep _ _ (by lia) (f8 j);have l:=m.keep _ _ (by lia) (f8 l);have H:=m.keep _ _ (by lia) (f8 H)
 have e:∀(r u:Nat),K[u]?=aA (.lst (natS (someL r)))->S.length<=u->wSs Δ [.asg (.nm 4) kD,.loop (.nm 5) (.rng1 (.bi .len (vA (.ix vH vK)))) [ih6 R,ih7,ih8 C,ih9 C],.ret vM] (p8 Q) [aA (.loc t),aA (g9 n G),aA (.bl aD),aA (.loc u),aB,aB,aB,aB,aB] K:=by
  intro r u hl sl;have W:=(gM hl).1;refine⟨by show 0<=100000;decide,_,J,_,_,J,J,_,J,_,J,⟨by lia,by rw[YY];lia⟩,?_⟩;refine y9 (i9 w _) (λi X B=>∃(o5 L M P:Option SV) (g:U Nat),X=[aA (.loc t),aA (g9 n G),aA (.bl aD),aA (.loc u),aA (.loc K.length),o5,L,M,P]/\g.length=i/\LhI t K.length u r G S B g) ⟨_,_,_,_,[],J,J,T5.push,A.push,A.len,W,sl,f7,f8 hl,λa b _ h=>by simp at h,(λ_ h=>nomatch h)⟩ (λ_ _ _ _=>trivial) ?_ ?_
  ·rintro i x X B E hE _ hx ⟨o5,L,M,P,g,rfl,v,I⟩;have il:=(gM hx).1;obtain⟨rfl,_⟩:=k0 hx;rw[Zd];rw[l7,YY]at il;exact N1 w hd hm I v (by lia) e6 tl λL M P c B I'=>hE _ _ ⟨_,_,_,_,g++[c],J,by rw[Yd,v];rfl,I'⟩
  ·rintro X B ⟨o5,L,M,P,g,rfl,v,I⟩;rw[l7,YY]at v;have v:g.length=G.length:=by lia
   exact⟨_,J,q _ g B I.T I.O I.f0 I.hf (TL v λa b ab bl s=>I.ap a b ab (by lia) s) I.lt⟩
 have z4:z=0\/z=1\/z=2\/z=3:=by lia
 rcases z4 with rfl | rfl | rfl | rfl
 ·exact⟨_,_,c9 p,J,e 0 _ (by rw[y,<-e0];rfl) (by lia)⟩
 ·exact⟨_,_,c9 p,J,e 1 _ (by rw[j,<-e1];rfl) (by lia)⟩
 ·exact⟨_,_,c9 p,J,e 2 _ (by rw[l,<-e2];rfl) (by lia)⟩
 ·exact⟨_,_,c9 p,J,e 3 _ (by rw[H,<-e3];rfl) (by lia)⟩
end
def gr1(a:Nat):Stm:=(.iff (.or (.not (.call a (vB vG vL))) (.or (.cmp .In vU vL) (.not (.bi .isi (vB vL (.tyc .list)))))) [.ret vS] [])
def gr2(a:Nat):Stm:=(.asg (.nm 4) (.max1 (.op .Add (.lst (vA (.call a (vA vG)))) (.comp ["_law_hueing_here"] [] [] (.nm 0) (.seq vI) .no (.op .Add vK (.max1 (.bi .list (vA vG))))))))
def gr3:Stm:=(.iff (.bi .any (vA (.comp ["_law_hue"] ["_law_bound"] [4] (.nm 0) (.seq vL) .no (.cmp .GtE vG vH)))) [.ret vS] [])
def YX:U Stm:=[.asg (.nm 10) (.cmp .Eq (.ix vL (.ix vN (.var 9))) (.ix vL vR)),.iff (.cmp .NotEq (.var 10) (.cmp .Eq (.ix vO (.var 9)) (.ix vO vQ))) [.ret vS] []]
def gr4:Stm:=(.loop (.tup (.cons (.nm 5) (.cons (.nm 6) .nil))) (.zipX vH vI) [.loop (.tup (.cons (.nm 7) (.cons (.nm 8) .nil))) (.enum vN) [.loop (.nm 9) (.rng1 vQ) YX]])
def Qm(a b:Nat):U Stm:=[gr1 a,gr2 b,gr3,gr4,.ret (.c (.bl aC))]
noncomputable def LH(s:Sn):Prop:=∀{n d e f:Nat} {a b:U Nat} {es:EE} {rows hs:U (U Nat)} {cs:U Nat} {S:Sto} {Q:QE},es.length<=60->n<=60->Cls S d a rows->Cls S e b hs->S[f]?=O (.lst (natS cs))->Prp es cs->(∀ u,u<es.length->hu cs u<HM (j8 es n) hs.flatten)->rows.length<=60->hs.length=rows.length->(∀(i:Nat) row c,rows[i]?=O row->hs[i]?=O c->c.length=row.length/\row≠[]/\row.length<=60/\(∀ t∈row,t<es.length)/\∀ x y t u:Nat,row[x]?=O t->row[y]?=O u->(hu cs t=hu cs u↔hu c x=hu c y))->
 (∀ S',Gw S S'->Q (.bl aC) S')->s [g9 n es,.loc d,.loc e,.loc f] S Q
def Vw(b:U Nat):inS .non (natS b)=aD:=by unfold inS;rw[A0S];intro y a;unfold natS at a;obtain⟨c,_,rfl⟩:=Z2.mp a;simp[eqF]
def N3(n:Nat):blS (Yv n (SV.bl aD))=O (Yv n aD):=by
 induction n with
 | zero=>rfl
 | succ n a=>rw[ZO,ZO];unfold blS;rw[a];rfl
def N4(n:Nat):(Yv n aD).any id=aD:=by rw[A0S];intro x a;rw[A12 a];decide
section
variable{Δ:Nat->Sn}
theorem Qn(s:∀ f,MonoN (Δ f)){ki km:Nat}(hi:Jj (Δ ki))(hm:GG (Δ km)){D:Df}(hb:D.body=Qm ki km)(hN:D.N.length=11)(hp:D.ps.length=4):LH (j7 Δ D):=by
 intro n ld lh lf a4 a1 x u L cs S Q e6 n6 C X hf P lt r6 hl ok q;have cl:=P.len;unfold j7;rw[hb,hN];refine⟨hp.symm,_,J,_,J,hi P (by lia) hf ⟨_,J,ifF J ?_⟩⟩;refine⟨_,J,?_⟩;show match Aj (.loc lf) S with | some v=>_ | none=>_
 rw[Aq hf];refine⟨J,_,c9 hf,Au _,_,J,?_⟩;show if inS .non (natS cs)=aC then _ else _
 rw[Vw];refine ifF J ⟨_,J,_,nofun,Pq hf,_,J,ifF J (t9 ?_)⟩;refine⟨_,J,hm (by lia) (by lia) λS1 G1=>⟨by show 1<=100000;decide,?_⟩⟩;have h1:(S1++[SO.lst [SV.int (j8 x n:Nat)]])[S1.length]?=O (SO.lst [SV.int (j8 x n:Nat)]):=f7;have G2:Gw S (S1++[SO.lst [SV.int (j8 x n:Nat)]]):=G1.push;generalize S1.length=k1 at *;generalize S1++[SO.lst [SV.int (j8 x n:Nat)]]=S2 at *;have X2:=X.gw G2;refine⟨_,J,_,c9 X2.top,?_⟩;refine i4 (g8 s _).2 (c8 s _).1 (λi T A=>Gw S2 A/\∃ v:U Int,T=v.map SV.int/\v.length=i/\∀(j:Nat) m c,v[j]?=O m->L[j]?=O c->∀ d∈c,(d:Int)+1<=m) ⟨Gw.refl _,[],J,J,λj m c h=>by simp at h⟩ (λ_ _ A z=>by show A[lh]?=S2[lh]?;rw[X2.top];exact z.1.keep _ _ X2.top) ?_ ?_
 ·rintro i y T A r ⟨G3,v,rfl,ml,V⟩;rw[Yj]at r;cases hk:a1[i]? with
  | none=>rw[hk]at r;cases r
  | some k=>
    rw[hk]at r;cases r;have I:=(gM hk).1;have B:=Ya (show i<L.length by rw[<-X.len];exact I);have hr:=Ya (show i<u.length by rw[<-hl,<-X.len];exact I);have w:=(X2.gw G3).row i k _ hk B;obtain⟨o1,o2,o3,_⟩:=ok i _ _ hr B;generalize L[i]'(by rw[<-X.len];exact I)=c at *;generalize u[i]'(by rw[<-hl,<-X.len];exact I)=row at *
    have rp:0<row.length:=by cases row with
     | nil=>exact absurd J o2
     | cons _ _=>simp
    have xl:=X.len;refine⟨_,J,_,c9 w,_,iN c,J,by rw[C6];exact f7,by unfold iN;rw[YY];lia,λm g=>⟨by rw[YY];show _<100000;lia,G3.push,v++[1+m],by rw[Yo];rfl,by rw[Yd,ml];rfl,λj m' c' hj W d hd=>?_⟩⟩;rcases BL hj with⟨e1,rfl⟩ | hj
    ·rw[e1,ml,B]at W;cases W;have:=g.2 _ (mem_iN.mpr hd)
     lia
    ·exact V j m' c' hj W d hd
 ·rintro T A ⟨G3,v,rfl,ml,V⟩;have ml:v.length=L.length:=by rw[ml,YY];exact X.len
  refine⟨_,_,f8 (G3.keep _ _ h1),f7,by rw[YY];show 1+_<=100000;lia,?_⟩;refine⟨_,((j8 x n:Nat):Int)::v,J,f7,A1O _,λM g=>?_⟩
  have hM:((HM (j8 x n) L.flatten:Nat):Int)<=M:=by
   obtain⟨_,_,h3⟩:=LD (m:=j8 x n) (l:=L.flatten);rcases h3 with e | ⟨h,hh,e⟩
   ·rw[e];exact g.2 _ (Yi ..)
   ·obtain⟨c,B,hd⟩:=A1d.mp hh;obtain⟨j,hj⟩:=Z4 B;have K:=Ya (show j<v.length by rw[ml];exact(gM hj).1);have a:=V j _ c K hj h hd;have b:=g.2 _ (Yh _ (Yb K))
    lia
  have G4:Gw S ((A++[SO.lst (v.map SV.int)])++[SO.lst ([SV.int (j8 x n:Nat)]++v.map SV.int)]):=(G2.trans G3).push.push;generalize (A++[SO.lst (v.map SV.int)])++[SO.lst ([SV.int (j8 x n:Nat)]++v.map SV.int)]=S4 at *;show wSs Δ [gr3,gr4,.ret (.c (.bl aC))] (p8 Q) [O (g9 n x),O (.loc ld),O (.loc lh),O (.loc lf),O (.int M),aB,aB,aB,aB,aB,aB] S4;have a5:=G4.keep _ _ hf;refine⟨_,J,_,c9 a5,?_⟩;refine i4 (g8 s _).2 (c8 s _).1 (λi T A=>A=S4/\T=Yv i (SV.bl aD)) ⟨J,J⟩ (λ_ _ A z=>by rw[z.1];exact J) ?_ ?_
  ·rintro i y T A r ⟨rfl,rfl⟩;obtain⟨c,B,rfl⟩:=v8 r;have I:=(gM B).1;have:=lt i (by lia);rw[Ac B]at this;refine⟨_,J,_,J,by rw[A0o];show _<100000;lia,J,?_⟩;rw[List.replicate_succ'];show _++[SV.bl (decide (M<=(c:Int)))]=_;rw[decide_eq_false (by lia)]
  ·rintro T A ⟨rfl,rfl⟩;refine⟨_,_,nofun,c9 f7,N3 _,_,J,?_⟩;rw[N4];refine ifF J (t9 ?_);have G5:=G4.push (o:=SO.lst (Yv (natS cs).length (SV.bl aD)));generalize A++[SO.lst (Yv (natS cs).length (SV.bl aD))]=S5 at *;have C5:=C.gw G5;have X5:=X.gw G5;have a2:=G5.keep _ _ hf;refine⟨_,J,_,J,_,_,_,J,C5.top,c9 X5.top,by rw[YY,YY,C.len,X.len,hl],?_⟩;refine y9 (i9 s _) (λi G S6=>∃ o5 o6 o7 o8 H p:Option SV,G=[O (g9 n x),O (.loc ld),O (.loc lh),O (.loc lf),O (.int M),o5,o6,o7,o8,H,p]/\S6=S5) ⟨_,_,_,_,_,_,J,J⟩ (λ_ _ S6 z=>by obtain⟨_,_,_,_,_,_,_,z⟩:=z;rw[z];exact⟨J,J⟩) ?_ ?_
   ·rintro i y G S6 E hE _ r ⟨o5,o6,o7,o8,H,p,rfl,rfl⟩;unfold Dn at r;rw[A0b,Yj,Yj]at r;cases hk:a4[i]? with
    | none=>rw[hk]at r;cases r
    | some k=>
      cases hk':a1[i]? with
      | none=>rw[hk,hk']at r;cases r
      | some k'=>
        rw[hk,hk']at r;cases r;have I:=(gM hk').1;have B:=Ya (show i<L.length by rw[<-X.len];exact I);have hr:=Ya (show i<u.length by rw[<-hl,<-X.len];exact I);have w:=C5.row i k _ hk hr;have R:=X5.row i k' _ hk' B;obtain⟨o1,o2,o3,o4,a6⟩:=ok i _ _ hr B;generalize L[i]'(by rw[<-X.len];exact I)=c at *;generalize u[i]'(by rw[<-hl,<-X.len];exact I)=row at *;refine⟨_,J,_,c9 w,?_⟩;refine y9 (i9 s _) (λj G S7=>∃ o7 o8 H p:Option SV,G=[O (g9 n x),O (.loc ld),O (.loc lh),O (.loc lf),O (.int M),O (.loc k),O (.loc k'),o7,o8,H,p]/\S7=S6) ⟨_,_,_,_,J,J⟩ (λ_ _ S7 z=>by obtain⟨_,_,_,_,_,z⟩:=z;rw[z];exact J) ?_ ?_
        ·rintro j y G S7 E' a7 _ r ⟨o7,o8,H,p,rfl,rfl⟩;obtain⟨y2,a8,rfl⟩:=Fz r;obtain⟨t,ht,rfl⟩:=v8 a8;have jl:=(gM ht).1;have tl:=o4 t (Yb ht);refine⟨_,J,_,J,⟨by lia,by lia⟩,?_⟩;refine y9 (i9 s _) (λm G S8=>∃ H p:Option SV,G=[O (g9 n x),O (.loc ld),O (.loc lh),O (.loc lf),O (.int M),O (.loc k),O (.loc k'),O (.int (j:Nat)),O (.int (t:Nat)),H,p]/\S8=S7) ⟨_,_,J,J⟩ (λ_ _ _ _=>trivial) ?_ ?_
         ·rintro m y G S8 a9 a3 _ r ⟨H,p,rfl,rfl⟩;obtain⟨rfl,K⟩:=k0 r;rw[Zd]at K ⊢;have a0:=Ya (show m<row.length by lia);have ul:=o4 _ (Yb a0);have g1:=CS (cs:=cs) (t:=row[m]'(by lia)) (by lia);have g2:=CS (cs:=cs) (t:=t) (by lia);have g3:=CS (cs:=c) (t:=m) (by lia);have g4:=CS (cs:=c) (t:=j) (by lia);have eq:=a6 m j _ t a0 ht;refine⟨_,J,_,J,_,J,_,_,c9 w,j3 (m7 a0),_,_,c9 a2,j3 (m7 g1),_,J,_,J,_,_,c9 a2,j3 (m7 g2),?_⟩;refine⟨_,J,_,J,_,J,_,_,c9 R,j3 (m7 g3),_,J,_,J,_,_,c9 R,j3 (m7 g4),_,J,?_⟩;refine ifF ?_ (t9 (a3 _ _ ⟨_,_,J,J⟩));show(!decide (decide (((hu cs (row[m]'(by lia)):Nat):Int)=((hu cs t:Nat):Int))=decide (((hu c m:Nat):Int)=((hu c j:Nat):Int))))=aD
          rw[show decide (((hu cs (row[m]'(by lia)):Nat):Int)=((hu cs t:Nat):Int))=decide (((hu c m:Nat):Int)=((hu c j:Nat):Int)) by
           rw[Za,dQ,dQ,ZI,ZI];exact eq]
          simp
         ·rintro G S8 ⟨H,p,rfl,rfl⟩;exact t9 (Δ:=Δ) (a7 _ _ ⟨_,_,_,_,J,J⟩)
        ·rintro G S7 ⟨o7,o8,H,p,rfl,rfl⟩;exact t9 (Δ:=Δ) (hE _ _ ⟨_,_,_,_,_,_,J,J⟩)
   ·rintro G S6 ⟨o5,o6,o7,o8,H,p,rfl,rfl⟩;exact q _ G5
end
def lb2(a:Nat):Stm:=(.asg (.nm 2) (.comp ["_law_out"] ["_law_web_here"] [0] (.nm 0) (.rng1 kE) .no (.call a (vB vH vG))))
def Xs:Stm:=(.asg (.nm 7) (.ife (.cmp .NotEq (.ix vM vJ) vO) (.ix vM vJ) (.ix vM vK)))
def Vx:Stm:=(.expr (.mt .append vN (vA (.dget (.ix vI vO) vQ))))
def lb4:Stm:=(.loop (.nm 6) (.rng1 kE) [Xs,Vx])
def lb5:Stm:=(.expr (.mt .append (.setdl vH (.bi .tuple (vA vN)) kD) (vA vL)))
def lb6:Stm:=(.ret (.srtu (.comp ["_law_signs"] ["_law_told"] [1] (.nm 0) (.dtk vH) .no (.dgetl vH vG))))
def UC(a:Nat):U Stm:=[.asg (.nm 1) .dnewl,lb2 a,.loop (.tup (.cons (.nm 3) (.cons (.nm 4) .nil))) (.enum kC) [.asg (.nm 5) kD,lb4,lb5],lb6]
structure RowsB(S:Sto)(n:Nat)(es:EE)(kr:Nat)(ks:List Nat):Prop where
 top:S[kr]?=O (.lst (ks.map SV.loc))
 len:ks.length=n
 row:∀ x k:Nat,ks[x]?=O k->S[k]?=O (.dct (kvL (keysI (x:Nat) n) (Hue.mk n (Hue.off x es))))
def RowsB.keep{S S':Sto}{n a:Nat}{c:EE}{b:U Nat}(R:RowsB S n c a b)(h:∀(k:Nat) (o:SO),(k=a\/k∈b)->S[k]?=aA o->S'[k]?=aA o):RowsB S' n c a b:=
 ⟨h _ _ (.inl rfl) R.top,R.len,λx k e=>h _ _ (.inr (Yb e)) (R.row x k e)⟩
section
variable{Δ:Nat->Sn}
def Vy(c:∀ f,MonoN (Δ f)){u:Nat}(j:Cn (Δ u)){D:EndsS}{b:U Stm}{n:Nat}{d:EE}{S:Sto}{v I w y A B C:Option SV}(H:WebC n d)
 (q:∀(m:Nat) (a:U Nat) (o:Sto),Gw S o->S.length<=m->(∀ k∈a,S.length<=k)->RowsB o n d m a->wSs Δ b D [O (g9 n d),v,O (.loc m),w,y,A,B,C] o):wSs Δ (lb2 u::b) D [O (g9 n d),v,I,w,y,A,B,C] S:=by
 have Q:=H.few;refine⟨_,J,_,_,J,J,_,J,⟨by lia,by lia⟩,?_⟩;refine i4 (g8 c _).2 (c8 c _).1 (λi p S2=>Gw S S2/\∃ a:U Nat,p=a.map SV.loc/\a.length=i/\(∀ k∈a,S.length<=k)/\∀ x k:Nat,a[x]?=O k->S2[k]?=O (.dct (kvL (keysI (x:Nat) n) (Hue.mk n (Hue.off x d))))) ⟨Gw.refl S,[],J,J,(λ_ h=>nomatch h),λx k h=>by simp at h⟩ (λ_ _ _ _=>trivial) ?_ ?_
 ·rintro i x p S2 K ⟨G,a,rfl,g,r,s⟩;obtain⟨rfl,L⟩:=k0 K;rw[Zd]at L ⊢;refine⟨_,J,_,J,j H λl R E l3 M=>⟨by rw[YY];show _<100000;lia,G.trans E,a++[l],by rw[Yo];rfl,by rw[Yd,g];rfl,λk t=>?_,λx k e=>?_⟩⟩
  ·rcases Yz.mp t with z | z
   ·exact r k z
   ·rw[Yt.mp z];exact Z6 G.len l3
  ·rcases BL e with⟨N,P⟩ | e
   ·rw[P,M,N,g,Q6]
   ·exact E.keep _ _ (s x k e)
 ·rintro p S2 ⟨G,a,rfl,g,r,s⟩;rw[l7]at g;exact q _ a _ G.push G.len r ⟨f7,by rw[g];lia,λx k e=>f8 (s x k e)⟩
def TR{n x:Nat}{e:Nat×Nat}(a:e.1<e.2/\e.2<n):Hue.oth e x∈keysI (x:Nat) n:=by unfold Hue.oth;rw[mem_keysI];split<;>constructor<;>lia
def TU{D:EndsS}{n c a x:Nat}{k:U Nat}{b:EE}{e:Nat×Nat}{sg:U Int}{S:Sto}{d f g:Option SV}(o:e.1<e.2/\e.2<n)(p:x<n)(R:RowsB S n b c k)(i:S[a]?=O (.lst (sg.map SV.int)))(r:sg.length<=1000)
 (q:∀(g:Option SV) (j:Sto),On a S j->j[a]?=O (.lst ((sg++[((Hue.sg n b x e:Nat):Int)]).map SV.int))->D.nx [O (g9 n b),d,O (.loc c),f,O (pairS e),O (.loc a),O (.int (x:Nat)),g] j):wSs Δ [Xs,Vx] D [O (g9 n b),d,O (.loc c),f,O (pairS e),O (.loc a),O (.int (x:Nat)),g] S:=by
 have l:=Ya (show x<k.length by rw[R.len];exact p)
 have m:∀ z:Int,z=(Hue.oth e x:Nat)->wSs Δ [Vx] D [O (g9 n b),d,O (.loc c),f,O (pairS e),O (.loc a),O (.int (x:Nat)),O (.int z)] S:=by
  rintro _ rfl;refine⟨_,J,⟨_,_,J,i⟩,_,J,_,J,_,_,c9 R.top,j3 (by rw[Yj,l];rfl),_,J,_,_,_,GD (R.row x _ l),J,GE (TR o),_,i,by rw[YY];show _<100000;lia,?_⟩;refine q _ _ (On.refl _ _).tape ?_;rw[m8 i,Yo];rfl
 refine⟨_,J,_,_,J,J,_,J,_,J,?_⟩;show if (!decide ((e.1:Int)=((x:Nat):Int)))=aC then _ else _
 by_cases h:e.1=x
 ·exact ifF (by rw[h];simp) ⟨_,J,_,_,J,J,m _ (by unfold Hue.oth;rw[iP h])⟩
 ·exact ifT (by simpa using λz=>h (ZI.mp z)) ⟨_,J,_,_,J,J,m _ (by unfold Hue.oth;rw[iG h])⟩
def Vz(hΔ:∀ f,MonoN (Δ f)){D:EndsS}{rest:U Stm}{n kr l5:Nat}{ks:U Nat}{es:EE}{e:Nat×Nat}{S:Sto}{o1 o3 o6 o7:Option SV}(he:e.1<e.2/\e.2<n)(hn:n<=100)(R:RowsB S n es kr ks)(h5:S[l5]?=aA (.lst []))(n5:l5≠kr)(n5':l5∉ks)
 (q:∀(o6 o7:Option SV) (S':Sto),On l5 S S'->S'[l5]?=aA (.lst (((Ye n).map λx=>((Hue.sg n es x e:Nat):Int)).map SV.int))->wSs Δ rest D [aA (g9 n es),o1,aA (.loc kr),o3,aA (pairS e),aA (.loc l5),o6,o7] S'):wSs Δ (lb4::rest) D [aA (g9 n es),o1,aA (.loc kr),o3,aA (pairS e),aA (.loc l5),o6,o7] S:=by
 refine⟨_,J,_,_,J,J,_,J,⟨by lia,by lia⟩,?_⟩;refine n4 (i9 hΔ _) (λx ρ S'=>∃ o6 o7:Option SV,ρ=[aA (g9 n es),o1,aA (.loc kr),o3,aA (pairS e),aA (.loc l5),o6,o7]/\On l5 S S'/\S'[l5]?=aA (.lst (((Ye x).map λx=>((Hue.sg n es x e:Nat):Int)).map SV.int))) ⟨o6,o7,J,On.refl _ _,h5⟩ (λ_ _ _ _=>trivial) ?_ ?_
 ·rintro x y ρ S' hy ⟨o6,o7,rfl,O,hs⟩;obtain⟨rfl,hx⟩:=k0 hy;rw[Zd]at hx ⊢;have hx:x<n:=by lia
  have R':=R.keep (S':=S') λk o hk z=>O.keep k o (λw=>by rcases hk with hk | hk;exact n5 (w▸hk);exact n5' (w▸hk)) z;exact TU he hx R' hs (by rw[YY,Z0];lia) λo7 S2 O2 h2=>⟨_,_,J,O.trans O2,by rw[h2,ZV,Yo (l₂:=[x])];rfl⟩
 ·rintro ρ S' ⟨o6,o7,rfl,O,hs⟩;rw[l7,show((n:Int) - 0).toNat=n by lia]at hs;exact q _ _ S' O hs
structure Told(S:Sto)(kt b0 n:Nat)(es:EE)(M:Nat->Nat)(i:Nat)(ls:List Nat):Prop where
 top:S[kt]?=O (.dtl (kvZ (keyL n es) (rootsL M i) ls))
 len:ls.length=(rootsL M i).length
 row:∀ j l f:Nat,ls[j]?=O l->(rootsL M i)[j]?=O f->S[l]?=O (.lst (natS (clsF M i f)))
 up:ls.Pairwise (·<·)
 new:∀ l∈ls,b0<=l/\l<S.length
theorem W0{D:EndsS}{n e kr b0 C i:Nat}{d:EE}{M:Nat->Nat}{ls:U Nat}{S:Sto}{W X o4 o6 o7:Option SV}(L:Lst d.length M (keyL n d))(E:i<d.length)(a0:d.length<=1000)(T:Told S e b0 n d M i ls)(h5:S[C]?=O (.lst ((keyL n d i).map SV.int)))(n5:C∉ls)(kb:e<b0)(bl:b0<=S.length)
 (q:∀(ls:U Nat) (G:Sto),S.length<=G.length->(∀(k:Nat) (o:SO),k<b0->k≠e->S[k]?=O o->G[k]?=O o)->Told G e b0 n d M (i+1) ls->D.nx [W,O (.loc e),X,O (.int (i:Nat)),o4,O (.loc C),o6,o7] G):wSs Δ [lb5] D [W,O (.loc e),X,O (.int (i:Nat)),o4,O (.loc C),o6,o7] S:=by
 have rl:(rootsL M i).length<=i:=u7 _ _;have kl:=TF (k:=keyL n d) (fs:=rootsL M i) (ls:=ls);refine⟨_,J,_,_,J,T.top,_,J,_,c9 h5,by show 0<=100000;decide,keyL n d i,_,J,f8 T.top,by show _<100000;lia,λw H=>?_,λy=>?_⟩
 ·by_cases A:M i=i
  ·obtain⟨_,no,_⟩:=L.new E A;rw[QN no]at H;cases H
  ·obtain⟨g,r,P,Q,I,c2⟩:=L.old E A;obtain⟨j,m⟩:=Z4 r;have K:=(gM m).1;have p:=Ya (show j<ls.length by rw[T.len];exact K);generalize ls[j]'(by rw[T.len];exact K)=l at p;rw[GL m p P Q (AV M i)]at H;cases H;have s:=T.row j l _ p m;have cl:(clsF M i (M i)).length<=i:=u7 _ _;have ln:=T.new l (Yb p);refine⟨⟨_,_,J,f8 s⟩,_,J,_,f8 s,by rw[g0];show _<100000;lia,?_⟩;have v:∀(k:Nat) (o:SO),k≠l->S[k]?=O o->((S++[SO.lst []]).set l (.lst (natS (clsF M i (M i))++[.int (i:Nat)])))[k]?=O o:=λk o t h=>by rw[v7 (Ne.symm t)];exact f8 h
   refine q ls _ (by rw[ZH,Yd];lia) (λk o R _ h=>v k o (by lia) h) ⟨?_,by rw[g];exact T.len,λN f x a b=>?_,T.up,λf c=>?_⟩
   ·rw[g];exact v _ _ (by lia) T.top
   ·rw[g]at b;by_cases u:N=j
    ·subst u;rw[p]at a;cases a;rw[m]at b;cases b;rw[m8 (f8 s),I,t5];rfl
    ·have t:f≠l:=λz=>u (by
      subst z;have nd:ls.Nodup:=T.up.imp λh=>Ys h;exact(A04 (gM a).1 nd).mp (a.trans p.symm))
     have nf:x≠M i:=λz=>u (by
      subst z;exact(A04 (gM b).1 (AV M i)).mp (b.trans m.symm))
     rw[c2 x (Yb b) nf];exact v _ _ t (T.row N f x a b)
   ·rw[ZH,Yd];have:=T.new f c;exact⟨this.1,by lia⟩
 ·by_cases A:M i=i
  ·obtain⟨g,no,c0,I⟩:=L.new E A;have B:e≠S.length:=by lia
   have V:((S++[SO.lst []]).set e (.dtl (kvZ (keyL n d) (rootsL M i) ls++[(keyL n d i,.loc S.length)])))[S.length]?=O (.lst []):=by rw[v7 B];exact f7
   refine⟨⟨_,_,J,V⟩,_,J,_,V,by show 0<100000;decide,?_⟩
   have v:∀(k:Nat) (o:SO),k≠e->S[k]?=O o->(((S++[SO.lst []]).set e (.dtl (kvZ (keyL n d) (rootsL M i) ls++[(keyL n d i,.loc S.length)]))).set S.length (.lst ([]++[.int (i:Nat)])))[k]?=O o:=λk o t h=>by
    have:=(gM h).1;rw[v7 (by lia),v7 (Ne.symm t)];exact f8 h
   refine q (ls++[S.length]) _ (by rw[ZH,ZH,Yd];lia) (λk o R t h=>v k o t h) ⟨?_,by rw[g,Yd,Yd,T.len];rfl,λN f x a b=>?_,?_,λf c=>?_⟩
   ·rw[v7 (Ne.symm B),m8 (f8 T.top),g,QO T.len.symm]
   ·rw[g]at b;rcases BL a with⟨ea,rfl⟩ | a
    ·rcases BL b with⟨_,rfl⟩ | b
     ·rw[m8 V,c0];rfl
     ·have:=(gM b).1;have:=T.len
      lia
    ·rcases BL b with⟨eb,_⟩ | b
     ·have:=(gM a).1;have:=T.len
      lia
     ·rw[I x (Yb b)];have:=T.new f (Yb a);exact v _ _ (by lia) (T.row N f x a b)
   ·rw[A0G];exact⟨T.up,by simp,λa ha b hb=>by rw[Yt.mp hb];exact(T.new a ha).2⟩
   ·rw[ZH,ZH,Yd,ZS];rcases Yz.mp c with c | c
    ·have:=T.new f c
     lia
    ·rw[Yt.mp c];lia
  ·obtain⟨g,r,P,Q,I,c2⟩:=L.old E A;obtain⟨j,m⟩:=Z4 r;have K:=(gM m).1;have p:=Ya (show j<ls.length by rw[T.len];exact K);rw[GL m p P Q (AV M i)]at y;cases y
end
def TV{k:Nat->U Int}:∀{fs a:U Nat} {j:Nat} {p:U Int×SV},(kvZ k fs a)[j]?=O p->∃ f l,fs[j]?=O f/\a[j]?=O l/\p=(k f,.loc l):=by intro fs a j p h;unfold kvZ at h;rw[Yj]at h;obtain⟨⟨f,l⟩,b,rfl⟩:=Zh.mp h;rw[List.getElem?_zip_eq_some]at b;exact⟨f,l,b.1,b.2,J⟩
def Told.stay{S c:Sto}{e b0 n i:Nat}{g:EE}{M:Nat->Nat}{m:U Nat}(T:Told S e b0 n g M i m)(p:S.length<=c.length)(h:∀(k:Nat) (o:SO),k<S.length->S[k]?=aA o->c[k]?=aA o):Told c e b0 n g M i m:=
 ⟨h _ _ (gM T.top).1 T.top,T.len,λj l f a b=>h _ _ (T.new l (Yb a)).2 (T.row j l f a b),T.up,λl d=>let ⟨a,b⟩:=T.new l d;⟨a,Z8 b p⟩⟩
section
variable{Δ:Nat->Sn}
def W3(hΔ:∀ f,MonoN (Δ f)){n kt b0 E:Nat}{es:EE}{M:Nat->Nat}{ls:U Nat}{S:Sto}{Q:QE}{o0 o2 o3 o4 o5 o6 o7:Option SV}(L:Lst E M (keyL n es))(hE:E<=1000)(T:Told S kt b0 n es M E ls)(kb:kt<b0)
 (q:∀(l:Nat) (S':Sto),(∀(k:Nat) (o:SO),k≠kt->S[k]?=O o->S'[k]?=O o)->S.length<=S'.length->S.length<=l->S'[l]?=O (.lst (ls.map SV.loc))->Q (.loc l) S'):wSs Δ [lb6] (p8 Q) [o0,O (.loc kt),o2,o3,o4,o5,o6,o7] S:=by
 have fl:(rootsL M E).length<=E:=u7 _ _;refine⟨_,J,_,_,J,T.top,λo us=>?_⟩;have h2:(S.set kt (.dtf o us (kvZ (keyL n es) (rootsL M E) ls)))[kt]?=O (.dtf o us (kvZ (keyL n es) (rootsL M E) ls)):=m8 T.top;have k2:∀(k:Nat) (u:SO),k≠kt->S[k]?=O u->(S.set kt (.dtf o us (kvZ (keyL n es) (rootsL M E) ls)))[k]?=O u:=λk u ne h=>by rw[v7 (Ne.symm ne)];exact h
 have l2:(S.set kt (.dtf o us (kvZ (keyL n es) (rootsL M E) ls))).length=S.length:=ZH ..;generalize S.set kt (.dtf o us (kvZ (keyL n es) (rootsL M E) ls))=S2 at *
 have low:∀ f∈rootsL M E,f<E/\M f=f:=λf hf=>by
  unfold rootsL at hf;rw[Yu,Yr,dQ]at hf;exact hf
 refine i4 (g8 hΔ _).2 (c8 hΔ _).1 (λj ys S3=>S3=S2/\ys=(ls.take j).map SV.loc) ⟨J,J⟩ (λ_ _ _ h=>by rw[h.1];exact h2) ?_ ?_
 ·rintro j x ys S3 hx ⟨rfl,rfl⟩;rw[Yj]at hx;obtain⟨p,hp,rfl⟩:=Zh.mp hx;obtain⟨f,l,hf,hl,rfl⟩:=TV hp;have hjl:=(gM hl).1;have lf:=low f (Yb hf);refine⟨_,J,_,J,_,_,keyL n es f,_,J,.inr ⟨_,_,h2⟩,J,GL hf hl J (λf' hf' z=>?_) (AV M E),by rw[YY,ZG];show _<100000;have:=T.len;lia,J,?_⟩
  ·have lf':=low f' hf';have:=(L.key f' f lf'.1 lf.1).mp z;rw[<-lf.2,<-lf'.2,this]
  ·rw[ZA,hl,Yo];rfl
 ·rintro ys S3 ⟨rfl,rfl⟩
  have e:(A1L (λp:U Int×SV=>SV.tup (p.1.map SV.int)) (kvZ (keyL n es) (rootsL M E) ls)).length=ls.length:=by
   unfold kvZ;rw[YY,YY,A1Y,T.len];lia
  rw[e,Z1];refine⟨_,ls,λi=>(((rootsL M E).getD i 0:Nat):Int),λi=>natS ((clsF M E ((rootsL M E).getD i 0)).drop 1),J,f7,λi l hl=>?_,λi j hij hj=>?_,?_⟩
  ·have hi:=(gM hl).1;have hf:=Ya (show i<(rootsL M E).length by rw[<-T.len];exact hi);have hg:(rootsL M E).getD i 0=(rootsL M E)[i]'(by rw[<-T.len];exact hi):=by rw[Yg,hf];rfl
   show(S3++[SO.lst (ls.map SV.loc)])[l]?=O (.lst (.int (((rootsL M E).getD i 0:Nat):Int)::natS ((clsF M E ((rootsL M E).getD i 0)).drop 1)));rw[hg];generalize (rootsL M E)[i]'(by rw[<-T.len];exact hi)=f at *;have row:=T.row i l f hl hf;obtain⟨r,hr⟩:=L.head (Ym _) (Yb hf);have ln:=T.new l (Yb hl);rw[f8 (k2 l _ (by lia) row),hr];rfl
  ·have hj':j<(rootsL M E).length:=by rw[<-T.len];exact hj
   have g1:(rootsL M E).getD i 0=(rootsL M E)[i]'(by lia):=by rw[Yg,Ya (show i<(rootsL M E).length by lia)];rfl
   have g2:(rootsL M E).getD j 0=(rootsL M E)[j]'hj':=by rw[Yg,Ya hj'];rfl
   show(((rootsL M E).getD i 0:Nat):Int)<(((rootsL M E).getD j 0:Nat):Int);rw[g1,g2];exact Int.ofNat_lt.mpr (A0Q.mp (QP M E) i j (by lia) hj' hij)
  ·exact q _ _ (λk u ne h=>f8 (f8 (k2 k u ne h))) (by rw[Yd,Yd,l2];lia) (by rw[Yd,l2];lia) f7
def II(s:Sn):Prop:=∀{n:Nat} {es:EE} {S:Sto} {Q:QE},WebC n es->(∀(l:Nat) (ls:U Nat) (S':Sto),Gw S S'->Cls S' l ls (t7 n es)->S.length<=l->(∀ k∈ls,S.length<=k)->Q (.loc l) S')->s [g9 n es] S Q
def N5(g:∀ f,MonoN (Δ f)){r:Nat}(I:Cn (Δ r)){D:Df}(hb:D.body=UC r)(hN:D.N.length=8)(hp:D.ps.length=1):II (j7 Δ D):=by
 intro n d S Q H q;have K:=H.few;have a2:=H.len;have L:=L0 H.en;unfold t7 at q;generalize Hue.mk d.length (cpA n d n)=M at *;unfold j7;rw[hb,hN];refine⟨hp.symm,?_⟩;show wSs Δ [lb2 r,.loop (.tup (.cons (.nm 3) (.cons (.nm 4) .nil))) (.enum kC) [.asg (.nm 5) kD,lb4,lb5],lb6] (p8 Q) [O (g9 n d),O (.loc S.length),aB,aB,aB,aB,aB,aB] (S++[.dtl []]);refine Vy g I H λkr ks S2 P V t R=>?_;have u:S2[S.length]?=O (.dtl []):=P.keep _ _ f7;have a3:=(gM u).1;have a4:=(gM R.top).1;rw[Yd,ZS]at V t
 have v:∀ k∈ks,k<S2.length:=λk s=>by
  obtain⟨x,W⟩:=Z4 s;exact(gM (R.row x k W)).1
 refine⟨_,J,_,_,J,J,_,J,?_⟩
 refine n4 (i9 g _) (λi X p=>∃(o3 o4 o5 B C:Option SV) (w:U Nat),X=[O (g9 n d),O (.loc S.length),O (.loc kr),o3,o4,o5,B,C]/\S2.length<=p.length/\(∀(k:Nat) (o:SO),k<S2.length->k≠S.length->S2[k]?=O o->p[k]?=O o)/\Told p S.length S2.length n d M i w)
  ⟨aB,aB,aB,aB,aB,[],J,Ym _,λ_ _ _ _ h=>h,⟨u,J,λj l f h=>by simp at h,.nil,λ_ h=>nomatch h⟩⟩ (λ_ _ _ _=>trivial) ?_ ?_
 ·rintro i x X p W ⟨o3,o4,o5,B,C,w,rfl,sl,E,T⟩;obtain⟨y,hy,rfl⟩:=Fz W;obtain⟨e,he,rfl⟩:=A8 hy;have hi:=(gM he).1;have a0:=H.en e (Yb he);refine⟨by show 0<=100000;decide,?_⟩;have RB:RowsB (p++[SO.lst []]) n d kr ks:=R.keep λk o s h=>f8 (E k o (s.elim (λz=>by lia) λz=>v k z) (s.elim (λz=>by lia) λz=>by have:=t k z;lia) h);refine Vz g a0 K RB f7 (by lia) (λz=>by have:=v _ z;lia) λB C S4 G h4=>?_;have T4:Told S4 S.length S2.length n d M i w:=T.stay (by have:=G.len;rw[Yd]at this;lia) λk o kl h=>G.keep k o (Ys kl) (f8 h);have l4:p.length<S4.length:=by have:=G.len;rw[Yd,ZS]at this;lia
  have ek:keyL n d i=(Ye n).map λx=>((Hue.sg n d x e:Nat):Int):=by
   unfold keyL;rw[Yg,he];rfl
  rw[<-ek]at h4;refine W0 (kr:=kr) L hi (by lia) T4 h4 (λz=>by have:=T.new _ z;lia) (by lia) (by lia) λa1 S5 A m T5=>?_;exact⟨_,_,_,_,_,a1,J,by lia,λk o r ne h=>m k o r ne (G.keep k o (by lia) (f8 (E k o r ne h))),T5⟩
 ·rintro X p ⟨o3,o4,o5,B,C,w,rfl,sl,E,T⟩;rw[Km,YY]at T;refine W3 g L (by lia) T (by lia) λl S5 m A l5 h5=>?_;refine q l w S5 ⟨?_,λk o h=>?_⟩ ⟨h5,by rw[T.len,show(B7 M d.length).length=(rootsL M d.length).length from YY ..],λj k c a b=>?_⟩ (by lia) λk s=>by have:=T.new k s;lia
  ·have:=P.len;rw[Yd]at this
   lia
  ·have kl:=(gM h).1;exact m k o (by lia) (E k o (by lia) (by lia) (P.keep _ _ (f8 h)))
  ·have kn:=T.new k (Yb a);unfold B7 at b;rw[Yj]at b;obtain⟨f,hf,rfl⟩:=Zh.mp b;exact m k _ (by lia) (T.row j k f a hf)
end
theorem ET{f g:SV->Option PyData}:∀{a:U SV},(∀ y∈a,f y=g y)->a.mapM f=a.mapM g
 | [],_=>rfl
 | x::a,h=>by rw[A0B,A0B,h x (Yi ..),ET λy b=>h y (Yh _ b)]
def W4{S d:Sto}{k b:Nat}{x:SV}(h:Gd (VS S) k b x)(G:Gw S d):∀ m,Ab m d x=Ab m S x:=by
 induction h with
 | non=>intro m;cases m<;>rfl
 | bl c=>intro m;cases m<;>rfl
 | int h=>intro m;cases m<;>rfl
 | str h j=>intro m;cases m<;>rfl
 | tup _ _ _ e=>
   intro m;cases m with
   | zero=>rfl
   | succ m=>
     show(A1c (Ab m d) _).map _=(A1c (Ab m S) _).map _;rw[ET λy f=>e y f m]
 | @lst k b c l a i _ _ _ e=>
   intro m;cases m with
   | zero=>rfl
   | succ m=>
     have g:S[l]?=O (SO.lst a):=i;show(match d[l]? with | some (SO.lst a)=>(a.mapM (Ab m d)).map PyData.list | _=>aB)=(match S[l]? with | some (SO.lst a)=>(a.mapM (Ab m S)).map PyData.list | _=>aB)
     rw[g,G.keep _ _ g];show(A1c (Ab m d) a).map _=(A1c (Ab m S) a).map _;rw[ET λy f=>e y f m]
structure RowH(es:EE)(row c:List Nat):Prop where
 len:c.length=row.length
 P:Prp (amg es row) c
 lt:∀ h∈c,h<200
def Xu{S:Sto}{y:SV}{c:U Nat}(h:Hn S y c)(e:∀ h∈c,h<200)(f:c.length<=60):Gd (VS S) 1 1000 y:=by
 have a:∀ y∈natS c,Gd (VS S) 0 10 y:=λy b=>by
  unfold natS at b;obtain⟨d,g,rfl⟩:=Z2.mp b;have:=e d g;exact .int ⟨by lia,by lia⟩
 have i:(natS c).length<=60:=by rw[g0];exact f
 rcases h with rfl | ⟨k,rfl,h⟩
 ·exact .tup a (by lia) (by lia)
 ·exact .lst (xs:=natS c) h a (by lia) (by lia)
def W5{S:Sto}{x:SV}{a:U SV}{b:U (U Nat)}(X:Hdd S x a b)(e:∀ c∈b,(∀ h∈c,h<200)/\c.length<=60)(f:b.length<=60):Gd (VS S) 2 100000 x:=by
 have d:∀ y∈a,Gd (VS S) 1 1000 y:=λy g=>by
  obtain⟨i,j⟩:=Z4 g;obtain⟨c,l,m⟩:=X.get j;have:=e c (Yb l);exact Xu m this.1 this.2
 have n:a.length<=60:=by rw[X.len];exact f
 rcases X.top with rfl | ⟨k,rfl,h⟩
 ·exact .tup d (by lia) (by lia)
 ·exact .lst (xs:=a) h d (by lia) (by lia)
def TW{a:U Nat}(h:∀ c∈a,c<1000):B8 a=natS a:=by unfold B8 natS;exact Zw λc b=>GM (h c b)
def Qo{c:EE}{b:U Nat}{x t p:Nat}(h:b[x]?=O t)(a:AtP c t p):AtP (amg c b) x p:=by obtain⟨e,d,f⟩:=a;refine⟨e,?_,f⟩;unfold amg;rw[Yj,h];have:=B2 (gM d).1;rw[d]at this;exact this.symm
def GP{n:Nat}{b:EE}(B:Hue.Blks n b (t7 n b))(d:b.length<=60){a:U Nat}(h:a∈t7 n b):a.length<=60:=by
 have:=List.Nodup.length_le_of_subset ((B.up a h).imp Ys) (l₂:=Ye b.length) λt c=>Yr.mpr (B.lt a h t c);rw[Z0]at this
 lia
def GQ{n:Nat}{a:EE}(b:a.length<=60):(t7 n a).length<=60:=by
 unfold t7 B7;rw[YY];have:(rootsL (Hue.mk a.length (cpA n a n)) a.length).length<=a.length:=u7 _ _
 lia
def TX{n:Nat}{a:EE}:j8 a n<=a.length:=by
 rcases EG a n with e | ⟨p,_,e⟩
 ·lia
 ·rw[e];exact u7 _ _
def UD{n:Nat}{es:EE}{hs:U (U Nat)}(f:∀ e∈es,e.1<e.2/\e.2<n)(D:es.length<=60)(len:hs.length=(t7 n es).length)(R:∀(i:Nat) a c,(t7 n es)[i]?=O a->hs[i]?=O c->RowH es a c):GH n (HM (j8 es n) hs.flatten) es (t7 n es) hs:=by
 obtain⟨s,v,w⟩:=LD (m:=j8 es n) (l:=hs.flatten);have B:=Hue.blks_of f;have E:j8 es n<=es.length:=TX;refine⟨B,len,λi a c d b=>(R i a c d b).len,λi a c d b x y t u p q g z k e=>?_,λc b h o=>?_,?_,λp A=>Z6 (EF es A) s⟩
 ·have P:=(R i a c d b).P;have:=P.one x y p (Qo q z) (Qo g k) e;subst this;rw[q]at g;exact oj g
 ·exact A0T (v h (A1d.mpr ⟨c,b,o⟩))
 ·rcases w with e | ⟨h,o,e⟩
  ·lia
  ·obtain⟨c,b,C⟩:=A1d.mp o;obtain⟨j,r⟩:=Z4 b;have d:=Ya (show j<(t7 n es).length by rw[<-len];exact(gM r).1);have:=(R j _ c d r).lt h C
   lia
def IJ{n:Nat}{a:EE}{b:U (U Nat)}(G:GH n (HM (j8 a n) b.flatten) a (t7 n a) b):Prp a (BY n a b)/\(∀ u,u<a.length->hu (BY n a b) u<HM (j8 a n) b.flatten)/\B8 (BY n a b)=natS (BY n a b)/\∀(i:Nat) d h,(t7 n a)[i]?=O d->b[i]?=O h->∀ x y t u:Nat,d[x]?=O t->d[y]?=O u->(hu (BY n a b) t=hu (BY n a b) u↔hu h x=hu h y):=by
 obtain⟨P,j,f⟩:=TJ G;refine⟨P,j,TW λc k=>?_,f⟩;obtain⟨u,g⟩:=Z4 k;have l:u<a.length:=by have m:=(gM g).1;have o:=P.len;unfold BY at m;lia
 have:=j u l;have p:=G.H9;have e:hu (DL (HM (j8 a n) b.flatten) a (t7 n a) b (BW a.length) (ordA a (t7 n a))) u=c:=Ac g
 lia
end Rf
namespace Hue
open PySem L2 Rf
def Ld:Stm:=(.asg (.nm 4) (.call 31 (vA vL)))
def Le:Stm:=(.asg (.nm 5) kD)
def Lf:Stm:=(.loop (.nm 6) (.seq vM) [.asg (.nm 7) (.bi .tuple (vA (.comp ["_law_tie"] ["_law_web_here"] [3] (.nm 0) (.seq vO) .no (.ix (.ix vH vK) vG)))),.expr (.mt .append vN (vA (.call 25 (vC vI (.tup (vB (.ix vL vJ) vQ)) vS))))])
def Lg:Stm:=(.asg (.nm 8) kD)
def Lh:Stm:=(.loop (.nm 9) (.seq vN) [.expr (.mt .append vR (vA (.ife (.cmp .Eq (.call 18 (vB vI vT)) vJ) (.bi .tuple (vA (.var 9))) (.bi .list (vA (.var 9))))))])
def Li:Stm:=(.iff (.cmp .Eq (.call 18 (vB vI vT)) vJ) [.asg (.nm 8) (.bi .tuple (vA vR))] [])
def Lj:Stm:=(.asg (.nm 10) (.bi .str (vA vR)))
def Lk:Stm:=(.asg (.nm 11) (.call 16 (vB vL vR)))
def Ll:Stm:=(.iff (.or (.cmp .NotEq (.bi .str (vA vR)) (.var 10)) (.not (.call 32 (vD vL vM vN (.var 11))))) [.ret vS] [])
def Lm:Stm:=(.asg (.nm 12) (.bi .list (vA (.var 11))))
def Ln:Stm:=(.expr (.mt .append (.var 11) (vA vU)))
def Lo:Stm:=(.iff (.cmp .NotEq (.call 16 (vB vL vR)) (.var 12)) [.ret vS] [])
def top(i:Nat):A2V:=PySem.Challenge.pw_huedties_k70_glued.main.body.getD i (.Pass ⟨0,0,0,0⟩)
def b0:U Stm:=Pt
def d0:Df:=⟨"is_number",top 5,["thing"],["thing"],b0⟩
def b1:U Stm:=FL 0
def d1:Df:=⟨"has_place",top 7,["web","place"],["web","place"],b1⟩
def b2:U Stm:=Kj 0
def d2:Df:=⟨"has_tie",top 8,["web","tie"],["web","tie"],b2⟩
def b3:U Stm:=Fx 1
def d3:Df:=⟨"check_place",top 9,["web","place"],["web","place"],b3⟩
def b4:U Stm:=Fx 2
def d4:Df:=⟨"check_tie",top 10,["web","tie"],["web","tie"],b4⟩
def b5:U Stm:=Kk 3
def d5:Df:=⟨"ties_at",top 11,["web","place"],["web","place"],b5⟩
def b6:U Stm:=U8
def d6:Df:=⟨"most_at",top 12,["web"],["web","counts","one","other"],b6⟩
def b7:U Stm:=Kl 4
def d7:Df:=⟨"far_end",top 13,["web","tie","place"],["web","tie","place","one","other"],b7⟩
def b8:U Stm:=Pv
def d8:Df:=⟨"parts",top 14,["web"],["web","least","one","other","low","high"],b8⟩
def b9:U Stm:=U4 4
def d9:Df:=⟨"only",top 15,["web","ties"],["web","ties","tie"],b9⟩
def b10:U Stm:=Hy 5 9
def d10:Df:=⟨"without",top 17,["web","place"],["web","place","around"],b10⟩
def b11:U Stm:=Xn 5 7 8 10
def d11:Df:=⟨"couples_by_rings",top 18,["web","place"],["web","place","couples","part","ties"],b11⟩
def b12:U Stm:=Ky 11 8
def d12:Df:=⟨"blocks",top 19,["web"],["web","couples"],b12⟩
def b13:U Stm:=LA
def d13:Df:=⟨"places_of",top 21,["web","ties"],["web","ties"],b13⟩
def b14:U Stm:=Qa 13
def d14:Df:=⟨"glue_order",top 22,["web","rows"],["web","rows","told","seen","left","touching","at","joint","place"],b14⟩
def b15:U Stm:=Qd
def d15:Df:=⟨"names_for",top 23,["block","hueing","around","pool"],["block","hueing","around","pool","here","others"],b15⟩
def b16:U Stm:=Qg 12 6 14 5 15
def d16:Df:=⟨"glued",top 24,["web","hueings"],["web","hueings","rows","hues","told","at","joint","around","taken","pool","names","tie","hue"],b16⟩
def b17:U Stm:=U0
def d17:Df:=⟨"_law_tape",top 26,["_law_script","_law_k"],["_law_script","_law_k","_law_cell","_law_digits"],b17⟩
noncomputable def b18:U Stm:=U1
noncomputable def d18:Df:=⟨"_law_draw",top 27,["_law_tape_here","_law_many"],["_law_tape_here","_law_many","_law_found","_law_once"],b18⟩
def b19:U Stm:=Ps 18
def d19:Df:=⟨"_law_pairs_by",top 28,["_law_tape_here","_law_great"],["_law_tape_here","_law_great","_law_way","_law_many","_law_found","_law_turn","_law_one","_law_k","_law_sides"],b19⟩
def b20:U Stm:=Xl 18 19
def d20:Df:=⟨"_law_web",top 29,["_law_tape_here","_law_great"],["_law_tape_here","_law_great","_law_many","_law_pairs","_law_ties","_law_one","_law_other"],b20⟩
def b21:U Stm:=UA
def d21:Df:=⟨"_law_meet",top 30,["_law_web_here","_law_one","_law_other"],["_law_web_here","_law_one","_law_other"],b21⟩
def b22:U Stm:=Ku
def d22:Df:=⟨"_law_count",top 31,["_law_web_here","_law_place"],["_law_web_here","_law_place"],b22⟩
def b23:U Stm:=LG "_law_web_here" 22
def d23:Df:=⟨"_law_most",top 32,["_law_web_here"],["_law_web_here"],b23⟩
def b24:U Stm:=QR 21
def d24:Df:=⟨"_law_is_hueing",top 33,["_law_web_here","_law_row"],["_law_web_here","_law_row","_law_tie","_law_hue","_law_k"],b24⟩
noncomputable def b25:U Stm:=UB 18 21
noncomputable def d25:Df:=⟨"_law_hueing",top 34,["_law_tape_here","_law_web_here","_law_bare"],["_law_tape_here","_law_web_here","_law_bare","_law_some","_law_found","_law_tie","_law_taken","_law_free","_law_hue"],b25⟩
def b26:U Stm:=U6 18 20
def d26:Df:=⟨"_law_some_web",top 35,["_law_tape_here"],["_law_tape_here"],b26⟩
def b27:U Stm:=Ks 18
def d27:Df:=⟨"_law_joined",top 36,["_law_tape_here","_law_one","_law_other"],["_law_tape_here","_law_one","_law_other","_law_at","_law_spot","_law_names","_law_ties","_law_pair","_law_here"],b27⟩
def b28:U Stm:=QD 18
def d28:Df:=⟨"_law_rings",top 37,["_law_tape_here"],["_law_tape_here","_law_ties","_law_last","_law_turn","_law_more","_law_row","_law_pair"],b28⟩
def b29:U Stm:=EJ 18 20 27 28
def d29:Df:=⟨"_law_joined_web",top 38,["_law_tape_here"],["_law_tape_here","_law_web_here","_law_turn","_law_more"],b29⟩
def b30:U Stm:=Kp
def d30:Df:=⟨"_law_beside_out",top 39,["_law_web_here","_law_out"],["_law_web_here","_law_out","_law_marks","_law_turn","_law_one","_law_other","_law_low"],b30⟩
def b31:U Stm:=UC 30
def d31:Df:=⟨"_law_blocks",top 40,["_law_web_here"],["_law_web_here","_law_told","_law_rows","_law_tie","_law_pair","_law_signs","_law_out","_law_end"],b31⟩
def b32:U Stm:=Qm 24 23
def d32:Df:=⟨"_law_glue_right",top 41,["_law_web_here","_law_rows","_law_hueings","_law_found"],["_law_web_here","_law_rows","_law_hueings","_law_found","_law_bound","_law_row","_law_hueing_here","_law_at","_law_tie","_law_k","_law_same"],b32⟩
noncomputable def b33:U Stm:=[.loop (.nm 1) (.rng1 (.bi .max (vB vT (.bi .min (vB (.bi .len (vA vG)) vP))))) [.asg (.nm 2) (.call 17 (vB vG vH)),.asg (.nm 3) (.call 29 (vA vI)),.iff (.cmp .Eq (.call 18 (vB vI vP)) vJ) [.asg (.nm 3) (.call 26 (vA vI))] [],Ld,Le,Lf,Lg,Lh,Li,Lj,Lk,Ll,Lm,Ln,Lo],.ret (.cmp .Eq (.call 16 (vB (.tup (.cons vP (vA (.tup .nil)))) kD)) kD)]
noncomputable def d33:Df:=⟨"law",top 42,["_law_script"],["_law_script","_law_k","_law_tape_here","_law_web_here","_law_rows","_law_hueings","_law_row","_law_ties","_law_handed","_law_one","_law_kept","_law_found","_law_told"],b33⟩
noncomputable def prog:U Df:=[d0,d1,d2,d3,d4,d5,d6,d7,d8,d9,d10,d11,d12,d13,d14,d15,d16,d17,d18,d19,d20,d21,d22,d23,d24,d25,d26,d27,d28,d29,d30,d31,d32,d33]
def IK:prog.all (So (prog.map (·.name)))=aC:=by decide +kernel
def hW(d:Nat):∀ f,MonoN (W prog d f):=E5 d
def s0(d:Nat):DU (W prog (d+1) 0):=Pu (Δ:=W prog d) (D:=d0) J J J
def s1(d:Nat):CO (W prog (d+2) 1):=Hr (Δ:=W prog (d+1)) (D:=d1) (s0 d) J J J
def s2(d:Nat):E8 (W prog (d+2) 2):=Ml (Δ:=W prog (d+1)) (D:=d2) (s0 d) J J J
def s3(d:Nat):BS (W prog (d+3) 3):=Eg (Δ:=W prog (d+2)) (D:=d3) (s1 d) J J J
def s4(d:Nat):BT (W prog (d+3) 4):=Hs (Δ:=W prog (d+2)) (D:=d4) (s2 d) J J J
def s5(d:Nat):Ar (W prog (d+4) 5):=Mm (Δ:=W prog (d+3)) (D:=d5) (hW _) (s3 d) J J J
def s6(d:Nat):Jd (W prog (d+1) 6):=T9 (Δ:=W prog d) (D:=d6) (hW _) J J J
def s7(d:Nat):Ci (W prog (d+4) 7):=Mn (Δ:=W prog (d+3)) (D:=d7) (s4 d) J J J
def s8(d:Nat):Ck (W prog (d+1) 8):=Mq (Δ:=W prog d) (D:=d8) (hW _) J J J
def s9(d:Nat):JV (W prog (d+4) 9):=Sx (Δ:=W prog (d+3)) (D:=d9) (hW _) (s4 d) J J J
def s10(d:Nat):D7 (W prog (d+5) 10):=JX (Δ:=W prog (d+4)) (D:=d10) (hW _) (s5 d) (s9 d) J J J
def s11(d:Nat):QJ (W prog (d+6) 11):=Vr (Δ:=W prog (d+5)) (D:=d11) (hW _) (s5 (d+1)) (s7 (d+1)) (s8 (d+4)) (s10 d) J J J
def s12(d:Nat):EK (W prog (d+7) 12):=Mv (Δ:=W prog (d+6)) (D:=d12) (hW _) (s11 d) (s8 (d+5)) J J J
def s13(d:Nat):ES (W prog (d+1) 13):=My (Δ:=W prog d) (D:=d13) (hW _) J J J
def s14(d:Nat):Jg (W prog (d+2) 14):=Qc (Δ:=W prog (d+1)) (D:=d14) (hW _) (s13 d) J J J
def s15(d:Nat):DW (W prog (d+1) 15):=Qf (Δ:=W prog d) (D:=d15) (hW _) J J J
def s16(d:Nat):LF (W prog (d+8) 16):=Qi (Δ:=W prog (d+7)) (D:=d16) (hW _) (s12 d) (s6 (d+6)) (s14 (d+5)) (s5 (d+3)) (s15 (d+6)) J J J
def s17(d:Nat):Pr (W prog (d+1) 17):=Ss (Δ:=W prog d) (D:=d17) J J J
def s18(d:Nat):t6 (W prog (d+1) 18):=Sr (Δ:=W prog d) (D:=d18) J J J
def s19(d:Nat):E6 (!·) (W prog (d+2) 19):=Mj (Δ:=W prog (d+1)) (D:=d19) (hW _) (s18 d) J J J
def s20(d:Nat):WebKSp (!·) (W prog (d+3) 20):=Sv (Δ:=W prog (d+2)) (D:=d20) (hW _) (s18 (d+1)) (s19 d) J J J
def s21(d:Nat):IE (W prog (d+1) 21):=QS (Δ:=W prog d) (D:=d21) J J J
def s22(d:Nat):EI (W prog (d+1) 22):=Mt (Δ:=W prog d) (D:=d22) (hW _) J J J
def s23(d:Nat):GG (W prog (d+2) 23):=Mz (Δ:=W prog (d+1)) (v:="_law_web_here") (D:=d23) (hW _) (s22 d) J J J
def s24(d:Nat):Jj (W prog (d+2) 24):=N0 (Δ:=W prog (d+1)) (D:=d24) (hW _) (s21 d) J J J
def s25(d:Nat):Ql (W prog (d+2) 25):=TQ (Δ:=W prog (d+1)) (D:=d25) (hW _) (s18 d) (s21 d) J J J
def s26(d:Nat):Q9 (W prog (d+4) 26):=T7 (Δ:=W prog (d+3)) (D:=d26) (s18 (d+2)) (WebKSp.sp (c:=(!·)) (s20 d)) J J J
def s27(d:Nat):Co (W prog (d+2) 27):=Ms (Δ:=W prog (d+1)) (D:=d27) (hW _) (s18 d) J J J
def s28(d:Nat):GI (W prog (d+2) 28):=QG (Δ:=W prog (d+1)) (D:=d28) (hW _) (s18 d) J J J
def s29(d:Nat):U9 (!·) (W prog (d+4) 29):=Ek (Δ:=W prog (d+3)) (D:=d29) (hW _) (s18 (d+2)) (s20 d) (s27 (d+1)) (s28 (d+1)) J J J
def s30(d:Nat):Cn (W prog (d+1) 30):=Mr (Δ:=W prog d) (D:=d30) (hW _) J J J
def s31(d:Nat):II (W prog (d+2) 31):=N5 (Δ:=W prog (d+1)) (D:=d31) (hW _) (s30 d) J J J
def s32(d:Nat):LH (W prog (d+3) 32):=Qn (Δ:=W prog (d+2)) (D:=d32) (hW _) (s24 d) (s23 d) J J J
def W6{E:EndsS}{t n s u:Nat}{N Q:U Nat}{a:EE}{hs:U (U Nat)}{x:SV}{ys:U SV}{S:Sto}{y A D H I k h f:Option SV}(j:∀ e∈a,e.1<e.2/\e.2<n)(T:n<=60)(m:a.length<=60)(C:Cls S s N (t7 n a))(X:Cls S u Q hs)(Y:Hdd S x ys hs)(len:hs.length=(t7 n a).length)(R:∀(i:Nat) b c,(t7 n a)[i]?=O b->hs[i]?=O c->RowH a b c)
 (q:∀(k h f:Option SV) (S':Sto),E.nx [y,A,O (.loc t),O (g9 n a),O (.loc s),O (.loc u),D,H,O x,I,k,h,f] S'):wSs (W prog 8) [Lj,Lk,Ll,Lm,Ln,Lo] E [y,A,O (.loc t),O (g9 n a),O (.loc s),O (.loc u),D,H,O x,I,k,h,f] S:=by
 have G:=UD j m len R;obtain⟨P,lt,pn,K⟩:=IJ G;have B:=blks_of j;have bl:=GQ (n:=n) m;have p:∀(i:Nat) c,hs[i]?=O c->∃ b,(t7 n a)[i]?=O b:=λi c v=>⟨_,Ya (show i<(t7 n a).length by rw[<-len];exact(gM v).1)⟩
 have g:Gd (VS S) 2 100000 x:=W5 Y (λc v=>by
  obtain⟨i,hi⟩:=Z4 v;obtain⟨b,w⟩:=p i c hi;have r:=R i b c w hi;exact⟨r.lt,by rw[r.len];exact GP B m (Yb w)⟩) (by lia)
 obtain⟨d,hd,z⟩:=g.dat 20 (by decide);have ft:=z.fit (by decide) (by decide);refine⟨_,J,d,hd,ft,?_⟩;show wSs (W prog 8) [Lk,Ll,Lm,Ln,Lo] E [y,A,O (.loc t),O (g9 n a),O (.loc s),O (.loc u),D,H,O x,I,O (.str (Ih d)),h,f] S;refine⟨_,J,_,J,s16 0 j T m Y G λl S1 M l0 V=>?_⟩;show wSs (W prog 8) [Ll,Lm,Ln,Lo] E [y,A,O (.loc t),O (g9 n a),O (.loc s),O (.loc u),D,H,O x,I,O (.str (Ih d)),O (.loc l),f] S1;rw[pn]at V;refine⟨_,J,d,(W4 g M 20).trans hd,ft,_,J,_,J,ifF (by simp) ?_⟩;refine⟨_,J,_,J,_,J,_,J,s32 5 (rows:=t7 n a) (hs:=hs) m T (C.gw M) (X.gw M) V P lt bl len (λi b c w v=>?_) λS2 G2=>⟨_,J,ifF J (t9 ?_)⟩⟩
 ·have r:=R i b c w v;have hm:=Yb w;exact⟨r.len,B.ne b hm,GP B m hm,B.lt b hm,K i b c w v⟩
 have h2:=G2.keep _ _ V;have a0:=M.trans G2;refine⟨_,J,_,c9 h2,?_⟩;show wSs (W prog 8) [Ln,Lo] E [y,A,O (.loc t),O (g9 n a),O (.loc s),O (.loc u),D,H,O x,I,O (.str (Ih d)),O (.loc l),O (.loc S2.length)] (S2++[.lst (natS (BY n a hs))]);have h3:=f8 (o:=SO.lst (natS (BY n a hs))) h2;have a1:(S2++[SO.lst (natS (BY n a hs))])[S2.length]?=O (SO.lst (natS (BY n a hs))):=f7;have ll:=(gM h2).1;have G3:=a0.push (o:=SO.lst (natS (BY n a hs)));generalize S2.length=a2 at *;generalize S2++[SO.lst (natS (BY n a hs))]=S3 at *;have gl:=P.len;refine⟨_,J,⟨_,_,J,h3⟩,_,h3,by rw[g0];show _<100000;lia,?_⟩;have L:(S3.set l (.lst (natS (BY n a hs)++[.non])))[a2]?=O (SO.lst (natS (BY n a hs))):=by rw[v7 (by lia)];exact a1
 have G4:=G3.put (o:=SO.lst (natS (BY n a hs)++[.non])) l0;generalize S3.set l (.lst (natS (BY n a hs)++[.non]))=S4 at *;refine⟨_,J,_,J,s16 0 j T m (Y.gw G4) G λl2 S5 G5 a3 h5=>?_⟩;rw[pn]at h5;refine⟨_,J,?_⟩;refine⟨_,_,h5,G5.keep _ _ L,.inl ⟨Au _,Au _⟩,_,J,?_⟩;rw[QA];exact ifF J (t9 (q _ _ _ S5))
theorem TY{E:EndsS}{t n u p:Nat}{G w:U Nat}{m:EE}{H:U (U Nat)}{S:Sto}{L M N P o8 A d f g:Option SV}(T:TapeS S t)(a5:∀ e∈m,e.1<e.2/\e.2<n)(n6:n<=60)(e6:m.length<=60)(C:Cls S u G (t7 n m))(X:Cls S p w H)(Q:t≠u/\t∉G/\t≠p/\t∉w)(len:H.length=(t7 n m).length)(R:∀(i:Nat) a0 c,(t7 n m)[i]?=aA a0->H[i]?=aA c->RowH m a0 c)
 (q:∀(o8 A d f g:Option SV) (l:Sto),E.nx [L,M,aA (.loc t),aA (g9 n m),aA (.loc u),aA (.loc p),N,P,o8,A,d,f,g] l):wSs (W prog 8) [Lg,Lh,Li,Lj,Lk,Ll,Lm,Ln,Lo] E [L,M,aA (.loc t),aA (g9 n m),aA (.loc u),aA (.loc p),N,P,o8,A,d,f,g] S:=by
 have bl:=GQ (n:=n) e6;have on:∀{l:Sto},On t S l->Cls l u G (t7 n m)/\Cls l p w H:=λO=>⟨⟨O.keep _ _ (Ne.symm Q.1) C.top,C.len,λi k c a b=>O.keep _ _ (λz=>Q.2.1 (z▸Yb a)) (C.row i k c a b)⟩,⟨O.keep _ _ (Ne.symm Q.2.2.1) X.top,X.len,λi k c a b=>O.keep _ _ (λz=>Q.2.2.2 (z▸Yb a)) (X.row i k c a b)⟩⟩
 have hl:=(gM X.top).1;have tl:=T.lt;refine⟨by show 0<=100000;decide,?_⟩;show wSs (W prog 8) [Lh,Li,Lj,Lk,Ll,Lm,Ln,Lo] E [L,M,aA (.loc t),aA (g9 n m),aA (.loc u),aA (.loc p),N,P,aA (.loc S.length),A,d,f,g] (S++[.lst []]);refine⟨_,J,_,c9 (f8 X.top),?_⟩;refine y9 (i9 (hW _) _) (λi ρ l=>∃(A:Option SV) (B:U SV),ρ=[L,M,aA (.loc t),aA (g9 n m),aA (.loc u),aA (.loc p),N,P,aA (.loc S.length),A,d,f,g]/\TapeS l t/\On t S l/\l[S.length]?=aA (.lst B)/\B.length=i/\∀(j:Nat) y c,B[j]?=aA y->H[j]?=aA c->y = .tup (natS c)\/∃ k,y = .loc k/\S.length<k/\l[k]?=aA (.lst (natS c))) ⟨_,[],J,T.push,(On.refl t S).push,f7,J,λj y c h=>by simp at h⟩ (λ_ _ l z=>?_) ?_ ?_
 ·obtain⟨_,_,_,_,O,_⟩:=z;show l[p]?=(S++[SO.lst []])[p]?;rw[f8 X.top];exact O.keep _ _ (Ne.symm Q.2.2.1) X.top
 ·rintro i y ρ S2 E' hE _ I ⟨A,B,rfl,T2,O2,h8,yl,hY⟩;rw[Yj]at I;cases hk:w[i]? with
  | none=>rw[hk]at I;cases I
  | some k=>
    rw[hk]at I;cases I;have il:=(gM hk).1;have xl:=X.len;have hc:=Ya (show i<H.length by lia);generalize H[i]'(by lia)=c at *;have a1:=(on O2).2.row i k c hk hc;have kt:k≠t:=λz=>Q.2.2.2 (z▸Yb hk);have l8:=(gM h8).1
    have a2:∀(v:SV) (s:Sto),TapeS s t->On t S2 s->(v = .tup (natS c)\/∃ k,v = .loc k/\S.length<k/\s[k]?=aA (.lst (natS c)))->sMt .append (.loc S.length) [v] s λ_ S5=>E'.nx [L,M,aA (.loc t),aA (g9 n m),aA (.loc u),aA (.loc p),N,P,aA (.loc S.length),aA (.loc k),d,f,g] S5:=by
     intro v s T4 V o;have a3:=V.keep _ _ (by lia) h8;refine⟨_,a3,by show _<100000;lia,hE _ _ ⟨_,B++[v],J,T4.other (by lia),(O2.trans V).new (Ym _),m8 a3,by rw[Yd,yl];rfl,λj y c' hj K=>?_⟩⟩;rcases BL hj with⟨e,rfl⟩ | hj
     ·rw[e,yl,hc]at K;cases K;rcases o with o | ⟨k',o,lk,h⟩
      ·exact .inl o
      ·exact .inr ⟨k',o,lk,by rw[v7 (by lia)];exact h⟩
     ·rcases hY j y c' hj K with o | ⟨k',o,lk,h⟩
      ·exact .inl o
      ·exact .inr ⟨k',o,lk,by rw[v7 (by lia)];exact V.keep _ _ (by lia) h⟩
    refine⟨_,J,⟨_,_,J,h8⟩,_,J,s18 7 T2 (by decide) (by decide) λr S3 r0 r1 T3 D _=>⟨_,J,?_⟩⟩;have h3:=D.keep _ _ kt a1;have a6:=D.len;refine ifD (λ_=>⟨_,J,_,c9 h3,a2 _ S3 T3 D (.inl J)⟩) (λ_=>⟨_,J,_,c9 h3,a2 _ _ T3.push D.push (.inr ⟨_,J,by lia,f7⟩)⟩)
 ·rintro ρ S2 ⟨A,B,rfl,T2,O2,h8,yl,hY⟩;rw[YY]at yl;have xl:=X.len
  have go:∀(x:SV) (s:Sto),On t S2 s->(x = .tup B\/∃ k,x = .loc k/\s[k]?=aA (.lst B))->wSs (W prog 8) [Lj,Lk,Ll,Lm,Ln,Lo] E [L,M,aA (.loc t),aA (g9 n m),aA (.loc u),aA (.loc p),N,P,aA x,A,d,f,g] s:=by
   intro x s V hx;obtain⟨C4,X4⟩:=on (O2.trans V);refine W6 a5 n6 e6 C4 X4 ⟨hx,by lia,λi y c I hc=>?_⟩ len R λd f g l=>q _ _ _ _ _ l;rcases hY i y c I hc with o | ⟨k',o,lk,h⟩
   ·exact .inl o
   ·exact .inr ⟨k',o,V.keep _ _ (by lia) h⟩
  refine⟨_,J,s18 7 T2 (by decide) (by decide) λr S3 r0 r1 T3 D _=>⟨_,J,?_⟩⟩;have a4:=D.keep _ _ (by lia) h8;refine ifD (λ_=>⟨_,J,_,c9 a4,go _ S3 D (.inl J)⟩) (λ_=>t9 (go _ S3 D (.inr ⟨_,J,a4⟩)))
theorem Qp{E:EndsS}{t n:Nat}{es:EE}{S:Sto}{X o1 o4 o5 w x G H p r s:Option SV}(T:TapeS S t)(I:∀ e∈es,e.1<e.2/\e.2<n)(n6:n<=60)(e6:es.length<=60)
 (q:∀(o4 o5 w x G H p r s:Option SV) (g:Sto),E.nx [X,o1,aA (.loc t),aA (g9 n es),o4,o5,w,x,G,H,p,r,s] g):wSs (W prog 8) [Ld,Le,Lf,Lg,Lh,Li,Lj,Lk,Ll,Lm,Ln,Lo] E [X,o1,aA (.loc t),aA (g9 n es),o4,o5,w,x,G,H,p,r,s] S:=by
 have bl:=GQ (n:=n) e6;have B:=blks_of I;have tl:=T.lt;refine⟨_,J,s31 6 ⟨I,by lia,by lia⟩ λK L S1 G1 C d0 d1=>?_⟩;have T1:=G1.tape T;have a4:=T1.lt;show wSs (W prog 8) [Le,Lf,Lg,Lh,Li,Lj,Lk,Ll,Lm,Ln,Lo] E [X,o1,aA (.loc t),aA (g9 n es),aA (.loc K),o5,w,x,G,H,p,r,s] S1;refine⟨by show 0<=100000;decide,?_⟩;show wSs (W prog 8) [Lf,Lg,Lh,Li,Lj,Lk,Ll,Lm,Ln,Lo] E [X,o1,aA (.loc t),aA (g9 n es),aA (.loc K),aA (.loc S1.length),w,x,G,H,p,r,s] (S1++[.lst []]);have a5:=(gM C.top).1;have M:t≠K:=by lia
 have a0:t∉L:=λz=>by have:=d1 t z;lia
 have on:∀{g:Sto},On t S1 g->Cls g K L (t7 n es):=λO=>⟨O.keep _ _ (Ne.symm M) C.top,C.len,λi k c a b=>O.keep _ _ (λz=>a0 (z▸Yb a)) (C.row i k c a b)⟩
 refine⟨_,J,_,c9 (f8 C.top),?_⟩;refine y9 (i9 (hW _) _) (λi ρ g=>∃(w x:Option SV) (m:U Nat) (A:U (U Nat)),ρ=[X,o1,aA (.loc t),aA (g9 n es),aA (.loc K),aA (.loc S1.length),w,x,G,H,p,r,s]/\TapeS g t/\On t S1 g/\Cls g S1.length m A/\A.length=i/\(∀ k∈m,S1.length<k)/\∀(j:Nat) d c,(t7 n es)[j]?=aA d->A[j]?=aA c->RowH es d c) ⟨_,_,[],[],J,T1.push,(On.refl t S1).push,⟨f7,J,λj k c h=>by simp at h⟩,J,(λ_ h=>nomatch h),λj d c _ h=>by simp at h⟩ (λ_ _ g z=>?_) ?_ ?_
 ·obtain⟨_,_,_,_,_,_,O,_⟩:=z;show g[K]?=(S1++[SO.lst []])[K]?;rw[f8 C.top];exact O.keep _ _ (Ne.symm M) C.top
 ·rintro i y ρ S2 E' hE _ N ⟨w,x,m,A,rfl,T2,O2,X2,hl,v,R⟩;rw[Yj]at N;cases hk:L[i]? with
  | none=>rw[hk]at N;cases N
  | some k=>
    rw[hk]at N;cases N;have il:=(gM hk).1;have cl:=C.len;have hr:=Ya (show i<(t7 n es).length by lia);generalize (t7 n es)[i]'(by lia)=d at *;have rm:=Yb hr;have a1:=(on O2).row i k d hk hr;have r6:=GP B e6 rm;refine⟨_,J,_,c9 a1,?_⟩;refine i4 (g8 (hW _) _).2 (c8 (hW _) _).1 (λj ys g=>g=S2/\ys=(amg es (d.take j)).map pairS) ⟨J,J⟩ (λ_ _ g z=>by rw[z.1];exact J) ?_ ?_
    ·rintro j y ys g N ⟨rfl,rfl⟩;obtain⟨u,Q,rfl⟩:=v8 N;have ul:=B.lt d rm u (Yb Q);have jl:=(gM Q).1;have ge:(es.map pairS)[u]?=aA (pairS (Ax es u)):=by rw[Yj,B2 ul];rfl
     refine⟨_,J,_,_,J,J,_,J,_,_,J,j3 ge,?_,J,?_⟩
     ·unfold amg;rw[YY,YY,ZG];show _<100000;lia
     ·unfold amg;rw[ZA,Q,Yo,Yo];rfl
    ·rintro ys g ⟨rfl,rfl⟩;rw[g0,Z1];refine⟨_,c9 f7,?_⟩;have T3:=T2.push (o:=SO.lst ((amg es d).map pairS));have O3:=O2.push (o:=SO.lst ((amg es d).map pairS));have X3:Cls (g++[SO.lst ((amg es d).map pairS)]) S1.length m A:=⟨f8 X2.top,X2.len,λi k c a b=>f8 (X2.row i k c a b)⟩
     generalize g++[SO.lst ((amg es d).map pairS)]=S3 at *;have a6:=(gM X3.top).1;have al:(amg es d).length=d.length:=by unfold amg;rw[YY]
     refine⟨_,J,⟨_,_,J,X3.top⟩,_,J,_,J,_,_,J,J,_,J,by show 2<=100000;decide,?_⟩;refine s25 6 (es:=amg es d) T3 (by lia) λl c S4 T4 O4 l0 h4 P lt=>?_;have V:Cls S4 S1.length m A:=⟨O4.keep _ _ (by lia) X3.top,X3.len,λi k c a b=>O4.keep _ _ (by have:=v k (Yb a);lia) (X3.row i k c a b)⟩
     refine⟨_,V.top,by rw[YY,V.len];show _<100000;lia,?_⟩
     have X5:Cls (S4.set S1.length (.lst (m.map SV.loc++[.loc l]))) S1.length (m++[l]) (A++[c]):=by
      refine⟨by rw[m8 V.top,Yo];rfl,by rw[Yd,Yd,V.len];rfl,λj k c' D f=>?_⟩;rcases BL D with⟨e,rfl⟩ | D
      ·rcases BL f with⟨_,rfl⟩ | f
       ·rw[v7 (by lia)];exact h4
       ·have:=(gM f).1;have:=V.len
        lia
      ·rcases BL f with⟨e,rfl⟩ | f
       ·have:=(gM D).1;have:=V.len
        lia
       ·rw[v7 (by have:=v k (Yb D);lia)];exact V.row j k c' D f
     refine t9 (Δ:=W prog 8) (hE _ _ ⟨_,_,m++[l],A++[c],J,T4.other (by lia),(O3.trans O4).new (Ym _),X5,by rw[Yd,hl];rfl,λk' a3=>?_,λj a2 c' D f=>?_⟩)
     ·rcases Yz.mp a3 with h | h
      ·exact v k' h
      ·rw[Yt.mp h];lia
     ·rcases BL f with⟨e,rfl⟩ | f
      ·rw[e,hl,hr]at D;cases D;exact⟨by rw[P.len,al],P,lt⟩
      ·exact R j a2 c' D f
 ·rintro ρ S2 ⟨w,x,m,A,rfl,T2,O2,X2,hl,v,R⟩;rw[YY]at hl;exact TY T2 I n6 e6 (on O2) X2 ⟨M,a0,by lia,λz=>by have:=v t z;lia⟩ (by rw[hl];exact C.len) R λG H p r s g=>q _ _ _ _ _ _ _ _ _ g
def law_main(j:U Int)(h:j.length<=63):W prog 9 33 [.ro (j.map SV.int)] [] λx _=>x = .bl aC:=by
 show j7 (W prog 8) d33 _ _ _
 have P:∃ m:Nat,(if (if (3:Int)<((j.map SV.int).length:Int) then 3 else ((j.map SV.int).length:Int))>2 then (if (3:Int)<((j.map SV.int).length:Int) then 3 else ((j.map SV.int).length:Int)) else 2)=(m:Int)/\m<=3:=by
  rw[YY];generalize j.length=k;refine⟨max 2 (min k 3),?_,by lia⟩;split<;>split<;>lia
 obtain⟨m,Q,R⟩:=P;refine⟨J,_,J,_,J,m,congrArg SV.int Q,⟨by lia,by lia⟩,?_⟩;refine y9 (i9 (hW _) _) (λi w K=>∃ z A B o p q s u v d f g,w=[O (.ro (j.map SV.int)),z,A,B,o,p,q,s,u,v,d,f,g]) ⟨_,_,_,_,_,_,_,_,_,_,_,_,J⟩ (λ_ _ _ _=>trivial) ?_ ?_
 ·rintro i x w S E L _ T ⟨z,A,B,o,p,q,s,u,v,d,f,g,rfl⟩;obtain⟨rfl,V⟩:=k0 T;rw[Zd]at V ⊢;refine⟨_,J,_,J,s17 7 h (by lia) λa b X hb C=>?_⟩;have T1:TapeS (S++[SO.lst [.int a,.int b]]) S.length:=⟨a,b,f7,X,hb,C⟩
  generalize S.length=t at *;generalize S++[SO.lst [.int a,.int b]]=S1 at *;refine⟨_,J,s29 4 T1 λn es S2 H M T2 O2=>?_⟩;have M:=M J;refine⟨_,J,s18 7 T2 (by decide) (by decide) λr S3 r0 r1 N O3 _=>⟨_,J,?_⟩⟩;refine ifD (λ_=>?_) (λ_=>t9 ?_)
  ·refine⟨_,J,s26 4 N λn' a0 S4 D T4 O4=>?_⟩;have I:=D.len;have h2:=D.few;dsimp only[A22];exact Qp T4 D.en (by lia) (by lia) λo p q s u v d f g K=>L _ _ ⟨_,_,_,_,_,_,_,_,_,_,_,_,J⟩
  ·dsimp only[A22];exact Qp N H.en (by lia) (by lia) λo p q s u v d f g K=>L _ _ ⟨_,_,_,_,_,_,_,_,_,_,_,_,J⟩
 ·rintro w S ⟨z,A,B,o,p,q,s,u,v,d,f,g,rfl⟩;refine⟨by show 0<=100000;decide,by show 2<=100000;decide,by show 0<=100000;decide,?_⟩;have G:=UD (n:=3) (es:=[]) (hs:=[]) (λ_ h=>nomatch h) (ZY _) J (λi a1 c _ h=>by simp at h);refine s16 0 (n:=3) (es:=[]) (x := .loc S.length) (ys:=[]) (hs:=[]) (λ_ h=>nomatch h) (by decide) (ZY _) ⟨.inr ⟨_,J,f7⟩,J,λi y c h=>by simp at h⟩ G λl S1 G1 _ I=>?_;have e:BY 3 [] []=[]:=ZT.mp (IJ G).1.len;rw[e]at I;refine⟨by show 0<=100000;decide,?_⟩;exact⟨_,_,f8 I,f7,.inr (.inl J),J⟩
end Hue
structure PySem.W.Fast:Prop where(tw1277823867013576824 tw6972025030337780654 tw4436952997162757725 tw3641211959937295307 tw3028055288179098869 tw8672255830975269593 tw272723464212318956 tw17190965707350559494 tw5568686360739224314 tw12409946406173621293 tw8923559730642974834 tw17828341054911350711 tw10191333607086376996 tw5805652977810471868 tw12207577589301298113 tw7940441789132943914 tw86688987617473718 tw8227228782199871023 tw16283072519901872664 tw8741256996979913398 tw18420140141880871878 tw1434069238768550604 tw18238062798951449133 tw15570509504443076530 tw495938632662263130 tw10272112586748631818 tw18297243379991633279 tw9373653315188953057 tw12137028833883605226 tw10764376073688860445 tw2042889920611594555 tw4800213684377880744 tw146072005539346851 tw8431016711266533252 tw8352190660451116858 tw13680858778885118104 tw14411843131975991020 tw17205215141385453632 tw17702801132059087314 tw5918060020684475903 tw17649065678932227982 tw9320974551448715799 tw4953049441499898559 tw10783496335507777903 tw13775756905122733995 tw13014863879514075939 tw3365726157129942177 tw8064598141709587361 tw7540211302251214759 tw13395797709814507899 tw10679743495371836537 tw10261448836383262286 tw4688655527829289259 tw16897415667084670997 tw15178582811793560128 tw16766296354461193928 tw4453059134099700341 tw15269205657025089200 tw4567128081267548238 tw9900550056659670176 tw1761904715966642361 tw14383181464925285377 tw9627468953637346577 tw17906329563696175611 tw17656213994914646344 tw8205220002244677623 tw17080034597414963271 tw14872907271657597648 tw6021994201613758972 tw3001701575446819836 tw3282343525050557637 tw17751578591624875848 tw9701839796433271109 tw16542869774995144365 tw12447010018598492995 tw10738417090557370330 tw4028851631460343324 tw11306467442649136551 tw37691990359259329 tw11018885757986908421 tw817134532927005563 tw6501682910928314306 tw11436830636920201379 tw14744864309258885548 tw15837011507209378548 tw5049619034033923483 tw1284079265022892221 tw9699742294061298363 tw12569808706992650352 tw8234133676610368914 tw2238304475653739408 tw1701506145904390673 tw6833402254702030564 tw11296021639282608702 tw1057018559503691596 tw3051351857827363621 tw11862016772846425035 tw3526247248584100193 tw6353926347708147108 tw13780923895096166057 tw11763229584092995707 tw16232950794100689736 tw16915445729779225930 tw2080442378436728010 tw5872080291941081951 tw8411245437981520654 tw10769243637554859264 tw16394183431090949568:True)
namespace Hue
open PySem L2 Rf
noncomputable def v9(K:YZ)(nm:Str)(i:Nat):Prop:=∃(f:Y) (b c:Option Y) (d:Array (Option F)) (e kV g h a j:F),PySem.W.nsIn K A2t nm=O (O (.ref f))/\K.lookup f=O ⟨e,b,.func (PySem.W.fnOf nm nm (defArgs (top i)) (defBody (top i)) (defScope (top i)) .none kV g h c a j),d⟩/\PySem.W.codeIn K a nm=aC/\PySem.W.keepIn K (.ref f)=aC
def lnkK_mk{K:YZ}{nm:Str}{i:Nat}{f:Y}{d e:Option Y}{g:Array (Option F)}{h kV j m b n:F}(a:PySem.W.nsIn K A2t nm=O (O (.ref f)))(l:K.lookup f=O ⟨h,d,.func (PySem.W.fnOf nm nm (defArgs (top i)) (defBody (top i)) (defScope (top i)) .none kV j m e b n),g⟩)(c:PySem.W.codeIn K b nm=aC)(k:PySem.W.keepIn K (.ref f)=aC):v9 K nm i:=⟨f,d,e,g,h,kV,j,m,b,n,a,l,c,k⟩
def j9{K:YZ}{h:A2y}{j:Str->Option F}(X:K.In h)(G:h.Ns A2t j)(D:Df){i:Nat}(x:v9 K D.name i)(e:D.st=top i)(b:∀{kV d m:F} {n:Option Y} {f o:F} (g:U F),g.length=D.ps.length->bindArgs (PySem.W.fnOf D.name D.name (defArgs (top i)) (defBody (top i)) (defScope (top i)) .none kV d m n f o) ⟨g,[]⟩=pure (D.ps.zip g)):PIn K j D:=by obtain⟨_,_,_,_,_,_,_,_,_,_,a,l,c,k⟩:=x;exact⟨_,_,e▸IY (st:=top i) l c k,Kg a l,PySem.W.mg_of X G a,k,(IY (st:=top i) l c k).binds (ps:=D.ps) λ_ _ _ _ _ _=>b⟩
def n9{P:Df->Prop}{D:Df}{l:U Df}(a:P D)(b:∀ x∈l,P x):∀ x∈D::l,P x:=List.forall_mem_cons.mpr ⟨a,b⟩
theorem all_mk{l:PySem.W.OpenLaw}{w:A2u}{K:YZ}{h:A2y}{a:Str->Option F}{fa:Y}(X:K.In h)(G:h.Ns A2t a)(u:a "law"=O (.ref fa))
 (x0:v9 K "is_number" 5)
 (x1:v9 K "has_place" 7)
 (x2:v9 K "has_tie" 8)
 (x3:v9 K "check_place" 9)
 (x4:v9 K "check_tie" 10)
 (x5:v9 K "ties_at" 11)
 (x6:v9 K "most_at" 12)
 (x7:v9 K "far_end" 13)
 (x8:v9 K "parts" 14)
 (x9:v9 K "only" 15)
 (z:v9 K "without" 17)
 (A:v9 K "couples_by_rings" 18)
 (C:v9 K "blocks" 19)
 (E:v9 K "places_of" 21)
 (H:v9 K "glue_order" 22)
 (I:v9 K "names_for" 23)
 (L:v9 K "glued" 24)
 (M:v9 K "_law_tape" 26)
 (N:v9 K "_law_draw" 27)
 (Q:v9 K "_law_pairs_by" 28)
 (R:v9 K "_law_web" 29)
 (S:v9 K "_law_meet" 30)
 (T:v9 K "_law_count" 31)
 (V:v9 K "_law_most" 32)
 (a0:v9 K "_law_is_hueing" 33)
 (a1:v9 K "_law_hueing" 34)
 (a2:v9 K "_law_some_web" 35)
 (a3:v9 K "_law_joined" 36)
 (a4:v9 K "_law_rings" 37)
 (a5:v9 K "_law_joined_web" 38)
 (a6:v9 K "_law_beside_out" 39)
 (a7:v9 K "_law_blocks" 40)
 (a8:v9 K "_law_glue_right" 41)
 (c:v9 K "law" 42)
 (z0:PySem.W.nsIn K A2t "len"=O aB)
 (z1:PySem.W.nsIn K A2t "abs"=O aB)
 (z2:PySem.W.nsIn K A2t "min"=O aB)
 (z3:PySem.W.nsIn K A2t "max"=O aB)
 (z4:PySem.W.nsIn K A2t "int"=O aB)
 (z5:PySem.W.nsIn K A2t "list"=O aB)
 (z6:PySem.W.nsIn K A2t "tuple"=O aB)
 (z7:PySem.W.nsIn K A2t "all"=O aB)
 (z8:PySem.W.nsIn K A2t "any"=O aB)
 (z9:PySem.W.nsIn K A2t "sorted"=O aB)
 (a9:PySem.W.nsIn K A2t "isinstance"=O aB)
 (d:PySem.W.nsIn K A2t "str"=O aB)
 (b0:PySem.W.nsIn K A2t "range"=O aB)
 (b1:PySem.W.nsIn K A2t "enumerate"=O aB)
 (b2:PySem.W.nsIn K A2t "zip"=O aB)
 (b3:PySem.W.nsIn K A2t "set"=O aB)
 (b4:PySem.W.nsIn K A2t "bool"=O aB)
 (b5:PySem.W.nsIn K A2t "dict"=O aB)
 (b6:PySem.W.nsIn K A2t "reversed"=O aB)
 (b7:PySem.W.nsIn K A2t "repr"=O aB)
 (b8:PySem.W.nsIn K A2t "sum"=O aB)
 : ∃ fd:A35,(∀(s:A2m) (v:F),BindsTo s fd ⟨[v],[]⟩ [("_law_script",v)])/\∀ base:A2y,K.In base->base.Ns A2t a->FnOk l.prog w K a base CX0 18 fa fd ["_law_script"] (spS K (W prog 9 33)):=by
 have y:=c;obtain⟨c5,c2,f,c3,c4,i,j,m,n,o,p,q,b9,c0⟩:=c;have e:=u.symm.trans (PySem.W.mg_of X G p);cases e
 have B:Bl K a:=by
  refine⟨⟨λ_ _=>PySem.W.mg_of X G,λ_=>Yy X G⟩,λb=>?_,Yy X G b0,Yy X G b1,Yy X G b6,Yy X G b2,Yy X G b8,Yy X G b3,Yy X G b5,λt ht=>?_⟩
  ·cases b with
   | len=>exact Yy X G z0
   | abs=>exact Yy X G z1
   | min=>exact Yy X G z2
   | max=>exact Yy X G z3
   | int=>exact Yy X G z4
   | list=>exact Yy X G z5
   | tuple=>exact Yy X G z6
   | all=>exact Yy X G z7
   | any=>exact Yy X G z8
   | sorted=>exact Yy X G z9
   | isi=>exact Yy X G a9
   | str=>exact Yy X G d
   | repr=>exact Yy X G b7
  ·cases t with
   | int=>exact Yy X G z4
   | bool=>exact Yy X G b4
   | str=>exact Yy X G d
   | list=>exact Yy X G z5
   | tuple=>exact Yy X G z6
   | none=>exact absurd J ht
 have c1:∀ D∈prog,PIn K a D:=n9 (j9 X G d0 x0 J (E4 λ_=>rfl)) (n9 (j9 X G d1 x1 J (BQ λ_ _=>rfl)) (n9 (j9 X G d2 x2 J (BQ λ_ _=>rfl)) (n9 (j9 X G d3 x3 J (BQ λ_ _=>rfl)) (n9 (j9 X G d4 x4 J (BQ λ_ _=>rfl)) (n9 (j9 X G d5 x5 J (BQ λ_ _=>rfl)) (n9 (j9 X G d6 x6 J (E4 λ_=>rfl)) (n9 (j9 X G d7 x7 J (Pk λ_ _ _=>rfl)) (n9 (j9 X G d8 x8 J (E4 λ_=>rfl)) (n9 (j9 X G d9 x9 J (BQ λ_ _=>rfl)) (n9 (j9 X G d10 z J (BQ λ_ _=>rfl)) (n9 (j9 X G d11 A J (BQ λ_ _=>rfl)) (n9 (j9 X G d12 C J (E4 λ_=>rfl)) (n9 (j9 X G d13 E J (BQ λ_ _=>rfl)) (n9 (j9 X G d14 H J (BQ λ_ _=>rfl)) (n9 (j9 X G d15 I J (Xj λ_ _ _ _=>rfl)) (n9 (j9 X G d16 L J (BQ λ_ _=>rfl)) (n9 (j9 X G d17 M J (BQ λ_ _=>rfl)) (n9 (j9 X G d18 N J (BQ λ_ _=>rfl)) (n9 (j9 X G d19 Q J (BQ λ_ _=>rfl)) (n9 (j9 X G d20 R J (BQ λ_ _=>rfl)) (n9 (j9 X G d21 S J (Pk λ_ _ _=>rfl)) (n9 (j9 X G d22 T J (BQ λ_ _=>rfl)) (n9 (j9 X G d23 V J (E4 λ_=>rfl)) (n9 (j9 X G d24 a0 J (BQ λ_ _=>rfl)) (n9 (j9 X G d25 a1 J (Pk λ_ _ _=>rfl)) (n9 (j9 X G d26 a2 J (E4 λ_=>rfl)) (n9 (j9 X G d27 a3 J (Pk λ_ _ _=>rfl)) (n9 (j9 X G d28 a4 J (E4 λ_=>rfl)) (n9 (j9 X G d29 a5 J (E4 λ_=>rfl)) (n9 (j9 X G d30 a6 J (BQ λ_ _=>rfl)) (n9 (j9 X G d31 a7 J (E4 λ_=>rfl)) (n9 (j9 X G d32 a8 J (Xj λ_ _ _ _=>rfl)) (n9 (j9 X G d33 y J (E4 λ_=>rfl)) (λ_ h=>nomatch h))))))))))))))))))))))))))))))))));refine⟨PySem.W.fnOf "law" "law" (defArgs (top 42)) (defBody (top 42)) (defScope (top 42)) .none i j m f n o,λs v => .of_eq J,λbase _ _=>?_⟩
 exact Po (P:=l.prog) (w:=w) (base:=base) (k:=16) (Δ:=W prog 8) (D:=d33) (IY (st:=top 42) q b9 c0) (Kg p q) (ZJ.mp IK d33 (Yb (show prog[33]?=O d33 from J))) B (λg x r=>by
  rw[Yj]at r;cases hg:prog[g]? with
  | none=>rw[hg]at r;cases r
  | some D'=>
    rw[hg]at r;have:D'.name=x:=by simpa using r
    subst this;exact⟨D'.ps,Kh IK B c1 8 g D' hg⟩) (E5 8)
def walkL{l:PySem.W.OpenLaw}{q:A2r}{c:U Str}{o:(Str->Option A2k)->A2y->Prop}{i:A2u->A2y->Prop}{d:DefRec}{K:Params->YZ}(p:l.most=O 63)(g:d.params.defaults=[])
 (r:∀(w:A2u) (h:A2y),i w h->(K w.params).In h)
 (F:∀(w:A2u) (e:Str->Option A2k) (j:Y) (h:A2y),(K w.params).In h->h.Ns A2t e->e d.name=O (.ref j)->
   ∃ m:A35,(∀(s:A2m) (u:A2k),BindsTo s m ⟨[u],[]⟩ [("_law_script",u)])/\∀ b:A2y,(K w.params).In b->b.Ns A2t e->FnOk l.prog w (K w.params) e b CX0 18 j m ["_law_script"] (spS (K w.params) (W prog 9 33))):
 PySem.W.WalkO q c o i l.row.toRowW d [] (λf t=>PySem.call f t):=
 L2.walk_of (n:=63) (k:=18) (x:="_law_script") (CX:=λ_=>CX0) (sp:=λw=>spS (K w.params) (W prog 9 33)) p (by decide) g ⟨J,by decide,by decide,J⟩ r F (λ_ _ a v y A B=>Vo (law_main v y) A B) λ_ _ _ _ _ z=>z
end Hue
open PySem PySem.W PyProof.Rows
set_option maxRecDepth 100000 in
set_option maxHeartbeats 0 in
theorem PySem.Challenge.cw_huedties_k70_glued_holds : PySem.Challenge.rw_huedties_k70_glued.Holds := by
 w_on;o_law;k_head;(case hw=>w_witness2)
 k_fill
 refine Hue.walkL (l:=PySem.Challenge.rw_huedties_k70_glued) rfl rfl (λw h Y=>PySem.W.kIn_of Y) ?F
 case F=>
  intro w mg fa h KX G hmg;refine' Hue.all_mk KX G hmg ?_ ?_ ?_ ?_ ?_ ?_ ?_ ?_ ?_ ?_ ?_ ?_ ?_ ?_ ?_ ?_ ?_ ?_ ?_ ?_ ?_ ?_ ?_ ?_ ?_ ?_ ?_ ?_ ?_ ?_ ?_ ?_ ?_ ?_ ?_ ?_ ?_ ?_ ?_ ?_ ?_ ?_ ?_ ?_ ?_ ?_ ?_ ?_ ?_ ?_ ?_ ?_ ?_ ?_ ?_
  all_goals first | exact Hue.lnkK_mk (by k_is) (by k_is) (by k_is) (by k_is) | k_is
